import PyProof.Rows.All
import Wide.All
import OpenK.AllK
import Wide.FinOn
import Lean
import PyProof.EqAt
import PyProof.EqKinds
import PyProof.TupleCall
import PyProof.FactsAll.tuple_2
import PyProof.ListMulRoad
import PyProof.ExcArgsOwn
import PyProof.ZipIter
import PyProof.EnumFor
import PyProof.Rows.StrJoin2
import PyProof.FString
import PyProof.StrBlockH
import PyProof.StrWalks
import PyProof.EnumMake
import KE.KIntText
import PyProof.CallStr
import PyProof.ExcInit
import PyProof.ExcClass3
import PyProof.ExcBaseAll.ValueError
import PyProof.NsDelKeeps
import KE.KTryMore
import PyProof.Rows.CountFlat
import PyProof.Rows.KernelRfl
import PyProof.ListRange
import PyProof.InstStoreFacts
import PyProof.Rows.InDataRows
import PyProof.DictTable
import PyProof.DictRoads
import PyProof.DictStraight
import PyProof.Rows.TupTab
import PyProof.Rows.TupDisplay
import PyProof.DictTruth
import PyProof.DictCompW
import KE.KRevIter
import PyProof.CollectIter
import PyProof.DictItems
import PyProof.DictWalks
import PyProof.Rows.SetFrom
import PyProof.SetRoads
import PySem.Challenge.RW_summitwater_k25_limits_left_out
set_option maxHeartbeats 4000000
set_option Elab.async false
set_option linter.all false
set_option maxRecDepth 100000
open Lean in
def zt(t:String):MacroM (TSyntax `tactic):=do
 let I:=fun (s:String)=>mkIdent s.toName
 match t with
 |"!d"=>`(tactic|decide +kernel)
 |"!r"=>`(tactic|rfl)
 |"!s"=>`(tactic|assumption)
 |"!k"=>let k:=I "kdC";`(tactic|exact $k)
 |"!i"=>`(tactic|intro _)
 |_=>if t.front=='!' then let n:=Syntax.mkNumLit (t.drop 1).toString;`(tactic|rotate_left $n) else
  let a:=((t.splitOn "+").map I).toArray
  `(tactic|first $[|apply $a:ident]*)
open Lean in
def zs(a:String):MacroM (TSyntax `tactic):=do
 let a:=(← (a.splitOn ";").mapM zt).toArray
 `(tactic|($[$a:tactic];*))
open Lean in
def zg(g:String):MacroM (TSyntax `tactic):=do
 let p:=g.splitOn "|"
 let a:=(← (p.drop 1).mapM zs).toArray
 let h:=p.headD ""
 if h=="" then `(tactic|first $[|$a:tactic]*) else
 let k:=mkIdent (h.dropEnd 1).toString.toName
 if h.back==':' then `(tactic|(show $k _ _=_;first $[|$a:tactic]*)) else
 let u:=(← (List.range (h.takeEnd 1).toString.toNat!).mapM fun _=>`(_)).toArray
 `(tactic|(show $k $u*;first $[|$a:tactic]*))
local macro_rules|`(tactic|sleep 0)=>do
 let a:=(← ("GE4|DL.Ga7;!d;!r|DL.gw;Sc;!r|DL.ge_int|DL.Gs|DL.Gw|DL.Hi|DL.Hy|DL.Ji|DL.Gy2;!s;hr|DL.Ha4;Sc;!s;hr|DL.Gy5;Sc;T.xt.xns;L;!s;hr|DL.Qm;!1;T.b_len|DL.Gic|DL.Yi|DL.Gal|DL.Gvw|DL.Xv|DL.Ge3|DL.Gvt|DL.Gqg|DL.Gvu|DL.Gid|DL.Ggq;!1;T.b_tuple|DL.Gqi;!1;T.b_list|DL.Ge4;!1;T.b_int|DL.Zj;hr;!1;T.b_repr|DL.ge_dlen;!1;T.b_len|DL.gcmN;W1;Sc;!4;!k|DL.gcmN;W2;Sc;!4;!k|DL.gcmN;W3;Sc;!4;!k|DL.Gb9;hr.units|DL.Gyu;hr.units|DL.Xw|DL.ge_popL|DL.ge_dnew|DL.Gyr|DL.Gys|DL.ge_gt|DL.Gyt|DL.Gni|DL.ge_or|DL.Gnj|DL.Gvv|DL.Gqh|DL.ge_isn|DL.Gy4;hr|DL.ge_dget;hr|DL.Ge5;!1;T.b_sum|DL.ge_all;!1;T.b_all|DL.ge_inP;hr|DL.ge_ninP;hr|DL.ge_dci;hr|DL.ge_dcn;hr|DL.ge_all;!r;!1;T.b_all|DL.Ge5;!r;!1;T.b_sum|DL.Yv;!2;Xt+Gb3+Gpx+Gmt+Gjf;T.b_isinstance;T.b_tuple+T.b_list+T.b_int+T.b_bool+T.b_str|DL.ge_lrev;!1;T.b_list;!1;T.b_reversed|DL.Gng|DL.ge_countP;hr|DL.Gnh|T.c_MOST_BARGES|T.c_DOWN|T.c_END|T.c_CHAMBER|T.c_UP#GA4|DL.Gf|DL.Ga#starEach:|DL.Ge|DL.Gc|DL.Hj|DL.Gh|DL.Jf|DL.Vh|DL.Gp2|DL.Yu|DL.Gia|DL.Gk5|DL.Gmv|DL.Ga3|DL.Ge0#GT4|DL.Gd5;hr.units|DL.Zk;hr.units|DL.Qx|DL.Gyv|DL.gt_le|DL.Gnk|DL.Gyw|DL.Gv0|DL.Gv4;hr|DL.gt_dci;hr|DL.gt_inP;hr|DL.gt_ninP;hr|DL.Gca;Gi6;Gmq;Ggd;Gmp|GW.jt;DL.Gie+DL.Wt|DL.Kv#GSs4|DL.Gn|DL.Gg|DL.Hq#GS4|DL.Gv6;W1;Sc;!8;!r;!7;!k|DL.Gv6;W2;Sc;!8;!r;!7;!k|DL.Gv6;W3;Sc;!8;!r;!7;!k|DL.gsew;Sc|DL.Hm|DL.Ka|DL.Gam|DL.Xy|DL.Gnm|DL.Gqs;hr|DL.gsiw;Sc|DL.Ha5;Sc;L;!s;hr|DL.Gcc;PassesOwn.never+L.pas|DL.Ggr;PassesOwn.never+L.pas|DL.Ga6|DL.gs_break|DL.gs_pass#GG3|DL.Gcd;!d;!d;!r|DL.ggw;Sc|DL.Wu;!r#GGs3|DL.Uf|DL.Hf#GW4|DL.Gie|DL.Wt|DL.Gjm|DL.Ws#GO4|DL.Ge6|DL.Xx#GI5|DL.Vj;!1;T.b_range|DL.gi_range2;!1;T.b_range|DL.Gb8;!1;T.b_enumerate|DL.gi_enumerate;!1;T.b_enumerate|DL.Gcb#GTs4|DL.Vq|DL.gts_one#Gl2|DL.Gy1;!d|DL.gGS;Sc#|!r#|!d#|!k#|!i".splitOn "#").mapM zg).toArray
 `(tactic|repeat' first $[|$a:tactic]*)
set_option compiler.extract_closed false
set_option bootstrap.genMatcherCode false
noncomputable abbrev Aa:=@Nat.le_refl
noncomputable abbrev Ab:=@List.getElem?_eq_some_iff
noncomputable abbrev Ac:=@Option.some.inj
noncomputable abbrev Ad:=@List.mem_cons
noncomputable abbrev Ae:=@PySem.Heap.lt_size
noncomputable abbrev Af:=@Nat.lt_of_lt_of_le
noncomputable abbrev Ag:=@List.getElem?_eq_getElem
noncomputable abbrev Ah:=@PySem.Heap.get?_push_of_some
noncomputable abbrev Ai:=@List.mem_of_getElem?
noncomputable abbrev Aj:=@List.size_toArray
noncomputable abbrev Ak:=@Bool.false_eq_true
noncomputable abbrev Am:=@List.getElem?_set_ne
noncomputable abbrev An:=@List.mem_cons_of_mem
noncomputable abbrev Ao:=@Nat.le_trans
noncomputable abbrev Ap:=@Bool.false_ne_true
noncomputable abbrev Aq:=@List.mem_cons_self
noncomputable abbrev Ar:=@List.getElem?_append_left
noncomputable abbrev As:=@Bool.and_eq_true
noncomputable abbrev At:=@Nat.ne_of_lt
noncomputable abbrev Au:=@List.map_cons
noncomputable abbrev Av:=@List.getElem?_set_self
noncomputable abbrev Aw:=@List.getElem?_map
noncomputable abbrev Ax:=@List.lookup_cons
noncomputable abbrev Ay:=@List.mem_map
noncomputable abbrev Az:=@Nat.lt_irrefl
noncomputable abbrev AA:=@PySem.Heap.get?_push_size
noncomputable abbrev AB:=@List.length_append
noncomputable abbrev AC:=@Nat.zero_le
noncomputable abbrev AD:=@List.length_map
noncomputable abbrev AE:=@Nat.add_assoc
noncomputable abbrev AF:=@List.not_mem_nil
noncomputable abbrev AG:=@PySem.Heap.get?_update_other
noncomputable abbrev AH:=@List.mem_append_right
noncomputable abbrev AI:=@Int.toNat_natCast
noncomputable abbrev AJ:=@Nat.lt_succ_self
noncomputable abbrev AK:=@List.all_eq_true
noncomputable abbrev AL:=@List.length_cons
noncomputable abbrev AM:=@List.filterMap_cons
noncomputable abbrev AN:=@PySem.Heap.get?_update_self
noncomputable abbrev AO:=@Nat.mul_comm
noncomputable abbrev AQ:=@Option.bind_some
noncomputable abbrev AR:=@PySem.Heap.size_push
noncomputable abbrev AS:=@List.mem_nil_iff
noncomputable abbrev AT:=@Nat.mul_le_mul
noncomputable abbrev AU:=@List.mem_range
noncomputable abbrev AV:=@PySem.Heap.get?_none_of_le
noncomputable abbrev AW:=@List.getElem?_append_right
noncomputable abbrev AX:=@List.replicate_succ
noncomputable abbrev AY:=@List.mem_singleton
noncomputable abbrev AZ:=@Nat.lt_succ_of_lt
noncomputable abbrev A1:=@Int.emod_nonneg
noncomputable abbrev A2:=@List.getElem_mem
noncomputable abbrev A3:=@List.sum_cons
noncomputable abbrev A4:=@List.append_nil
noncomputable abbrev A6:=@Bool.not_true
noncomputable abbrev A7:=@List.mem_filter
noncomputable abbrev A8:=@List.nodup_cons
noncomputable abbrev A9:=@List.flatten_cons
noncomputable abbrev Ba:=@Nat.add_comm
noncomputable abbrev Bb:=@Nat.mod_lt
noncomputable abbrev Bc:=@Int.emod_lt_of_pos
noncomputable abbrev Bd:=@Nat.le_of_lt
noncomputable abbrev Be:=@List.mem_append
noncomputable abbrev Bg:=@Nat.ne_of_gt
noncomputable abbrev Bh:=@List.length_take
noncomputable abbrev Bi:=@List.length_set
noncomputable abbrev Bj:=@List.getElem?_eq_none_iff
noncomputable abbrev Bk:=@Nat.lt_trans
noncomputable abbrev Bl:=@Nat.pow_succ
noncomputable abbrev Bm:=@Nat.succ_pos
noncomputable abbrev Bn:=@List.getElem?_eq_none
noncomputable abbrev Bo:=@List.mem_iff_getElem?
noncomputable abbrev Bp:=@List.mem_append_left
noncomputable abbrev Bq:=@Option.isSome_iff_exists
noncomputable abbrev Br:=@List.append_assoc
noncomputable abbrev Bs:=@Nat.le_succ
noncomputable abbrev Bt:=@List.contains_cons
noncomputable abbrev Bu:=@List.find?_cons
noncomputable abbrev Bv:=@Nat.lt_or_ge
noncomputable abbrev Bw:=@Nat.zero_add
noncomputable abbrev Bx:=@List.take_add_one
noncomputable abbrev By:=@List.map_append
noncomputable abbrev Bz:=@Nat.le_of_not_lt
noncomputable abbrev BA:=@List.take_of_length_le
noncomputable abbrev BB:=@Nat.mod_eq_of_lt
noncomputable abbrev BC:=@Nat.le_of_lt_succ
noncomputable abbrev BD:=@Nat.lt_trichotomy
noncomputable abbrev BE:=@Option.getD_some
noncomputable abbrev BG:=@List.getElem?_range
noncomputable abbrev BH:=@List.mem_flatMap
namespace L2
open PySem PySem.Spec PyProof.Rows
noncomputable abbrev Key:=Sum Int Str
noncomputable def Gse:Key->Value->Bool
 | .inl k,v=>Value.isInt k v
 | .inr x,v=>Value.isStrOf x v
noncomputable def Haa(w:World):Key->Int
 | .inl k=>hashInt k
 | .inr x=>hashStr w x
theorem Ht:∀ {k:Key} {v:Value},Gse k v=true->(∃ i t,k=Sum.inl i/\v=Value.int i t)\/(∃ x t,k=Sum.inr x/\v=Value.str x t)
 | .inl i,v,h=>by
  obtain⟨t,e⟩:=Value.isInt_shape (k:=i) (v:=v) h
  exact .inl ⟨i,t,rfl,e⟩
 | .inr x,v,h=>by
  obtain⟨t,e⟩:=Value.isStrOf_shape (x:=x) (v:=v) h
  exact .inr ⟨x,t,rfl,e⟩
theorem Gtb(a b:Int):decide ((Sum.inl a:Key)=Sum.inl b)=(a==b):=by
 by_cases e:a=b
 ·subst e; simp
 ·have h:¬ (Sum.inl a:Key)=Sum.inl b:=fun q=>e (Sum.inl.inj q)
  rw[decide_eq_false h]
  exact(beq_eq_false_iff_ne.mpr e).symm
theorem Gtc(a b:Str):decide ((Sum.inr a:Key)=Sum.inr b)=decide (a=b):=by
 by_cases e:a=b
 ·subst e; simp
 ·have h:¬ (Sum.inr a:Key)=Sum.inr b:=fun q=>e (Sum.inr.inj q)
  rw[decide_eq_false h,decide_eq_false e]
theorem Gtd(a:Int)(b:Str):decide ((Sum.inl a:Key)=Sum.inr b)=false:=decide_eq_false (fun q=>nomatch q)
theorem Gte(a:Str)(b:Int):decide ((Sum.inr a:Key)=Sum.inl b)=false:=decide_eq_false (fun q=>nomatch q)
noncomputable def Gi1(prog:Program)(w:World):PySem.KeyKind prog w Key where
 is:=Gse
 hash:=Haa w
 inj:=fun v a b ha hb=>by
  rcases Ht ha with⟨i,t,rfl,rfl⟩ | ⟨x,t,rfl,rfl⟩
  ·rcases Ht hb with⟨j,u,rfl,e⟩ | ⟨y,u,rfl,e⟩
   ·injection e with e1 _; rw[e1]
   ·exact nomatch e
  ·rcases Ht hb with⟨j,u,rfl,e⟩ | ⟨y,u,rfl,e⟩
   ·exact nomatch e
   ·injection e with e1 _; rw[e1]
 byValue:=fun k v h=>by
  rcases Ht h with⟨i,t,rfl,rfl⟩ | ⟨x,t,rfl,rfl⟩<;>rfl
 pyHash:=fun hv h=>by
  rcases Ht hv with⟨i,t,rfl,rfl⟩ | ⟨x,t,rfl,rfl⟩
  ·exact wpAny_pyHash_int h
  ·exact wpAny_pyHash_str h
 eqBool:=fun hu hv h=>by
  rcases Ht hu with⟨i,t,rfl,rfl⟩ | ⟨x,t,rfl,rfl⟩
  ·rcases Ht hv with⟨j,u,rfl,rfl⟩ | ⟨y,u,rfl,rfl⟩
   ·rw[Gtb] at h; exact wpAny_eqBool_int h
   ·rw[Gtd] at h; exact SeqAt.EqAt.int_str i t y u _ _ _ _ h
  ·rcases Ht hv with⟨j,u,rfl,rfl⟩ | ⟨y,u,rfl,rfl⟩
   ·rw[Gte] at h; exact SeqAt.EqAt.str_int x t j u _ _ _ _ h
   ·rw[Gtc] at h; exact wpAny_eqBool_str h
 «strs»:=fun k x t v h=>by
  rcases Ht h with⟨i,u,rfl,e⟩ | ⟨y,u,rfl,e⟩
  ·exact nomatch e
  ·injection e with e1 _
   subst e1
   cases v<;>rfl
inductive V where
 | non | bl (b:Bool) | int (i:Int) | str (x:Str) | byt (b:Array UInt8) | flt (b:UInt64) | ref (a:Addr) | ty (n:String)
 deriving DecidableEq
noncomputable def Gz:V->Value->Prop
 | .non,u=>u=Value.none
 | .bl b,u=>u=Value.bool b
 | .int i,u=>∃ t,u=Value.int i t
 | .str x,u=>∃ t,u=Value.str x t
 | .byt b,u=>∃ t,u=Value.bytes b t
 | .flt b,u=>∃ t,u=Value.float b t
 | .ref a,u=>u=Value.ref a
 | .ty n,u=>u=Value.type n
noncomputable abbrev Vals:List V->List Value->Prop:=Paired Gz
theorem Vals.length{xs:List V}{us:List Value}(r:Vals xs us):xs.length=us.length:=Paired.length r
theorem Vals.get:∀ {xs:List V} {us:List Value} {i:Nat} {x:V},Vals xs us->xs[i]?=some x->∃ u,us[i]?=some u/\Gz x u
 | _,_,_,_,.nil,e=>by simp at e
 | _,_,0,_,.cons r _,e=>by simp at e; subst e; exact⟨_,rfl,r⟩
 | _,_,i+1,x,.cons _ t,e=>by
  obtain⟨u,h1,h2⟩:=Vals.get (i:=i) (x:=x) t (by simpa using e)
  exact⟨u,by simpa using h1,h2⟩
theorem Vals.set{x:V}{u:Value}(r:Gz x u):∀ {xs:List V} {us:List Value} (i:Nat),Vals xs us->Vals (xs.set i x) (us.set i u)
 | _,_,_,.nil=>.nil
 | _,_,0,.cons _ t=>.cons r t
 | _,_,i+1,.cons q t=>.cons q (Vals.set r i t)
theorem Vals.append:∀ {xs ys:List V} {us ws:List Value},Vals xs us->Vals ys ws->Vals (xs++ys) (us++ws)
 | _,_,_,_,.nil,s=>s
 | _,_,_,_,.cons r t,s=>.cons r (Vals.append t s)
theorem Vals.take:∀ {xs:List V} {us:List Value} (n:Nat),Vals xs us->Vals (xs.take n) (us.take n)
 | _,_,0,_=>.nil
 | _,_,_+1,.nil=>.nil
 | _,_,n+1,.cons r t=>.cons r (Vals.take n t)
theorem Vals.drop:∀ {xs:List V} {us:List Value} (n:Nat),Vals xs us->Vals (xs.drop n) (us.drop n)
 | _,_,0,r=>r
 | _,_,_+1,.nil=>.nil
 | _,_,n+1,.cons _ t=>Vals.drop n t
noncomputable def Go0:Option V->Option Value->Prop
 | some v,some u=>Gz v u
 | none,none=>True
 | _,_=>False
noncomputable def KV{κ:Type}:List (κ×V)->List (κ×Value)->Prop:=Paired fun(p:κ×V) (q:κ×Value)=>p.1=q.1/\Gz p.2 q.2
noncomputable def kV:Key->V
 | .inl i=>.int i
 | .inr x=>.str x
inductive NK where
 | i (n:Int) | t (l:List NK)
mutual
noncomputable def pk:NK->PyData
 | .i n=>.int n
 | .t l=>.tuple (pks l)
noncomputable def pks:List NK->List PyData
 | []=>[]
 | k::r=>pk k::pks r
end
mutual
theorem Yr:∀ (x y:NK),PyData.eqv (pk x) (pk y)=true↔x=y
 | .i n,.i m=>by simp[pk,PyData.eqv]
 | .i n,.t m=>by simp[pk,PyData.eqv]
 | .t n,.i m=>by simp[pk,PyData.eqv]
 | .t l,.t m=>by simp only[pk,PyData.eqv,pks_eqv l m,NK.t.injEq]
theorem pks_eqv:∀ (x y:List NK),PyData.eqvAll (pks x) (pks y)=true↔x=y
 | [],[]=>by simp[pks,PyData.eqvAll]
 | [],_::_=>by simp[pks,PyData.eqvAll]
 | _::_,[]=>by simp[pks,PyData.eqvAll]
 | a::r,b::q=>by simp only[pks,PyData.eqvAll,As,Yr a b,pks_eqv r q,List.cons.injEq]
end
noncomputable instance:DecidableEq NK:=fun x y=>if h:PyData.eqv (pk x) (pk y)=true then isTrue ((Yr x y).mp h) else isFalse fun e=>h ((Yr x y).mpr e)
theorem Gtf(x y:NK):PyData.eqv (pk x) (pk y)=decide (x=y):=by
 by_cases h:x=y
 ·rw[decide_eq_true h,(Yr x y).mpr h]
 ·rw[decide_eq_false h]
  cases e:PyData.eqv (pk x) (pk y) with
  | false=>rfl
  | true=>exact absurd ((Yr x y).mp e) h
theorem Gtg{x y:NK}(h:pk x=pk y):x=y:=(Yr x y).mp (by rw[h]; exact(Yr y y).mpr rfl)
mutual
theorem Ghw:∀ (x:NK),(pk x).canLay0=true
 | .i n=>by simp[pk,PyData.canLay0]
 | .t l=>by simp[pk,PyData.canLay0,pks_can l]
theorem pks_can:∀ (x:List NK),PyData.canLayAll0 (pks x)=true
 | []=>by simp[pks,PyData.canLayAll0]
 | a::r=>by simp[pks,PyData.canLayAll0,Ghw a,pks_can r]
end
mutual
noncomputable def nkh:NK->Int
 | .i n=>hashInt n
 | .t l=>reduceHash (Builtin.Tuple.tupleHashOf (nkhs l))
noncomputable def nkhs:List NK->List Int
 | []=>[]
 | k::r=>nkh k::nkhs r
end
mutual
noncomputable def nkd:NK->Nat
 | .i _=>1
 | .t l=>nkds l+1
noncomputable def nkds:List NK->Nat
 | []=>0
 | k::r=>nkd k+nkds r
end
theorem Gbs:∀ (l m:List NK),nkhs (l++m)=nkhs l++nkhs m
 | [],m=>by simp[nkhs]
 | a::r,m=>by simp[nkhs,Gbs r m]
theorem Gbt:∀ (l m:List NK),nkds (l++m)=nkds l+nkds m
 | [],m=>by simp[nkds]
 | a::r,m=>by simp[nkds,Gbt r m]; omega
theorem Uy:∀ {l:List NK} {k:NK},k∈l->(pk k).depth<=PyData.depthAll (pks l)
 | [],k,h=>by simp at h
 | a::r,k,h=>by
  rcases Ad.mp h with rfl | h
  ·simp only[pks,PyData.depthAll]; omega
  ·have:=Uy h
   simp only[pks,PyData.depthAll]; omega
noncomputable def Gi2(k:NK):Prop:=∀ (prog:Program) (w:World) (A:Around) (E:Value->Shared->Prop) (s:Shared) (v:Value) (as:List Addr) (Q:Int->Shared->Prop),
 Reads s.heap v (pk k) as->A.units+(pk k).depth<cLine->Q (nkh k) { s with toks:=s.toks+nkd k }->wpAny (model prog w) A (pyHash v) Q E s
noncomputable def Geh(k:NK):Prop:=∀ (prog:Program) (w:World) (A:Around) (E:Value->Shared->Prop) (s:Shared) (v:Value) (as:List Addr) (n:Nat) (Q:Bool->Shared->Prop),
 Reads s.heap v (pk k) as->(pk k).depth<=n->Q true s->wpAny (model prog w) A (eqIsQuiet n v) Q E s
theorem Glt{l:List NK}(ih:∀ k∈l,Gi2 k):Gi2 (.t l):=by
 intro prog w A E s v as Q r hu h
 simp only[pk] at r
 cases r with
 | @tuple a o vs n xs as ho hc hd rs=>
  have hT:s.TypeIs (.ref a) "tuple":=⟨o,ho,hc⟩
  have hdep:(pk (.t l)).depth=PyData.depthAll (pks l)+1:=by simp[pk,PyData.depth]
  rw[hdep] at hu
  unfold pyHash
  unfold pyHashByItsType
  refine wpAny_bind (wpAny_cRoomFor_or (.inr (by omega)) ?_)
  refine wpAny_bind (wpAny_specialOf hT F.slot_tuple_hash.lookup ?_)
  rw[if_neg (by rw[beq_builtin_none]; exact Ap)]
  refine wpAny_bind (wpAny_specialOf hT F.slot_tuple_hash.lookup ?_)
  show wpAny _ _ (callSpecialIfBoundUnlessNone? (.ref a) "__hash__" _ >>= _) Q E s
  refine wpAny_bind (wpAny_callSpecialIfBoundUnlessNone?_slot hT F.slot_tuple_hash (wpAny_call_entry F.slot_tuple_hash hT F.entry_tuple_hash ?_ (F.args_tuple_hash_1 _)))
  show wpAny _ _ (Builtin.Tuple.tupleItemsOf (.ref a) >>= _) _ _ s
  refine wpAny_bind (wpAny_tupleItemsOf ho hd ?_)
  refine wpAny_bind ?_
  rw[<- Array.forIn_toList]
  refine wpAny_forIn_list _
   (fun rest (b:Array Int) s'=>∃ done left cs,l=done++left/\ReadsAll s.heap rest (pks left) cs/\b.toList=nkhs done/\s'={ s with toks:=s.toks+nkds done })
   _ ?_ ?_ _ _ ⟨[],l,as,rfl,rs,rfl,rfl⟩
  ·rintro x rest b s' ⟨done,left,cs,el,hl,hb,rfl⟩
   cases left with
   | nil=>simp only[pks] at hl; cases hl
   | cons k left=>
    simp only[pks] at hl
    cases hl with
    | @cons _ _ _ _ c1 c2 h1 h2=>
     have hk:k∈l:=by rw[el]; simp
     have hdk:=Uy hk
     refine wpAny_bind (ih k hk prog w _ _ _ x c1 _ h1 (by first | omega | (show A.units+1+_<cLine; omega)) ?_)
     first
      | exact wpAny_pure ⟨done++[k],left,c2,by simp[el],h2,by simp[hb,Gbs,nkhs],by simp[Gbt,nkds,AE]⟩
      | exact wpAny_bind (wpAny_pure (wpAny_pure ⟨done++[k],left,c2,by simp[el],h2,by simp[hb,Gbs,nkhs],by simp[Gbt,nkds,AE]⟩))
  ·rintro b s' ⟨done,left,cs,el,hl,hb,rfl⟩
   cases left with
   | cons k left=>simp only[pks] at hl; cases hl
   | nil=>
    rw[A4] at el
    subst el
    show wpAny _ _ (retInt (Builtin.Tuple.tupleHashOf b.toList)) _ _ _
    rw[hb]
    refine wpAny_ret_mkInt ?_
    show wpAny _ _ (if(decide (-(2:Int)^63<=Builtin.Tuple.tupleHashOf (nkhs l))&&decide (Builtin.Tuple.tupleHashOf (nkhs l)<2^63))=true then _ else _) Q E _
    unfold nkh reduceHash at h
    simp only[nkd] at h
    by_cases hr:(decide (-(2:Int)^63<=Builtin.Tuple.tupleHashOf (nkhs l))&&decide (Builtin.Tuple.tupleHashOf (nkhs l)<2^63))=true
    ·rw[if_pos hr]
     rw[if_pos hr] at h
     exact wpAny_pure (by simpa[AE] using h)
    ·rw[if_neg hr]
     rw[if_neg hr] at h
     exact wpAny_bind (wpAny_rule (wpAny_pure (by simpa[AE] using h)))
mutual
theorem hash_ok:∀ k:NK,Gi2 k
 | .i n=>by
  intro prog w A E s v as Q r hu h
  simp only[pk] at r
  cases r
  exact wpAny_pyHash_int h
 | .t l=>Glt (hash_all l)
theorem hash_all:∀ (l:List NK) (k:NK),k∈l->Gi2 k
 | [],k,h=>by simp at h
 | a::r,k,h=>(Ad.mp h).elim (fun e=>e▸hash_ok a) (fun m=>hash_all r k m)
end
theorem Gks{l:List NK}(ih:∀ k∈l,Geh k):Geh (.t l):=by
 intro prog w A E s v as n Q r hn h
 simp only[pk] at r
 cases r with
 | @tuple a o vs n' xs as ho hc hd rs=>
  have hT:s.TypeIs (.ref a) "tuple":=⟨o,ho,hc⟩
  have hdep:(pk (.t l)).depth=PyData.depthAll (pks l)+1:=by simp[pk,PyData.depth]
  rw[hdep] at hn
  cases n with
  | zero=>omega
  | succ n=>
   unfold eqIsQuiet
   refine wpAny_bind (wpAny_specialOf hT F.slot_tuple_eq.lookup ?_)
   show wpAny _ _ (isInstance (.ref a) (.type "tuple") >>= _) _ _ s
   refine wpAny_bind (wpAny_isInstance hT isSubtype_tuple_tuple ?_)
   simp only[A6,Ak,if_false]
   refine wpAny_bind (wpAny_seqItems ho hd ?_)
   refine wpAny_bind ?_
   show wpAny _ _ (forIn vs _ _) _ _ s
   rw[<- Array.forIn_toList]
   refine wpAny_forIn_list _ (fun rest r s'=>r.1=none/\s'=s/\∃ left cs,(∀ k∈left,k∈l)/\ReadsAll s.heap rest (pks left) cs) _ ?_ ?_ _ _ ⟨rfl,rfl,l,as,fun _ h=>h,rs⟩
   ·rintro x rest r s' ⟨hr,rfl,left,cs,hm,hl⟩
    cases left with
    | nil=>simp only[pks] at hl; cases hl
    | cons k left=>
     simp only[pks] at hl
     cases hl with
     | @cons _ _ _ _ c1 c2 h1 h2=>
      have hk:=hm k Aq
      have hdk:=Uy hk
      refine wpAny_bind (ih k hk prog w _ _ _ x c1 n _ h1 (by omega) ?_)
      simp only[A6,Ak,if_false]
      exact wpAny_pure ⟨rfl,rfl,left,c2,fun q hq=>hm q (An _ hq),h2⟩
   ·rintro⟨r1,r2⟩ s' ⟨hr,rfl,_⟩
    simp only at hr
    subst hr
    exact wpAny_pure h
mutual
theorem quiet_ok:∀ k:NK,Geh k
 | .i m=>by
  intro prog w A E s v as n Q r hn h
  simp only[pk] at r
  cases r
  rw[eqIsQuiet_byValue n (by rfl)]
  exact wpAny_pure h
 | .t l=>Gks (quiet_all l)
theorem quiet_all:∀ (l:List NK) (k:NK),k∈l->Geh k
 | [],k,h=>by simp at h
 | a::r,k,h=>(Ad.mp h).elim (fun e=>e▸quiet_ok a) (fun m=>quiet_all r k m)
end
mutual
theorem Gga:∀ (k:NK) {h h':Heap} {v:Value} {as:List Addr} {d:Addr} {o:Obj} {es:Array DictEntry} {ep:Nat},Reads h v (pk k) as->h.get? d=some o->o.data=.dict es ep->Heap.SameBut d h h'->Reads h' v (pk k) as
 | .i n,h,h',v,as,d,o,es,ep,r,_,_,_=>by
  simp only[pk] at r ⊢
  cases r
  exact .int _ _
 | .t l,h,h',v,as,d,o,es,ep,r,ho,hd,hs=>by
  simp only[pk] at r ⊢
  cases r with
  | @tuple a o' vs n' xs as ho' hc hd' rs=>
   have hne:a≠d:=by
    rintro rfl
    obtain rfl:o'=o:=Ac (ho'.symm.trans ho)
    rw[hd] at hd'
    exact nomatch hd'
   exact .tuple ((hs.2 a hne).trans ho') hc hd' (pks_keeps l rs ho hd hs)
theorem pks_keeps:∀ (l:List NK) {h h':Heap} {v:List Value} {as:List Addr} {d:Addr} {o:Obj} {es:Array DictEntry} {ep:Nat},ReadsAll h v (pks l) as->h.get? d=some o->o.data=.dict es ep->Heap.SameBut d h h'->ReadsAll h' v (pks l) as
 | [],h,h',v,as,d,o,es,ep,r,_,_,_=>by
  simp only[pks] at r ⊢
  cases r
  exact .nil
 | k::l,h,h',v,as,d,o,es,ep,r,ho,hd,hs=>by
  simp only[pks] at r ⊢
  cases r with
  | cons r1 r2=>exact .cons (Gga k r1 ho hd hs) (pks_keeps l r2 ho hd hs)
end
noncomputable def Wl(h:Heap)(k:NK)(a:Addr):Prop:=(∃ as,Reads h (.ref a) (pk k) as)/\(pk k).depth<=8
noncomputable def nestKind (prog:Program) (w:World):HeapKind prog w NK where
 is:=Wl
 hash:=nkh
 draws:=nkd
 room:=fun A=>A.units+10<cLine
 inj:=fun⟨⟨_,hx⟩,_⟩ ⟨⟨_,hy⟩,_⟩=>Gtg (hx.unique _ _ hy).1
 keeps:=fun⟨⟨as,x⟩,q⟩ ho hd hs=>⟨⟨as,Gga _ x ho hd hs⟩,q⟩
 pyHash:=fun hu ⟨⟨as,x⟩,q⟩ h=>hash_ok _ _ _ _ _ _ _ as _ x (by omega) h
 eqBool:=fun hu ⟨⟨as,x⟩,q⟩ ⟨⟨bs,y⟩,q'⟩ h=>SeqAt.eqAt_reads _ _ _ _ _ _ as bs x y (Ghw _) (Ghw _) (by omega) _ _ _ _ (by rw[Gtf]; exact h)
 quiet:=fun⟨⟨as,x⟩,q⟩ h=>quiet_ok _ _ _ _ _ _ _ as 8 _ x q h
inductive HO where
 | lst (xs:List V)
 | tup (xs:List V)
 | dK (kvs:List (Key×V)) | dT (kvs:List (NK×Addr×V))
 | set (S:Int->Bool) (n:Nat)
 | ins (C dx:Addr) (fs:List (Str×V))
 | own (x:Addr)
 | xd (fs:List (Str×V))
 | met (f x:Addr)
 | rng (lo hi:Int)
 | frz (o:Obj) (u:HO)
 | tbl (ps:Array Value)
 | ext (φ:Heap->Prop)
noncomputable abbrev Hp:=Addr->Option HO
noncomputable def upd(H:Hp)(a:Addr)(o:HO):Hp:=fun b=>if b=a then some o else H b
theorem Hd{H:Hp}{a:Addr}{o:HO}:upd H a o a=some o:=by unfold upd; rw[if_pos rfl]
theorem Gk{H:Hp}{a b:Addr}{o:HO}(h:b≠a):upd H a o b=H b:=by unfold upd; rw[if_neg h]
theorem Ggb{H:Hp}{a b:Addr}{o u:HO}(h:H a=some o)(h':H b=some u)(d:o≠u):a≠b:=by
 intro e; subst e; rw[h] at h'; exact d (Ac h')
theorem Ha{H:Hp}{a b:Addr}{o:HO}(h:H a=some o)(h':H b=none):a≠b:=by
 intro e; subst e; rw[h] at h'; cases h'
section
variable(P:Program)(w:World)
noncomputable def Jj(H:Hp)(h:Heap)(a:Addr):HO->Prop
 | .lst xs=>xs.length<=sizeLine/\∃ (its:List Value) (n:Nat),Vals xs its/\h.get? a=some { cls:=.type "list",data:=.seq its.toArray n }
 | .tup xs=>xs.length<=sizeLine/\∃ its:List Value,Vals xs its/\IsTup h a its.toArray
 | .dK kvs=>kvs.length<=sizeLine/\(a==sysModules)=false/\∃ vs,KV kvs vs/\h.DictOf (Gi1 P w) a vs
 | .dT kvs=>kvs.length<=sizeLine/\(a==sysModules)=false/\∃ xs:List (NK×Addr×Value),
   Paired (fun(p:NK×Addr×V) (q:NK×Addr×Value)=>p.1=q.1/\p.2.1=q.2.1/\Gz p.2.2 q.2.2) kvs xs∧
   ∃ o es ep,h.get? a=some o/\o.ExactDict/\o.data=.dict es ep/\es.toList=xs.map (entryOfKey (nestKind P w))/\(xs.map (·.1)).Nodup
 | .set S n=>h.SetOf (intKind P w) a S n
 | .ins C dx fs=>H dx=some (.own a)/\fs.length<=1000/\dx≠a/\h.get? a=some (PySem.W.instObj C dx)∧
   ∃ mA,h.Ns1 dx mA/\(∀ f,Go0 (fs.lookup f) (mA f))/\PySem.Within mA (fs.map (·.1))
 | .own _=>∃ o,h.get? a=some o
 | .xd fs=>∃ mA,h.Ns1 a mA/\∀ f,Go0 (fs.lookup f) (mA f)
 | .rng lo hi=>∃ t u v,h.get? a=some { cls:=.type "range",data:=.fields #[.int lo t,.int hi u,.int 1 v] }
 | .frz o u=>h.get? a=some o/\Jj H h a u
 | .tbl ps=>h.get? a=some { cls:=.none,data:=.fields ps }
 | .met f x=>h.get? a=some (PySem.W.methodObj (.ref f) (.ref x))
 | .ext φ=>φ h/\(∃ o,h.get? a=some o)/\∀ h1 h2:Heap,φ h1->(∀ o,h1.get? a=some o->h2.get? a=some o)->φ h2
noncomputable def HOk(H:Hp)(h:Heap):Prop:=∀ a o,H a=some o->Jj P w H h a o
end
section
variable{P:Program}{w:World}{H H':Hp}{h h':Heap}{a:Addr}{o:HO}
theorem Jj.lt(x:Jj P w H h a o):a<h.objs.size:=by
 cases o with
 | lst xs=>obtain⟨_,_,_,_,e⟩:=x; exact Ae e
 | tup xs=>obtain⟨_,_,_,p⟩:=x; exact p.lt
 | dK kvs=>obtain⟨_,_,_,_,o,_,_,e,_⟩:=x; exact Ae e
 | dT kvs=>obtain⟨_,_,_,_,o,_,_,e,_⟩:=x; exact Ae e
 | set S n=>obtain⟨o,_,_,_,e,_⟩:=x; exact Ae e
 | ins C dx fs=>obtain⟨_,_,_,e,_⟩:=x; exact Ae e
 | own y=>obtain⟨_,e⟩:=x; exact Ae e
 | xd fs=>obtain⟨_,⟨_,_,_,e,_⟩,_⟩:=x; exact Ae e
 | rng lo hi=>obtain⟨_,_,_,e⟩:=x; exact Ae e
 | frz ob u=>obtain⟨e,_⟩:=x; exact Ae e
 | tbl ps=>exact Ae (show h.get? a=some _ from x)
 | met f y=>exact Ae (show h.get? a=some _ from x)
 | ext φ=>obtain⟨_,⟨_,e⟩,_⟩:=x; exact Ae e
theorem Paired.mapP{α β:Type}{F G:α->β->Prop}:∀ {l₁:List α} {l₂:List β},Paired F l₁ l₂->(∀ a b,F a b->G a b)->Paired G l₁ l₂
 | _,_,.nil,_=>.nil
 | _,_,.cons r t,f=>.cons (f _ _ r) (Paired.mapP t f)
theorem Jj.stay(x:Jj P w H h a o)(k:∀ b u,(b=a\/H b=some (.own a))->h.get? b=some u->h'.get? b=some u)
  (ho:∀ b,H b=some (.own a)->H' b=some (.own a)) (ht:∀ b xs,H b=some (.tup xs)->H' b=some (.tup xs)):Jj P w H' h' a o:=by
 induction o with
 | lst xs=>obtain⟨z,its,n,r,e⟩:=x; exact⟨z,its,n,r,k _ _ (.inl rfl) e⟩
 | tup xs=>obtain⟨z,its,r,ob,e,c⟩:=x; exact⟨z,its,r,ob,k _ _ (.inl rfl) e,c⟩
 | dK kvs=>obtain⟨z,y,vs,r,ob,es,ep,e,c⟩:=x; exact⟨z,y,vs,r,ob,es,ep,k _ _ (.inl rfl) e,c⟩
 | dT kvs=>
  obtain⟨z,y,xs,r,ob,es,ep,e,c⟩:=x
  exact⟨z,y,xs,r,ob,es,ep,k _ _ (.inl rfl) e,c⟩
 | set S n=>obtain⟨ob,es,ep,t,e,c⟩:=x; exact⟨ob,es,ep,t,k _ _ (.inl rfl) e,c⟩
 | ins C dx fs=>
  obtain⟨d,z,ne,e,mA,⟨od,es,ep,e2,c⟩,r⟩:=x
  exact⟨ho _ d,z,ne,k _ _ (.inl rfl) e,mA,⟨od,es,ep,k _ _ (.inr d) e2,c⟩,r⟩
 | own y=>obtain⟨ob,e⟩:=x; exact⟨ob,k _ _ (.inl rfl) e⟩
 | xd fs=>obtain⟨mA,⟨od,es,ep,e,c⟩,r⟩:=x; exact⟨mA,⟨od,es,ep,k _ _ (.inl rfl) e,c⟩,r⟩
 | rng lo hi=>obtain⟨t,u,v,e⟩:=x; exact⟨t,u,v,k _ _ (.inl rfl) e⟩
 | frz ob u ih=>obtain⟨e,q⟩:=x; exact⟨k _ _ (.inl rfl) e,ih q⟩
 | tbl ps=>
  have e:h.get? a=some { cls:=.none,data:=.fields ps }:=x
  show h'.get? a=some { cls:=.none,data:=.fields ps }
  exact k a _ (.inl rfl) e
 | met f y=>
  have e:h.get? a=some (PySem.W.methodObj (.ref f) (.ref y)):=x
  show h'.get? a=some (PySem.W.methodObj (.ref f) (.ref y))
  exact k a _ (.inl rfl) e
 | ext φ=>obtain⟨p,⟨o,e⟩,st⟩:=x; exact⟨st _ _ p fun o q=>k _ _ (.inl rfl) q,⟨o,k _ _ (.inl rfl) e⟩,st⟩
theorem HOk.lt(x:HOk P w H h)(e:H a=some o):a<h.objs.size:=(x a o e).lt
theorem HOk.fresh(x:HOk P w H h)(e:h.objs.size<=a):H a=none:=by
 cases q:H a with
 | none=>rfl
 | some u=>exact absurd (Af (x.lt q) e) (Az _)
theorem HOk.kept(x:HOk P w H h)(k:∀ b u,h.get? b=some u->h'.get? b=some u):HOk P w H h':=fun a o e=>
 (x a o e).stay (fun b u _ q=>k b u q) (fun _ q=>q) fun _ _ q=>q
theorem HOk.laid(x:HOk P w H h)(k:∀ b u,h.get? b=some u->h'.get? b=some u)(hp:h.objs.size<=a)(new:Jj P w (upd H a o) h' a o):HOk P w (upd H a o) h':=fun b u e=>by
 have hn:=x.fresh hp
 by_cases hb:b=a
 ·subst hb; rw[Hd] at e; cases e; exact new
 ·rw[Gk hb] at e
  exact(x b u e).stay (fun c v _ q=>k c v q) (fun c q=>by rw[Gk (Ha q hn)]; exact q) fun c xs q=>by rw[Gk (Ha q hn)]; exact q
end
noncomputable def Rd(H:Hp)(a:Addr)(u:HO):Prop:=H a=some u\/∃ o,H a=some (.frz o u)
theorem Rd.ok{P:Program}{w:World}{H:Hp}{h:Heap}{a:Addr}{u:HO}(r:Rd H a u)(x:HOk P w H h):Jj P w H h a u:=by
 rcases r with r | ⟨o,r⟩
 ·exact x a u r
 ·obtain⟨_,q⟩:=x a _ r
  exact q
noncomputable def Mut:Option HO->Prop
 | some (.lst _)=>True
 | some (.dK _)=>True
 | some (.dT _)=>True
 | some (.set _ _)=>True
 | some (.ins _ _ _)=>True
 | some (.ext _)=>True
 | _=>False
theorem HOk.write{P:Program}{w:World}{H:Hp}{h h':Heap}{x e:Addr}{o':HO}(ok:HOk P w H h)(mu:Mut (H x))(he:e=x\/H e=some (.own x))(k:∀ b u,b≠e->h.get? b=some u->h'.get? b=some u)(heo:∃ u,h'.get? e=some u)(new:Jj P w (upd H x o') h' x o'):HOk P w (upd H x o') h':=fun b u q=>by
 have nown:∀ c y,H c=some (.own y)->c≠x:=fun c y r z=>by subst z; rw[r] at mu; exact mu
 have ntup:∀ c xs,H c=some (.tup xs)->c≠x:=fun c xs r z=>by subst z; rw[r] at mu; exact mu
 by_cases hb:b=x
 ·subst hb; rw[Hd] at q; cases q; exact new
 ·rw[Gk hb] at q
  by_cases hbe:b=e
  ·have q':H b=some (.own x):=by
    rcases he with z | z
    ·exact absurd (hbe.trans z) hb
    ·rw[hbe]; exact z
   rw[q] at q'; cases q'
   obtain⟨v,hv⟩:=heo
   exact⟨v,by rw[hbe]; exact hv⟩
  ·refine(ok b u q).stay (fun c v hc r=>k c v ?_ r) (fun c r=>by rw[Gk (nown c b r)]; exact r) fun c xs r=>by rw[Gk (ntup c xs r)]; exact r
   rcases hc with rfl | hc
   ·exact hbe
   ·rintro rfl
    rcases he with z | z
    ·exact nown c b hc z
    ·rw[hc] at z; cases z; exact hb rfl
structure Un(fs ex:List Addr)(H H':Hp)(h h':Heap):Prop where
 keep:∀ b o,h.get? b=some o->H b=none->b∉fs->b∉ex->h'.get? b=some o
 slot:∀ b o,h.get? b=some o->H b=none->b∈fs->b∉ex->∃ sl,h'.get? b=some { o with slots:=sl }
 free:∀ b o,h.get? b=some o->H b=none->b∉ex->H' b=none
 there:∀ b o,h.get? b=some o->b∉ex->∃ o',h'.get? b=some o'
 tups:∀ b xs,H b=some (.tup xs)->H' b=some (.tup xs)
 frzs:∀ b o u,H b=some (.frz o u)->H' b=some (.frz o u)
 tbls:∀ b ps,H b=some (.tbl ps)->∃ more,H' b=some (.tbl (ps++more))
section
variable{fs fs' ex ex':List Addr}{H H1 H2:Hp}{h h1 h2 h':Heap}{a x e:Addr}{o:HO}
theorem Un.any(u:Un fs ex H H1 h h1){b:Addr}{ob:Obj}(q:h.get? b=some ob)(n:H b=none)(hx:b∉ex):∃ sl,h1.get? b=some { ob with slots:=sl }:=by
 by_cases hb:b∈fs
 ·exact u.slot b ob q n hb hx
 ·exact⟨ob.slots,u.keep b ob q n hb hx⟩
theorem Un.kept(k:∀ b u,h.get? b=some u->h'.get? b=some u):Un fs ex H H h h':=
 ⟨fun b ob q _ _ _=>k b ob q,fun b ob q _ _ _=>⟨ob.slots,k b ob q⟩,fun _ _ _ n _=>n,fun b ob q _=>⟨ob,k b ob q⟩,fun _ _ q=>q,fun _ _ _ q=>q,fun _ ps q=>⟨#[],by rw[q]; simp⟩⟩
theorem Un.refl:Un fs ex H H h h:=Un.kept fun _ _ q=>q
theorem Un.laid(k:∀ b u,h.get? b=some u->h'.get? b=some u)(hp:h.objs.size<=a)(hn:H a=none):Un fs ex H (upd H a o) h h' where
 keep:=fun b u q _ _ _=>k b u q
 slot:=fun b u q _ _ _=>⟨u.slots,k b u q⟩
 free:=fun b u q n _=>by rw[Gk (At (Af (Ae q) hp))]; exact n
 there:=fun b u q _=>⟨u,k b u q⟩
 tups:=fun b xs q=>by rw[Gk (Ha q hn)]; exact q
 frzs:=fun b u xs q=>by rw[Gk (Ha q hn)]; exact q
 tbls:=fun b ps q=>⟨#[],by rw[Gk (Ha q hn),q]; simp⟩
theorem Un.write(mu:Mut (H x))(he:e=x\/H e=some (.own x))(k:∀ b u,b≠e->h.get? b=some u->h'.get? b=some u)(heo:∃ u,h'.get? e=some u):Un fs ex H (upd H x o) h h':=by
 have hx:∀ b,H b=none->b≠x:=fun b n z=>by subst z; rw[n] at mu; exact mu
 have hb:∀ b,H b=none->b≠e:=fun b n z=>by
  subst z
  rcases he with r | r
  ·exact hx b n r
  ·rw[n] at r; cases r
 have hm:∀ b u,H b=some u->¬ Mut (some u)->b≠x:=fun b u q nm z=>by subst z; rw[q] at mu; exact nm mu
 refine⟨fun b u q n _ _=>k b u (hb b n) q,fun b u q n _ _=>⟨u.slots,k b u (hb b n) q⟩,fun b u q n _=>by rw[Gk (hx b n)]; exact n,fun b u q _=>?_,
  fun b xs q=>by rw[Gk (hm b _ q fun z=>z)]; exact q,fun b u xs q=>by rw[Gk (hm b _ q fun z=>z)]; exact q,fun b ps q=>⟨#[],by rw[Gk (hm b _ q fun z=>z),q]; simp⟩⟩
 by_cases hbe:b=e
 ·subst hbe; exact heo
 ·exact⟨u,k b u hbe q⟩
end
noncomputable def trk(h:Heap)(H:Hp):List Addr:=(List.range h.objs.size).filter fun a=>(H a).isSome
noncomputable def Gei(h:Heap)(H:Hp):Heap:=PySem.W.hideAll h (trk h H)
theorem Gkt(h:Heap)(H:Hp):(Gei h H).objs.size=h.objs.size:=PySem.W.hideAll_size _ _
theorem Glu{h:Heap}{H:Hp}{b:Addr}{o:Obj}(e:h.get? b=some o)(n:H b=none):(Gei h H).get? b=some o:=
 PySem.W.hideAll_get _ e fun hm=>by
  have q:(H b).isSome=true:=(A7.mp hm).2
  rw[n] at q; simp at q
theorem of_hidT{h:Heap}{H:Hp}{b:Addr}{o:Obj}(e:(Gei h H).get? b=some o):h.get? b=some o/\H b=none:=by
 have e':h.get? b=some o:=PySem.W.of_hideAll (trk h H) e
 refine⟨e',?_⟩
 cases q:H b with
 | none=>rfl
 | some x=>
  have hm:b∈trk h H:=A7.mpr ⟨AU.mpr (Ae e'),by simp[q]⟩
  have z:(Gei h H).get? b=none:=PySem.W.hideAll_none (trk h H) hm
  rw[z] at e; cases e
noncomputable def Go1(g h:Heap)(L:Addr):List (Addr×Obj):=(List.range h.objs.size).filterMap fun a=>if a=L\/(g.get? a).isSome=true then none else(h.get? a).map fun o=>(a,o)
noncomputable def rest(g h:Heap)(L d:Addr):List (Addr×Obj):=(Go1 g h L).filter fun p=>decide (p.1≠d)
structure Mod(K:PySem.W.Frag)(mg:Str->Option Value)(base:Heap):Prop where
 kin:K.In base
 glob:base.Ns mainGlobals mg
 blt:∃ mb,base.Ns builtinsNs mb/\∀ x:Str,x≠"__name__"->mb x=bootBuiltins x
 nolimit:base.NoLimit
structure Cx where
 prog:Program
 w:World
 K:PySem.W.Frag
 mg:Str->Option Value
 base:Heap
 A:Around
 N:List Str
 s₀:Shared
 H₀:Hp
 env:Env
 outer:List Env
 stack:List Env
 ex:List Addr
 fn:Str->Bool
 calm:Bool
 pn:List (Addr×Obj)
 xe:Value->Shared->Prop
noncomputable def frs(l:List Env):List Addr:=l.filterMap (·.frame)
noncomputable abbrev Cx.fs(X:Cx):List Addr:=frs X.outer
noncomputable def Vis(sc:Scope)(x:Str):Prop:=sc.names.lookup x=some .local\/sc.names.lookup x=some .cell\/sc.names.lookup x=some .free
noncomputable def Loc(sc:Scope)(x:Str):Prop:=sc.names.lookup x=some .local\/sc.names.lookup x=some .cell
noncomputable def Look(env:Env)(h:Heap)(m:Str->Option Value)(x:Str)(u:Value):Prop:=
 (env.kindOf x=some .local/\m x=some u)\/((env.kindOf x=some .cell\/env.kindOf x=some .free)/\∃ c,env.cells.lookup x=some c/\h.IsCell c (some u))
structure Cx.Ok(X:Cx):Prop where
 mod:Mod X.K X.mg X.base
 kind:X.env.scope.kind=.function
 glob:X.env.globals=mainGlobals
 blt:X.env.builtins=builtinsNs
 above:X.s₀.heap.objs.size<=X.env.locals
 inj:∀ x y c,X.env.cells.lookup x=some c->X.env.cells.lookup y=some c->x=y
 has:∀ x,(X.env.kindOf x=some .cell\/X.env.kindOf x=some .free)->∃ c,X.env.cells.lookup x=some c
 cab:∀ x c,X.fn x=true->X.env.cells.lookup x=some c->X.s₀.heap.objs.size<=c
 hd:X.calm=true->X.A.handled=none
 frames:X.A.frames=some X.stack
 stk:X.stack=X.outer\/(X.stack=X.env::X.outer/\X.env.frame=some X.env.locals)
 exf:∀ b∈X.ex,b≠X.env.locals/\∀ x c,X.env.cells.lookup x=some c->c≠b
 bs:∀ b o,X.base.get? b=some o->X.s₀.heap.get? b=some o/\X.H₀ b=none
 bsz:X.base.objs.size<=X.s₀.heap.objs.size
 noex:∀ b o,X.base.get? b=some o->b∉X.ex
 exfs:∀ b∈X.ex,b∉X.fs
 funs:X.s₀.heap.FunFrames X.base X.outer
 frf:∀ b∈X.fs,X.H₀ b=none
structure Inv(X:Cx)(pins:List (Addr×Obj))(σ:List (Option V))(H:Hp)(s:Shared):Prop where
 ok:X.Ok
 os:s.os=X.s₀.os
 bare:AllBare s.gens
 base:Un X.fs X.ex X.H₀ H X.s₀.heap s.heap
 loc:∃ m,s.heap.Ns X.env.locals m/\∀ (i:Nat) (x:Str) (v:V),X.N[i]?=some x->σ[i]?=some (some v)->Vis X.env.scope x->∃ u,Gz v u/\Look X.env s.heap m x u
 cell:∀ x c,X.env.cells.lookup x=some c->∃ v,s.heap.IsCell c v
 free:H X.env.locals=none
 freeC:∀ x c,X.env.cells.lookup x=some c->H c=none
 pin:∀ p∈X.pn++pins,s.heap.get? p.1=some p.2/\H p.1=none/\p.1≠X.env.locals/\p.1∉X.fs/\∀ v,p.2.data≠.cell v
 hok:HOk X.prog X.w H s.heap
 len:σ.length=X.N.length
section
variable{X:Cx}{pins:List (Addr×Obj)}{σ:List (Option V)}{H H':Hp}{s:Shared}{h':Heap}
theorem Cx.Ok.nofr(ok:X.Ok){b:Addr}{o:Obj}(e:X.base.get? b=some o):b∉X.fs:=fun hb=>by
 have:=(ok.funs.mem hb).1
 rw[e] at this; cases this
theorem Inv.bs(I:Inv X pins σ H s):∀ b o,X.base.get? b=some o->s.heap.get? b=some o/\H b=none:=fun b o e=>
 ⟨I.base.keep b o (I.ok.bs b o e).1 (I.ok.bs b o e).2 (I.ok.nofr e) (I.ok.noex b o e),I.base.free b o (I.ok.bs b o e).1 (I.ok.bs b o e).2 (I.ok.noex b o e)⟩
theorem Inv.bk(I:Inv X pins σ H s):∀ b o,X.base.get? b=some o->s.heap.get? b=some o:=fun b o e=>(I.bs b o e).1
theorem Inv.mod(I:Inv X pins σ H s):Mod X.K X.mg X.base:=I.ok.mod
theorem Inv.kIn(I:Inv X pins σ H s):X.K.In s.heap:=I.ok.mod.kin.keeps I.bk
theorem Inv.lt(I:Inv X pins σ H s):X.env.locals<s.heap.objs.size:=let ⟨_,hn,_⟩:=I.loc; hn.lt
theorem Inv.sz(I:Inv X pins σ H s):X.s₀.heap.objs.size<=s.heap.objs.size:=Ao I.ok.above (Bd I.lt)
theorem Inv.nofs(I:Inv X pins σ H s){a:Addr}(h:s.heap.objs.size<=a):a∉X.fs:=fun hb=>by
 obtain⟨_,o,ho,_⟩:=I.ok.funs.mem hb
 exact absurd (Af (Ae ho) (Ao I.sz h)) (Az _)
theorem Inv.cne(I:Inv X pins σ H s):∀ x c,X.env.cells.lookup x=some c->c≠X.env.locals:=fun x c e z=>by
 obtain⟨v,o,ho,hd⟩:=I.cell x c e
 obtain⟨m,⟨o',es,ep,ho',hd',_⟩,_⟩:=I.loc
 rw[z,ho'] at ho; cases ho; rw[hd'] at hd; cases hd
theorem Inv.funs(I:Inv X pins σ H s):s.heap.FunFrames X.base X.outer:=by
 have all:∀ (l:List Env),(∀ b∈frs l,b∈X.fs)->X.s₀.heap.FunFrames X.base l->s.heap.FunFrames X.base l:=by
  intro l
  induction l with
  | nil=>intro _ _; trivial
  | cons env r ih=>
   intro hs hl
   obtain⟨hk,⟨L,o,hf,hn,ho,hd⟩,hr⟩:=hl
   have hL:L∈X.fs:=hs L (by unfold frs; rw[AM,hf]; exact Aq)
   obtain⟨sl,e⟩:=I.base.slot L o ho (I.ok.frf L hL) hL fun z=>I.ok.exfs L z hL
   exact⟨hk,⟨L,_,hf,hn,e,hd⟩,ih (fun b hb=>hs b (by unfold frs; rw[AM,hf]; exact An _ hb)) hr⟩
 exact all X.outer (fun _ hb=>hb) I.ok.funs
theorem Inv.stack(I:Inv X pins σ H s):s.heap.FunFrames X.base X.stack:=by
 rcases I.ok.stk with e | ⟨e,hf⟩
 ·rw[e]; exact I.funs
 ·rw[e]
  obtain⟨m,hn,_⟩:=I.loc
  refine .cons (by rw[I.ok.kind]; decide) hf hn ?_ I.funs
  exact AV (Ao I.ok.bsz I.ok.above)
theorem Inv.stkSub(I:Inv X pins σ H s):∀ b∈frs X.stack,b∈X.env.locals::X.fs:=fun b hb=>by
 rcases I.ok.stk with e | ⟨e,hf⟩
 ·rw[e] at hb; exact An _ hb
 ·rw[e] at hb
  unfold frs at hb
  rw[AM,hf] at hb
  exact hb
theorem Inv.stkFree(I:Inv X pins σ H s):∀ b∈frs X.stack,H b=none:=fun b hb=>by
 rcases Ad.mp (I.stkSub b hb) with e | hb
 ·rw[e]; exact I.free
 ·obtain⟨_,o,ho,_⟩:=I.ok.funs.mem hb
  exact I.base.free b o ho (I.ok.frf b hb) fun z=>I.ok.exfs b z hb
theorem Inv.step{g':Array GenState}{t':Nat}{d':Drawn}{ch:List Addr}(I:Inv X pins σ H s)
  (hch:∀ b∈ch,(b∈X.ex\/X.s₀.heap.objs.size<=b)/\b≠X.env.locals/\(∀ x c,X.env.cells.lookup x=some c->c≠b)/\∀ p∈X.pn++pins,p.1≠b)
  (keep:∀ b o,b≠X.env.locals->b∉X.fs->b∉ch->s.heap.get? b=some o->H b=none->h'.get? b=some o)
  (slot:∀ b o,b≠X.env.locals->b∈X.fs->b∉ch->s.heap.get? b=some o->H b=none->∃ sl,h'.get? b=some { o with slots:=sl }) (free:∀ b o,b∉ch->s.heap.get? b=some o->H b=none->H' b=none)
  (there:∀ b o,b∉ch->s.heap.get? b=some o->∃ o',h'.get? b=some o')
  (tups:∀ b xs,H b=some (.tup xs)->H' b=some (.tup xs)) (frzs:∀ b o u,H b=some (.frz o u)->H' b=some (.frz o u)) (tbls:∀ b ps,H b=some (.tbl ps)->∃ more,H' b=some (.tbl (ps++more)))
  (ns:∀ m,s.heap.Ns X.env.locals m->h'.Ns X.env.locals m) (hok:HOk X.prog X.w H' h') (hg:AllBare g'):
  Inv X pins σ H' { s with heap:=h',gens:=g',drawn:=d',toks:=t' }:=by
 have neL:∀ b o,X.s₀.heap.get? b=some o->b≠X.env.locals:=fun b o e=>At (Af (Ae e) I.ok.above)
 have neC:∀ b o,X.s₀.heap.get? b=some o->b∉X.ex->b∉ch:=fun b o e hx hb=>by
  rcases(hch b hb).1 with z | z
  ·exact hx z
  ·exact absurd (Af (Ae e) z) (Az _)
 have cellK:∀ x c,X.env.cells.lookup x=some c->∀ v,s.heap.IsCell c v->h'.IsCell c v:=fun x c e v ⟨o,ho,hd⟩=>by
  have nch:c∉ch:=fun z=>(hch c z).2.2.1 x c e rfl
  by_cases hc:c∈X.fs
  ·obtain⟨sl,q⟩:=slot c o (I.cne x c e) hc nch ho (I.freeC x c e)
   exact⟨_,q,hd⟩
  ·exact⟨o,keep c o (I.cne x c e) hc nch ho (I.freeC x c e),hd⟩
 refine⟨I.ok,I.os,hg,⟨fun b o e n hb hx=>?_,fun b o e n hb hx=>?_,fun b o e n hx=>?_,fun b o e hx=>?_,fun b xs e=>tups b xs (I.base.tups b xs e),fun b o xs e=>frzs b o xs (I.base.frzs b o xs e),fun b ps e=>?_⟩,?_,fun x c e=>?_,?_,fun x c e=>?_,fun p hp=>?_,hok,I.len⟩
 ·exact keep b o (neL b o e) hb (neC b o e hx) (I.base.keep b o e n hb hx) (I.base.free b o e n hx)
 ·obtain⟨sl,e1⟩:=I.base.slot b o e n hb hx
  obtain⟨sl',e2⟩:=slot b _ (neL b o e) hb (neC b o e hx) e1 (I.base.free b o e n hx)
  exact⟨sl',e2⟩
 ·obtain⟨o',e1⟩:=I.base.there b o e hx
  exact free b o' (neC b o e hx) e1 (I.base.free b o e n hx)
 ·obtain⟨o',e1⟩:=I.base.there b o e hx
  exact there b o' (neC b o e hx) e1
 ·obtain⟨m1,e1⟩:=I.base.tbls b ps e
  obtain⟨m2,e2⟩:=tbls b _ e1
  exact⟨m1++m2,by rw[e2,Array.append_assoc]⟩
 ·obtain⟨m,hn,hl⟩:=I.loc
  refine⟨m,ns m hn,fun i x v e1 e2 e3=>?_⟩
  obtain⟨u,r,l⟩:=hl i x v e1 e2 e3
  refine⟨u,r,?_⟩
  rcases l with l | ⟨k,c,e,z⟩
  ·exact .inl l
  ·exact .inr ⟨k,c,e,cellK x c e _ z⟩
 ·obtain⟨v,z⟩:=I.cell x c e
  exact⟨v,cellK x c e v z⟩
 ·obtain⟨m,⟨o,_,_,ho,_⟩,_⟩:=I.loc
  exact free _ o (fun z=>(hch _ z).2.1 rfl) ho I.free
 ·obtain⟨v,o,ho,hd⟩:=I.cell x c e
  exact free c o (fun z=>(hch c z).2.2.1 x c e rfl) ho (I.freeC x c e)
 ·obtain⟨e,n,ne,nf,d⟩:=I.pin p hp
  have nch:p.1∉ch:=fun z=>(hch p.1 z).2.2.2 p hp rfl
  exact⟨keep p.1 p.2 ne nf nch e n,free p.1 p.2 nch e n,ne,nf,d⟩
theorem Inv.un{t':Nat}(I:Inv X pins σ H s)(u:Un X.fs [] H H' s.heap h')(hok:HOk X.prog X.w H' h'):Inv X pins σ H' { s with heap:=h',toks:=t' }:=by
 obtain⟨m,⟨o,es,ep,ho,r⟩,_⟩:=id I.loc
 obtain⟨sl,hL⟩:=u.any ho I.free (by simp)
 exact I.step (g':=s.gens) (d':=s.drawn) (ch:=[]) (fun _ z=>nomatch z) (fun b o _ hb _ e n=>u.keep b o e n hb (by simp)) (fun b o _ hb _ e n=>u.slot b o e n hb (by simp)) (fun b o _ e n=>u.free b o e n (by simp)) (fun b o _ e=>u.there b o e (by simp)) u.tups u.frzs u.tbls (fun m' hm=>by
  obtain⟨o',es',ep',ho',r'⟩:=hm
  rw[ho] at ho'; cases ho'
  exact⟨_,es',ep',hL,r'⟩) hok I.bare
theorem Inv.call{g':Array GenState}{t':Nat}{d':Drawn}{ch:List Addr}(I:Inv X pins σ H s)(u:Un (frs X.stack) ch H H' s.heap h')(hok:HOk X.prog X.w H' h')(hg:AllBare g')
  (hch:∀ b∈ch,(b∈X.ex\/X.s₀.heap.objs.size<=b)/\b≠X.env.locals/\(∀ x c,X.env.cells.lookup x=some c->c≠b)/\∀ p∈X.pn++pins,p.1≠b):
  Inv X pins σ H' { s with heap:=h',gens:=g',drawn:=d',toks:=t' }:=by
 obtain⟨m,⟨o,es,ep,ho,r⟩,_⟩:=id I.loc
 obtain⟨sl,hL⟩:=u.any ho I.free fun z=>(hch _ z).2.1 rfl
 exact I.step (ch:=ch) hch (fun b o hL hb hc e n=>u.keep b o e n (fun z=>(Ad.mp (I.stkSub b z)).elim hL hb) hc) (fun b o _ _ hc e n=>u.any e n hc) (fun b o hc e n=>u.free b o e n hc) (fun b o hc e=>u.there b o e hc) u.tups u.frzs u.tbls (fun m' hm=>by
  obtain⟨o',es',ep',ho',r'⟩:=hm
  rw[ho] at ho'; cases ho'
  exact⟨_,es',ep',hL,r'⟩) hok hg
theorem Inv.turned{t':Nat}{it:Addr}(I:Inv X pins σ H s)(k:∀ b o,b≠it->s.heap.get? b=some o->h'.get? b=some o)(hn:H it=none)(hL:it≠X.env.locals)
  (h1:it∈X.ex\/X.s₀.heap.objs.size<=it) (h2:∀ x c,X.env.cells.lookup x=some c->c≠it) (h3:∀ p∈X.pn++pins,p.1≠it):Inv X pins σ H { s with heap:=h',toks:=t' }:=by
 have nit:∀ b u,H b=some u->b≠it:=fun b u e z=>by rw[z,hn] at e; cases e
 refine I.step (g':=s.gens) (d':=s.drawn) (ch:=[it]) (fun b hb=>?_) (fun b o _ _ hc e _=>k b o (fun z=>hc (by simp[z])) e) (fun b o _ _ hc e _=>⟨o.slots,k b o (fun z=>hc (by simp[z])) e⟩) (fun _ _ _ _ n=>n)
  (fun b o hc e=>⟨o,k b o (fun z=>hc (by simp[z])) e⟩) (fun _ _ e=>e) (fun _ _ _ e=>e) (fun b ps e=>⟨#[],by rw[e]; simp⟩) (fun m hm=>?_) (fun b u e=>?_) I.bare
 ·have e:b=it:=by simpa using hb
  subst e
  exact⟨h1,hL,h2,h3⟩
 ·obtain⟨o,es,ep,ho,r⟩:=hm
  exact⟨o,es,ep,k _ o (Ne.symm hL) ho,r⟩
 ·refine(I.hok b u e).stay (fun c v hc q=>k c v ?_ q) (fun _ q=>q) fun _ _ q=>q
  rcases hc with z | z
  ·rw[z]; exact nit b u e
  ·exact nit c _ z
theorem Inv.tok(I:Inv X pins σ H s)(t:Nat):Inv X pins σ H { s with toks:=t }:=I.un (h':=s.heap) (t':=t) Un.refl I.hok
theorem Inv.kept{t':Nat}(I:Inv X pins σ H s)(k:∀ b u,s.heap.get? b=some u->h'.get? b=some u):Inv X pins σ H { s with heap:=h',toks:=t' }:=I.un (Un.kept k) (I.hok.kept k)
theorem Inv.laid{a:Addr}{o:HO}{t':Nat}(I:Inv X pins σ H s)(k:∀ b u,s.heap.get? b=some u->h'.get? b=some u)(hp:s.heap.objs.size<=a)(new:Jj X.prog X.w (upd H a o) h' a o):
  Inv X pins σ (upd H a o) { s with heap:=h',toks:=t' }:=I.un (Un.laid k hp (I.hok.fresh hp)) (I.hok.laid k hp new)
theorem Inv.write{x e:Addr}{o:HO}{t':Nat}(I:Inv X pins σ H s)(mu:Mut (H x))(he:e=x\/H e=some (.own x))(k:∀ b u,b≠e->s.heap.get? b=some u->h'.get? b=some u)(heo:∃ u,h'.get? e=some u)
  (new:Jj X.prog X.w (upd H x o) h' x o):Inv X pins σ (upd H x o) { s with heap:=h',toks:=t' }:=I.un (Un.write mu he k heo) (I.hok.write mu he k heo new)
theorem Inv.pins_of{pins':List (Addr×Obj)}(I:Inv X pins σ H s)(h:∀ p∈pins',s.heap.get? p.1=some p.2/\H p.1=none/\p.1≠X.env.locals/\p.1∉X.fs/\∀ v,p.2.data≠.cell v):Inv X pins' σ H s:=
 ⟨I.ok,I.os,I.bare,I.base,I.loc,I.cell,I.free,I.freeC,fun p hp=>(Be.mp hp).elim (fun z=>I.pin p (Bp _ z)) (h p),I.hok,I.len⟩
theorem Gbu{N:List Str}(hN:N.Nodup){i j:Nat}{x:Str}(a:N[i]?=some x)(b:N[j]?=some x):i=j:=by
 obtain⟨h1,e1⟩:=Ab.mp a
 obtain⟨h2,e2⟩:=Ab.mp b
 exact(List.getElem_inj hN).mp (e1.trans e2.symm)
theorem Gdw{M:Model}{A:Around}{E:Value->Shared->Prop}{i:Nat}{x:Str}{v:V}{u:Value}{Q:Unit->Shared->Prop}(I:Inv X pins σ H s)(hN:X.N.Nodup)(hi:X.N[i]?=some x)(hx:Loc X.env.scope x)(r:Gz v u)
  (h:∀ s',Inv X pins (σ.set i (some v)) H s'->(∃ a,Heap.SameBut a s.heap s'.heap/\(a=X.env.locals\/X.env.cells.lookup x=some a))->Q () s') (hf:X.fn x=true\/X.env.scope.names.lookup x=some .local:=by first | exact .inl rfl | exact .inr rfl | assumption):wpAny M A (storeName X.env x u) Q E s:=by
 obtain⟨m,hn,hl⟩:=id I.loc
 have hcls:(X.env.scope.kind==.class||(X.env.scope.kind==.module&&X.env.locals != X.env.globals))=false:=by rw[I.ok.kind]; rfl
 have hiσ:i<σ.length:=by rw[I.len]; exact(Ab.mp hi).1
 have cne:=I.cne
 have tracked:∀ {a:Addr} {h':Heap},(∃ o,s.heap.get? a=some o/\H a=none)->Heap.SameBut a s.heap h'->HOk X.prog X.w H h':=fun{a h'} ha hs b ob e=>by
  obtain⟨_,_,hfree⟩:=ha
  refine(I.hok b ob e).stay (fun c w' hc q=>(hs.2 c ?_).trans q) (fun _ q=>q) fun _ _ q=>q
  rintro rfl
  rcases hc with rfl | hc
  ·rw[hfree] at e; cases e
  ·rw[hfree] at hc; cases hc
 rcases hx with hk | hk
 ·refine wpAny_storeName_local hk hn (fun h' hn' hs=>?_) hcls
  obtain⟨oL,_,_,hoL,_⟩:=id hn
  refine h _ ⟨I.ok,I.os,I.bare,⟨fun b o e n hb hx=>?_,fun b o e n hb hx=>?_,I.base.free,fun b o e hx=>?_,I.base.tups,I.base.frzs,I.base.tbls⟩,⟨_,hn',fun j y v' e1 e2 e3=>?_⟩,fun y c e=>?_,I.free,I.freeC,fun p hp=>?_,tracked ⟨oL,hoL,I.free⟩ hs,by simpa using I.len⟩ ⟨_,hs,.inl rfl⟩
  ·exact(hs.2 b (At (Af (Ae e) I.ok.above))).trans (I.base.keep b o e n hb hx)
  ·obtain⟨sl,e1⟩:=I.base.slot b o e n hb hx
   exact⟨sl,(hs.2 b (At (Af (Ae e) I.ok.above))).trans e1⟩
  ·obtain⟨o',e1⟩:=I.base.there b o e hx
   exact⟨o',(hs.2 b (At (Af (Ae e) I.ok.above))).trans e1⟩
  ·by_cases hj:j=i
   ·subst hj
    rw[hi] at e1; cases e1
    rw[Av hiσ] at e2
    cases e2
    exact⟨u,r,.inl ⟨hk,by simp⟩⟩
   ·rw[Am (Ne.symm hj)] at e2
    obtain⟨u',r',q⟩:=hl j y v' e1 e2 e3
    refine⟨u',r',?_⟩
    rcases q with⟨k,e⟩ | ⟨k,c,e,z⟩
    ·refine .inl ⟨k,?_⟩
     have:y≠x:=fun e=>hj (Gbu hN e1 (e▸hi))
     simp[this,e]
    ·exact .inr ⟨k,c,e,z.sameBut hs (cne y c e)⟩
  ·obtain⟨w',z⟩:=I.cell y c e
   exact⟨w',z.sameBut hs (cne y c e)⟩
  ·obtain⟨e,n,ne,nf,d⟩:=I.pin p hp
   exact⟨(hs.2 p.1 ne).trans e,n,ne,nf,d⟩
 ·have hfn:X.fn x=true:=by
   rcases hf with z | z
   ·exact z
   ·rw[z] at hk; cases hk
  obtain⟨c,hc⟩:=I.ok.has x (.inl hk)
  obtain⟨w',z⟩:=I.cell x c hc
  refine wpAny_storeName_cell I.ok.kind hk hc z (fun h' hc' hs=>?_)
  obtain⟨oc,hoc,hocd⟩:=id z
  refine h { s with heap:=h' } ⟨I.ok,I.os,I.bare,⟨fun b o e n hb hx=>?_,fun b o e n hb hx=>?_,I.base.free,fun b o e hx=>?_,I.base.tups,I.base.frzs,I.base.tbls⟩,⟨m,hn.sameBut hs (Ne.symm (cne x c hc)),fun j y v' e1 e2 e3=>?_⟩,fun y c' e=>?_,I.free,I.freeC,fun p hp=>?_,tracked ⟨oc,hoc,I.freeC x c hc⟩ hs,by simpa using I.len⟩ ⟨c,hs,.inr hc⟩
  ·exact(hs.2 b (At (Af (Ae e) (I.ok.cab x c hfn hc)))).trans (I.base.keep b o e n hb hx)
  ·obtain⟨sl,e1⟩:=I.base.slot b o e n hb hx
   exact⟨sl,(hs.2 b (At (Af (Ae e) (I.ok.cab x c hfn hc)))).trans e1⟩
  ·obtain⟨o',e1⟩:=I.base.there b o e hx
   exact⟨o',(hs.2 b (At (Af (Ae e) (I.ok.cab x c hfn hc)))).trans e1⟩
  ·by_cases hj:j=i
   ·subst hj
    rw[hi] at e1; cases e1
    rw[Av hiσ] at e2
    cases e2
    exact⟨u,r,.inr ⟨.inl hk,c,hc,hc'⟩⟩
   ·rw[Am (Ne.symm hj)] at e2
    obtain⟨u',r',q⟩:=hl j y v' e1 e2 e3
    refine⟨u',r',?_⟩
    rcases q with q | ⟨k,c',e,z'⟩
    ·exact .inl q
    ·refine .inr ⟨k,c',e,z'.sameBut hs ?_⟩
     rintro rfl
     exact hj (Gbu hN e1 (I.ok.inj _ _ _ e hc▸hi))
  ·by_cases hcc:c'=c
   ·subst hcc; exact⟨_,hc'⟩
   ·obtain⟨w2,z2⟩:=I.cell y c' e
    exact⟨w2,z2.sameBut hs hcc⟩
  ·obtain⟨e,n,ne,nf,d⟩:=I.pin p hp
   refine⟨(hs.2 p.1 ?_).trans e,n,ne,nf,d⟩
   intro q
   rw[q,hoc] at e
   have q':oc=p.2:=Ac e
   exact d w' (by rw[<- q']; exact hocd)
theorem Uz{M:Model}{A:Around}{E:Value->Shared->Prop}{i:Nat}{x:Str}{v:V}{u:Value}{Q:Unit->Shared->Prop}(I:Inv X pins σ H s)(hN:X.N.Nodup)(hi:X.N[i]?=some x)(hx:Loc X.env.scope x)(r:Gz v u)
  (h:∀ s',Inv X pins (σ.set i (some v)) H s'->Q () s') (hf:X.fn x=true\/X.env.scope.names.lookup x=some .local:=by first | exact .inl rfl | exact .inr rfl | assumption):wpAny M A (storeName X.env x u) Q E s:=
 Gdw I hN hi hx r (fun s' I' _=>h s' I') hf
theorem Inv.call'{s':Shared}{ch:List Addr}(I:Inv X pins σ H s)(ho:s'.os=s.os)(u:Un (frs X.stack) ch H H' s.heap s'.heap)(hok:HOk X.prog X.w H' s'.heap)(hg:AllBare s'.gens)
  (hch:∀ b∈ch,(b∈X.ex\/X.s₀.heap.objs.size<=b)/\b≠X.env.locals/\(∀ x c,X.env.cells.lookup x=some c->c≠b)/\∀ p∈X.pn++pins,p.1≠b):Inv X pins σ H' s':=by
 obtain⟨h',g',d',t',o'⟩:=s'
 have e:o'=s.os:=ho
 subst e
 exact I.call (g':=g') (t':=t') (d':=d') u hok hg hch
end
noncomputable abbrev XK:=Value->Option Addr->Hp->Prop
noncomputable abbrev St:=List (Option V)
noncomputable abbrev VK:=V->Hp->Prop
noncomputable abbrev TE:=St->Hp->VK->Prop
noncomputable abbrev TT:=St->Hp->(Bool->Hp->Prop)->Prop
noncomputable abbrev TA:=St->Hp->(List V->Hp->Prop)->Prop
structure Ends where
 nx:St->Hp->Prop
 rt:VK
 bk:St->Hp->Prop:=fun _ _=>False
 ct:St->Hp->Prop:=fun _ _=>False
noncomputable abbrev TS:=Ends->St->Hp->Prop
noncomputable def EP(X:Cx)(pins:List (Addr×Obj))(σ:St)(Q:VK)(u:Value)(s':Shared):Prop:=∃ v H',Inv X pins σ H' s'/\Gz v u/\Q v H'
noncomputable def TP(X:Cx)(pins:List (Addr×Obj))(σ:St)(Q:Bool->Hp->Prop)(b:Bool)(s':Shared):Prop:=∃ H',Inv X pins σ H' s'/\Q b H'
noncomputable def AP(X:Cx)(pins:List (Addr×Obj))(σ:St)(Q:List V->Hp->Prop)(us:List Value)(s':Shared):Prop:=∃ vs H',Inv X pins σ H' s'/\Vals vs us/\Q vs H'
noncomputable def SP(X:Cx)(pins:List (Addr×Obj))(D:Ends)(f:Flow)(s':Shared):Prop:=
 match f with
 | .next=>∃ σ' H',Inv X pins σ' H' s'/\D.nx σ' H'
 | .brk=>∃ σ' H',Inv X pins σ' H' s'/\D.bk σ' H'
 | .cont=>∃ σ' H',Inv X pins σ' H' s'/\D.ct σ' H'
 | .ret u=>∃ v σ' H',Inv X pins σ' H' s'/\Gz v u/\D.rt v H'
noncomputable def PE(X:Cx)(e:Expr)(t:TE):Prop:=
 ∀ (pins:List (Addr×Obj)) (s:Shared) (σ:St) (H:Hp) (Q:VK),Inv X pins σ H s->t σ H Q->wpAny (model X.prog X.w) X.A (eval e X.env) (EP X pins σ Q) X.xe s
noncomputable def PT(X:Cx)(e:Expr)(t:TT):Prop:=
 ∀ (pins:List (Addr×Obj)) (s:Shared) (σ:St) (H:Hp) (Q:Bool->Hp->Prop),Inv X pins σ H s->t σ H Q->wpAny (model X.prog X.w) X.A (isTrue e X.env (eval e X.env)) (TP X pins σ Q) X.xe s
noncomputable def PW(X:Cx)(e:Expr)(t:TT):Prop:=
 ∀ (whole:Sem Value) (pins:List (Addr×Obj)) (s:Shared) (σ:St) (H:Hp) (Q:Bool->Hp->Prop),Inv X pins σ H s->t σ H Q->wpAny (model X.prog X.w) X.A (isTrue e X.env whole) (TP X pins σ Q) X.xe s
theorem PW.pt{X:Cx}{e:Expr}{t:TT}(h:PW X e t):PT X e t:=h _
noncomputable def PA(X:Cx)(es:List Expr)(t:TA):Prop:=
 ∀ (pos:Pos) (pins:List (Addr×Obj)) (s:Shared) (σ:St) (H:Hp) (Q:List V->Hp->Prop),Inv X pins σ H s->t σ H Q->wpAny (model X.prog X.w) X.A (spliced (backTo pos (starEach es X.env))) (AP X pins σ Q) X.xe s
noncomputable def PS(X:Cx)(st:Stmt)(t:TS):Prop:=
 ∀ (pins:List (Addr×Obj)) (s:Shared) (σ:St) (H:Hp) (D:Ends),Inv X pins σ H s->t D σ H->wpAny (model X.prog X.w) X.A (exec st X.env) (SP X pins D) X.xe s
noncomputable def PSs(X:Cx)(st:List Stmt)(t:TS):Prop:=
 ∀ (pins:List (Addr×Obj)) (s:Shared) (σ:St) (H:Hp) (D:Ends),Inv X pins σ H s->t D σ H->wpAny (model X.prog X.w) X.A (execs st X.env) (SP X pins D) X.xe s
theorem thn{α:Type}{t:Sem α}{Q Q':α->Shared->Prop}{M:Model}{A:Around}{E:Value->Shared->Prop}{s:Shared}(h:wpAny M A t Q E s)(hQ:∀ a s,Q a s->Q' a s):wpAny M A t Q' E s:=wpAny_mono h hQ fun _ _ x=>x
section
variable{X:Cx}
noncomputable def Gth(i:Nat):TE:=fun σ H Q=>∃ v,σ[i]?=some (some v)/\Q v H
noncomputable def tC(v:V):TE:=fun _ H Q=>Q v H
theorem Gej{i:Nat}{x:Str}{pos:Pos}(hN:X.N[i]?=some x)(hv:Vis X.env.scope x)(hd:(x==("__debug__":Str))=false:=by decide)(hcd:(x==("__classdict__":Str))=false:=by decide):PE X (.Name x pos) (Gth i):=by
 intro pins s σ H Q I h
 obtain⟨v,e,h⟩:=h
 obtain⟨m,hn,hl⟩:=I.loc
 obtain⟨u,r,l⟩:=hl i x v hN e hv
 have fin:EP X pins σ Q u s:=⟨v,H,I,r,h⟩
 rcases l with⟨hk,hm⟩ | ⟨hk,c,hc,hcell⟩
 ·exact wpAny_Name (wpAny_loadName_local I.ok.kind hk hn hm fin) hd
 ·rcases hk with hk | hk
  ·exact wpAny_Name (wpAny_loadName_cell I.ok.kind hk hc hcell fin) hd
  ·exact wpAny_Name (wpAny_loadName_free I.ok.kind hk hc hcell fin hcd) hd
theorem Gti{i j pos}:PE X (.Constant (.int i) j pos) (tC (.int i)):=fun _ _ _ H _ I h=>wpAny_Constant_int ⟨.int i,H,I.tok _,⟨_,rfl⟩,h⟩
theorem Gxn{b j pos}:PE X (.Constant (.bool b) j pos) (tC (.bl b)):=fun _ _ _ H _ I h=>Constant_bool ⟨.bl b,H,I,rfl,h⟩
theorem Gtj{j pos}:PE X (.Constant .none j pos) (tC .non):=fun _ _ _ H _ I h=>Constant_none ⟨.non,H,I,rfl,h⟩
theorem Gtk{x j pos}:PE X (.Constant (.str x) j pos) (tC (.str x)):=fun _ _ _ H _ I h=>Calls.Constant_str ⟨.str x,H,I.tok _,⟨_,rfl⟩,h⟩
noncomputable def Gl(X:Cx)(x:Str):Prop:=X.env.kindOf x=some .globalImplicit
theorem Xs{E:Value->Shared->Prop}{pins:List (Addr×Obj)}{s:Shared}{σ:St}{H:Hp}{x:Str}{u:Value}{pos:Pos}{Q:Value->Shared->Prop}(I:Inv X pins σ H s)(hg:Gl X x)(hm:X.mg x=some u)(h:Q u s)
  (hd:(x==("__debug__":Str))=false:=by decide):wpAny (model X.prog X.w) X.A (eval (.Name x pos) X.env) Q E s:=
 Calls.Name_function_global I.ok.kind hg (Calls.loadGlobal_global (by rw[I.ok.glob]; exact I.mod.glob.keeps I.bk) hm h) hd
theorem Vn{E:Value->Shared->Prop}{pins:List (Addr×Obj)}{s:Shared}{σ:St}{H:Hp}{x:Str}{u:Value}{pos:Pos}{Q:Value->Shared->Prop}(I:Inv X pins σ H s)(hg:Gl X x)(hm:X.mg x=none)(hv:bootBuiltins x=some u)(h:Q u s)
  (hn:x≠"__name__":=by decide) (hd:(x==("__debug__":Str))=false:=by decide):wpAny (model X.prog X.w) X.A (eval (.Name x pos) X.env) Q E s:=by
 obtain⟨mb,h1,h2⟩:=I.mod.blt
 exact Calls.Name_function_global I.ok.kind hg (Calls.loadGlobal_builtin (by rw[I.ok.glob]; exact I.mod.glob.keeps I.bk) hm (by rw[I.ok.blt]; exact h1.keeps I.bk) ((h2 x hn).trans hv) h) hd
theorem Gek{x:Str}{v:V}{u:Value}{pos:Pos}(hg:Gl X x)(hm:X.mg x=some u)(r:Gz v u)(hd:(x==("__debug__":Str))=false:=by decide):PE X (.Name x pos) (tC v):=
 fun _ _ _ H _ I h=>Xs I hg hm ⟨v,H,I,r,h⟩ hd
theorem Gi3{x:Str}{v:V}{u:Value}{pos:Pos}(hg:Gl X x)(hm:X.mg x=none)(hv:bootBuiltins x=some u)(r:Gz v u)(hn:x≠"__name__":=by decide)(hd:(x==("__debug__":Str))=false:=by decide):PE X (.Name x pos) (tC v):=
 fun _ _ _ H _ I h=>Vn I hg hm hv ⟨v,H,I,r,h⟩ hn hd
variable{a b:Expr}{ta tb:TE}{pos:Pos}
variable{tA tB':TT}{rest:List Expr}
noncomputable def Hab(t u:TT):TT:=fun σ H Q=>t σ H fun c H1=>if c=true then u σ H1 Q else Q false H1
noncomputable def tOr(t u:TT):TT:=fun σ H Q=>t σ H fun c H1=>if c=true then Q true H1 else u σ H1 Q
noncomputable def Hac(t:TT):TT:=fun σ H Q=>t σ H fun c H1=>Q (!c) H1
theorem Go2(ha:PT X a tA):PW X (.BoolOp .And [a] pos) tA:=by
 intro wh pins s σ H Q I h
 refine isTrue_and (thn (ha pins s σ H Q I h) fun c s1 e=>?_)
 cases c with
 | true=>exact isTrue_and_nil e
 | false=>exact e
theorem Gtl(ha:PT X a tA):PW X (.BoolOp .Or [a] pos) tA:=by
 intro wh pins s σ H Q I h
 refine isTrue_or (thn (ha pins s σ H Q I h) fun c s1 e=>?_)
 cases c with
 | false=>exact isTrue_or_nil e
 | true=>exact e
theorem Gtm(ha:PT X a tA)(hb:PW X (.BoolOp .And (b::rest) pos) tB'):PW X (.BoolOp .And (a::b::rest) pos) (Hab tA tB'):=by
 intro wh pins s σ H Q I h
 refine isTrue_and (thn (ha pins s σ H _ I h) fun c s1 zq0=>?_)
 obtain⟨H1,I1,q1⟩:=zq0
 cases c with
 | true=>exact hb wh pins s1 σ H1 Q I1 q1
 | false=>exact⟨H1,I1,q1⟩
theorem Gxo(ha:PT X a tA)(hb:PW X (.BoolOp .Or (b::rest) pos) tB'):PW X (.BoolOp .Or (a::b::rest) pos) (tOr tA tB'):=by
 intro wh pins s σ H Q I h
 refine isTrue_or (thn (ha pins s σ H _ I h) fun c s1 zq0=>?_)
 obtain⟨H1,I1,q1⟩:=zq0
 cases c with
 | true=>exact⟨H1,I1,q1⟩
 | false=>exact hb wh pins s1 σ H1 Q I1 q1
theorem Gtn(ha:PT X a tA):PT X (.UnaryOp .Not a pos) (Hac tA):=by
 intro pins s σ H Q I h
 exact isTrue_not (ha pins s σ H (fun c H1=>Q (!c) H1) I h)
noncomputable def Gxp(ta tb:TE):TE:=fun σ H Q=>ta σ H fun x H1=>∃ c,x=.bl c/\if c=true then tb σ H1 Q else Q (.bl false) H1
noncomputable def Gxq(ta:TE):TE:=fun σ H Q=>ta σ H fun x H1=>∃ c,x=.bl c/\Q (.bl (!c)) H1
theorem Gto{op}{t:TE}(h:PE X a t):PE X (.BoolOp op [a] pos) t:=fun pins s σ H Q I hw=>BoolOp_one (h pins s σ H Q I hw)
theorem Gtp(ha:PE X a ta)(hb:PE X (.BoolOp .And (b::rest) pos) tb):PE X (.BoolOp .And (a::b::rest) pos) (Gxp ta tb):=by
 intro pins s σ H Q I h
 refine BoolOp_and (thn (ha pins s σ H _ I h) fun v s1 zq0=>?_)
 obtain⟨x,H1,I1,r1,q1⟩:=zq0
 obtain⟨c,rfl,q1⟩:=q1
 cases r1
 refine wpAny_truthy_bool ?_
 cases c with
 | true=>exact hb pins s1 σ H1 Q I1 q1
 | false=>exact⟨.bl false,H1,I1,rfl,q1⟩
theorem Gtq(ha:PE X a ta):PE X (.UnaryOp .Not a pos) (Gxq ta):=by
 intro pins s σ H Q I h
 refine UnaryOp_ (thn (ha pins s σ H _ I h) fun v s1 zq0=>?_)
 obtain⟨x,H1,I1,r1,q1⟩:=zq0
 obtain⟨c,rfl,q1⟩:=q1
 cases r1
 exact not_of (wpAny_truthy_bool ⟨.bl (!c),H1,I1,rfl,q1⟩)
noncomputable def tIf(t:TT)(ta tb:TE):TE:=fun σ H Q=>t σ H fun c H1=>if c=true then ta σ H1 Q else tb σ H1 Q
theorem Glv{c:Expr}(hc:PT X c tA)(ha:PE X a ta)(hb:PE X b tb):PE X (.IfExp c a b pos) (tIf tA ta tb):=by
 intro pins s σ H Q I h
 refine wpAny_IfExp (thn (hc pins s σ H _ I h) fun d s1 zq0=>?_)
 obtain⟨H1,I1,q1⟩:=zq0
 cases d with
 | true=>exact ha pins s1 σ H1 Q I1 q1
 | false=>exact hb pins s1 σ H1 Q I1 q1
end
noncomputable def SqL(K:PySem.W.Frag)(H:Hp)(a:Addr)(xs:List V):Prop:=
 Rd H a (.lst xs)∨
  ∃ (o:Obj) (its:Array Value) (n:Nat),K.lookup a=some o/\o.cls=.type "list"/\o.dict=none/\o.data=.seq its n/\its.size<=sizeLine/\Vals xs its.toList
noncomputable def SqT(K:PySem.W.Frag)(H:Hp)(a:Addr)(xs:List V):Prop:=
 Rd H a (.tup xs)∨
  ∃ (o:Obj) (its:Array Value) (n:Nat),K.lookup a=some o/\o.cls=.type "tuple"/\o.data=.seq its n/\its.size<=sizeLine/\Vals xs its.toList
noncomputable def Had:Value->Option V
 | .none=>some .non
 | .bool b=>some (.bl b)
 | .int i _=>some (.int i)
 | .str x _=>some (.str x)
 | .bytes b _=>some (.byt b)
 | .float b _=>some (.flt b)
 | .ref a=>some (.ref a)
 | .type n=>some (.ty n)
 | _=>none
theorem Gz.abs{x:V}{u:Value}(r:Gz x u):Had u=some x:=by
 cases x with
 | non=>cases r; rfl
 | bl _=>cases r; rfl
 | int _=>obtain⟨t,rfl⟩:=r; rfl
 | str _=>obtain⟨t,rfl⟩:=r; rfl
 | byt _=>obtain⟨t,rfl⟩:=r; rfl
 | flt _=>obtain⟨t,rfl⟩:=r; rfl
 | ref _=>cases r; rfl
 | ty _=>cases r; rfl
theorem Gz.inj{x y:V}{u:Value}(r:Gz x u)(q:Gz y u):x=y:=Ac (r.abs.symm.trans q.abs)
theorem Vals.inj:∀ {xs ys:List V} {us:List Value},Vals xs us->Vals ys us->xs=ys
 | _,_,_,.nil,.nil=>rfl
 | _,_,_,.cons r t,.cons r' t'=>by rw[r.inj r',Vals.inj t t']
section
variable{X:Cx}{pins:List (Addr×Obj)}{σ:St}{H:Hp}{s:Shared}{a:Addr}{xs ys:List V}
theorem SqL.of{K:PySem.W.Frag}(h:H a=some (.lst xs)):SqL K H a xs:=.inl (.inl h)
theorem SqT.of{K:PySem.W.Frag}(h:H a=some (.tup xs)):SqT K H a xs:=.inl (.inl h)
theorem Inv.list(I:Inv X pins σ H s)(h:SqL X.K H a xs):∃ its:List Value,Vals xs its/\PlainL s.heap a its.toArray/\xs.length<=sizeLine:=by
 rcases h with h | ⟨o,its,n,hk,hc,hd,hs,hz,r⟩
 ·obtain⟨z,its,n,r,e⟩:=h.ok I.hok
  exact⟨its,r,⟨_,n,e,rfl,rfl,rfl⟩,z⟩
 ·refine⟨its.toList,r,⟨o,n,I.kIn a o hk,hc,hd,by simpa using hs⟩,?_⟩
  have e:=r.length
  simp only[Array.length_toList] at e
  omega
theorem Inv.tuple(I:Inv X pins σ H s)(h:SqT X.K H a xs):∃ its:List Value,Vals xs its/\IsTup s.heap a its.toArray/\xs.length<=sizeLine:=by
 rcases h with h | ⟨o,its,n,hk,hc,hs,hz,r⟩
 ·obtain⟨z,its,r,p⟩:=h.ok I.hok
  exact⟨its,r,p,z⟩
 ·refine⟨its.toList,r,⟨o,I.kIn a o hk,hc,n,by simpa using hs⟩,?_⟩
  have e:=r.length
  simp only[Array.length_toList] at e
  omega
theorem Inv.list_inj(I:Inv X pins σ H s)(h:SqL X.K H a xs)(h':SqL X.K H a ys):xs=ys:=by
 obtain⟨its,r,⟨o,n,e,_,_,d⟩,_⟩:=I.list h
 obtain⟨its',r',⟨o',n',e',_,_,d'⟩,_⟩:=I.list h'
 rw[e] at e'; cases e'
 rw[d] at d'
 injection d' with d1 _
 have:its=its':=by simpa using congrArg Array.toList d1
 subst this
 exact r.inj r'
theorem Inv.tuple_inj(I:Inv X pins σ H s)(h:SqT X.K H a xs)(h':SqT X.K H a ys):xs=ys:=by
 obtain⟨its,r,⟨o,e,_,n,d⟩,_⟩:=I.tuple h
 obtain⟨its',r',⟨o',e',_,n',d'⟩,_⟩:=I.tuple h'
 rw[e] at e'; cases e'
 rw[d] at d'
 injection d' with d1 _
 have:its=its':=by simpa using congrArg Array.toList d1
 subst this
 exact r.inj r'
end
noncomputable abbrev Cx.wish(X:Cx)(E:Value->Shared->Prop):Cx:={ X with xe:=E }
noncomputable abbrev Cx.nox(X:Cx):Cx:=X.wish fun _ _=>False
theorem Cx.Ok.wish{X:Cx}(ok:X.Ok)(E:Value->Shared->Prop):(X.wish E).Ok:=
 ⟨ok.mod,ok.kind,ok.glob,ok.blt,ok.above,ok.inj,ok.has,ok.cab,ok.hd,ok.frames,ok.stk,ok.exf,ok.bs,ok.bsz,ok.noex,ok.exfs,ok.funs,ok.frf⟩
theorem Cx.Ok.unwish{X:Cx}{E:Value->Shared->Prop}(ok:(X.wish E).Ok):X.Ok:=
 ⟨ok.mod,ok.kind,ok.glob,ok.blt,ok.above,ok.inj,ok.has,ok.cab,ok.hd,ok.frames,ok.stk,ok.exf,ok.bs,ok.bsz,ok.noex,ok.exfs,ok.funs,ok.frf⟩
section
variable{X:Cx}{pins:List (Addr×Obj)}{σ:St}{H:Hp}{s:Shared}{E:Value->Shared->Prop}
theorem Inv.wish(I:Inv X pins σ H s)(E:Value->Shared->Prop):Inv (X.wish E) pins σ H s:=⟨I.ok.wish E,I.os,I.bare,I.base,I.loc,I.cell,I.free,I.freeC,I.pin,I.hok,I.len⟩
theorem Inv.unwish(I:Inv (X.wish E) pins σ H s):Inv X pins σ H s:=⟨I.ok.unwish,I.os,I.bare,I.base,I.loc,I.cell,I.free,I.freeC,I.pin,I.hok,I.len⟩
theorem SP.unwish{D:Ends}{f:Flow}{s':Shared}(h:SP (X.wish E) pins D f s'):SP X pins D f s':=by
 cases f with
 | next=>obtain⟨σ',H',I,q⟩:=h; exact⟨σ',H',I.unwish,q⟩
 | brk=>obtain⟨σ',H',I,q⟩:=h; exact⟨σ',H',I.unwish,q⟩
 | cont=>obtain⟨σ',H',I,q⟩:=h; exact⟨σ',H',I.unwish,q⟩
 | ret u=>obtain⟨v,σ',H',I,r,q⟩:=h; exact⟨v,σ',H',I.unwish,r,q⟩
theorem PSs.nox{st:List Stmt}{t:TS}(h:PSs X.nox st t):PSs X st t:=fun pins s σ H D I hw=>
 wpAny_mono (h pins s σ H D (I.wish _) hw) (fun _ _ q=>q.unwish) fun _ _ z=>False.elim z
end
section
variable{X:Cx}{st:Stmt}{rest:List Stmt}{t u:TS}{e:Expr}{te:TE}{pos:Pos}
noncomputable def Gxr:TS:=fun D σ H=>D.nx σ H
noncomputable def Hae(t u:TS):TS:=fun D σ H=>t { D with nx:=u D } σ H
theorem Go3:PSs X [] Gxr:=fun _ _ σ H _ I h=>wpAny_execs_nil ⟨σ,H,I,h⟩
theorem Glw(h1:PS X st t)(h2:PSs X rest u):PSs X (st::rest) (Hae t u):=by
 intro pins s σ H D I h
 refine wpAny_execs_cons (thn (h1 pins s σ H { D with nx:=u D } I h) fun f s1 q=>?_)
 cases f with
 | next=>
  obtain⟨σ',H',I',q⟩:=q
  exact h2 pins s1 σ' H' D I' q
 | ret v=>exact q
 | brk=>exact q
 | cont=>exact q
theorem Gi4(h1:PS X st t):PSs X [st] t:=by
 intro pins s σ H D I h
 refine wpAny_execs_cons (thn (h1 pins s σ H D I h) fun f s1 q=>?_)
 cases f with
 | next=>exact wpAny_execs_nil q
 | ret v=>exact q
 | brk=>exact q
 | cont=>exact q
noncomputable def Gxs:TS:=fun D σ H=>D.ct σ H
theorem Ggc:PS X (.Continue pos) Gxs:=fun _ _ σ H _ I h=>wpAny_Continue ⟨σ,H,I,h⟩
theorem Inv.quiet{pins:List (Addr×Obj)}{σ:St}{H:Hp}{s:Shared}(I:Inv X pins σ H s):interactive X.env=false:=by simp[interactive,I.ok.kind]
noncomputable def Gsf(te:TE):TS:=fun D σ H=>te σ H fun _ H1=>D.nx σ H1
theorem Gi5(he:PE X e te)(hs:swapsWith e none pos.line X.env=pure false:=by rfl):PS X (.Expr e pos) (Gsf te):=by
 intro pins s σ H D I h
 exact wpAny_Expr_any (thn (he pins s σ H _ I h) fun v s1 ⟨x,H1,I1,r1,q1⟩=>⟨σ,H1,I1,q1⟩) I.quiet hs
noncomputable def Haf(te:TE):TS:=fun D σ H=>te σ H D.rt
theorem Gtr(he:PE X e te):PS X (.Return (some e) pos) (Haf te):=by
 intro pins s σ H D I h
 exact wpAny_Return_some (thn (he pins s σ H _ I h) fun v s1 ⟨x,H1,I1,r1,q1⟩=>⟨x,σ,H1,I1,r1,q1⟩)
noncomputable def Hag(c:TT)(t u:TS):TS:=fun D σ H=>c σ H fun b H1=>if b=true then t D σ H1 else u D σ H1
theorem Gxt{c:Expr}{a b:List Stmt}{tc:TT}(hc:PT X c tc)(ha:PSs X a t)(hb:PSs X b u):PS X (.If c a b pos) (Hag tc t u):=by
 intro pins s σ H D I h
 refine wpAny_If (thn (hc pins s σ H _ I h) fun d s1 zq0=>?_)
 obtain⟨H1,I1,q1⟩:=zq0
 cases d with
 | true=>exact ha pins s1 σ H1 D I1 q1
 | false=>exact hb pins s1 σ H1 D I1 q1
end
noncomputable abbrev TG:=V->St->Hp->(St->Hp->Prop)->Prop
noncomputable abbrev TGs:=List V->St->Hp->(St->Hp->Prop)->Prop
noncomputable def PG(X:Cx)(target:Expr)(t:TG):Prop:=
 ∀ (pins:List (Addr×Obj)) (s:Shared) (σ:St) (H:Hp) (v:V) (u:Value) (Q:St->Hp->Prop),Inv X pins σ H s->Gz v u->t v σ H Q→
  wpAny (model X.prog X.w) X.A (assign target X.env u) (fun _ s'=>∃ σ' H',Inv X pins σ' H' s'/\Q σ' H') X.xe s
noncomputable def PGs(X:Cx)(ts:List Expr)(t:TGs):Prop:=
 ∀ (pins:List (Addr×Obj)) (s:Shared) (σ:St) (H:Hp) (vs:List V) (us:List Value) (Q:St->Hp->Prop),Inv X pins σ H s->Vals vs us->t vs σ H Q→
  wpAny (model X.prog X.w) X.A (assignInOrder ((assignEach ts X.env).map (·.2)) us) (fun _ s'=>∃ σ' H',Inv X pins σ' H' s'/\Q σ' H') X.xe s
noncomputable abbrev Gku:=V->V->V->Hp->(Hp->Prop)->Prop
noncomputable def Go4(X:Cx)(t:Gku):Prop:=
 ∀ (pins:List (Addr×Obj)) (s:Shared) (σ:St) (H:Hp) (o i v:V) (ov iv u:Value) (Q:Hp->Prop),Inv X pins σ H s->Gz o ov->Gz i iv->Gz v u->t o i v H Q→
  wpAny (model X.prog X.w) X.A (setItem ov iv u) (fun _ s'=>∃ H',Inv X pins σ H' s'/\Q H') X.xe s
noncomputable abbrev TIp:=V->V->Hp->VK->Prop
noncomputable def PIp(X:Cx)(op:Operator)(t:TIp):Prop:=
 ∀ (pins:List (Addr×Obj)) (s:Shared) (σ:St) (H:Hp) (x y:V) (v u:Value) (Q:VK),Inv X pins σ H s->Gz x v->Gz y u->t x y H Q→
  wpAny (model X.prog X.w) X.A (inplaceOp op v u) (EP X pins σ Q) X.xe s
section
variable{X:Cx}{pos:Pos}
noncomputable def gName(i:Nat):TG:=fun v σ H Q=>Q (σ.set i (some v)) H
theorem Go5{i:Nat}{x:Str}(hN:X.N.Nodup)(hi:X.N[i]?=some x)(hx:Loc X.env.scope x)(hf:X.fn x=true\/X.env.scope.names.lookup x=some .local:=by first | exact .inl rfl | exact .inr rfl | assumption):PG X (.Name x pos) (gName i):=by
 intro pins s σ H v u Q I r h
 exact wpAny_assign_Name (Uz I hN hi hx r (fun s' I'=>⟨_,H,I',h⟩) hf)
noncomputable def Hah:TGs:=fun vs σ H Q=>vs=[]/\Q σ H
noncomputable def Gxu(t:TG)(u:TGs):TGs:=fun vs σ H Q=>∃ v r,vs=v::r/\t v σ H fun σ' H'=>u r σ' H' Q
theorem Go6:PGs X [] Hah:=by
 intro pins s σ H vs us Q I r h
 obtain⟨e,h⟩:=h
 subst e
 cases r
 exact assignInOrder_nil ⟨σ,H,I,h⟩
theorem Glx{e:Expr}{es:List Expr}{t:TG}{u:TGs}(h1:PG X e t)(h2:PGs X es u)
  (hs:(assignEach (e::es) X.env).map (·.2)=assign e X.env::(assignEach es X.env).map (·.2):=by rfl):PGs X (e::es) (Gxu t u):=by
 intro pins s σ H vs us Q I r h
 obtain⟨v,vr,e1,h⟩:=h
 subst e1
 cases r with
 | cons r rr=>
  rw[hs]
  refine assignInOrder_cons (thn (h1 pins s σ H _ _ _ I r h) fun _ s1 zq0=>?_)
  obtain⟨σ1,H1,I1,q1⟩:=zq0
  exact h2 pins s1 σ1 H1 _ _ Q I1 rr q1
noncomputable def Hai(K:PySem.W.Frag)(n:Nat)(t:TGs):TG:=fun v σ H Q=>∃ a xs,v=.ref a/\SqT K H a xs/\xs.length=n/\t xs σ H Q
theorem Gts{es:List Expr}{k:Nat}{t:TGs}{n:Nat}(hc:X.calm=true)(h:PGs X es t)
  (hn:(assignEach es X.env).length=n:=by rfl) (hst:(assignEach es X.env).findIdx? (·.1)=none:=by rfl):PG X (.Tuple es k pos) (Hai X.K n t):=by
 intro pins s σ H v u Q I r hw
 obtain⟨a,xs,e1,hq,hl,hw⟩:=hw
 subst e1
 cases r
 obtain⟨its,rv,ht,hz⟩:=I.tuple hq
 refine assign_Tuple_tuple (I.ok.hd hc) ht (by simp[hn,<- hl,rv.length]) hst fun h' hx=>?_
 have I1:Inv X pins σ H { s with heap:=h' }:=I.kept (t':=s.toks) fun b o e=>hx b o (At (Ae e)) e
 exact h pins _ σ H xs _ Q I1 (by simpa using rv) hw
noncomputable def Haj(to ti:TE)(t:Gku):TG:=fun v σ H Q=>to σ H fun o H1=>ti σ H1 fun i H2=>t o i v H2 fun H3=>Q σ H3
theorem Gtt{o i:Expr}{to ti:TE}{t:Gku}(ho:PE X o to)(hi:PE X i ti)(hs:Go4 X t)
  (ha:∀ v,assign (.Subscript o i pos) X.env v=(do
   let ov <- holding [v] (eval o X.env)
   let iv <- holding [v,ov] (eval i X.env)
   standAt pos
   holding [v,ov,iv] (setItem ov iv v)
   release [v,ov,iv] []):=by intro _; rfl):PG X (.Subscript o i pos) (Haj to ti t):=by
 intro pins s σ H v u Q I r h
 rw[ha]
 refine wpAny_bind (wpAny_holding (thn (ho pins s σ H _ I h) fun ov s1 zq0=>?_))
 obtain⟨x,H1,I1,r1,q1⟩:=zq0
 refine wpAny_bind (wpAny_holding (thn (hi pins s1 σ H1 _ I1 q1) fun iv s2 zq0=>?_))
 obtain⟨y,H2,I2,r2,q2⟩:=zq0
 refine wpAny_bind (wpAny_standAt (wpAny_bind (wpAny_holding (thn (hs pins s2 σ H2 x y v ov iv u _ I2 r1 r2 r q2) fun _ s3 zq0=>?_))))
 obtain⟨H3,I3,q3⟩:=zq0
 exact wpAny_release ⟨σ,H3,I3,q3⟩
noncomputable def Go7(te:TE)(g:TG):TS:=fun D σ H=>te σ H fun x H1=>g x σ H1 D.nx
theorem Gly{tg e:Expr}{te:TE}{g:TG}(he:PE X e te)(hg:PG X tg g)(hs:swapsWithSole [tg] e pos.line X.env=pure false:=by rfl)(hw:swappedStores [tg] e X.env=pure none:=by rfl)
  (h1:(assignEach [tg] X.env).map (·.2)=[assign tg X.env]:=by rfl):PS X (.Assign [tg] e pos) (Go7 te g):=by
 intro pins s σ H D I h
 refine wpAny_Assign_stores (thn (he pins s σ H _ I h) fun v s1 zq0=>?_) hs hw
 obtain⟨x,H1,I1,r1,q1⟩:=zq0
 rw[h1]
 exact thn (hg pins s1 σ H1 x v _ I1 r1 q1) fun _ s2 q=>q
theorem Gtu{i:Nat}{x:Str}{e:Expr}{te:TE}{pos':Pos}(hN:X.N.Nodup)(hi:X.N[i]?=some x)(hx:Loc X.env.scope x)(he:PE X e te)(hs:swapsWith e (some (.Name x pos')) pos.line X.env=pure false:=by rfl)(hf:X.fn x=true\/X.env.scope.names.lookup x=some .local:=by first | exact .inl rfl | exact .inr rfl | assumption):
  PS X (.Assign [.Name x pos'] e pos) (Go7 te (gName i)):=by
 intro pins s σ H D I h
 refine wpAny_Assign_Name (thn (he pins s σ H _ I h) fun v s1 zq0=>?_) hs
 obtain⟨y,H1,I1,r1,q1⟩:=zq0
 exact Uz I1 hN hi hx r1 (fun s2 I2=>⟨_,H1,I2,q1⟩) hf
noncomputable def Hak(i j:Nat)(ta:TA):TS:=fun D σ H=>ta σ H fun vs H1=>∃ v w,vs=[v,w]/\D.nx ((σ.set i (some v)).set j (some w)) H1
theorem Gtv{i j:Nat}{x y:Str}{a b:Expr}{ta:TA}{px py pt:Pos}{kt k2 pt2}(hc:X.calm=true)(hN:X.N.Nodup)(hi:X.N[i]?=some x)(hj:X.N[j]?=some y)(hij:i≠j)
  (hx:X.env.scope.names.lookup x=some .local) (hy:X.env.scope.names.lookup y=some .local) (ha:PA X [a,b] ta)
  (hw:swappedStores [.Tuple [.Name x px,.Name y py] kt pt] (.Tuple [a,b] k2 pt2) X.env=pure (some [x,y]))
  (hs:swapsWithSole [.Tuple [.Name x px,.Name y py] kt pt] (.Tuple [a,b] k2 pt2) pos.line X.env=pure false:=by rfl):
  PS X (.Assign [.Tuple [.Name x px,.Name y py] kt pt] (.Tuple [a,b] k2 pt2) pos) (Hak i j ta):=by
 intro pins s σ H D I h
 rw[exec_Assign_arm]
 refine wpAny_bind (wpAny_standAt ?_)
 rw[hs]
 refine wpAny_bind (wpAny_pure ?_)
 rw[if_neg (by decide)]
 refine wpAny_bind (Tuple_ (thn (ha _ pins s σ H _ I h) fun us s1 zq0=>?_))
 obtain⟨vs,H1,I1,r1,q1⟩:=zq0
 obtain⟨v,w,e1,q1⟩:=q1
 subst e1
 obtain⟨u1,u2,rfl,rv,rw'⟩:∃ u1 u2,us=[u1,u2]/\Gz v u1/\Gz w u2:=by
  cases r1 with
  | cons p q=>
   cases q with
   | cons p' q'=>
    cases q'
    exact⟨_,_,rfl,p,p'⟩
 refine wpAny_newObj_type ?_ (by show 2<=sizeLine; decide)
 have I2:Inv X pins σ H1 { s1 with heap:=s1.heap.push { cls:=.type "tuple",data:=.seq [u1,u2].toArray } }:=I1.kept (t':=s1.toks) fun b o e=>Ah _ e
 rw[hw]
 refine wpAny_bind (wpAny_pure ?_)
 show wpAny (model X.prog X.w) X.A (do rule "assign.swapped-stores"; let items <- unpackItems (.ref s1.heap.objs.size) 2 none; assignInOrder [fun v=>bindName X.env y v,fun v=>bindName X.env x v] items.reverse; pure Flow.next) _ _ _
 refine wpAny_bind (wpAny_rule (wpAny_bind (unpackItems_tuple (items:=#[u1,u2]) (I.ok.hd hc) (IsTup.new s1.heap _) fun h' hx'=>?_)))
 have I3:=I2.kept (h':=h') (t':=s1.toks) fun b o e=>hx' b o (At (Ae e)) e
 show wpAny _ _ (assignInOrder [fun v=>bindName X.env y v,fun v=>bindName X.env x v] [u2,u1] >>= fun _=>pure Flow.next) _ _ _
 refine wpAny_bind (assignInOrder_cons (wpAny_bindName (Uz I3 hN hj (.inl hy) rw' (fun s2 I4=>?_) (.inr hy))))
 refine assignInOrder_cons (wpAny_bindName (Uz I4 hN hi (.inl hx) rv (fun s3 I5=>assignInOrder_nil (wpAny_pure ?_)) (.inr hx)))
 rw[List.set_comm _ _ (Ne.symm hij)] at I5
 exact⟨_,H1,I5,q1⟩
noncomputable def Gxv(i:Nat)(te:TE)(ti:TIp):TS:=fun D σ H=>∃ x,σ[i]?=some (some x)/\te σ H fun y H1=>ti x y H1 fun z H2=>D.nx (σ.set i (some z)) H2
theorem Gtw{i:Nat}{x:Str}{e:Expr}{te:TE}{op:Operator}{ti:TIp}{pos':Pos}(hN:X.N.Nodup)(hi:X.N[i]?=some x)(hx:Loc X.env.scope x)(he:PE X e te)(ho:PIp X op ti)(hf:X.fn x=true\/X.env.scope.names.lookup x=some .local:=by first | exact .inl rfl | exact .inr rfl | assumption):
  PS X (.AugAssign (.Name x pos') op e pos) (Gxv i te ti):=by
 intro pins s σ H D I h
 obtain⟨v,e1,h⟩:=h
 obtain⟨m,hn,hl⟩:=I.loc
 have vis:Vis X.env.scope x:=by rcases hx with k | k; exact .inl k; exact .inr (.inl k)
 obtain⟨u,r,l⟩:=hl i x v hi e1 vis
 refine wpAny_AugAssign_Name ?_
 have go:wpAny (model X.prog X.w) X.A (eval e X.env) (fun w s₂=>wpAny (model X.prog X.w) X.A (inplaceOp op u w) (fun r s₃=>wpAny (model X.prog X.w) X.A (storeName X.env x r) (fun _=>SP X pins D .next) X.xe s₃) X.xe s₂) X.xe s:=by
  refine thn (he pins s σ H _ I h) fun w s1 zq0=>?_
  obtain⟨y,H1,I1,r1,q1⟩:=zq0
  refine thn (ho pins s1 σ H1 v y u w _ I1 r r1 q1) fun z s2 zq0=>?_
  obtain⟨zv,H2,I2,r2,q2⟩:=zq0
  exact Uz I2 hN hi hx r2 (fun s3 I3=>⟨_,H2,I3,q2⟩) hf
 rcases l with⟨hk,hm⟩ | ⟨hk,c,hc,hcell⟩
 ·exact wpAny_loadName_local I.ok.kind hk hn hm go
 ·rcases hk with hk | hk
  ·exact wpAny_loadName_cell I.ok.kind hk hc hcell go
  ·rcases hx with k | k
   ·have:X.env.scope.names.lookup x=some .free:=hk
    rw[k] at this; cases this
   ·have:X.env.scope.names.lookup x=some .free:=hk
    rw[k] at this; cases this
noncomputable def ipI(f:Int->Int->Int):TIp:=fun x y H Q=>∃ i j,x=.int i/\y=.int j/\Q (.int (f i j)) H
theorem Gtx:PIp X .Add (ipI fun i j=>i+j):=by
 intro pins s σ H x y v u Q I r1 r2 h
 obtain⟨i,j,e1,e2,q⟩:=h
 subst e1; subst e2
 obtain⟨t,rfl⟩:=r1
 obtain⟨t',rfl⟩:=r2
 exact iadd_int ⟨.int _,H,I.tok _,⟨_,rfl⟩,q⟩
end
section
variable{X:Cx}{pos:Pos}
noncomputable def Gty(c:TT)(tb:TS):TS:=fun D σ H=>∃ W:Nat->St->Hp->Prop,(∃ m,W m σ H)/\∀ m σ H,W m σ H→
 c σ H fun b H1=>if b=true then ∃ N:St->Hp->Prop,(∀ σ' H',N σ' H'->∃ m',m'<m/\W m' σ' H')/\tb { D with nx:=N,ct:=N,bk:=D.nx } σ H1 else D.nx σ H1
theorem Glz{c:Expr}{body:List Stmt}{tc:TT}{tb:TS}(hp:PassesOwn (model X.prog X.w) X.A X.env X.xe)(hc:PT X c tc)(hb:PSs X body tb):PS X (.While c body [] pos) (Gty tc tb):=by
 intro pins s σ H D I h
 obtain⟨W,⟨m0,w0⟩,turn⟩:=h
 refine wpAny_While (codeAny_whileLoop (fun n s'=>∃ σ' H',Inv X pins σ' H' s'/\W n σ' H') ?_ m0 ⟨σ,H,I,w0⟩)
 rintro n s1 ⟨σ1,H1,I1,w1⟩
 refine wpAny_passesOwn hp (thn (hc pins s1 σ1 H1 _ I1 (turn n σ1 H1 w1)) fun b s2 zq0=>?_)
 obtain⟨H2,I2,q2⟩:=zq0
 cases b with
 | true=>
  obtain⟨N,hN,q2⟩:=q2
  rw[if_pos rfl]
  refine wpAny_passesOwn hp (thn (hb pins s2 σ1 H2 _ I2 q2) fun f s3 q3=>?_)
  cases f with
  | next=>
   obtain⟨σ3,H3,I3,n3⟩:=q3
   obtain⟨m',hm,w3⟩:=hN σ3 H3 n3
   exact⟨m',hm,σ3,H3,I3,w3⟩
  | cont=>
   obtain⟨σ3,H3,I3,n3⟩:=q3
   obtain⟨m',hm,w3⟩:=hN σ3 H3 n3
   exact⟨m',hm,σ3,H3,I3,w3⟩
  | brk=>exact q3
  | ret v=>exact q3
 | false=>
  rw[if_neg Ap]
  exact wpAny_execs_nil ⟨σ1,H2,I2,q2⟩
end
structure It where
 go:Nat->Hp->Prop
 yld:Nat->Hp->V->Hp->Prop
 stop:Nat->Hp->Prop
noncomputable def Gda(X:Cx)(pins:List (Addr×Obj))(H:Hp)(b:Addr):Prop:=
 H b=none/\b≠X.env.locals/\b∉X.fs/\(b∈X.ex\/X.s₀.heap.objs.size<=b)/\(∀ x c,X.env.cells.lookup x=some c->c≠b)/\∀ p∈X.pn++pins,p.1≠b
theorem Inv.fpOk{X:Cx}{pins:List (Addr×Obj)}{σ:St}{H H':Hp}{s:Shared}{b:Addr}(I:Inv X pins σ H s)(hb:s.heap.objs.size<=b)(hn:H' b=none):Gda X pins H' b:=by
 refine⟨hn,Bg (Af I.lt hb),I.nofs hb,.inr (Ao I.sz hb),fun x c e z=>?_,fun p hp z=>?_⟩
 ·obtain⟨v,q⟩:=I.cell x c e
  exact absurd (Af q.lt (by rw[z]; exact hb)) (Az _)
 ·exact absurd (Af (Ae (I.pin p hp).1) (by rw[z]; exact hb)) (Az _)
structure Turn(P:Program)(w:World)(K:PySem.W.Frag)(tg:Expr)(J:It)(fp:List Addr)(it:Addr)(tn:Nat->Heap->Prop):Prop where
 mem:it∈fp
 obj:∀ i h,tn i h->∀ b∈fp,∃ o,h.get? b=some o/\∀ v,o.data≠.cell v
 keep:∀ i h h',tn i h->(∀ b∈fp,∀ o,h.get? b=some o->h'.get? b=some o)->tn i h'
 item:∀ (X:Cx),X.prog=P->X.w=w->X.K=K->X.calm=true->∀ (i:Nat) (pins:List (Addr×Obj)) (s:Shared) (σ:St) (H:Hp) (E:Value->Shared->Prop),Inv X pins σ H s->(∀ b∈fp,Gda X pins H b)->tn i s.heap->J.go i H→
  wpAny (model P w) X.A (pyNext (.ref it)) (fun r s1=>∃ u,r=some u∧
   wpAny (model P w) X.A (letOwnedTupleGo tg (.ref it) u) (fun _ s2=>∃ x H',Inv X pins σ H' s2/\Gz x u/\J.yld i H x H'/\tn (i+1) s2.heap/\∀ b∈fp,H' b=none) E s1) E s
 done:∀ (X:Cx),X.prog=P->X.w=w->X.K=K->X.calm=true->∀ (i:Nat) (pins:List (Addr×Obj)) (s:Shared) (σ:St) (H:Hp) (E:Value->Shared->Prop),Inv X pins σ H s->(∀ b∈fp,Gda X pins H b)->tn i s.heap->J.stop i H→
  wpAny (model P w) X.A (pyNext (.ref it)) (fun r s1=>r=none/\Inv X pins σ H s1) E s
 self:∀ (A:Around) (i:Nat) (s:Shared) (Q:Value->Shared->Prop) (E:Value->Shared->Prop),tn i s.heap->Q (.ref it) s->wpAny (model P w) A (pyIter (.ref it)) Q E s
noncomputable abbrev TI:=St->Hp->(It->Hp->Prop)->Prop
noncomputable def PIE(X:Cx)(pins:List (Addr×Obj))(σ:St)(tg:Expr)(R:It->Hp->Prop)(itv:Value)(s2:Shared):Prop:=
 ∃ (it:Addr) (fp:List Addr) (tn:Nat->Heap->Prop) (J:It) (H':Hp),itv=.ref it/\Inv X pins σ H' s2/\Turn X.prog X.w X.K tg J fp it tn/\tn 0 s2.heap/\(∀ b∈fp,Gda X pins H' b)/\R J H'
noncomputable def PI(X:Cx)(tg iter:Expr)(wi:TI):Prop:=
 ∀ (pins:List (Addr×Obj)) (s:Shared) (σ:St) (H:Hp) (R:It->Hp->Prop),Inv X pins σ H s->wi σ H R→
  wpAny (model X.prog X.w) X.A (eval iter X.env) (fun v s1=>wpAny (model X.prog X.w) X.A (pyIter v) (PIE X pins σ tg R) X.xe s1) X.xe s
theorem Gl0{M:Model}{A:Around}{E:Value->Shared->Prop}{s:Shared}{tg:Expr}{it:Addr}{u:Value}{o:Obj}{n:String}{vs:Array Value}{Q:Unit->Shared->Prop}(ho:s.heap.get? it=some o)(hc:o.cls=.type n)(hd:o.data=.fields vs)
  (hn:["enumerate","zip","dict_itemiterator","dict_reverseitemiterator","odict_iterator","itertools.zip_longest","itertools.pairwise"].contains n=false) (hQ:Q () s):wpAny M A (letOwnedTupleGo tg (.ref it) u) Q E s:=by
 unfold letOwnedTupleGo
 cases tg<;>first
  | exact wpAny_pure hQ
  | (cases u<;>first
    | exact wpAny_pure hQ
    | (refine wpAny_bind (wpAny_load ho ?_)
       rw[hc,hd]
       show wpAny M A (if(["enumerate","zip","dict_itemiterator","dict_reverseitemiterator","odict_iterator","itertools.zip_longest","itertools.pairwise"].contains n&&vs[0]?==some (rawInt _))=true then _ else _) Q E s
       rw[if_neg (by intro h; rw[hn,Bool.false_and] at h; cases h)]
       exact wpAny_pure hQ))
noncomputable def Itl(K:PySem.W.Frag)(a:Addr):It:=
 ⟨fun i H=>∃ xs x,SqL K H a xs/\xs[i]?=some x,fun i H x H'=>H'=H/\∀ xs,SqL K H a xs->xs[i]?=some x,fun i H=>∃ xs,SqL K H a xs/\xs.length<=i⟩
noncomputable def Itt(K:PySem.W.Frag)(a:Addr):It:=
 ⟨fun i H=>∃ xs x,SqT K H a xs/\xs[i]?=some x,fun i H x H'=>H'=H/\∀ xs,SqT K H a xs->xs[i]?=some x,fun i H=>∃ xs,SqT K H a xs/\xs.length<=i⟩
noncomputable def Itr(lo:Int)(n:Nat):It:=⟨fun i _=>i<n,fun i H x H'=>H'=H/\x=.int (lo+i),fun i _=>n<=i⟩
theorem turn_list{P:Program}{w:World}{K:PySem.W.Frag}{tg:Expr}(a it:Addr):Turn P w K tg (Itl K a) [it] it (fun i h=>h.IsListIter it a i) where
 mem:=by simp
 obj:=fun i h st b hb=>by
  have e:b=it:=by simpa using hb
  subst e
  obtain⟨o,e,c,d⟩:=st
  exact⟨o,e,fun v z=>by rw[d] at z; cases z⟩
 keep:=fun i h h' st k=>st.at fun o e=>k it (by simp) o e
 item:=by
  intro X hP hw hK hc i pins s σ H E I hf st hg
  subst hP hw hK
  obtain⟨xs,x,hq,hx⟩:=hg
  obtain⟨its,rv,p,hz⟩:=I.list hq
  obtain⟨u,hu,ru⟩:=rv.get hx
  obtain⟨f0,f1,f2,f3,f4,f5⟩:=hf it (by simp)
  refine wpAny_pyNext_list_item st p.isList (x:=u) (by simpa using hu) fun h' st' sb=>?_
  have I1:Inv X pins σ H { s with heap:=h' }:=I.turned (t':=s.toks) (fun b o hb e=>(sb.2 b hb).trans e) f0 f1 f3 f4 f5
  obtain⟨o,e,c,d⟩:=id st'
  exact⟨u,rfl,Gl0 (s:={ s with heap:=h' }) e c d (by decide) ⟨x,H,I1,ru,⟨rfl,fun ys hy=>by rw[I.list_inj hy hq]; exact hx⟩,st',fun b hb=>(hf b hb).1⟩⟩
 done:=by
  intro X hP hw hK hc i pins s σ H E I hf st hg
  subst hP hw hK
  obtain⟨xs,hq,hx⟩:=hg
  obtain⟨its,rv,p,hz⟩:=I.list hq
  obtain⟨f0,f1,f2,f3,f4,f5⟩:=hf it (by simp)
  have hl:=rv.length
  exact wpAny_pyNext_list_end (I.ok.hd hc) st p.isList (by simp; omega) fun h' eb=>⟨rfl,I.turned (t':=s.toks) (fun b o hb e=>eb b o hb e) f0 f1 f3 f4 f5⟩
 self:=fun _ _ _ _ _ st h=>wpAny_pyIter_listiter st h
theorem turn_tuple{P:Program}{w:World}{K:PySem.W.Frag}{tg:Expr}(a it:Addr):Turn P w K tg (Itt K a) [it] it (fun i h=>h.IsTupleIter it a i) where
 mem:=by simp
 obj:=fun i h st b hb=>by
  have e:b=it:=by simpa using hb
  subst e
  obtain⟨o,e,c,d⟩:=st
  exact⟨o,e,fun v z=>by rw[d] at z; cases z⟩
 keep:=fun i h h' st k=>st.at fun o e=>k it (by simp) o e
 item:=by
  intro X hP hw hK hc i pins s σ H E I hf st hg
  subst hP hw hK
  obtain⟨xs,x,hq,hx⟩:=hg
  obtain⟨its,rv,p,hz⟩:=I.tuple hq
  obtain⟨u,hu,ru⟩:=rv.get hx
  obtain⟨f0,f1,f2,f3,f4,f5⟩:=hf it (by simp)
  refine wpAny_pyNext_tuple_item st (show s.heap.IsTuple a its.toArray from p) (x:=u) (by simpa using hu) fun h' st' sb=>?_
  have I1:Inv X pins σ H { s with heap:=h' }:=I.turned (t':=s.toks) (fun b o hb e=>(sb.2 b hb).trans e) f0 f1 f3 f4 f5
  obtain⟨o,e,c,d⟩:=id st'
  exact⟨u,rfl,Gl0 (s:={ s with heap:=h' }) e c d (by decide) ⟨x,H,I1,ru,⟨rfl,fun ys hy=>by rw[I.tuple_inj hy hq]; exact hx⟩,st',fun b hb=>(hf b hb).1⟩⟩
 done:=by
  intro X hP hw hK hc i pins s σ H E I hf st hg
  subst hP hw hK
  obtain⟨xs,hq,hx⟩:=hg
  obtain⟨its,rv,p,hz⟩:=I.tuple hq
  obtain⟨f0,f1,f2,f3,f4,f5⟩:=hf it (by simp)
  have hl:=rv.length
  exact wpAny_pyNext_tuple_end (I.ok.hd hc) st (show s.heap.IsTuple a its.toArray from p) (by simp; omega) fun h' eb=>⟨rfl,I.turned (t':=s.toks) (fun b o hb e=>eb b o hb e) f0 f1 f3 f4 f5⟩
 self:=fun _ _ _ _ _ st h=>wpAny_pyIter_tupleiter st h
theorem turn_range{P:Program}{w:World}{K:PySem.W.Frag}{tg:Expr}(it:Addr)(lo:Int)(n:Nat):Turn P w K tg (Itr lo n) [it] it (fun i h=>IsRangeIter h it (lo+(i:Nat)*1) ((n:Int)-(i:Nat)) 1) where
 mem:=by simp
 obj:=fun i h st b hb=>by
  have e:b=it:=by simpa using hb
  subst e
  exact⟨_,st,fun v z=>by
   have z':Data.fields _=Data.cell v:=z
   cases z'⟩
 keep:=fun i h h' st k=>k it (by simp) _ st
 item:=by
  intro X hP hw hK hc i pins s σ H E I hf st hg
  subst hP hw hK
  obtain⟨f0,f1,f2,f3,f4,f5⟩:=hf it (by simp)
  have W:=Walks.range (prog:=X.prog) (w:=X.w) (I.ok.hd hc) it lo 1 n
  refine W.item i s _ _ hg st fun v h' tk hv st' kk=>?_
  obtain⟨t,rfl⟩:=hv
  have I1:Inv X pins σ H { s with heap:=h',toks:=tk }:=I.turned (fun b o hb e=>kk b o (by simpa using hb) e) f0 f1 f3 f4 f5
  refine⟨_,rfl,Gl0 (s:={ s with heap:=h',toks:=tk }) (n:="range_iterator") st' rfl rfl (by decide) ⟨.int (lo+i),H,I1,⟨t,?_⟩,⟨rfl,rfl⟩,st',fun b hb=>(hf b hb).1⟩⟩
  rw[Int.mul_one]
 done:=by
  intro X hP hw hK hc i pins s σ H E I hf st hg
  subst hP hw hK
  obtain⟨f0,f1,f2,f3,f4,f5⟩:=hf it (by simp)
  exact wpAny_pyNext_range_end (I.ok.hd hc) st (by have:n<=i:=hg; omega) fun h' eb=>⟨rfl,I.turned (t':=s.toks) (fun b o hb e=>eb b o hb e) f0 f1 f3 f4 f5⟩
 self:=fun _ _ _ _ _ st h=>wpAny_pyIter_rangeiter st h
section
variable{X:Cx}{tg:Expr}
theorem Gl1{pins:List (Addr×Obj)}{σ:St}{H:Hp}{s:Shared}{R:It->Hp->Prop}{E:Value->Shared->Prop}{lo hi:Int}{t u v:Tok}{tk:Nat}(I:Inv X pins σ H s)(h1 : -(2^62)<=lo)(h2:lo<2^62)(h3 : -(2^62)<=hi)(h4:hi<2^62)
  (q:R (Itr lo (hi-lo).toNat) H):wpAny (model X.prog X.w) X.A (pyIter (.ref s.heap.objs.size)) (PIE X pins σ tg R) E { s with heap:=s.heap.push { cls:=.type "range",data:=.fields #[.int lo t,.int hi u,.int 1 v] },toks:=tk }:=by
 refine wpAny_pyIter_range (IsRange.new ..) (small_one h1 h2 h3 h4) ?_
 have I1:Inv X pins σ H { s with heap:=s.heap.push { cls:=.type "range",data:=.fields #[.int lo t,.int hi u,.int 1 v] },toks:=tk }:=I.kept fun b o e=>Ah _ e
 refine⟨(s.heap.push { cls:=.type "range",data:=.fields #[.int lo t,.int hi u,.int 1 v] }).objs.size,[(s.heap.push { cls:=.type "range",data:=.fields #[.int lo t,.int hi u,.int 1 v] }).objs.size],_,_,H,rfl,
  I1.kept (t':=tk) fun b o e=>Ah _ e,turn_range _ lo (hi-lo).toNat,?_,fun b hb=>?_,q⟩
 ·have e1:lo+((0:Nat):Int)*1=lo:=by simp
  have e2:(((hi-lo).toNat:Nat):Int)-((0:Nat):Int)=Builtin.Range.rangeSize lo hi 1:=by rw[rangeSize_one]; split<;>omega
  show IsRangeIter _ _ (lo+((0:Nat):Int)*1) ((((hi-lo).toNat:Nat):Int)-((0:Nat):Int)) 1
  rw[e1,e2]
  exact AA _ rfl
 ·have e:b=(s.heap.push { cls:=.type "range",data:=.fields #[.int lo t,.int hi u,.int 1 v] }).objs.size:=by simpa using hb
  subst e
  exact I1.fpOk (Aa _) (I1.hok.fresh (Aa _))
noncomputable def Gxw(ta:TA):TI:=fun σ H R=>ta σ H fun vs H1=>∃ j:Int,vs=[.int j] /\ -(2^62)<=j/\j<2^62/\R (Itr 0 j.toNat) H1
theorem Gkv{a:Expr}{ta:TA}{p pos:Pos}(hg:Gl X "range")(hm:X.mg "range"=none)(ha:PA X [a] ta)(hs:starEach [a] X.env=[(false,eval a X.env)]:=by rfl):PI X tg (.Call (.Name "range" p) [a] [] pos) (Gxw ta):=by
 intro pins s σ H R I h
 refine Call_ (Vn I hg hm boot_range (PyProof.Rows.callWith_type1 (thn (ha pos pins s σ H _ I h) fun us s1 zq0=>?_) hs rfl))
 obtain⟨vs,H1,I1,r1,q1⟩:=zq0
 obtain⟨j,e,q1,q2,q⟩:=q1
 subst e
 cases r1 with
 | cons r rr=>
  cases rr
  obtain⟨t,rfl⟩:=r
  exact call_range_1 (Gl1 I1 (by omega) (by omega) q1 q2 (by simpa using q))
noncomputable def Hal(wi:TI)(g:TG)(tb:TS):TS:=fun D σ H=>wi σ H fun J H1=>∃ W:Nat->Nat->St->Hp->Prop,(∃ m,W 0 m σ H1)/\∀ i m σ H,W i m σ H→
 (J.stop i H/\D.nx σ H)\/(J.go i H/\∃ N:St->Hp->Prop,(∀ σ' H',N σ' H'->∃ m',m'<m/\W (i+1) m' σ' H')/\∀ x H',J.yld i H x H'->g x σ H' fun σ2 H2=>tb { D with nx:=N,ct:=N,bk:=D.nx } σ2 H2)
noncomputable def Gbv(fp:List Addr)(h:Heap):List (Addr×Obj):=fp.filterMap fun b=>(h.get? b).map fun o=>(b,o)
theorem Vo{fp:List Addr}{h:Heap}{b:Addr}{o:Obj}(hb:b∈fp)(e:h.get? b=some o):(b,o)∈Gbv fp h:=List.mem_filterMap.mpr ⟨b,hb,by rw[e]; rfl⟩
theorem Gkw{fp:List Addr}{h:Heap}{p:Addr×Obj}(hp:p∈Gbv fp h):p.1∈fp/\h.get? p.1=some p.2:=by
 obtain⟨b,hb,e⟩:=List.mem_filterMap.mp hp
 cases q:h.get? b with
 | none=>rw[q] at e; cases e
 | some o=>
  rw[q] at e
  have e':(b,o)=p:=Ac e
  subst e'
  exact⟨hb,q⟩
theorem Inv.pinned{pins:List (Addr×Obj)}{σ:St}{H:Hp}{s:Shared}{fp:List Addr}(I:Inv X pins σ H s)(hf:∀ b∈fp,Gda X pins H b)(ho:∀ b∈fp,∃ o,s.heap.get? b=some o/\∀ v,o.data≠.cell v):Inv X (pins++Gbv fp s.heap) σ H s:=
 I.pins_of fun p hp=>(Be.mp hp).elim (fun z=>I.pin p (AH _ z)) fun z=>by
  obtain⟨hb,e⟩:=Gkw z
  obtain⟨f0,f1,f2,_⟩:=hf p.1 hb
  obtain⟨o,e',d⟩:=ho p.1 hb
  rw[e] at e'; cases e'
  exact⟨e,f0,f1,f2,d⟩
theorem Inv.unpinned{pins pl:List (Addr×Obj)}{σ:St}{H:Hp}{s:Shared}(I:Inv X (pins++pl) σ H s):Inv X pins σ H s:=I.pins_of fun p hp=>I.pin p (AH _ (Bp _ hp))
theorem Gtz{iter:Expr}{body:List Stmt}{wi:TI}{g:TG}{tb:TS}{pos:Pos}(hp:PassesOwn (model X.prog X.w) X.A X.env X.xe)(hc:X.calm=true)(hi:PI X tg iter wi)(hg:PG X tg g)(hb:PSs X body tb)
  (hs:∀ x,foldedSetIterable iter X.env x=pure x:=by intro _; rfl):PS X (.For tg iter body [] pos) (Hal wi g tb):=by
 intro pins s σ H D I h
 refine wpAny_For (thn (hi pins s σ H _ I h) fun v s1 h1=>thn h1 fun itv s2 h2=>?_) hs
 obtain⟨it,fp,tn,J,H2,e,I2,T,st2,f2,W,⟨m0,w0⟩,turn⟩:=h2
 subst e
 have stat:∀ {H':Hp},(∀ b∈fp,H' b=none)->∀ b∈fp,Gda X pins H' b:=fun hn b hb=>⟨hn b hb,(f2 b hb).2⟩
 refine codeAny_forLoop_any (fun n s'=>∃ i σ' H',Inv X pins σ' H' s'/\tn i s'.heap/\(∀ b∈fp,H' b=none)/\W i n σ' H') ?_ m0 ⟨0,σ,H2,I2,st2,fun b hb=>(f2 b hb).1,w0⟩
 rintro n s3 ⟨i,σ3,H3,I3,st3,fr3,w3⟩
 rcases turn i n σ3 H3 w3 with⟨stop,qn⟩ | ⟨go,N,hN,step⟩
 ·refine wpAny_passesOwn hp (thn (T.done X rfl rfl rfl hc i pins s3 σ3 H3 X.xe I3 (stat fr3) st3 stop) fun r s4 zq0=>?_)
  obtain⟨hr,I4⟩:=zq0
  subst hr
  exact wpAny_execs_nil ⟨σ3,H3,I4,qn⟩
 ·refine wpAny_passesOwn hp (thn (T.item X rfl rfl rfl hc i pins s3 σ3 H3 X.xe I3 (stat fr3) st3 go) fun r s4 zq0=>?_)
  obtain⟨u,hr,h4⟩:=zq0
  subst hr
  refine wpAny_passesOwn hp (thn h4 fun _ s5 zq0=>?_)
  obtain⟨x,H5,I5,r5,y5,st5,fr5⟩:=zq0
  have I5':=I5.pinned (stat fr5) (T.obj _ _ st5)
  refine wpAny_passesOwn hp (thn (hg _ s5 σ3 H5 x u _ I5' r5 (step x H5 y5)) fun _ s6 zq0=>?_)
  obtain⟨σ6,H6,I6,q6⟩:=zq0
  refine wpAny_passesOwn hp (thn (hb _ s6 σ6 H6 _ I6 q6) fun f s7 q7=>?_)
  have again:∀ {σ7:St} {H7:Hp},Inv X (pins++Gbv fp s5.heap) σ7 H7 s7->N σ7 H7->∃ m,m<n/\∃ i σ' H',Inv X pins σ' H' s7/\tn i s7.heap/\(∀ b∈fp,H' b=none)/\W i m σ' H':=fun{σ7 H7} I7 n7=>by
   obtain⟨m',hm,w7⟩:=hN σ7 H7 n7
   refine⟨m',hm,i+1,σ7,H7,I7.unpinned,T.keep _ _ _ st5 fun b hb o e=>(I7.pin (b,o) (AH _ (AH _ (Vo hb e)))).1,fun b hb=>?_,w7⟩
   obtain⟨o,e,d⟩:=T.obj _ _ st5 b hb
   exact(I7.pin (b,o) (AH _ (AH _ (Vo hb e)))).2.1
  cases f with
  | next=>obtain⟨σ7,H7,I7,n7⟩:=q7; exact again I7 n7
  | cont=>obtain⟨σ7,H7,I7,n7⟩:=q7; exact again I7 n7
  | brk=>obtain⟨σ7,H7,I7,q7⟩:=q7; exact⟨σ7,H7,I7.unpinned,q7⟩
  | ret v=>obtain⟨x7,σ7,H7,I7,r7,q7⟩:=q7; exact⟨x7,σ7,H7,I7.unpinned,r7,q7⟩
end
noncomputable abbrev R2:=V->V->Hp->VK->Prop
noncomputable def OpR(X:Cx)(f:Value->Value->Sem Value)(r:R2):Prop:=
 ∀ (pins:List (Addr×Obj)) (s:Shared) (σ:St) (H:Hp) (x y:V) (v u:Value) (Q:VK),Inv X pins σ H s->Gz x v->Gz y u->r x y H Q→
  wpAny (model X.prog X.w) X.A (f v u) (EP X pins σ Q) X.xe s
noncomputable def UnR(X:Cx)(f:Value->Sem Value)(r:V->Hp->VK->Prop):Prop:=
 ∀ (pins:List (Addr×Obj)) (s:Shared) (σ:St) (H:Hp) (x:V) (v:Value) (Q:VK),Inv X pins σ H s->Gz x v->r x H Q→
  wpAny (model X.prog X.w) X.A (f v) (EP X pins σ Q) X.xe s
noncomputable def Vb(X:Cx)(f:Value)(r:List V->Hp->VK->Prop):Prop:=
 ∀ (pins:List (Addr×Obj)) (s:Shared) (σ:St) (H:Hp) (xs:List V) (us:List Value) (Q:VK),Inv X pins σ H s->Vals xs us->r xs H Q→
  wpAny (model X.prog X.w) X.A (call f us) (EP X pins σ Q) X.xe s
noncomputable def Ham(X:Cx)(r:V->Hp->(Bool->Hp->Prop)->Prop):Prop:=
 ∀ (pins:List (Addr×Obj)) (s:Shared) (σ:St) (H:Hp) (x:V) (v:Value) (Q:Bool->Hp->Prop),Inv X pins σ H s->Gz x v->r x H Q→
  wpAny (model X.prog X.w) X.A (truthy v) (TP X pins σ Q) X.xe s
noncomputable def tOp(r:R2)(ta tb:TE):TE:=fun σ H Q=>ta σ H fun x H1=>tb σ H1 fun y H2=>r x y H2 Q
noncomputable def tUn(r:V->Hp->VK->Prop)(ta:TE):TE:=fun σ H Q=>ta σ H fun x H1=>r x H1 Q
noncomputable def rI(C:Int->Int->Prop)(g:Int->Int->V):R2:=fun x y H Q=>∃ i j,x=.int i/\y=.int j/\C i j/\Q (g i j) H
noncomputable def rI0(g:Int->Int->V):R2:=fun x y H Q=>∃ i j,x=.int i/\y=.int j/\Q (g i j) H
noncomputable def rU(g:Int->V):V->Hp->VK->Prop:=fun x H Q=>∃ i,x=.int i/\Q (g i) H
section
variable{X:Cx}{a b c:Expr}{ta tb tc:TE}{pos:Pos}
theorem Gt0(ha:PE X a ta)(hb:PE X b tb){pins:List (Addr×Obj)}{s:Shared}{σ:St}{H:Hp}{R:V->V->Hp->Prop}(I:Inv X pins σ H s)
  (h:ta σ H fun x H1=>tb σ H1 fun y H2=>R x y H2) {Q:Value->Shared->Prop} {f:Value->Value->Sem Value}
  (hf:∀ v u s2 x y H2,Inv X pins σ H2 s2->Gz x v->Gz y u->R x y H2->wpAny (model X.prog X.w) X.A (f v u) Q X.xe s2):
  wpAny (model X.prog X.w) X.A (eval a X.env) (fun v s₁=>wpAny (model X.prog X.w) X.A (eval b X.env) (fun u s₂=>wpAny (model X.prog X.w) X.A (f v u) Q X.xe s₂) X.xe s₁) X.xe s:=by
 refine thn (ha pins s σ H _ I h) fun v s1 zq0=>?_
 obtain⟨x,H1,I1,r1,q1⟩:=zq0
 refine thn (hb pins s1 σ H1 _ I1 q1) fun u s2 zq0=>?_
 obtain⟨y,H2,I2,r2,q2⟩:=zq0
 exact hf v u s2 x y H2 I2 r1 r2 q2
theorem Gxx{op:Operator}{r:R2}(ho:OpR X (binaryOp op) r)(ha:PE X a ta)(hb:PE X b tb):PE X (.BinOp a op b pos) (tOp r ta tb):=by
 intro pins s σ H Q I h
 exact wpAny_BinOp (Gt0 ha hb I h fun v u s2 x y H2 I2 rx ry q=>ho pins s2 σ H2 x y v u Q I2 rx ry q)
theorem Gxy{op:UnaryOp}{r:V->Hp->VK->Prop}(ho:UnR X (unaryOp op) r)(ha:PE X a ta):PE X (.UnaryOp op a pos) (tUn r ta):=by
 intro pins s σ H Q I h
 exact UnaryOp_ (thn (ha pins s σ H _ I h) fun v s1 ⟨x,H1,I1,r1,q1⟩=>ho pins s1 σ H1 x v Q I1 r1 q1)
theorem opI{f:Value->Value->Sem Value}{C:Int->Int->Prop}{g:Int->Int->Int}
  (rule:∀ (i j:Int) (t u:Tok) (s:Shared) (Q:Value->Shared->Prop) (E:Value->Shared->Prop),C i j->Q (.int (g i j) s.toks) { s with toks:=s.toks+1 }->wpAny (model X.prog X.w) X.A (f (.int i t) (.int j u)) Q E s):
  OpR X f (rI C fun i j=>.int (g i j)):=by
 intro pins s σ H x y v u Q I rx ry h
 obtain⟨i,j,rfl,rfl,hc,q⟩:=h
 obtain⟨t,rfl⟩:=rx
 obtain⟨t',rfl⟩:=ry
 exact rule i j t t' s _ _ hc ⟨.int (g i j),H,I.tok _,⟨_,rfl⟩,q⟩
theorem opI0{f:Value->Value->Sem Value}{g:Int->Int->Int}
  (rule:∀ (i j:Int) (t u:Tok) (s:Shared) (Q:Value->Shared->Prop) (E:Value->Shared->Prop),Q (.int (g i j) s.toks) { s with toks:=s.toks+1 }->wpAny (model X.prog X.w) X.A (f (.int i t) (.int j u)) Q E s):
  OpR X f (rI0 fun i j=>.int (g i j)):=by
 intro pins s σ H x y v u Q I rx ry h
 obtain⟨i,j,rfl,rfl,q⟩:=h
 obtain⟨t,rfl⟩:=rx
 obtain⟨t',rfl⟩:=ry
 exact rule i j t t' s _ _ ⟨.int (g i j),H,I.tok _,⟨_,rfl⟩,q⟩
theorem opB0{f:Value->Value->Sem Value}{g:Int->Int->Bool}
  (rule:∀ (i j:Int) (t u:Tok) (s:Shared) (Q:Value->Shared->Prop) (E:Value->Shared->Prop),Q (.bool (g i j)) s->wpAny (model X.prog X.w) X.A (f (.int i t) (.int j u)) Q E s):
  OpR X f (rI0 fun i j=>.bl (g i j)):=by
 intro pins s σ H x y v u Q I rx ry h
 obtain⟨i,j,rfl,rfl,q⟩:=h
 obtain⟨t,rfl⟩:=rx
 obtain⟨t',rfl⟩:=ry
 exact rule i j t t' s _ _ ⟨.bl (g i j),H,I,rfl,q⟩
noncomputable def Han(i j:Int):Prop:=0<=j/\j<=1000000/\i.natAbs<2^64
noncomputable def CMul(i j:Int):Prop:=(-(2^64)<i/\i<2^64)\/(-(2^64)<j/\j<2^64)
theorem CMul.ok{i j:Int}(h:CMul i j):IntMulOk i j:=by
 rcases h with⟨h1,h2⟩ | ⟨h1,h2⟩
 ·exact .of_left (intBits_le_64 h1 h2)
 ·exact .of_right (intBits_le_64 h1 h2)
theorem Gt1:OpR X (binaryOp .Add) (rI0 fun i j=>.int (i+j)):=opI0 fun _ _ _ _ _ _ _ q=>add_int q
theorem Gt2:OpR X (binaryOp .Sub) (rI0 fun i j=>.int (i-j)):=opI0 fun _ _ _ _ _ _ _ q=>sub_int q
theorem Gt3:OpR X (binaryOp .Mult) (rI CMul fun i j=>.int (i*j)):=opI fun _ _ _ _ _ _ _ hc q=>mul_int q hc.ok
theorem Gt4:OpR X (binaryOp .Mod) (rI (fun _ j=>0<j) fun i j=>.int (i%j)):=opI fun i j _ _ _ _ _ hc q=>by
 have h1:(0:Int)<j:=hc
 exact mod_int' (by omega) (by rw[Int.fmod_eq_emod_of_nonneg i (by omega)]; exact q)
theorem Gt5:OpR X (binaryOp .Pow) (rI Han fun i j=>.int (i^j.toNat)):=opI fun _ _ _ _ _ _ _ hc q=>pow_int_small hc.1 hc.2.1 hc.2.2 q
theorem unI{f:Value->Sem Value}{g:Int->Int}
  (rule:∀ (i:Int) (t:Tok) (s:Shared) (Q:Value->Shared->Prop) (E:Value->Shared->Prop),Q (.int (g i) s.toks) { s with toks:=s.toks+1 }->wpAny (model X.prog X.w) X.A (f (.int i t)) Q E s):
  UnR X f (rU fun i=>.int (g i)):=by
 intro pins s σ H x v Q I rx h
 obtain⟨i,rfl,q⟩:=h
 obtain⟨t,rfl⟩:=rx
 exact rule i t s _ _ ⟨.int (g i),H,I.tok _,⟨_,rfl⟩,q⟩
theorem Gt6:UnR X (unaryOp .USub) (rU fun i=>.int (-i)):=unI fun _ _ _ _ _ q=>neg_int q
end
section
variable{X:Cx}{a b c:Expr}{ta tb tc:TE}{pos:Pos}
theorem Gl2{pins:List (Addr×Obj)}{σ:St}{H:Hp}{s:Shared}{Q:VK}{k k':Bool}(I:Inv X pins σ H s)(q:Q (.bl k) H)(e:k=k'):EP X pins σ Q (.bool k') s:=by
 subst e
 exact⟨.bl k,H,I,rfl,q⟩
theorem Ggd:OpR X (compareOp .Lt) (rI0 fun i j=>.bl (decide (i<j))):=opB0 fun _ _ _ _ _ _ _ q=>lt_int q
theorem Gi6:OpR X (compareOp .LtE) (rI0 fun i j=>.bl (decide (i<=j))):=opB0 fun _ _ _ _ _ _ _ q=>le_int q
theorem Gxz:OpR X (compareOp .Gt) (rI0 fun i j=>.bl (decide (j<i))):=opB0 fun _ _ _ _ _ _ _ q=>gt_int q
theorem Gsg:OpR X (compareOp .GtE) (rI0 fun i j=>.bl (decide (j<=i))):=opB0 fun _ _ _ _ _ _ _ q=>ge_int q
theorem Gt7:OpR X (compareOp .Is) (fun x y H Q=>y=.non/\Q (.bl (decide (x=.non))) H):=by
 intro pins s σ H x y v u Q I rx ry h
 obtain⟨rfl,q⟩:=h
 cases ry
 refine is_none_gen (Gl2 I q ?_)
 cases x<;>first
  | (cases rx; rfl)
  | (obtain⟨t,rfl⟩:=rx; rfl)
theorem Gi7:OpR X (compareOp .IsNot) (fun x y H Q=>y=.non/\Q (.bl (!decide (x=.non))) H):=by
 intro pins s σ H x y v u Q I rx ry h
 obtain⟨rfl,q⟩:=h
 cases ry
 refine isnot_none_gen (Gl2 I q ?_)
 cases x<;>first
  | (cases rx; rfl)
  | (obtain⟨t,rfl⟩:=rx; rfl)
theorem OpR.or{f:Value->Value->Sem Value}{r r':R2}(h:OpR X f r)(h':OpR X f r'):OpR X f (fun x y H Q=>r x y H Q\/r' x y H Q):=by
 intro pins s σ H x y v u Q I rx ry q
 rcases q with q | q
 ·exact h pins s σ H x y v u Q I rx ry q
 ·exact h' pins s σ H x y v u Q I rx ry q
theorem nomark(b:Expr){op:CmpOp}(h:op≠.In:=by decide)(h2:op≠.NotIn:=by decide):behindInMarks op b=false:=by
 have e1:(op==CmpOp.In)=false:=by cases op<;>first | rfl | exact absurd rfl h
 have e2:(op==CmpOp.NotIn)=false:=by cases op<;>first | rfl | exact absurd rfl h2
 cases b<;>simp[behindInMarks,e1,e2]
theorem Go8{op:CmpOp}{r:R2}(ho:OpR X (compareOp op) r)(ha:PE X a ta)(hb:PE X b tb)(hm:behindInMarks op b=false):PE X (.Compare a [op] [b] pos) (tOp r ta tb):=by
 intro pins s σ H Q I h
 exact wpAny_Compare1 (Gt0 ha hb I h fun v u s2 x y H2 I2 rx ry q=>ho pins s2 σ H2 x y v u Q I2 rx ry q) hm
noncomputable def Gsh(t:TE):TT:=fun σ H Q=>t σ H fun x H'=>∃ k,x=.bl k/\Q k H'
theorem Go9{op:CmpOp}{r:R2}(ho:OpR X (compareOp op) r)(ha:PE X a ta)(hb:PE X b tb)(hm:behindInMarks op b=false):PT X (.Compare a [op] [b] pos) (Gsh (tOp r ta tb)):=by
 intro pins s σ H Q I h
 refine wpAny_isTrue_Compare1 (thn (ha pins s σ H _ I h) fun v s1 ⟨x,H1,I1,r1,q1⟩=>thn (hb pins s1 σ H1 _ I1 q1) fun u s2 ⟨y,H2,I2,r2,q2⟩=>
  thn (ho pins s2 σ H2 x y v u _ I2 r1 r2 q2) fun c s3 ⟨z,H3,I3,r3,k,e,q3⟩=>?_) hm
 subst e
 cases r3
 exact wpAny_truthy_bool ⟨H3,I3,q3⟩
noncomputable def Gl3(r r':R2)(ta tb tc:TE):TE:=fun σ H Q=>ta σ H fun x H1=>tb σ H1 fun y H2=>r x y H2 fun z H3=>∃ k,z=.bl k∧
 (if k=true then tc σ H3 fun w' H4=>r' y w' H4 Q else Q (.bl false) H3)
theorem Gl4{op op':CmpOp}{r r':R2}(ho:OpR X (compareOp op) r)(ho':OpR X (compareOp op') r')(ha:PE X a ta)(hb:PE X b tb)(hc:PE X c tc)
  (hm:lastMarks [op,op'] [b,c]=false:=by with_unfolding_all rfl):PT X (.Compare a [op,op'] [b,c] pos) (Gsh (Gl3 r r' ta tb tc)):=by
 intro pins s σ H Q I h
 refine isTrue_chain (thn (ha pins s σ H _ I h) fun v s1 ⟨x,H1,I1,r1,q1⟩=>test_link (thn (hb pins s1 σ H1 _ I1 q1) fun u s2 ⟨y,H2,I2,r2,q2⟩=>
  thn (ho pins s2 σ H2 x y v u _ I2 r1 r2 q2) fun d s3 ⟨z,H3,I3,r3,k,e,q3⟩=>?_)) hm
 subst e
 cases r3
 refine wpAny_truthy_bool ?_
 cases k with
 | false=>
  obtain⟨k',e',q'⟩:=q3
  cases e'
  exact ite_ff ⟨H3,I3,q'⟩
 | true=>
  refine ite_tt (test_last (thn (hc pins s3 σ H3 _ I3 q3) fun w' s4 ⟨z',H4,I4,r4,q4⟩=>thn (ho' pins s4 σ H4 y z' u w' _ I4 r2 r4 q4) fun d' s5 zq0=>?_))
  obtain⟨z2,H5,I5,r5,k2,e2,q5⟩:=zq0
  subst e2
  cases r5
  exact wpAny_truthy_bool ⟨H5,I5,q5⟩
noncomputable def Gt8(K:PySem.W.Frag)(x:V)(H:Hp)(k:Bool):Prop:=
 match x with
 | .non=>k=false
 | .bl b=>k=b
 | .int i=>k=(i != 0)
 | .str y=>y.length<=sizeLine/\k=((y.length:Int) != 0)
 | .byt y=>y.size<=sizeLine/\k=((y.size:Int) != 0)
 | .ref p=>(∃ xs,SqL K H p xs/\k=!xs.isEmpty)\/(∃ xs,SqT K H p xs/\k=!xs.isEmpty)\/∃ kvs,H p=some (.dK kvs)/\k=!kvs.isEmpty
 | _=>False
theorem Ghx{κ:Type}{kvs:List (κ×V)}{vs:List (κ×Value)}(r:KV kvs vs):(!vs.isEmpty)=!kvs.isEmpty:=by
 cases r<;>rfl
theorem Gbw{xs:List V}{its:List Value}(r:Vals xs its):(!its.toArray.isEmpty)=!xs.isEmpty:=by
 cases r<;>simp
theorem Gag:(sizeLine:Nat)<2^63:=by rw[sizeLine_eq]; decide
theorem Gt9:Ham X (fun x H Q=>∃ k,Gt8 X.K x H k/\Q k H):=by
 intro pins s σ H x v Q I rx h
 obtain⟨k,e,q⟩:=h
 have hl:=Gag
 have hs:sizeLine=16777216:=sizeLine_eq
 cases x with
 | non=>
  cases rx
  have e':k=false:=e
  subst e'
  exact truthy_none ⟨H,I,q⟩
 | bl b=>
  cases rx
  have e':k=b:=e
  subst e'
  exact wpAny_truthy_bool ⟨H,I,q⟩
 | int i=>
  obtain⟨t,rfl⟩:=rx
  have e':k=(i != 0):=e
  subst e'
  exact PySem.P.truthy_int ⟨H,I,q⟩
 | str y=>
  obtain⟨t,rfl⟩:=rx
  obtain⟨hy,e'⟩:y.length<=sizeLine/\k=((y.length:Int) != 0):=e
  subst e'
  exact PySem.P.truthy_str (by omega) ⟨H,I.tok _,q⟩
 | byt y=>
  obtain⟨t,rfl⟩:=rx
  obtain⟨hy,e'⟩:y.size<=sizeLine/\k=((y.size:Int) != 0):=e
  subst e'
  exact PySem.W.truthy_bytes (by omega) ⟨H,I.tok _,q⟩
 | ref p=>
  cases rx
  have e':(∃ xs,SqL X.K H p xs/\k=!xs.isEmpty)\/(∃ xs,SqT X.K H p xs/\k=!xs.isEmpty)\/∃ kvs,H p=some (.dK kvs)/\k=!kvs.isEmpty:=e
  rcases e' with⟨xs,hx,e'⟩ | ⟨xs,hx,e'⟩ | ⟨kvs,hx,e'⟩
  ·subst e'
   obtain⟨its,r,pl,hz⟩:=I.list hx
   have hlen:=r.length
   exact wpAny_truthy_list pl.isList (by simp only[Aj]; omega) ⟨H,I.tok _,by rw[Gbw r]; exact q⟩
  ·subst e'
   obtain⟨its,r,pl,hz⟩:=I.tuple hx
   have hlen:=r.length
   exact truthy_tuple pl (by simp only[Aj]; omega) ⟨H,I.tok _,by rw[Gbw r]; exact q⟩
  ·subst e'
   obtain⟨hz,hS,vs,r,m⟩:kvs.length<=sizeLine/\(p==sysModules)=false/\∃ vs,KV kvs vs/\s.heap.DictOf (Gi1 X.prog X.w) p vs:=I.hok p _ hx
   have hlen:kvs.length=vs.length:=Paired.length r
   exact wpAny_truthy_dict hS m (by omega) ⟨H,I.tok _,by rw[Ghx r]; exact q⟩
 | _=>exact(show False from e).elim
theorem Gl5(ha:PE X a ta)(he:∀ whole,isTrue a X.env whole=(do let v <- whole; standAt a.pos; holding [v] (truthy v))):
  PT X a (fun σ H Q=>ta σ H fun x H'=>∃ k,Gt8 X.K x H' k/\Q k H'):=by
 intro pins s σ H Q I h
 exact isTrue_plain (thn (ha pins s σ H _ I h) fun v s1 ⟨x,H1,I1,r1,q1⟩=>Gt9 pins s1 σ H1 x v Q I1 r1 q1) (he _)
theorem Ghy:OpR X (binaryOp .Add) (fun x y H Q=>∃ i j,x=.str i/\y=.str j/\i.length+j.length<=sizeLine/\Q (.str (i++j)) H):=by
 intro pins s σ H x y v u Q I rx ry h
 obtain⟨i,j,rfl,rfl,hz,q⟩:=h
 obtain⟨t,rfl⟩:=rx
 obtain⟨t',rfl⟩:=ry
 exact add_str (fun t' tk=>⟨.str (i++j),H,I.tok _,⟨_,rfl⟩,q⟩) hz
theorem Gaz{x:V}{us:List Value}(r:Vals [x] us):∃ u,us=[u]/\Gz x u:=by
 cases r with
 | cons r1 r2=>cases r2; exact⟨_,rfl,r1⟩
theorem Gsi{x y:V}{us:List Value}(r:Vals [x,y] us):∃ u w',us=[u,w']/\Gz x u/\Gz y w':=by
 cases r with
 | cons r1 r2=>
  cases r2 with
  | cons r3 r4=>cases r4; exact⟨_,_,rfl,r1,r3⟩
theorem Gkx(hc:X.calm=true):Vb X (.builtin "max") (fun xs H Q=>∃ i j,xs=[.int i,.int j]/\Q (.int (if j>i then j else i)) H):=by
 intro pins s σ H xs us Q I r h
 obtain⟨i,j,rfl,q⟩:=h
 obtain⟨u,w',rfl,⟨t,rfl⟩,⟨t',rfl⟩⟩:=Gsi r
 refine max_two_ints (I.ok.hd hc) fun h' tk k=>⟨_,H,I.kept k,?_,q⟩
 by_cases hj:j>i
 ·rw[if_pos hj,if_pos hj]; exact⟨_,rfl⟩
 ·rw[if_neg hj,if_neg hj]; exact⟨_,rfl⟩
theorem Gky(hc:X.calm=true):Vb X (.builtin "min") (fun xs H Q=>∃ i j,xs=[.int i,.int j]/\Q (.int (if j<i then j else i)) H):=by
 intro pins s σ H xs us Q I r h
 obtain⟨i,j,rfl,q⟩:=h
 obtain⟨u,w',rfl,⟨t,rfl⟩,⟨t',rfl⟩⟩:=Gsi r
 refine min_two_ints (I.ok.hd hc) fun h' tk k=>⟨_,H,I.kept k,?_,q⟩
 by_cases hj:j<i
 ·rw[if_pos hj,if_pos hj]; exact⟨_,rfl⟩
 ·rw[if_neg hj,if_neg hj]; exact⟨_,rfl⟩
theorem Gkz:Vb X (.type "int") (fun xs H Q=>(∃ i,xs=[.int i]/\Q (.int i) H)\/∃ k,xs=[.bl k]/\Q (.int (if k then 1 else 0)) H):=by
 intro pins s σ H xs us Q I r h
 rcases h with⟨i,rfl,q⟩ | ⟨k,rfl,q⟩
 ·obtain⟨u,rfl,t,rfl⟩:=Gaz r
  exact call_int_int ⟨.int i,H,I,⟨_,rfl⟩,q⟩
 ·obtain⟨u,rfl,r1⟩:=Gaz r
  cases r1
  exact call_int_bool ⟨.int (if k then 1 else 0),H,I.tok _,⟨_,rfl⟩,q⟩
noncomputable def Gx0(K:PySem.W.Frag)(x:V)(H:Hp)(n:Nat):Prop:=
 match x with
 | .str y=>y.length<=sizeLine/\n=y.length
 | .byt y=>y.size<=sizeLine/\n=y.size
 | .ref p=>(∃ xs,SqL K H p xs/\n=xs.length)\/∃ xs,SqT K H p xs/\n=xs.length
 | _=>False
theorem Gl6:Vb X (.builtin "len") (fun xs H Q=>∃ x n,xs=[x]/\Gx0 X.K x H n/\Q (.int n) H):=by
 intro pins s σ H xs us Q I r h
 obtain⟨x,n,rfl,e,q⟩:=h
 obtain⟨u,rfl,rx⟩:=Gaz r
 have hl:=Gag
 have hs:sizeLine=16777216:=sizeLine_eq
 cases x with
 | str y=>
  obtain⟨t,rfl⟩:=rx
  obtain⟨hy,e'⟩:y.length<=sizeLine/\n=y.length:=e
  subst e'
  exact len_str (by omega) ⟨.int _,H,I.tok _,⟨_,rfl⟩,q⟩
 | byt y=>
  obtain⟨t,rfl⟩:=rx
  obtain⟨hy,e'⟩:y.size<=sizeLine/\n=y.size:=e
  subst e'
  exact PySem.W.len_bytes (by omega) ⟨.int _,H,I.tok _,⟨_,rfl⟩,q⟩
 | ref p=>
  cases rx
  have e':(∃ xs,SqL X.K H p xs/\n=xs.length)\/∃ xs,SqT X.K H p xs/\n=xs.length:=e
  rcases e' with⟨xs,hx,e'⟩ | ⟨xs,hx,e'⟩
  ·subst e'
   obtain⟨its,r',pl,hz⟩:=I.list hx
   have hlen:=r'.length
   exact Calls.call_len_list pl.isList (by simp only[Aj]; omega) ⟨.int xs.length,H,I.tok _,⟨_,by simp only[Aj]; rw[hlen]⟩,q⟩
  ·subst e'
   obtain⟨its,r',pl,hz⟩:=I.tuple hx
   have hlen:=r'.length
   exact len_tuple pl (by simp only[Aj]; omega) ⟨.int xs.length,H,I.tok _,⟨_,by simp only[Aj]; rw[hlen]⟩,q⟩
 | _=>exact(show False from e).elim
end
structure ObjM(h:Heap)(x dx C:Addr)(mA:Str->Option Value):Prop where
 obj:h.get? x=some (PySem.W.instObj C dx)
 ns:h.Ns1 dx mA
 ne:dx≠x
structure Cls(K:PySem.W.Frag)(C:Addr):Prop where
 pg:PySem.W.plainGet K C Str.empty=true
 hd:PySem.W.hasDictIn K C=true
 po:PySem.W.plainOver K C=true
 sa:PySem.W.findIn K (.ref C) "__setattr__"=some (some (.builtin "object.__setattr__"))
structure Con(K:PySem.W.Frag)(C:Addr)(f:Str)(v:V)(u:Value):Prop where
 at_:PySem.W.findIn K (.ref C) f=some (some u)
 rel:Gz v u
 get:PySem.W.specialIn K u "__get__"=some none
 cp:PySem.W.copiedNames.contains f=false
structure Meth(K:PySem.W.Frag)(C:Addr)(m:Str)(f:Addr):Prop where
 at_:PySem.W.findIn K (.ref C) m=some (some (.ref f))
 fn:PySem.W.isFn K (.ref f)=true
 kp:PySem.W.keepIn K (.ref f)=true
section
variable{X:Cx}{pins:List (Addr×Obj)}{σ:St}{H:Hp}{s:Shared}{A:Around}{E:Value->Shared->Prop}{Q:Value->Shared->Prop}{c:Value}{b:Bool}
inductive TyOf(K:PySem.W.Frag)(H:Hp):V->Value->Prop where
 | non:TyOf K H .non (.type "NoneType")
 | bl (x:Bool):TyOf K H (.bl x) (.type "bool")
 | int (i:Int):TyOf K H (.int i) (.type "int")
 | str (x:Str):TyOf K H (.str x) (.type "str")
 | flt (x:UInt64):TyOf K H (.flt x) (.type "float")
 | lst {a:Addr} {xs:List V} (e:H a=some (.lst xs)):TyOf K H (.ref a) (.type "list")
 | frz {a:Addr} {o:Obj} {xs:List V} (e:H a=some (.frz o (.lst xs))):TyOf K H (.ref a) (.type "list")
 | tup {a:Addr} {xs:List V} (e:H a=some (.tup xs)):TyOf K H (.ref a) (.type "tuple")
 | dK {a:Addr} {kvs:List (Key×V)} (e:H a=some (.dK kvs)):TyOf K H (.ref a) (.type "dict")
 | dT {a:Addr} {kvs:List (NK×Addr×V)} (e:H a=some (.dT kvs)):TyOf K H (.ref a) (.type "dict")
 | ins {a C dx:Addr} {fs:List (Str×V)} (e:H a=some (.ins C dx fs)) (cl:Cls K C) (ha:PySem.W.findIn K (.ref C) "__class__"=some (some (.builtin "object.__class__")))
   (hn:PySem.W.specialIn K (.builtin "object.__class__") "__get__"=some (some (.builtin "getset_descriptor.__get__"))) (htk:PySem.W.takesIn K (.builtin "object.__class__")=some true)
   (hm:PySem.W.mroIn K C (.type "object")=some true):TyOf K H (.ref a) (.ref C)
end
structure Room(k:Nat)(A:Around):Prop where
 hd:A.handled=none
 dp:A.depth+3*k+5<recursionLimit
 un:A.units+16*k+200<cLine
 gd:A.guards=some []
theorem Room.mono{j k:Nat}{A:Around}(r:Room k A)(h:j<=k):Room j A:=⟨r.hd,by have:=r.dp; omega,by have:=r.un; omega,r.gd⟩
theorem Room.deeper{k:Nat}{A:Around}(r:Room (k+1) A)(env:Env):Room k (A.deeper env):=
 ⟨r.hd,by have:=r.dp; show A.depth+1+3*k+5<_; omega,by have:=r.un; show A.units+3+16*k+200<_; omega,by first | exact r.gd | (simpa[Around.deeper] using r.gd)⟩
theorem Ghz{A:Around}{C:Addr}{us:List Value}{kw:List (Str×Value)}:(A.under (.builtin "type.__call__" ⟨.ref C::us,kw⟩)).depth=A.depth+1:=by
 first | rfl | simp[Around.under,Code.weight,Code.isCreation,Code.isGuard,Code.isCaller,Code.frames,Code.isFrame,guardIds]
theorem Gh0{A:Around}{C:Addr}{us:List Value}{kw:List (Str×Value)}:(A.under (.builtin "type.__call__" ⟨.ref C::us,kw⟩)).units=A.units+1:=by
 first | rfl | simp[Around.under,Code.cUnits,Code.frames,Code.isFrame]
theorem Room.make{k:Nat}{A:Around}(r:Room (k+1) A)(C:Addr)(us:List Value)(kw:List (Str×Value)):Room k (A.under (.builtin "type.__call__" ⟨.ref C::us,kw⟩)):=
 ⟨r.hd,by have:=r.dp; rw[Ghz]; omega,by have:=r.un; rw[Gh0]; omega,by first | exact r.gd | (simpa[Around.under,pushGuards,Code.guards,Code.isGuard,guardIds] using r.gd)⟩
theorem Room.depth{k:Nat}{A:Around}(r:Room k A):A.depth<recursionLimit:=by have:=r.dp; omega
theorem Room.units{k:Nat}{A:Around}(r:Room k A):A.units+64<cLine:=by have:=r.un; omega
noncomputable def Gx1:TA:=fun _ H Q=>Q [] H
noncomputable def Gl7(ta:TE)(tr:TA):TA:=fun σ H Q=>ta σ H fun x H1=>tr σ H1 fun xs H2=>Q (x::xs) H2
section
variable{X:Cx}{e:Expr}{es:List Expr}{te:TE}{t:TA}{pos:Pos}
theorem pa_nil:PA X [] Gx1:=fun _ _ _ _ H Q I h=>Calls.spliced_nil ⟨[],H,I,.nil,h⟩
theorem Qp(ha:PE X e te)(hr:PA X es t)(hs:starEach (e::es) X.env=(false,eval e X.env)::starEach es X.env:=by rfl):PA X (e::es) (Gl7 te t):=by
 intro pos pins s σ H Q I h
 rw[hs]
 show wpAny _ _ (spliced ((false,eval e X.env)::backTo pos (starEach es X.env))) _ _ s
 refine Calls.spliced_cons (thn (ha pins s σ H _ I h) fun u s1 zq0=>?_)
 obtain⟨x,H1,I1,r1,q1⟩:=zq0
 exact thn (hr pos pins s1 σ H1 _ I1 q1) fun us s2 ⟨xs,H2,I2,r2,q2⟩=>⟨x::xs,H2,I2,.cons r1 r2,q2⟩
noncomputable def Hao(t:TA):TE:=fun σ H Q=>t σ H fun xs H1=>xs.length<=sizeLine/\∀ p,H1 p=none->Q (.ref p) (upd H1 p (.tup xs))
noncomputable def Hap(t:TA):TE:=fun σ H Q=>t σ H fun xs H1=>xs.length<=sizeLine/\∀ p,H1 p=none->Q (.ref p) (upd H1 p (.lst xs))
theorem Gua{x1}(h:PA X es t):PE X (.Tuple es x1 pos) (Hao t):=by
 intro pins s σ H Q I hq
 refine wpAny_Tuple_spliced (thn (h pos pins s σ H _ I hq) fun us s1 ⟨xs,H1,I1,r,z,q⟩=>⟨by rw[<- r.length]; exact z,?_⟩)
 have hf:H1 s1.heap.objs.size=none:=I1.hok.fresh (Aa _)
 refine⟨.ref s1.heap.objs.size,upd H1 s1.heap.objs.size (.tup xs),I1.laid (t':=s1.toks) (fun b u e=>Ah _ e) (Aa _) ?_,rfl,q _ hf⟩
 exact⟨z,us,r,⟨_,AA _ rfl,rfl,_,rfl⟩⟩
theorem Gub(h:PA X es t):PE X (.List es pos) (Hap t):=by
 intro pins s σ H Q I hq
 refine wpAny_List_spliced (thn (h pos pins s σ H _ I hq) fun us s1 ⟨xs,H1,I1,r,z,q⟩=>⟨by rw[<- r.length]; exact z,?_⟩)
 have hf:H1 s1.heap.objs.size=none:=I1.hok.fresh (Aa _)
 refine⟨.ref s1.heap.objs.size,upd H1 s1.heap.objs.size (.lst xs),I1.laid (t':=s1.toks) (fun b u e=>Ah _ e) (Aa _) ?_,rfl,q _ hf⟩
 exact⟨z,us,0,r,AA _ rfl⟩
end
noncomputable abbrev Sp:=List V->Hp->VK->XK->Prop
noncomputable abbrev CXT:=List Env->Hp->Shared->XK->Value->Shared->Prop
structure Env0(P:Program)(w:World)(K:PySem.W.Frag)(mg:Str->Option Value)(base:Heap)(A:Around)(outer:List Env)(s:Shared)(H:Hp):Prop where
 frames:A.frames=some outer
 mod:Mod K mg base
 bs:∀ b o,base.get? b=some o->s.heap.get? b=some o/\H b=none
 bsz:base.objs.size<=s.heap.objs.size
 funs:s.heap.FunFrames base outer
 frf:∀ b∈frs outer,H b=none
 hok:HOk P w H s.heap
 bare:AllBare s.gens
noncomputable def CE(outer:List Env)(P:Program)(w:World)(H:Hp)(s:Shared)(Q:VK)(u:Value)(s':Shared):Prop:=
 ∃ v H',s'.os=s.os/\AllBare s'.gens/\Un (frs outer) [] H H' s.heap s'.heap/\HOk P w H' s'.heap/\Gz v u/\Q v H'
noncomputable def CR(CX:CXT)(outer:List Env)(P:Program)(w:World)(H:Hp)(s:Shared)(Q:VK)(E:XK)(r:Result)(s':Shared):Prop:=
 match r with
 | .ok (.ret u)=>CE outer P w H s Q u s'
 | .ok _=>False
 | .error e=>CX outer H s E e s'
structure FnOk(P:Program)(w:World)(K:PySem.W.Frag)(mg:Str->Option Value)(base:Heap)(CX:CXT)(k:Nat)(f:Addr)(fd:FuncData)(ps:List Str)(sp:Sp):Prop where
 len:∀ vs H Q E,sp vs H Q E->vs.length=ps.length
 run:∀ (A:Around) (outer:List Env) (s:Shared) (H:Hp) (args:Args) (us:List Value) (vs:List V) (Q:VK) (E:XK),Room k A->Env0 P w K mg base A outer s H->BindsTo s fd args (ps.zip us)->Vals vs us->sp vs H Q E→
  codeAny (model P w) A (.call (.ref f) args) (CR CX outer P w H s Q E) s
theorem FnOk.mono{P:Program}{w:World}{K:PySem.W.Frag}{mg:Str->Option Value}{base:Heap}{CX:CXT}{j k:Nat}{f:Addr}{fd:FuncData}{ps:List Str}{sp:Sp}(F:FnOk P w K mg base CX j f fd ps sp)(h:j<=k):
  FnOk P w K mg base CX k f fd ps sp:=⟨F.len,fun A outer s H args us vs Q E hr=>F.run A outer s H args us vs Q E (hr.mono h)⟩
theorem Env0.make{P:Program}{w:World}{K:PySem.W.Frag}{mg:Str->Option Value}{base:Heap}{A:Around}{outer:List Env}{s:Shared}{H:Hp}(e:Env0 P w K mg base A outer s H)(C:Addr)(us:List Value)(kw:List (Str×Value)):
  Env0 P w K mg base (A.under (.builtin "type.__call__" ⟨.ref C::us,kw⟩)) outer s H:=⟨by first | exact e.frames | (simpa[Around.under,Code.envs,Code.isFrame,pushEnvs] using e.frames),e.mod,e.bs,e.bsz,e.funs,e.frf,e.hok,e.bare⟩
section
variable{X:Cx}{pins:List (Addr×Obj)}{σ:St}{H:Hp}{s s':Shared}
theorem Inv.env0(I:Inv X pins σ H s):Env0 X.prog X.w X.K X.mg X.base X.A X.stack s H:=
 ⟨I.ok.frames,I.ok.mod,I.bs,Ao I.ok.bsz I.sz,I.stack,I.stkFree,I.hok,I.bare⟩
theorem Inv.after{Q:VK}{u:Value}(I:Inv X pins σ H s)(h:CE X.stack X.prog X.w H s Q u s'):EP X pins σ Q u s':=by
 obtain⟨v,H',os,bare,un,hok,r,q⟩:=h
 obtain⟨hh,g,d,t,os'⟩:=s'
 obtain rfl:os'=s.os:=os
 exact⟨v,H',I.call (h':=hh) (g':=g) (d':=d) (t':=t) (ch:=[]) un hok bare (fun b z=>absurd z (by simp)),r,q⟩
end
noncomputable def Gx2(sp:Sp)(dvs:List V)(E:XK)(t:TA):TE:=fun σ H Q=>t σ H fun vs H1=>sp (vs++dvs) H1 Q E
noncomputable def Binds(K:PySem.W.Frag)(fd:FuncData)(ps:List Str)(ds:List Value):Prop:=
 ∀ (s:Shared) (us:List Value),K.In s.heap->(us++ds).length=ps.length->BindsTo s fd ⟨us,[]⟩ (ps.zip (us++ds))
theorem Binds.all{K:PySem.W.Frag}{fd:FuncData}{ps:List Str}(h:∀ us:List Value,us.length=ps.length->bindArgs fd ⟨us,[]⟩=pure (ps.zip us)):Binds K fd ps []:=fun s us _ hl=>by
 rw[A4] at hl ⊢
 exact .of_eq (h us hl)
noncomputable def Passes(CX:CXT)(X:Cx)(E:XK):Prop:=∀ (pins:List (Addr×Obj)) (σ:St) (H:Hp) (s:Shared) (e:Value) (s':Shared),Inv X pins σ H s->CX X.stack H s E e s'->X.xe e s'
section
variable{X:Cx}{CX:CXT}{k:Nat}{f C:Addr}{fd:FuncData}{ps:List Str}{sp:Sp}{dvs:List V}{ds:List Value}{E:XK}{x m:Str}{p pos apos:Pos}{e o:Expr}{es:List Expr}{ta:TE}{t:TA}
theorem Guc{pins:List (Addr×Obj)}{σ:St}{H:Hp}{s:Shared}{Q:VK}{us:List Value}{vs:List V}(F:FnOk X.prog X.w X.K X.mg X.base CX k f fd ps sp)(hr:Room k X.A)(hb:Binds X.K fd ps ds)(hd:Vals dvs ds)(hx:Passes CX X E)
  (I:Inv X pins σ H s) (r:Vals vs us) (h:sp (vs++dvs) H Q E):wpAny (model X.prog X.w) X.A (call (.ref f) us) (EP X pins σ Q) X.xe s:=by
 have r2:Vals (vs++dvs) (us++ds):=r.append hd
 have hl:(us++ds).length=ps.length:=by rw[<- r2.length]; exact F.len _ _ _ _ h
 refine wpAny_call (codeAny_mono (F.run X.A X.stack s H ⟨us,[]⟩ (us++ds) (vs++dvs) Q E hr I.env0 (hb s us I.kIn hl) r2 h) fun r s' hq=>?_)
 cases r with
 | error e=>exact hx pins σ H s e s' I hq
 | ok fl=>
  cases fl with
  | ret u=>exact I.after hq
  | next=>exact False.elim hq
  | brk=>exact False.elim hq
  | cont=>exact False.elim hq
theorem Gpa(F:FnOk X.prog X.w X.K X.mg X.base CX k f fd ps sp)(hr:Room k X.A)(hg:Gl X x)(hm:X.mg x=some (.ref f))(hk:PySem.W.keepIn X.K (.ref f)=true)(hb:Binds X.K fd ps ds)(hd:Vals dvs ds)(hx:Passes CX X E)
  (ha:PA X (e::es) t) (hdb:(x==("__debug__":Str))=false:=by decide) (he:starEach (e::es) X.env=(false,eval e X.env)::starEach es X.env:=by rfl) (hpl:(backTo pos (starEach es X.env)).any (·.1)=false:=by rfl):
  PE X (.Call (.Name x p) (e::es) [] pos) (Gx2 sp dvs E t):=by
 intro pins s σ H Q I h
 refine wpAny_Call_Name_kw (Xs I hg hm ?_ hdb)
 refine PySem.W.callWith_K (h₀:=X.base) I.ok.mod.kin hk (thn (ha pos pins s σ H _ I h) fun us s1 ⟨vs,H1,I1,r,q⟩=>⟨I1.kIn,?_⟩) he hpl
 exact Guc F hr hb hd hx I1 r q
structure Mk(K:PySem.W.Frag)(C f:Addr):Prop where
 makes:PySem.W.makesIn K C=true
 init:PySem.W.findIn K (.ref C) "__init__"=some (some (.ref f))
 fn:PySem.W.isFn K (.ref f)=true
 kp:PySem.W.keepIn K (.ref C)=true
end
section
variable{X:Cx}{CX:CXT}{k:Nat}{f C:Addr}{fd:FuncData}{ps ks:List Str}{sp:Sp}{E:XK}{x m:Str}{p pos apos kpos:Pos}{e o:Expr}{es:List Expr}{kws:List Keyword}{te ta:TE}{t tk:TA}{nm:Option Str}
structure KBinds(K:PySem.W.Frag)(fd:FuncData)(ps ks:List Str)(g:List Value->List Value->List Value)(gV:List V->List V->List V):Prop where
 to:∀ (s:Shared) (us ws:List Value),K.In s.heap->(g us ws).length=ps.length->BindsTo s fd ⟨us,ks.zip ws⟩ (ps.zip (g us ws))
 rel:∀ {vs:List V} {us:List Value} {zs:List V} {ws:List Value},Vals vs us->Vals zs ws->Vals (gV vs zs) (g us ws)
variable{g:List Value->List Value->List Value}{gV:List V->List V->List V}
end
structure FnScope(N P:List Str)(sc:Scope):Prop where
 kind:sc.kind=.function
 co:sc.isCoroutine=false
 gen:sc.isGenerator=false
 nd:N.Nodup
 pre:N.take P.length=P
 par:∀ x∈P,sc.names.lookup x=some .local\/sc.names.lookup x=some .cell
 nofree:∀ y∈sc.names,y.2≠.free
theorem Gdx{kindOf:Str->Option NameKind}{x:Str}:∀ {binds:List (Str×Value)} {m:Str->Option Value},(∀ v,(x,v)∉binds)->bindL kindOf binds m x=m x
 | [],_,_=>rfl
 | (n,v)::r,m,h=>by
  unfold bindL
  rw[Gdx fun w hw=>h w (An _ hw)]
  split
  ·have:x≠n:=by rintro rfl; exact h v Aq
   simp[this]
  ·rfl
theorem Gdy{kindOf:Str->Option NameKind}{x:Str}:∀ {binds:List (Str×Value)} {m:Str->Option Value},(∀ v,(x,v)∉binds)->bindC kindOf binds m x=m x
 | [],_,_=>rfl
 | (n,v)::r,m,h=>by
  unfold bindC
  rw[Gdy fun w hw=>h w (An _ hw)]
  split
  ·rfl
  ·have:x≠n:=by rintro rfl; exact h v Aq
   simp[this]
theorem Gdz{kindOf:Str->Option NameKind}{x:Str}{v:Value}:∀ {P:List Str} {vs:List Value} {i:Nat} {m:Str->Option Value},P.Nodup->P[i]?=some x->vs[i]?=some v->kindOf x=some .local→
  bindL kindOf (P.zip vs) m x=some v
 | [],_,_,_,_,h,_,_=>by simp at h
 | _::_,[],_,_,_,_,h,_=>by simp at h
 | p::P,w::vs,0,m,nd,h1,h2,hk=>by
  simp at h1 h2; subst h1; subst h2
  show bindL kindOf ((p,w)::P.zip vs) m p=_
  unfold bindL
  rw[Gdx fun v hv=>(A8.mp nd).1 (List.of_mem_zip hv).1,if_pos hk]
  simp
 | p::P,w::vs,i+1,m,nd,h1,h2,hk=>by
  show bindL kindOf ((p,w)::P.zip vs) m x=_
  unfold bindL
  exact Gdz (i:=i) (A8.mp nd).2 (by simpa using h1) (by simpa using h2) hk
theorem Gd0{kindOf:Str->Option NameKind}{x:Str}{v:Value}:∀ {P:List Str} {vs:List Value} {i:Nat} {m:Str->Option Value},P.Nodup->P[i]?=some x->vs[i]?=some v->kindOf x≠some .local→
  bindC kindOf (P.zip vs) m x=some v
 | [],_,_,_,_,h,_,_=>by simp at h
 | _::_,[],_,_,_,_,h,_=>by simp at h
 | p::P,w::vs,0,m,nd,h1,h2,hk=>by
  simp at h1 h2; subst h1; subst h2
  show bindC kindOf ((p,w)::P.zip vs) m p=_
  unfold bindC
  rw[Gdy fun v hv=>(A8.mp nd).1 (List.of_mem_zip hv).1,if_neg hk]
  simp
 | p::P,w::vs,i+1,m,nd,h1,h2,hk=>by
  show bindC kindOf ((p,w)::P.zip vs) m x=_
  unfold bindC
  exact Gd0 (i:=i) (A8.mp nd).2 (by simpa using h1) (by simpa using h2) hk
noncomputable def start(N:List Str)(vs:List V):St:=vs.map some++List.replicate (N.length-vs.length) none
noncomputable def Ku(CX:CXT)(P:Program)(w:World)(K:PySem.W.Frag)(mg:Str->Option Value)(base:Heap)(N:List Str)(qual:Str)(scope:Scope)(f:Addr)(cd:Value)(A:Around)(outer:List Env)(s:Shared)(H:Hp)(E:XK):Cx where
 prog:=P
 w:=w
 K:=K
 mg:=mg
 base:=base
 A:=A.deeper (envOfC qual scope s.heap.objs.size f cd)
 N:=N
 s₀:=s
 H₀:=H
 env:=envOfC qual scope s.heap.objs.size f cd
 outer:=outer
 stack:=envOfC qual scope s.heap.objs.size f cd::outer
 ex:=[]
 calm:=true
 fn:=fun _=>true
 pn:=[]
 xe:=fun e s'=>wpAny (model P w) (A.deeper (envOfC qual scope s.heap.objs.size f cd)) (leaving (envOfC qual scope s.heap.objs.size f cd) e) (fun _ s''=>CX outer H s E e s'') (fun e' s''=>CX outer H s E e' s'') s'
theorem Gge{sc:Scope}{n:Nat}{x:Str}(h:sc.names.lookup x=some .cell):∃ c,(cellsFrom n sc.names []).lookup x=some c:=by
 have q:=PySem.W.cellsFrom_some sc.names n [] (.inl h)
 exact Bq.mp q
theorem Gk0{CX:CXT}{P:Program}{w:World}{K:PySem.W.Frag}{mg:Str->Option Value}{base:Heap}{N ps:List Str}{qual:Str}{scope:Scope}{f:Addr}{cd:Value}{A:Around}{outer:List Env}{s s1:Shared}{H:Hp}{E:XK}{us:List Value}{vs:List V}
  (S:FnScope N ps scope) (hd:A.handled=none) (e0:Env0 P w K mg base A outer s H) (hl:vs.length=ps.length) (r:Vals vs us)
  (x:InCallC s s.heap.objs.size (bindL (envOfC qual scope s.heap.objs.size f cd).kindOf (ps.zip us) fun _=>none) (cellsFrom (s.heap.objs.size+1) scope.names []) (bindC (envOfC qual scope s.heap.objs.size f cd).kindOf (ps.zip us) fun _=>none) s1):
  Inv (Ku CX P w K mg base N qual scope f cd A outer s H E) [] (start N vs) H s1:=by
 have hpl:ps.length<=N.length:=by have:=congrArg List.length S.pre; rw[Bh] at this; omega
 obtain⟨h1,tk,rfl,hk⟩:=x.done
 have noA:∀ b:Addr,b∉(Ku CX P w K mg base N qual scope f cd A outer s H E).ex:=fun b z=>absurd (show b∈([]:List Addr) from z) (by simp)
 refine⟨⟨e0.mod,S.kind,rfl,rfl,Aa _,fun y z c h1 h2=>?_,fun y hy=>?_,fun y c _ h=>?_,fun _=>hd,Around.frames_deeper e0.frames,.inr ⟨rfl,rfl⟩,fun b z=>absurd z (noA b),e0.bs,e0.bsz,fun b _ _=>noA b,fun b z=>absurd z (noA b),e0.funs,e0.frf⟩,
  rfl,e0.bare,Un.kept hk,⟨_,x.toInCall.ns,fun i y v h1 h2 h3=>?_⟩,fun y c h=>⟨_,x.cell y c h⟩,e0.hok.fresh (Aa _),fun y c h=>?_,fun p hp=>absurd (show p∈([]:List (Addr×Obj)) from hp) (by simp),e0.hok.kept hk,?_⟩
 ·exact name_of_addr x.apart (PySem.mem_of_lookup h1) (PySem.mem_of_lookup h2)
 ·have hy:scope.names.lookup y=some .cell\/scope.names.lookup y=some .free:=hy
  rcases hy with hy | hy
  ·exact Gge hy
  ·exact absurd rfl (S.nofree _ (PySem.mem_of_lookup hy))
 ·exact Bd (x.above y c (PySem.mem_of_lookup h))
 ·have hi:i<vs.length:=by
   unfold start at h2
   by_cases hi:i<vs.length
   ·exact hi
   ·rw[AW (by simpa using hi)] at h2
    rw[List.getElem?_replicate] at h2
    split at h2<;>cases h2
  have ha:vs[i]?=some v:=by
   unfold start at h2
   rw[Ar (by simpa using hi),Aw] at h2
   cases e:vs[i]? with
   | none=>rw[e] at h2; cases h2
   | some a=>rw[e] at h2; cases h2; rfl
  obtain⟨u,hu,rv⟩:=r.get ha
  have hp:ps[i]?=some y:=by
   rw[<- S.pre,List.getElem?_take_of_lt (by omega)]; exact h1
  have ndP:ps.Nodup:=by rw[<- S.pre]; exact S.nd.sublist (List.take_sublist _ _)
  refine⟨u,rv,?_⟩
  rcases S.par y (Ai hp) with k | k
  ·exact .inl ⟨k,Gdz ndP hp hu k⟩
  ·obtain⟨c,e⟩:=Gge (n:=s.heap.objs.size+1) k
   refine .inr ⟨.inl k,c,e,?_⟩
   have q:=x.cell y c e
   rw[Gd0 ndP hp hu (by show scope.names.lookup y≠_; rw[k]; decide)] at q
   exact q
 ·exact e0.hok.fresh (Bd (x.above y c (PySem.mem_of_lookup h)))
 ·unfold start
  show _=N.length
  rw[AB,AD,List.length_replicate]
  omega
theorem Gl8{CX:CXT}{P:Program}{w:World}{K:PySem.W.Frag}{mg:Str->Option Value}{base:Heap}{k:Nat}{f:Addr}{name qual:Str}{params:Arguments}{body:List Stmt}{scope:Scope}{dV kV doc pm cdv ct oc:Value}{an od:Option Addr}
  {osl:Array (Option Value)} {N ps:List Str} {sp:Sp} (lk:K.lookup f=some ⟨oc,od,.func (PySem.W.fnOf name qual params body scope dV kV doc pm an cdv ct),osl⟩) (hcd:PySem.W.codeIn K cdv qual=true) (S:FnScope N ps scope)
  (len:∀ vs H Q E,sp vs H Q E->vs.length=ps.length)
  (hbody:∀ (A:Around) (outer:List Env) (s:Shared) (H:Hp) (vs:List V) (Q:VK) (E:XK),Room k (A.deeper (envOfC qual scope s.heap.objs.size f cdv))->sp vs H Q E→
   ∃ t,PSs (Ku CX P w K mg base N qual scope f cdv A outer s H E) body t/\t { nx:=fun _ H'=>Q .non H',rt:=Q } (start N vs) H):
  FnOk P w K mg base CX (k+1) f (PySem.W.fnOf name qual params body scope dV kV doc pm an cdv ct) ps sp:=by
 refine⟨len,fun A outer s H args us vs Q E hr e0 hb r hsp=>?_⟩
 have hl:=len _ _ _ _ hsp
 have KX:K.In s.heap:=e0.mod.kin.keeps fun b o e=>(e0.bs b o e).1
 have lim:s.heap.NoLimit:=e0.mod.nolimit.keeps fun b o e=>(e0.bs b o e).1
 have hkind:∀ y∈ps.zip us,scope.names.lookup y.1=some .local\/(scope.names.lookup y.1=some .cell/\((cellsFrom (s.heap.objs.size+1) scope.names []).lookup y.1).isSome=true):=fun⟨n,v⟩ hy=>by
  rcases S.par n (List.of_mem_zip hy).1 with q | q
  ·exact .inl q
  ·exact .inr ⟨q,PySem.W.cellsFrom_some _ _ _ (.inl q)⟩
 refine codeAny_call_function hr.depth (KX _ _ lk) rfl S.co S.gen rfl (PySem.W.codeRec_of KX hcd) (hb _ _ _ _ ?_)
 refine wpAny_newFunctionEnv_cells S.kind hkind fun env he s1 x=>?_
 subst he
 refine⟨lim.keeps x.toInCall.keep,codeAny_func ?_⟩
 obtain⟨t,ht,hq⟩:=hbody A outer s H vs Q E (hr.deeper _) hsp
 have I:Inv (Ku CX P w K mg base N qual scope f cdv A outer s H E) [] (start N vs) H s1:=Gk0 S hr.hd e0 hl r x
 refine wpAny_mono (ht [] s1 (start N vs) H _ I hq) (fun fl s' hs=>?_) fun e s' hs=>hs
 have fin:∀ {σ':St} {H':Hp} {v:V} {u:Value},Inv (Ku CX P w K mg base N qual scope f cdv A outer s H E) [] σ' H' s'->Gz v u->Q v H'->CE outer P w H s Q u s':=
  fun{σ' H' v u} J rv q=>⟨v,H',J.os,J.bare,J.base,J.hok,rv,q⟩
 cases fl with
 | ret u=>
  obtain⟨v,σ',H',J,rv,q⟩:=hs
  exact fin J rv q
 | next=>
  obtain⟨σ',H',J,q⟩:=hs
  exact fin (v:=V.non) (u:=Value.none) J rfl q
 | brk=>
  obtain⟨_,_,_,q⟩:=hs
  exact False.elim q
 | cont=>
  obtain⟨_,_,_,q⟩:=hs
  exact False.elim q
section
variable{X:Cx}{x:Str}{p pos:Pos}{e:Expr}{es:List Expr}{t:TA}{id T:String}{r:List V->Hp->VK->Prop}
noncomputable def tCB(r:List V->Hp->VK->Prop)(t:TA):TE:=fun σ H Q=>t σ H fun vs H1=>r vs H1 Q
theorem Zd(hc:Vb X (.builtin id) r)(hg:Gl X x)(hm:X.mg x=none)(hv:bootBuiltins x=some (.builtin id))(ha:PA X (e::es) t)(hn:x≠"__name__":=by decide)(hdb:(x==("__debug__":Str))=false:=by decide)
  (he:starEach (e::es) X.env=(false,eval e X.env)::starEach es X.env:=by rfl) (hpl:(backTo pos (starEach es X.env)).any (·.1)=false:=by rfl):PE X (.Call (.Name x p) (e::es) [] pos) (tCB r t):=by
 intro pins s σ H Q I h
 refine wpAny_Call_Name_kw (Vn I hg hm hv ?_ hn hdb)
 exact PyProof.Rows.callWith_builtin1 (thn (ha pos pins s σ H _ I h) fun us s1 ⟨vs,H1,I1,r1,q1⟩=>hc pins s1 σ H1 vs us Q I1 r1 q1) he hpl
theorem Gk1(hc:Vb X (.type T) r)(hg:Gl X x)(hm:X.mg x=none)(hv:bootBuiltins x=some (.type T))(ha:PA X (e::es) t)(hn:x≠"__name__":=by decide)(hdb:(x==("__debug__":Str))=false:=by decide)
  (he:starEach (e::es) X.env=(false,eval e X.env)::starEach es X.env:=by rfl) (hpl:(backTo pos (starEach es X.env)).any (·.1)=false:=by rfl):PE X (.Call (.Name x p) (e::es) [] pos) (tCB r t):=by
 intro pins s σ H Q I h
 refine wpAny_Call_Name_kw (Vn I hg hm hv ?_ hn hdb)
 exact PyProof.Rows.callWith_type1 (thn (ha pos pins s σ H _ I h) fun us s1 ⟨vs,H1,I1,r1,q1⟩=>hc pins s1 σ H1 vs us Q I1 r1 q1) he hpl
end
end L2
namespace HT
open PySem PyProof.Rows
section
open PySem.SeqAt
open PySem.AutoSeq1 (wpAny_loadPart')
open PySem.MeetsSeq PySem.MeetsSeq2 PySem.MeetsSeq3
end
section
variable{prog:Program}{w:World}{A:Around}{E:Value->Shared->Prop}{s:Shared}
theorem Gpb{t b:Addr}{vs ws:List Value}{Q:Value->Shared->Prop}(ht:IsTup s.heap t vs.toArray)(hb:IsTup s.heap b ws.toArray)(hv:vs≠[])
  (h1:ws=[]->Q (.ref t) s) (h2:ws≠[]->Q (.ref s.heap.objs.size) { s with heap:=s.heap.push { cls:=.type "tuple",data:=.seq (vs++ws).toArray } })
  (hsz:vs.length+ws.length<=sizeLine):wpAny (model prog w) A (binaryOp .Add (.ref t) (.ref b)) Q E s:=by
 obtain⟨⟨cls,dd,data,sl⟩,ho,hc,n,hd⟩:=id ht
 obtain⟨⟨cls2,dd2,data2,sl2⟩,ho2,hc2,n2,hd2⟩:=id hb
 simp only at hc hd hc2 hd2
 subst hc hd hc2 hd2
 have e:vs.toArray++ws.toArray=(vs++ws).toArray:=by simp
 by_cases hw:ws=[]
 ·exact concat_meets ⟨_,ho,rfl⟩ ⟨_,ho2,rfl⟩ noFill_tuple_add seq_tuple_add PySem.F.slot_tuple_add PySem.F.entry_tuple_add (PySem.F.args_tuple_add_2 _ _)
   (tuple_addW1 t b vs.toArray ws.toArray n n2 dd dd2 sl sl2 (by simpa using hv) (by simp[hw])) ⟨ho,ho2,h1 hw⟩
 ·refine concat_meets ⟨_,ho,rfl⟩ ⟨_,ho2,rfl⟩ noFill_tuple_add seq_tuple_add PySem.F.slot_tuple_add PySem.F.entry_tuple_add (PySem.F.args_tuple_add_2 _ _)
   (tuple_addW2 t b vs.toArray ws.toArray n n2 dd dd2 sl sl2 (by simpa using hv) (by simpa using hw) (by rw[Aj,Aj]; exact hsz)) ⟨ho,ho2,?_⟩
  rw[e]
  exact h2 hw
noncomputable def sIx(n d:Nat):Option Int->Nat
 | none=>d
 | some v=>if v<0 then(v+(n:Int)).toNat else min v.toNat n
theorem Ggf(n d:Nat):sIx n d none=d:=rfl
theorem Gi8(n d k:Nat):sIx n d (some (k:Int))=min k n:=by
 show(if(k:Int)<0 then((k:Int)+(n:Int)).toNat else min (k:Int).toNat n)=min k n
 rw[if_neg (by omega),AI]
theorem Gud(n d:Nat)(hd:d<=n)(o:Option Int):sIx n d o<=n:=by
 cases o with
 | none=>exact hd
 | some v=>
  show(if v<0 then(v+(n:Int)).toNat else min v.toNat n)<=n
  by_cases hv:v<0
  ·rw[if_pos hv]; omega
  ·rw[if_neg hv]; exact Nat.min_le_right _ _
theorem Gi9(v:Int)(n d:Nat):(if v<0 then max (v+(n:Int)) 0 else min v (n:Int))=((sIx n d (some v):Nat):Int):=by
 show(if v<0 then max (v+(n:Int)) 0 else min v (n:Int))=(((if v<0 then(v+(n:Int)).toNat else min v.toNat n):Nat):Int)
 by_cases hv:v<0
 ·simp only[if_pos hv]; omega
 ·simp only[if_neg hv]; omega
theorem Gh1(lo hi:Option Int)(n:Nat):Builtin.Slice.sliceAdjust lo hi 1 (n:Int)=(((sIx n 0 lo:Nat):Int),((sIx n n hi:Nat):Int)):=by
 have h1:¬ ((1:Int)<0):=by omega
 unfold Builtin.Slice.sliceAdjust
 simp only[h1,if_false]
 refine Prod.ext ?_ ?_
 ·cases lo with
  | none=>rfl
  | some v=>exact Gi9 v n 0
 ·cases hi with
  | none=>rfl
  | some v=>exact Gi9 v n n
theorem Gh2(i j:Nat):Builtin.Slice.slicePlaces (i:Int) (j:Int) 1=j-i:=by
 unfold Builtin.Slice.slicePlaces
 have h1:(1:Int)>0:=by omega
 simp only[h1,if_true,Int.ediv_one]
 split<;>omega
theorem Gbx{v:Value}{o:Option Int}{Q:Option Int->Shared->Prop}(p:IsPart v o)(h:Q o s):wpAny (model prog w) A (Builtin.Slice.slicePartIndex v) Q E s:=by
 cases p with
 | none=>exact slicePart_none h
 | int i t=>exact slicePart_int h
theorem Vc{sl:Addr}{vl vu:Value}{lo hi:Option Int}{n:Nat}{Q:Int×Int×Nat->Shared->Prop}(hs:s.heap.IsSliceOf sl vl vu .none)(pl:IsPart vl lo)(pu:IsPart vu hi)
  (h:Q (((sIx n 0 lo:Nat):Int),1,sIx n n hi-sIx n 0 lo) s):wpAny (model prog w) A (Builtin.Slice.sliceApplied (.ref sl) (pure (n:Int))) Q E s:=by
 obtain⟨os,hos,hcs,hds⟩:=id hs
 unfold Builtin.Slice.sliceApplied Builtin.Slice.sliceFields
 refine wpAny_bind (wpAny_bind (wpAny_field hos hds (x:=vl) rfl (wpAny_bind (wpAny_field hos hds (x:=vu) rfl (wpAny_bind (wpAny_field hos hds (x:=.none) rfl (wpAny_pure ?_)))))))
 refine wpAny_bind (slicePart_none ?_)
 show wpAny _ _ (if((1:Int)==0)=true then _ else _) _ _ s
 rw[if_neg (by decide)]
 refine wpAny_bind (Gbx pl (wpAny_bind (Gbx pu (wpAny_bind (wpAny_pure ?_)))))
 show wpAny _ _ (match Builtin.Slice.sliceAdjust lo hi 1 (n:Int) with | (lo,hi)=>pure (lo,(1:Int),Builtin.Slice.slicePlaces lo hi 1)) _ _ s
 rw[Gh1 lo hi n]
 show wpAny _ _ (pure (((sIx n 0 lo:Nat):Int),(1:Int),Builtin.Slice.slicePlaces ((sIx n 0 lo:Nat):Int) ((sIx n n hi:Nat):Int) 1)) _ _ s
 rw[Gh2]
 exact wpAny_pure h
theorem Gl9(xs:Array Value)(i k:Nat):((List.range k).filterMap fun(m:Nat)=>xs[((i:Int)+(m:Int)*1).toNat]?).toArray=((xs.toList.drop i).take k).toArray:=by
 have e:(fun(m:Nat)=>xs[((i:Int)+(m:Int)*1).toNat]?)=fun m=>xs[i+m]?:=by
  funext m
  have:((i:Int)+(m:Int)*1).toNat=i+m:=by omega
  rw[this]
 rw[e]
 have:=pick_run xs i k
 rw[List.filterMap_map] at this
 have e2:((fun x=>xs[x]?)∘fun x=>i+x)=fun m=>xs[i+m]?:=rfl
 rw[e2] at this
 rw[this]
theorem Ze{t sl:Addr}{items:Array Value}{vl vu:Value}{lo hi:Option Int}{Q:Value->Shared->Prop}(ht:IsTup s.heap t items)(hs:s.heap.IsSliceOf sl vl vu .none)(pl:IsPart vl lo)(pu:IsPart vu hi)
  (hw:¬ (sIx items.size 0 lo=0/\sIx items.size items.size hi=items.size))
  (h:Q (.ref s.heap.objs.size) { s with heap:=s.heap.push { cls:=.type "tuple",data:=.seq ((items.toList.drop (sIx items.size 0 lo)).take (sIx items.size items.size hi-sIx items.size 0 lo)).toArray } })
  (hsz:items.size<=sizeLine):wpAny (model prog w) A (getItem (.ref t) (.ref sl)) Q E s:=by
 have htake:sizeOk (.seq ((items.toList.drop (sIx items.size 0 lo)).take (sIx items.size items.size hi-sIx items.size 0 lo)).toArray):=by
  show((items.toList.drop (sIx items.size 0 lo)).take (sIx items.size items.size hi-sIx items.size 0 lo)).toArray.size<=sizeLine
  rw[Aj,Bh,List.length_drop,Array.length_toList]
  omega
 have hj:sIx items.size items.size hi<=items.size:=Gud _ _ (Aa _) hi
 obtain⟨os,hos,hcs,hds⟩:=id hs
 have hTs:s.TypeIs (.ref sl) "slice":=⟨os,hos,hcs⟩
 unfold getItem
 try with_reducible refine wpAny_holding ?_
 first | refine wpAny_bind (wpAny_pure ?_) | skip
 refine wpAny_bind (wpAny_sequenceKey ht.typeIs (by decide) ?_)
 refine wpAny_bind (wpAny_callSpecial?_slot (name:=Str.ofString "__getitem__") ht.typeIs PyProof.Rows.slot_tuple_getitem
  (wpAny_call_entry PyProof.Rows.slot_tuple_getitem ht.typeIs entry_tuple_getitem ?_ (args_tuple_getitem _ _)))
 show wpAny _ _ (Builtin.Tuple.tupleItemsOf (.ref t) >>= _) _ _ s
 refine wpAny_bind (tupleItemsOf_ ht ?_)
 refine wpAny_bind (wpAny_typeOf hTs ?_)
 rw[if_pos (by decide)]
 refine wpAny_bind (Vc hs pl pu ?_)
 have hno:¬ ((((sIx items.size 0 lo:Nat):Int)==0&&(1:Int)==1&&(sIx items.size items.size hi-sIx items.size 0 lo)==items.size)=true):=by
  intro q
  rw[As,As] at q
  have q1:((sIx items.size 0 lo:Nat):Int)=0:=eq_of_beq q.1.1
  have q2:sIx items.size items.size hi-sIx items.size 0 lo=items.size:=eq_of_beq q.2
  exact hw ⟨by omega,by omega⟩
 show wpAny _ _ (if(((sIx items.size 0 lo:Nat):Int)==0&&(1:Int)==1&&(sIx items.size items.size hi-sIx items.size 0 lo)==items.size)=true then _ else _) _ _ s
 rw[if_neg hno,Gl9]
 first
  | exact wpAny_bind (m:=Builtin.Tuple.tupleExact _) (wpAny_newObj_type (wpAny_pure ⟨_,rfl,wpAny_pure h⟩) htake)
  | exact wpAny_bind (m:=Builtin.Tuple.tupleExact _) (wpAny_newObj_type (wpAny_bind (wpAny_pure (wpAny_pure ⟨_,rfl,wpAny_pure h⟩))) htake)
  | exact wpAny_bind (wpAny_bind (m:=Builtin.Tuple.tupleExact _) (wpAny_newObj_type (wpAny_pure (wpAny_pure ⟨_,rfl,wpAny_pure h⟩)) htake))
  | exact wpAny_bind (wpAny_bind (m:=Builtin.Tuple.tupleExact _) (wpAny_newObj_type (wpAny_pure ⟨_,rfl,wpAny_pure h⟩) htake))
end
end HT
namespace L2
open PySem PySem.Spec PyProof.Rows
variable{xs:List V}{us its:List Value}{n:Nat}{pins:List (Addr×Obj)}{σ:St}{H:Hp}
noncomputable abbrev TO:=St->Hp->(Option Int->Hp->Prop)->Prop
noncomputable def PO(X:Cx)(e:Option Expr)(t:TO):Prop:=
 ∀ (pins:List (Addr×Obj)) (s:Shared) (σ:St) (H:Hp) (Q:Option Int->Hp->Prop),Inv X pins σ H s->t σ H Q→
  wpAny (model X.prog X.w) X.A (evalPart e X.env) (fun u s'=>∃ o H',Inv X pins σ H' s'/\IsPart u o/\Q o H') X.xe s
noncomputable def Gpc:TO:=fun _ H Q=>Q none H
noncomputable def Gx3(t:TE):TO:=fun σ H Q=>t σ H fun x H1=>∃ i,x=.int i/\Q (some i) H1
theorem Gh3{ns:List Int}:∀ {us:List Value},Vals (ns.map V.int) us->IntsAre us ns:=by
 induction ns with
 | nil=>intro us r; rw[List.map_nil] at r; cases r; exact .nil
 | cons n ns ih=>
  intro us r
  rw[Au] at r
  cases r with
  | cons r1 r2=>
   obtain⟨t,e⟩:=r1
   subst e
   exact .cons n t (ih r2)
section
variable{X:Cx}{e:Expr}{te:TE}{lo hi:Option Expr}{tl th:TO}{pos p2:Pos}
theorem Gpd:PO X none Gpc:=by
 intro pins s σ H Q I h
 rw[evalPart_none]
 exact wpAny_pure ⟨none,H,I,.none,h⟩
theorem Gpe(h:PE X e te):PO X (some e) (Gx3 te):=by
 intro pins s σ H Q I hw
 rw[evalPart_some]
 refine thn (h pins s σ H _ I hw) fun u s1 zq0=>?_
 obtain⟨x,H1,I1,r1,q1⟩:=zq0
 obtain⟨i,rfl,q⟩:=q1
 obtain⟨t,rfl⟩:=r1
 exact⟨some i,H1,I1,.int i t,q⟩
noncomputable def SlR(X:Cx)(r:V->Option Int->Option Int->Hp->VK->Prop):Prop:=
 ∀ (pins:List (Addr×Obj)) (s:Shared) (σ:St) (H:Hp) (x:V) (v vl vu:Value) (lo hi:Option Int) (sl:Addr) (Q:VK),Inv X pins σ H s->Gz x v->s.heap.IsSliceOf sl vl vu .none->IsPart vl lo->IsPart vu hi->r x lo hi H Q→
  ∃ T id,typeLookup (.type T) "__getitem__"=pure (some (.builtin id))/\s.TypeIs v T/\wpAny (model X.prog X.w) X.A (getItem v (.ref sl)) (EP X pins σ Q) X.xe s
theorem SlR.or{r r':V->Option Int->Option Int->Hp->VK->Prop}(h:SlR X r)(h':SlR X r'):SlR X (fun x lo hi H Q=>r x lo hi H Q\/r' x lo hi H Q):=by
 intro pins s σ H x v vl vu lo hi sl Q I rx hs pl pu q
 rcases q with q | q
 ·exact h pins s σ H x v vl vu lo hi sl Q I rx hs pl pu q
 ·exact h' pins s σ H x v vl vu lo hi sl Q I rx hs pl pu q
noncomputable def tSl(r:V->Option Int->Option Int->Hp->VK->Prop)(te:TE)(tl th:TO):TE:=fun σ H Q=>te σ H fun x H1=>tl σ H1 fun l H2=>th σ H2 fun u H3=>r x l u H3 Q
theorem Gma{r:V->Option Int->Option Int->Hp->VK->Prop}(hr:SlR X r)(he:PE X e te)(hl:PO X lo tl)(hu:PO X hi th):PE X (.Subscript e (.Slice lo hi none p2) pos) (tSl r te tl th):=by
 intro pins s σ H Q I h
 refine Subscript_ (thn (he pins s σ H _ I h) fun v s1 zq0=>?_)
 obtain⟨x,H1,I1,r1,q1⟩:=zq0
 refine wpAny_Slice (thn (hl pins s1 σ H1 _ I1 q1) fun vl s2 ⟨l,H2,I2,pl,q2⟩=>thn (hu pins s2 σ H2 _ I2 q2) fun vu s3 zq0=>?_)
 obtain⟨u,H3,I3,pu,q3⟩:=zq0
 rw[evalPart_none]
 refine wpAny_pure ?_
 have I4:Inv X pins σ H3 { s3 with heap:=s3.heap.push { cls:=.type "slice",data:=.fields #[vl,vu,.none] } }:=I3.kept (t':=s3.toks) fun b ob q=>Ah _ q
 obtain⟨T,id,hT,ht,hg⟩:=hr pins { s3 with heap:=s3.heap.push { cls:=.type "slice",data:=.fields #[vl,vu,.none] } } σ H3 x v vl vu l u s3.heap.objs.size Q I4 r1 (Heap.IsSliceOf.new ..) pl pu q3
 show wpAny (model X.prog X.w) X.A (subscriptTail e (.Slice lo hi none p2) v (.ref s3.heap.objs.size)) (EP X pins σ Q) X.xe { s3 with heap:=s3.heap.push { cls:=.type "slice",data:=.fields #[vl,vu,.none] } }
 exact tail_any (ops:=[.ref s3.heap.objs.size,v]) ht hT hg (by with_unfolding_all rfl)
noncomputable def Ggg(xs:List V)(lo hi:Option Int):List V:=(xs.drop (HT.sIx xs.length 0 lo)).take (HT.sIx xs.length xs.length hi-HT.sIx xs.length 0 lo)
theorem Ga0(xs:List V)(lo hi:Option Int):(Ggg xs lo hi).length<=xs.length:=by
 unfold Ggg
 rw[Bh,List.length_drop]
 omega
noncomputable def Haq(K:PySem.W.Frag):V->Option Int->Option Int->Hp->VK->Prop:=fun x lo hi H Q=>∃ a xs,x=.ref a/\SqT K H a xs∧
 ¬ (HT.sIx xs.length 0 lo=0/\HT.sIx xs.length xs.length hi=xs.length)/\∀ p,H p=none->Q (.ref p) (upd H p (.tup (Ggg xs lo hi)))
theorem Gue:SlR X (Haq X.K):=by
 intro pins s σ H x v vl vu lo hi sl Q I rx hs pl pu h
 obtain⟨a,xs,rfl,hx,hw,q⟩:=h
 cases rx
 obtain⟨its,r,ht,hz⟩:=I.tuple hx
 have hlen:its.toArray.size=xs.length:=by rw[Aj]; exact r.length.symm
 refine⟨"tuple",_,PyProof.Rows.slot_tuple_getitem.lookup,ht.typeIs,?_⟩
 refine HT.Ze ht hs pl pu (by rw[hlen]; exact hw) ?_ (by rw[hlen]; exact hz)
 rw[hlen]
 refine⟨.ref s.heap.objs.size,_,I.laid (t':=s.toks) (o:=.tup (Ggg xs lo hi)) (fun b ob q=>Ah _ q) (Aa _) ?_,rfl,q _ (I.hok.fresh (Aa _))⟩
 exact⟨Ao (Ga0 xs lo hi) hz,_,(r.drop (HT.sIx xs.length 0 lo)).take (HT.sIx xs.length xs.length hi-HT.sIx xs.length 0 lo),IsTup.new _ _⟩
noncomputable def Gsj(K:PySem.W.Frag):R2:=fun x y H Q=>∃ a b xs ys,x=.ref a/\y=.ref b/\SqT K H a xs/\SqT K H b ys/\xs≠[]/\xs.length+ys.length<=sizeLine∧
 (ys=[]->Q (.ref a) H)/\(ys≠[]->∀ p,H p=none->Q (.ref p) (upd H p (.tup (xs++ys))))
theorem Vals.nil_iff(r:Vals xs us):us=[]↔xs=[]:=by
 cases r with
 | nil=>simp
 | cons _ _=>simp
theorem Gpf:OpR X (binaryOp .Add) (Gsj X.K):=by
 intro pins s σ H x y v u Q I rx ry h
 obtain⟨a,b,xs,ys,rfl,rfl,ha,hb,hx,hz,q1,q2⟩:=h
 cases rx
 cases ry
 obtain⟨its,r1,p1,_⟩:=I.tuple ha
 obtain⟨its2,r2,p2,_⟩:=I.tuple hb
 refine HT.Gpb p1 p2 (fun z=>hx (r1.nil_iff.mp z)) (fun z=>⟨.ref a,H,I,rfl,q1 (r2.nil_iff.mp z)⟩) (fun z=>?_) (by rw[<- r1.length,<- r2.length]; exact hz)
 refine⟨.ref s.heap.objs.size,_,I.laid (t':=s.toks) (o:=.tup (xs++ys)) (fun b ob q=>Ah _ q) (Aa _) ?_,rfl,q2 (fun w=>z (r2.nil_iff.mpr w)) _ (I.hok.fresh (Aa _))⟩
 exact⟨by rw[AB]; exact hz,_,r1.append r2,IsTup.new _ _⟩
end
noncomputable def ixN(n:Nat)(i:Int):Option Nat:=if 0<=i then(if i<n then some i.toNat else none) else if -(n:Int)<=i then some (i+n).toNat else none
noncomputable def atI{α:Type}(xs:List α)(i:Int):Option α:=(ixN xs.length i).bind fun j=>xs[j]?
theorem Gja{i:Int}{j:Nat}(h:ixN n i=some j):seqIndex? i n=some j/\j<n /\ -(n:Int)<=i/\i<n:=by
 unfold ixN at h
 by_cases h0:0<=i
 ·rw[if_pos h0] at h
  by_cases h1:i<n
  ·rw[if_pos h1] at h
   have e:i.toNat=j:=Ac h
   exact⟨by rw[seqIndex_of h0 h1,e],by omega,by omega,h1⟩
  ·rw[if_neg h1] at h; cases h
 ·rw[if_neg h0] at h
  by_cases h1 : -(n:Int)<=i
  ·rw[if_pos h1] at h
   have e:(i+n).toNat=j:=Ac h
   exact⟨by rw[seqIndex_neg (by omega) h1,e],by omega,h1,by omega⟩
  ·rw[if_neg h1] at h; cases h
theorem Gel{α:Type}{xs:List α}{i:Int}{v:α}(h:atI xs i=some v):∃ j,seqIndex? i xs.length=some j/\xs[j]?=some v/\j<xs.length /\ -(xs.length:Int)<=i/\i<xs.length:=by
 unfold atI at h
 cases e:ixN xs.length i with
 | none=>rw[e] at h; cases h
 | some j=>
  rw[e] at h
  obtain⟨h1,h2,h3,h4⟩:=Gja e
  exact⟨j,h1,h,h2,h3,h4⟩
noncomputable def Gem(b:Expr):Prop:=∀ o i,subscripted b false o i=operate [o,i] (getItem o i)
noncomputable def IxR(X:Cx)(r:R2):Prop:=
 ∀ (value slice:Expr) (pins:List (Addr×Obj)) (s:Shared) (σ:St) (H:Hp) (x y:V) (v u:Value) (Q:VK),Inv X pins σ H s->Gz x v->Gz y u->r x y H Q→
  subscripted slice false v u=operate [v,u] (getItem v u)->wpAny (model X.prog X.w) X.A (subscriptTail value slice v u) (EP X pins σ Q) X.xe s
noncomputable def MtR(X:Cx)(id:String)(r:V->List V->Hp->VK->Prop):Prop:=
 ∀ (pins:List (Addr×Obj)) (s:Shared) (σ:St) (H:Hp) (x:V) (xs:List V) (v:Value) (us:List Value) (Q:VK),Inv X pins σ H s->Gz x v->Vals xs us->r x xs H Q→
  wpAny (model X.prog X.w) X.A (call (.builtin id) (v::us)) (EP X pins σ Q) X.xe s
section
variable{X:Cx}{a b:Expr}{ta tb:TE}{pos:Pos}
theorem IxR.or{r r':R2}(h:IxR X r)(h':IxR X r'):IxR X (fun x y H Q=>r x y H Q\/r' x y H Q):=by
 intro value slice pins s σ H x y v u Q I rx ry q hs
 rcases q with q | q
 ·exact h value slice pins s σ H x y v u Q I rx ry q hs
 ·exact h' value slice pins s σ H x y v u Q I rx ry q hs
theorem Gx4{r:R2}(hr:IxR X r)(ha:PE X a ta)(hb:PE X b tb)(hs:Gem b):PE X (.Subscript a b pos) (tOp r ta tb):=by
 intro pins s σ H Q I h
 exact Subscript_ (Gt0 ha hb I h fun v u s2 x y H2 I2 rx ry q=>hr a b pins s2 σ H2 x y v u Q I2 rx ry q (hs _ _))
noncomputable def Gx5(K:PySem.W.Frag):R2:=fun x y H Q=>∃ p xs i v,x=.ref p/\y=.int i/\SqL K H p xs/\atI xs i=some v/\Q v H
noncomputable def Gx6(K:PySem.W.Frag):R2:=fun x y H Q=>∃ p xs i v,x=.ref p/\y=.int i/\SqT K H p xs/\atI xs i=some v/\Q v H
noncomputable def Gx7:R2:=fun x y H Q=>∃ z i c,x=.str z/\y=.int i/\z.length<=sizeLine/\atI z.cps.toList i=some c/\Q (.str ⟨#[c]⟩) H
theorem Gpg:IxR X (Gx5 X.K):=by
 intro value slice pins s σ H x y v u Q I rx ry h hs
 obtain⟨p,xs,i,z,rfl,rfl,hq,he,q⟩:=h
 cases rx
 obtain⟨t,rfl⟩:=ry
 obtain⟨its,r,pl,hz⟩:=I.list hq
 obtain⟨j,h1,h2,h3,h4,h5⟩:=Gel he
 obtain⟨w,ew,rw'⟩:=r.get h2
 have hl:=r.length
 have hn:=Gag
 have fin:EP X pins σ Q w s:=⟨z,H,I,rw',q⟩
 by_cases h0:0<=i
 ·have hj:i.toNat=j:=by
   rw[seqIndex_of h0 h5] at h1
   exact Ac h1
  exact item_listR pl.isList h0 (by omega) (by rw[hj]; simpa using ew) fin hs
 ·have hj:(i+(its.toArray.size:Int)).toNat=j:=by
   rw[seqIndex_neg (by omega) h4] at h1
   rw[Aj,<- hl]
   exact Ac h1
  exact subscriptTail_builtinR (x:=w) pl.isList.typeIs slot_list_getitem.lookup
   (wpAny_getItem_list_neg (Q:=fun r s'=>r=w/\EP X pins σ Q r s') pl.isList (by omega) (by rw[Aj]<;>omega) (by omega) (by rw[hj]; simpa using ew) ⟨rfl,fin⟩) hs
theorem Guf:IxR X (Gx6 X.K):=by
 intro value slice pins s σ H x y v u Q I rx ry h hs
 obtain⟨p,xs,i,z,rfl,rfl,hq,he,q⟩:=h
 cases rx
 obtain⟨t,rfl⟩:=ry
 obtain⟨its,r,pl,hz⟩:=I.tuple hq
 obtain⟨j,h1,h2,h3,h4,h5⟩:=Gel he
 obtain⟨w,ew,rw'⟩:=r.get h2
 have hl:=r.length
 have hn:=Gag
 have fin:EP X pins σ Q w s:=⟨z,H,I,rw',q⟩
 exact subscriptTail_builtinR (x:=w) pl.typeIs slot_tuple_getitem.lookup
  (getItem_tuple (j:=j) (Q:=fun r s'=>r=w/\EP X pins σ Q r s') pl (by omega) (by omega) (by rw[Aj,<- hl]; exact h1) (by simpa using ew) ⟨rfl,fin⟩) hs
theorem Gug:IxR X Gx7:=by
 intro value slice pins s σ H x y v u Q I rx ry h hs
 obtain⟨z,i,c,rfl,rfl,hz,he,q⟩:=h
 obtain⟨t,rfl⟩:=rx
 obtain⟨t',rfl⟩:=ry
 obtain⟨j,h1,h2,h3,h4,h5⟩:=Gel he
 have hl:z.cps.toList.length=z.length:=by simp[Str.length]
 rw[hl] at h1 h4 h5
 have hn:=Gag
 exact tail_any (typeIs_str s z t) slot_str_getitem.lookup (getItem_str (c:=c) (by
  have e1:decide (i < -(2^63:Int))=false:=decide_eq_false (by omega)
  have e2:decide (i≥2^63)=false:=decide_eq_false (by omega)
  rw[e1,e2,Bool.or_false]) (by rw[h1]; simpa using h2) ⟨.str ⟨#[c]⟩,H,I.tok _,⟨_,rfl⟩,q⟩) hs
noncomputable def rIx(K:PySem.W.Frag):R2:=fun x y H Q=>Gx5 K x y H Q\/Gx6 K x y H Q\/Gx7 x y H Q
theorem Guh:IxR X (rIx X.K):=Gpg.or (Guf.or Gug)
theorem Gh4(its:List Value)(n j:Nat)(u:Value):Obj.mapSeq (·.setIfInBounds j u) { cls:=.type "list",data:=.seq its.toArray n }={ cls:=.type "list",data:=.seq (its.set j u).toArray n }:=by
 simp[Obj.mapSeq]
theorem Inv.lst{s:Shared}{p:Addr}(I:Inv X pins σ H s)(h:H p=some (.lst xs)):
  ∃ (its:List Value) (n:Nat),Vals xs its/\s.heap.get? p=some { cls:=.type "list",data:=.seq its.toArray n }/\xs.length<=sizeLine:=by
 obtain⟨z,its,n,r,e⟩:=I.hok p _ h
 exact⟨its,n,r,e,z⟩
theorem Inv.lstUpd{s:Shared}{p:Addr}{ys:List V}{its':List Value}{n':Nat}{f:Obj->Obj}(I:Inv X pins σ H s)(h:H p=some (.lst xs))(ho:s.heap.get? p=some { cls:=.type "list",data:=.seq its.toArray n })(hf:f { cls:=.type "list",data:=.seq its.toArray n }={ cls:=.type "list",data:=.seq its'.toArray n' })(r:Vals ys its')(hz:ys.length<=sizeLine)(t:Nat):
  Inv X pins σ (upd H p (.lst ys)) { s with heap:=s.heap.update p f,toks:=t }:=by
 have e:(s.heap.update p f).get? p=some { cls:=.type "list",data:=.seq its'.toArray n' }:=by
  rw[AN f ho (by rw[hf]<;>rfl),hf]
 refine I.write (x:=p) (e:=p) (by rw[h]; trivial) (.inl rfl) (fun b u hb q=>(AG _ _ (Ne.symm hb)).trans q) ⟨_,e⟩ ?_
 exact⟨hz,its',n',r,e⟩
noncomputable def Gsk:V->V->V->Hp->(Hp->Prop)->Prop:=fun o i v H Q=>∃ p xs k j,o=.ref p/\i=.int k/\H p=some (.lst xs)/\ixN xs.length k=some j/\Q (upd H p (.lst (xs.set j v)))
theorem Gmb:Go4 X Gsk:=by
 intro pins s σ H o i v ov iv u Q I ro ri rv h
 obtain⟨p,xs,k,j,rfl,rfl,hp,hj,q⟩:=h
 cases ro
 obtain⟨t,rfl⟩:=ri
 obtain⟨its,n,r,ho,hz⟩:=I.lst hp
 obtain⟨h1,h2,h3,h4⟩:=Gja hj
 have hl:=r.length
 have hn:=Gag
 have I':Inv X pins σ (upd H p (.lst (xs.set j v))) { s with heap:=s.heap.update p (Obj.mapSeq (·.setIfInBounds j u)) }:=
  I.lstUpd hp ho (Gh4 its n j u) (r.set rv j) (by rw[Bi]; exact hz) s.toks
 by_cases h0:0<=k
 ·have hk:k.toNat=j:=by
   rw[seqIndex_of h0 h4] at h1
   exact Ac h1
  exact PySem.W.ki_setAt ho h0 (by omega) (by rw[Aj,<- hl]; exact h4) (by rw[hk]; exact⟨_,I',q⟩)
 ·have hk:(k+(its.toArray.size:Int)).toNat=j:=by
   rw[seqIndex_neg (by omega) h3] at h1
   rw[Aj,<- hl]
   exact Ac h1
  exact PySem.W.ki_setBack ho (by omega) (by rw[Aj,<- hl]; exact h3) (by omega) (by rw[hk]; exact⟨_,I',q⟩)
theorem Geo(lo hi:Option Int)(n:Nat):(sliceBounds lo hi none n).1=((HT.sIx n 0 lo:Nat):Int)/\(sliceBounds lo hi none n).2.1=((HT.sIx n n hi:Nat):Int)/\(sliceBounds lo hi none n).2.2=1:=by
 refine⟨?_,?_,rfl⟩
 ·cases lo with
  | none=>simp[sliceBounds,HT.sIx]
  | some i=>
   simp only[sliceBounds,HT.sIx,Option.getD_none,show(1:Int)>0 by decide,if_true]
   by_cases h:i<0
   ·simp only[h,if_true]<;>omega
   ·simp only[h,if_false]<;>omega
 ·cases hi with
  | none=>simp[sliceBounds,HT.sIx]
  | some i=>
   simp only[sliceBounds,HT.sIx,Option.getD_none,show(1:Int)>0 by decide,if_true]
   by_cases h:i<0
   ·simp only[h,if_true]<;>omega
   ·simp only[h,if_false]<;>omega
theorem Gdb(its:List Value)(lo hi:Option Int):slicePick its.toArray lo hi none=((its.drop (HT.sIx its.length 0 lo)).take (HT.sIx its.length its.length hi-HT.sIx its.length 0 lo)).toArray:=by
 obtain⟨h1,h2,h3⟩:=Geo lo hi its.toArray.size
 unfold slicePick
 rw[h1,h2,h3]
 simp only[sliceRange_one,pick_run,Aj]<;>rfl
noncomputable def Har(K:PySem.W.Frag):V->Option Int->Option Int->Hp->VK->Prop:=fun x lo hi H Q=>∃ a xs,x=.ref a/\SqL K H a xs/\∀ p,H p=none->Q (.ref p) (upd H p (.lst (Ggg xs lo hi)))
theorem Gph:SlR X (Har X.K):=by
 intro pins s σ H x v vl vu lo hi sl Q I rx hs pl pu h
 obtain⟨a,xs,rfl,hx,q⟩:=h
 cases rx
 obtain⟨its,r,ht,hz⟩:=I.list hx
 have hlen:=r.length
 refine⟨"list",_,slot_list_getitem.lookup,ht.isList.typeIs,?_⟩
 refine wpAny_getItem_list_slice ht.isList hs pl pu .none (by simp) ?_ (by rw[Aj]<;>omega)
 rw[Gdb,<- hlen]
 refine⟨.ref s.heap.objs.size,_,I.laid (t':=s.toks) (o:=.lst (Ggg xs lo hi)) (fun b ob q=>Ah _ q) (Aa _) ?_,rfl,q _ (I.hok.fresh (Aa _))⟩
 exact⟨Ao (Ga0 xs lo hi) hz,_,0,(r.drop (HT.sIx xs.length 0 lo)).take (HT.sIx xs.length xs.length hi-HT.sIx xs.length 0 lo),AA _ rfl⟩
theorem Gep:Vb X (.type "list") (fun xs H Q=>∃ p ys,xs=[.ref p]/\(SqL X.K H p ys\/SqT X.K H p ys)/\∀ l,H l=none->Q (.ref l) (upd H l (.lst ys))):=by
 intro pins s σ H xs us Q I r h
 obtain⟨p,ys,rfl,hq,q⟩:=h
 obtain⟨u,rfl,rx⟩:=Gaz r
 cases rx
 have fin:∀ (its:List Value),Vals ys its->ys.length<=sizeLine->∀ (h':Heap) (c':Nat),(∀ b o',s.heap.get? b=some o'->h'.get? b=some o')→
   h'.get? s.heap.objs.size=some { cls:=.type "list",dict:=none,data:=.seq its.toArray c',slots:=#[] }->EP X pins σ Q (.ref s.heap.objs.size) { s with heap:=h' }:=fun its r' hz h' c' kp e=>
  ⟨.ref s.heap.objs.size,_,I.laid (t':=s.toks) kp (Aa _) (show Jj X.prog X.w _ h' _ (.lst ys) from⟨hz,its,c',r',e⟩),rfl,q _ (I.hok.fresh (Aa _))⟩
 rcases hq with hq | hq
 ·obtain⟨its,r',pl,hz⟩:=I.list hq
  have hlen:=r'.length
  obtain⟨o,ho,hc,n,hd⟩:=pl.isList
  exact call_list_seq p (.inl rfl) ho hc hd (fun h' c' kp e=>fin its r' hz h' c' kp e) (by simp only[Aj]<;>omega)
 ·obtain⟨its,r',pl,hz⟩:=I.tuple hq
  have hlen:=r'.length
  obtain⟨o,ho,hc,n,hd⟩:=pl
  exact call_list_seq p (.inr rfl) ho hc hd (fun h' c' kp e=>fin its r' hz h' c' kp e) (by simp only[Aj]<;>omega)
theorem Gdc:Vb X (.type "tuple") (fun xs H Q=>∃ p ys,xs=[.ref p]/\((SqL X.K H p ys/\∀ l,H l=none->Q (.ref l) (upd H l (.tup ys)))\/(SqT X.K H p ys/\Q (.ref p) H))):=by
 intro pins s σ H xs us Q I r h
 obtain⟨p,ys,rfl,h⟩:=h
 obtain⟨u,rfl,rx⟩:=Gaz r
 cases rx
 rcases h with⟨hq,q⟩ | ⟨hq,q⟩
 ·obtain⟨its,r',pl,hz⟩:=I.list hq
  have hlen:=r'.length
  refine call_tuple_list pl.isList (fun h' kp=>?_) (by simp only[Aj]<;>omega)
  have I1:Inv X pins σ H { s with heap:=h' }:=I.kept (t':=s.toks) kp
  have I2:Inv X pins σ (upd H h'.objs.size (.tup ys)) { s with heap:=h'.push { cls:=.type "tuple",data:=.seq its.toArray } }:=
   I1.laid (t':=s.toks) (fun b o e=>Ah _ e) (Aa _) (show Jj X.prog X.w _ _ _ (.tup ys) from⟨hz,its,r',IsTup.new _ _⟩)
  exact⟨.ref h'.objs.size,_,I2,rfl,q _ (I1.hok.fresh (Aa _))⟩
 ·obtain⟨its,r',pl,hz⟩:=I.tuple hq
  exact call_tuple_same pl ⟨.ref p,H,I,rfl,q⟩
noncomputable def tyV(K:PySem.W.Frag)(T:String)(x:V)(H:Hp):Prop:=match x with
 | .str _=>T="str"
 | .int _=>T="int"
 | .ref p=>(T="list"/\∃ xs,SqL K H p xs)\/(T="tuple"/\∃ o,K.lookup p=some o/\o.cls=.type "tuple"/\o.dict=none)∨
   (T="dict"/\((∃ kvs,H p=some (.dK kvs))\/∃ kvs,H p=some (.dT kvs)))\/(T="set"/\∃ S n,H p=some (.set S n))
 | _=>False
theorem Gui{s:Shared}{T:String}{x:V}{v:Value}(I:Inv X pins σ H s)(r:Gz x v)(ty:tyV X.K T x H):
  s.TypeIs v T/\∀ a,v=.ref a->∃ ob,s.heap.get? a=some ob/\ob.dict=none:=by
 cases x with
 | str z=>
  obtain⟨t,rfl⟩:=r
  cases (show T="str" from ty)
  exact⟨typeIs_str s z t,fun _ e=>nomatch e⟩
 | int i=>
  obtain⟨t,rfl⟩:=r
  cases (show T="int" from ty)
  exact⟨typeIs_int s i t,fun _ e=>nomatch e⟩
 | ref p=>
  cases r
  rcases ty with⟨rfl,xs,hq⟩ | ⟨rfl,o,hk,hc,hd⟩ | ⟨rfl,hk⟩ | ⟨rfl,S,n,hk⟩
  ·obtain⟨its,_,pl,_⟩:=I.list hq
   refine⟨pl.isList.typeIs,fun a e=>?_⟩
   cases e
   obtain⟨o,n,e,c,hd,_⟩:=pl
   exact⟨o,e,hd⟩
  ·refine⟨⟨o,I.kIn p o hk,hc⟩,fun a e=>?_⟩
   cases e
   exact⟨o,I.kIn _ o hk,hd⟩
  ·have z:∃ o,s.heap.get? p=some o/\o.ExactDict:=by
    rcases hk with⟨kvs,hk⟩ | ⟨kvs,hk⟩
    ·obtain⟨_,_,_,_,o,_,_,e,ex,_⟩:=I.hok p _ hk
     exact⟨o,e,ex⟩
    ·obtain⟨_,_,_,_,o,_,_,e,ex,_⟩:=I.hok p _ hk
     exact⟨o,e,ex⟩
   obtain⟨o,e,ex⟩:=z
   refine⟨⟨o,e,ex.1⟩,fun a e2=>?_⟩
   cases e2
   exact⟨o,e,ex.2.1⟩
  ·obtain⟨o,_,_,_,e,ex,_⟩:=I.hok p _ hk
   refine⟨⟨o,e,ex.1⟩,fun a e2=>?_⟩
   cases e2
   exact⟨o,e,ex.2.1⟩
 | _=>exact False.elim ty
noncomputable def tBM(K:PySem.W.Frag)(T:String)(r:V->List V->Hp->VK->Prop)(to:TE)(t:TA):TE:=fun σ H Q=>to σ H fun x H1=>tyV K T x H1/\t σ H1 fun xs H2=>r x xs H2 Q
variable{o e:Expr}{es:List Expr}{to:TE}{t:TA}{name:Str}{apos cpos:Pos}{T id:String}{r:V->List V->Hp->VK->Prop}
theorem Gx8(pa:PlainAttrs T)(slot:Slot T name id)(hty:typeOf (.builtin id)=pure (.type "method_descriptor"))(hm:MtR X id r)(ho:PE X o to)(ha:PA X (e::es) t)
  (hbase:attributeBase o name X.env (eval o X.env)=eval o X.env:=by rfl)
  (hfew:((backTo cpos (starEach (e::es) X.env)).all (fun x=>!x.1)&&(backToKw cpos (keywordEach [] X.env)).all (fun x=>x.1.isSome)
   && decide ((e::es).length+([]:List Keyword).length+(if([]:List Keyword).isEmpty then 0 else 1)<30))=true:=by rfl)
  (hline:(apos.endLine==cpos.line)=true:=by rfl) (hs:starEach (e::es) X.env=(false,eval e X.env)::starEach es X.env:=by rfl) (hplain:(backTo cpos (starEach es X.env)).any (·.1)=false:=by rfl):
  PE X (.Call (.Attribute o name apos) (e::es) [] cpos) (tBM X.K T r to t):=by
 intro pins s σ H Q I h
 refine wpAny_Call_method_late hbase hfew hline rfl (thn (ho pins s σ H _ I h) fun v s1 zq0=>?_)
 obtain⟨x,H1,I1,r1,ty,q1⟩:=zq0
 obtain⟨h1,h2⟩:=Gui I1 r1 ty
 refine⟨T,id,pa,slot,hty,h1,h2,?_⟩
 have hA:=ha cpos pins s1 σ H1 _ I1 q1
 rw[hs] at hA ⊢
 refine Calls.callWith_builtin (by show(false||(backTo cpos (starEach es X.env)).any (·.1))=false; rw[hplain]<;>rfl) (Calls.evalArgs_plain ?_)
 exact thn hA fun us s2 ⟨vs,H2,I2,r2,q2⟩=>hm pins s2 σ H2 x vs v us Q I2 r1 r2 q2
end
noncomputable def MtM(X:Cx)(id:String)(r:V->List V->Hp->VK->Prop):Prop:=
 ∀ (pins:List (Addr×Obj)) (s:Shared) (σ:St) (H:Hp) (x:V) (xs:List V) (v:Value) (us:List Value) (Q:VK),Inv X pins σ H s->Gz x v->Vals xs us->r x xs H Q→
  wpAny (model X.prog X.w) X.A (call (.builtin id) (v::us)) (EP X pins σ Q) X.xe s
theorem Vals.one{x:V}(h:Vals [x] us):∃ u,us=[u]/\Gz x u:=by
 cases h with | cons r t=>cases t; exact⟨_,rfl,r⟩
theorem Vals.two{x y:V}(h:Vals [x,y] us):∃ u v,us=[u,v]/\Gz x u/\Gz y v:=by
 cases h with | cons r t=>cases t with | cons q t=>cases t; exact⟨_,_,rfl,r,q⟩
theorem Vals.reverse(h:Vals xs us):Vals xs.reverse us.reverse:=by
 induction h with
 | nil=>exact .nil
 | cons r t ih=>rw[List.reverse_cons,List.reverse_cons]; exact Vals.append ih (.cons r .nil)
theorem Vals.rep(h:Vals xs us):∀ k:Nat,Vals (List.replicate k xs).flatten (List.replicate k us).flatten
 | 0=>.nil
 | k+1=>by
  rw[AX,AX,A9,A9]
  exact Vals.append h (Vals.rep h k)
theorem Gah(its:List Value):∀ (k:Nat) (acc:List Value),
  List.foldl (fun x1 x2=>x1++x2) acc.toArray (List.replicate k its.toArray)=(acc++(List.replicate k its).flatten).toArray
 | 0,acc=>by simp
 | k+1,acc=>by
  have e:acc.toArray++its.toArray=(acc++its).toArray:=by simp
  have e2:(acc++its)++(List.replicate k its).flatten=acc++(List.replicate (k+1) its).flatten:=by
   rw[AX,A9,Br]
  rw[<- e2,<- Gah its k (acc++its),<- e,AX,List.foldl_cons]
section
variable{X:Cx}{pins:List (Addr×Obj)}{σ:St}{H:Hp}{s:Shared}{l b:Addr}{xs ys zs:List V}
theorem Inv.lset{its':List Value}{f:Array Value->Array Value}{t':Nat}(I:Inv X pins σ H s)(hH:H l=some (.lst xs))(e:s.heap.get? l=some { cls:=.type "list",data:=.seq its.toArray n })(hf:f its.toArray=its'.toArray)(hv:Vals ys its')(hz:ys.length<=sizeLine):
  Inv X pins σ (upd H l (.lst ys)) { s with heap:=s.heap.update l (Obj.mapSeq f),toks:=t' }:=by
 have q:=PySem.IsL.update e f
 rw[hf] at q
 refine I.write (x:=l) (e:=l) (by rw[hH]; exact trivial) (.inl rfl) (fun b' u hb hu=>(AG s.heap (Obj.mapSeq f) (Ne.symm hb)).trans hu) ⟨_,q⟩ ?_
 exact⟨hz,its',_,hv,q⟩
theorem Inv.lnew{t':Nat}(I:Inv X pins σ H s)(hv:Vals ys its)(hz:ys.length<=sizeLine):
  Inv X pins σ (upd H s.heap.objs.size (.lst ys)) { s with heap:=s.heap.push { cls:=.type "list",data:=.seq its.toArray },toks:=t' }:=
 I.laid (fun _ _ q=>Ah _ q) (Aa _) ⟨hz,its,0,hv,AA _ rfl⟩
theorem Inv.fresh(I:Inv X pins σ H s):H s.heap.objs.size=none:=I.hok.fresh (Aa _)
theorem Inv.lstM(I:Inv X pins σ H s)(hH:H l=some (.lst xs)):xs.length<=sizeLine/\∃ (its:List Value) (n:Nat),Vals xs its/\xs.length=its.length/\s.heap.get? l=some { cls:=.type "list",data:=.seq its.toArray n }:=by
 obtain⟨z,its,n,r,e⟩:=I.hok l _ hH
 exact⟨z,its,n,r,r.length,e⟩
theorem Gmc(h:n<=sizeLine):Builtin.List.listTooLong n=false:=by
 unfold Builtin.List.listTooLong
 exact decide_eq_false (by omega)
end
section
variable{X:Cx}
noncomputable def Gjb:V->List V->Hp->VK->Prop:=fun x vs H Q=>∃ l xs y,x=.ref l/\vs=[y]/\H l=some (.lst xs)/\xs.length<sizeLine/\Q .non (upd H l (.lst (xs++[y])))
theorem Gd1:MtM X "list.append" Gjb:=by
 intro pins s σ H x vs v us Q I rx rv h
 obtain⟨l,xs,y,rfl,rfl,hH,hz,q⟩:=h
 cases rx
 obtain⟨u,rfl,ru⟩:=rv.one
 obtain⟨z,its,n,r,hl,e⟩:=I.lstM hH
 refine call_meets F.slot_list_append ⟨_,e,rfl⟩ F.entry_list_append (F.args_list_append_2 _ _) (PySem.list_append l its.toArray n u (by rw[Aj]; omega)) ⟨e,?_⟩
 refine⟨.non,_,I.lset (its':=its++[u]) hH e (by simp) (r.append (.cons ru .nil)) ?_,rfl,q⟩
 rw[AB,List.length_singleton]
 omega
noncomputable def Gx9:R2:=fun x y H Q=>∃ l b xs zs,x=.ref l/\y=.ref b/\H l=some (.lst xs)/\H b=some (.lst zs)/\xs.length+zs.length<=sizeLine/\∀ p,H p=none->Q (.ref p) (upd H p (.lst (xs++zs)))
theorem Guj:OpR X (binaryOp .Add) Gx9:=by
 intro pins s σ H x y v u Q I rx ry h
 obtain⟨l,b,xs,zs,rfl,rfl,hH,hB,hz,q⟩:=h
 cases rx
 cases ry
 obtain⟨z,its,n,r,hl,e⟩:=I.lstM hH
 obtain⟨z2,its2,n2,r2,hl2,e2⟩:=I.lstM hB
 refine PySem.P.add_list e e2 ?_ (by rw[Aj,Aj]; omega)
 have ea:its.toArray++its2.toArray=(its++its2).toArray:=by simp
 rw[ea]
 exact⟨.ref _,_,I.lnew (t':=s.toks) (r.append r2) (by rw[AB]; omega),rfl,q _ I.fresh⟩
noncomputable def Gya:R2:=fun x y H Q=>∃ l k xs,x=.ref l/\y=.int k/\H l=some (.lst xs) /\ -(2^63)<=k/\k<2^63/\xs.length*k.toNat<=sizeLine∧
 ∀ p,H p=none->Q (.ref p) (upd H p (.lst (List.replicate k.toNat xs).flatten))
theorem Geq{α:Type}(xs:List α)(k:Nat):(List.replicate k xs).flatten.length=k*xs.length:=by
 induction k with
 | zero=>simp
 | succ k ih=>rw[AX,A9,AB,ih,Nat.succ_mul,Ba]
theorem Guk:OpR X (binaryOp .Mult) Gya:=by
 intro pins s σ H x y v u Q I rx ry h
 obtain⟨l,k,xs,rfl,rfl,hH,h1,h2,hz,q⟩:=h
 cases rx
 obtain⟨t,rfl⟩:=ry
 obtain⟨z,its,n,r,hl,e⟩:=I.lstM hH
 have hlen:its.toArray.size*k.toNat<=sizeLine:=by rw[Aj,<- hl]; exact hz
 have hcap:¬ its.toArray.size*k.toNat>(2^63-1) / 8:=by
  have:(sizeLine:Nat)<=(2^63-1) / 8:=by decide
  omega
 have hfit:¬ (!Builtin.List.listFitsIndex k)=true:=by
  rw[fitsIndex_both h1 h2]
  exact Ap
 have hlong:¬ Builtin.List.listTooLong (its.toArray.size*k.toNat)=true:=by
  rw[Gmc hlen]
  exact Ap
 have hnew:List.foldl (fun x1 x2=>x1++x2) #[] (List.replicate (if its.toArray.isEmpty=true then 0 else k.toNat) its.toArray)=(List.replicate k.toNat its).flatten.toArray:=by
  have f0:∀ m:Nat,List.foldl (fun x1 x2=>x1++x2) #[] (List.replicate m its.toArray)=(List.replicate m its).flatten.toArray:=fun m=>by
   have:=Gah its m []
   rw[List.nil_append] at this
   exact this
  rw[f0]
  cases its with
  | nil=>simp
  | cons a r'=>rw[if_neg (by simp)]
 refine wpAny_binaryOp_repeat_ref (T:="list") (U:="int") (by decide) ⟨_,e,rfl⟩ (fun s'=>typeIs_int s' k t) noFill_list_mul F.fills_int_mul F.slot_int_rmul repeat_list F.slot_int_index.lookup
  (call_meets F.slot_int_rmul (typeIs_int s k t) F.entry_int_rmul (F.args_int_rmul_2 _ _) (int___rmul___int_list k t l its.toArray n)
   ⟨e,rfl,⟨_,e,rfl⟩,call_meets F.slot_list_mul ⟨_,e,rfl⟩ F.entry_list_mul (F.args_list_mul_2 _ _) (AutoListH.list___mul___list_int_3 l its.toArray n k t hfit hcap hlong) ⟨e,?_⟩⟩)
 rw[hnew]
 exact⟨.ref _,_,I.lnew (t':=s.toks) (r.rep k.toNat) (by rw[Geq,AO]; exact hz),rfl,q _ I.fresh⟩
end
end L2
namespace Att
open PySem PySem.W PySem.Calls PyProof.Rows
theorem Gbc{P:Params}{h:Heap}:∀ (ns:List Int) (vs:List Value),WellAll P h vs (ns.map WData.int)->IntsAre vs ns:=by
 intro ns
 induction ns with
 | nil=>
  intro vs w
  rw[List.map_nil] at w
  cases w
  exact .nil
 | cons n ns ih=>
  intro vs w
  rw[Au] at w
  cases w with
  | cons a b=>
   cases a
   exact .cons _ _ (ih _ b)
theorem Gk2{l:OpenLaw}{n:Nat}(hn:l.most=some n){P:Params}{h:Heap}{args:List WData}{vals:List Value}
  (hpre:l.row.toRowW.claim.pre args=true) (hwl:WellAll P h vals args):
  ∃ a vs ns,vals=[Value.ref a]/\args=[WData.list (ns.map WData.int)]/\h.get? a=some { cls:=.type "list",data:=.seq vs.toArray }/\IntsAre vs ns/\ns.length<=n:=by
 have hsh:WShape.hasAll [] args [.list .int]=true:=(pre_splitW hpre).1
 have hc:l.pre.holds [] { args:=args }=true:=(pre_splitW hpre).2
 obtain⟨d,r,rfl,h1,h2⟩:=hasAllW_cons hsh
 obtain rfl:=hasAllW_nil h2
 obtain⟨xs,rfl,h3⟩:=hasW_list h1
 obtain⟨ns,rfl⟩:=items_int h3
 have hlen:ns.length<=n:=by
  unfold OpenLaw.pre at hc
  have h4:(WTm.not (.lt (.lit (.int (n:Int))) (.len (.arg 0)))).holds [] { args:=[.list (ns.map .int)] }=true:=by
   have h4:=(holds_andW hc).1
   rw[hn] at h4
   exact h4
  have h5:=condW_of h4 (w_not (w_lt w_lit (w_len_list (w_arg rfl))))
  rw[AD] at h5
  refine Bz fun q=>?_
  have q':(n:Int)<((ns.length:Nat):Int):=by omega
  first
   | (rw[decide_eq_true q'] at h5; exact absurd h5 (by decide))
   | (simp at h5; omega)
 cases hwl with
 | cons w1 w2=>
  cases w2
  cases w1 with
  | list ho hall=>exact⟨_,_,ns,rfl,rfl,ho,Gbc ns _ hall,hlen⟩
theorem post_true(l:OpenLaw)(args:List WData):l.row.toRowW.claim.post args (.bool true) args=true:=
 postW_of (r:=l.row.toRowW) (X:=(true==true))
  (show WShape.has [] (.bool true) .bool=true by first | rfl | decide | simp[WShape.has,WShape.arms,WShape.armsAll])
  (show(WTm.eq .res (.lit (.bool true))).value [] { args:=args,res:=some (.bool true),after:=args }=some (.bool (true==true)) from w_eq_bool (w_res rfl) w_lit) rfl
theorem attach_call{l:OpenLaw}{n:Nat}{q:Program}{loose:List Str}{XP:(Str->Option Value)->Heap->Prop}{YP:World->Heap->Prop}{d:DefRec}
  (hn:l.most=some n) (hdf:d.params.defaults=[])
  (call:∀ (w:World) (s₀ s₁:Shared) (mg mb:Str->Option Value) (fa:Addr) (o:Obj) (pm cd doc:Value) (a:Addr) (vs:List Value) (ns:List Int),
   Ground q loose [] XP w s₀ mg mb s₁.heap->YP w s₁.heap→
   s₁.heap.get? fa=some o->o.data=.func (docDef d.name d.params d.body d.scope pm cd doc)->s₁.heap.CodeRec cd d.name->mg d.name=some (.ref fa)→
   s₁.heap.get? a=some { cls:=.type "list",data:=.seq vs.toArray }->IntsAre vs ns->ns.length<=n->s₁.gens=#[]→
   codeAny (model l.prog w) callerA (.call (.ref fa) ⟨[.ref a],[]⟩) (fun r s'=>r=.ok (.ret (.bool true))/\OldK s₁.heap s'.heap/\s'.os=s₁.os/\AllBare s'.gens) s₁):
  WalkO q loose XP YP l.row.toRowW d [] (fun f vs=>PySem.call f vs):=by
 intro w s₀ s₁ mg mb G Y fa o pm cd doc dV kV ho hd hcd hD hmg hg args vals as hpre hlay hrd hwl hlo
 obtain rfl:dV=.none:=Dflts.none hD hdf
 obtain rfl:kV=.none:=Dflts.noKw hD
 obtain⟨a,vs,ns,rfl,rfl,hobj,hints,hlen⟩:=Gk2 hn hpre hwl
 refine enter_call (codeAny_mono (call w s₀ s₁ mg mb fa o pm cd doc a vs ns G Y ho (fd_plain hd) hcd hmg hobj hints hlen hg) fun r s' hq=>?_)
 obtain⟨rfl,h2,h3,h4⟩:=hq
 exact⟨.inl ⟨.bool true,.bool true,[],rfl,fun _=>rfl,.bool true,post_true l _,fun _=>⟨List.Pairwise.nil,fun _ hm=>(nomatch hm)⟩⟩,h2,h3,h4⟩
end Att
namespace L2
open PySem PySem.Spec PyProof.Rows
variable{fd:FuncData}{qual:Str}{st:Stmt}{f:Addr}
theorem Gd2:∀ {vs:List Value} {ns:List Int},IntsAre vs ns->Vals (ns.map V.int) vs
 | _,_,.nil=>.nil
 | _,_,.cons n t h=>.cons ⟨t,rfl⟩ (Gd2 h)
noncomputable def Only(H:Hp):Prop:=∀ b,H b=none\/∃ o xs,H b=some (.frz o (.lst xs))
theorem Gmd{P:Program}{w:World}{K:PySem.W.Frag}{mg mb:Str->Option Value}{CX:CXT}{k:Nat}{fa a:Addr}{x:Str}{sp:Sp}{s₁:Shared}{vs:List Value}{ns:List Int}(KX:K.In s₁.heap)(hns:s₁.heap.Ns mainGlobals mg)(hb:s₁.heap.Ns builtinsNs mb)(hbb:∀ x:Str,x≠"__name__"->mb x=bootBuiltins x)(hlim:s₁.heap.NoLimit)(hg:s₁.gens=#[])(ha:s₁.heap.get? a=some { cls:=.type "list",data:=.seq vs.toArray })(hi:IntsAre vs ns)(hl:ns.length<=sizeLine)(hr:Room k callerA)(F:∀ base:Heap,K.In base->base.Ns mainGlobals mg->FnOk P w K mg base CX k fa fd [x] sp)(hbind:∀ (s:Shared) (u:Value),BindsTo s fd ⟨[u],[]⟩ [(x,u)])(hsp:∀ H:Hp,Only H->SqL K H a (ns.map V.int)->sp [.ref a] H (fun v _=>v=.bl true) fun _ _ _=>False)(hCX:∀ H e s',CX [] H s₁ (fun _ _ _=>False) e s'->False):
  codeAny (model P w) callerA (.call (.ref fa) ⟨[.ref a],[]⟩) (fun r s'=>r=.ok (.ret (.bool true))/\OldK s₁.heap s'.heap/\s'.os=s₁.os/\AllBare s'.gens) s₁:=by
 have rv:=Gd2 hi
 have lenV:=hi.length
 have core:∀ H:Hp,Only H->SqL K H a (ns.map V.int)->HOk P w H s₁.heap->(∀ b,H b≠none->b=a)->(H a≠none->K.lookup a=none)→
   codeAny (model P w) callerA (.call (.ref fa) ⟨[.ref a],[]⟩) (fun r s'=>r=.ok (.ret (.bool true))/\OldK s₁.heap s'.heap/\s'.os=s₁.os/\AllBare s'.gens) s₁:=by
  intro H hO hS hok hA hK
  have base_of:∀ {b:Addr} {o:Obj},s₁.heap.get? b=some o->H b=none->(Gei s₁.heap H).get? b=some o:=fun e n=>Glu e n
  have noA:∀ {b:Addr} {o:Obj} {es:Array DictEntry} {ep:Nat},s₁.heap.get? b=some o->o.data=.dict es ep->H b=none:=fun{b o es ep} e d=>by
   cases q:H b with
   | none=>rfl
   | some u=>
    have e':b=a:=hA b (by rw[q]; simp)
    subst e'
    rw[ha] at e; cases e
    have d':Data.seq vs.toArray _=Data.dict es ep:=d
    cases d'
  have nsK:∀ {b:Addr} {m:Str->Option Value},s₁.heap.Ns b m->(Gei s₁.heap H).Ns b m:=fun{b m} ⟨o,es,ep,e,d,r⟩=>⟨o,es,ep,base_of e (noA e d),d,r⟩
  have hKb:K.In (Gei s₁.heap H):=fun b o e=>base_of (KX b o e) (by
   cases q:H b with
   | none=>rfl
   | some u=>
    have e':b=a:=hA b (by rw[q]; simp)
    subst e'
    rw[hK (by rw[q]; simp)] at e; cases e)
  have hM:Mod K mg (Gei s₁.heap H):=⟨hKb,nsK hns,⟨mb,nsK hb,hbb⟩,let ⟨mc,h1,h2⟩:=hlim; ⟨mc,nsK h1,h2⟩⟩
  have e0:Env0 P w K mg (Gei s₁.heap H) callerA [] s₁ H:=⟨rfl,hM,fun b o e=>of_hidT e,Nat.le_of_eq (Gkt _ _),trivial,fun b hb=>absurd (show b∈([]:List Addr) from hb) (by simp),hok,.of_eq hg⟩
  refine codeAny_mono ((F _ hKb (nsK hns)).run callerA [] s₁ H ⟨[.ref a],[]⟩ [.ref a] [.ref a] _ _ hr e0 (hbind s₁ (.ref a)) (.cons rfl .nil) (hsp H hO hS)) fun r s' h=>?_
  cases r with
  | error e=>exact(hCX H e s' h).elim
  | ok fl=>
   cases fl with
   | next=>exact False.elim h
   | brk=>exact False.elim h
   | cont=>exact False.elim h
   | ret u=>
    obtain⟨v,H',os,bare,un,hok',r',q⟩:=h
    have q':v=.bl true:=q
    subst q'
    obtain rfl:u=Value.bool true:=r'
    refine⟨rfl,OldK.of_keep fun b o e=>?_,os,bare⟩
    cases q:H b with
    | none=>exact un.keep b o e q (by intro z; exact absurd (show b∈([]:List Addr) from z) (by simp)) (by simp)
    | some u=>
     rcases hO b with z | ⟨ob,xs,z⟩
     ·rw[q] at z; cases z
     ·have z2:=un.frzs b ob _ z
      obtain⟨e1,_⟩:=hok b _ z
      obtain⟨e2,_⟩:=hok' b _ z2
      rw[e] at e1; cases e1
      exact e2
 cases hk:K.lookup a with
 | some o=>
  have e:=KX a o hk
  rw[ha] at e
  cases e
  refine core (fun _=>none) (fun _=>.inl rfl) (.inr ⟨_,vs.toArray,_,hk,rfl,rfl,rfl,by rw[Aj,lenV]; exact hl,by simpa using rv⟩) (fun b u z=>by have z':(none:Option HO)=some u:=z; cases z') (fun b z=>absurd rfl z) fun z=>absurd rfl z
 | none=>
  refine core (fun b=>if b=a then some (.frz { cls:=.type "list",data:=.seq vs.toArray } (.lst (ns.map V.int))) else none) (fun b=>?_) (.inl (.inr ⟨{ cls:=.type "list",data:=.seq vs.toArray },if_pos rfl⟩)) (fun b u z=>?_) (fun b z=>?_) fun _=>hk
  ·by_cases hb:b=a
   ·exact .inr ⟨_,_,if_pos hb⟩
   ·exact .inl (if_neg hb)
  ·by_cases hb:b=a
   ·have z':=(if_pos hb).symm.trans z
    cases z'
    subst hb
    exact⟨ha,by rw[AD]; exact hl,vs,_,rv,ha⟩
   ·have z':=(if_neg hb).symm.trans z
    cases z'
  ·by_cases hb:b=a
   ·exact hb
   ·exact absurd (if_neg hb) z
theorem Gpi{l:PySem.W.OpenLaw}{n k:Nat}{q:Program}{loose:List Str}{XP:(Str->Option Value)->Heap->Prop}{YP:World->Heap->Prop}{d:DefRec}{K:Params->PySem.W.Frag}{CX:World->CXT}{sp:World->Sp}{x:Str}
  (hn:l.most=some n) (hn2:n<=sizeLine) (hdf:d.params.defaults=[]) (hr:Room k callerA)
  (hY:∀ (w:World) (h:Heap),YP w h->(K w.params).In h)
  (F:∀ (w:World) (mg:Str->Option Value) (fa:Addr) (h:Heap),(K w.params).In h->h.Ns mainGlobals mg->mg d.name=some (.ref fa)→
   ∃ fd:FuncData,(∀ (s:Shared) (u:Value),BindsTo s fd ⟨[u],[]⟩ [(x,u)])∧
    ∀ base:Heap,(K w.params).In base->base.Ns mainGlobals mg->FnOk l.prog w (K w.params) mg base (CX w) k fa fd [x] (sp w))
  (hsp:∀ (w:World) (H:Hp) (a:Addr) (ns:List Int),ns.length<=n->Only H->SqL (K w.params) H a (ns.map V.int)->sp w [.ref a] H (fun v _=>v=.bl true) fun _ _ _=>False)
  (hCX:∀ (w:World) (H:Hp) (s:Shared) (e:Value) (s':Shared),CX w [] H s (fun _ _ _=>False) e s'->False):
  PySem.W.WalkO q loose XP YP l.row.toRowW d [] (fun f vs=>PySem.call f vs):=by
 refine Att.attach_call hn hdf fun w s₀ s₁ mg mb fa o pm cd doc a vs ns G Y ho hd hcd hmg hobj hints hlen hg=>?_
 have KX:=hY w _ Y
 obtain⟨fd,hb,hF⟩:=F w mg fa _ KX G.T.g hmg
 exact Gmd KX G.T.g G.T.b G.T.builtins G.T.nolimit hg hobj hints (Ao hlen hn2) hr hF hb (fun H hO hS=>hsp w H a ns hlen hO hS) fun H e s'=>hCX w H s₁ e s'
theorem Gme{l:PySem.W.OpenLaw}{n k:Nat}{q:Program}{loose:List Str}{XP:(Str->Option Value)->Heap->Prop}{YP:World->Heap->Prop}{d:DefRec}{K:Params->PySem.W.Frag}{CX:CXT}{sp:PySem.W.Frag->Sp}{x:Str}
  (hn:l.most=some n) (hn2:n<=sizeLine) (hdf:d.params.defaults=[]) (hr:Room k callerA)
  (hY:∀ (w:World) (h:Heap),YP w h->(K w.params).In h)
  (F:∀ (w:World) (mg:Str->Option Value) (fa:Addr) (h:Heap),(K w.params).In h->h.Ns mainGlobals mg->mg d.name=some (.ref fa)→
   ∃ fd:FuncData,(∀ (s:Shared) (u:Value),BindsTo s fd ⟨[u],[]⟩ [(x,u)])∧
    ∀ base:Heap,(K w.params).In base->base.Ns mainGlobals mg->FnOk l.prog w (K w.params) mg base CX k fa fd [x] (sp (K w.params)))
  (hsp:∀ (K:PySem.W.Frag) (H:Hp) (a:Addr) (ns:List Int),ns.length<=n->Only H->SqL K H a (ns.map V.int)->sp K [.ref a] H (fun v _=>v=.bl true) fun _ _ _=>False)
  (hCX:∀ (H:Hp) (s:Shared) (e:Value) (s':Shared),CX [] H s (fun _ _ _=>False) e s'->False):
  PySem.W.WalkO q loose XP YP l.row.toRowW d [] (fun f vs=>PySem.call f vs):=
 Gpi (K:=K) (CX:=fun _=>CX) (sp:=fun w=>sp (K w.params)) hn hn2 hdf hr hY F (fun w H a ns h1 h2 h3=>hsp (K w.params) H a ns h1 h2 h3) fun _ H s e s'=>hCX H s e s'
noncomputable def Hl(s:Stmt):Arguments:=match s with
 | .FunctionDef _ a _ _ _ _ _ _ _ _=>a
 | _=>{ posonlyargs:=[],args:=[],vararg:=none,kwonlyargs:=[],kw_defaults:=[],kwarg:=none,defaults:=[] }
noncomputable def Gv(s:Stmt):List Stmt:=match s with
 | .FunctionDef _ _ b _ _ _ _ _ _ _=>b
 | _=>[]
noncomputable def Gb(s:Stmt):Scope:=match s with
 | .FunctionDef _ _ _ _ _ _ sc _ _ _=>sc
 | _=>{ kind:=.function,names:=[],isGenerator:=false,isCoroutine:=false }
noncomputable abbrev CX0:CXT:=fun _ _ _ _ _ _=>False
noncomputable abbrev E0:XK:=fun _ _ _=>False
theorem Gyb{X:Cx}:Passes CX0 X E0:=fun _ _ _ _ _ _ _ h=>h.elim
structure Fun(K:PySem.W.Frag)(x qual:Str)(st:Stmt)(f:Addr)(fd:FuncData):Prop where
 ex:∃ (oc:Value) (od:Option Addr) (kV doc pm:Value) (an:Option Addr) (cdv ct:Value) (osl:Array (Option Value)),
  fd=PySem.W.fnOf x qual (Hl st) (Gv st) (Gb st) .none kV doc pm an cdv ct/\K.lookup f=some ⟨oc,od,.func fd,osl⟩/\PySem.W.codeIn K cdv qual=true
 kp:PySem.W.keepIn K (.ref f)=true
section
variable{P:Program}{w:World}{K:PySem.W.Frag}{mg:Str->Option Value}{base:Heap}
theorem Fun.ok{x:Str}{N ps:List Str}{k:Nat}{sp:Sp}(F:Fun K x qual st f fd)(S:FnScope N ps (Gb st))(len:∀ vs H Q E,sp vs H Q E->vs.length=ps.length)(hbody:∀ (cdv:Value) (A:Around) (outer:List Env) (s:Shared) (H:Hp) (vs:List V) (Q:VK) (E:XK),Room k (A.deeper (envOfC qual (Gb st) s.heap.objs.size f cdv))->sp vs H Q E→
   ∃ t,PSs (Ku CX0 P w K mg base N qual (Gb st) f cdv A outer s H E).nox (Gv st) t/\t { nx:=fun _ H'=>Q .non H',rt:=Q } (start N vs) H):FnOk P w K mg base CX0 (k+1) f fd ps sp:=by
 obtain⟨oc,od,kV,doc,pm,an,cdv,ct,osl,rfl,lk,hcd⟩:=F.ex
 refine Gl8 lk hcd S len fun A outer s H vs Q E hr hsp=>?_
 obtain⟨t,h,q⟩:=hbody cdv A outer s H vs Q E hr hsp
 exact⟨t,h.nox,q⟩
theorem Fun.binds{x:Str}{ps:List Str}(F:Fun K x qual st f fd)(h:∀ (kV doc pm:Value) (an:Option Addr) (cdv ct:Value) (us:List Value),us.length=ps.length->bindArgs (PySem.W.fnOf x qual (Hl st) (Gv st) (Gb st) .none kV doc pm an cdv ct) ⟨us,[]⟩=pure (ps.zip us)):Binds K fd ps []:=by
 obtain⟨oc,od,kV,doc,pm,an,cdv,ct,osl,rfl,lk,hcd⟩:=F.ex
 exact .all (h kV doc pm an cdv ct)
theorem Ger{x:Str}{oc:Value}{od an:Option Addr}{osl:Array (Option Value)}{kV doc pm cdv ct:Value}(l:K.lookup f=some ⟨oc,od,.func (PySem.W.fnOf x qual (Hl st) (Gv st) (Gb st) .none kV doc pm an cdv ct),osl⟩)(c:PySem.W.codeIn K cdv qual=true)(k:PySem.W.keepIn K (.ref f)=true):Fun K x qual st f (PySem.W.fnOf x qual (Hl st) (Gv st) (Gb st) .none kV doc pm an cdv ct):=⟨⟨oc,od,kV,doc,pm,an,cdv,ct,osl,rfl,l,c⟩,k⟩
end
end L2
namespace DL
open PySem PySem.Spec PyProof.Rows L2
variable{H:Hp}{a:Addr}{u:HO}
inductive D where
 | non | bl (b:Bool) | int (i:Int) | str (x:Str) | tup (l:List D) | lst (i:Nat) | exn (c:Str) (n:Option Int) | fv (x:Str) | dct (i:Nat)
structure Cell where
 fz:Bool
 xs:List D
noncomputable abbrev Sto:=List Cell
noncomputable abbrev Lc:=List (Option D)
structure XD where
 cls:Str
 fld:Option Int
inductive Out(α:Type) where
 | ok (a:α) (S:Sto)
 | exc (x:XD) (S:Sto)
 | bad
noncomputable def Out.bind{α β:Type}(o:Out α)(g:α->Sto->Out β):Out β:=
 match o with
 | .ok a S=>g a S
 | .exc x S=>.exc x S
 | .bad=>.bad
structure XCl(K:PySem.W.Frag)(c:Addr):Prop where
 ga:PySem.W.findIn K (.ref c) "__getattribute__"=some (some (.builtin "BaseException.__getattribute__"))
 gt:PySem.W.findIn K (.ref c) "__getattr__"=some none
 cl:PySem.W.findIn K (.ref c) "__class__"=some (some (.builtin "object.__class__"))
 cd:(PySem.W.clsIn K c).isSome=true
 ob:PySem.W.mroIn K c (.type "object")=some true
 be:PySem.W.subIn K (.ref c) (.type "BaseException")=some true
 bt:∀ T∈["bool","int","str","tuple","list"],PySem.W.kitOne K (.ref c) (.type T)=some false
noncomputable def CN(K:PySem.W.Frag)(y:Str)(c:Addr):Prop:=PySem.W.nsIn K mainGlobals y=some (some (.ref c))
theorem CN.one{K:PySem.W.Frag}{y:Str}{c d:Addr}(h:CN K y c)(g:CN K y d):c=d:=Value.ref.inj (Ac (Ac (h.symm.trans g)))
noncomputable def XO(a c:Addr)(dx:Option Addr):HO:=.ext fun h=>∃ oe,h.get? a=some oe/\oe.cls=.ref c/\oe.dict=dx/\∃ vs,oe.data=.fields vs
noncomputable def XA(d:Addr)(n:Int):HO:=.ext fun h=>∃ t,h.Ns d fun y=>if y="at" then some (.int n t) else none
inductive DOb:HO->Prop
 | t (kvs):DOb (.dT kvs)
 | k (kvs):DOb (.dK kvs)
noncomputable def Dcy(H:Hp)(a:Addr):Prop:=∃ u,DOb u/\Rd H a u
theorem Ga1{p:Addr}{o:HO}(hb:a≠p):Rd (upd H p o) a u↔Rd H a u:=by unfold Rd; rw[Gk hb]
theorem Gmf(z:Rd H a u):∃ o,H a=some o:=by
 rcases z with z | ⟨o,z⟩<;>exact⟨_,z⟩
theorem Gul{p:Addr}(z:Rd H a u)(h:H p=none):a≠p:=by
 obtain⟨o,z⟩:=Gmf z
 exact Ha z h
theorem DOb.neL{b:Addr}{xs:List V}(d:DOb u)(z:Rd H b u)(ha:H a=some (.lst xs)):b≠a:=by
 intro e
 subst e
 rcases z with z | ⟨o,z⟩
 ·rw[ha] at z; cases z; cases d
 ·rw[ha] at z; cases z
mutual
noncomputable def Rep(K:PySem.W.Frag)(mp:List Addr)(H:Hp):D->V->Prop
 | .non,v=>v=.non
 | .bl b,v=>v=.bl b
 | .int i,v=>v=.int i
 | .str x,v=>v=.str x
 | .tup l,v=>∃ a xs,v=.ref a/\SqT K H a xs/\RepL K mp H l xs
 | .lst i,v=>∃ a,v=.ref a/\mp[i]?=some a/\¬ Dcy H a
 | .exn c n,v=>∃ a dx p,v=.ref a/\(CN K c p/\XCl K p/\H a=some (XO a p dx))/\∀ i,n=some i->∃ d,dx=some d/\H d=some (XA d i)
 | .fv x,v=>∃ a,v=.ref a/\CN K x a
 | .dct i,v=>∃ a,v=.ref a/\mp[i]?=some a/\Dcy H a/\K.lookup a=none
noncomputable def RepL(K:PySem.W.Frag)(mp:List Addr)(H:Hp):List D->List V->Prop
 | [],vs=>vs=[]
 | d::l,vs=>∃ v r,vs=v::r/\Rep K mp H d v/\RepL K mp H l r
end
structure Aft(K:PySem.W.Frag)(mp:List Addr)(H:Hp)(mp':List Addr)(H':Hp):Prop where
 pre:∀ (i:Nat) (a:Addr),mp[i]?=some a->mp'[i]?=some a
 tup:∀ a xs,SqT K H a xs->SqT K H' a xs
 ext:∀ a φ,H a=some (.ext φ)->H' a=some (.ext φ)
 ndc:∀ (i:Nat) (a:Addr),mp[i]?=some a->¬ Dcy H a->¬ Dcy H' a
 dcy:∀ a,Dcy H a->Dcy H' a
 fzd:∀ a o u,DOb u->H a=some (.frz o u)->H' a=some (.frz o u)
theorem Aft.refl{K:PySem.W.Frag}{mp:List Addr}{H:Hp}:Aft K mp H mp H:=⟨fun _ _ h=>h,fun _ _ h=>h,fun _ _ h=>h,fun _ _ _ h=>h,fun _ h=>h,fun _ _ _ _ h=>h⟩
theorem Aft.trans{K:PySem.W.Frag}{mp mp1 mp2:List Addr}{H H1 H2:Hp}(a:Aft K mp H mp1 H1)(b:Aft K mp1 H1 mp2 H2):Aft K mp H mp2 H2:=
 ⟨fun i x h=>b.pre i x (a.pre i x h),fun x xs h=>b.tup x xs (a.tup x xs h),fun x f h=>b.ext x f (a.ext x f h),fun i x e h=>b.ndc i x (a.pre i x e) (a.ndc i x e h),fun x h=>b.dcy x (a.dcy x h),fun x o u d h=>b.fzd x o u d (a.fzd x o u d h)⟩
mutual
theorem Rep.aft{K:PySem.W.Frag}{mp mp':List Addr}{H H':Hp}(a:Aft K mp H mp' H'):∀ (d:D) (v:V),Rep K mp H d v->Rep K mp' H' d v
 | .non,v,h=>h
 | .bl _,v,h=>h
 | .int _,v,h=>h
 | .str _,v,h=>h
 | .tup l,v,h=>by
  obtain⟨p,xs,e,s,r⟩:=(show ∃ a xs,v=.ref a/\SqT K H a xs/\RepL K mp H l xs from h)
  exact⟨p,xs,e,a.tup _ _ s,RepL.aft a l xs r⟩
 | .lst i,v,h=>by
  obtain⟨p,e,s,n⟩:=(show ∃ a,v=.ref a/\mp[i]?=some a/\¬ Dcy H a from h)
  exact⟨p,e,a.pre _ _ s,a.ndc _ _ s n⟩
 | .exn c n,v,h=>by
  obtain⟨p,dx,q,e,⟨s0,s1,s⟩,r⟩:=(show ∃ a dx p,v=.ref a/\(CN K c p/\XCl K p/\H a=some (XO a p dx))/\∀ i,n=some i->∃ d,dx=some d/\H d=some (XA d i) from h)
  exact⟨p,dx,q,e,⟨s0,s1,a.ext _ _ s⟩,fun i z=>let ⟨d,z1,z2⟩:=r i z; ⟨d,z1,a.ext _ _ z2⟩⟩
 | .fv x,v,h=>h
 | .dct i,v,h=>by
  obtain⟨p,e,s,n,k⟩:=(show ∃ a,v=.ref a/\mp[i]?=some a/\Dcy H a/\K.lookup a=none from h)
  exact⟨p,e,a.pre _ _ s,a.dcy _ n,k⟩
theorem RepL.aft{K:PySem.W.Frag}{mp mp':List Addr}{H H':Hp}(a:Aft K mp H mp' H'):∀ (l:List D) (vs:List V),RepL K mp H l vs->RepL K mp' H' l vs
 | [],vs,h=>h
 | d::l,vs,h=>by
  obtain⟨v,r,e,h1,h2⟩:=(show ∃ v r,vs=v::r/\Rep K mp H d v/\RepL K mp H l r from h)
  exact⟨v,r,e,Rep.aft a d v h1,RepL.aft a l r h2⟩
end
section
variable{K:PySem.W.Frag}{mp:List Addr}{H:Hp}
theorem RepL.nil:RepL K mp H [] []:=rfl
theorem RepL.cons{d:D}{v:V}{l:List D}{r:List V}(h:Rep K mp H d v)(t:RepL K mp H l r):RepL K mp H (d::l) (v::r):=⟨v,r,rfl,h,t⟩
theorem RepL.len:∀ {l:List D} {vs:List V},RepL K mp H l vs->vs.length=l.length
 | [],vs,h=>by cases (show vs=[] from h); rfl
 | d::l,vs,h=>by
  obtain⟨v,r,e,h1,h2⟩:=h
  subst e
  simp[RepL.len h2]
theorem RepL.get:∀ {l:List D} {vs:List V} {i:Nat} {d:D},RepL K mp H l vs->l[i]?=some d->∃ v,vs[i]?=some v/\Rep K mp H d v
 | [],_,_,_,_,e=>by simp at e
 | d::l,vs,0,_,h,e=>by
  obtain⟨v,r,q,h1,h2⟩:=h
  subst q
  simp at e
  subst e
  exact⟨v,rfl,h1⟩
 | d::l,vs,i+1,x,h,e=>by
  obtain⟨v,r,q,h1,h2⟩:=h
  subst q
  obtain⟨v',a,b⟩:=RepL.get (i:=i) (d:=x) h2 (by simpa using e)
  exact⟨v',by simpa using a,b⟩
theorem RepL.append:∀ {l m:List D} {vs ws:List V},RepL K mp H l vs->RepL K mp H m ws->RepL K mp H (l++m) (vs++ws)
 | [],m,vs,ws,h,g=>by cases (show vs=[] from h); exact g
 | d::l,m,vs,ws,h,g=>by
  obtain⟨v,r,q,h1,h2⟩:=h
  subst q
  exact⟨v,r++ws,rfl,h1,RepL.append h2 g⟩
theorem RepL.take:∀ {l:List D} {vs:List V} (n:Nat),RepL K mp H l vs->RepL K mp H (l.take n) (vs.take n)
 | [],vs,n,h=>by cases (show vs=[] from h); simp; exact RepL.nil
 | d::l,vs,0,h=>by simp; exact RepL.nil
 | d::l,vs,n+1,h=>by
  obtain⟨v,r,q,h1,h2⟩:=h
  subst q
  simpa using RepL.cons h1 (RepL.take n h2)
theorem RepL.drop:∀ {l:List D} {vs:List V} (n:Nat),RepL K mp H l vs->RepL K mp H (l.drop n) (vs.drop n)
 | [],vs,n,h=>by cases (show vs=[] from h); simp; exact RepL.nil
 | d::l,vs,0,h=>by simpa using h
 | d::l,vs,n+1,h=>by
  obtain⟨v,r,q,h1,h2⟩:=h
  subst q
  simpa using RepL.drop n h2
theorem RepL.set:∀ {l:List D} {vs:List V} {d:D} {v:V} (n:Nat),RepL K mp H l vs->Rep K mp H d v->RepL K mp H (l.set n d) (vs.set n v)
 | [],vs,d,v,n,h,g=>by cases (show vs=[] from h); simp; exact RepL.nil
 | x::l,vs,d,v,0,h,g=>by
  obtain⟨v',r,q,h1,h2⟩:=h
  subst q
  simpa using RepL.cons g h2
 | x::l,vs,d,v,n+1,h,g=>by
  obtain⟨v',r,q,h1,h2⟩:=h
  subst q
  simpa using RepL.cons h1 (RepL.set n h2 g)
theorem RepL.rev:∀ {l:List D} {vs:List V},RepL K mp H l vs->RepL K mp H l.reverse vs.reverse
 | [],vs,h=>by cases (show vs=[] from h); exact RepL.nil
 | d::l,vs,h=>by
  obtain⟨v,r,q,h1,h2⟩:=h
  subst q
  simpa using RepL.append (RepL.rev h2) (RepL.cons h1 RepL.nil)
end
noncomputable def SqF(K:PySem.W.Frag)(H:Hp)(a:Addr)(xs:List V):Prop:=
 (∃ o,H a=some (.frz o (.lst xs)))∨
  ∃ (o:Obj) (its:Array Value) (n:Nat),K.lookup a=some o/\o.cls=.type "list"/\o.dict=none/\o.data=.seq its n/\its.size<=sizeLine/\Vals xs its.toList
theorem SqF.sq{K:PySem.W.Frag}{H:Hp}{a:Addr}{xs:List V}(h:SqF K H a xs):SqL K H a xs:=by
 rcases h with h | h
 ·exact .inl (.inr h)
 ·exact .inr h
noncomputable def Gyc(K:PySem.W.Frag)(mp:List Addr)(H:Hp)(a:Addr)(c:Cell):Prop:=
 ∃ xs,RepL K mp H c.xs xs/\(if c.fz=true then SqF K H a xs else H a=some (.lst xs))
mutual
noncomputable def nkO:D->Option NK
 | .int i=>some (.i i)
 | .tup l=>(nkOs l).map .t
 | _=>none
noncomputable def nkOs:List D->Option (List NK)
 | []=>some []
 | d::r=>(nkO d).bind fun k=>(nkOs r).map fun q=>k::q
end
noncomputable def Gby(K:PySem.W.Frag)(mp:List Addr)(H:Hp)(d:D)(q:NK×Addr×V):Prop:=
 ∃ k e,d=.tup [k,e]/\(nkO k=some q.1/\(pk q.1).depth<=8)/\Rep K mp H k (.ref q.2.1)/\Rep K mp H e q.2.2
noncomputable def FzD(f:Bool)(H:Hp)(a:Addr)(u:HO):Prop:=match f with
 | true=>∃ o,H a=some (.frz o u)
 | false=>H a=some u
theorem FzD.rd{f:Bool}{H:Hp}{a:Addr}{u:HO}(h:FzD f H a u):Rd H a u:=by
 cases f
 ·exact .inl h
 ·exact .inr h
theorem FzD.upd{f:Bool}{H:Hp}{a p:Addr}{o u:HO}(h:FzD f H a u)(hb:a≠p):FzD f (L2.upd H p o) a u:=by
 cases f
 ·show L2.upd H p o a=_
  rw[Gk hb]; exact h
 ·obtain⟨ob,h⟩:=h
  exact⟨ob,by rw[Gk hb]; exact h⟩
noncomputable def kkO:D->Option Key
 | .int i=>some (.inl i)
 | .str x=>some (.inr x)
 | _=>none
noncomputable def PrK(K:PySem.W.Frag)(mp:List Addr)(H:Hp)(d:D)(q:Key×V):Prop:=
 ∃ k e,d=.tup [k,e]/\kkO k=some q.1/\Rep K mp H e q.2
noncomputable def DPr(K:PySem.W.Frag)(mp:List Addr)(H:Hp)(l:List D):HO->Prop
 | .dT kvs=>Paired (Gby K mp H) l kvs
 | .dK kvs=>Paired (PrK K mp H) l kvs
 | _=>False
theorem DPr.ob{K:PySem.W.Frag}{mp:List Addr}{H:Hp}{l:List D}{u:HO}(h:DPr K mp H l u):DOb u:=by
 cases u<;>first | exact h.elim | exact .t _ | exact .k _
noncomputable def Gyd(K:PySem.W.Frag)(mp:List Addr)(H:Hp)(a:Addr)(c:Cell):Prop:=
 ∃ u,FzD c.fz H a u/\DPr K mp H c.xs u
theorem Gby.aft{K:PySem.W.Frag}{mp mp':List Addr}{H H':Hp}(a:Aft K mp H mp' H'){d:D}{q:NK×Addr×V}(p:Gby K mp H d q):Gby K mp' H' d q:=
 let ⟨k,e,h1,h2,h3,h4⟩:=p; ⟨k,e,h1,h2,Rep.aft a _ _ h3,Rep.aft a _ _ h4⟩
theorem DPr.aft{K:PySem.W.Frag}{mp mp':List Addr}{H H':Hp}{l:List D}{u:HO}(a:Aft K mp H mp' H')(p:DPr K mp H l u):DPr K mp' H' l u:=by
 cases u<;>first | exact p.elim | exact Paired.mapP p fun _ _ z=>z.aft a | exact Paired.mapP p fun _ _ ⟨k,e,h1,h2,h3⟩=>⟨k,e,h1,h2,Rep.aft a _ _ h3⟩
noncomputable def Gai(K:PySem.W.Frag)(mp:List Addr)(H:Hp)(a:Addr)(c:Cell):Prop:=Gyc K mp H a c\/Gyd K mp H a c
theorem Gai.low{K:PySem.W.Frag}{mp:List Addr}{H:Hp}{a:Addr}{c:Cell}(q:Gai K mp H a c)(f:c.fz=false):∃ o,H a=some o:=by
 rcases q with⟨xs,_,e⟩ | ⟨u,e,_⟩
 ·rw[f,if_neg Ap] at e; exact⟨_,e⟩
 ·exact Gmf e.rd
structure RS(K:PySem.W.Frag)(mp:List Addr)(H:Hp)(S:Sto):Prop where
 len:mp.length=S.length
 cell:∀ (i:Nat) (a:Addr) (c:Cell),mp[i]?=some a->S[i]?=some c->Gai K mp H a c
 inj:∀ (i j:Nat) (a:Addr) (ci cj:Cell),mp[i]?=some a->mp[j]?=some a->S[i]?=some ci->S[j]?=some cj->ci.fz=false->cj.fz=false->i=j
structure Gd(K:PySem.W.Frag)(mp:List Addr)(H:Hp)(σ:L2.St)(ρ:Lc)(S:Sto):Prop where
 rs:RS K mp H S
 len:σ.length=ρ.length
 loc:∀ (i:Nat) (d:D),ρ[i]?=some (some d)->∃ v,σ[i]?=some (some v)/\Rep K mp H d v
theorem Gd.aft{K:PySem.W.Frag}{mp mp':List Addr}{H H':Hp}{σ:L2.St}{ρ:Lc}{S S':Sto}(g:Gd K mp H σ ρ S)(a:Aft K mp H mp' H')(r:RS K mp' H' S'):Gd K mp' H' σ ρ S':=
 ⟨r,g.len,fun i d h=>let ⟨v,e,q⟩:=g.loc i d h; ⟨v,e,q.aft a⟩⟩
noncomputable abbrev XW:=XD->List Addr->Hp->L2.St->Lc->Sto->Prop
noncomputable abbrev RL(α β:Type):=List Addr->Hp->α->β->Prop
noncomputable def Gi{α β:Type}(K:PySem.W.Frag)(R:RL α β)(XQ:XW)(σ:L2.St)(ρ:Lc)(mp:List Addr)(H:Hp)(o:Out α)(Q:β->Hp->Prop):Prop:=
 match o with
 | .ok d S=>∀ mp' H' v,Aft K mp H mp' H'->RS K mp' H' S->R mp' H' d v->Q v H'
 | .exc x S=>∀ mp' H',Aft K mp H mp' H'->Gd K mp' H' σ ρ S->XQ x mp' H' σ ρ S
 | .bad=>False
theorem Gi.aft{α β:Type}{K:PySem.W.Frag}{R:RL α β}{XQ:XW}{σ:L2.St}{ρ:Lc}{mp mp':List Addr}{H H':Hp}{o:Out α}{Q:β->Hp->Prop}(p:Gi K R XQ σ ρ mp H o Q)(a:Aft K mp H mp' H'):Gi K R XQ σ ρ mp' H' o Q:=by
 cases o with
 | ok d S=>exact fun m h v b=>p m h v (a.trans b)
 | exc x S=>exact fun m h b=>p m h (a.trans b)
 | bad=>exact p
theorem Gi.ok{α β:Type}{K:PySem.W.Frag}{R:RL α β}{XQ:XW}{σ:L2.St}{ρ:Lc}{mp:List Addr}{H:Hp}{d:α}{S:Sto}{v:β}{Q:β->Hp->Prop}(p:Gi K R XQ σ ρ mp H (.ok d S) Q)(r:RS K mp H S)(h:R mp H d v):Q v H:=p mp H v .refl r h
noncomputable abbrev Post(K:PySem.W.Frag)(XQ:XW):=Gi (β:=V) K (Rep K) XQ
noncomputable abbrev Ev(α:Type):=Lc->Sto->Out α
noncomputable def rdG{α β:Type}(K:PySem.W.Frag)(R:RL α β)(XQ:XW)(f:Ev α):L2.St->Hp->(β->Hp->Prop)->Prop:=fun σ H Q=>∃ mp ρ S,Gd K mp H σ ρ S/\Gi K R XQ σ ρ mp H (f ρ S) Q
noncomputable def kB:RL Bool Bool:=fun _ _ a b=>b=a
noncomputable def kO:RL (Option Int) (Option Int):=fun _ _ a b=>b=a
noncomputable abbrev rdE(K:PySem.W.Frag)(XQ:XW)(f:Ev D):TE:=rdG K (Rep K) XQ f
noncomputable abbrev rdA(K:PySem.W.Frag)(XQ:XW)(f:Ev (List D)):TA:=rdG K (RepL K) XQ f
noncomputable abbrev rdT(K:PySem.W.Frag)(XQ:XW)(f:Ev Bool):TT:=rdG K kB XQ f
noncomputable abbrev rdO(K:PySem.W.Frag)(XQ:XW)(f:Ev (Option Int)):TO:=rdG K kO XQ f
noncomputable def JE(X:Cx)(XQ:XW)(e:Expr)(f:Ev D):Prop:=PE X e (rdE X.K XQ f)
noncomputable def JA(X:Cx)(XQ:XW)(es:List Expr)(f:Ev (List D)):Prop:=PA X es (rdA X.K XQ f)
noncomputable def JT(X:Cx)(XQ:XW)(e:Expr)(f:Ev Bool):Prop:=PT X e (rdT X.K XQ f)
noncomputable def JW(X:Cx)(XQ:XW)(e:Expr)(f:Ev Bool):Prop:=PW X e (rdT X.K XQ f)
noncomputable def JO(X:Cx)(XQ:XW)(e:Option Expr)(f:Ev (Option Int)):Prop:=PO X e (rdO X.K XQ f)
theorem PE.mono{X:Cx}{e:Expr}{t t':TE}(h:PE X e t)(m:∀ σ H Q,t' σ H Q->t σ H Q):PE X e t':=fun pins s σ H Q I q=>h pins s σ H Q I (m σ H Q q)
theorem PT.mono{X:Cx}{e:Expr}{t t':TT}(h:PT X e t)(m:∀ σ H Q,t' σ H Q->t σ H Q):PT X e t':=fun pins s σ H Q I q=>h pins s σ H Q I (m σ H Q q)
theorem PW.mono{X:Cx}{e:Expr}{t t':TT}(h:PW X e t)(m:∀ σ H Q,t' σ H Q->t σ H Q):PW X e t':=fun wh pins s σ H Q I q=>h wh pins s σ H Q I (m σ H Q q)
theorem PO.mono{X:Cx}{e:Option Expr}{t t':TO}(h:PO X e t)(m:∀ σ H Q,t' σ H Q->t σ H Q):PO X e t':=fun pins s σ H Q I q=>h pins s σ H Q I (m σ H Q q)
theorem PA.mono{X:Cx}{e:List Expr}{t t':TA}(h:PA X e t)(m:∀ σ H Q,t' σ H Q->t σ H Q):PA X e t':=fun pos pins s σ H Q I q=>h pos pins s σ H Q I (m σ H Q q)
theorem PS.mono{X:Cx}{e:Stmt}{t t':TS}(h:PS X e t)(m:∀ D σ H,t' D σ H->t D σ H):PS X e t':=fun pins s σ H D I q=>h pins s σ H D I (m D σ H q)
theorem PSs.mono{X:Cx}{e:List Stmt}{t t':TS}(h:PSs X e t)(m:∀ D σ H,t' D σ H->t D σ H):PSs X e t':=fun pins s σ H D I q=>h pins s σ H D I (m D σ H q)
theorem bindP{α β γ δ:Type}{K:PySem.W.Frag}{R:RL α β}{R':RL γ δ}{XQ:XW}{mp:List Addr}{H:Hp}{σ:L2.St}{ρ:Lc}{S:Sto}{f:Ev α}{g:α->Sto->Out γ}{Q:δ->Hp->Prop}{Q1:β->Hp->Prop}(G:Gd K mp H σ ρ S)(p:Gi K R' XQ σ ρ mp H ((f ρ S).bind g) Q)
  (k:∀ mp1 H1 d S1 v,Aft K mp H mp1 H1->Gd K mp1 H1 σ ρ S1->R mp1 H1 d v->Gi K R' XQ σ ρ mp1 H1 (g d S1) Q->Q1 v H1):rdG K R XQ f σ H Q1:=by
 refine⟨mp,ρ,S,G,?_⟩
 cases e:f ρ S with
 | ok d S1=>
  rw[e] at p
  exact fun mp1 H1 v a rs r=>k mp1 H1 d S1 v a (G.aft a rs) r (Gi.aft p a)
 | exc x S1=>rw[e] at p; exact p
 | bad=>rw[e] at p; exact p
noncomputable def vr(i:Nat):Ev D:=fun ρ S=>match ρ[i]? with
 | some (some d)=>.ok d S
 | _=>.bad
noncomputable def cn(d:D):Ev D:=fun _ S=>.ok d S
section
variable{X:Cx}{XQ:XW}
theorem Gmg(i:Nat){x:Str}{pos:Pos}(hN:X.N[i]?=some x:=by rfl)(hv:Vis X.env.scope x:=by first | exact Or.inl rfl | exact Or.inr (Or.inl rfl) | exact Or.inr (Or.inr rfl))(hd:(x==("__debug__":Str))=false:=by decide)
  (hcd:(x==("__classdict__":Str))=false:=by decide):JE X XQ (.Name x pos) (vr i):=by
 refine PE.mono (Gej hN hv hd hcd) fun σ H Q zq0=>?_
 obtain⟨mp,ρ,S,G,p⟩:=zq0
 unfold vr at p
 cases e:ρ[i]? with
 | none=>rw[e] at p; exact p.elim
 | some o=>
  rw[e] at p
  cases o with
  | none=>exact p.elim
  | some d=>
   obtain⟨v,h1,h2⟩:=G.loc i d e
   exact⟨v,h1,Gi.ok p G.rs h2⟩
theorem Vd{e:Expr}{d:D}{v:V}(h:PE X e (tC v))(r:∀ mp H,Rep X.K mp H d v):JE X XQ e (cn d):=
 PE.mono h fun σ H Q ⟨mp,ρ,S,G,p⟩=>Gi.ok p G.rs (r mp H)
noncomputable def an:Ev (List D):=fun _ S=>.ok [] S
noncomputable def ac(f:Ev D)(g:Ev (List D)):Ev (List D):=fun ρ S=>(f ρ S).bind fun x S1=>(g ρ S1).bind fun xs S2=>.ok (x::xs) S2
theorem Qq{K:PySem.W.Frag}{mp:List Addr}{H:Hp}{p:Addr}{o:HO}(h:H p=none)(hd:¬ DOb o/\∀ ob u,o≠.frz ob u:=by exact⟨fun z=>(nomatch z),fun _ _ z=>(nomatch z)⟩):Aft K mp H mp (upd H p o):=by
 refine⟨fun _ _ e=>e,fun a xs s=>?_,fun a φ s=>by rw[Gk (Ha s h)]; exact s,fun i a e n ⟨u,du,z⟩=>?_,fun a ⟨u,du,z⟩=>⟨u,du,(Ga1 (Gul z h)).mpr z⟩,fun a ob u _ z=>by rw[Gk (Ha z h)]; exact z⟩
 ·rcases s with(s | ⟨ob,s⟩) | s
  ·exact .inl (.inl (by rw[Gk (Ha s h)]; exact s))
  ·exact .inl (.inr ⟨ob,by rw[Gk (Ha s h)]; exact s⟩)
  ·exact .inr s
 ·by_cases hb:a=p
  ·subst hb
   rcases z with z | ⟨ob,z⟩<;>rw[Hd] at z
   ·cases (Ac z); exact hd.1 du
   ·exact hd.2 ob u (Ac z)
  ·exact n ⟨u,du,(Ga1 hb).mp z⟩
theorem Gpj{K:PySem.W.Frag}{H:Hp}{p a:Addr}{o:HO}{xs:List V}(h:H p=none)(s:SqF K H a xs):SqF K (upd H p o) a xs:=by
 rcases s with⟨ob,s⟩ | s
 ·exact .inl ⟨ob,by rw[Gk (Ha s h)]; exact s⟩
 ·exact .inr s
theorem Gai.new{K:PySem.W.Frag}{mp mp':List Addr}{H:Hp}{p a:Addr}{o:HO}{c:Cell}(h:H p=none)(af:Aft K mp H mp' (upd H p o))(q:Gai K mp H a c):Gai K mp' (upd H p o) a c:=by
 rcases q with⟨xs,r,e⟩ | ⟨u,e,r⟩
 case inr=>exact .inr ⟨u,e.upd (Gul e.rd h),r.aft af⟩
 refine .inl ⟨xs,RepL.aft af _ _ r,?_⟩
 cases z:c.fz with
 | true=>rw[z] at e; exact(if_pos rfl).mpr (Gpj h ((if_pos rfl).mp e))
 | false=>
  rw[z,if_neg Ap] at e
  rw[if_neg Ap,Gk (Ha e h)]
  exact e
theorem RS.new{K:PySem.W.Frag}{mp:List Addr}{H:Hp}{S:Sto}{p:Addr}{o:HO}(r:RS K mp H S)(h:H p=none)(hd:¬ DOb o/\∀ ob u,o≠.frz ob u:=by exact⟨fun z=>(nomatch z),fun _ _ z=>(nomatch z)⟩):RS K mp (upd H p o) S:=
 ⟨r.len,fun i a c e1 e2=>(r.cell i a c e1 e2).new h (Qq h hd),r.inj⟩
theorem RS.newL{K:PySem.W.Frag}{mp:List Addr}{H:Hp}{S:Sto}{p:Addr}{ds:List D}{vs:List V}(r:RS K mp H S)(h:H p=none)(q:RepL K mp H ds vs):
  Aft K mp H (mp++[p]) (upd H p (.lst vs))/\RS K (mp++[p]) (upd H p (.lst vs)) (S++[⟨false,ds⟩])/\(mp++[p])[S.length]?=some p:=by
 have af:Aft K mp H (mp++[p]) (upd H p (.lst vs)):=⟨fun i a e=>by rw[Ar (Ab.mp e).1]; exact e,(Qq (mp:=mp) h).tup,(Qq (K:=K) (mp:=mp) h).ext,(Qq (K:=K) (mp:=mp) h).ndc,(Qq (K:=K) (mp:=mp) h).dcy,(Qq (K:=K) (mp:=mp) h).fzd⟩
 have hl:=r.len
 have lastp:(mp++[p])[S.length]?=some p:=by rw[<- hl]; simp
 refine⟨af,⟨by simp[hl],fun i a c e1 e2=>?_,fun i j a ci cj e1 e2 e3 e4 f1 f2=>?_⟩,lastp⟩
 ·by_cases hi:i<S.length
  ·rw[Ar (by omega)] at e1
   rw[Ar hi] at e2
   exact(r.cell i a c e1 e2).new h af
  ·have hi':i=S.length:=by
    have:=(Ab.mp e2).1
    simp at this
    omega
   subst hi'
   rw[lastp] at e1
   cases e1
   simp at e2
   subst e2
   exact .inl ⟨vs,RepL.aft af _ _ q,by simp[Hd]⟩
 ·have old:∀ (i:Nat) (a:Addr) (c:Cell),i<S.length->(mp++[p])[i]?=some a->(S++[⟨false,ds⟩])[i]?=some c->c.fz=false->mp[i]?=some a/\S[i]?=some c/\a≠p:=fun i a c hi e1 e2 f=>by
   rw[Ar (by omega)] at e1
   rw[Ar hi] at e2
   refine⟨e1,e2,?_⟩
   obtain⟨o,e⟩:=(r.cell i a c e1 e2).low f
   exact Ha e h
  have hi:=(Ab.mp e3).1
  have hj:=(Ab.mp e4).1
  simp at hi hj
  by_cases hi':i<S.length
  ·obtain⟨o1,o2,o3⟩:=old i a ci hi' e1 e3 f1
   by_cases hj':j<S.length
   ·obtain⟨u1,u2,u3⟩:=old j a cj hj' e2 e4 f2
    exact r.inj i j a ci cj o1 u1 o2 u2 f1 f2
   ·have:j=S.length:=by omega
    subst this
    rw[lastp] at e2
    cases e2
    exact absurd rfl o3
  ·have:i=S.length:=by omega
   subst this
   rw[lastp] at e1
   cases e1
   by_cases hj':j<S.length
   ·obtain⟨u1,u2,u3⟩:=old j _ cj hj' e2 e4 f2
    exact absurd rfl u3
   ·omega
theorem RS.setL{K:PySem.W.Frag}{mp:List Addr}{H:Hp}{S:Sto}{i:Nat}{a:Addr}{c:Cell}{xs vs:List V}{ds:List D}(r:RS K mp H S)(hi:mp[i]?=some a)(hc:S[i]?=some c)(hf:c.fz=false)(ha:H a=some (.lst xs))(q:RepL K mp H ds vs):
  Aft K mp H mp (upd H a (.lst vs))/\RS K mp (upd H a (.lst vs)) (S.set i ⟨false,ds⟩):=by
 have af:Aft K mp H mp (upd H a (.lst vs)):=by
  refine⟨fun _ _ e=>e,fun b ys s=>?_,fun b φ s=>by rw[Gk (Ggb s ha (by intro z; cases z))]; exact s,fun j b e n ⟨u,du,z⟩=>?_,fun b ⟨u,du,z⟩=>⟨u,du,(Ga1 (du.neL z ha)).mpr z⟩,fun b ob u _ z=>by rw[Gk (Ggb z ha (by intro z; cases z))]; exact z⟩
  ·rcases s with(s | ⟨ob,s⟩) | s
   ·exact .inl (.inl (by rw[Gk (Ggb s ha (by intro z; cases z))]; exact s))
   ·exact .inl (.inr ⟨ob,by rw[Gk (Ggb s ha (by intro z; cases z))]; exact s⟩)
   ·exact .inr s
  ·by_cases hb:b=a
   ·subst hb
    rcases z with z | ⟨ob,z⟩<;>rw[Hd] at z<;>cases z
    cases du
   ·exact n ⟨u,du,(Ga1 hb).mp z⟩
 refine⟨af,⟨by simp[r.len],fun j b cj e1 e2=>?_,fun j k b cj ck e1 e2 e3 e4 f1 f2=>?_⟩⟩
 ·by_cases hj:j=i
  ·subst hj
   rw[hi] at e1
   cases e1
   rw[Av (Ab.mp hc).1] at e2
   cases e2
   exact .inl ⟨vs,RepL.aft af _ _ q,by simp[Hd]⟩
  ·rw[Am (Ne.symm hj)] at e2
   rcases r.cell j b cj e1 e2 with⟨ys,h1,h2⟩ | ⟨u,e,rr⟩
   case inr=>exact .inr ⟨u,e.upd (rr.ob.neL e.rd ha),rr.aft af⟩
   refine .inl ⟨ys,RepL.aft af _ _ h1,?_⟩
   cases z:cj.fz with
   | true=>
    rw[z] at h2
    have h2:SqF K H b ys:=(if_pos rfl).mp h2
    refine(if_pos rfl).mpr ?_
    rcases h2 with⟨ob,s⟩ | s
    ·exact .inl ⟨ob,by rw[Gk (Ggb s ha (by intro z; cases z))]; exact s⟩
    ·exact .inr s
   | false=>
    rw[z,if_neg Ap] at h2
    rw[if_neg Ap]
    have hb:b≠a:=fun hb=>by
     subst hb
     exact hj (r.inj j i b cj c e1 hi e2 hc z hf)
    rw[Gk hb]
    exact h2
 ·have fz:∀ (j:Nat) (cj:Cell),(S.set i ⟨false,ds⟩)[j]?=some cj->cj.fz=false->∃ c',S[j]?=some c'/\c'.fz=false:=fun j cj e f=>by
   by_cases hj:j=i
   ·subst hj
    exact⟨c,hc,hf⟩
   ·rw[Am (Ne.symm hj)] at e
    exact⟨cj,e,f⟩
  obtain⟨c1,g1,g2⟩:=fz j cj e3 f1
  obtain⟨c2,g3,g4⟩:=fz k ck e4 f2
  exact r.inj j k b c1 c2 e1 e2 g1 g3 g2 g4
theorem RS.items{K:PySem.W.Frag}{mp:List Addr}{H:Hp}{S:Sto}{i:Nat}{c:Cell}{v:V}(r:RS K mp H S)(h:Rep K mp H (.lst i) v)(e:S[i]?=some c):∃ a xs,v=.ref a/\mp[i]?=some a/\SqL K H a xs/\RepL K mp H c.xs xs/\(c.fz=false->H a=some (.lst xs)):=by
 obtain⟨a,ev,ea,n⟩:=(show ∃ a,v=.ref a/\mp[i]?=some a/\¬ Dcy H a from h)
 rcases r.cell i a c ea e with⟨xs,q,z⟩ | ⟨u,e,rr⟩
 case inr=>exact absurd ⟨u,rr.ob,e.rd⟩ n
 cases f:c.fz with
 | true=>rw[f] at z; exact⟨a,xs,ev,ea,((if_pos rfl).mp z:SqF K H a xs).sq,q,fun w=>nomatch w⟩
 | false=>rw[f,if_neg Ap] at z; exact⟨a,xs,ev,ea,SqL.of z,q,fun _=>z⟩
theorem Rep.nd{K:PySem.W.Frag}{mp:List Addr}{H:Hp}{i:Nat}{a:Addr}(h:Rep K mp H (.lst i) (.ref a)):¬ Dcy H a:=by
 obtain⟨b,e,_,n⟩:=(show ∃ b,V.ref a=.ref b/\mp[i]?=some b/\¬ Dcy H b from h)
 cases e
 exact n
theorem nd_lst{H:Hp}{a:Addr}{xs:List V}(h:H a=some (.lst xs)):¬ Dcy H a:=fun⟨_,du,z⟩=>(du.neL z h) rfl
theorem Rep.tup{K:PySem.W.Frag}{mp:List Addr}{H:Hp}{l:List D}{v:V}(h:Rep K mp H (.tup l) v):∃ a xs,v=.ref a/\SqT K H a xs/\RepL K mp H l xs:=h
noncomputable def OpD(K:PySem.W.Frag)(r:R2)(o:D->D->Sto->Out D):Prop:=
 ∀ (XQ:XW) (σ:L2.St) (ρ:Lc) (mp:List Addr) (H:Hp) (S:Sto) (x y:D) (v u:V) (Q:VK),RS K mp H S->Rep K mp H x v->Rep K mp H y u->Post K XQ σ ρ mp H (o x y S) Q->r v u H Q
noncomputable def o2(o:D->D->Sto->Out D)(fa fb:Ev D):Ev D:=fun ρ S=>(fa ρ S).bind fun x S1=>(fb ρ S1).bind fun y S2=>o x y S2
theorem Gpk{r:R2}{o:D->D->Sto->Out D}{fa fb:Ev D}(hd:OpD X.K r o):∀ σ H Q,rdE X.K XQ (o2 o fa fb) σ H Q->tOp r (rdE X.K XQ fa) (rdE X.K XQ fb) σ H Q:=by
 intro σ H Q zq0
 obtain⟨mp,ρ,S,G,p⟩:=zq0
 refine bindP G p fun mp1 H1 x S1 v a1 G1 r1 p1=>?_
 refine bindP G1 p1 fun mp2 H2 y S2 u a2 G2 r2 p2=>?_
 exact hd XQ σ ρ mp2 H2 S2 x y v u Q G2.rs (Rep.aft a2 _ _ r1) r2 p2
theorem Gbz{a b:Expr}{fa fb:Ev D}{op:Operator}{r:R2}{o:D->D->Sto->Out D}{pos:Pos}(ho:OpR X (binaryOp op) r)(hd:OpD X.K r o)(ha:JE X XQ a fa)(hb:JE X XQ b fb):JE X XQ (.BinOp a op b pos) (o2 o fa fb):=
 PE.mono (Gxx ho ha hb) (Gpk hd)
theorem Ges{a b:Expr}{fa fb:Ev D}{op:CmpOp}{r:R2}{o:D->D->Sto->Out D}{pos:Pos}(ho:OpR X (compareOp op) r)(hd:OpD X.K r o)(ha:JE X XQ a fa)(hb:JE X XQ b fb)(hm:behindInMarks op b=false):JE X XQ (.Compare a [op] [b] pos) (o2 o fa fb):=
 PE.mono (Go8 ho ha hb hm) (Gpk hd)
theorem Gye{a b:Expr}{fa fb:Ev D}{r:R2}{o:D->D->Sto->Out D}{pos:Pos}(hr:IxR X r)(hd:OpD X.K r o)(ha:JE X XQ a fa)(hb:JE X XQ b fb)(hs:Gem b):JE X XQ (.Subscript a b pos) (o2 o fa fb):=
 PE.mono (Gx4 hr ha hb hs) (Gpk hd)
noncomputable def UnD(K:PySem.W.Frag)(r:V->Hp->VK->Prop)(o:D->Sto->Out D):Prop:=
 ∀ (XQ:XW) (σ:L2.St) (ρ:Lc) (mp:List Addr) (H:Hp) (S:Sto) (x:D) (v:V) (Q:VK),RS K mp H S->Rep K mp H x v->Post K XQ σ ρ mp H (o x S) Q->r v H Q
noncomputable def o1(o:D->Sto->Out D)(fa:Ev D):Ev D:=fun ρ S=>(fa ρ S).bind fun x S1=>o x S1
theorem Gyf{a:Expr}{fa:Ev D}{op:UnaryOp}{r:V->Hp->VK->Prop}{o:D->Sto->Out D}{pos:Pos}(ho:UnR X (unaryOp op) r)(hd:UnD X.K r o)(ha:JE X XQ a fa):JE X XQ (.UnaryOp op a pos) (o1 o fa):=by
 refine PE.mono (Gxy ho ha) fun σ H Q zq0=>?_
 obtain⟨mp,ρ,S,G,p⟩:=zq0
 exact bindP G p fun mp1 H1 x S1 v a1 G1 r1 p1=>hd XQ σ ρ mp1 H1 S1 x v Q G1.rs r1 p1
noncomputable def tp(f:Ev (List D)):Ev D:=fun ρ S=>(f ρ S).bind fun xs S1=>if xs.length<=1000000 then .ok (.tup xs) S1 else .bad
noncomputable def ls(f:Ev (List D)):Ev D:=fun ρ S=>(f ρ S).bind fun xs S1=>if xs.length<=1000000 then .ok (.lst S1.length) (S1++[⟨false,xs⟩]) else .bad
theorem line_le{n:Nat}(h:n<=1000000):n<=sizeLine:=Ao h (by decide)
theorem Ve{K:PySem.W.Frag}{σ:L2.St}{ρ:Lc}{mp:List Addr}{H:Hp}{S:Sto}{ds:List D}{vs:List V}{Q:VK}{p:Addr}(po:Post K XQ σ ρ mp H (.ok (.tup ds) S) Q)(r:RS K mp H S)(q:RepL K mp H ds vs)(h:H p=none):Q (.ref p) (upd H p (.tup vs)):=by
 have af:Aft K mp H mp (upd H p (.tup vs)):=Qq h
 exact po mp _ _ af (r.new h) ⟨p,vs,rfl,SqT.of Hd,RepL.aft af _ _ q⟩
theorem Vf{K:PySem.W.Frag}{σ:L2.St}{ρ:Lc}{mp:List Addr}{H:Hp}{S:Sto}{ds:List D}{vs:List V}{Q:VK}{p:Addr}(po:Post K XQ σ ρ mp H (.ok (.lst S.length) (S++[⟨false,ds⟩])) Q)(r:RS K mp H S)(q:RepL K mp H ds vs)(h:H p=none):Q (.ref p) (upd H p (.lst vs)):=by
 obtain⟨af,rs,e⟩:=r.newL h q
 exact po _ _ _ af rs ⟨p,rfl,e,nd_lst Hd⟩
noncomputable def Wm:D->Sto->Option Bool
 | .non,_=>some false
 | .bl b,_=>some b
 | .int i,_=>some (i != 0)
 | .str y,_=>if y.length<=1000000 then some ((y.length:Int) != 0) else none
 | .tup l,_=>some (!l.isEmpty)
 | .lst i,S=>match S[i]? with
  | some c=>some (!c.xs.isEmpty)
  | none=>none
 | .exn _ _,_=>none
 | .fv _,_=>none
 | .dct _,_=>none
noncomputable def tt(f:Ev D):Ev Bool:=fun ρ S=>(f ρ S).bind fun x S1=>match Wm x S1 with
 | some b=>.ok b S1
 | none=>.bad
theorem RepL.empty{K:PySem.W.Frag}{mp:List Addr}{H:Hp}{l:List D}{vs:List V}(h:RepL K mp H l vs):(!l.isEmpty)=!vs.isEmpty:=by
 have e:=h.len
 cases l<;>cases vs<;>simp_all
theorem Gpl{K:PySem.W.Frag}{mp:List Addr}{H:Hp}{S:Sto}{x:D}{v:V}{b:Bool}(r:RS K mp H S)(h:Rep K mp H x v)(e:Wm x S=some b):Gt8 K v H b:=by
 cases x with
 | non=>cases (show v=.non from h); exact(Ac e).symm
 | bl c=>cases (show v=.bl c from h); exact(Ac e).symm
 | int i=>cases (show v=.int i from h); exact(Ac e).symm
 | str y=>
  cases (show v=.str y from h)
  have e:(if y.length<=1000000 then some ((y.length:Int) != 0) else none)=some b:=e
  by_cases hl:y.length<=1000000
  ·rw[if_pos hl] at e; exact⟨line_le hl,(Ac e).symm⟩
  ·rw[if_neg hl] at e; cases e
 | tup l=>
  obtain⟨a,xs,rfl,s,q⟩:=Rep.tup h
  exact .inr (.inl ⟨xs,s,by rw[<- q.empty]; exact(Ac e).symm⟩)
 | lst i=>
  have e:(match S[i]? with | some c=>some (!c.xs.isEmpty) | none=>none)=some b:=e
  cases z:S[i]? with
  | none=>rw[z] at e; cases e
  | some c=>
   rw[z] at e
   obtain⟨a,xs,rfl,_,s,q,_⟩:=r.items h z
   exact .inl ⟨xs,s,by rw[<- q.empty]; exact(Ac e).symm⟩
 | exn c n=>cases (show(none:Option Bool)=some b from e)
 | fv c=>cases (show(none:Option Bool)=some b from e)
 | dct c=>cases (show(none:Option Bool)=some b from e)
noncomputable def tb(f:Ev D):Ev Bool:=fun ρ S=>(f ρ S).bind fun x S1=>match x with
 | .bl b=>.ok b S1
 | _=>.bad
theorem Gmh{K:PySem.W.Frag}{f:Ev D}{σ:L2.St}{H:Hp}{Q:Bool->Hp->Prop}(h:rdT K XQ (tb f) σ H Q):rdE K XQ f σ H fun x H1=>∃ k,x=.bl k/\Q k H1:=by
 obtain⟨mp,ρ,S,G,p⟩:=h
 refine bindP G p fun mp1 H1 x S1 v a1 G1 r1 p1=>?_
 cases x with
 | bl b=>exact⟨b,r1,Gi.ok p1 G1.rs rfl⟩
 | _=>exact p1.elim
theorem Gb0{a b:Expr}{fa fb:Ev D}{op:CmpOp}{r:R2}{o:D->D->Sto->Out D}{pos:Pos}(ho:OpR X (compareOp op) r)(hd:OpD X.K r o)(ha:JE X XQ a fa)(hb:JE X XQ b fb)(hm:behindInMarks op b=false):JT X XQ (.Compare a [op] [b] pos) (tb (o2 o fa fb)):=
 PT.mono (Go9 ho ha hb hm) fun σ H Q h=>Gpk hd σ H _ (Gmh h)
noncomputable def tn(f:Ev Bool):Ev Bool:=fun ρ S=>(f ρ S).bind fun b S1=>.ok (!b) S1
noncomputable def ta(f g:Ev Bool):Ev Bool:=fun ρ S=>(f ρ S).bind fun b S1=>if b=true then g ρ S1 else .ok false S1
noncomputable def to(f g:Ev Bool):Ev Bool:=fun ρ S=>(f ρ S).bind fun b S1=>if b=true then .ok true S1 else g ρ S1
theorem JW.jt{e:Expr}{f:Ev Bool}(h:JW X XQ e f):JT X XQ e f:=PW.pt h
noncomputable def va(f g:Ev D):Ev D:=fun ρ S=>(f ρ S).bind fun x S1=>match x with
 | .bl b=>if b=true then g ρ S1 else .ok (.bl false) S1
 | _=>.bad
noncomputable def vo(f g:Ev D):Ev D:=fun ρ S=>(f ρ S).bind fun x S1=>match x with
 | .bl b=>if b=true then .ok (.bl true) S1 else g ρ S1
 | _=>.bad
noncomputable def vn(f:Ev D):Ev D:=fun ρ S=>(f ρ S).bind fun x S1=>match x with
 | .bl b=>.ok (.bl (!b)) S1
 | _=>.bad
noncomputable def ie(c:Ev Bool)(f g:Ev D):Ev D:=fun ρ S=>(c ρ S).bind fun b S1=>if b=true then f ρ S1 else g ρ S1
end
inductive OS where
 | nx (ρ:Lc) (S:Sto) | rt (d:D) (S:Sto) | bk (ρ:Lc) (S:Sto) | ct (ρ:Lc) (S:Sto) | exc (x:XD) (ρ:Lc) (S:Sto) | bad
noncomputable abbrev Sv:=Lc->Sto->OS
noncomputable def PostS(K:PySem.W.Frag)(XQ:XW)(mp:List Addr)(H:Hp)(o:OS)(E:Ends):Prop:=
 match o with
 | .nx ρ S=>∀ mp' H' σ',Aft K mp H mp' H'->Gd K mp' H' σ' ρ S->E.nx σ' H'
 | .rt d S=>∀ mp' H' v,Aft K mp H mp' H'->RS K mp' H' S->Rep K mp' H' d v->E.rt v H'
 | .bk ρ S=>∀ mp' H' σ',Aft K mp H mp' H'->Gd K mp' H' σ' ρ S->E.bk σ' H'
 | .ct ρ S=>∀ mp' H' σ',Aft K mp H mp' H'->Gd K mp' H' σ' ρ S->E.ct σ' H'
 | .exc x ρ S=>∀ mp' H' σ',Aft K mp H mp' H'->Gd K mp' H' σ' ρ S->XQ x mp' H' σ' ρ S
 | .bad=>False
theorem PostS.aft{K:PySem.W.Frag}{XQ:XW}{mp mp':List Addr}{H H':Hp}{o:OS}{E:Ends}(p:PostS K XQ mp H o E)(a:Aft K mp H mp' H'):PostS K XQ mp' H' o E:=by
 cases o with
 | nx ρ S=>exact fun m h v b=>p m h v (a.trans b)
 | rt d S=>exact fun m h v b=>p m h v (a.trans b)
 | bk ρ S=>exact fun m h v b=>p m h v (a.trans b)
 | ct ρ S=>exact fun m h v b=>p m h v (a.trans b)
 | exc x ρ S=>exact fun m h v b=>p m h v (a.trans b)
 | bad=>exact p
noncomputable def rdS(K:PySem.W.Frag)(XQ:XW)(f:Sv):TS:=fun E σ H=>∃ mp ρ S,Gd K mp H σ ρ S/\PostS K XQ mp H (f ρ S) E
noncomputable def JS(X:Cx)(XQ:XW)(st:Stmt)(f:Sv):Prop:=PS X st (rdS X.K XQ f)
noncomputable def JSs(X:Cx)(XQ:XW)(st:List Stmt)(f:Sv):Prop:=PSs X st (rdS X.K XQ f)
noncomputable def bindS{α:Type}(o:Out α)(ρ:Lc)(k:α->Sto->OS):OS:=
 match o with
 | .ok a S=>k a S
 | .exc x S=>.exc x ρ S
 | .bad=>.bad
theorem bindSP{α β:Type}{K:PySem.W.Frag}{R:RL α β}{XQ:XW}{mp:List Addr}{H:Hp}{σ:L2.St}{ρ:Lc}{S:Sto}{f:Ev α}{g:α->Sto->OS}{E:Ends}{Q1:β->Hp->Prop}(G:Gd K mp H σ ρ S)(p:PostS K XQ mp H (bindS (f ρ S) ρ g) E)
  (k:∀ mp1 H1 d S1 v,Aft K mp H mp1 H1->Gd K mp1 H1 σ ρ S1->R mp1 H1 d v->PostS K XQ mp1 H1 (g d S1) E->Q1 v H1):rdG K R XQ f σ H Q1:=by
 refine⟨mp,ρ,S,G,?_⟩
 cases e:f ρ S with
 | ok d S1=>
  rw[e] at p
  exact fun mp1 H1 v a rs r=>k mp1 H1 d S1 v a (G.aft a rs) r (PostS.aft p a)
 | exc x S1=>rw[e] at p; exact fun m h b c=>p m h σ b c
 | bad=>rw[e] at p; exact p
noncomputable def skip:Sv:=fun ρ S=>.nx ρ S
noncomputable def sq(f g:Sv):Sv:=fun ρ S=>match f ρ S with
 | .nx ρ' S'=>g ρ' S'
 | .rt d S'=>.rt d S'
 | .bk ρ' S'=>.bk ρ' S'
 | .ct ρ' S'=>.ct ρ' S'
 | .exc x ρ' S'=>.exc x ρ' S'
 | .bad=>.bad
section
variable{X:Cx}{XQ:XW}
theorem PostS.nx{K:PySem.W.Frag}{mp:List Addr}{H:Hp}{σ:L2.St}{ρ:Lc}{S:Sto}{E:Ends}(p:PostS K XQ mp H (.nx ρ S) E)(G:Gd K mp H σ ρ S):E.nx σ H:=p mp H σ .refl G
theorem PostS.rt{K:PySem.W.Frag}{mp:List Addr}{H:Hp}{d:D}{v:V}{S:Sto}{E:Ends}(p:PostS K XQ mp H (.rt d S) E)(r:RS K mp H S)(h:Rep K mp H d v):E.rt v H:=p mp H v .refl r h
noncomputable def sct:Sv:=fun ρ S=>.ct ρ S
noncomputable def sx(f:Ev D):Sv:=fun ρ S=>bindS (f ρ S) ρ fun _ S1=>.nx ρ S1
noncomputable def sret(f:Ev D):Sv:=fun ρ S=>bindS (f ρ S) ρ fun d S1=>.rt d S1
noncomputable def sif(c:Ev Bool)(f g:Sv):Sv:=fun ρ S=>bindS (c ρ S) ρ fun b S1=>if b=true then f ρ S1 else g ρ S1
theorem Gd.set{K:PySem.W.Frag}{mp:List Addr}{H:Hp}{σ:L2.St}{ρ:Lc}{S:Sto}{d:D}{v:V}(G:Gd K mp H σ ρ S)(i:Nat)(r:Rep K mp H d v):Gd K mp H (σ.set i (some v)) (ρ.set i (some d)) S:=by
 refine⟨G.rs,by simp[G.len],fun j e h=>?_⟩
 by_cases hj:j=i
 ·subst hj
  have hl:j<ρ.length:=by
   have:=(Ab.mp h).1
   simpa using this
  rw[Av hl] at h
  cases h
  exact⟨v,by rw[Av (by rw[G.len]; exact hl)],r⟩
 ·rw[Am (Ne.symm hj)] at h ⊢
  exact G.loc j e h
noncomputable abbrev Tg:=D->Lc->Option Lc
noncomputable def Gk3(K:PySem.W.Frag)(g:Tg):TG:=fun v σ H Q=>∃ mp ρ S d ρ',Gd K mp H σ ρ S/\Rep K mp H d v/\g d ρ=some ρ'/\∀ σ',Gd K mp H σ' ρ' S->Q σ' H
noncomputable def JG(X:Cx)(tg:Expr)(g:Tg):Prop:=PG X tg (Gk3 X.K g)
theorem PG.mono{X:Cx}{e:Expr}{t t':TG}(h:PG X e t)(m:∀ v σ H Q,t' v σ H Q->t v σ H Q):PG X e t':=fun pins s σ H v u Q I r q=>h pins s σ H v u Q I r (m v σ H Q q)
noncomputable def gn(i:Nat):Tg:=fun d ρ=>some (ρ.set i (some d))
theorem Get(i:Nat){x:Str}{pos:Pos}(hN:X.N.Nodup)(hi:X.N[i]?=some x:=by rfl)(hx:Loc X.env.scope x:=by first | exact Or.inl rfl | exact Or.inr rfl)(hf:X.fn x=true\/X.env.scope.names.lookup x=some .local:=by first | exact .inl rfl | exact .inr rfl | assumption):JG X (.Name x pos) (gn i):=
 PG.mono (Go5 hN hi hx hf) fun v σ H Q ⟨mp,ρ,S,d,ρ',G,r,e,k⟩=>by
  cases (Ac e)
  exact k _ (G.set i r)
noncomputable abbrev Tgs:=List D->Lc->Option Lc
noncomputable def Has(K:PySem.W.Frag)(g:Tgs):TGs:=fun vs σ H Q=>∃ mp ρ S ds ρ',Gd K mp H σ ρ S/\RepL K mp H ds vs/\g ds ρ=some ρ'/\∀ σ',Gd K mp H σ' ρ' S->Q σ' H
noncomputable def JGs(X:Cx)(ts:List Expr)(g:Tgs):Prop:=PGs X ts (Has X.K g)
theorem PGs.mono{X:Cx}{e:List Expr}{t t':TGs}(h:PGs X e t)(m:∀ v σ H Q,t' v σ H Q->t v σ H Q):PGs X e t':=fun pins s σ H v u Q I r q=>h pins s σ H v u Q I r (m v σ H Q q)
noncomputable def gnil:Tgs:=fun ds ρ=>match ds with
 | []=>some ρ
 | _::_=>none
noncomputable def gcons(g:Tg)(k:Tgs):Tgs:=fun ds ρ=>match ds with
 | []=>none
 | d::r=>(g d ρ).bind fun ρ'=>k r ρ'
noncomputable def gt(k:Tgs)(n:Nat):Tg:=fun d ρ=>match d with
 | .tup ds=>if ds.length=n then k ds ρ else none
 | _=>none
noncomputable def sa(f:Ev D)(g:Tg):Sv:=fun ρ S=>bindS (f ρ S) ρ fun d S1=>match g d ρ with
 | some ρ'=>.nx ρ' S1
 | none=>.bad
theorem Hat{K:PySem.W.Frag}{f:Ev D}{g:Tg}(E:Ends)(σ:L2.St)(H:Hp)(h:rdS K XQ (sa f g) E σ H):Go7 (rdE K XQ f) (Gk3 K g) E σ H:=by
 obtain⟨mp,ρ,S,G,p⟩:=h
 refine bindSP G p fun mp1 H1 d S1 v a1 G1 r1 p1=>?_
 cases z:g d ρ with
 | none=>rw[z] at p1; exact p1.elim
 | some ρ'=>
  rw[z] at p1
  exact⟨mp1,ρ,S1,d,ρ',G1,r1,z,fun σ' G'=>PostS.nx p1 G'⟩
theorem Gum(i:Nat){x:Str}{e:Expr}{f:Ev D}{pos pos':Pos}(hN:X.N.Nodup)(he:JE X XQ e f)(hi:X.N[i]?=some x:=by rfl)(hx:Loc X.env.scope x:=by first | exact Or.inl rfl | exact Or.inr rfl)(hs:swapsWith e (some (.Name x pos')) pos.line X.env=pure false:=by rfl)
  (hf:X.fn x=true\/X.env.scope.names.lookup x=some .local:=by first | exact .inl rfl | exact .inr rfl | assumption):JS X XQ (.Assign [.Name x pos'] e pos) (sa f (gn i)):=
 PS.mono (Gtu hN hi hx he hs hf) fun E σ H ⟨mp,ρ,S,G,p⟩=>bindSP G p fun mp1 H1 d S1 v a1 G1 r1 p1=>PostS.nx p1 (G1.set i r1)
noncomputable def Gun(t:Gku)(K:PySem.W.Frag)(o:D->D->D->Sto->Option Sto):Prop:=
 ∀ (mp:List Addr) (H:Hp) (S S':Sto) (x y z:D) (v u w:V) (Q:Hp->Prop),RS K mp H S->Rep K mp H x v->Rep K mp H y u->Rep K mp H z w->o x y z S=some S'->(∀ H',Aft K mp H mp H'->RS K mp H' S'->Q H')->t v u w H Q
noncomputable def ss(f fo fi:Ev D)(o:D->D->D->Sto->Option Sto):Sv:=fun ρ S=>bindS (f ρ S) ρ fun d S1=>bindS (fo ρ S1) ρ fun x S2=>bindS (fi ρ S2) ρ fun y S3=>match o x y d S3 with
 | some S4=>.nx ρ S4
 | none=>.bad
theorem Gmi{ob ix e:Expr}{f fo fi:Ev D}{t:Gku}{o:D->D->D->Sto->Option Sto}{pos p2:Pos}(hset:Go4 X t)(ho:Gun t X.K o)(he:JE X XQ e f)(hob:JE X XQ ob fo)(hix:JE X XQ ix fi)
  (hs:swapsWithSole [.Subscript ob ix p2] e pos.line X.env=pure false:=by rfl) (hw:swappedStores [.Subscript ob ix p2] e X.env=pure none:=by rfl)
  (h1:(assignEach [.Subscript ob ix p2] X.env).map (·.2)=[assign (.Subscript ob ix p2) X.env]:=by rfl) (ha:∀ v,assign (.Subscript ob ix p2) X.env v=(do
   let ov <- holding [v] (eval ob X.env)
   let iv <- holding [v,ov] (eval ix X.env)
   standAt p2
   holding [v,ov,iv] (setItem ov iv v)
   release [v,ov,iv] []):=by intro _; rfl):JS X XQ (.Assign [.Subscript ob ix p2] e pos) (ss f fo fi o):=by
 refine PS.mono (Gly he (Gtt hob hix hset ha) hs hw h1) fun E σ H zq0=>?_
 obtain⟨mp,ρ,S,G,p⟩:=zq0
 refine bindSP G p fun mp1 H1 d S1 v a1 G1 r1 p1=>?_
 refine bindSP G1 p1 fun mp2 H2 x S2 vx a2 G2 r2 p2=>?_
 refine bindSP G2 p2 fun mp3 H3 y S3 vy a3 G3 r3 p3=>?_
 cases z:o x y d S3 with
 | none=>rw[z] at p3; exact p3.elim
 | some S4=>
  rw[z] at p3
  exact ho mp3 H3 S3 S4 x y d vx vy v _ G3.rs (Rep.aft a3 _ _ r2) r3 (Rep.aft (a2.trans a3) _ _ r1) z fun H' af rs=>p3 mp3 H' σ af (G3.aft af rs)
structure Src where
 nxt:Nat->Sto->Option D
 fuel:Nat
noncomputable def Gmj(K:PySem.W.Frag)(mp0:List Addr)(H0:Hp)(J:It)(nxt:Nat->Sto->Option D):Prop:=
 ∀ (mp:List Addr) (H:Hp) (S:Sto),Aft K mp0 H0 mp H->RS K mp H S->∀ k,match nxt k S with
  | some d=>J.go k H/\∀ x H',J.yld k H x H'->Aft K mp H mp H'/\RS K mp H' S/\Rep K mp H' d x
  | none=>J.stop k H
noncomputable def kI(K:PySem.W.Frag):RL Src It:=fun mp H s J=>Gmj K mp H J s.nxt
noncomputable abbrev rdI(K:PySem.W.Frag)(XQ:XW)(f:Ev Src):TI:=rdG K (kI K) XQ f
noncomputable def JI(X:Cx)(XQ:XW)(tg iter:Expr)(f:Ev Src):Prop:=PI X tg iter (rdI X.K XQ f)
theorem PI.mono{X:Cx}{tg e:Expr}{t t':TI}(h:PI X tg e t)(m:∀ σ H Q,t' σ H Q->t σ H Q):PI X tg e t':=fun pins s σ H Q I q=>h pins s σ H Q I (m σ H Q q)
noncomputable def Ki(nxt:Nat->Sto->Option D)(g:Tg)(b:Sv):Nat->Nat->Sv
 | 0,_,_,_=>.bad
 | n+1,k,ρ,S=>match nxt k S with
  | none=>.nx ρ S
  | some d=>match g d ρ with
   | none=>.bad
   | some ρ1=>match b ρ1 S with
    | .nx ρ2 S2=>Ki nxt g b n (k+1) ρ2 S2
    | .ct ρ2 S2=>Ki nxt g b n (k+1) ρ2 S2
    | .bk ρ2 S2=>.nx ρ2 S2
    | .rt d S2=>.rt d S2
    | .exc x ρ2 S2=>.exc x ρ2 S2
    | .bad=>.bad
noncomputable def sfor(f:Ev Src)(g:Tg)(b:Sv):Sv:=fun ρ S=>bindS (f ρ S) ρ fun s S1=>Ki s.nxt g b s.fuel 0 ρ S1
noncomputable def Gd3:D->Sto->Out Src
 | .tup l,S=>.ok ⟨fun k _=>l[k]?,l.length+1⟩ S
 | .lst i,S=>match S[i]? with
  | some c=>.ok ⟨fun k S=>(S[i]?).bind fun c=>c.xs[k]?,c.xs.length+1⟩ S
  | none=>.bad
 | _,_=>.bad
end
section
variable{X:Cx}{XQ:XW}
noncomputable def Hau(K:PySem.W.Frag)(tl:TE):TI:=fun σ H R=>tl σ H fun x H1=>∃ a,x=.ref a/\(((∃ xs,SqL K H1 a xs)/\R (Itl K a) H1)\/((∃ xs,SqT K H1 a xs)/\R (Itt K a) H1))
theorem Guo{tg l:Expr}{tl:TE}(hl:PE X l tl):PI X tg l (Hau X.K tl):=by
 intro pins s σ H R I h
 refine thn (hl pins s σ H _ I h) fun v s1 zq0=>?_
 obtain⟨x,H1,I1,r1,q1⟩:=zq0
 obtain⟨a,e,q⟩:=q1
 subst e
 cases r1
 rcases q with⟨⟨xs,hq⟩,q⟩ | ⟨⟨xs,hq⟩,q⟩
 ·obtain⟨its,rv,p,hz⟩:=I1.list hq
  refine wpAny_pyIter_list p.isList ?_
  refine⟨s1.heap.objs.size,[s1.heap.objs.size],_,_,H1,rfl,I1.kept (t':=s1.toks) fun b o e=>Ah _ e,turn_list a _,⟨_,AA _ rfl,rfl,rfl⟩,fun b hb=>?_,q⟩
  have e:b=s1.heap.objs.size:=by simpa using hb
  subst e
  exact I1.fpOk (Aa _) (I1.hok.fresh (Aa _))
 ·obtain⟨its,rv,p,hz⟩:=I1.tuple hq
  refine wpAny_pyIter_tuple (show s1.heap.IsTuple a its.toArray from p) ?_
  refine⟨s1.heap.objs.size,[s1.heap.objs.size],_,_,H1,rfl,I1.kept (t':=s1.toks) fun b o e=>Ah _ e,turn_tuple a _,⟨_,AA _ rfl,rfl,rfl⟩,fun b hb=>?_,q⟩
  have e:b=s1.heap.objs.size:=by simpa using hb
  subst e
  exact I1.fpOk (Aa _) (I1.hok.fresh (Aa _))
noncomputable def isrc(f:Ev D):Ev Src:=fun ρ S=>(f ρ S).bind Gd3
theorem Gup{K:PySem.W.Frag}{mp:List Addr}{H:Hp}{a:Addr}{xs:List V}{l:List D}(s:SqT K H a xs)(r:RepL K mp H l xs):Gmj K mp H (Itt K a) (fun k _=>l[k]?):=by
 intro mp' H' S' af rs k
 show match l[k]? with
  | some d=>(Itt K a).go k H'/\∀ x H2,(Itt K a).yld k H' x H2->Aft K mp' H' mp' H2/\RS K mp' H2 S'/\Rep K mp' H2 d x
  | none=>(Itt K a).stop k H'
 cases z:l[k]? with
 | none=>
  refine⟨xs,af.tup _ _ s,?_⟩
  rw[r.len]
  exact Bj.mp z
 | some d=>
  have r':=RepL.aft af _ _ r
  obtain⟨v,e,q⟩:=r'.get z
  refine⟨⟨xs,v,af.tup _ _ s,e⟩,fun x H2 zq0=>?_⟩
  obtain⟨h1,h2⟩:=zq0
  subst h1
  have e2:=h2 xs (af.tup _ _ s)
  rw[e] at e2
  cases e2
  exact⟨.refl,rs,q⟩
theorem Guq{K:PySem.W.Frag}{mp:List Addr}{H:Hp}{a:Addr}{i:Nat}(hi:mp[i]?=some a)(nd:¬ Dcy H a):Gmj K mp H (Itl K a) (fun k S=>(S[i]?).bind fun c=>c.xs[k]?):=by
 intro mp' H' S' af rs k
 have hi':=af.pre i a hi
 have hl:i<S'.length:=by rw[<- rs.len]; exact(Ab.mp hi').1
 have hc:S'[i]?=some S'[i]:=Ag hl
 obtain⟨a2,xs,e1,e2,sq,r,_⟩:=rs.items (v:=.ref a) ⟨a,rfl,hi',af.ndc i a hi nd⟩ hc
 cases e1
 simp only[hc,AQ]
 cases z:(S'[i]).xs[k]? with
 | none=>
  refine⟨xs,sq,?_⟩
  rw[r.len]
  exact Bj.mp z
 | some d=>
  obtain⟨v,e,q⟩:=r.get z
  refine⟨⟨xs,v,sq,e⟩,fun x H2 zq0=>?_⟩
  obtain⟨h1,h2⟩:=zq0
  subst h1
  have e2:=h2 xs sq
  rw[e] at e2
  cases e2
  exact⟨.refl,rs,q⟩
noncomputable def rsrc(lo:Int)(n:Nat):Src:=⟨fun k _=>if k<n then some (.int (lo+k)) else none,n+1⟩
theorem Gur{K:PySem.W.Frag}{mp:List Addr}{H:Hp}{lo:Int}{n:Nat}:Gmj K mp H (Itr lo n) (rsrc lo n).nxt:=by
 intro mp' H' S' af rs k
 show match (if k<n then some (D.int (lo+k)) else none) with
  | some d=>(Itr lo n).go k H'/\∀ x H2,(Itr lo n).yld k H' x H2->Aft K mp' H' mp' H2/\RS K mp' H2 S'/\Rep K mp' H2 d x
  | none=>(Itr lo n).stop k H'
 by_cases h:k<n
 ·rw[if_pos h]
  refine⟨h,fun x H2 zq0=>?_⟩
  obtain⟨h1,h2⟩:=zq0
  subst h1 h2
  exact⟨.refl,rs,rfl⟩
 ·rw[if_neg h]
  exact Nat.not_lt.mp h
noncomputable def ir1(f:Ev (List D)):Ev Src:=fun ρ S=>(f ρ S).bind fun ds S1=>match ds with
 | [.int j]=>if -1000000000000<=j/\j<=1000000000000 then .ok (rsrc 0 j.toNat) S1 else .bad
 | _=>.bad
theorem RepL.one{K:PySem.W.Frag}{mp:List Addr}{H:Hp}{d:D}{vs:List V}(h:RepL K mp H [d] vs):∃ v,vs=[v]/\Rep K mp H d v:=by
 obtain⟨v,r,rfl,h1,h2⟩:=h
 cases (show r=[] from h2)
 exact⟨v,rfl,h1⟩
theorem RepL.two{K:PySem.W.Frag}{mp:List Addr}{H:Hp}{d e:D}{vs:List V}(h:RepL K mp H [d,e] vs):∃ v w,vs=[v,w]/\Rep K mp H d v/\Rep K mp H e w:=by
 obtain⟨v,r,rfl,h1,h2⟩:=h
 obtain⟨w,rfl,h3⟩:=RepL.one h2
 exact⟨v,w,rfl,h1,h3⟩
noncomputable def whN(c:Ev Bool)(b:Sv):Nat->Sv
 | 0,_,_=>.bad
 | n+1,ρ,S=>bindS (c ρ S) ρ fun t S1=>if t=true then(match b ρ S1 with
    | .nx ρ2 S2=>whN c b n ρ2 S2
    | .ct ρ2 S2=>whN c b n ρ2 S2
    | .bk ρ2 S2=>.nx ρ2 S2
    | .rt d S2=>.rt d S2
    | .exc x ρ2 S2=>.exc x ρ2 S2
    | .bad=>.bad) else .nx ρ S1
end
noncomputable abbrev Fn:=List D->Sto->Out D
noncomputable def Gsl(K:PySem.W.Frag)(mp:List Addr)(H:Hp)(o:Out D)(Q:VK):Prop:=
 match o with
 | .ok d S=>∀ mp' H' v,Aft K mp H mp' H'->RS K mp' H' S->Rep K mp' H' d v->Q v H'
 | _=>False
noncomputable def spD(K:PySem.W.Frag)(n:Nat)(fn:Fn):Sp:=fun vs H Q _=>∃ mp ds S,RS K mp H S/\RepL K mp H ds vs/\ds.length=n/\Gsl K mp H (fn ds S) Q
noncomputable def fnB(m:Nat)(b:Sv):Fn:=fun ds S=>match b (ds.map some++List.replicate (m-ds.length) none) S with
 | .rt d S'=>.ok d S'
 | .nx _ S'=>.ok .non S'
 | .exc x _ S'=>.exc x S'
 | _=>.bad
theorem Gb1{K:PySem.W.Frag}{mp:List Addr}{H:Hp}{S:Sto}{N:List Str}{ds:List D}{vs:List V}(r:RS K mp H S)(h:RepL K mp H ds vs):Gd K mp H (start N vs) (ds.map some++List.replicate (N.length-ds.length) none) S:=by
 have hl:=h.len
 refine⟨r,by simp[L2.start,hl],fun i d e=>?_⟩
 by_cases hi:i<ds.length
 ·rw[Ar (by simpa using hi),Aw] at e
  cases z:ds[i]? with
  | none=>rw[z] at e; cases e
  | some d'=>
   rw[z] at e
   cases e
   obtain⟨v,e1,q⟩:=h.get z
   refine⟨v,?_,q⟩
   unfold L2.start
   rw[Ar (by simp[hl]; exact hi),Aw,e1]
   rfl
 ·rw[AW (by simpa using hi),List.getElem?_replicate] at e
  split at e
  ·cases e
  ·cases e
theorem Gsm{P:Program}{w:World}{K:PySem.W.Frag}{mg:Str->Option Value}{base:Heap}{x qual:Str}{st:Stmt}{f:Addr}{fd:FuncData}{N ps:List Str}{k:Nat}{b:Sv}(F:Fun K x qual st f fd)(Sc:FnScope N ps (Gb st))(hb:∀ (cdv:Value) (A:Around) (outer:List PySem.Env) (s:Shared) (H:Hp) (E:XK),Room k (A.deeper (envOfC qual (Gb st) s.heap.objs.size f cdv))→
   JSs (Ku CX0 P w K mg base N qual (Gb st) f cdv A outer s H E).nox (fun _ _ _ _ _ _=>False) (Gv st) b):FnOk P w K mg base CX0 (k+1) f fd ps (spD K ps.length (fnB N.length b)):=by
 refine F.ok Sc (fun vs H Q E ⟨mp,ds,S,rs,r,hl,_⟩=>by rw[r.len]; exact hl) fun cdv A outer s H vs Q E hr ⟨mp,ds,S,rs,r,hl,p⟩=>?_
 refine⟨_,hb cdv A outer s H E hr,mp,_,S,Gb1 rs r,?_⟩
 unfold fnB at p
 show PostS K _ mp H (b (ds.map some++List.replicate (N.length-ds.length) none) S) _
 cases z:b (ds.map some++List.replicate (N.length-ds.length) none) S with
 | rt d S'=>rw[z] at p; exact p
 | nx ρ' S'=>rw[z] at p; exact fun m h v af G=>p m h .non af G.rs rfl
 | bk ρ' S'=>rw[z] at p; exact p.elim
 | ct ρ' S'=>rw[z] at p; exact p.elim
 | exc x ρ' S'=>rw[z] at p; exact p.elim
 | bad=>rw[z] at p; exact p.elim
section
variable{X:Cx}{XQ:XW}{k:Nat}{f:Addr}{fd:FuncData}{ps:List Str}{fn:Fn}{x:Str}{p pos:Pos}{e:Expr}{es:List Expr}{t:Ev (List D)}
noncomputable def cl(n:Nat)(fn:Fn)(t:Ev (List D)):Ev D:=fun ρ S=>(t ρ S).bind fun ds S1=>if ds.length=n then fn ds S1 else .bad
noncomputable def Go(fn:Fn):Fn:=fun ds S=>match fn ds S with
 | .ok d S'=>.ok d S'
 | _=>.bad
theorem Gpm{j:Nat}(F:FnOk X.prog X.w X.K X.mg X.base CX0 j f fd ps (spD X.K ps.length fn))(hr:Room k X.A)(hj:j<=k)(hg:Gl X x)(hm:X.mg x=some (.ref f))(hk:PySem.W.keepIn X.K (.ref f)=true)(hb:Binds X.K fd ps [])
  (ha:JA X XQ (e::es) t) (hdb:(x==("__debug__":Str))=false:=by decide) (he:starEach (e::es) X.env=(false,eval e X.env)::starEach es X.env:=by rfl) (hpl:(backTo pos (starEach es X.env)).any (·.1)=false:=by rfl):
  JE X XQ (.Call (.Name x p) (e::es) [] pos) (cl ps.length (Go fn) t):=by
 refine PE.mono (Gpa (F.mono hj) hr hg hm hk hb .nil (Gyb) ha hdb he hpl) fun σ H Q zq0=>?_
 obtain⟨mp,ρ,S,G,p⟩:=zq0
 refine bindP G p fun mp1 H1 ds S1 vs a1 G1 r1 p1=>?_
 by_cases hl:ds.length=ps.length
 ·rw[if_pos hl] at p1
  refine⟨mp1,ds,S1,G1.rs,by rw[A4]; exact r1,hl,?_⟩
  unfold Go at p1
  cases z:fn ds S1 with
  | ok d S'=>rw[z] at p1; exact p1
  | exc x S'=>rw[z] at p1; exact p1.elim
  | bad=>rw[z] at p1; exact p1.elim
 ·rw[if_neg hl] at p1; exact p1.elim
end
section
variable{prog:Program}{w:World}{A:Around}{R:Result->Shared->Prop}{s:Shared}
structure CK(ex tg iter:Expr)(ifs:List Expr)(scope:Scope)(T:String)(dat:Data)(bd:Addr->PySem.Env->Sem Unit):Prop where
 den:∀ (prog:Program) (w:World) (A:Around) (it:Value) (D:Addr) (env:PySem.Env),A.under (.compLoop ex 0 it (.ref D) env)=A/\(model prog w).den (.compLoop ex 0 it (.ref D) env)=(compTurn ex 0 it (.ref D) env).onRaise fun x=>do noteFrame x env; theTreesLotGoes x
 turn:∀ (it:Value) (D:Addr) (env:PySem.Env),compTurn ex 0 it (.ref D) env=(do
   standAt iter.pos
   match <- pyNext it with
   | none=>pure (.done .next)
   | some v=>
    letOwnedTupleGo tg it v
    assign tg env v
    let mut ok:=true
    for c in ifs do
     if ok then ok <- isTrue c env (eval c env)
    if ok then
     bd D env
    again (.compLoop ex 0 it (.ref D) env))
 start:∀ {prog:Program} {w:World} {A:Around} {R:Result->Shared->Prop} {s:Shared} {it acc:Value} {env:PySem.Env},codeAny (model prog w) A (.compLoop ex 0 it acc env) R s→
  wpAny (model prog w) A (pyIter it) (fun it' s'=>codeAny (model prog w) A (.compLoop ex 0 it' acc env) R s') (notedBy (model prog w) A env fun x s'=>R (.error x) s') s->codeAny (model prog w) A (.compStart ex 0 it acc env) R s
 fit:sizeOk dat
 fre:({ cls:=.type T,dict:=none,data:=dat }:Obj).isFreed=false
 cls:clausesOf ex=[⟨tg,iter,ifs,0⟩]
 used:∀ (env:PySem.Env) (use:Value->Sem Unit),∃ p,evalThenUse ex env use=(do let _ <- comprehension ex scope env p (newObj (.type T) dat) false (eval iter env) (some use))
theorem Geu{ex tg iter:Expr}{ifs:List Expr}{scope:Scope}{T:String}{dat:Data}{bd:Addr->PySem.Env->Sem Unit}(ck:CK ex tg iter ifs scope T dat bd){it:Value}{D:Addr}{env:PySem.Env}(I:Nat->Shared->Prop)
  (turn:∀ n s,I n s->wpAny (model prog w) A (pyNext it) (fun r s₁=>match r with
   | none=>R (.ok .next) s₁
   | some v=>wpAny (model prog w) A (letOwnedTupleGo tg it v) (fun _ s₁=>wpAny (model prog w) A (assign tg env v) (fun _ s₂=>
     wpAny (model prog w) A (forIn ifs true fun c r=>if r=true then do let ok <- isTrue c env (eval c env); pure (ForInStep.yield ok) else pure (ForInStep.yield r)) (fun ok s₃=>
      if ok=true then wpAny (model prog w) A (bd D env) (fun _ s₅=>∃ m,m<n/\I m s₅) (fun _ _=>False) s₃
      else ∃ m,m<n/\I m s₃) (fun _ _=>False) s₂) (fun _ _=>False) s₁) (fun _ _=>False) s₁) (fun _ _=>False) s)
  (n:Nat) (h:I n s):
  codeAny (model prog w) A (.compLoop ex 0 it (.ref D) env) R s:=by
 have noE:∀ {α:Type} {m:Sem α} {Q:α->Shared->Prop} {E':Value->Shared->Prop} {s:Shared},wpAny (model prog w) A m Q (fun _ _=>False) s->wpAny (model prog w) A m Q E' s:=fun h=>wpAny_mono h (fun _ _ q=>q) fun _ _ z=>z.elim
 refine codeAny_loop rfl I (fun n s hI=>?_) n h
 rw[(ck.den prog w A it D env).1,(ck.den prog w A it D env).2]
 refine wpAny_noted ?_
 rw[ck.turn]
 refine wpAny_bind (wpAny_standAt (wpAny_bind (noE (wpAny_mono (turn n s hI) (fun r s₁ h₁=>?_) fun _ _ z=>z))))
 cases r with
 | none=>exact wpAny_pure h₁
 | some v=>
  refine wpAny_bind (noE (wpAny_mono h₁ (fun _ s₁ h₁=>?_) fun _ _ z=>z))
  refine wpAny_bind (noE (wpAny_mono h₁ (fun _ s₂ h₂=>wpAny_bind (noE (wpAny_mono h₂ (fun ok s₃ h₃=>?_) fun _ _ z=>z))) fun _ _ z=>z))
  cases ok with
  | false=>exact wpAny_pure ⟨rfl,h₃⟩
  | true=>exact wpAny_bind (noE (wpAny_mono h₃ (fun _ s₅ h₅=>wpAny_pure ⟨rfl,h₅⟩) fun _ _ z=>z))
end
noncomputable def blk(X:Cx)(s2:Shared)(H2:Hp)(C:Addr)(scope:Scope)(cl:List (Str×Addr))(N':List Str)(fp:List Addr):Cx:=
 { X with N:=N',s₀:=s2,H₀:=H2,env:=compEnvC scope cl C X.env,outer:=X.stack,ex:=fp,fn:=fun x=>scope.names.lookup x==some NameKind.cell,pn:=[],xe:=fun _ _=>False }
structure CompSc(X:Cx)(scope:Scope)(cl:List (Str×Addr))(N':List Str)(pk:List (Option Nat)):Prop where
 kind:scope.kind=.function
 cell:∀ y∈scope.names,y.2=.cell->scope.names.lookup y.1=some .cell
 names:∀ y∈scope.names,y.2=.local->scope.names.lookup y.1=some .local
 clos:closureFor scope X.env=pure cl
 sub:∀ x c,cl.lookup x=some c->X.env.cells.lookup x=some c
 has:∀ x,((relabel scope X.env).names.lookup x=some .cell\/(relabel scope X.env).names.lookup x=some .free)->(x,NameKind.cell)∈scope.names\/∃ c,cl.lookup x=some c
 len:pk.length=N'.length
 take:∀ (i j:Nat) (x:Str),pk[i]?=some (some j)->N'[i]?=some x->X.N[j]?=some x/\(X.env.kindOf x=some .cell\/X.env.kindOf x=some .free)/\((relabel scope X.env).names.lookup x=some .cell\/(relabel scope X.env).names.lookup x=some .free)/\scope.names.lookup x=some .free
noncomputable def pkS{α:Type}(pk:List (Option Nat))(σ:List (Option α)):List (Option α):=pk.map fun o=>o.bind fun j=>(σ[j]?).bind id
noncomputable def PTs(Y:Cx)(ifs:List Expr)(t:TT):Prop:=
 ∀ (pins:List (Addr×Obj)) (s:Shared) (σ:L2.St) (H:Hp) (Q:Bool->Hp->Prop),Inv Y pins σ H s->t σ H Q→
  wpAny (model Y.prog Y.w) Y.A (forIn ifs true fun c r=>if r=true then do let ok <- isTrue c Y.env (eval c Y.env); pure (ForInStep.yield ok) else pure (ForInStep.yield r)) (TP Y pins σ Q) Y.xe s
theorem Gpn{Y:Cx}:PTs Y [] (fun _ H Q=>Q true H):=fun _ _ _ H _ I h=>wpAny_tests_nil ⟨H,I,h⟩
noncomputable abbrev ElP:=Addr->L2.St->Hp->(Hp->Prop)->Prop
noncomputable def Gpo(X:Cx)(scope:Scope)(N':List Str)(bd:Addr->PySem.Env->Sem Unit)(pe:ElP):Prop:=∀ cl s2 H2 C fp a pins s σ H (K:Hp->Prop),Inv (blk X s2 H2 C scope cl N' fp) pins σ H s->pe a σ H K→
 wpAny (model X.prog X.w) X.A (bd a (blk X s2 H2 C scope cl N' fp).env) (fun _ s'=>∃ H',Inv (blk X s2 H2 C scope cl N' fp) pins σ H' s'/\K H') (fun _ _=>False) s
structure NwOk(X:Cx)(T:String)(dat:Data)(ho:HO)(off:Hp->Addr->Prop):Prop where
 laid:∀ {pins:List (Addr×Obj)} {σ:L2.St} {H:Hp} {s:Shared} {h:Heap},Inv X pins σ H s->(∀ b o,s.heap.get? b=some o->h.get? b=some o)->h.get? s.heap.objs.size=some { cls:=.type T,dict:=none,data:=dat }->HOk X.prog X.w (upd H s.heap.objs.size ho) h
 off:∀ {pins:List (Addr×Obj)} {σ:L2.St} {H:Hp} {s:Shared},Inv X pins σ H s->off H s.heap.objs.size
noncomputable def tCo(off:Hp->Addr->Prop)(ho:HO)(wi:TI)(pk:List (Option Nat))(g:TG)(tt:TT)(pe:ElP):TE:=fun σ H Q=>wi σ H fun J H1=>∀ a,H1 a=none->off H1 a->∃ W:Nat->Nat->L2.St->Hp->Prop,(∃ m,W 0 m (pkS pk σ) (upd H1 a ho))/\∀ i m σ' H',W i m σ' H'→
 (J.stop i H'/\Q (.ref a) H')\/(J.go i H'/\∀ x H2,J.yld i H' x H2->g x σ' H2 fun σ3 H3=>tt σ3 H3 fun b H4=>if b=true then pe a σ3 H4 fun H7=>∃ m',m'<m/\W (i+1) m' σ3 H7
  else ∃ m',m'<m/\W (i+1) m' σ3 H4)
theorem Gmk{P:Program}{w:World}{H:Hp}{h h':Heap}{C:Addr}(k:HOk P w H h)(hn:H C=none)(hs:Heap.SameBut C h h'):HOk P w H h':=fun b ob e=>by
 refine(k b ob e).stay (fun c w' hc q=>(hs.2 c ?_).trans q) (fun _ q=>q) fun _ _ q=>q
 rintro rfl
 rcases hc with rfl | hc
 ·rw[hn] at e; cases e
 ·rw[hn] at hc; cases hc
theorem Ho:∀ (names:List (Str×NameKind)) (n:Nat) (acc:List (Str×Addr)),cellsFrom n names acc=cellsFrom n names []++acc
 | [],_,_=>rfl
 | (x,k)::r,n,acc=>by
  unfold cellsFrom
  by_cases hk:(k==NameKind.cell)=true
  ·rw[if_pos hk,if_pos hk,Ho r (n+1) ((x,n)::acc),Ho r (n+1) [(x,n)],Br]
   rfl
  ·rw[if_neg hk,if_neg hk,Ho r n acc]
theorem Ul:∀ (names:List (Str×NameKind)) (n:Nat) (x:Str) (c:Addr),(x,c)∈cellsFrom n names []->(x,NameKind.cell)∈names
 | [],_,_,_,h=>by simp[cellsFrom] at h
 | (y,k)::r,n,x,c,h=>by
  unfold cellsFrom at h
  by_cases hk:(k==NameKind.cell)=true
  ·rw[if_pos hk,Ho] at h
   rcases Be.mp h with h | h
   ·exact An _ (Ul r (n+1) x c h)
   ·have:x=y:=by simpa using(AY.mp h▸rfl:(x,c).1=(y,n).1)
    have hk:k=.cell:=by simpa using hk
    subst this hk
    exact Aq
  ·rw[if_neg hk] at h
   exact An _ (Ul r n x c h)
theorem Qv{x:Str}:∀ (a b:List (Str×Addr)),(a++b).lookup x=match a.lookup x with
  | some c=>some c
  | none=>b.lookup x
 | [],_=>rfl
 | (y,c)::r,b=>by
  rw[List.cons_append,Ax,Ax]
  cases h:x==y with
  | true=>rfl
  | false=>exact Qv r b
theorem Kz:∀ (names:List (Str×NameKind)) (n:Nat) (x:Str),(x,NameKind.cell)∈names->∃ c,(cellsFrom n names []).lookup x=some c
 | [],_,_,h=>by simp at h
 | (y,k)::r,n,x,h=>by
  unfold cellsFrom
  by_cases hx:(x,NameKind.cell)∈r
  ·by_cases hk:(k==NameKind.cell)=true
   ·rw[if_pos hk,Ho,Qv]
    obtain⟨c,hc⟩:=Kz r (n+1) x hx
    rw[hc]; exact⟨c,rfl⟩
   ·rw[if_neg hk]
    exact Kz r n x hx
  ·rcases Ad.mp h with h | h
   ·cases h
    rw[if_pos (by rfl),Ho,Qv]
    cases e:(cellsFrom (n+1) r []).lookup y with
    | some c=>exact⟨c,rfl⟩
    | none=>exact⟨n,by simp[Ax]⟩
   ·exact absurd h hx
theorem Gbd{M:Model}{A:Around}{E:Value->Shared->Prop}{s:Shared}{scope:Scope}{globals:Addr}{cl:List (Str×Addr)}{qual:Str}{env:PySem.Env}{Q:PySem.Env->Shared->Prop}
  (hQ:∀ h',h'=pushCells (s.heap.push { cls:=.type "dict",data:=.dict #[] }) scope.names→
   Q { scope:=scope,locals:=s.heap.objs.size,globals:=globals,cells:=cellsFrom (s.heap.objs.size+1) scope.names cl,qual:=qual,func:=none,code:=env.code,frame:=env.frame,builtins:=env.builtins } { s with heap:=h' }):
  wpAny M A (newFunctionEnv scope globals cl [] qual none .none (some env)) Q E s:=by
 simp only[newFunctionEnv,Option.isSome_some,if_true]
 refine wpAny_bind (wpAny_alloc ?_)
 refine wpAny_bind (wpAny_layCells _ (fun name kind cells=>by cases hkc:kind==NameKind.cell<;>simp[hkc]) _ _ _ _ ?_)
 rw[show({ s with heap:=s.heap.push { cls:=.type "dict",data:=.dict #[] } }:Shared).heap.objs.size=s.heap.objs.size+1 from AR ..]
 rw[List.forIn_nil]
 exact wpAny_bind (wpAny_pure (wpAny_pure (hQ _ rfl)))
section
variable{X:Cx}
theorem Gd4{ex tg iter:Expr}{ifs:List Expr}{scope:Scope}{T0:String}{dat:Data}{bd:Addr->PySem.Env->Sem Unit}{hO:HO}{off:Hp->Addr->Prop}{cl:List (Str×Addr)}{N':List Str}{pk:List (Option Nat)}{g:TG}{tt:TT}{pe:ElP}(ck:CK ex tg iter ifs scope T0 dat bd)(nw:NwOk X T0 dat hO off)(cs:CompSc X scope cl N' pk)(hcm:X.calm=true)
  (hg:∀ cl s2 H2 C fp,PG (blk X s2 H2 C scope cl N' fp) tg g) (ht:∀ cl s2 H2 C fp,PTs (blk X s2 H2 C scope cl N' fp) ifs tt) (he:Gpo X scope N' bd pe)
  {pins:List (Addr×Obj)} {σ:L2.St} {H2:Hp} {s2:Shared} {it:Addr} {fp:List Addr} {tn:Nat->Heap->Prop} {J:It} (I2:Inv X pins σ H2 s2) (T:Turn X.prog X.w X.K tg J fp it tn) (st2:tn 0 s2.heap) (f2:∀ b∈fp,Gda X pins H2 b)
  {Q:VK} (hQ:∀ a,H2 a=none->off H2 a->∃ W:Nat->Nat->L2.St->Hp->Prop,(∃ m,W 0 m (pkS pk σ) (upd H2 a hO))/\∀ i m σ' H',W i m σ' H'→
   (J.stop i H'/\Q (.ref a) H')\/(J.go i H'/\∀ x H3,J.yld i H' x H3->g x σ' H3 fun σ3 H3=>tt σ3 H3 fun b H4=>if b=true then pe a σ3 H4 fun H7=>∃ m',m'<m/\W (i+1) m' σ3 H7
    else ∃ m',m'<m/\W (i+1) m' σ3 H4)) {E:Value->Shared->Prop} {RR:Value->Addr->Result->Shared->Prop}
  (hRR:∀ D C s' (H':Hp),Q (.ref D) H'->(∃ m,s'.heap.Ns C m)->Inv X pins σ H' s'->H' C=none->s2.heap.objs.size<=C->RR (.ref D) C (.ok .next) s'):
  wpAny (model X.prog X.w) X.A (newObj (.type T0) dat) (fun acc s₃=>wpAny (model X.prog X.w) X.A (newFunctionEnv scope X.env.globals cl [] X.env.qual none .none (some X.env)) (fun cenv s₄=>
   codeAny (model X.prog X.w) X.A (.compStart ex 0 (.ref it) acc { cenv with scope:=relabel scope X.env }) (RR acc cenv.locals) s₄) E s₃) E s2:=by
 have hD:H2 s2.heap.objs.size=none:=I2.hok.fresh (Aa _)
 obtain⟨W,⟨m0,w0⟩,turn⟩:=hQ s2.heap.objs.size hD (nw.off I2)
 refine wpAny_newObj_type (Gbd (fun h₁ hh₁=>?_)) ck.fit
 dsimp only at hh₁ ⊢
 generalize hHh:s2.heap.push { cls:=.type T0,dict:=none,data:=dat }=Hh at hh₁ ⊢
 have hC:Hh.objs.size=s2.heap.objs.size+1:=by rw[<- hHh,AR]
 have hDC:s2.heap.objs.size≠Hh.objs.size:=by rw[hC]; exact At (AJ _)
 have hCle:s2.heap.objs.size<=Hh.objs.size:=by rw[hC]; exact Bs _
 have below:∀ b,b<s2.heap.objs.size->b≠Hh.objs.size/\b≠s2.heap.objs.size:=fun b hb=>⟨by rw[hC]; exact At (AZ hb),At hb⟩
 have hns₁:h₁.Ns Hh.objs.size (fun _=>none):=by rw[hh₁]; exact(Heap.Ns.new Hh (.type "dict")).keeps (pushCells_keeps _ _)
 have old0:∀ b o,Hh.get? b=some o->h₁.get? b=some o:=fun b o e=>by rw[hh₁]; exact pushCells_keeps _ _ b o (Ah _ e)
 have old:∀ b o,s2.heap.get? b=some o->h₁.get? b=some o:=fun b o e=>old0 b o (by rw[<- hHh]; exact Ah _ e)
 have hacc:h₁.get? s2.heap.objs.size=some { cls:=.type T0,dict:=none,data:=dat }:=old0 _ _ (by rw[<- hHh]; exact AA _ ck.fre)
 have own:=cellsFrom_ok scope.names (Hh.push { cls:=.type "dict",data:=.dict #[] }) (Hh.objs.size+1) [] ⟨fun _ _ hm=>(nomatch hm),List.Pairwise.nil⟩ (by rw[AR]; exact Aa _)
 rw[AR,<- hh₁] at own
 generalize hcs:cellsFrom (Hh.objs.size+1) scope.names cl=cs' at *
 have csl:∀ x c,cs'.lookup x=some c->((x,c)∈cellsFrom (Hh.objs.size+1) scope.names []/\h₁.IsCell c none/\Hh.objs.size+1<=c/\scope.names.lookup x=some .cell)\/((x,NameKind.cell)∉scope.names/\X.env.cells.lookup x=some c):=fun x c h=>by
  rw[<- hcs,Ho,Qv] at h
  cases e:(cellsFrom (Hh.objs.size+1) scope.names []).lookup x with
  | some c'=>
   rw[e] at h
   cases h
   have m:=mem_of_lookup e
   exact .inl ⟨m,(own.empty x c m).1,(own.empty x c m).2,cs.cell (x,.cell) (Ul _ _ _ _ m) rfl⟩
  | none=>
   rw[e] at h
   refine .inr ⟨fun hm=>?_,cs.sub x c h⟩
   obtain⟨c',q⟩:=Kz scope.names (Hh.objs.size+1) x hm
   rw[e] at q; cases q
 have cshas:∀ x,((relabel scope X.env).names.lookup x=some .cell\/(relabel scope X.env).names.lookup x=some .free)->∃ c,cs'.lookup x=some c:=fun x h=>by
  rw[<- hcs,Ho,Qv]
  cases e:(cellsFrom (Hh.objs.size+1) scope.names []).lookup x with
  | some c=>exact⟨c,rfl⟩
  | none=>
   rcases cs.has x h with hm | hm
   ·obtain⟨c',q⟩:=Kz scope.names (Hh.objs.size+1) x hm
    rw[e] at q; cases q
   ·exact hm
 have lts:∀ x c,X.env.cells.lookup x=some c->c<s2.heap.objs.size:=fun x c h=>by
  obtain⟨v,o,ho,hd⟩:=I2.cell x c h
  exact Ae ho
 let Y:=blk X s2 H2 Hh.objs.size scope cs' N' fp
 have fpLt:∀ b∈fp,b<s2.heap.objs.size:=fun b hb=>by
  obtain⟨o,e,_⟩:=T.obj _ _ st2 b hb
  exact Ae e
 have okY:Y.Ok:=by
  refine⟨I2.ok.mod,(by show(relabel scope X.env).kind=.function; exact cs.kind),I2.ok.glob,I2.ok.blt,hCle,fun x y c h1 h2=>?_,cshas,(fun x c z h=>by
   rcases csl x c h with⟨_,_,q,_⟩ | ⟨q,_⟩
   ·show s2.heap.objs.size<=c
    rw[hC] at q; omega
   ·have z:scope.names.lookup x=some .cell:=by simpa[Y,blk] using z
    exact absurd (mem_of_lookup z) q),I2.ok.hd,I2.ok.frames,.inl rfl,fun b hb=>⟨At (by rw[show Y.env.locals=Hh.objs.size from rfl,hC]; exact AZ (fpLt b hb)),fun x c h=>by
   rcases csl x c h with⟨_,_,q,_⟩ | ⟨_,q⟩
   ·exact fun z=>absurd (Af (fpLt b hb) (Ao (by rw[hC]; omega) (z▸q))) (Az _)
   ·exact(f2 b hb).2.2.2.2.1 x c q⟩,I2.bs,Ao I2.ok.bsz I2.sz,fun b o e hb=>?_,fun b hb hs=>?_,I2.stack,I2.stkFree⟩
  ·rcases csl x c h1 with⟨m1,_,q1,_⟩ | ⟨_,q1⟩<;>rcases csl y c h2 with⟨m2,_,q2,_⟩ | ⟨_,q2⟩
   ·exact name_of_addr own.apart m1 m2
   ·exact absurd (Af (lts y c q2) (Ao (by rw[hC]; omega) q1)) (Az _)
   ·exact absurd (Af (lts x c q1) (Ao (by rw[hC]; omega) q2)) (Az _)
   ·exact I2.ok.inj x y c q1 q2
  ·rcases(f2 b hb).2.2.2.1 with z | z
   ·exact I2.ok.noex b o e z
   ·exact absurd (Af (Ae e) (Ao I2.ok.bsz z)) (Az _)
  ·rcases Ad.mp (I2.stkSub b hs) with z | z
   ·exact(f2 b hb).2.1 z
   ·exact(f2 b hb).2.2.1 z
 have hokY:HOk X.prog X.w (upd H2 s2.heap.objs.size hO) h₁:=nw.laid I2 old hacc
 have IY:∀ tk,Inv Y [] (pkS pk σ) (upd H2 s2.heap.objs.size hO) { s2 with heap:=h₁,toks:=tk }:=fun tk=>by
  refine⟨okY,rfl,I2.bare,?_,⟨_,hns₁,fun i x v h1 h2 h3=>?_⟩,fun x c h=>?_,?_,fun x c h=>?_,fun p hp=>absurd (show p∈([]:List (Addr×Obj)) from hp) (by simp),hokY,by show(pkS pk σ).length=N'.length; rw[<- cs.len]; simp[pkS]⟩
  ·exact Un.laid old (Aa _) hD
  ·unfold pkS at h2
   rw[Aw] at h2
   cases e:pk[i]? with
   | none=>rw[e] at h2; cases h2
   | some o=>
    rw[e] at h2
    cases o with
    | none=>cases h2
    | some j=>
     have h2:(σ[j]?).bind id=some v:=Ac h2
     have h2:σ[j]?=some (some v):=by
      cases z:σ[j]? with
      | none=>rw[z] at h2; cases h2
      | some q=>
       rw[z] at h2
       have h2:q=some v:=h2
       rw[h2]
     obtain⟨n1,n2,n3,n4⟩:=cs.take i j x e h1
     obtain⟨m,_,hl⟩:=I2.loc
     have vis:Vis X.env.scope x:=by
      rcases n2 with n2 | n2
      ·exact .inr (.inl n2)
      ·exact .inr (.inr n2)
     obtain⟨u,r,l⟩:=hl j x v n1 h2 vis
     refine⟨u,r,.inr ⟨n3,?_⟩⟩
     rcases l with⟨k,_⟩ | ⟨_,c,hc,⟨o,ho,hd⟩⟩
     ·rcases n2 with n2 | n2<;>rw[k] at n2<;>cases n2
     ·obtain⟨c',hc'⟩:=cshas x n3
      rcases csl x c' hc' with⟨_,_,_,q⟩ | ⟨_,e2⟩
      ·rw[n4] at q; cases q
      rw[hc] at e2
      cases e2
      exact⟨c,hc',o,old c o ho,hd⟩
  ·rcases csl x c h with⟨_,q,_,_⟩ | ⟨_,q⟩
   ·exact⟨none,q⟩
   obtain⟨v,o,ho,hd⟩:=I2.cell x c q
   exact⟨v,o,old c o ho,hd⟩
  ·show upd H2 s2.heap.objs.size hO Hh.objs.size=none
   rw[Gk (Ne.symm hDC)]
   exact I2.hok.fresh hCle
  ·rcases csl x c h with⟨_,_,z,_⟩ | ⟨_,z⟩
   ·show upd H2 s2.heap.objs.size hO c=none
    have z:s2.heap.objs.size+2<=c:=by rw[hC] at z; exact z
    rw[Gk (Bg (by omega:s2.heap.objs.size<c))]
    exact I2.hok.fresh (by omega)
   have q:=I2.freeC x c z
   obtain⟨v,o,ho,hd⟩:=I2.cell x c z
   show upd H2 s2.heap.objs.size hO c=none
   rw[Gk (below c (Ae ho)).2]
   exact q
 have stat:∀ {H':Hp},(∀ b∈fp,H' b=none)->∀ b∈fp,Gda Y [] H' b:=fun hn b hb=>
  ⟨hn b hb,(okY.exf b hb).1,okY.exfs b hb,.inl hb,(okY.exf b hb).2,fun p hp=>absurd (show p∈([]:List (Addr×Obj)) from hp) (by simp)⟩
 have fin:∀ (H':Hp) (σ':L2.St) (s':Shared),Inv Y [] σ' H' s'->∀ h',Heap.SameBut Hh.objs.size s'.heap h'->Inv X pins σ H' { s' with heap:=h' }:=fun H' σ' s' I' h' hs=>by
  have sub:∀ b o,s2.heap.get? b=some o->b≠Hh.objs.size:=fun b o e=>(below b (Ae e)).1
  have un:Un (frs X.stack) fp H2 H' s2.heap s'.heap:=I'.base
  refine I2.call' (ch:=fp) I'.os ⟨fun b o e n hb hx=>(hs.2 b (sub b o e)).trans (un.keep b o e n hb hx),fun b o e n hb hx=>?_,un.free,fun b o e hx=>?_,un.tups,un.frzs,un.tbls⟩ (Gmk I'.hok I'.free hs) I'.bare fun b hb=>⟨(f2 b hb).2.2.2.1,(f2 b hb).2.1,(f2 b hb).2.2.2.2.1,(f2 b hb).2.2.2.2.2⟩
  ·obtain⟨sl,q⟩:=un.slot b o e n hb hx
   exact⟨sl,(hs.2 b (sub b o e)).trans q⟩
  ·obtain⟨o',q⟩:=un.there b o e hx
   exact⟨o',(hs.2 b (sub b o e)).trans q⟩
 have loop:∀ s3:Shared,(∃ tk,s3={ s2 with heap:=h₁,toks:=tk })→
   codeAny (model X.prog X.w) X.A (.compLoop ex 0 (.ref it) (.ref s2.heap.objs.size) (compEnvC scope cs' Hh.objs.size X.env)) (RR (.ref s2.heap.objs.size) Hh.objs.size) s3:=by
  rintro s3 ⟨tk,rfl⟩
  refine Geu ck (fun n s'=>∃ i σ' H',Inv Y [] σ' H' s'/\tn i s'.heap/\(∀ b∈fp,H' b=none)/\W i n σ' H') ?_ m0 ⟨0,_,_,IY tk,T.keep _ _ _ st2 (fun b _ o e=>old b o e),fun b hb=>by rw[Gk (below b (fpLt b hb)).2]; exact(f2 b hb).1,w0⟩
  rintro n s4 ⟨i,σ4,H4,I4,st4,fr4,w4⟩
  rcases turn i n σ4 H4 w4 with⟨stop,qn⟩ | ⟨go,step⟩
  ·refine wpAny_mono (T.done Y rfl rfl rfl hcm i [] s4 σ4 H4 (fun _ _=>False) I4 (stat fr4) st4 stop) (fun r s5 zq0=>?_) fun _ _ z=>z
   obtain⟨hr,I5⟩:=zq0
   subst hr
   obtain⟨m,hn,_⟩:=I5.loc
   exact hRR _ _ s5 H4 qn ⟨m,hn⟩ (fin H4 σ4 s5 I5 s5.heap (.refl ..)) I5.free hCle
  ·refine wpAny_mono (T.item Y rfl rfl rfl hcm i [] s4 σ4 H4 (fun _ _=>False) I4 (stat fr4) st4 go) (fun r s5 zq0=>?_) fun _ _ z=>z
   obtain⟨u,hr,h5⟩:=zq0
   subst hr
   refine wpAny_mono h5 (fun _ s6 zq0=>?_) fun _ _ z=>z
   obtain⟨x,H6,I6,r6,y6,st6,fr6⟩:=zq0
   have I6':=I6.pinned (stat fr6) (T.obj _ _ st6)
   refine wpAny_mono (hg cs' s2 H2 Hh.objs.size fp _ s6 σ4 H6 x u _ I6' r6 (step x H6 y6)) (fun _ s7 zq0=>?_) fun _ _ z=>z
   obtain⟨σ7,H7,I7,q7⟩:=zq0
   refine wpAny_mono (ht cs' s2 H2 Hh.objs.size fp _ s7 σ7 H7 _ I7 q7) (fun ok s8 zq0=>?_) fun _ _ z=>z
   obtain⟨H8,I8,q8⟩:=zq0
   have back:∀ {σ9:L2.St} {H9:Hp} {s9:Shared},Inv Y ([]++Gbv fp s6.heap) σ9 H9 s9->Inv Y [] σ9 H9 s9/\tn (i+1) s9.heap/\∀ b∈fp,H9 b=none:=fun{σ9 H9 s9} I9=>
    ⟨I9.unpinned,T.keep _ _ _ st6 fun b hb o e=>(I9.pin (b,o) (AH _ (AH _ (Vo hb e)))).1,fun b hb=>by
     obtain⟨o,e,d⟩:=T.obj _ _ st6 b hb
     exact(I9.pin (b,o) (AH _ (AH _ (Vo hb e)))).2.1⟩
   cases ok with
   | false=>
    obtain⟨m',hm,w'⟩:=(if_neg Ap).mp q8
    obtain⟨b1,b2,b3⟩:=back I8
    exact(if_neg Ap).mpr ⟨m',hm,i+1,σ7,H8,b1,b2,b3,w'⟩
   | true=>
    refine(if_pos rfl).mpr ?_
    refine wpAny_mono (he cs' s2 H2 Hh.objs.size fp _ _ s8 σ7 H8 _ I8 ((if_pos rfl).mp q8)) (fun _ s11 zq=>?_) fun _ _ z=>z
    obtain⟨H11,I11,m',hm,w11⟩:=zq
    obtain⟨b1,b2,b3⟩:=back I11
    exact⟨m',hm,i+1,σ7,_,b1,b2,b3,w11⟩
 exact ck.start (loop _ ⟨_,rfl⟩) (T.self _ 0 _ _ _ (T.keep _ _ _ st2 fun b _ o e=>old b o e) (loop _ ⟨_,rfl⟩))
theorem Gjc{pins:List (Addr×Obj)}{σ σ2:L2.St}{H2 H':Hp}{s2 s':Shared}{C:Addr}{h':Heap}(I2:Inv X pins σ2 H2 s2)(I:Inv X pins σ H' s')(hn:H' C=none)(hC:s2.heap.objs.size<=C)(hs:Heap.SameBut C s'.heap h'):Inv X pins σ H' { s' with heap:=h' }:=by
 refine I.turned (t':=s'.toks) (it:=C) (fun b o hb e=>(hs.2 b hb).trans e) hn (fun z=>?_) (.inr (Ao I2.sz hC)) (fun x c h z=>?_) fun p hp z=>?_
 ·exact absurd (Af I2.lt (by rw[<- z]; exact hC)) (Az _)
 ·obtain⟨v,q⟩:=I2.cell x c h
  exact absurd (Af q.lt (by rw[z]; exact hC)) (Az _)
 ·exact absurd (Af (Ae (I2.pin p hp).1) (by rw[z]; exact hC)) (Az _)
theorem Ys{env:PySem.Env}:∀ (names:List (Str×NameKind)) (acc:List (Str×Addr)),(∀ x∈names,x.2=.free->∃ c,env.cells.lookup x.1=some c)->(∀ x c,acc.lookup x=some c->env.cells.lookup x=some c)→
  ∃ cl,(forIn names acc fun x cs=>(if(x.2==NameKind.free)=true then do let c <- cellOf env x.1; pure (ForInStep.yield ((x.1,c)::cs)) else pure (ForInStep.yield cs):Sem _))=pure cl/\(∀ x c,cl.lookup x=some c->env.cells.lookup x=some c)∧
   (∀ x,(∃ c,acc.lookup x=some c)\/(x,NameKind.free)∈names->∃ c,cl.lookup x=some c)
 | [],acc,_,ha=>⟨acc,rfl,ha,fun x h=>by
   rcases h with h | h
   ·exact h
   ·simp at h⟩
 | (n,k)::r,acc,hn,ha=>by
  have hr:∀ x∈r,x.2=.free->∃ c,env.cells.lookup x.1=some c:=fun x hx=>hn x (An _ hx)
  by_cases hk:k=.free
  ·subst hk
   obtain⟨c,hc⟩:=hn (n,.free) Aq rfl
   obtain⟨cl,e,h1,h2⟩:=Ys r ((n,c)::acc) hr (fun x c' h=>by
    rw[Ax] at h
    by_cases hx:(x==n)=true
    ·rw[hx] at h
     cases h
     have:x=n:=by simpa using hx
     rw[this]; exact hc
    ·have hx:(x==n)=false:=by simpa using hx
     rw[hx] at h
     exact ha x c' h)
   refine⟨cl,?_,h1,fun x h=>h2 x ?_⟩
   ·rw[List.forIn_cons]
    simp only[beq_self_eq_true,if_true]
    have q:cellOf env n=pure c:=by unfold cellOf; rw[hc]
    rw[q]
    exact e
   ·rcases h with⟨c',h⟩ | h
    ·left
     rw[Ax]
     by_cases hx:(x==n)=true
     ·rw[hx]; exact⟨c,rfl⟩
     ·have hx:(x==n)=false:=by simpa using hx
      rw[hx]; exact⟨c',h⟩
    ·rcases Ad.mp h with h | h
     ·left
      cases h
      exact⟨c,by rw[Ax,beq_self_eq_true]⟩
     ·exact .inr h
  ·have hb:(k==NameKind.free)=false:=by simpa using hk
   obtain⟨cl,e,h1,h2⟩:=Ys r acc hr ha
   refine⟨cl,?_,h1,fun x h=>h2 x ?_⟩
   ·rw[List.forIn_cons]
    simp only[hb,Ak,if_false]
    exact e
   ·rcases h with h | h
    ·exact .inl h
    ·rcases Ad.mp h with h | h
     ·cases h; exact absurd rfl hk
     ·exact .inr h
theorem Gh5{env:PySem.Env}{scope:Scope}(hn:∀ x∈scope.names,x.2=.free->∃ c,env.cells.lookup x.1=some c):∃ cl,closureFor scope env=pure cl/\(∀ x c,cl.lookup x=some c->env.cells.lookup x=some c)/\(∀ x,(x,NameKind.free)∈scope.names->∃ c,cl.lookup x=some c):=by
 obtain⟨cl,e,h1,h2⟩:=Ys (env:=env) scope.names [] hn (fun x c h=>by simp at h)
 refine⟨cl,?_,h1,fun x h=>h2 x (.inr h)⟩
 unfold closureFor
 have e2:(forIn scope.names ([]:List (Str×Addr)) fun x r=>(match x with
   | (name,kind)=>if(kind==NameKind.free)=true then do let c <- cellOf env name; pure (ForInStep.yield ((name,c)::r)) else pure (ForInStep.yield r):Sem _))=pure cl:=e
 first
  | exact congrArg (fun m=>m >>= fun cs=>pure cs) e2
  | (show(do let cs <- forIn scope.names ([]:List (Str×Addr)) fun x r=>_; pure cs)=_; rw[e2]; rfl)
structure CompTab(sc scope:Scope)(N N':List Str)(pk:List (Option Nat)):Prop where
 kind:scope.kind=.function
 cell:∀ y∈scope.names,y.2=.cell->scope.names.lookup y.1=some .cell
 names:∀ y∈scope.names,y.2=.local->scope.names.lookup y.1=some .local
 free:∀ y∈scope.names,y.2=.free->sc.names.lookup y.1=some .cell\/sc.names.lookup y.1=some .free
 len:pk.length=N'.length
 take:((List.range N'.length).all fun i=>match pk[i]? with
  | some (some j)=>match N[j]?,N'[i]? with
   | some x,some y=>(x==y)&&((sc.names.lookup y==some NameKind.cell)||(sc.names.lookup y==some NameKind.free))&&(scope.names.lookup y==some NameKind.free)
   | _,_=>false
  | _=>true)=true
theorem Wn{scope:Scope}{env:PySem.Env}{x:Str}:∀ (names:List (Str×NameKind)),((names.map fun(n,k)=>if(k==NameKind.free&&env.scope.kind==.function&&env.kindOf n==some .cell)=true then(n,NameKind.cell) else(n,k)).lookup x=some .cell∨
   (names.map fun(n,k)=>if(k==NameKind.free&&env.scope.kind==.function&&env.kindOf n==some .cell)=true then(n,NameKind.cell) else(n,k)).lookup x=some .free)->(x,NameKind.cell)∈names\/(x,NameKind.free)∈names
 | [],h=>by simp at h
 | (n,k)::r,h=>by
  rw[Au] at h
  by_cases hx:(x==n)=true
  ·have e:x=n:=by simpa using hx
   subst e
   by_cases hq:(k==NameKind.free&&env.scope.kind==.function&&env.kindOf x==some .cell)=true
   ·have:k=.free:=by
     rw[As,As] at hq
     simpa using hq.1.1
    subst this
    exact .inr Aq
   ·simp only[hq,Ak,if_false,Ax,beq_self_eq_true] at h
    rcases h with h | h
    ·have:k=.cell:=by simpa using h
     subst this
     exact .inl Aq
    ·have:k=.free:=by simpa using h
     subst this
     exact .inr Aq
  ·have hx:(x==n)=false:=by simpa using hx
   refine(Wn (scope:=scope) (env:=env) r ?_).imp (An _) (An _)
   by_cases hq:(k==NameKind.free&&env.scope.kind==.function&&env.kindOf n==some .cell)=true
   ·simpa only[hq,if_true,Ax,hx] using h
   ·simpa only[hq,Ak,if_false,Ax,hx] using h
theorem Jy{scope:Scope}{env:PySem.Env}{x:Str}:∀ (names:List (Str×NameKind)),names.lookup x=some .free->((names.map fun(n,k)=>if(k==NameKind.free&&env.scope.kind==.function&&env.kindOf n==some .cell)=true then(n,NameKind.cell) else(n,k)).lookup x=some .cell∨
   (names.map fun(n,k)=>if(k==NameKind.free&&env.scope.kind==.function&&env.kindOf n==some .cell)=true then(n,NameKind.cell) else(n,k)).lookup x=some .free)
 | [],h=>by simp at h
 | (n,k)::r,h=>by
  rw[Au]
  by_cases hx:(x==n)=true
  ·rw[Ax,hx] at h
   have:k=.free:=by simpa using h
   subst this
   by_cases hq:(NameKind.free==NameKind.free&&env.scope.kind==.function&&env.kindOf n==some .cell)=true
   ·left; simp only[hq,if_true,Ax,hx]
   ·right; simp only[hq,Ak,if_false,Ax,hx]
  ·have hx:(x==n)=false:=by simpa using hx
   rw[Ax,hx] at h
   have:=Jy (scope:=scope) (env:=env) r h
   by_cases hq:(k==NameKind.free&&env.scope.kind==.function&&env.kindOf n==some .cell)=true
   ·simpa only[hq,if_true,Ax,hx] using this
   ·simpa only[hq,Ak,if_false,Ax,hx] using this
theorem CompTab.sc{scope:Scope}{N':List Str}{pk:List (Option Nat)}(t:CompTab X.env.scope scope X.N N' pk)(ok:X.Ok):∃ cl,CompSc X scope cl N' pk:=by
 obtain⟨cl,e,h1,h2⟩:=Gh5 (env:=X.env) (scope:=scope) fun x hx hf=>ok.has x.1 (t.free x hx hf)
 refine⟨cl,t.kind,t.cell,t.names,e,h1,fun x h=>(Wn (scope:=scope) (env:=X.env) scope.names h).imp id (h2 x),t.len,fun i j x hp hn=>?_⟩
 have hi:i<N'.length:=(Ab.mp hn).1
 have q:=AK.mp t.take i (AU.mpr hi)
 simp only[hp,hn] at q
 cases hj:X.N[j]? with
 | none=>simp[hj] at q
 | some y=>
  simp only[hj,As,Bool.or_eq_true,beq_iff_eq] at q
  obtain⟨⟨e1,e2⟩,e3⟩:=q
  subst e1
  exact⟨rfl,e2,Jy (scope:=scope) (env:=X.env) scope.names e3,e3⟩
theorem Gjd{i:Nat}{y:Str}{py spos:Pos}{ex tg iter:Expr}{ifs:List Expr}{scope:Scope}{T0:String}{dat:Data}{bd:Addr->PySem.Env->Sem Unit}{ho:HO}{off:Hp->Addr->Prop}{N':List Str}{pk:List (Option Nat)}{wi:TI}{g:TG}{tt:TT}{pe:ElP}(ck:CK ex tg iter ifs scope T0 dat bd)(nw:NwOk X T0 dat ho off)(ct:CompTab X.env.scope scope X.N N' pk)(hcm:X.calm=true)(hi:PI X tg iter wi)
  (hg:∀ cl s2 H2 C fp,PG (blk X s2 H2 C scope cl N' fp) tg g) (ht:∀ cl s2 H2 C fp,PTs (blk X s2 H2 C scope cl N' fp) ifs tt) (he:Gpo X scope N' bd pe)
  (hN:X.N.Nodup) (hy:X.N[i]?=some y) (hx:Loc X.env.scope y) (hsw:swapsWith ex (some (.Name y py)) spos.line X.env=pure true)
  (hs:∀ x,foldedSetIterable iter X.env x=pure x:=by intro _; rfl) (hf:X.fn y=true\/X.env.scope.names.lookup y=some .local:=by first | exact .inl rfl | exact .inr rfl | assumption):
  PS X (.Assign [.Name y py] ex spos) (Go7 (tCo off ho wi pk g tt pe) (gName i)):=by
 intro pins s σ H E I h
 obtain⟨cl,cs⟩:=ct.sc I.ok
 rw[exec_Assign_Name_used _ _ _ _ hsw]
 refine wpAny_bind (wpAny_standAt (wpAny_bind ?_))
 obtain⟨p,ep⟩:=ck.used X.env (assign (.Name y py) X.env)
 rw[ep]
 refine wpAny_bind (wpAny_mono (wpAny_comprehension_free (use:=some (assign (.Name y py) X.env)) (Q:=fun _ s'=>SP X pins E .next s') ck.cls hs cs.clos cs.kind cs.names
  (thn (hi pins s σ H _ I h) fun x s1 h1=>thn h1 fun itv s2 h2=>?_)) (fun _ s' hq=>wpAny_pure (wpAny_pure hq)) fun _ _ e=>e)
 obtain⟨it,fp,tn,J,H2,e,I2,T,st2,f2,hQ⟩:=h2
 subst e
 refine Gd4 ck nw cs hcm hg ht he I2 T st2 f2 (Q:=fun x H1=>gName i x σ H1 E.nx) hQ (RR:=fun acc C=>compPost (model X.prog X.w) X.A X.xe (some (assign (.Name y py) X.env)) (fun _ s'=>SP X pins E .next s') acc C) fun D C s' H' q hn inv hfr hC=>?_
 obtain⟨m,hn⟩:=hn
 show wpAny _ X.A (assign (.Name y py) X.env (.ref D)) _ _ _
 refine wpAny_assign_Name (Gdw inv hN hy hx (v:=.ref D) rfl (fun s'' I'' hch=>?_) hf)
 obtain⟨a,hsb,ha⟩:=hch
 have hCa:C≠a:=by
  rcases ha with ha | ha
  ·rintro rfl
   exact absurd (Af I2.lt (by rw[<- ha]; exact hC)) (Az _)
  ·rintro rfl
   obtain⟨v,z⟩:=I2.cell y _ ha
   exact absurd (Af z.lt hC) (Az _)
 exact⟨m,hn.sameBut hsb hCa,fun h' hs'=>⟨_,H',Gjc I2 I'' hfr hC hs',q⟩⟩
noncomputable def bdL(elt:Expr)(D:Addr)(env:PySem.Env):Sem Unit:=do let _ <- call (.builtin "list.append") [.ref D,<- eval elt env]
noncomputable def peL(te:TE):ElP:=fun a σ H K=>te σ H fun v H5=>∃ xs,H5 a=some (.lst xs)/\xs.length<sizeLine/\K (upd H5 a (.lst (xs++[v])))
noncomputable def oT(_:Hp)(_:Addr):Prop:=True
theorem ckL{elt tg iter:Expr}{ifs:List Expr}{scope:Scope}{pos:Pos}:CK (.ListComp elt [⟨tg,iter,ifs,0⟩] scope pos) tg iter ifs scope "list" (.seq #[]) (bdL elt):=⟨fun _ _ _ _ _ _=>⟨rfl,rfl⟩,fun _ _ _=>rfl,codeAny_compStart_list,by size_fits,rfl,rfl,fun _ _=>⟨_,rfl⟩⟩
theorem nwL:NwOk X "list" (.seq #[]) (.lst []) oT:=⟨fun I old e=>I.hok.laid old (Aa _) ⟨by decide,[],0,.nil,e⟩,fun _=>trivial⟩
theorem elL{elt:Expr}{scope:Scope}{N':List Str}{te:TE}(he:∀ cl s2 H2 C fp,PE (blk X s2 H2 C scope cl N' fp) elt te):Gpo X scope N' (bdL elt) (peL te):=by
 intro cl s2 H2 C fp a pins s σ H K I q
 refine wpAny_bind (wpAny_mono (he cl s2 H2 C fp _ s σ H _ I q) (fun ux s9 zq=>?_) fun _ _ z=>z)
 obtain⟨v,H9,I9,r9,xs,ex,hx,w'⟩:=zq
 refine wpAny_bind (wpAny_mono (Gd1 (X:=blk X s2 H2 C scope cl N' fp) _ s9 σ H9 (.ref a) [v] (.ref a) [ux] (fun _ H'=>H'=upd H9 a (.lst (xs++[v]))) I9 rfl (.cons r9 .nil) ⟨_,xs,v,rfl,rfl,ex,hx,rfl⟩) (fun _ s10 zq=>?_) fun _ _ z=>z)
 obtain⟨_,H10,I10,_,e10⟩:=zq
 subst e10
 exact wpAny_pure ⟨_,I10,w'⟩
theorem Gpp{elt tg iter:Expr}{ifs:List Expr}{scope:Scope}{pos:Pos}{N':List Str}{pk:List (Option Nat)}{wi:TI}{g:TG}{tt:TT}{te:TE}(ct:CompTab X.env.scope scope X.N N' pk)(hcm:X.calm=true)(hi:PI X tg iter wi)
  (hg:∀ cl s2 H2 C fp,PG (blk X s2 H2 C scope cl N' fp) tg g) (ht:∀ cl s2 H2 C fp,PTs (blk X s2 H2 C scope cl N' fp) ifs tt) (he:∀ cl s2 H2 C fp,PE (blk X s2 H2 C scope cl N' fp) elt te)
  (hs:∀ x,foldedSetIterable iter X.env x=pure x:=by intro _; rfl):PE X (.ListComp elt [⟨tg,iter,ifs,0⟩] scope pos) (tCo oT (.lst []) wi pk g tt (peL te)):=by
 intro pins s σ H Q I h
 obtain⟨cl,cs⟩:=ct.sc I.ok
 rw[eval_ListComp]
 refine wpAny_comprehension_free (use:=none) rfl hs cs.clos cs.kind cs.names (thn (hi pins s σ H _ I h) fun x s1 h1=>thn h1 fun itv s2 h2=>?_)
 obtain⟨it,fp,tn,J,H2,e,I2,T,st2,f2,hQ⟩:=h2
 subst e
 refine Gd4 ckL nwL cs hcm hg ht (elL he) I2 T st2 f2 hQ (RR:=fun acc C=>compPost (model X.prog X.w) X.A X.xe none (EP X pins σ Q) acc C) fun D C s' H' q hn inv hf hC=>?_
 obtain⟨m,hn⟩:=hn
 exact⟨m,hn,fun h' hs'=>⟨.ref D,H',Gjc I2 inv hf hC hs',rfl,q⟩⟩
noncomputable abbrev XN:XW:=fun _ _ _ _ _ _=>False
noncomputable def cbody(a:Nat)(t:Ev Bool)(e:Ev D):Sv:=fun ρ S=>bindS (t ρ S) ρ fun b S1=>if b=true then bindS (e ρ S1) ρ fun d S2=>(match S2[a]? with
  | some c=>if c.fz=false/\c.xs.length<1000000 then .nx ρ (S2.set a ⟨false,c.xs++[d]⟩) else .bad
  | none=>.bad) else .nx ρ S1
noncomputable def cmp(f:Ev Src)(pk:List (Option Nat))(g:Tg)(t:Ev Bool)(e:Ev D):Ev D:=fun ρ S=>(f ρ S).bind fun src S1=>match Ki src.nxt g (cbody S1.length t e) src.fuel 0 (pkS pk ρ) (S1++[⟨false,[]⟩]) with
 | .nx _ S'=>.ok (.lst S1.length) S'
 | _=>.bad
theorem Gd.pick{K:PySem.W.Frag}{mp:List Addr}{H:Hp}{σ:L2.St}{ρ:Lc}{S:Sto}(G:Gd K mp H σ ρ S)(pk:List (Option Nat)):Gd K mp H (pkS pk σ) (pkS pk ρ) S:=by
 refine⟨G.rs,by simp[pkS],fun i d h=>?_⟩
 unfold pkS at h ⊢
 rw[Aw] at h ⊢
 cases e:pk[i]? with
 | none=>rw[e] at h; cases h
 | some o=>
  rw[e] at h
  cases o with
  | none=>cases h
  | some j=>
   have h:(ρ[j]?).bind id=some d:=Ac h
   have h:ρ[j]?=some (some d):=by
    cases z:ρ[j]? with
    | none=>rw[z] at h; cases h
    | some q=>
     rw[z] at h
     have h:q=some d:=h
     rw[h]
   obtain⟨v,e1,r⟩:=G.loc j d h
   refine⟨v,?_,r⟩
   show some ((σ[j]?).bind id)=some (some v)
   rw[e1]
   rfl
noncomputable def JTs(Y:Cx)(XQ:XW)(ifs:List Expr)(t:Ev Bool):Prop:=PTs Y ifs (rdT Y.K XQ t)
noncomputable def ttrue:Ev Bool:=fun _ S=>.ok true S
noncomputable def cbG(t:Ev Bool)(el:Sv):Sv:=fun ρ S=>bindS (t ρ S) ρ fun b S1=>if b=true then el ρ S1 else .nx ρ S1
noncomputable def Hav(f:Ev Src)(pk:List (Option Nat))(g:Tg)(t:Ev Bool)(el:Nat->Sv)(dv:Nat->D):Ev D:=fun ρ S=>(f ρ S).bind fun src S1=>match Ki src.nxt g (cbG t (el S1.length)) src.fuel 0 (pkS pk ρ) (S1++[⟨false,[]⟩]) with
 | .nx _ S'=>.ok (dv S1.length) S'
 | _=>.bad
noncomputable def Ga2(K:PySem.W.Frag)(XQ:XW)(σ:L2.St)(ρ:Lc)(dv:D)(mp:List Addr)(H:Hp)(o:OS)(Q:VK):Prop:=match o with
 | .nx _ S=>Post K XQ σ ρ mp H (.ok dv S) Q
 | _=>False
theorem Ga2.aft{K:PySem.W.Frag}{XQ:XW}{σ:L2.St}{ρ:Lc}{dv:D}{mp mp':List Addr}{H H':Hp}{o:OS}{Q:VK}(p:Ga2 K XQ σ ρ dv mp H o Q)(af:Aft K mp H mp' H'):Ga2 K XQ σ ρ dv mp' H' o Q:=by
 cases o with
 | nx r S=>exact Gi.aft (show Post K XQ σ ρ mp H (.ok dv S) Q from p) af
 | _=>exact p
structure ElD(K:PySem.W.Frag)(el:Nat->Sv)(dv:Nat->D)(nd:Hp->Addr->Prop)(ho:HO)(off:Hp->Addr->Prop)(pe:ElP):Prop where
 new:∀ {mp:List Addr} {H:Hp} {S:Sto} {a:Addr},RS K mp H S->H a=none->off H a->Aft K mp H (mp++[a]) (upd H a ho)/\RS K (mp++[a]) (upd H a ho) (S++[⟨false,[]⟩])/\(mp++[a])[S.length]?=some a
 nnd:∀ {H:Hp} {a:Addr},off H a->nd (upd H a ho) a
 keep:∀ {mp mp':List Addr} {H H':Hp} {i:Nat} {a:Addr},Aft K mp H mp' H'->mp[i]?=some a->nd H a->nd H' a
 val:∀ {mp:List Addr} {H:Hp} {i:Nat} {a:Addr},mp[i]?=some a->nd H a->Rep K mp H (dv i) (.ref a)
 out:∀ i ρ S,(∃ S',el i ρ S=.nx ρ S')\/(∃ x r S',el i ρ S=.exc x r S')\/el i ρ S=.bad
 step:∀ {mp:List Addr} {H:Hp} {σ:L2.St} {ρ:Lc} {S S':Sto} {i:Nat} {a:Addr} {Kt:Hp->Prop},Gd K mp H σ ρ S->mp[i]?=some a->nd H a->el i ρ S=.nx ρ S'->(∀ mp' H',Aft K mp H mp' H'->RS K mp' H' S'->Kt H')->pe a σ H Kt
theorem Gh6{K:PySem.W.Frag}{XQ:XW}{f:Ev Src}{pk:List (Option Nat)}{g:Tg}{t:Ev Bool}{el:Nat->Sv}{dv:Nat->D}{nd:Hp->Addr->Prop}{ho:HO}{off:Hp->Addr->Prop}{pe:ElP}(E:ElD K el dv nd ho off pe)(σ:L2.St)(H:Hp)(Q:VK)(h:rdE K XQ (Hav f pk g t el dv) σ H Q):tCo off ho (rdI K XQ f) pk (Gk3 K g) (rdT K XN t) pe σ H Q:=by
 obtain⟨mp,ρ,S,G,p⟩:=h
 refine bindP G p fun mp1 H1 src S1 J a1 G1 j1 p1=>?_
 intro a ha hof
 obtain⟨af,rs,la⟩:=E.new G1.rs ha hof
 have p1:Ga2 K XQ σ ρ (dv S1.length) (mp1++[a]) (upd H1 a ho) (Ki src.nxt g (cbG t (el S1.length)) src.fuel 0 (pkS pk ρ) (S1++[⟨false,[]⟩])) Q:=by
  cases z:Ki src.nxt g (cbG t (el S1.length)) src.fuel 0 (pkS pk ρ) (S1++[⟨false,[]⟩]) with
  | nx r S'=>rw[z] at p1; exact Gi.aft p1 af
  | _=>rw[z] at p1; exact p1
 refine⟨fun i m σ' H'=>∃ mp' ρ' S',Aft K mp1 H1 mp' H'/\Gd K mp' H' σ' ρ' S'/\(mp'[S1.length]?=some a/\nd H' a)/\Ga2 K XQ σ ρ (dv S1.length) mp' H' (Ki src.nxt g (cbG t (el S1.length)) m i ρ' S') Q,⟨src.fuel,_,_,_,af,(G1.pick pk).aft af rs,⟨la,E.nnd hof⟩,p1⟩,?_⟩
 rintro i m σ' H' ⟨mp',ρ',S',a',G',⟨la',nd'⟩,p'⟩
 cases m with
 | zero=>exact(show False from p').elim
 | succ n=>
  have j:=j1 mp' H' S' a' G'.rs i
  unfold Ki at p'
  cases z:src.nxt i S' with
  | none=>
   rw[z] at j p'
   exact .inl ⟨j,Gi.ok (show Post K XQ σ ρ mp' H' (.ok (dv S1.length) S') Q from p') G'.rs (E.val la' nd')⟩
  | some d=>
   rw[z] at j p'
   obtain⟨j1,j2⟩:=j
   refine .inr ⟨j1,fun x H2 y=>?_⟩
   obtain⟨a2,r2,x2⟩:=j2 x H2 y
   have nd2:=E.keep a2 la' nd'
   have G2:=G'.aft a2 r2
   cases zg:g d ρ' with
   | none=>simp only[zg] at p'; exact p'.elim
   | some ρ1=>
    simp only[zg] at p'
    refine⟨mp',ρ',S',d,ρ1,G2,x2,zg,fun σ3 G3=>⟨mp',ρ1,S',G3,?_⟩⟩
    have p2:=Ga2.aft p' a2
    unfold cbG at p2
    cases zt:t ρ1 S' with
    | exc x S2=>simp only[zt,bindS] at p2; exact p2.elim
    | bad=>simp only[zt,bindS] at p2; exact p2.elim
    | ok b S2=>
     simp only[zt,bindS] at p2
     intro mp3 H3 b' a3 rs3 e3
     cases (show b'=b from e3)
     have G4:=G3.aft a3 rs3
     have la3:=a3.pre _ _ la'
     have nd3:=E.keep a3 la' nd2
     cases b with
     | false=>
      simp only[Ak,if_false] at p2
      exact(if_neg Ap).mpr ⟨n,AJ n,mp3,ρ1,S2,(a'.trans a2).trans a3,G4,⟨la3,nd3⟩,Ga2.aft p2 a3⟩
     | true=>
      simp only[if_true] at p2
      refine(if_pos rfl).mpr ?_
      rcases E.out S1.length ρ1 S2 with⟨S3,z3⟩ | ⟨x,r,S3,z3⟩ | z3<;>simp only[z3] at p2
      ·exact E.step G4 la3 nd3 z3 fun mp5 H5 a5 rs5=>⟨n,AJ n,mp5,ρ1,S3,((a'.trans a2).trans a3).trans a5,G4.aft a5 rs5,⟨a5.pre _ _ la3,E.keep a5 la3 nd3⟩,Ga2.aft p2 (a3.trans a5)⟩
      ·exact p2.elim
      ·exact p2.elim
noncomputable def eLs(e:Ev D)(a:Nat):Sv:=fun ρ S1=>bindS (e ρ S1) ρ fun d S2=>(match S2[a]? with
  | some c=>if c.fz=false/\c.xs.length<1000000 then .nx ρ (S2.set a ⟨false,c.xs++[d]⟩) else .bad
  | none=>.bad)
theorem edL{K:PySem.W.Frag}{e:Ev D}:ElD K (eLs e) .lst (fun H a=>¬ Dcy H a) (.lst []) oT (peL (rdE K XN e)):=by
 refine⟨fun r h _=>r.newL h RepL.nil,fun _=>nd_lst Hd,fun af l n=>af.ndc _ _ l n,fun l n=>⟨_,rfl,l,n⟩,fun i ρ S=>?_,fun{mp H σ ρ S S' i a Kt} G la nd z k=>⟨mp,ρ,S,G,?_⟩⟩
 ·unfold eLs
  cases e ρ S with
  | exc x S3=>exact .inr (.inl ⟨_,_,_,rfl⟩)
  | bad=>exact .inr (.inr rfl)
  | ok d S2=>
   simp only[bindS]
   cases S2[i]? with
   | none=>exact .inr (.inr rfl)
   | some c=>
    by_cases h:c.fz=false/\c.xs.length<1000000
    ·exact .inl ⟨_,if_pos h⟩
    ·exact .inr (.inr (if_neg h))
 ·unfold eLs at z
  cases ze:e ρ S with
  | exc x S3=>rw[ze] at z; cases z
  | bad=>rw[ze] at z; cases z
  | ok d2 S3=>
   simp only[ze,bindS] at z
   intro mp4 H4 v a4 rs4 r4
   have la4:=a4.pre _ _ la
   have nd4:=a4.ndc _ _ la nd
   cases zc:S3[i]? with
   | none=>simp only[zc] at z; cases z
   | some c=>
    simp only[zc] at z
    by_cases hc:c.fz=false/\c.xs.length<1000000
    ·rw[if_pos hc] at z
     cases z
     obtain⟨a5,xs,e5,h5,s5,r5,f5⟩:=rs4.items (v:=.ref a) ⟨a,rfl,la4,nd4⟩ zc
     cases e5
     have h5:=f5 hc.1
     obtain⟨af6,rs6⟩:=rs4.setL la4 zc hc.1 h5 (RepL.append r5 (RepL.cons r4 RepL.nil))
     exact⟨xs,h5,by rw[r5.len]; exact Af hc.2 (by decide),k _ _ (a4.trans af6) rs6⟩
    ·rw[if_neg hc] at z; cases z
variable{XQ:XW}
theorem Gpq{elt tg iter:Expr}{ifs:List Expr}{scope:Scope}{pos:Pos}{N':List Str}{pk:List (Option Nat)}{f:Ev Src}{g:Tg}{t:Ev Bool}{e:Ev D}(ct:CompTab X.env.scope scope X.N N' pk)(hcm:X.calm=true)(hi:JI X XQ tg iter f)
  (hg:∀ cl s2 H2 C fp,JG (blk X s2 H2 C scope cl N' fp) tg g) (ht:∀ cl s2 H2 C fp,JTs (blk X s2 H2 C scope cl N' fp) XN ifs t) (he:∀ cl s2 H2 C fp,JE (blk X s2 H2 C scope cl N' fp) XN elt e)
  (hs:∀ x,foldedSetIterable iter X.env x=pure x:=by intro _; rfl):JE X XQ (.ListComp elt [⟨tg,iter,ifs,0⟩] scope pos) (cmp f pk g t e):=
 PE.mono (Gpp (g:=Gk3 X.K g) (tt:=rdT X.K XN t) (te:=rdE X.K XN e) ct hcm hi hg ht he hs) (Gh6 (el:=eLs e) (dv:=.lst) edL)
theorem Gh7(i:Nat){y:Str}{py spos:Pos}{elt tg iter:Expr}{ifs:List Expr}{scope:Scope}{pos:Pos}{N':List Str}{pk:List (Option Nat)}{f:Ev Src}{g:Tg}{t:Ev Bool}{e:Ev D}(ct:CompTab X.env.scope scope X.N N' pk)(hcm:X.calm=true)(hi:JI X XQ tg iter f)
  (hg:∀ cl s2 H2 C fp,JG (blk X s2 H2 C scope cl N' fp) tg g) (ht:∀ cl s2 H2 C fp,JTs (blk X s2 H2 C scope cl N' fp) XN ifs t) (he:∀ cl s2 H2 C fp,JE (blk X s2 H2 C scope cl N' fp) XN elt e)
  (hN:X.N.Nodup) (hy:X.N[i]?=some y:=by rfl) (hx:Loc X.env.scope y:=by first | exact Or.inl rfl | exact Or.inr rfl) (hsw:swapsWith (.ListComp elt [⟨tg,iter,ifs,0⟩] scope pos) (some (.Name y py)) spos.line X.env=pure true:=by rfl)
  (hs:∀ x,foldedSetIterable iter X.env x=pure x:=by intro _; rfl) (hf:X.fn y=true\/X.env.scope.names.lookup y=some .local:=by first | exact .inl rfl | exact .inr rfl | assumption):
  JS X XQ (.Assign [.Name y py] (.ListComp elt [⟨tg,iter,ifs,0⟩] scope pos) spos) (sa (cmp f pk g t e) (gn i)):=by
 refine PS.mono (Gjd (g:=Gk3 X.K g) (tt:=rdT X.K XN t) (pe:=peL (rdE X.K XN e)) ckL nwL ct hcm hi hg ht (elL he) hN hy hx hsw hs hf) fun E σ H ⟨mp,ρ,S,G,p⟩=>Gh6 (el:=eLs e) (dv:=.lst) edL σ H _ ?_
 exact bindSP G p fun mp1 H1 d S1 v a1 G1 r1 p1=>PostS.nx p1 (G1.set i r1)
end
theorem Gaj:fillsNumberSlot (.type "tuple") "mul"=pure false:=
 PySem.fillsNumberSlot_seq (id:="tuple.__mul__") (r:=some (.builtin "tuple.__rmul__")) F.slot_tuple_mul.lookup (by decide +kernel) F.slot_tuple_rmul.lookup (by decide +kernel)
theorem Yt:seqRepeat? (.type "tuple")=pure (some (.builtin "tuple.__mul__")):=by
 unfold seqRepeat?
 rw[PySem.seqSlot_of (T:="tuple") (name:="__mul__") (id:="tuple.__mul__") F.slot_tuple_mul.lookup (by decide +kernel),PySem.seqSlot_of (T:="tuple") (name:="__rmul__") (id:="tuple.__rmul__") F.slot_tuple_rmul.lookup (by decide +kernel)]
 rfl
theorem Gh8(x:Int)(t:Tok)(l:Addr)(xs:Array Value)(n:Nat)(d:Option Addr)(sl:Array (Option Value)):
  Meets (Builtin.«int.__rmul__» ⟨[.int x t,.ref l],[]⟩) (fun _ R s=>s.heap.get? l=some { cls:=.type "tuple",dict:=d,data:=.seq xs n,slots:=sl }/\R (.ok (.ret Value.notImplemented)) s):=
 .of_wp fun prog w A R s h=>by obtain⟨hp,g,d,tk,os⟩:=s; obtain⟨hl,h⟩:=h; wp_walk; exact⟨_,rfl,h⟩
theorem Gus(x:Int)(t:Tok)(l:Addr)(xs:Array Value)(n:Nat)(d:Option Addr)(sl:Array (Option Value))(c0:¬ (decide (x < -2^63)||decide (x≥2^63))=true)(c1:¬ (xs.isEmpty||x==1)=true)(c2:¬ (decide (x<=0)||xs.isEmpty)=true)(c3:¬ (xs.size:Int)*x>(2^63-1) / 8)(c4:¬ Builtin.Tuple.tupleTooMany ((xs.size:Int)*x)=true)(c5:(List.foldl (fun x1 x2=>x1++x2) #[] (List.replicate x.toNat xs)).size<=sizeLine):
  Meets (Builtin.«tuple.__mul__» ⟨[.ref l,.int x t],[]⟩) (fun _ R s=>s.heap.get? l=some { cls:=.type "tuple",dict:=d,data:=.seq xs n,slots:=sl }/\R (.ok (.ret (Value.ref s.heap.objs.size))) { s with heap:=s.heap.push { cls:=Value.type "tuple",data:=Data.seq (List.foldl (fun x1 x2=>x1++x2) #[] (List.replicate x.toNat xs)) },toks:=s.toks }):=
 .of_wp fun prog w A R s h=>by
  obtain⟨hp,g,d,tk,os⟩:=s; obtain⟨hl,h⟩:=h
  wp_walk
  refine wpAny_ite_false (decide_eq_false c0) ?_
  wp_walk using wpAny_loadPart' hl
  refine wpAny_ite_false (decide_eq_false c3) ?_
  wp_walk
  exact⟨_,rfl,h⟩
section
variable{X:Cx}
noncomputable def Gsn(K:PySem.W.Frag):R2:=fun x y H Q=>∃ a k xs,x=.ref a/\y=.int k/\SqT K H a xs/\xs≠[]/\2<=k/\k<=1000000/\xs.length*k.toNat<=sizeLine/\∀ p,H p=none->Q (.ref p) (upd H p (.tup (List.replicate k.toNat xs).flatten))
theorem Gpr:OpR X (binaryOp .Mult) (Gsn X.K):=by
 intro pins s σ H x y v u Q I rx ry zq0
 obtain⟨a,k,xs,e1,e2,ha,hne,k2,k3,hz,q⟩:=zq0
 subst e1 e2
 cases rx
 obtain⟨t,rfl⟩:=ry
 obtain⟨its,r1,p1,_⟩:=I.tuple ha
 obtain⟨⟨cls,dd,data,sl⟩,ho,hc,n,hd⟩:=id p1
 simp only at hc hd
 subst hc hd
 have hl:xs.length=its.length:=r1.length
 have hne':its≠[]:=fun z=>hne (r1.nil_iff.mp z)
 have hie:its.toArray.isEmpty=false:=by
  cases its with
  | nil=>exact absurd rfl hne'
  | cons _ _=>rfl
 have hnew:List.foldl (fun x1 x2=>x1++x2) #[] (List.replicate k.toNat its.toArray)=(List.replicate k.toNat its).flatten.toArray:=by
  have:=Gah its k.toNat []
  rw[List.nil_append] at this
  exact this
 have hsz:(its.toArray.size:Int)*k<=(sizeLine:Int):=by
  rw[Aj,<- hl]
  have h1:((xs.length*k.toNat:Nat):Int)<=(sizeLine:Int):=by exact_mod_cast hz
  rw[Int.natCast_mul,Int.toNat_of_nonneg (by omega)] at h1
  exact h1
 have hsl:(sizeLine:Int)<=(2^63-1) / 8:=by decide
 refine wpAny_binaryOp_repeat_ref (T:="tuple") (U:="int") (by decide) ⟨_,ho,rfl⟩ (fun s'=>typeIs_int s' k t) Gaj F.fills_int_mul F.slot_int_rmul Yt F.slot_int_index.lookup
  (call_meets F.slot_int_rmul (typeIs_int s k t) F.entry_int_rmul (F.args_int_rmul_2 _ _) (Gh8 k t a its.toArray n dd sl)
   ⟨ho,rfl,⟨_,ho,rfl⟩,call_meets F.slot_tuple_mul ⟨_,ho,rfl⟩ F.entry_tuple_mul (F.args_tuple_mul_2 _ _) (Gus k t a its.toArray n dd sl ?c0 ?c1 ?c2 ?c3 ?c4 ?c5) ⟨ho,?_⟩⟩)
 case c0=>simp; omega
 case c1=>rw[hie]; simp; omega
 case c2=>rw[hie]; simp; omega
 case c3=>omega
 case c4=>unfold Builtin.Tuple.tupleTooMany; simp; omega
 case c5=>rw[hnew,Aj,Geq,<- hl,AO]; exact hz
 rw[hnew]
 refine⟨.ref s.heap.objs.size,_,I.laid (t':=s.toks) (o:=.tup (List.replicate k.toNat xs).flatten) (fun b ob q=>Ah _ q) (Aa _) ?_,rfl,q _ (I.hok.fresh (Aa _))⟩
 exact⟨by rw[Geq,AO]; exact hz,_,r1.rep k.toNat,IsTup.new _ _⟩
end
noncomputable def Jm{α β:Type}(f:α->Option β):List α->Option (List β)
 | []=>some []
 | x::l=>match f x,Jm f l with
  | some y,some ys=>some (y::ys)
  | _,_=>none
noncomputable def toP(S:Sto):Nat->D->Option PyData
 | 0,_=>none
 | n+1,d=>match d with
  | .non=>some .none
  | .bl b=>some (.bool b)
  | .int i=>some (.int i)
  | .str x=>some (.str x)
  | .tup l=>(Jm (toP S n) l).map .tuple
  | .lst i=>match S[i]? with
   | some c=>(Jm (toP S n) c.xs).map .list
   | none=>none
  | .exn _ _=>none
  | .fv _=>none
  | .dct _=>none
section
variable{X:Cx}{pins:List (Addr×Obj)}{σ:L2.St}{H:Hp}{s:Shared}{mp:List Addr}{S:Sto}
theorem Gev{f:D->Option PyData}{K:PySem.W.Frag}(hf:∀ (d:D) (v:V) (u:Value) (p:PyData),Rep K mp H d v->Gz v u->f d=some p->∃ as,Reads s.heap u p as):∀ (l:List D) (vs:List V) (us:List Value) (ps:List PyData),RepL K mp H l vs->Vals vs us->Jm f l=some ps->∃ as,ReadsAll s.heap us ps as
 | [],vs,us,ps,h,r,e=>by
  cases (show vs=[] from h); cases r
  cases (Ac e)
  exact⟨_,.nil⟩
 | d::l,vs,us,ps,h,r,e=>by
  obtain⟨v,vr,rfl,h1,h2⟩:=(show ∃ v r,vs=v::r/\Rep K mp H d v/\RepL K mp H l r from h)
  cases r with
  | cons r1 r2=>
   cases z1:f d with
   | none=>simp only[Jm,z1] at e; cases e
   | some p=>
    cases z2:Jm f l with
    | none=>simp only[Jm,z1,z2] at e; cases e
    | some qs=>
     simp only[Jm,z1,z2] at e
     cases (Ac e)
     obtain⟨as,ra⟩:=hf d v _ p h1 r1 z1
     obtain⟨bs,rb⟩:=Gev hf l vr _ qs h2 r2 z2
     exact⟨_,.cons ra rb⟩
theorem Gb2(I:Inv X pins σ H s)(rs:RS X.K mp H S):∀ (n:Nat) (d:D) (v:V) (u:Value) (p:PyData),Rep X.K mp H d v->Gz v u->toP S n d=some p->∃ as,Reads s.heap u p as:=by
 intro n
 induction n with
 | zero=>intro d v u p h r e; cases e
 | succ n ih=>
  intro d v u p h r e
  cases d with
  | non=>
   cases (show v=.non from h); cases (show u=Value.none from r)
   cases (Ac e)
   exact⟨_,.none⟩
  | bl b=>
   cases (show v=.bl b from h); cases (show u=Value.bool b from r)
   cases (Ac e)
   exact⟨_,.bool b⟩
  | int i=>
   cases (show v=.int i from h); obtain⟨t,rfl⟩:=(show ∃ t,u=Value.int i t from r)
   cases (Ac e)
   exact⟨_,.int i t⟩
  | str x=>
   cases (show v=.str x from h); obtain⟨t,rfl⟩:=(show ∃ t,u=Value.str x t from r)
   cases (Ac e)
   exact⟨_,.str x t⟩
  | tup l=>
   obtain⟨a,xs,rfl,sq,q⟩:=Rep.tup h
   cases (show u=Value.ref a from r)
   obtain⟨its,rv,⟨o,ho,hc,k,hd⟩,_⟩:=I.tuple sq
   have e:(Jm (toP S n) l).map PyData.tuple=some p:=e
   cases z:Jm (toP S n) l with
   | none=>rw[z] at e; cases e
   | some ps=>
    rw[z] at e
    cases (Ac e)
    obtain⟨as,ra⟩:=Gev ih l xs its ps q rv z
    exact⟨as,.tuple ho hc hd (by simpa using ra)⟩
  | lst i=>
   have e:(match S[i]? with | some c=>(Jm (toP S n) c.xs).map PyData.list | none=>none)=some p:=e
   cases zc:S[i]? with
   | none=>rw[zc] at e; cases e
   | some c=>
    rw[zc] at e
    obtain⟨a,xs,rfl,_,sq,q,_⟩:=rs.items h zc
    cases (show u=Value.ref a from r)
    obtain⟨its,rv,⟨o,k,ho,hc,_,hd⟩,_⟩:=I.list sq
    have e:(Jm (toP S n) c.xs).map PyData.list=some p:=e
    cases z:Jm (toP S n) c.xs with
    | none=>rw[z] at e; cases e
    | some ps=>
     rw[z] at e
     cases (Ac e)
     obtain⟨as,ra⟩:=Gev ih c.xs xs its ps q rv z
     exact⟨_,.list ho hc hd (by simpa using ra)⟩
  | exn c n=>cases (show(none:Option PyData)=some p from e)
  | fv c=>cases (show(none:Option PyData)=some p from e)
  | dct c=>cases (show(none:Option PyData)=some p from e)
end
noncomputable def eqD(x y:D)(S:Sto):Out D:=match toP S 40 x,toP S 40 y with
 | some p,some q=>if(SeqAt.shaped p&&SeqAt.shaped q)=true then .ok (.bl (PyData.eqv p q)) S else .bad
 | _,_=>.bad
noncomputable def neD(x y:D)(S:Sto):Out D:=match toP S 40 x,toP S 40 y with
 | some p,some q=>if(SeqAt.shaped p&&SeqAt.shaped q)=true then .ok (.bl (!PyData.eqv p q)) S else .bad
 | _,_=>.bad
section
variable{X:Cx}{XQ:XW}
noncomputable def OpX(X:Cx)(f:Value->Value->Sem Value)(o:D->D->Sto->Out D):Prop:=
 ∀ (pins:List (Addr×Obj)) (s:Shared) (σ:L2.St) (ρ:Lc) (XQ:XW) (mp:List Addr) (H:Hp) (S:Sto) (x y:D) (v u:V) (vv uv:Value) (Q:VK),Inv X pins σ H s->RS X.K mp H S->Rep X.K mp H x v->Rep X.K mp H y u->Gz v vv->Gz u uv->Post X.K XQ σ ρ mp H (o x y S) Q→
  (∀ (e:XD) (S':Sto),o x y S≠.exc e S')->wpAny (model X.prog X.w) X.A (f vv uv) (EP X pins σ Q) X.xe s
theorem Gml{a b:Expr}{op:CmpOp}{fa fb:Ev D}{o:D->D->Sto->Out D}{pos:Pos}(ho:OpX X (compareOp op) o)(hno:∀ x y S e S',o x y S≠.exc e S')(ha:JE X XQ a fa)(hb:JE X XQ b fb)(hm:behindInMarks op b=false):JE X XQ (.Compare a [op] [b] pos) (o2 o fa fb):=by
 intro pins s σ H Q I zq0
 obtain⟨mp,ρ,S,G,p⟩:=zq0
 refine wpAny_Compare1 (thn (ha pins s σ H _ I (bindP G p fun mp1 H1 x S1 v a1 G1 r1 p1=>(⟨mp1,ρ,S1,x,G1,r1,p1⟩:∃ mp1 ρ S1 x,Gd X.K mp1 H1 σ ρ S1/\Rep X.K mp1 H1 x v/\Post X.K XQ σ ρ mp1 H1 ((fb ρ S1).bind fun y S2=>o x y S2) Q))) fun vv s1 zq0=>?_) hm
 obtain⟨v,H1,I1,rv,mp1,ρ1,S1,x,G1,r1,p1⟩:=zq0
 refine thn (hb pins s1 σ H1 _ I1 (bindP G1 p1 fun mp2 H2 y S2 u a2 G2 r2 p2=>(⟨mp2,ρ1,S2,x,y,v,G2,Rep.aft a2 _ _ r1,r2,rfl,p2⟩:∃ mp2 ρ S2 x y v',Gd X.K mp2 H2 σ ρ S2/\Rep X.K mp2 H2 x v'/\Rep X.K mp2 H2 y u/\v'=v/\Post X.K XQ σ ρ mp2 H2 (o x y S2) Q))) fun uv s2 zq0=>?_
 obtain⟨u,H2,I2,ru,mp2,ρ2,S2,x2,y,v',G2,rx,ry,ev,p2⟩:=zq0
 subst ev
 exact ho pins s2 σ ρ2 XQ mp2 H2 S2 x2 y _ u vv uv Q I2 G2.rs rx ry rv ru p2 (hno _ _ _)
theorem Gh9{a b:Expr}{op:CmpOp}{fa fb:Ev D}{o:D->D->Sto->Out D}{pos:Pos}(ho:OpX X (compareOp op) o)(hno:∀ x y S e S',o x y S≠.exc e S')(ha:JE X XQ a fa)(hb:JE X XQ b fb)(hm:behindInMarks op b=false):JT X XQ (.Compare a [op] [b] pos) (tb (o2 o fa fb)):=by
 intro pins s σ H Q I h
 obtain⟨mp,ρ,S,G,p⟩:=Gmh h
 refine wpAny_isTrue_Compare1 (thn (ha pins s σ H _ I (bindP G p fun mp1 H1 x S1 v a1 G1 r1 p1=>(⟨mp1,ρ,S1,x,G1,r1,p1⟩:∃ mp1 ρ S1 x,Gd X.K mp1 H1 σ ρ S1/\Rep X.K mp1 H1 x v/\Post X.K XQ σ ρ mp1 H1 ((fb ρ S1).bind fun y S2=>o x y S2) (fun x H1=>∃ k,x=.bl k/\Q k H1)))) fun vv s1 zq0=>?_) hm
 obtain⟨v,H1,I1,rv,mp1,ρ1,S1,x,G1,r1,p1⟩:=zq0
 refine thn (hb pins s1 σ H1 _ I1 (bindP G1 p1 fun mp2 H2 y S2 u a2 G2 r2 p2=>(⟨mp2,ρ1,S2,x,y,v,G2,Rep.aft a2 _ _ r1,r2,rfl,p2⟩:∃ mp2 ρ S2 x y v',Gd X.K mp2 H2 σ ρ S2/\Rep X.K mp2 H2 x v'/\Rep X.K mp2 H2 y u/\v'=v/\Post X.K XQ σ ρ mp2 H2 (o x y S2) (fun x H1=>∃ k,x=.bl k/\Q k H1)))) fun uv s2 zq0=>?_
 obtain⟨u,H2,I2,ru,mp2,ρ2,S2,x2,y,v',G2,rx,ry,ev,p2⟩:=zq0
 subst ev
 refine thn (ho pins s2 σ ρ2 XQ mp2 H2 S2 x2 y _ u vv uv _ I2 G2.rs rx ry rv ru p2 (hno _ _ _)) fun c s3 zq0=>?_
 obtain⟨z,H3,I3,r3,k,e,q3⟩:=zq0
 subst e
 cases r3
 exact wpAny_truthy_bool ⟨H3,I3,q3⟩
theorem Gso(hu:X.A.units+64<cLine):OpX X (compareOp .Eq) eqD:=by
 intro pins s σ ρ XQ mp H S x y v u vv uv Q I rs rx ry rv ru p _
 unfold eqD at p
 cases z1:toP S 40 x with
 | none=>simp only[z1] at p; exact p.elim
 | some a=>
  cases z2:toP S 40 y with
  | none=>simp only[z1,z2] at p; exact p.elim
  | some b=>
   simp only[z1,z2] at p
   by_cases hs:(SeqAt.shaped a&&SeqAt.shaped b)=true
   ·rw[if_pos hs] at p
    obtain⟨as,ra⟩:=Gb2 I rs 40 x v vv a rx rv z1
    obtain⟨bs,rb⟩:=Gb2 I rs 40 y u uv b ry ru z2
    rw[As] at hs
    exact SeqAt.compareEq_shaped ra rb hs.1 hs.2 hu ⟨.bl _,H,I,rfl,Gi.ok (R:=Rep X.K) p rs rfl⟩
   ·rw[if_neg hs] at p; exact p.elim
theorem Gsp(hu:X.A.units+64<cLine):OpX X (compareOp .NotEq) neD:=by
 intro pins s σ ρ XQ mp H S x y v u vv uv Q I rs rx ry rv ru p _
 unfold neD at p
 cases z1:toP S 40 x with
 | none=>simp only[z1] at p; exact p.elim
 | some a=>
  cases z2:toP S 40 y with
  | none=>simp only[z1,z2] at p; exact p.elim
  | some b=>
   simp only[z1,z2] at p
   by_cases hs:(SeqAt.shaped a&&SeqAt.shaped b)=true
   ·rw[if_pos hs] at p
    obtain⟨as,ra⟩:=Gb2 I rs 40 x v vv a rx rv z1
    obtain⟨bs,rb⟩:=Gb2 I rs 40 y u uv b ry ru z2
    rw[As] at hs
    exact SeqAt.compareNe_shaped ra rb hs.1 hs.2 hu ⟨.bl _,H,I,rfl,Gi.ok (R:=Rep X.K) p rs rfl⟩
   ·rw[if_neg hs] at p; exact p.elim
theorem Gsq(x y:D)(S:Sto)(e:XD)(S':Sto):eqD x y S≠.exc e S':=by
 unfold eqD
 split
 ·split<;>exact fun z=>nomatch z
 ·exact fun z=>nomatch z
theorem Gsr(x y:D)(S:Sto)(e:XD)(S':Sto):neD x y S≠.exc e S':=by
 unfold neD
 split
 ·split<;>exact fun z=>nomatch z
 ·exact fun z=>nomatch z
noncomputable def i2(C:Int->Int->Bool)(g:Int->Int->D):D->D->Sto->Out D:=fun x y S=>match x,y with
 | .int i,.int j=>if C i j=true then .ok (g i j) S else .bad
 | _,_=>.bad
theorem Gew{K:PySem.W.Frag}{C:Int->Int->Prop}{c:Int->Int->Bool}{g:Int->Int->V}{gd:Int->Int->D}(hc:∀ i j,c i j=true->C i j)(hg:∀ mp H i j,Rep K mp H (gd i j) (g i j)):OpD K (rI C g) (i2 c gd):=by
 intro XQ σ ρ mp H S x y v u Q rs rx ry p
 cases x with
 | int i=>
  cases y with
  | int j=>
   have p:Post K XQ σ ρ mp H (if c i j=true then .ok (gd i j) S else .bad) Q:=p
   by_cases h:c i j=true
   ·rw[if_pos h] at p
    exact⟨i,j,rx,ry,hc i j h,Gi.ok (R:=Rep K) p rs (hg mp H i j)⟩
   ·rw[if_neg h] at p; exact p.elim
  | _=>exact(show False from p).elim
 | _=>exact(show False from p).elim
theorem od_int0{K:PySem.W.Frag}{g:Int->Int->V}{gd:Int->Int->D}(hg:∀ mp H i j,Rep K mp H (gd i j) (g i j)):OpD K (rI0 g) (i2 (fun _ _=>true) gd):=by
 intro XQ σ ρ mp H S x y v u Q rs rx ry p
 obtain⟨i,j,h1,h2,_,h3⟩:=Gew (C:=fun _ _=>True) (c:=fun _ _=>true) (fun _ _ _=>trivial) hg XQ σ ρ mp H S x y v u Q rs rx ry p
 exact⟨i,j,h1,h2,h3⟩
noncomputable abbrev Gdd:=i2 (fun _ _=>true) fun i j=>.int (i-j)
noncomputable abbrev Wj:=i2 (fun _ j=>decide (0<j)) fun i j=>.int (i%j)
noncomputable abbrev Ggh:=i2 (fun i j=>decide (0<=j/\j<=1000000/\i.natAbs<2^64)) fun i j=>.int (i^j.toNat)
noncomputable abbrev ltD:=i2 (fun _ _=>true) fun i j=>.bl (decide (i<j))
noncomputable abbrev leD:=i2 (fun _ _=>true) fun i j=>.bl (decide (i<=j))
noncomputable abbrev gtD:=i2 (fun _ _=>true) fun i j=>.bl (decide (j<i))
noncomputable abbrev geD:=i2 (fun _ _=>true) fun i j=>.bl (decide (j<=i))
section
variable{a b:Expr}{fa fb:Ev D}{pos:Pos}
end
noncomputable def Gx(x y:D)(S:Sto):Out D:=match x,y with
 | .int i,.int j=>.ok (.int (i+j)) S
 | .str a,.str b=>if a.length+b.length<=1000000 then .ok (.str (a++b)) S else .bad
 | .lst i,.lst j=>match S[i]?,S[j]? with
  | some c,some e=>if(c.fz=false/\e.fz=false)/\c.xs.length+e.xs.length<=1000000 then .ok (.lst S.length) (S++[⟨false,c.xs++e.xs⟩]) else .bad
  | _,_=>.bad
 | .tup a,.tup b=>if a.length+b.length<=1000000 then .ok (.tup (a++b)) S else .bad
 | _,_=>.bad
noncomputable def Gss(K:PySem.W.Frag):R2:=fun x y H Q=>∃ a b ys,x=.ref a/\y=.ref b/\SqT K H a []/\SqT K H b ys/\Q (.ref b) H
theorem Gps:OpR X (binaryOp .Add) (Gss X.K):=by
 intro pins s σ H x y v u Q I rx ry zq0
 obtain⟨a,b,ys,e1,e2,ha,hb,q⟩:=zq0
 subst e1 e2
 cases rx; cases ry
 obtain⟨its,r1,p1,_⟩:=I.tuple ha
 obtain⟨its2,r2,p2,_⟩:=I.tuple hb
 have ei:=r1.nil_iff.mpr rfl
 subst ei
 obtain⟨⟨cls,dd,data,sl⟩,ho,hc,n,hd⟩:=id p1
 obtain⟨⟨cls2,dd2,data2,sl2⟩,ho2,hc2,n2,hd2⟩:=id p2
 simp only at hc hd hc2 hd2
 subst hc hd hc2 hd2
 exact concat_meets ⟨_,ho,rfl⟩ ⟨_,ho2,rfl⟩ noFill_tuple_add seq_tuple_add PySem.F.slot_tuple_add PySem.F.entry_tuple_add (PySem.F.args_tuple_add_2 _ _)
  (tuple_addW0 a b [].toArray its2.toArray n n2 dd dd2 sl sl2 (by rfl)) ⟨ho,ho2,⟨.ref b,H,I,rfl,q⟩⟩
noncomputable def Gst(K:PySem.W.Frag):R2:=fun x y H Q=>rI0 (fun i j=>.int (i+j)) x y H Q\/(∃ i j,x=.str i/\y=.str j/\i.length+j.length<=sizeLine/\Q (.str (i++j)) H)\/Gx9 x y H Q\/Gsj K x y H Q\/Gss K x y H Q
theorem Gpt:OpR X (binaryOp .Add) (Gst X.K):=Gt1.or (Ghy.or (Guj.or (Gpf.or Gps)))
theorem Gut{K:PySem.W.Frag}:OpD K (Gst K) Gx:=by
 intro XQ σ ρ mp H S x y v u Q rs rx ry p
 unfold Gx at p
 split at p
 ·exact .inl ⟨_,_,rx,ry,Gi.ok (R:=Rep K) p rs rfl⟩
 ·rename_i a b
  by_cases h:a.length+b.length<=1000000
  ·rw[if_pos h] at p
   exact .inr (.inl ⟨_,_,rx,ry,line_le h,Gi.ok (R:=Rep K) p rs rfl⟩)
  ·rw[if_neg h] at p; exact p.elim
 ·rename_i i j
  split at p
  ·rename_i c e zc ze
   by_cases h:(c.fz=false/\e.fz=false)/\c.xs.length+e.xs.length<=1000000
   ·rw[if_pos h] at p
    obtain⟨a1,xs,rfl,_,_,q1,f1⟩:=rs.items rx zc
    obtain⟨a2,ys,rfl,_,_,q2,f2⟩:=rs.items ry ze
    refine .inr (.inr (.inl ⟨a1,a2,xs,ys,rfl,rfl,f1 h.1.1,f2 h.1.2,by rw[q1.len,q2.len]; exact line_le h.2,fun q hq=>Vf p rs (q1.append q2) hq⟩))
   ·rw[if_neg h] at p; exact p.elim
  ·exact p.elim
 ·rename_i a b
  by_cases h:a.length+b.length<=1000000
  ·rw[if_pos h] at p
   obtain⟨a1,xs,rfl,s1,q1⟩:=Rep.tup rx
   obtain⟨a2,ys,rfl,s2,q2⟩:=Rep.tup ry
   have l1:=q1.len
   have l2:=q2.len
   by_cases he:xs=[]
   ·subst he
    have ea:a=[]:=by cases a with | nil=>rfl | cons _ _=>simp at l1
    subst ea
    exact .inr (.inr (.inr (.inr ⟨a1,a2,ys,rfl,rfl,s1,s2,Gi.ok (R:=Rep K) p rs ry⟩)))
   ·refine .inr (.inr (.inr (.inl ⟨a1,a2,xs,ys,rfl,rfl,s1,s2,he,by rw[l1,l2]; exact line_le h,fun z=>?_,fun _ q hq=>Ve p rs (q1.append q2) hq⟩)))
    subst z
    have eb:b=[]:=by cases b with | nil=>rfl | cons _ _=>simp at l2
    subst eb
    rw[A4] at p
    exact Gi.ok (R:=Rep K) p rs rx
  ·rw[if_neg h] at p; exact p.elim
 ·exact p.elim
noncomputable def Jl(x y:D)(S:Sto):Out D:=match x,y with
 | .int i,.int j=>if(-(2^64)<i/\i<2^64)\/(-(2^64)<j/\j<2^64) then .ok (.int (i*j)) S else .bad
 | .lst i,.int k=>match S[i]? with
  | some c=>if c.fz=false/\(-1000000<=k/\k<=1000000)/\c.xs.length*k.toNat<=1000000 then .ok (.lst S.length) (S++[⟨false,(List.replicate k.toNat c.xs).flatten⟩]) else .bad
  | none=>.bad
 | .tup l,.int k=>if 0<l.length/\(2<=k/\k<=1000000)/\l.length*k.toNat<=1000000 then .ok (.tup (List.replicate k.toNat l).flatten) S else .bad
 | _,_=>.bad
noncomputable def Gsu(K:PySem.W.Frag):R2:=fun x y H Q=>rI CMul (fun i j=>.int (i*j)) x y H Q\/Gya x y H Q\/Gsn K x y H Q
theorem Gpu:OpR X (binaryOp .Mult) (Gsu X.K):=Gt3.or (Guk.or Gpr)
theorem RepL.flat{K:PySem.W.Frag}{mp:List Addr}{H:Hp}{l:List D}{vs:List V}(h:RepL K mp H l vs):∀ k:Nat,RepL K mp H (List.replicate k l).flatten (List.replicate k vs).flatten
 | 0=>RepL.nil
 | k+1=>by
  rw[AX,AX,A9,A9]
  exact RepL.append h (RepL.flat h k)
theorem Guu{K:PySem.W.Frag}:OpD K (Gsu K) Jl:=by
 intro XQ σ ρ mp H S x y v u Q rs rx ry p
 unfold Jl at p
 split at p
 ·rename_i i j
  by_cases h:(-(2^64)<i/\i<2^64)\/(-(2^64)<j/\j<2^64)
  ·rw[if_pos h] at p
   exact .inl ⟨_,_,rx,ry,h,Gi.ok (R:=Rep K) p rs rfl⟩
  ·rw[if_neg h] at p; exact p.elim
 ·rename_i i k
  split at p
  ·rename_i c zc
   by_cases h:c.fz=false/\(-1000000<=k/\k<=1000000)/\c.xs.length*k.toNat<=1000000
   ·rw[if_pos h] at p
    obtain⟨a1,xs,rfl,_,_,q1,f1⟩:=rs.items rx zc
    exact .inr (.inl ⟨a1,k,xs,rfl,ry,f1 h.1,by omega,by omega,by rw[q1.len]; exact line_le h.2.2,fun q hq=>Vf p rs (q1.flat _) hq⟩)
   ·rw[if_neg h] at p; exact p.elim
  ·exact p.elim
 ·rename_i l k
  by_cases h:0<l.length/\(2<=k/\k<=1000000)/\l.length*k.toNat<=1000000
  ·rw[if_pos h] at p
   obtain⟨a1,xs,rfl,s1,q1⟩:=Rep.tup rx
   have hl:=q1.len
   exact .inr (.inr ⟨a1,k,xs,rfl,ry,s1,fun z=>by rw[z] at hl; simp at hl; omega,h.2.1.1,h.2.1.2,by rw[q1.len]; exact line_le h.2.2,fun q hq=>Ve p rs (q1.flat _) hq⟩)
  ·rw[if_neg h] at p; exact p.elim
 ·exact p.elim
noncomputable def Ggi(x:D)(S:Sto):Out D:=match x with
 | .int i=>.ok (.int (-i)) S
 | _=>.bad
noncomputable def getD(x y:D)(S:Sto):Out D:=match x,y with
 | .tup l,.int i=>match atI l i with
  | some d=>.ok d S
  | none=>.bad
 | .lst k,.int i=>match S[k]? with
  | some c=>match atI c.xs i with
   | some d=>.ok d S
   | none=>.bad
  | none=>.bad
 | .str z,.int i=>if z.length<=1000000 then(match atI z.cps.toList i with
  | some c=>.ok (.str ⟨#[c]⟩) S
  | none=>.bad) else .bad
 | _,_=>.bad
theorem RepL.atI{K:PySem.W.Frag}{mp:List Addr}{H:Hp}{l:List D}{vs:List V}{i:Int}{d:D}(h:RepL K mp H l vs)(e:L2.atI l i=some d):∃ v,L2.atI vs i=some v/\Rep K mp H d v:=by
 unfold L2.atI at e ⊢
 rw[h.len]
 cases z:ixN l.length i with
 | none=>rw[z] at e; cases e
 | some j=>
  rw[z] at e
  exact h.get e
theorem Guv{K:PySem.W.Frag}:OpD K (rIx K) getD:=by
 intro XQ σ ρ mp H S x y v u Q rs rx ry p
 unfold getD at p
 split at p
 ·rename_i l i
  split at p
  ·rename_i d zd
   obtain⟨a,xs,rfl,sq,q⟩:=Rep.tup rx
   obtain⟨w,hw,rw'⟩:=q.atI zd
   exact .inr (.inl ⟨a,xs,i,w,rfl,ry,sq,hw,Gi.ok (R:=Rep K) p rs rw'⟩)
  ·exact p.elim
 ·rename_i k i
  split at p
  ·rename_i c zc
   split at p
   ·rename_i d zd
    obtain⟨a,xs,rfl,_,sq,q,_⟩:=rs.items rx zc
    obtain⟨w,hw,rw'⟩:=q.atI zd
    exact .inl ⟨a,xs,i,w,rfl,ry,sq,hw,Gi.ok (R:=Rep K) p rs rw'⟩
   ·exact p.elim
  ·exact p.elim
 ·rename_i z i
  by_cases h:z.length<=1000000
  ·rw[if_pos h] at p
   split at p
   ·rename_i c zc
    exact .inr (.inr ⟨z,i,c,rx,ry,line_le h,zc,Gi.ok (R:=Rep K) p rs rfl⟩)
   ·exact p.elim
  ·rw[if_neg h] at p; exact p.elim
 ·exact p.elim
noncomputable def Vg(x y z:D)(S:Sto):Option Sto:=match x,y with
 | .lst k,.int i=>match S[k]? with
  | some c=>match ixN c.xs.length i with
   | some j=>if c.fz=false then some (S.set k ⟨false,c.xs.set j z⟩) else none
   | none=>none
  | none=>none
 | _,_=>none
theorem Guw{K:PySem.W.Frag}:Gun Gsk K Vg:=by
 intro mp H S S' x y z v u w Q rs rx ry rz e k
 unfold Vg at e
 split at e
 ·rename_i kk i
  split at e
  ·rename_i c zc
   split at e
   ·rename_i j zj
    by_cases hf:c.fz=false
    ·rw[if_pos hf] at e
     cases (Ac e)
     obtain⟨a,xs,rfl,ha,sq,q,f⟩:=rs.items rx zc
     have hH:=f hf
     obtain⟨af,rs'⟩:=rs.setL ha zc hf hH (q.set j rz)
     exact⟨a,xs,i,j,rfl,ry,hH,by rw[q.len]; exact zj,k _ af rs'⟩
    ·rw[if_neg hf] at e; cases e
   ·cases e
  ·cases e
 ·cases e
end
section
variable{X:Cx}{XQ:XW}
noncomputable def BlD(K:PySem.W.Frag)(r:List V->Hp->VK->Prop)(o:List D->Sto->Out D):Prop:=
 ∀ (XQ:XW) (σ:L2.St) (ρ:Lc) (mp:List Addr) (H:Hp) (S:Sto) (xs:List D) (vs:List V) (Q:VK),RS K mp H S->RepL K mp H xs vs->Post K XQ σ ρ mp H (o xs S) Q->r vs H Q
noncomputable def b1(o:List D->Sto->Out D)(f:Ev (List D)):Ev D:=fun ρ S=>(f ρ S).bind o
theorem cbR{r:List V->Hp->VK->Prop}{o:List D->Sto->Out D}{f:Ev (List D)}(hd:BlD X.K r o)(σ:L2.St)(H:Hp)(Q:VK)(h:rdE X.K XQ (b1 o f) σ H Q):tCB r (rdA X.K XQ f) σ H Q:=by
 obtain⟨mp,ρ,S,G,p⟩:=h
 exact bindP G p fun mp1 H1 xs S1 vs a1 G1 r1 p1=>hd XQ σ ρ mp1 H1 S1 xs vs Q G1.rs r1 p1
theorem Gex{id:String}{x:Str}{p pos:Pos}{e:Expr}{es:List Expr}{r:List V->Hp->VK->Prop}{o:List D->Sto->Out D}{f:Ev (List D)}(hc:Vb X (.builtin id) r)(hd:BlD X.K r o)(hg:Gl X x)(hm:X.mg x=none)(hv:bootBuiltins x=some (.builtin id))(ha:JA X XQ (e::es) f)(hn:x≠"__name__":=by decide)(hdb:(x==("__debug__":Str))=false:=by decide)
  (he:starEach (e::es) X.env=(false,eval e X.env)::starEach es X.env:=by rfl) (hpl:(backTo pos (starEach es X.env)).any (·.1)=false:=by rfl):JE X XQ (.Call (.Name x p) (e::es) [] pos) (b1 o f):=
 PE.mono (Zd hc hg hm hv ha hn hdb he hpl) (cbR hd)
theorem Gmm{T:String}{x:Str}{p pos:Pos}{e:Expr}{es:List Expr}{r:List V->Hp->VK->Prop}{o:List D->Sto->Out D}{f:Ev (List D)}(hc:Vb X (.type T) r)(hd:BlD X.K r o)(hg:Gl X x)(hm:X.mg x=none)(hv:bootBuiltins x=some (.type T))(ha:JA X XQ (e::es) f)(hn:x≠"__name__":=by decide)(hdb:(x==("__debug__":Str))=false:=by decide)
  (he:starEach (e::es) X.env=(false,eval e X.env)::starEach es X.env:=by rfl) (hpl:(backTo pos (starEach es X.env)).any (·.1)=false:=by rfl):JE X XQ (.Call (.Name x p) (e::es) [] pos) (b1 o f):=
 PE.mono (Gk1 hc hg hm hv ha hn hdb he hpl) (cbR hd)
noncomputable def Hr(xs:List D)(S:Sto):Out D:=match xs with
 | [.str z]=>if z.length<=1000000 then .ok (.int z.length) S else .bad
 | [.tup l]=>.ok (.int l.length) S
 | [.lst i]=>match S[i]? with
  | some c=>.ok (.int c.xs.length) S
  | none=>.bad
 | _=>.bad
theorem Gux{K:PySem.W.Frag}:BlD K (fun xs H Q=>∃ x n,xs=[x]/\Gx0 K x H n/\Q (.int n) H) Hr:=by
 intro XQ σ ρ mp H S xs vs Q rs r p
 unfold Hr at p
 split at p
 ·rename_i z
  obtain⟨v,rfl,h⟩:=RepL.one r
  cases (show v=.str z from h)
  by_cases hz:z.length<=1000000
  ·rw[if_pos hz] at p
   exact⟨_,_,rfl,⟨line_le hz,rfl⟩,Gi.ok (R:=Rep K) p rs rfl⟩
  ·rw[if_neg hz] at p; exact p.elim
 ·rename_i l
  obtain⟨v,rfl,h⟩:=RepL.one r
  obtain⟨a,xs,rfl,sq,q⟩:=Rep.tup h
  exact⟨_,xs.length,rfl,.inr ⟨xs,sq,rfl⟩,Gi.ok (R:=Rep K) p rs (by rw[q.len]; rfl)⟩
 ·rename_i i
  obtain⟨v,rfl,h⟩:=RepL.one r
  split at p
  ·rename_i c zc
   obtain⟨a,xs,rfl,_,sq,q,_⟩:=rs.items h zc
   exact⟨_,xs.length,rfl,.inl ⟨xs,sq,rfl⟩,Gi.ok (R:=Rep K) p rs (by rw[q.len]; rfl)⟩
  ·exact p.elim
 ·exact p.elim
noncomputable def Wo(xs:List D)(S:Sto):Out D:=match xs with
 | [.tup l]=>.ok (.lst S.length) (S++[⟨false,l⟩])
 | [.lst i]=>match S[i]? with
  | some c=>.ok (.lst S.length) (S++[⟨false,c.xs⟩])
  | none=>.bad
 | _=>.bad
theorem Gpv{K:PySem.W.Frag}:BlD K (fun xs H Q=>∃ p ys,xs=[.ref p]/\(SqL K H p ys\/SqT K H p ys)/\∀ l,H l=none->Q (.ref l) (upd H l (.lst ys))) Wo:=by
 intro XQ σ ρ mp H S xs vs Q rs r p
 unfold Wo at p
 split at p
 ·obtain⟨v,rfl,h⟩:=RepL.one r
  obtain⟨a,xs,rfl,sq,q⟩:=Rep.tup h
  exact⟨a,xs,rfl,.inr sq,fun l hl=>Vf p rs q hl⟩
 ·obtain⟨v,rfl,h⟩:=RepL.one r
  split at p
  ·rename_i c zc
   obtain⟨a,xs,rfl,_,sq,q,_⟩:=rs.items h zc
   exact⟨a,xs,rfl,.inl sq,fun l hl=>Vf p rs q hl⟩
  ·exact p.elim
 ·exact p.elim
noncomputable def Zf(xs:List D)(S:Sto):Out D:=match xs with
 | [.tup l]=>.ok (.tup l) S
 | [.lst i]=>match S[i]? with
  | some c=>.ok (.tup c.xs) S
  | none=>.bad
 | _=>.bad
theorem Gmn{K:PySem.W.Frag}:BlD K (fun xs H Q=>∃ p ys,xs=[.ref p]/\((SqL K H p ys/\∀ l,H l=none->Q (.ref l) (upd H l (.tup ys)))\/(SqT K H p ys/\Q (.ref p) H))) Zf:=by
 intro XQ σ ρ mp H S xs vs Q rs r p
 unfold Zf at p
 split at p
 ·obtain⟨v,rfl,h⟩:=RepL.one r
  obtain⟨a,xs,rfl,sq,q⟩:=Rep.tup h
  exact⟨a,xs,rfl,.inr ⟨sq,Gi.ok (R:=Rep K) p rs h⟩⟩
 ·obtain⟨v,rfl,h⟩:=RepL.one r
  split at p
  ·rename_i c zc
   obtain⟨a,xs,rfl,_,sq,q,_⟩:=rs.items h zc
   exact⟨a,xs,rfl,.inl ⟨sq,fun l hl=>Ve p rs q hl⟩⟩
  ·exact p.elim
 ·exact p.elim
noncomputable def Gk4(xs:List D)(S:Sto):Out D:=match xs with
 | [.int i,.int j]=>.ok (.int (if j<i then j else i)) S
 | _=>.bad
theorem Guy{K:PySem.W.Frag}:BlD K (fun xs H Q=>∃ i j,xs=[.int i,.int j]/\Q (.int (if j<i then j else i)) H) Gk4:=by
 intro XQ σ ρ mp H S xs vs Q rs r p
 unfold Gk4 at p
 split at p
 ·rename_i i j
  obtain⟨v,w,rfl,h1,h2⟩:=RepL.two r
  cases (show v=.int i from h1); cases (show w=.int j from h2)
  exact⟨i,j,rfl,Gi.ok (R:=Rep K) p rs rfl⟩
 ·exact p.elim
noncomputable def Yh(xs:List D)(S:Sto):Out D:=match xs with
 | [.int i]=>.ok (.int i) S
 | [.bl b]=>.ok (.int (if b then 1 else 0)) S
 | _=>.bad
theorem Guz{K:PySem.W.Frag}:BlD K (fun xs H Q=>(∃ i,xs=[.int i]/\Q (.int i) H)\/∃ k,xs=[.bl k]/\Q (.int (if k then 1 else 0)) H) Yh:=by
 intro XQ σ ρ mp H S xs vs Q rs r p
 unfold Yh at p
 split at p
 ·rename_i i
  obtain⟨v,rfl,h⟩:=RepL.one r
  cases (show v=.int i from h)
  exact .inl ⟨i,rfl,Gi.ok (R:=Rep K) p rs rfl⟩
 ·rename_i b
  obtain⟨v,rfl,h⟩:=RepL.one r
  cases (show v=.bl b from h)
  exact .inr ⟨b,rfl,Gi.ok (R:=Rep K) p rs rfl⟩
 ·exact p.elim
noncomputable def Gmo(x y:D)(S:Sto):Out D:=match x,y with
 | .non,.non=>.ok (.bl true) S
 | .bl _,.non=>.ok (.bl false) S
 | .int _,.non=>.ok (.bl false) S
 | .str _,.non=>.ok (.bl false) S
 | .tup _,.non=>.ok (.bl false) S
 | .lst _,.non=>.ok (.bl false) S
 | .exn _ _,.non=>.ok (.bl false) S
 | .dct _,.non=>.ok (.bl false) S
 | _,_=>.bad
noncomputable def Zg(x y:D)(S:Sto):Out D:=match x,y with
 | .non,.non=>.ok (.bl false) S
 | .bl _,.non=>.ok (.bl true) S
 | .int _,.non=>.ok (.bl true) S
 | .str _,.non=>.ok (.bl true) S
 | .tup _,.non=>.ok (.bl true) S
 | .lst _,.non=>.ok (.bl true) S
 | .exn _ _,.non=>.ok (.bl true) S
 | .dct _,.non=>.ok (.bl true) S
 | _,_=>.bad
theorem Gu0{K:PySem.W.Frag}:OpD K (fun x y H Q=>y=.non/\Q (.bl (decide (x=.non))) H) Gmo:=by
 intro XQ σ ρ mp H S x y v u Q rs rx ry p
 cases y with
 | non=>
  refine⟨ry,?_⟩
  cases x with
  | non=>cases (show v=.non from rx); exact Gi.ok (R:=Rep K) p rs (by rfl)
  | bl b=>cases (show v=.bl b from rx); exact Gi.ok (R:=Rep K) p rs (by rfl)
  | int b=>cases (show v=.int b from rx); exact Gi.ok (R:=Rep K) p rs (by rfl)
  | str b=>cases (show v=.str b from rx); exact Gi.ok (R:=Rep K) p rs (by rfl)
  | tup l=>obtain⟨a,xs,rfl,_⟩:=Rep.tup rx; exact Gi.ok (R:=Rep K) p rs (by rfl)
  | lst i=>obtain⟨a,rfl,_⟩:=(show ∃ a,v=.ref a/\mp[i]?=some a/\¬ Dcy H a from rx); exact Gi.ok (R:=Rep K) p rs (by rfl)
  | exn c n=>obtain⟨a,dx,_,rfl,_⟩:=(show ∃ a dx p,v=.ref a/\(CN K c p/\XCl K p/\H a=some (XO a p dx))/\∀ i,n=some i->∃ d,dx=some d/\H d=some (XA d i) from rx); exact Gi.ok (R:=Rep K) p rs (by rfl)
  | fv c=>exact(show False from p).elim
  | dct c=>obtain⟨a,rfl,_⟩:=(show ∃ a,v=.ref a/\mp[c]?=some a/\Dcy H a/\K.lookup a=none from rx); exact Gi.ok (R:=Rep K) p rs (by rfl)
 | _=>cases x<;>exact(show False from p).elim
theorem Gje{K:PySem.W.Frag}:OpD K (fun x y H Q=>y=.non/\Q (.bl (!decide (x=.non))) H) Zg:=by
 intro XQ σ ρ mp H S x y v u Q rs rx ry p
 cases y with
 | non=>
  refine⟨ry,?_⟩
  cases x with
  | non=>cases (show v=.non from rx); exact Gi.ok (R:=Rep K) p rs (by rfl)
  | bl b=>cases (show v=.bl b from rx); exact Gi.ok (R:=Rep K) p rs (by rfl)
  | int b=>cases (show v=.int b from rx); exact Gi.ok (R:=Rep K) p rs (by rfl)
  | str b=>cases (show v=.str b from rx); exact Gi.ok (R:=Rep K) p rs (by rfl)
  | tup l=>obtain⟨a,xs,rfl,_⟩:=Rep.tup rx; exact Gi.ok (R:=Rep K) p rs (by rfl)
  | lst i=>obtain⟨a,rfl,_⟩:=(show ∃ a,v=.ref a/\mp[i]?=some a/\¬ Dcy H a from rx); exact Gi.ok (R:=Rep K) p rs (by rfl)
  | exn c n=>obtain⟨a,dx,_,rfl,_⟩:=(show ∃ a dx p,v=.ref a/\(CN K c p/\XCl K p/\H a=some (XO a p dx))/\∀ i,n=some i->∃ d,dx=some d/\H d=some (XA d i) from rx); exact Gi.ok (R:=Rep K) p rs (by rfl)
  | fv c=>exact(show False from p).elim
  | dct c=>obtain⟨a,rfl,_⟩:=(show ∃ a,v=.ref a/\mp[c]?=some a/\Dcy H a/\K.lookup a=none from rx); exact Gi.ok (R:=Rep K) p rs (by rfl)
 | _=>cases x<;>exact(show False from p).elim
section
variable{a b:Expr}{fa fb:Ev D}{pos:Pos}
end
noncomputable def Um(xs:List D)(lo hi:Option Int):List D:=(xs.drop (HT.sIx xs.length 0 lo)).take (HT.sIx xs.length xs.length hi-HT.sIx xs.length 0 lo)
theorem RepL.cut{K:PySem.W.Frag}{mp:List Addr}{H:Hp}{l:List D}{vs:List V}(h:RepL K mp H l vs)(lo hi:Option Int):RepL K mp H (Um l lo hi) (Ggg vs lo hi):=by
 unfold Um Ggg
 rw[h.len]
 exact(h.drop _).take _
noncomputable def slD(x:D)(lo hi:Option Int)(S:Sto):Out D:=match x with
 | .tup l=>if HT.sIx l.length 0 lo=0/\HT.sIx l.length l.length hi=l.length then .bad else .ok (.tup (Um l lo hi)) S
 | .lst i=>match S[i]? with
  | some c=>.ok (.lst S.length) (S++[⟨false,Um c.xs lo hi⟩])
  | none=>.bad
 | _=>.bad
noncomputable def sl(fe:Ev D)(fl fh:Ev (Option Int)):Ev D:=fun ρ S=>(fe ρ S).bind fun x S1=>(fl ρ S1).bind fun l S2=>(fh ρ S2).bind fun u S3=>slD x l u S3
noncomputable def onone:Ev (Option Int):=fun _ S=>.ok none S
noncomputable def osome(f:Ev D):Ev (Option Int):=fun ρ S=>(f ρ S).bind fun x S1=>match x with
 | .int i=>.ok (some i) S1
 | _=>.bad
noncomputable def MeD(K:PySem.W.Frag)(r:V->List V->Hp->VK->Prop)(o:D->List D->Sto->Out D):Prop:=
 ∀ (XQ:XW) (σ:L2.St) (ρ:Lc) (mp:List Addr) (H:Hp) (S:Sto) (x:D) (xs:List D) (v:V) (vs:List V) (Q:VK),RS K mp H S->Rep K mp H x v->RepL K mp H xs vs->Post K XQ σ ρ mp H (o x xs S) Q->r v vs H Q
noncomputable def isLst(x:D)(S:Sto):Bool:=match x with
 | .lst i=>match S[i]? with
  | some _=>true
  | none=>false
 | _=>false
noncomputable def mt(o:D->List D->Sto->Out D)(fo:Ev D)(f:Ev (List D)):Ev D:=fun ρ S=>(fo ρ S).bind fun x S1=>if isLst x S1=true then(f ρ S1).bind fun xs S2=>o x xs S2 else .bad
theorem Gey{id:String}{name:Str}{o e:Expr}{es:List Expr}{apos cpos:Pos}{r:V->List V->Hp->VK->Prop}{od:D->List D->Sto->Out D}{fo:Ev D}{f:Ev (List D)}(slot:Slot "list" name id)(hty:typeOf (.builtin id)=pure (.type "method_descriptor"))(hm:MtM X id r)(hd:MeD X.K r od)(ho:JE X XQ o fo)(ha:JA X XQ (e::es) f)
  (hbase:attributeBase o name X.env (eval o X.env)=eval o X.env:=by rfl)
  (hfew:((backTo cpos (starEach (e::es) X.env)).all (fun x=>!x.1)&&(backToKw cpos (keywordEach [] X.env)).all (fun x=>x.1.isSome)
   && decide ((e::es).length+([]:List Keyword).length+(if([]:List Keyword).isEmpty then 0 else 1)<30))=true:=by rfl)
  (hline:(apos.endLine==cpos.line)=true:=by rfl) (hs:starEach (e::es) X.env=(false,eval e X.env)::starEach es X.env:=by rfl) (hplain:(backTo cpos (starEach es X.env)).any (·.1)=false:=by rfl):
  JE X XQ (.Call (.Attribute o name apos) (e::es) [] cpos) (mt od fo f):=by
 refine PE.mono (Gx8 PySem.F.plainAttrs_list slot hty hm ho ha hbase hfew hline hs hplain) fun σ H Q zq0=>?_
 obtain⟨mp,ρ,S,G,p⟩:=zq0
 refine bindP G p fun mp1 H1 x S1 v a1 G1 r1 p1=>?_
 by_cases hl:isLst x S1=true
 ·rw[if_pos hl] at p1
  have ty:tyV X.K "list" v H1:=by
   cases x with
   | lst i=>
    cases zc:S1[i]? with
    | none=>simp[isLst,zc] at hl
    | some c=>
     obtain⟨a,xs,rfl,_,sq,_⟩:=G1.rs.items r1 zc
     exact .inl ⟨rfl,xs,sq⟩
   | _=>simp[isLst] at hl
  exact⟨ty,bindP G1 p1 fun mp2 H2 xs S2 vs a2 G2 r2 p2=>hd XQ σ ρ mp2 H2 S2 x xs v vs Q G2.rs (Rep.aft a2 _ _ r1) r2 p2⟩
 ·rw[if_neg hl] at p1; exact p1.elim
noncomputable def Gez(x:D)(xs:List D)(S:Sto):Out D:=match x,xs with
 | .lst i,[d]=>match S[i]? with
  | some c=>if c.fz=false/\c.xs.length<1000000 then .ok .non (S.set i ⟨false,c.xs++[d]⟩) else .bad
  | none=>.bad
 | _,_=>.bad
theorem Gu1{K:PySem.W.Frag}:MeD K Gjb Gez:=by
 intro XQ σ ρ mp H S x xs v vs Q rs rx r p
 unfold Gez at p
 split at p
 ·rename_i i d
  split at p
  ·rename_i c zc
   by_cases hc:c.fz=false/\c.xs.length<1000000
   ·rw[if_pos hc] at p
    obtain⟨w,rfl,hw⟩:=RepL.one r
    obtain⟨a,ys,rfl,ha,sq,q,f⟩:=rs.items rx zc
    have hH:=f hc.1
    obtain⟨af,rs'⟩:=rs.setL ha zc hc.1 hH (RepL.append q (RepL.cons hw RepL.nil))
    exact⟨a,ys,w,rfl,rfl,hH,by rw[q.len]; exact Af hc.2 (by decide),p mp _ _ af rs' rfl⟩
   ·rw[if_neg hc] at p; exact p.elim
  ·exact p.elim
 ·exact p.elim
end
section
variable{X:Cx}{XQ:XW}
theorem Gu2{K:PySem.W.Frag}:UnD K (rU fun i=>.int (-i)) Ggi:=by
 intro XQ σ ρ mp H S x v Q rs rx p
 cases x with
 | int i=>exact⟨i,rx,Gi.ok (R:=Rep K) (show Post K XQ σ ρ mp H (.ok (.int (-i)) S) Q from p) rs rfl⟩
 | _=>exact(show False from p).elim
noncomputable def ch(o o':D->D->Sto->Out D)(fa fb fc:Ev D):Ev D:=fun ρ S=>(fa ρ S).bind fun x S1=>(fb ρ S1).bind fun y S2=>(o x y S2).bind fun z S3=>match z with
 | .bl k=>if k=true then(fc ρ S3).bind fun w S4=>o' y w S4 else .ok (.bl false) S3
 | _=>.bad
theorem Gu3{K:PySem.W.Frag}{r r':R2}{o o':D->D->Sto->Out D}{fa fb fc:Ev D}(hd:OpD K r o)(hd':OpD K r' o')(σ:L2.St)(H:Hp)(Q:VK)(h:rdE K XQ (ch o o' fa fb fc) σ H Q):Gl3 r r' (rdE K XQ fa) (rdE K XQ fb) (rdE K XQ fc) σ H Q:=by
 obtain⟨mp,ρ,S,G,p⟩:=h
 refine bindP G p fun mp1 H1 x S1 v a1 G1 r1 p1=>?_
 refine bindP G1 p1 fun mp2 H2 y S2 u a2 G2 r2 p2=>?_
 refine hd XQ σ ρ mp2 H2 S2 x y v u _ G2.rs (Rep.aft a2 _ _ r1) r2 ?_
 cases z:o x y S2 with
 | bad=>rw[z] at p2; exact p2
 | exc e S3=>rw[z] at p2; exact p2
 | ok d S3=>
  rw[z] at p2
  intro mp3 H3 zv a3 rs3 r3
  have p3:=Gi.aft p2 a3
  have G3:=G2.aft a3 rs3
  cases d with
  | bl k=>
   refine⟨k,r3,?_⟩
   cases k with
   | true=>exact(if_pos rfl).mpr (bindP (f:=fc) G3 (by simpa[Out.bind] using p3) fun mp4 H4 w S4 wv a4 G4 r4 p4=>hd' XQ σ ρ mp4 H4 S4 y w u wv Q G4.rs (Rep.aft (a3.trans a4) _ _ r2) r4 p4)
   | false=>exact(if_neg Ap).mpr (Gi.ok (R:=Rep K) (d:=.bl false) (S:=S3) (by simpa[Out.bind] using p3) G3.rs rfl)
  | _=>exact(show False from p3).elim
theorem Gmp{K:PySem.W.Frag}:OpD K (rI0 fun i j=>.bl (decide (i<j))) ltD:=od_int0 fun _ _ _ _=>rfl
theorem Gmq{K:PySem.W.Frag}:OpD K (rI0 fun i j=>.bl (decide (i<=j))) leD:=od_int0 fun _ _ _ _=>rfl
end
noncomputable def XAt(a c:Addr)(h:Heap):Prop:=∃ oe,h.get? a=some oe/\oe.cls=.ref c/\∃ vs,oe.data=.fields vs
section
variable{prog:Program}{w:World}{A:Around}{E:Value->Shared->Prop}{h:Heap}{g:Array GenState}{d:Drawn}{t:Nat}{os:OsState}{a c:Addr}{o:Obj}{K:PySem.W.Frag}
theorem Gu4{M:Model}(x:XAt a c h):PySem.W.Looks M h (typeOf (.ref a)) (.ref c):=by
 obtain⟨oe,h1,h2,_⟩:=x
 exact h2▸(PySem.W.Looks.ld h1).andThen .now
theorem Gu5{tp:Value}{R:Result->Shared->Prop}(X:K.In h)(k:XCl K c)(x:XAt a c h)(hq:R (.ok (.ret (.ref c))) ⟨h,g,d,t,os⟩):
  codeAny (model prog w) A (.call (.builtin "getset_descriptor.__get__") ⟨[.builtin "object.__class__",.ref a,tp],[]⟩) R ⟨h,g,d,t,os⟩:=by
 obtain⟨oe,hx,hc,_⟩:=x
 have hT5:(⟨h,g,d,t,os⟩:Shared).TypeIs (.builtin "object.__class__") "getset_descriptor":=F.typeOf_object_class
 refine codeAny_call_builtin F.slot_gs_get.plain F.entry_gs_get (F.slot_gs_get.check _ _ _ _ _ _ _ _ hT5 (F.args_gs_get _ _ _) ?_)
 have L1:=fun(M:Model)=>PySem.W.looks_mroIn (M:=M) X k.ob
 have ow:=F.owner_object_class
 repeat (any_goals (first | assumption | (with_reducible refine wpAny_loadPart_at hx ?_; rw[hc]) | (rw[ow]; with_reducible refine(L1 _).here ?_) | wp_step))
 refine⟨Code.quiet_builtin _ (by decide +kernel),codeAny_builtin F.entry_object_class ?_⟩
 repeat (any_goals (first | assumption | (with_reducible refine wpAny_loadPart_at hx ?_; rw[hc]) | wp_step))
theorem Gmr{M:Model}{nameV:Value}{Q:Unit->Shared->Prop}(X:K.In h)(k:XCl K c)(x:XAt a c h)(hq:Q () ⟨h,g,d,t,os⟩):wpAny M A (checkBuiltinCall "BaseException.__getattribute__" ⟨[.ref a,nameV],[]⟩) Q E ⟨h,g,d,t,os⟩:=by
 obtain⟨oe,hx,hc,_⟩:=x
 have bk:builtinKind "BaseException.__getattribute__"=some .slot:=by decide +kernel
 have bs:splitId "BaseException.__getattribute__"=some ("BaseException","__getattribute__"):=by decide +kernel
 have ha:=F.args_bexc_ga (.ref a) nameV
 have L1:PySem.W.Looks M h (isSubtype (.ref c) (.type "BaseException")) true:=PySem.W.looks_subIn X k.be
 simp only[checkBuiltinCall,bk,bs]
 refine wpAny_bind ?_
 ·unfold isInstance
  repeat (first | (with_reducible refine wpAny_loadPart_at hx ?_; rw[hc]) | (with_reducible refine L1.here ?_) | wp_step)
  exact hq
theorem Gms{tk:Tok}{Q:Fin->Shared->Prop}(X:K.In h)(k:XCl K c)(x:XAt a c h)(hq:Q (.done (.ret (.ref c))) ⟨h,g,d,t,os⟩):
  wpAny (model prog w) A (Builtin.«object.__getattribute__» ⟨[.ref a,.str "__class__" tk],[]⟩) Q E ⟨h,g,d,t,os⟩:=by
 obtain⟨oe,hx,hc,hv⟩:=id x
 have hT5:(⟨h,g,d,t,os⟩:Shared).TypeIs (.builtin "object.__class__") "getset_descriptor":=F.typeOf_object_class
 have f5:=F.typeOf_object_class
 have f6:=F.slot_gs_get.lookup
 have f7:=F.slot_gs_set.lookup
 have L1:=fun(M:Model)=>PySem.W.looks_findIn (M:=M) X k.cl
 repeat (any_goals (first | assumption | (with_reducible refine wpAny_loadPart_at hx ?_; rw[hc]) | with_reducible refine(L1 _).here ?_ | wp_step))
 refine Gu5 X k x ?_
 repeat (any_goals (first | assumption | wp_step))
theorem Gyg{tk:Tok}{fill expr:Bool}{Q:Value->Shared->Prop}(X:K.In h)(k:XCl K c)(x:XAt a c h)(hq:Q (.ref c) ⟨h,g,d,t,os⟩):
  wpAny (model prog w) A (getAttrBy (.ref a) (.str "__class__" tk) fill expr) Q E ⟨h,g,d,t,os⟩:=by
 obtain⟨oe,hx,hc,hv⟩:=id x
 have f3:=PySem.F.excAttr_ValueError.ga.bind (.ref a)
 have n0:(expr&&onTheHeap (Value.builtin "BaseException.__getattribute__"))=false:=by cases expr<;>rfl
 have n2:(Value.builtin "BaseException.__getattribute__"==Value.builtin "object.__getattribute__")=false:=by decide +kernel
 have n1:(onTheHeap (Value.ref c)&&Value.builtin "BaseException.__getattribute__"==Value.builtin "object.__getattribute__")=false:=by rw[n2]; rfl
 have L1:=fun(M:Model)=>PySem.W.looks_findIn (M:=M) X k.ga
 have L2:=fun(M:Model)=>PySem.W.looks_findIn (M:=M) X k.gt
 repeat (any_goals (first | assumption | (with_reducible refine wpAny_loadPart_at hx ?_; rw[hc]) | with_reducible refine(L1 _).here ?_ | with_reducible refine(L2 _).here ?_ | wp_step))
 refine codeAny_call_builtin PySem.F.excAttr_ValueError.ga.plain F.entry_bexc_ga (Gmr X k x (Gms X k x ?_))
 repeat (any_goals (first | assumption | wp_step))
theorem Gpw{Q:Option Value->Shared->Prop}(X:K.In h)(k:XCl K c)(x:XAt a c h)(hq:Q (some (.ref c)) ⟨h,g,d,t+1,os⟩):wpAny (model prog w) A (getAttr? (.ref a) "__class__") Q E ⟨h,g,d,t,os⟩:=by
 unfold getAttr? getAttrBy?
 repeat (any_goals (first | assumption | with_reducible apply Gyg X k x | wp_step))
end
theorem Ggj{K:PySem.W.Frag}{a c:Addr}(k:XCl K c):PySem.W.KitX K (.ref a) (.ref c) (XAt a c) where
 ty:=fun _ _ _ x=>Gu4 x
 it:=fun _ _ X _=>by
  obtain⟨cd,hc⟩:=Bq.mp k.cd
  unfold PySem.W.clsIn at hc
  split at hc
  ·rename_i c' d' cd' sl' ho
   intro A Q E s kp q
   unfold isType loadHead
   exact wpAny_bind (wpAny_loadPart (kp _ _ (X _ _ ho)) (wpAny_pure q))
  ·cases hc
 ne:=fun h tp dd its n sl X htp=>by
  obtain⟨cd,hc⟩:=Bq.mp k.cd
  refine Bool.eq_false_iff.mpr fun q=>?_
  have e:c=tp:=Value.ref.inj (beq_iff_eq.mp q)
  subst e
  unfold PySem.W.clsIn at hc
  split at hc
  ·rename_i c' d' cd' sl' ho
   cases (X _ _ ho).symm.trans htp
  ·cases hc
 ca:=fun{prog w A E Q s} X x q=>by
  obtain⟨hh,g,d,t,os⟩:=s
  exact Gpw X k x q
noncomputable def tyN:D->String
 | .non=>"NoneType"
 | .bl _=>"bool"
 | .int _=>"int"
 | .str _=>"str"
 | .tup _=>"tuple"
 | .lst _=>"list"
 | .exn _ _=>"exn"
 | .fv _=>"fv"
 | .dct _=>"dct"
noncomputable def isT(T t:String):Bool:=t==T||(T=="int"&&t=="bool")
noncomputable def isD(T:String)(x:D)(S:Sto):Out D:=match x with
 | .fv _=>.bad
 | .dct _=>.bad
 | _=>.ok (.bl (isT T (tyN x))) S
noncomputable def Kit(K:PySem.W.Frag)(T:String):Prop:=T∈["bool","int","str","tuple","list"]/\∀ t∈["NoneType","bool","int","str","tuple","list"],PySem.W.kitOne K (.type t) (.type T)=some (isT T t)
theorem Gpx{K:PySem.W.Frag}:Kit K "int":=by refine⟨by decide,?_⟩; intro t h; simp only[Ad,AS,or_false] at h; rcases h with rfl | rfl | rfl | rfl | rfl | rfl<;>first | rfl | decide +kernel | (with_unfolding_all rfl)
theorem Gmt{K:PySem.W.Frag}:Kit K "bool":=by refine⟨by decide,?_⟩; intro t h; simp only[Ad,AS,or_false] at h; rcases h with rfl | rfl | rfl | rfl | rfl | rfl<;>first | rfl | decide +kernel | (with_unfolding_all rfl)
theorem Xt{K:PySem.W.Frag}:Kit K "tuple":=by refine⟨by decide,?_⟩; intro t h; simp only[Ad,AS,or_false] at h; rcases h with rfl | rfl | rfl | rfl | rfl | rfl<;>first | rfl | decide +kernel | (with_unfolding_all rfl)
theorem Gjf{K:PySem.W.Frag}:Kit K "str":=by refine⟨by decide,?_⟩; intro t h; simp only[Ad,AS,or_false] at h; rcases h with rfl | rfl | rfl | rfl | rfl | rfl<;>first | rfl | decide +kernel | (with_unfolding_all rfl)
theorem Gb3{K:PySem.W.Frag}:Kit K "list":=by refine⟨by decide,?_⟩; intro t h; simp only[Ad,AS,or_false] at h; rcases h with rfl | rfl | rfl | rfl | rfl | rfl<;>first | rfl | decide +kernel | (with_unfolding_all rfl)
section
variable{X:Cx}{XQ:XW}
noncomputable def Haw(K:PySem.W.Frag)(T:String):List V->Hp->VK->Prop:=fun vs H Q=>∃ x t,vs=[x,.ty T]/\(match x with
 | .non=>t="NoneType" | .bl _=>t="bool" | .int _=>t="int" | .str _=>t="str"
 | .ref a=>(t="tuple"/\∃ xs,SqT K H a xs)\/(t="list"/\∃ xs,SqL K H a xs)\/(t="exn"/\∃ c dx,XCl K c/\H a=some (XO a c dx))
 | _=>False)/\Q (.bl (isT T t)) H
theorem Gsv{pins:List (Addr×Obj)}{σ:L2.St}{H:Hp}{s:Shared}{a c:Addr}{dx:Option Addr}(I:Inv X pins σ H s)(h:H a=some (XO a c dx)):XAt a c s.heap:=by
 obtain⟨⟨oe,h1,h2,_,h3⟩,_,_⟩:=(show Jj X.prog X.w H s.heap a (XO a c dx) from I.hok a _ h)
 exact⟨oe,h1,h2,h3⟩
theorem Gpy{T:String}(h:T∈["bool","int","str","tuple","list"]):isT T "exn"=false:=by
 simp only[Ad,AS,or_false] at h
 rcases h with rfl | rfl | rfl | rfl | rfl<;>rfl
theorem Gmu{T:String}(k:Kit X.K T):Vb X (.builtin "isinstance") (Haw X.K T):=by
 intro pins s σ H xs us Q I r zq0
 obtain⟨x,t,e,h,q⟩:=zq0
 subst e
 obtain⟨u,w,rfl,ru,rw'⟩:=Vals.two r
 cases (show w=Value.type T from rw')
 have fin:∀ tk,EP X pins σ Q (.bool (isT T t)) { s with toks:=tk }:=fun tk=>⟨.bl _,H,I.tok tk,rfl,q⟩
 cases x with
 | non=>cases (show u=Value.none from ru); cases (show t="NoneType" from h); exact PySem.W.kia_one PySem.W.kitx_none I.kIn True.intro (k.2 _ (by decide)) (fun z=>nomatch z) fin
 | bl y=>cases (show u=Value.bool y from ru); cases (show t="bool" from h); exact PySem.W.kia_one PySem.W.kitx_bool I.kIn True.intro (k.2 _ (by decide)) (fun z=>nomatch z) fin
 | int i=>obtain⟨tk,e⟩:=(show ∃ t,u=Value.int i t from ru); cases e; cases (show t="int" from h); exact PySem.W.kia_one PySem.W.kitx_int I.kIn True.intro (k.2 _ (by decide)) (fun z=>nomatch z) fin
 | str y=>obtain⟨tk,e⟩:=(show ∃ t,u=Value.str y t from ru); cases e; cases (show t="str" from h); exact PySem.W.kia_one PySem.W.kitx_str I.kIn True.intro (k.2 _ (by decide)) (fun z=>nomatch z) fin
 | ref a=>
  cases (show u=Value.ref a from ru)
  rcases h with⟨rfl,xs,sq⟩ | ⟨rfl,xs,sq⟩ | ⟨rfl,c,dx,xc,hH⟩
  ·obtain⟨its,_,⟨o,h1,h2,_⟩,_⟩:=I.tuple sq
   exact PySem.W.kia_one PySem.W.kitx_tuple I.kIn ⟨o,h1,h2⟩ (k.2 _ (by decide)) (fun z=>nomatch z) fin
  ·obtain⟨its,_,⟨o,n,h1,h2,_⟩,_⟩:=I.list sq
   exact PySem.W.kia_one PySem.W.kitx_list I.kIn ⟨o,h1,h2⟩ (k.2 _ (by decide)) (fun z=>nomatch z) fin
  ·have xa:=Gsv I hH
   have e:isT T "exn"=false:=Gpy k.1
   rw[e] at fin
   exact PySem.W.kia_one (Ggj xc) I.kIn xa (xc.bt T k.1) (fun z=>nomatch z) fin
 | _=>exact h.elim
end
section
variable{X:Cx}{XQ:XW}
noncomputable def spar(i j:Nat)(f:Ev (List D)):Sv:=fun ρ S=>bindS (f ρ S) ρ fun ds S1=>match ds with
 | [d,e]=>.nx ((ρ.set i (some d)).set j (some e)) S1
 | _=>.bad
end
section
variable{X:Cx}{XQ:XW}
noncomputable def Gsw(X:Cx)(id:String)(o:List D->Sto->Out D):Prop:=
 ∀ (pins:List (Addr×Obj)) (s:Shared) (σ:L2.St) (ρ:Lc) (XQ:XW) (mp:List Addr) (H:Hp) (S:Sto) (ds:List D) (vs:List V) (us:List Value) (Q:VK),Inv X pins σ H s->RS X.K mp H S->RepL X.K mp H ds vs->Vals vs us->Post X.K XQ σ ρ mp H (o ds S) Q→
  (∀ (e:XD) (S':Sto),o ds S≠.exc e S')->wpAny (model X.prog X.w) X.A (call (.builtin id) us) (EP X pins σ Q) X.xe s
theorem Gpz{id:String}{x:Str}{p pos:Pos}{e:Expr}{es:List Expr}{o:List D->Sto->Out D}{f:Ev (List D)}(hc:Gsw X id o)(hno:∀ ds S e S',o ds S≠.exc e S')(hg:Gl X x)(hm:X.mg x=none)(hv:bootBuiltins x=some (.builtin id))(ha:JA X XQ (e::es) f)(hn:x≠"__name__":=by decide)(hdb:(x==("__debug__":Str))=false:=by decide)
  (he:starEach (e::es) X.env=(false,eval e X.env)::starEach es X.env:=by rfl) (hpl:(backTo pos (starEach es X.env)).any (·.1)=false:=by rfl):JE X XQ (.Call (.Name x p) (e::es) [] pos) (b1 o f):=by
 intro pins s σ H Q I zq0
 obtain⟨mp,ρ,S,G,q⟩:=zq0
 refine wpAny_Call_Name_kw (Vn I hg hm hv ?_ hn hdb)
 refine PyProof.Rows.callWith_builtin1 (thn (ha pos pins s σ H _ I (bindP G q fun mp1 H1 ds S1 vs a1 G1 r1 p1=>(⟨mp1,ρ,S1,ds,G1,r1,p1⟩:∃ mp1 ρ S1 ds,Gd X.K mp1 H1 σ ρ S1/\RepL X.K mp1 H1 ds vs/\Post X.K XQ σ ρ mp1 H1 (o ds S1) Q))) fun us s1 zq0=>?_) he hpl
 obtain⟨vs,H1,I1,rv,mp1,ρ1,S1,ds,G1,r1,p1⟩:=zq0
 exact hc pins s1 σ ρ1 XQ mp1 H1 S1 ds vs us Q I1 G1.rs r1 rv p1 (hno _ _)
noncomputable def Wf(xs:List D)(S:Sto):Out D:=match xs with
 | [.non]=>.ok (.str "None") S
 | [.bl b]=>.ok (.str (if b then "True" else "False")) S
 | [.int i]=>if i.natAbs.log2<1920 then .ok (.str (toString i)) S else .bad
 | [.str x]=>if(reprText x).length<=1000000 then .ok (.str (reprText x)) S else .bad
 | [d]=>match toP S 40 d with
  | some p=>if(p.showable&&!p.hasDict&&decide (p.depth<=60))=true/\p.shown.length<=1000000 then .ok (.str p.shown) S else .bad
  | none=>.bad
 | _=>.bad
theorem Gp0(ds:List D)(S:Sto)(e:XD)(S':Sto):Wf ds S≠.exc e S':=by
 unfold Wf
 split<;>(try split)<;>(try split)<;>exact fun z=>nomatch z
theorem Gp1{k:Nat}(hr:Room k X.A):Gsw X "repr" Wf:=by
 intro pins s σ ρ XQ mp H S ds vs us Q I rs r rv p hno
 clear hno
 have big:∀ (d:D) (v:V) (a:Addr) (u:Value),Rep X.K mp H d v->v=.ref a->Gz v u->Post X.K XQ σ ρ mp H (match toP S 40 d with
   | some p=>if(p.showable&&!p.hasDict&&decide (p.depth<=60))=true/\p.shown.length<=1000000 then .ok (.str p.shown) S else .bad
   | none=>.bad) Q->wpAny (model X.prog X.w) X.A (call (.builtin "repr") [u]) (EP X pins σ Q) X.xe s:=by
  intro d v a u rd ev ru p
  subst ev
  cases z:toP S 40 d with
  | none=>rw[z] at p; exact p.elim
  | some q=>
   rw[z] at p
   by_cases h:(q.showable&&!q.hasDict&&decide (q.depth<=60))=true/\q.shown.length<=1000000
   ·have p:Post X.K XQ σ ρ mp H (.ok (.str q.shown) S) Q:=by simpa only[if_pos h] using p
    obtain⟨as,ra⟩:=Gb2 I rs 40 d _ u q rd ru z
    cases (show u=Value.ref a from ru)
    have h1:=h.1
    rw[As,As] at h1
    have hd:q.depth<=60:=of_decide_eq_true h1.2
    have hu:=hr.units
    refine repr_of_reads' ra h1.1.1 (fun z=>by rw[z] at h1; simp at h1) hr.gd (by omega) (fun _ _ e=>e) (fun h' u' tk hk=>?_) (line_le h.2)
    exact⟨.str q.shown,H,I.kept (h':=h') (t':=tk) hk,⟨_,rfl⟩,Gi.ok p rs rfl⟩
   ·simp only[if_neg h] at p; exact p.elim
 unfold Wf at p
 split at p
 ·obtain⟨v,rfl,h⟩:=RepL.one r
  obtain⟨u,rfl,ru⟩:=Vals.one rv
  cases (show v=.non from h); cases (show u=Value.none from ru)
  exact PySem.P.repr_of_none ⟨.str "None",H,I.tok _,⟨_,rfl⟩,Gi.ok (R:=Rep X.K) p rs rfl⟩
 ·rename_i b
  obtain⟨v,rfl,h⟩:=RepL.one r
  obtain⟨u,rfl,ru⟩:=Vals.one rv
  cases (show v=.bl b from h); cases (show u=Value.bool b from ru)
  exact PySem.P.repr_of_bool ⟨.str _,H,I.tok _,⟨_,rfl⟩,Gi.ok (R:=Rep X.K) p rs (by cases b<;>rfl)⟩
 ·rename_i i
  obtain⟨v,rfl,h⟩:=RepL.one r
  obtain⟨u,rfl,ru⟩:=Vals.one rv
  cases (show v=.int i from h); obtain⟨t,rfl⟩:=(show ∃ t,u=Value.int i t from ru)
  by_cases hi:i.natAbs.log2<1920
  ·rw[if_pos hi] at p
   exact PySem.P.repr_of_int hi ⟨.str _,H,I.tok _,⟨_,rfl⟩,Gi.ok (R:=Rep X.K) p rs rfl⟩
  ·rw[if_neg hi] at p; exact p.elim
 ·rename_i x
  obtain⟨v,rfl,h⟩:=RepL.one r
  obtain⟨u,rfl,ru⟩:=Vals.one rv
  cases (show v=.str x from h); obtain⟨t,rfl⟩:=(show ∃ t,u=Value.str x t from ru)
  by_cases hi:(reprText x).length<=1000000
  ·rw[if_pos hi] at p
   exact PySem.P.repr_of_str ⟨.str _,H,I.tok _,⟨_,rfl⟩,Gi.ok (R:=Rep X.K) p rs rfl⟩ (line_le hi)
  ·rw[if_neg hi] at p; exact p.elim
 ·rename_i d n1 n2 n3 n4
  obtain⟨v,rfl,h⟩:=RepL.one r
  obtain⟨u,rfl,ru⟩:=Vals.one rv
  cases d with
  | non=>exact absurd rfl n1
  | bl b=>exact absurd rfl (n2 b)
  | int i=>exact absurd rfl (n3 i)
  | str x=>exact absurd rfl (n4 x)
  | tup l=>obtain⟨a,xs,ev,_⟩:=Rep.tup h; exact big _ v a u h ev ru p
  | lst i=>obtain⟨a,ev,_⟩:=(show ∃ a,v=.ref a/\mp[i]?=some a/\¬ Dcy H a from h); exact big _ v a u h ev ru p
  | exn c n=>obtain⟨a,dx,_,ev,_⟩:=(show ∃ a dx p,v=.ref a/\(CN X.K c p/\XCl X.K p/\H a=some (XO a p dx))/\∀ i,n=some i->∃ d,dx=some d/\H d=some (XA d i) from h); exact big _ v a u h ev ru p
  | fv c=>obtain⟨a,ev,_⟩:=(show ∃ a,v=.ref a/\CN X.K c a from h); exact big _ v a u h ev ru p
  | dct c=>obtain⟨a,ev,_⟩:=(show ∃ a,v=.ref a/\mp[c]?=some a/\Dcy H a/\X.K.lookup a=none from h); exact big _ v a u h ev ru p
 ·exact p.elim
end
end DL
namespace DL
open PySem
variable{es:List Expr}{env:PySem.Env}
theorem Gc{c j p}:starEach (.Constant c j p::es) env=(false,eval (.Constant c j p) env)::starEach es env:=rfl
theorem Ge{x p}:starEach (.Name x p::es) env=(false,eval (.Name x p) env)::starEach es env:=rfl
theorem Jf{a b p}:starEach (.Tuple a b p::es) env=(false,eval (.Tuple a b p) env)::starEach es env:=rfl
theorem Gp2{a p}:starEach (.List a p::es) env=(false,eval (.List a p) env)::starEach es env:=rfl
theorem Hj{f a k p}:starEach (.Call f a k p::es) env=(false,eval (.Call f a k p) env)::starEach es env:=rfl
theorem Gh{a b p}:starEach (.Subscript a b p::es) env=(false,eval (.Subscript a b p) env)::starEach es env:=rfl
theorem Vh{a o b p}:starEach (.BinOp a o b p::es) env=(false,eval (.BinOp a o b p) env)::starEach es env:=rfl
theorem Gia{o a p}:starEach (.UnaryOp o a p::es) env=(false,eval (.UnaryOp o a p) env)::starEach es env:=rfl
theorem Gk5{o a p}:starEach (.BoolOp o a p::es) env=(false,eval (.BoolOp o a p) env)::starEach es env:=rfl
theorem Yu{a o b p}:starEach (.Compare a o b p::es) env=(false,eval (.Compare a o b p) env)::starEach es env:=rfl
theorem Gmv{a b c p}:starEach (.IfExp a b c p::es) env=(false,eval (.IfExp a b c p) env)::starEach es env:=rfl
theorem Ga3{a b c p}:starEach (.ListComp a b c p::es) env=(false,eval (.ListComp a b c p) env)::starEach es env:=rfl
theorem Ge0{a b p}:starEach (.Attribute a b p::es) env=(false,eval (.Attribute a b p) env)::starEach es env:=rfl
end DL
namespace DL
open PySem PySem.Spec PyProof.Rows L2
variable{h:Heap}{st b0:Stmt}{ps N N' sub:List Str}{f fb fo fa:Ev D}{od dx:Option Addr}{osl:Array (Option Value)}{doc pm cdv ct v:Value}{fn:Fn}{j n:Nat}{p pos np cpos apos hpos p2 pos' py:Pos}{es ifs:List Expr}{P:Program}{H2 H H1:Hp}{C:Addr}{scope:Scope}{c qual y:Str}{fp mp:List Addr}{K:PySem.W.Frag}{S:Sto}{w:World}{A:Around}{Q:Value->Shared->Prop}{X:Cx}{pins:List (Addr×Obj)}{σ:L2.St}{vs:Array Value}{a o b tg elt iter:Expr}{bm:List Value}{oI:Obj}{T:String}{φ:Heap->Prop}{XQ:XW}{sp:Sp}{ρ:Lc}{body suite:List Stmt}{fh:Sv}{fc:Ev Bool}
structure Cal(P:Program)(w:World)(K:PySem.W.Frag)(mg:Str->Option Value)(base:Heap)(x:Str)(ps:List Str)(fn:Fn)(j:Nat):Prop where
 ex:∃ f fd,FnOk P w K mg base CX0 j f fd ps (spD K ps.length fn)/\mg x=some (.ref f)/\PySem.W.keepIn K (.ref f)=true/\Binds K fd ps []
structure Dn(K:PySem.W.Frag)(mg:Str->Option Value)(x:Str)(st:Stmt)(ps:List Str):Prop where
 ex:∃ f fd,Fun K x x st f fd/\mg x=some (.ref f)/\Binds K fd ps []
section
variable{P:Program}{w:World}{K:PySem.W.Frag}{mg:Str->Option Value}{base:Heap}
theorem Gyh{x:Str}{f:Addr}{oc:Value}{an:Option Addr}{kV:Value}(X:K.In h)(G:h.Ns mainGlobals mg)(a:PySem.W.nsIn K mainGlobals x=some (some (.ref f)))(l:K.lookup f=some ⟨oc,od,.func (PySem.W.fnOf x x (Hl st) (Gv st) (Gb st) .none kV doc pm an cdv ct),osl⟩)(c:PySem.W.codeIn K cdv x=true)(k:PySem.W.keepIn K (.ref f)=true)(hb:∀ (kV doc pm:Value) (an:Option Addr) (cdv ct:Value) (us:List Value),us.length=ps.length->bindArgs (PySem.W.fnOf x x (Hl st) (Gv st) (Gb st) .none kV doc pm an cdv ct) ⟨us,[]⟩=pure (ps.zip us)):Dn K mg x st ps:=
 ⟨f,_,Ger l c k,PySem.W.mg_of X G a,(Ger (st:=st) l c k).binds hb⟩
theorem Gu6{x:Str}(N:List Str)(k:Nat)(b:Sv)(hfn:fn=fnB N.length b)(d:Dn K mg x st ps)(Sc:FnScope N ps (Gb st))(hb:∀ (f:Addr) (cdv:Value) (A:Around) (outer:List PySem.Env) (s:Shared) (H:Hp) (E:XK),Room k (A.deeper (envOfC x (Gb st) s.heap.objs.size f cdv))→
   JSs (Ku CX0 P w K mg base N x (Gb st) f cdv A outer s H E).nox XN (Gv st) b):Cal P w K mg base x ps fn (k+1):=by
 subst hfn
 obtain⟨f,fd,F,hm,hbi⟩:=d.ex
 exact⟨f,fd,Gsm F Sc (hb f),hm,F.kp,hbi⟩
end
section
variable{X:Cx}{XQ:XW}
theorem Gu7{x:Str}{k:Nat}{e:Expr}{t:Ev (List D)}(C:Cal X.prog X.w X.K X.mg X.base x ps fn j)(hr:Room k X.A)(ha:JA X XQ (e::es) t)(hn:ps.length=n)(hj:j<=k:=by decide)(hg:Gl X x:=by rfl)(hdb:(x==("__debug__":Str))=false:=by decide)(he:starEach (e::es) X.env=(false,eval e X.env)::starEach es X.env:=by rfl)(hpl:(backTo pos (starEach es X.env)).any (·.1)=false:=by rfl):
  JE X XQ (.Call (.Name x p) (e::es) [] pos) (cl n (Go fn) t):=by
 subst hn
 obtain⟨f,fd,F,hm,hk,hb⟩:=C.ex
 exact Gpm F hr hj hg hm hk hb ha hdb he hpl
theorem Ge1{x:Str}{v:V}{u:Value}{d:D}(hm:X.mg x=some u)(r:Gz v u)(rep:∀ mp H,Rep X.K mp H d v)(hg:Gl X x)(hd:(x==("__debug__":Str))=false):JE X XQ (.Name x pos) (cn d):=Vd (Gek hg hm r hd) rep
noncomputable def Gy(x:Str):Bool:=!(x==("__debug__":Str))&&!(x==("__classdict__":Str))
noncomputable def okV(sc:Scope)(x:Str):Bool:=(match sc.names.lookup x with
 | some .local=>true
 | some .cell=>true
 | some .free=>true
 | _=>false)&&Gy x
noncomputable def okL(sc:Scope)(x:Str):Bool:=match sc.names.lookup x with
 | some .local=>true
 | some .cell=>true
 | _=>false
noncomputable def okG(sc:Scope)(x:Str):Bool:=(match sc.names.lookup x with
 | some .globalImplicit=>true
 | _=>false)&&Gy x
theorem Gy.of{x:Str}(h:Gy x=true):(x==("__debug__":Str))=false/\(x==("__classdict__":Str))=false:=by
 unfold Gy at h
 rw[As] at h
 exact⟨by simpa using h.1,by simpa using h.2⟩
theorem okV.vis{sc:Scope}{x:Str}(h:okV sc x=true):Vis sc x/\Gy x=true:=by
 unfold okV at h
 rw[As] at h
 refine⟨?_,h.2⟩
 have h:=h.1
 split at h
 ·rename_i e; exact .inl e
 ·rename_i e; exact .inr (.inl e)
 ·rename_i e; exact .inr (.inr e)
 ·cases h
theorem okL.loc{sc:Scope}{x:Str}(h:okL sc x=true):Loc sc x:=by
 unfold okL at h
 split at h
 ·rename_i e; exact .inl e
 ·rename_i e; exact .inr e
 ·cases h
theorem okG.gl{sc:Scope}{x:Str}(h:okG sc x=true):sc.names.lookup x=some .globalImplicit/\Gy x=true:=by
 unfold okG at h
 rw[As] at h
 refine⟨?_,h.2⟩
 have h:=h.1
 split at h
 ·rename_i e; exact e
 ·cases h
structure OkV(sc:Scope)(x:Str):Prop where
 h:okV sc x=true
structure OkL(sc:Scope)(x:Str):Prop where
 h:okL sc x=true
structure OkC(sc:Scope)(x:Str):Prop where
 h:sc.names.lookup x=some .local
structure OkG(sc:Scope)(x:Str):Prop where
 h:okG sc x=true
theorem kdV{s:Scope}{x:Str}(h:okV s x=true:=by decide +kernel):OkV s x:=⟨h⟩
theorem kdL{s:Scope}{x:Str}(h:okL s x=true:=by decide +kernel):OkL s x:=⟨h⟩
theorem kdG{s:Scope}{x:Str}(h:okG s x=true:=by decide +kernel):OkG s x:=⟨h⟩
theorem kdS{P:List Str}{s:Scope}(a:s.kind=.function:=by rfl)(b:s.isCoroutine=false:=by rfl)(c:s.isGenerator=false:=by rfl)(d:N.Nodup:=by decide +kernel)(e:N.take P.length=P:=by rfl)(f:∀ x∈P,s.names.lookup x=some .local\/s.names.lookup x=some .cell:=by decide +kernel)(g:∀ y∈s.names,y.2≠.free:=by decide +kernel):FnScope N P s:=⟨a,b,c,d,e,f,g⟩
theorem gl{x:Str}(h:OkG X.env.scope x):Gl X x:=(okG.gl h.h).1
noncomputable def Gp3(sc:Scope)(x:Str):Bool:=(match sc.names.lookup x with
 | some .local=>true
 | some .cell=>true
 | some .free=>true
 | _=>false)&&Gy x
theorem Hu{scope:Scope}{env:PySem.Env}{x:Str}{k:NameKind}(hk:k≠.free):∀ (names:List (Str×NameKind)),names.lookup x=some k->(names.map fun(n,k)=>if(k==NameKind.free&&env.scope.kind==.function&&env.kindOf n==some .cell)=true then(n,NameKind.cell) else(n,k)).lookup x=some k
 | [],h=>by simp at h
 | (n,k')::r,h=>by
  rw[Au]
  by_cases hx:(x==n)=true
  ·rw[Ax,hx] at h
   have:k'=k:=by simpa using h
   subst this
   have hb:(k'==NameKind.free)=false:=by simpa using hk
   simp only[hb,Bool.false_and,Ak,if_false,Ax,hx]
  ·have hx:(x==n)=false:=by simpa using hx
   rw[Ax,hx] at h
   have:=Hu (scope:=scope) (env:=env) hk r h
   by_cases hq:(k'==NameKind.free&&env.scope.kind==.function&&env.kindOf n==some .cell)=true
   ·simpa only[hq,if_true,Ax,hx] using this
   ·simpa only[hq,Ak,if_false,Ax,hx] using this
theorem Ge2{s2:Shared}{c:List (Str×Addr)}{x:Str}(h:Gp3 scope x=true):Vis (blk X s2 H2 C scope c N' fp).env.scope x/\Gy x=true:=by
 unfold Gp3 at h
 rw[As] at h
 refine⟨?_,h.2⟩
 have h:=h.1
 split at h
 ·rename_i e; exact .inl (lookup_relabel_local e)
 ·rename_i e; exact .inr (.inl (Hu (scope:=scope) (env:=X.env) (by decide) scope.names e))
 ·rename_i e; exact .inr (Jy (scope:=scope) (env:=X.env) scope.names e)
 ·cases h
theorem glB{s2:Shared}{c:List (Str×Addr)}{x:Str}(h:okG scope x=true):Gl (blk X s2 H2 C scope c N' fp) x:=
 Hu (scope:=scope) (env:=X.env) (by decide) scope.names (okG.gl h).1
noncomputable def Gu8(sc:Scope)(x:Str):Bool:=match sc.names.lookup x with
 | some .local=>true
 | some .cell=>true
 | _=>false
end
section
variable{X:Cx}{XQ:XW}
theorem Gu9{j:Int}(h1:0<j)(h2:j<2^200):j.natAbs.log2<9000:=by
 have h3:j.natAbs<2^200:=by omega
 exact Af ((Nat.log2_lt (by omega)).mpr h3) (by decide)
theorem Gmw:OpR X (binaryOp .FloorDiv) (rI (fun _ j=>0<j/\j<2^200) fun i j=>.int (i / j)):=opI fun i j _ _ _ _ _ hc q=>by
 have h1:(0:Int)<j:=hc.1
 have h2:j<2^200:=hc.2
 exact floordiv_int (by omega) (by rw[Int.fdiv_eq_ediv_of_nonneg i (by omega)]; exact q) (.inl (PyProof.noPylong_of_log2 (Gu9 h1 h2)))
noncomputable abbrev Ga4:=i2 (fun _ j=>decide (0<j/\j<2^200)) fun i j=>.int (i / j)
noncomputable def dmD(xs:List D)(S:Sto):Out D:=match xs with
 | [.int i,.int j]=>if 0<j/\j<2^200 then .ok (.tup [.int (i / j),.int (i%j)]) S else .bad
 | _=>.bad
noncomputable def Wp:List D->Option (List Int)
 | []=>some []
 | .int i::r=>(Wp r).map (i::·)
 | _::_=>none
theorem RepL.ints:∀ {l:List D} {vs:List V} {ns:List Int},RepL K mp H l vs->Wp l=some ns->vs=ns.map V.int
 | [],vs,ns,h,e=>by
  cases (show vs=[] from h)
  cases (Ac (show some []=some ns from e))
  rfl
 | d::l,vs,ns,h,e=>by
  obtain⟨v,r,rfl,h1,h2⟩:=h
  cases d with
  | int i=>
   have e:(Wp l).map (i::·)=some ns:=e
   cases z:Wp l with
   | none=>rw[z] at e; cases e
   | some ms=>
    rw[z] at e
    cases (Ac e)
    cases (show v=.int i from h1)
    rw[RepL.ints h2 z]
    rfl
  | _=>cases (show(none:Option (List Int))=some ns from e)
theorem Ggk{ns:List Int}(its:List Value)(r':Vals (ns.map V.int) its):∃ xs:Array (Int×Tok),its.toArray=intItems xs/\preSum (numAt xs) xs.size=ns.sum/\ns=xs.toList.map (·.1):=by
 have hi:=Gh3 r'
 obtain⟨xs,hx⟩:=hi.allInts.items
 have hn:numsOf its.toArray.toList=ns:=by rw[show its.toArray.toList=its from rfl,hi.numsOf]
 rw[hx,nums_intItems] at hn
 refine⟨xs,hx,?_,hn.symm⟩
 rw[preSum_eq,BA (by simp),hn]
theorem Gmx(hc:X.calm=true):Vb X (.builtin "sum") (fun xs H Q=>∃ (p:Addr) (ns:List Int),xs=[.ref p]/\(SqL X.K H p (ns.map V.int)\/SqT X.K H p (ns.map V.int))/\Q (.int ns.sum) H):=by
 intro pins s σ H xs us Q I r h
 obtain⟨p,ns,rfl,hq,q⟩:=h
 obtain⟨u,rfl,rx⟩:=Gaz r
 cases rx
 rcases hq with hq | hq
 ·obtain⟨its,r',pl,hz⟩:=I.list hq
  obtain⟨xs,hx,e,_⟩:=Ggk its r'
  have hl:=pl.isList
  rw[hx] at hl
  exact sum_intListG (I.ok.hd hc) hl fun h' tk t' hk=>⟨.int ns.sum,H,I.kept hk,⟨t',by rw[e]⟩,q⟩
 ·obtain⟨its,r',pl,hz⟩:=I.tuple hq
  obtain⟨xs,hx,e,_⟩:=Ggk its r'
  have hl:s.heap.IsTuple p its.toArray:=pl
  rw[hx] at hl
  exact PySem.W.ktm_sumG (I.ok.hd hc) hl fun h' tk t' hk=>⟨.int ns.sum,H,I.kept hk,⟨t',by rw[e]⟩,q⟩
noncomputable def Gsx(x:D)(S:Sto):Option (List D):=match x with
 | .tup l=>some l
 | .lst i=>(S[i]?).map (·.xs)
 | _=>none
theorem Gva{x:D}{v:V}{l:List D}(rs:RS K mp H S)(h:Rep K mp H x v)(e:Gsx x S=some l):∃ a xs,v=.ref a/\(SqL K H a xs\/SqT K H a xs)/\RepL K mp H l xs:=by
 cases x with
 | tup ds=>
  cases (Ac (show some ds=some l from e))
  obtain⟨a,xs,rfl,s,q⟩:=Rep.tup h
  exact⟨a,xs,rfl,.inr s,q⟩
 | lst i=>
  have e:(S[i]?).map (·.xs)=some l:=e
  cases z:S[i]? with
  | none=>rw[z] at e; cases e
  | some c=>
   rw[z] at e
   cases (Ac e)
   obtain⟨a,xs,rfl,_,s,q,_⟩:=rs.items h z
   exact⟨a,xs,rfl,.inl s,q⟩
 | _=>cases (show(none:Option (List D))=some l from e)
noncomputable def Gk6(xs:List D)(S:Sto):Out D:=match xs with
 | [x]=>match (Gsx x S).bind Wp with
  | some ns=>.ok (.int ns.sum) S
  | none=>.bad
 | _=>.bad
theorem Gvb:BlD K (fun xs H Q=>∃ (p:Addr) (ns:List Int),xs=[.ref p]/\(SqL K H p (ns.map V.int)\/SqT K H p (ns.map V.int))/\Q (.int ns.sum) H) Gk6:=by
 intro XQ σ ρ mp H S xs vs Q rs r p
 unfold Gk6 at p
 split at p
 ·rename_i x
  obtain⟨v,rfl,h⟩:=RepL.one r
  split at p
  ·rename_i ns z
   obtain⟨l,e1,e2⟩:=Option.bind_eq_some_iff.mp z
   obtain⟨a,ys,rfl,sq,q⟩:=Gva rs h e1
   cases q.ints e2
   exact⟨a,ns,rfl,sq,Gi.ok (R:=Rep K) p rs rfl⟩
  ·exact p.elim
 ·exact p.elim
noncomputable def Gmy(xs:List D)(S:Sto):Out D:=match xs with
 | [.int i,.int j]=>.ok (.int (if j>i then j else i)) S
 | _=>.bad
theorem Gvc:BlD K (fun xs H Q=>∃ i j,xs=[.int i,.int j]/\Q (.int (if j>i then j else i)) H) Gmy:=by
 intro XQ σ ρ mp H S xs vs Q rs r p
 unfold Gmy at p
 split at p
 ·rename_i i j
  obtain⟨v,w,rfl,h1,h2⟩:=RepL.two r
  cases (show v=.int i from h1); cases (show w=.int j from h2)
  exact⟨i,j,rfl,Gi.ok (R:=Rep K) p rs rfl⟩
 ·exact p.elim
noncomputable def sag(i:Nat)(g:Int->Int->Int)(f:Ev D):Sv:=fun ρ S=>match ρ[i]? with
 | some (some (.int a))=>bindS (f ρ S) ρ fun d S1=>match d with
  | .int b=>.nx (ρ.set i (some (.int (g a b)))) S1
  | _=>.bad
 | _=>.bad
theorem Hax{i:Nat}{g:Int->Int->Int}(E:Ends)(σ:L2.St)(H:Hp)(h:rdS K XQ (sag i g f) E σ H):Gxv i (rdE K XQ f) (ipI g) E σ H:=by
 obtain⟨mp,ρ,S,G,p⟩:=h
 unfold sag at p
 split at p
 ·rename_i a z
  obtain⟨v,e1,r⟩:=G.loc i _ z
  cases (show v=.int a from r)
  refine⟨_,e1,bindSP G p fun mp1 H1 d S1 v a1 G1 r1 p1=>?_⟩
  cases d with
  | int b=>
   cases (show v=.int b from r1)
   exact⟨a,b,rfl,rfl,PostS.nx p1 (G1.set i rfl)⟩
  | _=>exact(show False from p1).elim
 ·exact p.elim
end
theorem Zh{prog:Program}{E:Value->Shared->Prop}{s:Shared}{t sl:Addr}{items:Array Value}{vl vu:Value}{lo hi:Option Int}(ht:IsTup s.heap t items)(hs:s.heap.IsSliceOf sl vl vu .none)(pl:IsPart vl lo)(pu:IsPart vu hi)(hw:HT.sIx items.size 0 lo=0/\HT.sIx items.size items.size hi=items.size)(h:Q (.ref t) s):wpAny (model prog w) A (getItem (.ref t) (.ref sl)) Q E s:=by
 obtain⟨os,hos,hcs,hds⟩:=id hs
 have hTs:s.TypeIs (.ref sl) "slice":=⟨os,hos,hcs⟩
 unfold getItem
 try with_reducible refine wpAny_holding ?_
 first | refine wpAny_bind (wpAny_pure ?_) | skip
 refine wpAny_bind (wpAny_sequenceKey ht.typeIs (by decide) ?_)
 refine wpAny_bind (wpAny_callSpecial?_slot (name:=Str.ofString "__getitem__") ht.typeIs PyProof.Rows.slot_tuple_getitem
  (wpAny_call_entry PyProof.Rows.slot_tuple_getitem ht.typeIs entry_tuple_getitem ?_ (args_tuple_getitem _ _)))
 show wpAny _ _ (Builtin.Tuple.tupleItemsOf (.ref t) >>= _) _ _ s
 refine wpAny_bind (tupleItemsOf_ ht ?_)
 refine wpAny_bind (wpAny_typeOf hTs ?_)
 rw[if_pos (by decide)]
 refine wpAny_bind (HT.Vc hs pl pu ?_)
 show wpAny _ _ (if(((HT.sIx items.size 0 lo:Nat):Int)==0&&(1:Int)==1&&(HT.sIx items.size items.size hi-HT.sIx items.size 0 lo)==items.size)=true then _ else _) _ _ s
 rw[if_pos (by rw[hw.1,hw.2]; simp)]
 unfold Builtin.Tuple.tupleIsExact
 refine wpAny_bind (wpAny_bind (wpAny_typeOf ht.typeIs (wpAny_pure ?_)))
 rw[if_pos (by decide)]
 exact wpAny_bind (wpAny_rule (wpAny_pure ⟨_,rfl,wpAny_pure h⟩))
section
variable{X:Cx}{XQ:XW}
noncomputable def Hay(K:PySem.W.Frag):V->Option Int->Option Int->Hp->VK->Prop:=fun x lo hi H Q=>∃ a xs,x=.ref a/\SqT K H a xs/\(HT.sIx xs.length 0 lo=0/\HT.sIx xs.length xs.length hi=xs.length)/\Q (.ref a) H
theorem Gvd:SlR X (Hay X.K):=by
 intro pins s σ H x v vl vu lo hi sl Q I rx hs pl pu h
 obtain⟨a,xs,rfl,hx,hw,q⟩:=h
 cases rx
 obtain⟨its,r,ht,hz⟩:=I.tuple hx
 have hlen:its.toArray.size=xs.length:=by rw[Aj]; exact r.length.symm
 refine⟨"tuple",_,PyProof.Rows.slot_tuple_getitem.lookup,ht.typeIs,?_⟩
 exact Zh ht hs pl pu (by rw[hlen]; exact hw) ⟨.ref a,H,I,rfl,q⟩
noncomputable def Ggl(x:D)(lo hi:Option Int)(S:Sto):Out D:=match x with
 | .tup l=>if HT.sIx l.length 0 lo=0/\HT.sIx l.length l.length hi=l.length then .ok (.tup l) S else .ok (.tup (Um l lo hi)) S
 | .lst i=>match S[i]? with
  | some c=>.ok (.lst S.length) (S++[⟨false,Um c.xs lo hi⟩])
  | none=>.bad
 | _=>.bad
noncomputable def sl2(fe:Ev D)(fl fh:Ev (Option Int)):Ev D:=fun ρ S=>(fe ρ S).bind fun x S1=>(fl ρ S1).bind fun l S2=>(fh ρ S2).bind fun u S3=>Ggl x l u S3
end
section
variable{X:Cx}{XQ:XW}
noncomputable def sbad:Sv:=fun _ _=>.bad
end
theorem turnedL{s:Shared}{g:Heap}{tk:Nat}{ch:List Addr}(I:Inv X pins σ H s)(k:∀ b o,b∉ch->s.heap.get? b=some o->g.get? b=some o)(hf:∀ b∈ch,Gda X pins H b):Inv X pins σ H { s with heap:=g,toks:=tk }:=by
 have nit:∀ b u,H b=some u->b∉ch:=fun b u e z=>by have:=(hf b z).1; rw[this] at e; cases e
 refine I.step (g':=s.gens) (d':=s.drawn) (ch:=ch) (fun b hb=>?_) (fun b o _ _ hc e _=>k b o hc e) (fun b o _ _ hc e _=>⟨o.slots,k b o hc e⟩) (fun _ _ _ _ n=>n)
  (fun b o hc e=>⟨o,k b o hc e⟩) (fun _ _ e=>e) (fun _ _ _ e=>e) (fun b ps e=>⟨#[],by rw[e]; simp⟩) (fun m hm=>?_) (fun b u e=>?_) I.bare
 ·obtain⟨f0,f1,f2,f3,f4,f5⟩:=hf b hb
  exact⟨f3,f1,f4,f5⟩
 ·obtain⟨o,es,ep,ho,r⟩:=hm
  exact⟨o,es,ep,k _ o (fun z=>(hf _ z).2.1 rfl) ho,r⟩
 ·refine(I.hok b u e).stay (fun c v hc q=>k c v ?_ q) (fun _ q=>q) fun _ _ q=>q
  rcases hc with z | z
  ·rw[z]; exact nit b u e
  ·exact nit c _ z
theorem Ggm{s:Shared}{g:Heap}{tk:Nat}{ch:List Addr}{vs:List V}{us:List Value}(I:Inv X pins σ H s)(hn:H s.heap.objs.size=none)(hz:vs.length<=sizeLine)(rv:Vals vs us)(tt:g.get? s.heap.objs.size=some { cls:=.type "tuple",data:=.seq us.toArray })(k:∀ b o,b∉ch->s.heap.get? b=some o->g.get? b=some o)(hf:∀ b∈ch,Gda X pins H b)(ltf:∀ b∈ch,b≠s.heap.objs.size):
  Inv X pins σ (upd H s.heap.objs.size (.tup vs)) { s with heap:=g,toks:=tk }:=by
 have I1:Inv X pins σ (upd H s.heap.objs.size (.tup vs)) { s with heap:=s.heap.push { cls:=.type "tuple",data:=.seq us.toArray } }:=
  I.laid (t':=s.toks) (fun b o e=>Ah _ e) (Aa _) (show Jj X.prog X.w _ _ _ (.tup vs) from⟨hz,us,rv,IsTup.new _ _⟩)
 refine turnedL (ch:=ch) (s:={ s with heap:=s.heap.push { cls:=.type "tuple",data:=.seq us.toArray } }) I1 (fun b o hb e=>?_) fun b hb=>?_
 ·by_cases hs:b=s.heap.objs.size
  ·subst hs
   rw[AA _ rfl] at e
   cases e
   exact tt
  ·have:s.heap.get? b=some o:=by
    rcases Heap.get?_push_cases e with⟨z,_⟩ | z
    ·exact absurd z hs
    ·exact z
   exact k b o hb this
 ·obtain⟨f0,f⟩:=hf b hb
  exact⟨by rw[Gk (ltf b hb)]; exact f0,f⟩
structure Za(z ti to' i j a b:Addr):Prop where
 q1:ti≠z
 q2:to'≠z
 q3:i≠z
 q4:j≠z
 q5:ti≠to'
 q6:ti≠i
 q7:ti≠j
 q8:to'≠i
 q9:to'≠j
 q10:i≠j
 q11:a≠z
 q12:a≠to'
 q13:a≠i
 q14:a≠j
 q15:b≠z
 q16:b≠to'
 q17:b≠i
 q18:b≠j
theorem Gmz{α β:Type}(f:α->Option β)(g:α->β):∀ l:List α,(∀ k∈l,f k=some (g k))->l.filterMap f=l.map g
 | [],_=>rfl
 | a::l,h=>by
  rw[AM,h a Aq,Au,Gmz f g l fun k hk=>h k (An _ hk)]
section
variable{X:Cx}{XQ:XW}
noncomputable def rvD(x:D)(st:Option Int)(S:Sto):Out D:=match x,st with
 | .tup l,some (-1)=>.ok (.tup l.reverse) S
 | _,_=>.bad
noncomputable def rv(fe:Ev D)(fs:Ev (Option Int)):Ev D:=fun ρ S=>(fe ρ S).bind fun x S1=>(fs ρ S1).bind fun o S2=>rvD x o S2
end
section
variable{X:Cx}{XQ:XW}
inductive JFs(X:Cx)(XQ:XW):List Expr->List (Ev D)->Prop
 | nil:JFs X XQ [] []
 | cons {e:Expr} {f:Ev D} {es:List Expr} {fs:List (Ev D)}:JE X XQ e f->JFs X XQ es fs->JFs X XQ (e::es) (f::fs)
end
structure Zb(z ti to' i j l a b c:Addr):Prop where
 tz:ti≠z
 oz:to'≠z
 iz:i≠z
 jz:j≠z
 lz:l≠z
 t_o:ti≠to'
 t_i:ti≠i
 t_j:ti≠j
 t_l:ti≠l
 oi:to'≠i
 oj:to'≠j
 ol:to'≠l
 ij:i≠j
 il:i≠l
 jl:j≠l
 az:a≠z
 ao:a≠to'
 ai:a≠i
 aj:a≠j
 al:a≠l
 bz:b≠z
 bo:b≠to'
 bi:b≠i
 bj:b≠j
 bl:b≠l
 cz:c≠z
 co:c≠to'
 ci:c≠i
 cj:c≠j
 cl:c≠l
section
open Builtin Builtin.Str
variable{prog:Program}{w:World}{A:Around}{E:Value->Shared->Prop}{s:Shared}
end
section
variable{X:Cx}{XQ:XW}
variable{a b:Expr}{fa fb:Ev D}{pos:Pos}
end
noncomputable def Iel(K:PySem.W.Frag)(a:Addr):It:=
 ⟨fun i H=>∃ xs x,SqL K H a xs/\xs[i]?=some x,fun i H x H'=>∃ y p,(∀ xs,SqL K H a xs->xs[i]?=some y)/\H p=none/\x=.ref p/\H'=upd H p (.tup [.int i,y]),fun i H=>∃ xs,SqL K H a xs/\xs.length<=i⟩
theorem Gib{x1}(a it e:Addr)(ne:e≠it):
  Turn P w K (.Tuple es x1 pos) (Iel K a) [e,it] e (fun i h=>(∃ old,IsEnum h e it i old)/\h.IsListIter it a i) where
 mem:=by simp
 obj:=fun i h ⟨⟨old,st⟩,o,e1,c,d⟩ b hb=>by
  rcases Ad.mp hb with rfl | hb
  ·exact⟨_,st,fun v z=>by
    have z':Data.fields _=Data.cell v:=z
    cases z'⟩
  ·have eb:b=it:=by simpa using hb
   subst eb
   exact⟨o,e1,fun v z=>by rw[d] at z; cases z⟩
 keep:=fun i h h' ⟨⟨old,st⟩,ti⟩ k=>⟨⟨old,k e (by simp) _ st⟩,ti.at fun o e1=>k it (by simp) o e1⟩
 item:=by
  intro X hP hw hK hc i pins s σ H E I hf zq0 hg
  obtain⟨⟨old,st⟩,ti⟩:=zq0
  subst hP hw hK
  obtain⟨xs,x,hq,hx⟩:=hg
  obtain⟨its,rv,p,hz⟩:=I.list hq
  obtain⟨u,hu,ru⟩:=rv.get hx
  have hn:H s.heap.objs.size=none:=I.hok.fresh (Aa _)
  refine wpAny_pyNext_enum_item st ti p.isList (x:=u) (by simpa using hu) ne fun g oe ti' tt _ kk=>?_
  refine⟨_,rfl,wpAny_letOwnedTupleGo_enum oe fun g2 e2 b2=>?_⟩
  have kk2:∀ b o,b∉[e,it]->s.heap.get? b=some o->g2.get? b=some o:=fun b o hb h1=>
   b2.extBut b o (fun z=>hb (by simp[z])) (kk b o (fun z=>hb (by simp[z])) (fun z=>hb (by simp[z])) h1)
  have el:s.heap.objs.size≠e:=Bg (Ae st)
  have tt2:g2.get? s.heap.objs.size=some { cls:=.type "tuple",data:=.seq #[.int i s.toks,u] }:=b2.extBut _ _ el tt
  have ltf:∀ b∈[e,it],b≠s.heap.objs.size:=fun b hb=>by
   rcases Ad.mp hb with rfl | hb
   ·exact Ne.symm el
   ·have eb:b=it:=by simpa using hb
    subst eb
    obtain⟨o,e1,_⟩:=ti
    exact At (Ae e1)
  have I2:Inv X pins σ (upd H s.heap.objs.size (.tup [.int i,x])) { s with heap:=g2,toks:=s.toks+1 }:=
   Ggm I hn (by rw[sizeLine_eq]; simp only[AL,List.length_nil]; decide) (.cons ⟨s.toks,rfl⟩ (.cons ru .nil)) tt2 kk2 hf ltf
  exact⟨.ref s.heap.objs.size,_,I2,rfl,⟨x,_,fun ys hy=>by rw[I.list_inj hy hq]; exact hx,hn,rfl,rfl⟩,⟨⟨u,e2⟩,ti'.extBut b2.extBut (Ne.symm ne)⟩,fun b hb=>by
   rw[Gk (ltf b hb)]
   exact(hf b hb).1⟩
 done:=by
  intro X hP hw hK hc i pins s σ H E I hf zq0 hg
  obtain⟨⟨old,st⟩,ti⟩:=zq0
  subst hP hw hK
  obtain⟨xs,hq,hx⟩:=hg
  obtain⟨its,rv,p,hz⟩:=I.list hq
  have hl:=rv.length
  exact wpAny_pyNext_enum_end (I.ok.hd hc) st ti p.isList (by simp; omega) fun g eb=>⟨rfl,turnedL I (fun b o hb e1=>eb b o (fun z=>hb (by simp[z])) e1) hf⟩
 self:=fun _ _ _ _ _ ⟨⟨_,st⟩,_⟩ h=>wpAny_pyIter_enum st h
section
variable{X:Cx}{XQ:XW}
noncomputable def Haz(K:PySem.W.Frag)(ta:TA):TI:=fun σ H R=>ta σ H fun xs H1=>∃ a,xs=[.ref a]/\(∃ ys,SqL K H1 a ys)/\R (Iel K a) H1
theorem Gm0{x1}{tp:Pos}{ta:TA}(hg:Gl X "enumerate")(hm:X.mg "enumerate"=none)(ha:PA X [a] ta)(hs:starEach [a] X.env=[(false,eval a X.env)]:=by rfl):
  PI X (.Tuple es x1 tp) (.Call (.Name "enumerate" p) [a] [] pos) (Haz X.K ta):=by
 intro pins s σ H R I h
 refine wpAny_Call_Name_kw (Vn I hg hm (by rfl) ?_ (by decide) (by decide))
 refine PyProof.Rows.callWith_type1 (thn (ha pos pins s σ H _ I h) fun us s1 zq0=>?_) hs rfl
 obtain⟨vs,H1,I1,r1,q1⟩:=zq0
 obtain⟨c,e,⟨ys,hq⟩,q⟩:=q1
 subst e
 obtain⟨u,rfl,rx⟩:=Gaz r1
 cases rx
 obtain⟨its,rv,pt,hz⟩:=I1.list hq
 refine call_enumerate_list pt.isList fun g e1 i1 _ kk=>?_
 refine wpAny_pyIter_enum e1 ?_
 have I2:Inv X pins σ H1 { s1 with heap:=g }:=I1.kept (t':=s1.toks) kk
 refine⟨s1.heap.objs.size+1,[s1.heap.objs.size+1,s1.heap.objs.size],_,_,H1,rfl,I2,Gib c s1.heap.objs.size (s1.heap.objs.size+1) (Nat.succ_ne_self _),⟨⟨.none,e1⟩,i1⟩,fun b hb=>?_,q⟩
 have hb':s1.heap.objs.size<=b:=by
  rcases Ad.mp hb with rfl | hb
  ·exact Bs _
  ·have eb:b=s1.heap.objs.size:=by simpa using hb
   exact Nat.le_of_eq eb.symm
 exact I1.fpOk hb' (I1.hok.fresh hb')
noncomputable def Qw(f:Ev (List D)):Ev Src:=fun ρ S=>(f ρ S).bind fun ds S1=>match ds with
 | [.lst i]=>match S1[i]? with
  | some c=>.ok ⟨fun k S=>(S[i]?).bind fun c=>(c.xs[k]?).map fun d=>.tup [.int k,d],c.xs.length+1⟩ S1
  | none=>.bad
 | _=>.bad
theorem Gve{a:Addr}{i:Nat}(hi:mp[i]?=some a)(nd:¬ Dcy H a):Gmj K mp H (Iel K a) (fun k S=>(S[i]?).bind fun c=>(c.xs[k]?).map fun d=>.tup [.int k,d]):=by
 intro mp' H' S' af rs k
 have hi':=af.pre i a hi
 have hl:i<S'.length:=by rw[<- rs.len]; exact(Ab.mp hi').1
 have hc:S'[i]?=some S'[i]:=Ag hl
 obtain⟨a2,xs,e1,e2,sq,r,_⟩:=rs.items (v:=.ref a) ⟨a,rfl,hi',af.ndc i a hi nd⟩ hc
 cases e1
 simp only[hc,AQ]
 cases z:(S'[i]).xs[k]? with
 | none=>
  refine⟨xs,sq,?_⟩
  rw[r.len]
  exact Bj.mp z
 | some d=>
  obtain⟨v,e,q⟩:=r.get z
  refine⟨⟨xs,v,sq,e⟩,fun x H2 zq0=>?_⟩
  obtain⟨y,p,h2,h3,h4,h5⟩:=zq0
  have h2:=h2 xs sq
  rw[e] at h2
  cases h2
  subst h4 h5
  have af2:Aft K mp' H' mp' (upd H' p (.tup [.int k,v])):=Qq h3
  exact⟨af2,rs.new h3,p,_,rfl,SqT.of Hd,RepL.cons rfl (RepL.cons (Rep.aft af2 _ _ q) RepL.nil)⟩
end
structure XB(bm:List Value):Prop where
 v:bm.contains (.type "ValueError")=true
 a:bm.contains (.type "AttributeError")=false
 n:bm.contains (.type "NameError")=false
 b:bm.contains (.type "BaseException")=true
theorem XB.has(x:XB bm)(C:Addr):(Value.ref C::bm).contains (.type "ValueError")=true:=by rw[Bt,x.v,Bool.or_true]
theorem XB.noA(x:XB bm)(C:Addr):(Value.ref C::bm).contains (.type "AttributeError")=false:=by rw[Bt,x.a]; rfl
theorem XB.noN(x:XB bm)(C:Addr):(Value.ref C::bm).contains (.type "NameError")=false:=by rw[Bt,x.n]; rfl
noncomputable abbrev FV:=PySem.F.excBase_ValueError
theorem Gp4(K:PySem.W.Frag):PySem.W.findCls K (.type "ValueError") (.type "type") "__init__"=some (.val (.builtin "ValueError.__init__")):=by
 first
  | rfl
  | kernel_rfl
theorem Gp5{prog:Program}{E:Value->Shared->Prop}{s:Shared}{Q:Value×List Value->Shared->Prop}{pl:Sem Bool}(X:K.In s.heap)(h:Q (.builtin "ValueError.__init__",[]) { s with toks:=s.toks+1 }):
  wpAny (model prog w) A (getMethod (.type "ValueError") (Str.ofString "__init__") pl) Q E s:=by
 have st:opaqueClassAbove (.type "ValueError")=pure none:=by unfold opaqueClassAbove; dsimp only; rw[show Manifest.isStub "ValueError"=false by decide +kernel]; rfl
 have ty:PySem.W.Looks (model prog w) s.heap (typeOf (.type "ValueError")) (.type "type"):=PySem.W.Looks.of_pure (by first | rfl | kernel_rfl)
 have ga:PySem.W.findIn K (.type "type") "__getattribute__"=some (some (.builtin "type.__getattribute__")):=PySem.W.type_tga
 unfold getMethod specialOf
 refine wpAny_bind (wpAny_bind (ty.here ((PySem.W.looks_findIn X ga).here ?_)))
 dsimp only
 rw[if_pos PySem.W.canon_tga]
 refine wpAny_bind (wpAny_mono (Q:=fun v=>Q (v,[])) (E:=E) ?_ (fun _ _ z=>wpAny_pure z) fun _ _ z=>z)
 refine PySem.W.cls_open X (PySem.W.Looks.of_pure st) ty ga (PySem.W.looks_hook X (r:=none) (by rfl)) (by show PySem.W.subIn K _ _=_; rfl) (Gp4 K) ?_
 refine wpAny_pure ?_
 show wpAny _ _ (handedOut _) _ _ _
 rw[PySem.W.handedOut_of (by rfl)]
 exact wpAny_pure h
section
variable{prog:Program}{w:World}{A:Around}{E:Value->Shared->Prop}{h:Heap}{g:Array GenState}{d:Drawn}{t:Nat}{os:OsState}
variable{nm q:Str}{C N:Addr}{bs bm:List Value}{hdct:Bool}{sn:List Str}{sub:List Value}{ab:Bool}{col:Option Bool}{dd:Option Addr}{k0 k1 k2 k3 k5:Option Value}
theorem Gp6{e:Addr}{t0:Addr}(x:XB bm)(hC:h.get? C=some (excClassObj nm q C N bs bm hdct sn sub ab col dd k0 k1 k2 k3 k5 "ValueError.__new__"))(he:h.get? e=some { cls:=.ref C,dict:=dx,data:=.fields #[.ref t0,.none,.none,.none,.bool false,.none] })(hq:∀ h',h'.get? e=some { cls:=.ref C,dict:=dx,data:=.fields #[.ref h.objs.size,.none,.none,.none,.bool false,.none] }->(∀ b o,b≠e->h.get? b=some o->h'.get? b=some o)->h'.get? h.objs.size=some { cls:=.type "tuple",data:=.seq #[v] }->Q .none ⟨h',g,d,t,os⟩):
  wpAny (model prog w) A (call (.builtin "ValueError.__init__") [.ref e,v]) Q E ⟨h,g,d,t,os⟩:=by
 have hB:=x.has C
 refine wpAny_call (codeAny_call_builtin FV.init.plain FV.initEntry ?_)
 have chk:∀ {M:Model} {A:Around} {E:Value->Shared->Prop} {Q:Unit->Shared->Prop},Q () ⟨h,g,d,t,os⟩->wpAny M A (checkBuiltinCall "ValueError.__init__" ⟨[.ref e,v],[]⟩) Q E ⟨h,g,d,t,os⟩:=fun hQ=>by
  have ns:=FV.noStar
  simp only[checkBuiltinCall,FV.initKind,FV.initSplit,FV.initRow]
  repeat (first | with_reducible refine wpAny_loadPart_at he ?_ | with_reducible refine wpAny_loadPart_at hC ?_ | (with_reducible refine wpAny_isSubtype_exc hC ?_; rw[hB]) | wp_step)
  exact hQ
 refine chk ?_
 wp_walk
 have le:e≠h.objs.size:=At (Ae he)
 refine hq _ ?_ (fun b o hb ho=>?_) ?_
 ·rw[AN _ (Ah _ he) rfl]
  rfl
 ·rw[AG _ _ (Ne.symm hb)]
  exact Ah _ ho
 ·rw[AG _ _ le]
  exact AA _ rfl
theorem Ggn{M:Model}{Q:Unit->Shared->Prop}(x:XB bm)(hC:h.get? C=some (excClassObj nm q C N bs bm hdct sn sub ab col dd k0 k1 k2 k3 k5 "ValueError.__new__"))(hq:Q () ⟨h,g,d,t,os⟩):
  wpAny M A (checkBuiltinCall "ValueError.__new__" ⟨[.ref C,v],[]⟩) Q E ⟨h,g,d,t,os⟩:=by
 have hB:=x.has C
 have ns:=FV.noStar
 simp only[checkBuiltinCall,FV.newKind,FV.newSplit,FV.newRow]
 repeat (first | refine wpAny_loadPart_at hC ?_ | (refine wpAny_isSubtype_exc hC ?_; rw[hB]) | refine wpAny_staticBase_exc hC ?_ | refine wpAny_madeBy_exc hC ?_ | simp only[bne_self_eq_false,Ak,if_false] | wp_step)
 exact hq
theorem Gyi{R:Result->Shared->Prop}(x:XB bm)(hC:h.get? C=some (excClassObj nm q C N bs bm hdct sn sub ab col dd k0 k1 k2 k3 k5 "ValueError.__new__"))(hq:R (.ok (.ret (.ref (h.objs.size+1)))) ⟨(h.push { cls:=.type "tuple",data:=.seq #[v] }).push { cls:=.ref C,data:=.fields #[.ref h.objs.size,.none,.none,.none,.bool false,.none] },g,d,t,os⟩):
  codeAny (model prog w) A (.builtin "ValueError.__new__" ⟨[.ref C,v],[]⟩) R ⟨h,g,d,t,os⟩:=by
 have he:=FV.ends
 have hB:=x.has C
 have hA:=x.noA C
 have hN:=x.noN C
 refine codeAny_builtinAt FV.entry ?_
 unfold Builtin.«BaseException.__new__»
 refine PySem.wpAt_bind ?_
 show PySem.wpAt _ _ _ (PySem.stack >>= _) _ _ _
 refine PySem.wpAt_bind (PySem.wpAt_stack fun p below=>PySem.wpAt_of_wpAny ?_)
 wp_walk
 refine PySem.wpAt_of_wpAny ?_
 rw[FV.owner]
 repeat (first | with_reducible refine wpAny_madeHere_exc FV.canon hC ?_ | with_reducible refine wpAny_loadPart_at hC ?_ | (with_reducible refine wpAny_isSubtype_exc hC ?_; first | rw[hB] | rw[hA] | rw[hN]) | wp_step)
 show R _ _
 rw[AR]
 exact hq
theorem Gvf{fI:Addr}(x:XB bm)(X:K.In h)(hC:h.get? C=some (excClassObj nm q C N bs bm hdct sn sub ab col dd k0 k1 k2 k3 k5 "ValueError.__new__"))(hi:PySem.W.findIn K (.ref C) "__init__"=some (some (.ref fI)))(hfI:h.get? fI=some oI)(hfc:oI.cls=.type "function")(hq:∀ h' e,h.objs.size<=e->Heap.MadeExcOf h h' e (.ref C) [v]->wpAny (model prog w) (A.under (.builtin "type.__call__" ⟨[.ref C,v],[]⟩)) (call (.ref fI) [.ref e,v]) (fun r s'=>r=.none/\Q (.ref e) s') E ⟨h',g,d,t,os⟩):
  wpAny (model prog w) A (call (.ref C) [v]) Q E ⟨h,g,d,t,os⟩:=by
 have hB:=x.has C
 have hA:=x.noA C
 have hN:=x.noN C
 have f1:=tc_lookup
 have f2:=tc_bind (.ref C)
 have hT:(⟨h,g,d,t,os⟩:Shared).TypeIs (.ref C) "type":=⟨_,hC,rfl⟩
 refine wpAny_call (codeAny_of_tree ?_)
 show wpAny _ _ (callAny (.ref C) _) _ _ _
 repeat (any_goals (first | assumption | with_reducible refine wpAny_loadPart_at hC ?_ | wp_step))
 refine⟨rfl,?_⟩
 refine codeAny_call_builtin_at (Code.quiet_builtin _ (by decide +kernel)) entry_typeCall (wpAny_check_type_call_sub hC ?_)
 repeat (first | with_reducible refine wpAny_loadPart_at hC ?_ | with_reducible refine wpAny_madeBy_exc hC ?_ | wp_step)
 refine codeAny_call_builtin_code (Code.quiet_builtin _ FV.quiet) (Ggn x hC (Gyi x hC ?_))
 show wpAny _ _ _ _ _ _
 have kp:∀ b o,h.get? b=some o->((h.push { cls:=.type "tuple",data:=.seq #[v] }).push { cls:=.ref C,data:=.fields #[.ref h.objs.size,.none,.none,.none,.bool false,.none] }).get? b=some o:=fun b o e=>Ah _ (Ah _ e)
 have he:((h.push { cls:=.type "tuple",data:=.seq #[v] }).push { cls:=.ref C,data:=.fields #[.ref h.objs.size,.none,.none,.none,.bool false,.none] }).get? (h.objs.size+1)=some { cls:=.ref C,data:=.fields #[.ref h.objs.size,.none,.none,.none,.bool false,.none] }:=by heap_get
 have ht:((h.push { cls:=.type "tuple",data:=.seq #[v] }).push { cls:=.ref C,data:=.fields #[.ref h.objs.size,.none,.none,.none,.bool false,.none] }).get? h.objs.size=some { cls:=.type "tuple",data:=.seq #[v] }:=Ah _ (AA _ rfl)
 have hC1:=kp _ _ hC
 have hf1:=kp _ _ hfI
 have X1:=X.keeps kp
 have hcC:(Value.ref C::bm).contains (.ref C)=true:=by simp
 have done:=hq _ (h.objs.size+1) (Bs _) ⟨kp,AV (Bs _),h.objs.size,he,AV (Aa _),ht⟩
 generalize (h.push { cls:=.type "tuple",data:=.seq #[v] }).push { cls:=.ref C,data:=.fields #[.ref h.objs.size,.none,.none,.none,.bool false,.none] }=h1 at *
 unfold isInstance
 repeat (first | with_reducible refine wpAny_loadPart_at he ?_ | (with_reducible refine wpAny_isSubtype_exc hC1 ?_; rw[hcC]) | wp_step)
 show wpAny _ _ (typeLookup (.ref C) _) _ _ _
 refine(PySem.W.looks_findIn X1 hi).here ?_
 refine wpAny_holding (wpAny_bind ?_)
 unfold bindSpecial
 refine wpAny_bind (wpAny_typeOf (T:="function") ⟨_,hf1,hfc⟩ ?_)
 rw[if_pos (by decide)]
 refine wpAny_pure (wpAny_bind (wpAny_mono done (fun r s' hr=>?_) fun _ _ x=>x))
 obtain⟨rfl,hQ⟩:=hr
 wp_walk
 exact hQ
end
section
variable{M:Model}{A:Around}{E:Value->Shared->Prop}{env:PySem.Env}
variable{nm q:Str}{C N:Addr}{bs bm:List Value}{hdct:Bool}{sn:List Str}{sub:List Value}{ab:Bool}{col:Option Bool}{dd:Option Addr}{k0 k1 k2 k3 k5:Option Value}{newId:String}
noncomputable def Wq(h:Heap)(e C:Addr)(dx:Option Addr):Prop:=∃ t:Addr,h.get? e=some { cls:=.ref C,dict:=dx,data:=.fields #[.ref t,.none,.none,.none,.bool false,.none] }
theorem Ga5{s:Shared}{x:Sem Value}{Q:Flow->Shared->Prop}(hb:XB bm)(hh:A.handled=none)
  (h:wpAny M A x (fun v s₁=>∃ e dx,v=.ref e/\s₁.heap.get? C=some (excClassObj nm q C N bs bm hdct sn sub ab col dd k0 k1 k2 k3 k5 newId)/\Wq s₁.heap e C dx/\E (.ref e) s₁) E s):
  wpAny M A (raiseStmt env (some x) none) Q E s:=by
 have hB:(Value.ref C::bm).contains (.type "BaseException")=true:=by rw[Bt,hb.b,Bool.or_true]
 unfold raiseStmt
 refine wpAny_bind (wpAny_mono h (fun v s₁ h₁=>?_) fun _ _ x=>x)
 obtain⟨e,dx,rfl,hC,⟨t,he⟩,hE⟩:=h₁
 obtain⟨hp,g,d,tk,os⟩:=s₁
 repeat (first | with_reducible refine wpAny_loadPart_at he ?_ | with_reducible refine wpAny_loadPart_at hC ?_ | (with_reducible refine wpAny_isSubtype_exc hC ?_; rw[hB]) | wp_step)
 exact wpAny_raiseNew_none hh hE
theorem Gp7{s:Shared}{x:Str}{e1:Expr}{Q:Flow->Shared->Prop}(hb:XB bm)(hh:A.handled=none)(h:wpAny M A (eval (.Name x np) env) (fun f s₁=>f=.ref C/\wpAny M A (spliced (backTo cpos (starEach (e1::es) env))) (fun vs s₂=>
   s₂.heap.get? C=some (excClassObj nm q C N bs bm hdct sn sub ab col dd k0 k1 k2 k3 k5 newId)/\wpAny M A (call (.ref C) vs) (fun v s₃=>∃ e dx,v=.ref e∧
    s₃.heap.get? C=some (excClassObj nm q C N bs bm hdct sn sub ab col dd k0 k1 k2 k3 k5 newId)/\Wq s₃.heap e C dx/\E (.ref e) s₃) E s₂) E s₁) E s)(he:starEach (e1::es) env=(false,eval e1 env)::starEach es env:=by rfl)(hpl:(backTo cpos (starEach es env)).any (·.1)=false:=by rfl):
  wpAny M A (exec (.Raise (some (.Call (.Name x np) (e1::es) [] cpos)) none pos) env) Q E s:=by
 have plain:(backTo cpos (starEach (e1::es) env)).any (·.1)=false:=by
  rw[he]
  show(false||(backTo cpos (starEach es env)).any (·.1))=false
  rw[hpl]; rfl
 rw[arm_exec_Raise]
 have key:wpAny M A (eval (.Call (.Name x np) (e1::es) [] cpos) env) (fun v s₁=>∃ e dx,v=.ref e/\s₁.heap.get? C=some (excClassObj nm q C N bs bm hdct sn sub ab col dd k0 k1 k2 k3 k5 newId)/\Wq s₁.heap e C dx/\E (.ref e) s₁) E s:=by
  refine wpAny_Call_ofName (wpAny_mono h (fun f s₁ h₁=>?_) fun _ _ x=>x)
  obtain⟨rfl,h₁⟩:=h₁
  unfold callWith
  have ev:wpAny M A (evalArgs (.ref C) true (backTo cpos (starEach (e1::es) env)) []) (fun a s₂=>a.kw=[]/\s₂.heap.get? C=some (excClassObj nm q C N bs bm hdct sn sub ab col dd k0 k1 k2 k3 k5 newId)/\wpAny M A (call (.ref C) a.pos) (fun v s₃=>∃ e dx,v=.ref e∧
    s₃.heap.get? C=some (excClassObj nm q C N bs bm hdct sn sub ab col dd k0 k1 k2 k3 k5 newId)/\Wq s₃.heap e C dx/\E (.ref e) s₃) E s₂) E s₁:=by
   rw[he] at h₁ ⊢
   exact PySem.Calls.evalArgs_plain (wpAny_mono h₁ (fun vs s₂ z=>⟨rfl,z⟩) fun _ _ x=>x)
  refine wpAny_bind (wpAny_holding (wpAny_mono ev (fun a s₂ h₂=>wpAny_bind (wpAny_standAt ?_)) fun _ _ x=>x))
  obtain⟨ap,ak⟩:=a
  obtain⟨hk,hC,h₂⟩:=h₂
  obtain rfl:ak=[]:=hk
  obtain⟨hp,g,d,tk,os⟩:=s₂
  simp only[plain]
  refine wpAny_bind (wpAny_keeperOf_exc hC ?_)
  exact wpAny_bind (wpAny_mono h₂ (fun r s₃ hr=>wpAny_bind (wpAny_holding (wpAny_point (wpAny_pure hr)))) fun _ _ x=>x)
 first
  | exact wpAny_bind (wpAny_standAt (Ga5 hb hh (wpAny_bind (wpAny_mono key (fun v s₃ h₃=>wpAny_bind (wpAny_standAt (wpAny_pure h₃))) fun _ _ x=>x))))
  | (simp only[evalOpt,Option.map]; exact wpAny_bind (wpAny_standAt (Ga5 hb hh (wpAny_bind (wpAny_mono key (fun v s₃ h₃=>wpAny_bind (wpAny_standAt (wpAny_pure h₃))) fun _ _ x=>x)))))
end
noncomputable def FX(e C:Addr)(dx:Option Addr):HO:=.ext fun h=>Wq h e C dx
theorem Gsy{e:Addr}(f:Wq h e C dx):Jj P w H h e (FX e C dx):=
 ⟨f,(let ⟨_,q⟩:=f; ⟨_,q⟩),fun _ _ ⟨t,q⟩ k=>⟨t,k _ q⟩⟩
theorem Gm1{a:Addr}{o:HO}(h:H a=some o):upd H a o=H:=by
 funext b
 by_cases c:b=a
 ·subst c; rw[Hd,h]
 ·rw[Gk c]
structure KX(K:PySem.W.Frag)(C:Addr):Prop where
 ex:∃ nm q N bs bm hdct sn sub ab col dd k0 k1 k2 k3 k5,K.lookup C=some (excClassObj nm q C N bs bm hdct sn sub ab col dd k0 k1 k2 k3 k5 "ValueError.__new__")/\XB bm
section
variable{X:Cx}
noncomputable def tVI(K:PySem.W.Frag)(t:TA):TE:=fun σ H Q=>t σ H fun vs H1=>∃ e v C dx,vs=[.ref e,v]/\H1 e=some (FX e C dx)/\KX K C/\Q .non H1
theorem Gm2{t:TA}{pl:Sem Bool}(hg:Gl X "ValueError")(hm:X.mg "ValueError"=none)(ha:PA X [a,b] t)(ht:eval (.Call (.Attribute (.Name "ValueError" p) "__init__" apos) [a,b] [] pos) X.env=(do
   let ov <- eval (.Name "ValueError" p) X.env
   standAt apos.atName
   let (f,first) <- holding [ov] (getMethod ov "__init__" pl)
   callWith pos f first (backTo pos (starEach [a,b] X.env)) (backToKw pos (keywordEach [] X.env))))(hs:starEach [a,b] X.env=(false,eval a X.env)::starEach [b] X.env:=by rfl)(hpl:(backTo pos (starEach [b] X.env)).any (·.1)=false:=by rfl):
  PE X (.Call (.Attribute (.Name "ValueError" p) "__init__" apos) [a,b] [] pos) (tVI X.K t):=by
 intro pins s σ H Q I h
 refine PySem.W.methodCall_KW (pl:=pl) (Vn I hg hm (by rfl) ?_ (by decide) (by decide)) ht
 refine Gp5 I.kIn ?_
 have hA:=ha pos pins { s with toks:=s.toks+1 } σ H _ (I.tok _) h
 show wpAny _ _ (callWith pos (.builtin "ValueError.__init__") [] (backTo pos (starEach [a,b] X.env)) _) _ _ _
 rw[hs] at hA ⊢
 refine Calls.callWith_builtin (by show(false||(backTo pos (starEach [b] X.env)).any (·.1))=false; rw[hpl]<;>rfl) (Calls.evalArgs_plain ?_)
 refine thn hA fun us s2 zq0=>?_
 obtain⟨vs,H2,I2,r2,e,v,C,dx,ev,hH,kx,q⟩:=zq0
 subst ev
 cases r2 with
 | cons ra rb=>
  cases rb with
  | cons rv rn=>
   cases rn
   cases ra
   obtain⟨nm,qn,N,bs,bm,hdct,sn,sub,ab,col,dd,k0,k1,k2,k3,k5,lk,xb⟩:=kx.ex
   have hC:=I2.kIn _ _ lk
   obtain⟨⟨t0,he⟩,_,_⟩:=(show Jj X.prog X.w H2 s2.heap e (FX e C dx) from I2.hok e _ hH)
   obtain⟨hp,g,d,tk,os⟩:=s2
   refine Gp6 xb hC he fun h' e1 k1' _=>?_
   have I3:=I2.write (h':=h') (x:=e) (e:=e) (o:=FX e C dx) (t':=tk) (by rw[hH]; exact trivial) (.inl rfl) (fun b u hb hu=>k1' b u hb hu) ⟨_,e1⟩ (Gsy ⟨_,e1⟩)
   rw[Gm1 hH] at I3
   exact⟨.non,H2,I3,rfl,q⟩
end
noncomputable def spI(K:PySem.W.Frag):Sp:=fun vs H Q _=>∃ e v C dx,vs=[.ref e,v]/\H e=some (FX e C dx)/\KX K C/\Q .non H
section
variable{X:Cx}{pins:List (Addr×Obj)}{σ:L2.St}{H:Hp}{s:Shared}{C f:Addr}{fd:FuncData}{ps:List Str}{k:Nat}
theorem Gyj{v:V}{u:Value}(kx:KX X.K C)(hi:PySem.W.findIn X.K (.ref C) "__init__"=some (some (.ref f)))(lf:X.K.lookup f=some oI)(hfc:oI.cls=.type "function")(F:FnOk X.prog X.w X.K X.mg X.base CX0 k f fd ps (spI X.K))(hl:ps.length=2)(hr:Room (k+1) X.A)(hb:Binds X.K fd ps [])(I:Inv X pins σ H s)(rv:Gz v u):
  wpAny (model X.prog X.w) X.A (call (.ref C) [u]) (fun r s'=>∃ e,r=.ref e/\(H e=none/\X.s₀.heap.get? e=none)/\Inv X pins σ (upd H e (FX e C none)) s') X.xe s:=by
 obtain⟨nm,qn,N,bs,bm,hdct,sn,sub,ab,col,dd,k0,k1,k2,k3,k5,lk,xb⟩:=kx.ex
 obtain⟨hp,g,d,tk,os⟩:=s
 refine Gvf xb I.kIn (I.kIn _ _ lk) hi (I.kIn _ _ lf) hfc fun h' e le hm=>?_
 have hn:H e=none:=I.hok.fresh le
 have h0:X.s₀.heap.get? e=none:=AV (Ao I.sz le)
 obtain⟨t,ht,_,_⟩:=hm.there
 have I1:Inv X pins σ (upd H e (FX e C none)) ⟨h',g,d,tk,os⟩:=I.laid (t':=tk) hm.keeps le (Gsy ⟨t,ht⟩)
 refine wpAny_call (codeAny_mono (F.run (X.A.under (.builtin "type.__call__" ⟨[.ref C,u],[]⟩)) X.stack ⟨h',g,d,tk,os⟩ (upd H e (FX e C none)) ⟨[.ref e,u],[]⟩ [.ref e,u] [.ref e,v] (fun v' H'=>v'=.non/\H'=upd H e (FX e C none)) E0
  (hr.make C [u] []) (I1.env0.make C [u] []) (by have:=hb ⟨h',g,d,tk,os⟩ [.ref e,u] I1.kIn (by simpa using hl.symm); simpa using this) (.cons rfl (.cons rv .nil)) ⟨e,v,C,none,rfl,Hd,kx,rfl,rfl⟩) fun r s' hq=>?_)
 cases r with
 | error x=>exact hq.elim
 | ok fl=>
  cases fl with
  | ret u'=>
   obtain⟨v',H',I',r',e1,e2⟩:=I1.after hq
   subst e1 e2
   exact⟨r',e,rfl,⟨hn,h0⟩,I'⟩
  | next=>exact hq.elim
  | brk=>exact hq.elim
  | cont=>exact hq.elim
noncomputable def tRz(C:Addr)(W:L2.St->Hp->Addr->Prop)(t:TA):TS:=fun _ σ H=>t σ H fun vs H1=>∃ v,vs=[v]/\∀ e,H1 e=none->W σ (upd H1 e (FX e C none)) e
theorem Gm3{W:L2.St->Hp->Addr->Prop}{x:Str}{t:TA}(hW:∀ (pins:List (Addr×Obj)) (σ:L2.St) (H:Hp) (e:Addr) (s':Shared),Inv X pins σ H s'->H e=some (FX e C none)->X.s₀.heap.get? e=none->W σ H e->X.xe (.ref e) s')(hcm:X.calm=true)(hg:Gl X x)(hm:X.mg x=some (.ref C))(kx:KX X.K C)(hi:PySem.W.findIn X.K (.ref C) "__init__"=some (some (.ref f)))(lf:X.K.lookup f=some oI)(hfc:oI.cls=.type "function")(F:FnOk X.prog X.w X.K X.mg X.base CX0 k f fd ps (spI X.K))(hl:ps.length=2)(hr:Room (k+1) X.A)(hb:Binds X.K fd ps [])(ha:PA X [a] t)(hdb:(x==("__debug__":Str))=false:=by decide)(he:starEach [a] X.env=(false,eval a X.env)::starEach [] X.env:=by rfl)(hpl:(backTo cpos (starEach [] X.env)).any (·.1)=false:=by rfl):
  PS X (.Raise (some (.Call (.Name x np) [a] [] cpos)) none pos) (tRz C W t):=by
 intro pins s σ H D I h
 obtain⟨nm,qn,N,bs,bm,hdct,sn,sub,ab,col,dd,k0,k1,k2,k3,k5,lk,xb⟩:=id kx.ex
 refine Gp7 (C:=C) (nm:=nm) (q:=qn) (N:=N) (bs:=bs) (bm:=bm) (hdct:=hdct) (sn:=sn) (sub:=sub) (ab:=ab) (col:=col) (dd:=dd) (k0:=k0) (k1:=k1) (k2:=k2) (k3:=k3) (k5:=k5) (newId:="ValueError.__new__") xb (I.ok.hd hcm) (Xs I hg hm ⟨rfl,?_⟩ hdb) he hpl
 refine thn (ha cpos pins s σ H _ I h) fun us s1 ⟨vs,H1,I1,r1,v,ev,q⟩=>⟨I1.kIn _ _ lk,?_⟩
 subst ev
 obtain⟨u,rfl,rv⟩:=Gaz r1
 refine thn (Gyj kx hi lf hfc F hl hr hb I1 rv) fun r s2 ⟨e,er,⟨hn,h0⟩,I2⟩=>?_
 subst er
 have hH:upd H1 e (FX e C none) e=some (FX e C none):=Hd
 obtain⟨fr,_,_⟩:=(show Jj X.prog X.w _ s2.heap e (FX e C none) from I2.hok e _ hH)
 exact⟨e,none,rfl,I2.kIn _ _ lk,fr,hW pins σ _ e s2 I2 hH h0 (q e hn)⟩
end
noncomputable def Gak(h:Heap)(e C:Addr)(dx:Option Addr):Prop:=∃ t c k u:Value,h.get? e=some { cls:=.ref C,dict:=dx,data:=.fields #[t,.none,c,k,u,.none] }/\(dx=none->c=.none)
theorem Wq.g{e:Addr}(f:Wq h e C dx):Gak h e C dx:=by
 obtain⟨t,q⟩:=f
 exact⟨_,_,_,_,q,fun _=>rfl⟩
noncomputable def Gvg(fl:Value)(h:Heap)(a T C:Addr)(dx:Option Addr):Prop:=∃ oe vs oT ts a0,h.get? a=some oe/\(oe.cls=.ref C/\oe.dict=dx/\vs[0]?=some a0/\(dx=none->vs[2]?=some .none))/\oe.data=.fields vs/\vs[1]?=some (.ref T)/\T≠a/\h.get? T=some oT/\oT.data=.fields ts/\ts[3]?=some fl
noncomputable abbrev Fly:=Gvg .none
section
variable{M:Model}{A:Around}{E:Value->Shared->Prop}{s:Shared}{Q:Unit->Shared->Prop}{env:PySem.Env}{outer:List PySem.Env}{L:Addr}{base:Heap}
theorem Ggo{l:List PySem.Env}{a:Addr}{o:Obj}(hl:h.FunFrames base l)(e:h.get? a=some o)(d:o.data=.fields vs):a∉frs l:=fun hm=>by
 obtain⟨_,o',e',nf⟩:=hl.mem hm
 rw[e] at e'
 cases e'
 exact nf vs d
structure Left(fs:List Addr)(no:List Addr)(h h':Heap):Prop where
 keep:∀ b o,b∉fs->b∉no->h.get? b=some o->h'.get? b=some o
 slot:∀ b o,b∈fs->h.get? b=some o->∃ sl,h'.get? b=some { o with slots:=sl }
theorem Gp8(f:Array Value->Array Value)(o:Obj):(Obj.mapFields f o).dict=o.dict:=by
 obtain⟨c,d,dt,sl⟩:=o
 cases dt<;>rfl
theorem Gyk{e:Addr}{oe:Obj}{head a0:Value}{hn:Bool}(hfr:A.frames=some (env::outer))(hl:s.heap.FunFrames base (env::outer))(hf:env.frame=some L)(he:s.heap.get? e=some oe)(hc:oe.cls=.ref C/\oe.dict=dx)(hd:oe.data=.fields vs)(hz:1<vs.size)(h0:vs[0]?=some a0/\(dx=none->vs[2]?=some .none))(hq:∀ h' T,Gvg (rawInt L) h' e T C dx->s.heap.get? T=none->Left (frs (env::outer)) [e] s.heap h'->Q () { s with heap:=h' }):
  wpAny M A (frameOf env >>= fun a=>entryPlaceOf L hn >>= fun pl=>EntryCells.newEntry head a .none (rawInt L) .none pl >>= fun b=>setField (.ref e) 1 b) Q E s:=by
 have nf:=Ggo hl he hd
 refine wpAny_bind (wpAny_frameOf_fun hfr hl hf fun h1 so=>wpAny_bind (wpAny_entryPlaceOf fun pl ip=>?_))
 obtain⟨sz,so1,so2⟩:=so
 have g1:h1.get? e=some oe:=(so1 e nf).trans he
 unfold EntryCells.newEntry newFields
 refine wpAny_bind (wpAny_newObj_type ?_ (ip.sizeOk5 _ _ _ _ _))
 generalize hT:({ cls:=.type "traceback",dict:=none,data:=.fields ([head,.ref L,.none,rawInt L,.none]++(if pl.isEmpty then List.replicate 6 Value.none else pl)).toArray }:Obj)=oT
 have g2:=Ah (h:=h1) oT g1
 have nT:h1.objs.size≠e:=Bg (Ae g1)
 refine wpAny_setField g2 hd hz ?_
 have d3:=Obj.data_mapFields hd (·.setIfInBounds 1 (Value.ref h1.objs.size))
 have g3:=AN (Obj.mapFields (·.setIfInBounds 1 (Value.ref h1.objs.size))) g2 (Obj.isFreed_of_fields d3)
 have t3:((h1.push oT).update e (Obj.mapFields (·.setIfInBounds 1 (Value.ref h1.objs.size)))).get? h1.objs.size=some oT:=(AG _ _ (Ne.symm nT)).trans (AA h1 (by rw[<- hT]; rfl))
 have kp:∀ b o,b≠e->h1.get? b=some o->((h1.push oT).update e (Obj.mapFields (·.setIfInBounds 1 (Value.ref h1.objs.size)))).get? b=some o:=fun b o hb q=>by
  rw[AG _ _ (Ne.symm hb)]
  exact Ah _ q
 refine hq _ h1.objs.size ⟨_,_,oT,_,a0,g3,⟨(Obj.cls_mapFields _ _).trans hc.1,?_,?_⟩,d3,by simp[hz],nT,t3,by rw[<- hT],?_⟩ ?_ ⟨fun b o hb hn q=>kp b o (by simpa using hn) ((so1 b hb).trans q),fun b o hb q=>?_⟩
 ·rw[<- hc.2]
  exact Gp8 _ _
 ·rw[Array.getElem?_setIfInBounds_ne (by decide),Array.getElem?_setIfInBounds_ne (by decide)]; exact h0
 ·first | (simp; done) | (rcases ip with rfl | ⟨_,_,_,_,_,_,_,rfl⟩<;>simp)
 ·exact AV (by rw[sz]; exact Aa _)
 ·obtain⟨sl,q'⟩:=so2 b o q
  exact⟨sl,kp b _ (fun z=>nf (by rw[<- z]; exact hb)) q'⟩
theorem fltD{e T:Addr}{fl:Value}(f:Gvg fl s.heap e T C dx)(hq:∀ h',Fly h' e T C dx->(∀ b o,b≠T->s.heap.get? b=some o->h'.get? b=some o)->Q () { s with heap:=h' }):wpAny M A (setFlight (.ref e) none) Q E s:=by
 obtain⟨oe,vs,oT,ts,a0,e1,e2,e3,e4,e5,e6,e7,e8⟩:=f
 have h3:3<ts.size:=(Array.getElem?_eq_some_iff.mp e8).1
 refine wpAny_setFlight_none e1 e3 e4 e6 e7 h3 (hq _ ⟨oe,vs,_,_,a0,by rw[AG _ _ e5]; exact e1,e2,e3,e4,e5,AN _ e6 (Obj.isFreed_of_fields (Obj.data_mapFields e7 _)),Obj.data_mapFields e7 _,by simp[h3]⟩ fun b o hb q=>by rw[AG _ _ (Ne.symm hb)]; exact q)
theorem Gsz{e:Addr}(hfr:A.frames=some (env::outer))(hl:s.heap.FunFrames base (env::outer))(hf:env.frame=some L)(fx:Gak s.heap e C dx)(hq:∀ h' T,Fly h' e T C dx->s.heap.get? T=none->Left (frs (env::outer)) [e] s.heap h'->Q () { s with heap:=h' }):wpAny M A (noteFrame (.ref e) env) (fun _ s₂=>wpAny M A (setFlight (.ref e) none) Q E s₂) E s:=by
 obtain⟨t,c,k,u,he,hc⟩:=fx
 unfold noteFrame
 simp only[hf]
 refine wpAny_bind (wpAny_field he rfl rfl ?_)
 show wpAny M A (if(Value.none != Value.none)=true then _ else _) _ _ _
 rw[if_neg (show¬ ((Value.none != Value.none)=true) from by decide)]
 refine Gyk hfr hl hf he ⟨rfl,rfl⟩ rfl (by simp) ⟨rfl,fun z=>by rw[hc z]; rfl⟩ fun h1 T f1 hT lf=>fltD (s:={ s with heap:=h1 }) f1 fun h' f2 kp=>hq h' T f2 hT ⟨fun b o hb hn q=>kp b o (fun z=>by rw[z,hT] at q; cases q) (lf.keep b o hb hn q),fun b o hb q=>?_⟩
 obtain⟨sl,q'⟩:=lf.slot b o hb q
 exact⟨sl,kp b _ (fun z=>by rw[z,hT] at q; cases q) q'⟩
theorem Gs0{a T:Addr}(hfr:A.frames=some (env::outer))(hl:s.heap.FunFrames base (env::outer))(hf:env.frame=some L)(fl:Fly s.heap a T C dx)(hq:∀ h' T',Fly h' a T' C dx->(s.heap.get? T'=none\/T'=T)->Left (frs (env::outer)) [a,T] s.heap h'->Q () { s with heap:=h' }):wpAny M A (noteFrame (.ref a) env) (fun _ s₂=>wpAny M A (setFlight (.ref a) none) Q E s₂) E s:=by
 obtain⟨oe,vs,oT,ts,a0,e1,⟨c1,c2,c3⟩,e3,e4,e5,e6,e7,e8⟩:=fl
 have h3:3<ts.size:=(Array.getElem?_eq_some_iff.mp e8).1
 have nfT:=Ggo hl e6 e7
 unfold noteFrame
 simp only[hf]
 refine wpAny_bind (wpAny_field e1 e3 e4 ?_)
 rw[if_pos (show(Value.ref T != Value.none)=true from by simp)]
 refine wpAny_bind (wpAny_field e6 e7 e8 ?_)
 rw[if_neg (show¬ ((Value.none==rawInt L)=true) from by simp[rawInt])]
 refine wpAny_bind (wpAny_setField e6 e7 h3 ?_)
 have ot:∀ b,b≠T->(s.heap.update T (Obj.mapFields (·.setIfInBounds 3 Value.none))).get? b=s.heap.get? b:=fun b hb=>AG _ _ (Ne.symm hb)
 have tt:=AN (Obj.mapFields (·.setIfInBounds 3 Value.none)) e6 (Obj.isFreed_of_fields (Obj.data_mapFields e7 _))
 have hl2:(s.heap.update T (Obj.mapFields (·.setIfInBounds 3 Value.none))).FunFrames base (env::outer):=hl.of_keeps fun b o q nf=>⟨o,(ot b fun z=>by rw[z,e6] at q; cases q; exact nf ts e7).trans q,rfl⟩
 refine Gyk (s:={ s with heap:=s.heap.update T (Obj.mapFields (·.setIfInBounds 3 Value.none)) }) hfr hl2 hf ((ot a (Ne.symm e5)).trans e1) ⟨c1,c2⟩ e3 (Array.getElem?_eq_some_iff.mp e4).1 c3 fun h1 T1 f1 hT lf=>fltD (s:={ s with heap:=h1 }) f1 fun h' f2 kp=>hq h' T1 f2 (.inl ?_) ⟨fun b o hb hn q=>?_,fun b o hb q=>?_⟩
 ·cases z:s.heap.get? T1 with
  | none=>rfl
  | some o=>
   by_cases c:T1=T
   ·rw[c] at hT
    rw[show(s.heap.update T (Obj.mapFields (·.setIfInBounds 3 Value.none))).get? T=_ from tt] at hT
    cases hT
   ·rw[show(s.heap.update T (Obj.mapFields (·.setIfInBounds 3 Value.none))).get? T1=_ from ot T1 c,z] at hT
    cases hT
 ·simp only[Ad,AF,or_false,not_or] at hn
  have q1:(s.heap.update T (Obj.mapFields (·.setIfInBounds 3 Value.none))).get? b=some o:=(ot b hn.2).trans q
  exact kp b o (fun z=>by rw[z] at q1; rw[show _=none from hT] at q1; cases q1) (lf.keep b o hb (by simpa using hn.1) q1)
 ·have nb:b≠T:=fun z=>nfT (by rw[<- z]; exact hb)
  have q1:(s.heap.update T (Obj.mapFields (·.setIfInBounds 3 Value.none))).get? b=some o:=(ot b nb).trans q
  obtain⟨sl,q'⟩:=lf.slot b o hb q1
  exact⟨sl,kp b _ (fun z=>by rw[z] at q1; rw[show _=none from hT] at q1; cases q1) q'⟩
theorem Gvh{e:Addr}(hfr:A.frames=some (env::outer))(hl:s.heap.FunFrames base (env::outer))(hf:env.frame=some L)(fx:Gak s.heap e C dx)(hq:∀ h' T,Fly h' e T C dx->s.heap.get? T=none->Left (frs (env::outer)) [e] s.heap h'->Q () { s with heap:=h' }):wpAny M A (leaving env (.ref e)) Q E s:=by
 unfold leaving
 exact wpAny_bind (Gsz hfr hl hf fx hq)
theorem Gvi{a T:Addr}(hfr:A.frames=some (env::outer))(hl:s.heap.FunFrames base (env::outer))(hf:env.frame=some L)(fl:Fly s.heap a T C dx)(hq:∀ h' T',Fly h' a T' C dx->(s.heap.get? T'=none\/T'=T)->Left (frs (env::outer)) [a,T] s.heap h'->Q () { s with heap:=h' }):wpAny M A (leaving env (.ref a)) Q E s:=by
 unfold leaving
 exact wpAny_bind (Gs0 hfr hl hf fl hq)
end
noncomputable def del(H:Hp)(a:Addr):Hp:=fun b=>if b=a then none else H b
theorem Qe{a:Addr}:del H a a=none:=if_pos rfl
theorem Ql{a b:Addr}(h:b≠a):del H a b=H b:=if_neg h
theorem Gk7{a:Addr}{o:HO}(x:Jj P w H h a o):∃ u,h.get? a=some u:=by
 cases o with
 | lst xs=>obtain⟨_,_,_,_,e⟩:=x; exact⟨_,e⟩
 | tup xs=>obtain⟨_,_,_,ob,e,_⟩:=x; exact⟨_,e⟩
 | dK kvs=>obtain⟨_,_,_,_,o,_,_,e,_⟩:=x; exact⟨_,e⟩
 | dT kvs=>obtain⟨_,_,_,_,o,_,_,e,_⟩:=x; exact⟨_,e⟩
 | set S n=>obtain⟨o,_,_,_,e,_⟩:=x; exact⟨_,e⟩
 | ins C dx fs=>obtain⟨_,_,_,e,_⟩:=x; exact⟨_,e⟩
 | own y=>obtain⟨_,e⟩:=x; exact⟨_,e⟩
 | xd fs=>obtain⟨_,⟨_,_,_,e,_⟩,_⟩:=x; exact⟨_,e⟩
 | rng lo hi=>obtain⟨_,_,_,e⟩:=x; exact⟨_,e⟩
 | frz ob u=>obtain⟨e,_⟩:=x; exact⟨_,e⟩
 | tbl ps=>exact⟨_,(show h.get? a=some _ from x)⟩
 | met f y=>exact⟨_,(show h.get? a=some _ from x)⟩
 | ext φ=>obtain⟨_,⟨_,e⟩,_⟩:=x; exact⟨_,e⟩
theorem Zi{a:Addr}(k:HOk P w H h)(e:h.get? a=none):H a=none:=by
 cases z:H a with
 | none=>rfl
 | some o=>
  obtain⟨u,q⟩:=Gk7 (k a o z)
  rw[e] at q
  cases q
noncomputable def CXe(P:Program)(w:World):CXT:=fun outer H s E e s'=>∃ a T C dx H',e=.ref a/\s'.os=s.os/\AllBare s'.gens/\Un (frs outer) [] H H' s.heap s'.heap/\HOk P w H' s'.heap/\Fly s'.heap a T C dx/\(H' a=none/\H' T=none)/\(s.heap.get? a=none/\s.heap.get? T=none)/\E (.ref C) dx H'
theorem hok_left{h':Heap}{fs no:List Addr}(k:HOk P w H h)(l:Left fs no h h')(hf:∀ b∈fs,H b=none)(hn:∀ b∈no,H b=none):HOk P w H h':=fun b o e=>by
 refine(k b o e).stay (fun c u hc q=>l.keep c u (fun z=>?_) (fun z=>?_) q) (fun _ q=>q) fun _ _ q=>q
 ·have:=hf c z
  rcases hc with rfl | hc
  ·rw[e] at this; cases this
  ·rw[hc] at this; cases this
 ·have:=hn c z
  rcases hc with rfl | hc
  ·rw[e] at this; cases this
  ·rw[hc] at this; cases this
theorem Gjg{a:Addr}(k:HOk P w H h)(ha:H a=some (.ext φ)):HOk P w (del H a) h:=fun b o e=>by
 have nb:b≠a:=fun z=>by rw[z,Qe] at e; cases e
 rw[Ql nb] at e
 refine(k b o e).stay (fun c u _ q=>q) (fun c q=>?_) fun c xs q=>?_
 ·rw[Ql (fun z=>by rw[z,ha] at q; cases q)]; exact q
 ·rw[Ql (fun z=>by rw[z,ha] at q; cases q)]; exact q
theorem Gjh{fs no:List Addr}{L:Addr}{H':Hp}{h1 h2:Heap}(u:Un fs [] H H1 h h1)(l:Left (L::fs) no h1 h2)(hL:h.get? L=none)(hno:∀ b∈no,h.get? b=none)(fr:∀ b,H1 b=none->H' b=none)(tp:∀ b xs,H1 b=some (.tup xs)->H' b=some (.tup xs))(fz:∀ b o v,H1 b=some (.frz o v)->H' b=some (.frz o v))(tb:∀ b ps,H1 b=some (.tbl ps)->H' b=some (.tbl ps)):Un fs [] H H' h h2:=by
 have nL:∀ b o,h.get? b=some o->b≠L:=fun b o e z=>by rw[z,hL] at e; cases e
 have nN:∀ b o,h.get? b=some o->b∉no:=fun b o e z=>by rw[hno b z] at e; cases e
 refine⟨fun b o e n hb hx=>?_,fun b o e n hb hx=>?_,fun b o e n hx=>fr b (u.free b o e n hx),fun b o e hx=>?_,fun b xs e=>tp b xs (u.tups b xs e),fun b o v e=>fz b o v (u.frzs b o v e),fun b ps e=>?_⟩
 ·refine l.keep b o (fun z=>?_) (nN b o e) (u.keep b o e n hb hx)
  rcases Ad.mp z with z | z
  ·exact nL b o e z
  ·exact hb z
 ·obtain⟨sl,q⟩:=u.slot b o e n hb hx
  obtain⟨sl',q'⟩:=l.slot b _ (An _ hb) q
  exact⟨sl',q'⟩
 ·obtain⟨o',q⟩:=u.there b o e hx
  by_cases c:b∈L::fs
  ·obtain⟨sl,q'⟩:=l.slot b o' c q
   exact⟨_,q'⟩
  ·exact⟨o',l.keep b o' c (nN b o e) q⟩
 ·obtain⟨more,q⟩:=u.tbls b ps e
  exact⟨more,tb b _ q⟩
section
variable{P:Program}{w:World}{K:PySem.W.Frag}{mg:Str->Option Value}{base:Heap}{N:List Str}{qual:Str}{scope:Scope}{f:Addr}{cd:Value}{A:Around}{outer:List PySem.Env}{s:Shared}{H:Hp}{E:XK}
theorem Wr{fs:List Addr}{H0:Hp}{h0 h1:Heap}{b:Addr}(u:Un fs [] H0 H1 h0 h1)(e:h1.get? b=none):h0.get? b=none:=by
 cases z:h0.get? b with
 | none=>rfl
 | some o=>
  obtain⟨o',q⟩:=u.there b o z (by simp)
  rw[e] at q
  cases q
theorem Gm4{s1:Shared}{e:Addr}(I:Inv (Ku (CXe P w) P w K mg base N qual scope f cd A outer s H E) pins σ H1 s1)(hH:H1 e=some (.ext φ))(fr:Gak s1.heap e C dx)(le:s.heap.get? e=none)(hE:E (.ref C) dx (del H1 e)):
  (Ku (CXe P w) P w K mg base N qual scope f cd A outer s H E).xe (.ref e) s1:=by
 show wpAny (model P w) _ (leaving (envOfC qual scope s.heap.objs.size f cd) (.ref e)) _ _ s1
 have hL:s.heap.get? s.heap.objs.size=none:=AV (Aa _)
 refine Gvh (base:=base) I.ok.frames I.stack rfl fr fun h' T fl hT lf=>?_
 have hT1:H1 T=none:=Zi I.hok hT
 have dn:∀ b,H1 b=none->del H1 e b=none:=fun b q=>by
  by_cases c:b=e
  ·rw[c,Qe]
  ·rw[Ql c]; exact q
 have ne_of_kind:∀ {b:Addr} {o:HO},H1 b=some o->o≠.ext φ->b≠e:=fun q n z=>n (by rw[z,hH] at q; exact(Ac q).symm)
 refine⟨e,T,C,dx,del H1 e,rfl,I.os,I.bare,Gjh (L:=s.heap.objs.size) I.base lf hL (fun b hb=>?_) dn (fun b xs q=>?_) (fun b o v q=>?_) (fun b ps q=>?_),hok_left (Gjg I.hok hH) lf (fun b hb=>dn b (I.stkFree b hb)) (fun b hb=>?_),fl,⟨Qe,dn T hT1⟩,⟨le,Wr I.base hT⟩,hE⟩
 ·have:b=e:=by simpa using hb
  rw[this]; exact le
 ·rw[Ql (ne_of_kind q (by intro z; cases z))]; exact q
 ·rw[Ql (ne_of_kind q (by intro z; cases z))]; exact q
 ·rw[Ql (ne_of_kind q (by intro z; cases z))]; exact q
 ·have:b=e:=by simpa using hb
  rw[this]; exact Qe
theorem xe_on{s2 s3:Shared}{e:Value}{E2:XK}(I:Inv (Ku (CXe P w) P w K mg base N qual scope f cd A outer s H E) pins σ H2 s2)(hx:CXe P w (Ku (CXe P w) P w K mg base N qual scope f cd A outer s H E).stack H2 s2 E2 e s3)(hE:∀ C dx H',E2 (.ref C) dx H'->E (.ref C) dx H'):
  (Ku (CXe P w) P w K mg base N qual scope f cd A outer s H E).xe e s3:=by
 obtain⟨a,T,C,dx,H',rfl,os,bare,un,hok,fly,⟨na,nT⟩,⟨oa,oT⟩,hE2⟩:=hx
 obtain⟨h3,g3,d3,t3,o3⟩:=s3
 obtain rfl:o3=s2.os:=os
 have I3:Inv (Ku (CXe P w) P w K mg base N qual scope f cd A outer s H E) pins σ H' { s2 with heap:=h3,gens:=g3,drawn:=d3,toks:=t3 }:=I.call (h':=h3) (g':=g3) (d':=d3) (t':=t3) (ch:=[]) un hok bare (fun b z=>absurd z (by simp))
 show wpAny (model P w) _ (leaving (envOfC qual scope s.heap.objs.size f cd) (.ref a)) _ _ _
 have hL:s.heap.get? s.heap.objs.size=none:=AV (Aa _)
 have a0:s.heap.get? a=none:=Wr I.base oa
 have T0:s.heap.get? T=none:=Wr I.base oT
 refine Gvi (base:=base) I3.ok.frames I3.stack rfl fly fun h' T' fl hT lf=>?_
 have nT':H' T'=none:=by
  rcases hT with hT | rfl
  ·exact Zi hok hT
  ·exact nT
 have oT':s.heap.get? T'=none:=by
  rcases hT with hT | rfl
  ·exact Wr I3.base hT
  ·exact T0
 refine⟨a,T',C,dx,H',rfl,I3.os,bare,Gjh (L:=s.heap.objs.size) I3.base lf hL (fun b hb=>?_) (fun b q=>q) (fun b xs q=>q) (fun b o v q=>q) (fun b ps q=>q),hok_left hok lf (fun b hb=>I3.stkFree b hb) (fun b hb=>?_),fl,⟨na,nT'⟩,⟨a0,oT'⟩,hE _ _ _ hE2⟩
 ·simp only[Ad,AF,or_false] at hb
  rcases hb with rfl | rfl
  ·exact a0
  ·exact T0
 ·simp only[Ad,AF,or_false] at hb
  rcases hb with rfl | rfl
  ·exact na
  ·exact nT
end
noncomputable def XF(H:Hp)(dx:Option Addr)(fl:Option Int):Prop:=(∀ i,fl=some i->∃ d,dx=some d/\H d=some (XA d i))/\(fl=none->dx=none)
theorem Gp9:XF H none none:=⟨fun _ z=>(nomatch z),fun _=>rfl⟩
noncomputable def WX(K:PySem.W.Frag)(XQ:XW)(σ:L2.St)(C:Addr)(dx:Option Addr)(H:Hp):Prop:=∃ x mp ρ S,XF H dx x.fld/\CN K x.cls C/\XQ x mp H σ ρ S
structure XL(X:Cx)(XQ:XW):Prop where
 own:∀ (pins:List (Addr×Obj)) (σ:L2.St) (H:Hp) (s:Shared) (e C:Addr) (dx:Option Addr) (φ:Heap->Prop),Inv X pins σ H s->H e=some (.ext φ)->Gak s.heap e C dx->X.s₀.heap.get? e=none->WX X.K XQ σ C dx (del H e)->X.xe (.ref e) s
 cal:∀ (pins:List (Addr×Obj)) (σ:L2.St) (H:Hp) (s:Shared) (e:Value) (s':Shared) (E2:XK),Inv X pins σ H s->CXe X.prog X.w X.stack H s E2 e s'->(∀ C dx H',E2 (.ref C) dx H'->WX X.K XQ σ C dx H')->X.xe e s'
 pas:PassesOwn (model X.prog X.w) X.A X.env X.xe
 pat:∀ hd,PassesOwnAt (model X.prog X.w) (X.A.mark hd) X.A X.env X.xe
theorem XL.own1(L:XL X XQ)(pins:List (Addr×Obj))(σ:L2.St)(H:Hp)(s:Shared)(e C:Addr)(dx:Option Addr)(I:Inv X pins σ H s)(hH:H e=some (FX e C dx))(h0:X.s₀.heap.get? e=none)(w:WX X.K XQ σ C dx (del H e)):X.xe (.ref e) s:=by
 obtain⟨fr,_,_⟩:=(show Jj X.prog X.w H s.heap e (FX e C dx) from I.hok e _ hH)
 exact L.own pins σ H s e C dx _ I hH fr.g h0 w
noncomputable def Gyl(K:PySem.W.Frag)(mp:List Addr)(H:Hp)(o:Out D)(Q:VK)(E:XK):Prop:=
 match o with
 | .ok d S=>∀ mp' H' v,Aft K mp H mp' H'->RS K mp' H' S->Rep K mp' H' d v->Q v H'
 | .exc x S=>∃ C,CN K x.cls C/\∀ mp' H' dx,Aft K mp H mp' H'->RS K mp' H' S->XF H' dx x.fld->E (.ref C) dx H'
 | .bad=>False
noncomputable def spX(K:PySem.W.Frag)(n:Nat)(fn:Fn):Sp:=fun vs H Q E=>∃ mp ds S,RS K mp H S/\RepL K mp H ds vs/\ds.length=n/\Gyl K mp H (fn ds S) Q E
noncomputable def XQd(K:PySem.W.Frag)(E:XK):XW:=fun x _ H _ _ _=>∃ C,CN K x.cls C/\∀ dx,XF H dx x.fld->E (.ref C) dx H
section
variable{P:Program}{w:World}{K:PySem.W.Frag}{mg:Str->Option Value}{base:Heap}
theorem Gm5{f:Addr}{cd:Value}{outer:List PySem.Env}{s:Shared}{E:XK}:XL (Ku (CXe P w) P w K mg base N qual scope f cd A outer s H E) (XQd K E) where
 own:=fun pins σ H1 s1 e C dx φ I hH fr le ⟨x,mp,ρ,S,xf,hc,C',hc',hE⟩=>by
  cases CN.one hc hc'
  exact Gm4 I hH fr le (hE dx xf)
 cal:=fun pins σ H2 s2 e s3 E2 I hx hE=>xe_on I hx fun C dx H' q=>by
  obtain⟨x,mp,ρ,S,xf,hc,C',hc',hE⟩:=hE C dx H' q
  cases CN.one hc hc'
  exact hE dx xf
 pas:=PassesOwn.leaving
 pat:=fun _=>PassesOwnAt.leaving
theorem Fun.okX{CX:CXT}{x:Str}{f:Addr}{fd:FuncData}{k:Nat}(F:Fun K x qual st f fd)(S:FnScope N ps (Gb st))(len:∀ vs H Q E,sp vs H Q E->vs.length=ps.length)(hbody:∀ (cdv:Value) (A:Around) (outer:List PySem.Env) (s:Shared) (H:Hp) (vs:List V) (Q:VK) (E:XK),Room k (A.deeper (envOfC qual (Gb st) s.heap.objs.size f cdv))->sp vs H Q E→
   ∃ t,PSs (Ku CX P w K mg base N qual (Gb st) f cdv A outer s H E) (Gv st) t/\t { nx:=fun _ H'=>Q .non H',rt:=Q } (start N vs) H):FnOk P w K mg base CX (k+1) f fd ps sp:=by
 obtain⟨oc,od,kV,doc,pm,an,cdv,ct,osl,rfl,lk,hcd⟩:=F.ex
 exact Gl8 lk hcd S len fun A outer s H vs Q E hr hsp=>hbody cdv A outer s H vs Q E hr hsp
theorem Gvj{x:Str}{f:Addr}{fd:FuncData}{k:Nat}{b:Sv}(F:Fun K x qual st f fd)(Sc:FnScope N ps (Gb st))(hb:∀ (cdv:Value) (A:Around) (outer:List PySem.Env) (s:Shared) (H:Hp) (E:XK) (XQ:XW),Room k (A.deeper (envOfC qual (Gb st) s.heap.objs.size f cdv))->XL (Ku (CXe P w) P w K mg base N qual (Gb st) f cdv A outer s H E) XQ→
   JSs (Ku (CXe P w) P w K mg base N qual (Gb st) f cdv A outer s H E) XQ (Gv st) b):FnOk P w K mg base (CXe P w) (k+1) f fd ps (spX K ps.length (fnB N.length b)):=by
 refine Fun.okX F Sc (fun vs H Q E ⟨mp,ds,S,rs,r,hl,_⟩=>by rw[r.len]; exact hl) fun cdv A outer s H vs Q E hr ⟨mp,ds,S,rs,r,hl,p⟩=>?_
 refine⟨_,hb cdv A outer s H E (XQd K E) hr Gm5,mp,_,S,Gb1 rs r,?_⟩
 unfold fnB at p
 show PostS K _ mp H (b (ds.map some++List.replicate (N.length-ds.length) none) S) _
 cases z:b (ds.map some++List.replicate (N.length-ds.length) none) S with
 | rt d S'=>rw[z] at p; exact p
 | nx ρ' S'=>rw[z] at p; exact fun m h v af G=>p m h .non af G.rs rfl
 | bk ρ' S'=>rw[z] at p; exact p.elim
 | ct ρ' S'=>rw[z] at p; exact p.elim
 | exc x ρ' S'=>
  rw[z] at p
  obtain⟨C,hc,q⟩:=p
  exact fun m h v af G=>⟨C,hc,fun dx xf=>q m h dx af G.rs xf⟩
 | bad=>rw[z] at p; exact p.elim
structure CalX(P:Program)(w:World)(K:PySem.W.Frag)(mg:Str->Option Value)(base:Heap)(x:Str)(ps:List Str)(fn:Fn)(j:Nat):Prop where
 ex:∃ f fd,FnOk P w K mg base (CXe P w) j f fd ps (spX K ps.length fn)/\mg x=some (.ref f)/\PySem.W.keepIn K (.ref f)=true/\Binds K fd ps []
theorem Gqa{x:Str}(N:List Str)(k:Nat)(b:Sv)(hfn:fn=fnB N.length b)(d:Dn K mg x st ps)(Sc:FnScope N ps (Gb st))(hb:∀ (f:Addr) (cdv:Value) (A:Around) (outer:List PySem.Env) (s:Shared) (H:Hp) (E:XK) (XQ:XW),Room k (A.deeper (envOfC x (Gb st) s.heap.objs.size f cdv))->XL (Ku (CXe P w) P w K mg base N x (Gb st) f cdv A outer s H E) XQ→
   JSs (Ku (CXe P w) P w K mg base N x (Gb st) f cdv A outer s H E) XQ (Gv st) b):CalX P w K mg base x ps fn (k+1):=by
 subst hfn
 obtain⟨f,fd,F,hm,hbi⟩:=d.ex
 exact⟨f,fd,Gvj F Sc (hb f),hm,F.kp,hbi⟩
end
section
variable{X:Cx}{XQ:XW}{k:Nat}{f:Addr}{fd:FuncData}{ps:List Str}{fn:Fn}{x:Str}{p pos:Pos}{e:Expr}{es:List Expr}
noncomputable def Gvk(sp:Sp)(Wx:L2.St->Addr->Option Addr->Hp->Prop)(t:TA):TE:=fun σ H Q=>t σ H fun vs H1=>sp vs H1 Q fun c dx H'=>∃ C,c=.ref C/\Wx σ C dx H'
theorem Gji{Wx:L2.St->Addr->Option Addr->Hp->Prop}{s:Shared}{Q:VK}{us:List Value}{vs:List V}(F:FnOk X.prog X.w X.K X.mg X.base (CXe X.prog X.w) k f fd ps sp)(hr:Room k X.A)(hb:Binds X.K fd ps [])(hx:∀ (pins:List (Addr×Obj)) (σ:L2.St) (H:Hp) (s:Shared) (e:Value) (s':Shared) (E2:XK),Inv X pins σ H s->CXe X.prog X.w X.stack H s E2 e s'->(∀ C dx H',E2 (.ref C) dx H'->Wx σ C dx H')->X.xe e s')(I:Inv X pins σ H s)(r:Vals vs us)(h:sp vs H Q fun c dx H'=>∃ C,c=.ref C/\Wx σ C dx H'):wpAny (model X.prog X.w) X.A (call (.ref f) us) (EP X pins σ Q) X.xe s:=by
 have hl:us.length=ps.length:=by rw[<- r.length]; exact F.len _ _ _ _ h
 refine wpAny_call (codeAny_mono (F.run X.A X.stack s H ⟨us,[]⟩ us vs Q _ hr I.env0 (by have:=hb s us I.kIn (by simpa using hl); simpa using this) r h) fun r s' hq=>?_)
 cases r with
 | error e=>exact hx pins σ H s e s' (fun c dx H'=>∃ C,c=.ref C/\Wx σ C dx H') I hq fun C dx H' ⟨C',e1,q⟩=>by cases e1; exact q
 | ok fl=>
  cases fl with
  | ret u=>exact I.after hq
  | next=>exact False.elim hq
  | brk=>exact False.elim hq
  | cont=>exact False.elim hq
theorem Gm6{Wx:L2.St->Addr->Option Addr->Hp->Prop}{t:TA}(F:FnOk X.prog X.w X.K X.mg X.base (CXe X.prog X.w) k f fd ps sp)(hr:Room k X.A)(hg:Gl X x)(hm:X.mg x=some (.ref f))(hk:PySem.W.keepIn X.K (.ref f)=true)(hb:Binds X.K fd ps [])(hx:∀ (pins:List (Addr×Obj)) (σ:L2.St) (H:Hp) (s:Shared) (e:Value) (s':Shared) (E2:XK),Inv X pins σ H s->CXe X.prog X.w X.stack H s E2 e s'->(∀ C dx H',E2 (.ref C) dx H'->Wx σ C dx H')->X.xe e s')(ha:PA X (e::es) t)(hdb:(x==("__debug__":Str))=false:=by decide)(he:starEach (e::es) X.env=(false,eval e X.env)::starEach es X.env:=by rfl)(hpl:(backTo pos (starEach es X.env)).any (·.1)=false:=by rfl):
  PE X (.Call (.Name x p) (e::es) [] pos) (Gvk sp Wx t):=by
 intro pins s σ H Q I h
 refine wpAny_Call_Name_kw (Xs I hg hm ?_ hdb)
 refine PySem.W.callWith_K (h₀:=X.base) I.ok.mod.kin hk (thn (ha pos pins s σ H _ I h) fun us s1 ⟨vs,H1,I1,r,q⟩=>⟨I1.kIn,?_⟩) he hpl
 exact Gji F hr hb hx I1 r q
noncomputable def gX(ys:List Str)(fn:Fn):Fn:=fun ds S=>match fn ds S with
 | .ok d S'=>.ok d S'
 | .exc x S'=>if x.cls∈ys then .exc x S' else .bad
 | .bad=>.bad
noncomputable def XNs(K:PySem.W.Frag)(ys:List Str):Prop:=∀ y∈ys,∃ C,CN K y C/\XCl K C
theorem Gm7{ys:List Str}{t:Ev (List D)}(xs:XNs X.K ys)(L:XL X XQ)(F:FnOk X.prog X.w X.K X.mg X.base (CXe X.prog X.w) j f fd ps (spX X.K ps.length fn))(hr:Room k X.A)(hj:j<=k)(hg:Gl X x)(hm:X.mg x=some (.ref f))(hk:PySem.W.keepIn X.K (.ref f)=true)(hb:Binds X.K fd ps [])(ha:JA X XQ (e::es) t)(hdb:(x==("__debug__":Str))=false:=by decide)(he:starEach (e::es) X.env=(false,eval e X.env)::starEach es X.env:=by rfl)(hpl:(backTo pos (starEach es X.env)).any (·.1)=false:=by rfl):
  JE X XQ (.Call (.Name x p) (e::es) [] pos) (cl ps.length (gX ys fn) t):=by
 refine PE.mono (Gm6 (Wx:=WX X.K XQ) (F.mono hj) hr hg hm hk hb L.cal ha hdb he hpl) fun σ H Q zq0=>?_
 obtain⟨mp,ρ,S,G,p⟩:=zq0
 refine bindP G p fun mp1 H1 ds S1 vs a1 G1 r1 p1=>?_
 by_cases hl:ds.length=ps.length
 ·rw[if_pos hl] at p1
  refine⟨mp1,ds,S1,G1.rs,r1,hl,?_⟩
  unfold gX at p1
  cases z:fn ds S1 with
  | ok d S'=>rw[z] at p1; exact p1
  | exc xx S'=>
   rw[z] at p1
   by_cases hi:xx.cls∈ys
   ·have p1:Gi X.K (Rep X.K) XQ σ ρ mp1 H1 (.exc xx S') Q:=by simpa only[if_pos hi] using p1
    obtain⟨C,hC,_⟩:=xs _ hi
    refine⟨C,hC,fun mp' H' dx af rs xf=>⟨C,rfl,xx,mp',ρ,S',xf,hC,p1 mp' H' af (G1.aft af rs)⟩⟩
   ·have p1:Gi X.K (Rep X.K) XQ σ ρ mp1 H1 .bad Q:=by simpa only[if_neg hi] using p1
    exact p1.elim
  | bad=>rw[z] at p1; exact p1.elim
 ·rw[if_neg hl] at p1; exact p1.elim
noncomputable def srs(y:Str)(f:Ev (List D)):Sv:=fun ρ S=>bindS (f ρ S) ρ fun ds S1=>match ds with
 | [_]=>.exc ⟨y,none⟩ ρ S1
 | _=>.bad
structure ClX(P:Program)(w:World)(K:PySem.W.Frag)(mg:Str->Option Value)(base:Heap)(x:Str)(j:Nat):Prop where
 ex:∃ C f fd ps oI,mg x=some (.ref C)/\CN K x C/\KX K C/\PySem.W.findIn K (.ref C) "__init__"=some (some (.ref f))/\K.lookup f=some oI/\oI.cls=.type "function"/\FnOk P w K mg base CX0 j f fd ps (spI K)/\ps.length=2/\Binds K fd ps []
end
structure Plain(X:Cx):Prop where
 stk:X.stack=X.env::X.outer
 fr:X.env.frame=some X.env.locals
 ex:X.ex=[]
structure Landed(X:Cx)(pins:List (Addr×Obj))(σ:L2.St)(H:Hp)(a C:Addr)(dx:Option Addr)(s:Shared):Prop where
 ex:∃ T,Inv X pins σ H s/\Fly s.heap a T C dx/\(H a=none/\H T=none)/\(X.s₀.heap.get? a=none/\X.s₀.heap.get? T=none)/\∀ p∈X.pn++pins,p.1≠a/\p.1≠T
section
variable{X:Cx}{pins:List (Addr×Obj)}{σ:L2.St}{H:Hp}{s:Shared}{A:Around}{E:Value->Shared->Prop}{Q:Unit->Shared->Prop}{M:Model}
theorem Plain.old{b:Addr}(pl:Plain X)(I:Inv X pins σ H s)(e:s.heap.get? b=none):X.s₀.heap.get? b=none:=by
 have u:=I.base
 rw[pl.ex] at u
 exact Wr u e
theorem own_land{e:Addr}(pl:Plain X)(I:Inv X pins σ H s)(hH:H e=some (.ext φ))(fr:Gak s.heap e C dx)(le:X.s₀.heap.get? e=none)(hq:∀ s',Landed X pins σ (del H e) e C dx s'->Q () s'):
  wpAny M X.A (noteFrame (.ref e) X.env) (fun _ s₂=>wpAny M X.A (setFlight (.ref e) none) Q E s₂) E s:=by
 have hfr:X.A.frames=some (X.env::X.outer):=by rw[I.ok.frames,pl.stk]
 have hl:s.heap.FunFrames X.base (X.env::X.outer):=by rw[<- pl.stk]; exact I.stack
 refine Gsz hfr hl pl.fr fr fun h' T fl hT lf=>hq _ ?_
 have dn:∀ b,H b=none->del H e b=none:=fun b q=>by
  by_cases c:b=e
  ·rw[c,Qe]
  ·rw[Ql c]; exact q
 have nk:∀ {b:Addr} {o:HO},H b=some o->o≠.ext φ->b≠e:=fun q n z=>n (by rw[z,hH] at q; exact(Ac q).symm)
 have ne0:∀ b,H b=none->b≠e:=fun b q z=>by rw[z,hH] at q; cases q
 rw[<- pl.stk] at lf
 have un:Un (frs X.stack) [] H (del H e) s.heap h':=⟨fun b o q n hb _=>lf.keep b o hb (fun z=>ne0 b n (by simpa using z)) q,fun b o q n hb _=>lf.slot b o hb q,fun b o q n _=>dn b n,fun b o q _=>by
   by_cases c:b∈frs X.stack
   ·obtain⟨sl,q'⟩:=lf.slot b o c q
    exact⟨_,q'⟩
   ·by_cases c2:b=e
    ·subst c2
     obtain⟨oe,_,_,_,_,z,_⟩:=fl
     exact⟨_,z⟩
    ·exact⟨o,lf.keep b o c (by simpa using c2) q⟩,
  fun b xs q=>by rw[Ql (nk q (by intro z; cases z))]; exact q,fun b o v q=>by rw[Ql (nk q (by intro z; cases z))]; exact q,fun b ps q=>⟨#[],by rw[Ql (nk q (by intro z; cases z)),q]; simp⟩⟩
 have hk:HOk X.prog X.w (del H e) h':=hok_left (Gjg I.hok hH) lf (fun b hb=>dn b (I.stkFree b hb)) (fun b hb=>by
  have:b=e:=by simpa using hb
  rw[this]; exact Qe)
 refine⟨T,?_,fl,⟨Qe,dn T (Zi I.hok hT)⟩,⟨le,pl.old I hT⟩,fun p hp=>?_⟩
 ·have J:=I.call (h':=h') (g':=s.gens) (d':=s.drawn) (t':=s.toks) (ch:=[]) un hk I.bare (fun b z=>absurd z (by simp))
  exact J
 ·obtain⟨q1,q2,_⟩:=I.pin p hp
  refine⟨ne0 _ q2,fun z=>?_⟩
  rw[z,hT] at q1
  cases q1
theorem call_land{E2:XK}{e:Value}{s':Shared}(pl:Plain X)(I:Inv X pins σ H s)(hx:CXe X.prog X.w X.stack H s E2 e s')(hq:∀ a C dx H' s'',e=.ref a->E2 (.ref C) dx H'->Landed X pins σ H' a C dx s''->Q () s''):
  wpAny M X.A (noteFrame e X.env) (fun _ s₂=>wpAny M X.A (setFlight e none) Q E s₂) E s':=by
 obtain⟨a,T,C,dx,H',rfl,os,bare,un,hok,fly,⟨na,nT⟩,⟨oa,oT⟩,hE2⟩:=hx
 obtain⟨h3,g3,d3,t3,o3⟩:=s'
 obtain rfl:o3=s.os:=os
 have I3:Inv X pins σ H' { s with heap:=h3,gens:=g3,drawn:=d3,toks:=t3 }:=I.call (h':=h3) (g':=g3) (d':=d3) (t':=t3) (ch:=[]) un hok bare (fun b z=>absurd z (by simp))
 have hfr:X.A.frames=some (X.env::X.outer):=by rw[I.ok.frames,pl.stk]
 have hl:h3.FunFrames X.base (X.env::X.outer):=by rw[<- pl.stk]; exact I3.stack
 refine Gs0 (s:={ s with heap:=h3,gens:=g3,drawn:=d3,toks:=t3 }) hfr hl pl.fr fly fun h' T' fl hT lf=>hq a C dx H' _ rfl hE2 ?_
 rw[<- pl.stk] at lf
 have nn:∀ b o,s.heap.get? b=some o->b∉[a,T]:=fun b o q z=>by
  simp only[Ad,AF,or_false] at z
  rcases z with rfl | rfl
  ·rw[oa] at q; cases q
  ·rw[oT] at q; cases q
 have un2:Un (frs X.stack) [] H H' s.heap h':=⟨fun b o q n hb hx=>lf.keep b o hb (nn b o q) (un.keep b o q n hb hx),fun b o q n hb hx=>by
   obtain⟨sl,q1⟩:=un.slot b o q n hb hx
   obtain⟨sl',q2⟩:=lf.slot b _ hb q1
   exact⟨sl',q2⟩,un.free,fun b o q hx=>by
   obtain⟨o',q1⟩:=un.there b o q hx
   by_cases c:b∈frs X.stack
   ·obtain⟨sl,q2⟩:=lf.slot b o' c q1
    exact⟨_,q2⟩
   ·exact⟨o',lf.keep b o' c (nn b o q) q1⟩,un.tups,un.frzs,un.tbls⟩
 have nT':H' T'=none:=by
  rcases hT with hT | rfl
  ·exact Zi hok hT
  ·exact nT
 have oT':X.s₀.heap.get? T'=none:=by
  rcases hT with hT | rfl
  ·exact pl.old I3 hT
  ·exact pl.old I oT
 have hk:HOk X.prog X.w H' h':=hok_left hok lf (fun b hb=>I3.stkFree b hb) (fun b hb=>by
  simp only[Ad,AF,or_false] at hb
  rcases hb with rfl | rfl
  ·exact na
  ·exact nT)
 refine⟨T',?_,fl,⟨na,nT'⟩,⟨pl.old I oa,oT'⟩,fun p hp=>?_⟩
 ·have J:=I.call (h':=h') (g':=g3) (d':=d3) (t':=t3) (ch:=[]) un2 hk bare (fun b z=>absurd z (by simp))
  exact J
 ·obtain⟨q1,q2,_⟩:=I.pin p hp
  obtain⟨q3,_,_⟩:=I3.pin p hp
  refine And.intro (fun z=>?_) (fun z=>?_)
  ·rw[z,oa] at q1; cases q1
  rcases hT with hT | rfl
  ·rw[z] at q3
   rw[show h3.get? T'=none from hT] at q3
   cases q3
  ·rw[z,oT] at q1; cases q1
end
section
variable{X:Cx}{pins:List (Addr×Obj)}{σ:L2.St}{H:Hp}{s:Shared}{A:Around}{E:Value->Shared->Prop}{Q:Unit->Shared->Prop}{M:Model}
theorem Gqb{it:Addr}{h':Heap}(I:Inv X pins σ H s)(k:∀ b o,b≠it->s.heap.get? b=some o->h'.get? b=some o)(there:∃ o,h'.get? it=some o)(hn:H it=none)(hL:it≠X.env.locals)(h0:X.s₀.heap.get? it=none)(h2:∀ x c,X.env.cells.lookup x=some c->c≠it)(h3:∀ p∈X.pn++pins,p.1≠it):Inv X pins σ H { s with heap:=h' }:=by
 have n0:∀ b o,X.s₀.heap.get? b=some o->b≠it:=fun b o e z=>by rw[z,h0] at e; cases e
 have nit:∀ b u,H b=some u->b≠it:=fun b u e z=>by rw[z,hn] at e; cases e
 have ce:∀ x c,X.env.cells.lookup x=some c->∀ v,s.heap.IsCell c v->h'.IsCell c v:=fun x c e v ⟨o,ho,hd⟩=>⟨o,k c o (h2 x c e) ho,hd⟩
 refine⟨I.ok,I.os,I.bare,⟨fun b o e n hb hx=>k b o (n0 b o e) (I.base.keep b o e n hb hx),fun b o e n hb hx=>?_,I.base.free,fun b o e hx=>?_,I.base.tups,I.base.frzs,I.base.tbls⟩,?_,fun x c e=>?_,I.free,I.freeC,fun p hp=>?_,fun b u e=>?_,I.len⟩
 ·obtain⟨sl,q⟩:=I.base.slot b o e n hb hx
  exact⟨sl,k b _ (n0 b o e) q⟩
 ·obtain⟨o',q⟩:=I.base.there b o e hx
  exact⟨o',k b o' (n0 b o e) q⟩
 ·obtain⟨m,⟨o,es,ep,ho,r⟩,hl⟩:=I.loc
  refine⟨m,⟨o,es,ep,k _ o (Ne.symm hL) ho,r⟩,fun i x v e1 e2 e3=>?_⟩
  obtain⟨u,r,l⟩:=hl i x v e1 e2 e3
  refine⟨u,r,?_⟩
  rcases l with l | ⟨kk,c,e,z⟩
  ·exact .inl l
  ·exact .inr ⟨kk,c,e,ce x c e _ z⟩
 ·obtain⟨v,z⟩:=I.cell x c e
  exact⟨v,ce x c e v z⟩
 ·obtain⟨q1,q2,q3,q4,q5⟩:=I.pin p hp
  exact⟨k _ _ (h3 p hp) q1,q2,q3,q4,q5⟩
 ·refine(I.hok b u e).stay (fun c v hc q=>k c v ?_ q) (fun _ q=>q) fun _ _ q=>q
  rcases hc with z | z
  ·rw[z]; exact nit b u e
  ·exact nit c _ z
theorem Gm8{b:Addr}{o:Obj}(I:Inv X pins σ H s)(e:s.heap.get? b=some o)(d:o.data=.fields vs):b≠X.env.locals/\∀ x c,X.env.cells.lookup x=some c->c≠b:=by
 refine⟨fun z=>?_,fun x c hc z=>?_⟩
 ·obtain⟨m,⟨o',es,ep,ho,hd,_⟩,_⟩:=I.loc
  rw[<- z,e] at ho
  cases ho
  rw[d] at hd
  cases hd
 ·obtain⟨v,o',ho,hd⟩:=I.cell x c hc
  rw[z,e] at ho
  cases ho
  rw[d] at hd
  cases hd
theorem Landed.flight{a:Addr}(l:Landed X pins σ H a C dx s)(hq:∀ s',Landed X pins σ H a C dx s'->Q () s'):wpAny M A (setFlight (.ref a) none) Q E s:=by
 obtain⟨T,I,⟨oe,vs,oT,ts,a0,e1,e2,e3,e4,e5,e6,e7,e8⟩,⟨na,nT⟩,⟨oa,ot⟩,pn⟩:=l.ex
 have h3:3<ts.size:=(Array.getElem?_eq_some_iff.mp e8).1
 refine wpAny_setFlight_none e1 e3 e4 e6 e7 h3 (hq _ ⟨T,?_,?_,⟨na,nT⟩,⟨oa,ot⟩,pn⟩)
 ·have rn:=Gm8 I e6 e7
  exact Gqb (it:=T) I (fun b o hb q=>by rw[AG _ _ (Ne.symm hb)]; exact q) ⟨_,AN _ e6 (Obj.isFreed_of_fields (Obj.data_mapFields e7 _))⟩ nT rn.1 ot rn.2 fun p hp=>(pn p hp).2
 ·exact⟨oe,vs,_,_,a0,by rw[AG _ _ e5]; exact e1,e2,e3,e4,e5,AN _ e6 (Obj.isFreed_of_fields (Obj.data_mapFields e7 _)),Obj.data_mapFields e7 _,by simp[h3]⟩
theorem Gm9{a:Addr}(I:Inv X pins σ H s)(hn:H a=none)(h0:X.s₀.heap.get? a=none)(hL:a≠X.env.locals)(h2:∀ x c,X.env.cells.lookup x=some c->c≠a)(h3:∀ p∈X.pn++pins,p.1≠a)(ok:φ s.heap)(th:∃ o,s.heap.get? a=some o)(st:∀ h1 h2:Heap,φ h1->(∀ o,h1.get? a=some o->h2.get? a=some o)->φ h2):Inv X pins σ (upd H a (.ext φ)) s:=by
 have n0:∀ b o,X.s₀.heap.get? b=some o->b≠a:=fun b o e z=>by rw[z,h0] at e; cases e
 have nk:∀ {b:Addr} {o:HO},H b=some o->b≠a:=fun e z=>by rw[z,hn] at e; cases e
 refine⟨I.ok,I.os,I.bare,⟨I.base.keep,I.base.slot,fun b o e n hx=>?_,I.base.there,fun b xs e=>?_,fun b o v e=>?_,fun b ps e=>?_⟩,I.loc,I.cell,?_,fun x c e=>?_,fun p hp=>?_,fun b o e=>?_,I.len⟩
 ·rw[Gk (n0 b o e)]; exact I.base.free b o e n hx
 ·have q:=I.base.tups b xs e
  rw[Gk (nk q)]; exact q
 ·have q:=I.base.frzs b o v e
  rw[Gk (nk q)]; exact q
 ·obtain⟨more,q⟩:=I.base.tbls b ps e
  exact⟨more,by rw[Gk (nk q)]; exact q⟩
 ·rw[Gk (Ne.symm hL)]; exact I.free
 ·rw[Gk (h2 x c e)]; exact I.freeC x c e
 ·obtain⟨q1,q2,q3,q4,q5⟩:=I.pin p hp
  exact⟨q1,by rw[Gk (h3 p hp)]; exact q2,q3,q4,q5⟩
 ·by_cases c:b=a
  ·subst c
   rw[Hd] at e
   cases e
   exact⟨ok,th,st⟩
  ·rw[Gk c] at e
   refine(I.hok b o e).stay (fun c u _ q=>q) (fun c q=>?_) fun c xs q=>?_
   ·rw[Gk (nk q)]; exact q
   ·rw[Gk (nk q)]; exact q
theorem Landed.know{a:Addr}(l:Landed X pins σ H a C dx s):H a=none/\Inv X pins σ (upd H a (XO a C dx)) s:=by
 obtain⟨T,I,⟨oe,vs,oT,ts,a0,e1,e2,e3,e4,e5,e6,e7,e8⟩,⟨na,nT⟩,⟨oa,ot⟩,pn⟩:=l.ex
 have rn:=Gm8 I e1 e3
 exact⟨na,Gm9 I na oa rn.1 rn.2 (fun p hp=>(pn p hp).1) ⟨oe,e1,e2.1,e2.2.1,vs,e3⟩ ⟨oe,e1⟩ fun h1 h2 ⟨o,q1,q2⟩ k=>⟨o,k _ q1,q2⟩⟩
noncomputable abbrev hnd(X:Cx)(a:Addr):Cx:={ X with A:=X.A.mark (some (.ref a)),calm:=false,xe:=fun _ _=>False }
theorem _root_.L2.Inv.hnd(I:Inv X pins σ H s)(a:Addr):Inv (DL.hnd X a) pins σ H s:=
 ⟨⟨I.ok.mod,I.ok.kind,I.ok.glob,I.ok.blt,I.ok.above,I.ok.inj,I.ok.has,I.ok.cab,(fun z=>nomatch z),I.ok.frames,I.ok.stk,I.ok.exf,I.ok.bs,I.ok.bsz,I.ok.noex,I.ok.exfs,I.ok.funs,I.ok.frf⟩,I.os,I.bare,I.base,I.loc,I.cell,I.free,I.freeC,I.pin,I.hok,I.len⟩
theorem _root_.L2.Inv.unhnd{a:Addr}(ok:X.Ok)(I:Inv (DL.hnd X a) pins σ H s):Inv X pins σ H s:=⟨ok,I.os,I.bare,I.base,I.loc,I.cell,I.free,I.freeC,I.pin,I.hok,I.len⟩
theorem Xu{i:Nat}{n:Str}(I:Inv X pins σ H s)(hN:X.N.Nodup)(hi:X.N[i]?=some n)(hk:X.env.scope.names.lookup n=some .local)(hq:∀ s',Inv X pins (σ.set i none) H s'->Q () s'):
  wpAny M A (do bindName X.env n .none; unbindBehindTheSuite X.env n pos) Q E s:=by
 obtain⟨m,hn,hl⟩:=id I.loc
 have hcls:(X.env.scope.kind==.class||(X.env.scope.kind==.module&&X.env.locals != X.env.globals))=false:=by rw[I.ok.kind]; rfl
 refine wpAny_nameGoes_keeps hk hn hcls fun h' v hn' hs=>hq _ ?_
 obtain⟨oL,_,_,hoL,_⟩:=id hn
 have below:∀ b o,X.s₀.heap.get? b=some o->b≠X.env.locals:=fun b o e=>At (Af (Ae e) I.ok.above)
 refine⟨I.ok,I.os,I.bare,⟨fun b o e n hb hx=>(hs.2 b (below b o e)).trans (I.base.keep b o e n hb hx),fun b o e n hb hx=>?_,I.base.free,fun b o e hx=>?_,I.base.tups,I.base.frzs,I.base.tbls⟩,⟨_,hn',fun j y w e1 e2 e3=>?_⟩,fun y c e=>?_,I.free,I.freeC,fun p hp=>?_,fun b ob e=>?_,by simpa using I.len⟩
 ·obtain⟨sl,e1⟩:=I.base.slot b o e n hb hx
  exact⟨sl,(hs.2 b (below b o e)).trans e1⟩
 ·obtain⟨o',e1⟩:=I.base.there b o e hx
  exact⟨o',(hs.2 b (below b o e)).trans e1⟩
 ·by_cases hj:j=i
  ·subst hj
   rw[List.getElem?_set] at e2
   simp only[if_true] at e2
   split at e2<;>cases e2
  ·rw[Am (Ne.symm hj)] at e2
   obtain⟨u',r',q⟩:=hl j y w e1 e2 e3
   refine⟨u',r',?_⟩
   rcases q with⟨k,e⟩ | ⟨k,c,e,z⟩
   ·refine .inl ⟨k,?_⟩
    have:y≠n:=fun e=>hj (Gbu hN e1 (e▸hi))
    simp[this,e]
   ·exact .inr ⟨k,c,e,z.sameBut hs (I.cne y c e)⟩
 ·obtain⟨w,z⟩:=I.cell y c e
  exact⟨w,z.sameBut hs (I.cne y c e)⟩
 ·obtain⟨e,n,ne,nf,d⟩:=I.pin p hp
  exact⟨(hs.2 p.1 ne).trans e,n,ne,nf,d⟩
 ·refine(I.hok b ob e).stay (fun c w hc q=>(hs.2 c ?_).trans q) (fun _ q=>q) fun _ _ q=>q
  rintro rfl
  rcases hc with rfl | hc
  ·rw[I.free] at e; cases e
  ·rw[I.free] at hc; cases hc
end
noncomputable abbrev trb(X:Cx)(pn:List (Addr×Obj))(xe:Value->Shared->Prop):Cx:={ X with pn:=pn,xe:=xe }
section
variable{X:Cx}{XQ:XW}{pins:List (Addr×Obj)}{σ:L2.St}{H:Hp}{s:Shared}{pn:List (Addr×Obj)}{xe:Value->Shared->Prop}
theorem _root_.L2.Inv.trb(I:Inv X pins σ H s):Inv (DL.trb X (X.pn++pins) xe) [] σ H s:=
 ⟨⟨I.ok.mod,I.ok.kind,I.ok.glob,I.ok.blt,I.ok.above,I.ok.inj,I.ok.has,I.ok.cab,I.ok.hd,I.ok.frames,I.ok.stk,I.ok.exf,I.ok.bs,I.ok.bsz,I.ok.noex,I.ok.exfs,I.ok.funs,I.ok.frf⟩,I.os,I.bare,I.base,I.loc,I.cell,I.free,I.freeC,fun p hp=>I.pin p (by simpa using hp),I.hok,I.len⟩
theorem _root_.L2.Inv.untrb{pins':List (Addr×Obj)}(ok:X.Ok)(I:Inv (DL.trb X (X.pn++pins) xe) pins' σ H s):Inv X pins σ H s:=
 ⟨ok,I.os,I.bare,I.base,I.loc,I.cell,I.free,I.freeC,fun p hp=>I.pin p (Bp _ hp),I.hok,I.len⟩
theorem Landed.untrb{pins':List (Addr×Obj)}{a:Addr}(ok:X.Ok)(l:Landed (DL.trb X (X.pn++pins) xe) pins' σ H a C dx s):Landed X pins σ H a C dx s:=by
 obtain⟨T,I,f,n,o,p⟩:=l.ex
 exact⟨T,I.untrb ok,f,n,o,fun q hq=>p q (Bp _ hq)⟩
theorem Plain.trb(pl:Plain X):Plain (trb X pn xe):=⟨pl.stk,pl.fr,pl.ex⟩
theorem Gd.unset(G:Gd K mp H σ ρ S)(i:Nat):Gd K mp H (σ.set i none) (ρ.set i none) S:=by
 refine⟨G.rs,by simp[G.len],fun j e h=>?_⟩
 by_cases hj:j=i
 ·subst hj
  rw[List.getElem?_set] at h
  simp only[if_true] at h
  split at h<;>cases h
 ·rw[Am (Ne.symm hj)] at h ⊢
  exact G.loc j e h
noncomputable def Vi(ys:List Str)(hh:XD->Sv)(fb:Sv):Sv:=fun ρ S=>match fb ρ S with
 | .nx ρ' S'=>.nx ρ' S'
 | .rt d S'=>.rt d S'
 | .bk ρ' S'=>.bk ρ' S'
 | .ct ρ' S'=>.ct ρ' S'
 | .exc x ρ' S'=>if x.cls∈ys then hh x ρ' S' else .bad
 | .bad=>.bad
theorem Gjj{hd:ExceptHandler}{ys:List Str}{hh:XD->Sv}{fb:Sv}(pl:Plain X)(hH:∀ (pins:List (Addr×Obj)) (σ:L2.St) (H:Hp) (s:Shared) (a C:Addr) (dx:Option Addr) (x:XD) (mp:List Addr) (ρ:Lc) (S:Sto) (D:Ends),x.cls∈ys->CN X.K x.cls C->XF H dx x.fld->Landed X pins σ H a C dx s->Gd X.K mp H σ ρ S->PostS X.K XQ mp H (hh x ρ S) D->wpAny (model X.prog X.w) X.A (handleBy (.ref a) X.env [hd]) (SP X pins D) X.xe s)(hb:∀ (pn:List (Addr×Obj)) (xe:Value->Shared->Prop) (XQ':XW),XL (trb X pn xe) XQ'->JSs (trb X pn xe) XQ' body fb):JS X XQ (.Try body [hd] [] [] pos) (Vi ys hh fb):=by
 intro pins s σ H D I zq0
 obtain⟨mp,ρ,S,G,p⟩:=zq0
 refine wpAny_Try_except ?_
 have ok:=I.ok
 let Eh:Value->Shared->Prop:=fun e s₁=>wpAny (model X.prog X.w) X.A (noteFrame e X.env) (fun _ s₂=>wpAny (model X.prog X.w) X.A (setFlight e none) (fun _ s₃=>wpAny (model X.prog X.w) X.A (handleBy e X.env [hd]) (SP X pins D) X.xe s₃) X.xe s₂) X.xe s₁
 let XQ':XW:=fun x mp H σ ρ S=>x.cls∈ys/\Gd X.K mp H σ ρ S/\PostS X.K XQ mp H (hh x ρ S) D
 have fin:∀ (pins':List (Addr×Obj)) (σ:L2.St) (H:Hp) (s:Shared) (a C:Addr) (dx:Option Addr),WX X.K XQ' σ C dx H->Landed (DL.trb X (X.pn++pins) Eh) pins' σ H a C dx s->wpAny (model X.prog X.w) X.A (handleBy (.ref a) X.env [hd]) (SP X pins D) X.xe s:=
  fun pins' σ H s a C dx ⟨x,mp,ρ,S,xf,hc,hm,G,p⟩ l=>hH pins σ H s a C dx x mp ρ S D hm hc xf (l.untrb ok) G p
 have L:XL (DL.trb X (X.pn++pins) Eh) XQ':=⟨fun pins' σ H s e C dx φ I hH fr le w=>own_land (X:=DL.trb X (X.pn++pins) Eh) pl.trb I hH fr le fun s' l=>fin pins' σ _ s' e C dx w l,
  fun pins' σ H s e s' E2 I hx hE=>call_land (X:=DL.trb X (X.pn++pins) Eh) pl.trb I hx fun a C dx H' s'' ea q l=>by
   subst ea
   exact fin pins' σ H' s'' a C dx (hE C dx H' q) l,
  PassesOwn.looking,fun _=>PassesOwnAt.looking⟩
 have post:PostS X.K XQ' mp H (fb ρ S) D:=by
  unfold Vi at p
  cases z:fb ρ S with
  | nx ρ' S'=>rw[z] at p; exact p
  | rt d S'=>rw[z] at p; exact p
  | bk ρ' S'=>rw[z] at p; exact p
  | ct ρ' S'=>rw[z] at p; exact p
  | bad=>rw[z] at p; exact p
  | exc x ρ' S'=>
   rw[z] at p
   by_cases hm:x.cls∈ys
   ·have p:PostS X.K XQ mp H (hh x ρ' S') D:=by simpa only[if_pos hm] using p
    exact fun mp' H' σ' af G'=>⟨hm,G',PostS.aft p af⟩
   ·have p:PostS X.K XQ mp H .bad D:=by simpa only[if_neg hm] using p
    exact p.elim
 refine wpAny_mono (hb (X.pn++pins) Eh XQ' L [] s σ H D I.trb ⟨mp,ρ,S,G,post⟩) (fun f s1 q=>?_) fun e s1 q=>q
 cases f with
 | next=>
  obtain⟨σ',H',I',q⟩:=q
  exact wpAny_execs_nil ⟨σ',H',I'.untrb ok,q⟩
 | brk=>
  obtain⟨σ',H',I',q⟩:=q
  exact⟨σ',H',I'.untrb ok,q⟩
 | cont=>
  obtain⟨σ',H',I',q⟩:=q
  exact⟨σ',H',I'.untrb ok,q⟩
 | ret u=>
  obtain⟨v,σ',H',I',r,q⟩:=q
  exact⟨v,σ',H',I'.untrb ok,r,q⟩
structure Cat(K:PySem.W.Frag)(mg:Str->Option Value)(c:Str)(ys:List Str):Prop where
 ex:∃ cs,mg c=some (.ref cs)/\∀ y∈ys,∃ C,CN K y C/\XCl K C/\PySem.W.exmOne K (.ref C) (.ref cs)=some true
noncomputable def hdl(i:Nat)(fh:Sv)(x:XD):Sv:=fun ρ S=>match fh (ρ.set i (some (.exn x.cls x.fld))) S with
 | .nx ρ' S'=>.nx (ρ'.set i none) S'
 | .rt d S'=>.rt d S'
 | .bk ρ' S'=>.bk (ρ'.set i none) S'
 | .ct ρ' S'=>.ct (ρ'.set i none) S'
 | _=>.bad
noncomputable def Gqc(fh:Sv)(x:XD):Sv:=fun ρ S=>match fh ρ S with
 | .nx ρ' S'=>.nx ρ' S'
 | .rt d S'=>.rt d S'
 | .bk ρ' S'=>.bk ρ' S'
 | .ct ρ' S'=>.ct ρ' S'
 | _=>.bad
theorem Gvl{M:Model}{a T:Addr}(f:Fly h a T C dx):PySem.W.Looks M h (typeOf (.ref a)) (.ref C):=by
 obtain⟨oe,vs,_,_,_,h1,⟨h2,_⟩,_⟩:=f
 exact h2▸(PySem.W.Looks.ld h1).andThen .now
theorem Gna{ys:List Str}{a:Addr}{R:Result->Shared->Prop}(ct:Cat X.K X.mg c ys)(hg:Gl X c)(hp:Gy c=true)(hy:y∈ys)(hc:CN X.K y C)(l:Landed X pins σ H a C dx s)(hq:R (.ok .brk) s):
  XCl X.K C/\codeAny (model X.prog X.w) (X.A.mark (some (.ref a))) (.handlers (.ref a) [.ExceptHandler (some (.Name c np)) none [] hpos] X.env) R s:=by
 obtain⟨T,I,f,_⟩:=l.ex
 obtain⟨cs,hm,hk⟩:=ct.ex
 obtain⟨C',hc',xc,he⟩:=hk y hy
 cases CN.one hc hc'
 refine⟨xc,codeAny_handlers_test ?_⟩
 refine Xs (X:=hnd X a) (I.hnd a) hg hm ?_ (Gy.of hp).1
 exact(PySem.W.exm_one I.kIn (Gvl f) he).here hq
theorem Gqd{n:Str}{i:Nat}{ys:List Str}{fb:Sv}(pl:Plain X)(ct:Cat X.K X.mg c ys)(hg:Gl X c)(hp:Gy c=true)(hN:X.N.Nodup)(hi:X.N[i]?=some n)(hn:X.env.scope.names.lookup n=some .local)(hb:∀ (pn:List (Addr×Obj)) (xe:Value->Shared->Prop) (XQ':XW),XL (trb X pn xe) XQ'->JSs (trb X pn xe) XQ' body fb)(hs:∀ a,JSs (hnd X a) (fun _ _ _ _ _ _=>False) (b0::suite) fh):
  JS X XQ (.Try body [.ExceptHandler (some (.Name c np)) (some n) (b0::suite) hpos] [] [] pos) (Vi ys (hdl i fh) fb):=by
 refine Gjj pl (fun pins σ H s a C dx x mp ρ S D hy hc xf l G p=>?_) hb
 refine wpAny_handleBy_cons ?_ (by intro q; cases q)
 obtain⟨xc,hit⟩:=Gna (np:=np) (hpos:=hpos) (R:=fun r s₁=>match r with
   | .ok .brk=>codeAny (model X.prog X.w) (X.A.mark (some (.ref a))) (.handlers (.ref a) [.ExceptHandler none (some n) (b0::suite) hpos] X.env) (fun r s₂=>match r with
     | .ok f=>wpAny (model X.prog X.w) X.A (do bindName X.env n .none; unbindBehindTheSuite X.env n hpos) (fun _ s₃=>SP X pins D f s₃) X.xe s₂
     | .error x=>cameBackBy (model X.prog X.w) X.A X.env X.xe x s₂) s₁
   | .ok _=>wpAny (model X.prog X.w) X.A (handleBy (.ref a) X.env []) (SP X pins D) X.xe s₁
   | .error x=>cameBackBy (model X.prog X.w) X.A X.env X.xe x s₁) ct hg hp hy hc l (by
  refine codeAny_handlers_suite_as (l.flight fun s1 l1=>?_)
  obtain⟨na,I1⟩:=l1.know
  have ok:=I1.ok
  have af:Aft X.K mp H mp (upd H a (XO a C dx)):=Qq na
  have G1:Gd X.K mp (upd H a (XO a C dx)) σ ρ S:=G.aft af (G.rs.new na)
  have re:Rep X.K mp (upd H a (XO a C dx)) (.exn x.cls x.fld) (.ref a):=⟨a,dx,C,rfl,⟨hc,by
   obtain⟨cs,hm,hk⟩:=ct.ex
   obtain⟨C',hc',xc,he⟩:=hk x.cls hy
   cases CN.one hc hc'
   exact xc,Hd⟩,fun i z=>by
   obtain⟨d,e1,e2⟩:=xf.1 i z
   exact⟨d,e1,by rw[Gk (fun q=>by rw[q,na] at e2; cases e2)]; exact e2⟩⟩
  refine Uz (X:=hnd X a) (v:=.ref a) (I1.hnd a) hN hi (.inl hn) rfl (fun s2 I2=>?_) (.inr hn)
  refine wpAny_mono (hs a pins s2 _ _ { nx:=fun σ' H'=>D.nx (σ'.set i none) H',rt:=D.rt,bk:=fun σ' H'=>D.bk (σ'.set i none) H',ct:=fun σ' H'=>D.ct (σ'.set i none) H' } I2 ⟨mp,_,S,G1.set i re,?_⟩) (fun f s3 q=>?_) (fun e s3 q=>q.elim)
  ·have p:=PostS.aft p af
   unfold hdl at p
   cases z:fh (ρ.set i (some (.exn x.cls x.fld))) S with
   | nx ρ' S'=>rw[z] at p; exact fun mp' H' σ' a' G'=>p mp' H' _ a' (G'.unset i)
   | rt d S'=>rw[z] at p; exact p
   | bk ρ' S'=>rw[z] at p; exact fun mp' H' σ' a' G'=>p mp' H' _ a' (G'.unset i)
   | ct ρ' S'=>rw[z] at p; exact fun mp' H' σ' a' G'=>p mp' H' _ a' (G'.unset i)
   | exc x ρ' S'=>rw[z] at p; exact p.elim
   | bad=>rw[z] at p; exact p.elim
  ·cases f with
   | next=>
    obtain⟨σ',H',I',q⟩:=q
    exact Xu (I'.unhnd ok) hN hi hn fun s' J=>⟨_,H',J,q⟩
   | brk=>
    obtain⟨σ',H',I',q⟩:=q
    exact Xu (I'.unhnd ok) hN hi hn fun s' J=>⟨_,H',J,q⟩
   | cont=>
    obtain⟨σ',H',I',q⟩:=q
    exact Xu (I'.unhnd ok) hN hi hn fun s' J=>⟨_,H',J,q⟩
   | ret u=>
    obtain⟨v,σ',H',I',r,q⟩:=q
    exact Xu (I'.unhnd ok) hN hi hn fun s' J=>⟨v,_,H',J,r,q⟩)
 exact hit
theorem Gqe{ys:List Str}{fb:Sv}(pl:Plain X)(ct:Cat X.K X.mg c ys)(hg:Gl X c)(hp:Gy c=true)(hb:∀ (pn:List (Addr×Obj)) (xe:Value->Shared->Prop) (XQ':XW),XL (trb X pn xe) XQ'->JSs (trb X pn xe) XQ' body fb)(hs:∀ a,JSs (hnd X a) (fun _ _ _ _ _ _=>False) (b0::suite) fh):
  JS X XQ (.Try body [.ExceptHandler (some (.Name c np)) none (b0::suite) hpos] [] [] pos) (Vi ys (Gqc fh) fb):=by
 refine Gjj pl (fun pins σ H s a C dx x mp ρ S D hy hc xf l G p=>?_) hb
 refine wpAny_handleBy_cons ?_ (by intro q; cases q)
 obtain⟨xc,hit⟩:=Gna (np:=np) (hpos:=hpos) (R:=fun r s₁=>match r with
   | .ok .brk=>codeAny (model X.prog X.w) (X.A.mark (some (.ref a))) (.handlers (.ref a) [.ExceptHandler none none (b0::suite) hpos] X.env) (fun r s₂=>match r with
     | .ok f=>SP X pins D f s₂
     | .error x=>cameBackBy (model X.prog X.w) X.A X.env X.xe x s₂) s₁
   | .ok _=>wpAny (model X.prog X.w) X.A (handleBy (.ref a) X.env []) (SP X pins D) X.xe s₁
   | .error x=>cameBackBy (model X.prog X.w) X.A X.env X.xe x s₁) ct hg hp hy hc l (by
  refine codeAny_handlers_suite (l.flight fun s1 l1=>?_)
  obtain⟨T,I1,_⟩:=l1.ex
  have ok:=I1.ok
  refine wpAny_mono (hs a pins s1 _ _ D (I1.hnd a) ⟨mp,_,S,G,?_⟩) (fun f s3 q=>?_) (fun e s3 q=>q.elim)
  ·unfold Gqc at p
   cases z:fh ρ S with
   | nx ρ' S'=>rw[z] at p; exact p
   | rt d S'=>rw[z] at p; exact p
   | bk ρ' S'=>rw[z] at p; exact p
   | ct ρ' S'=>rw[z] at p; exact p
   | exc x ρ' S'=>rw[z] at p; exact p.elim
   | bad=>rw[z] at p; exact p.elim
  ·cases f with
   | next=>
    obtain⟨σ',H',I',q⟩:=q
    exact⟨_,H',I'.unhnd ok,q⟩
   | brk=>
    obtain⟨σ',H',I',q⟩:=q
    exact⟨_,H',I'.unhnd ok,q⟩
   | cont=>
    obtain⟨σ',H',I',q⟩:=q
    exact⟨_,H',I'.unhnd ok,q⟩
   | ret u=>
    obtain⟨v,σ',H',I',r,q⟩:=q
    exact⟨v,_,H',I'.unhnd ok,r,q⟩)
 exact hit
end
noncomputable def Jz(ys sub:List Str)(x:D)(S:Sto):Out D:=match x with
 | .exn y _=>if y∈ys then .ok (.bl (decide (y∈sub))) S else .bad
 | _=>.bad
structure Isx(K:PySem.W.Frag)(mg:Str->Option Value)(x:Str)(ys sub:List Str):Prop where
 ex:∃ cs,mg x=some (.ref cs)/\∀ y∈ys,∃ C,CN K y C/\PySem.W.kitOne K (.ref C) (.ref cs)=some (decide (y∈sub))
structure IsxB(K:PySem.W.Frag)(T:String)(ys sub:List Str):Prop where
 ex:∀ y∈ys,∃ C,CN K y C/\PySem.W.kitOne K (.ref C) (.type T)=some (decide (y∈sub))
section
variable{X:Cx}{XQ:XW}
noncomputable def Ha0(K:PySem.W.Frag)(w:V)(c:Value):List V->Hp->VK->Prop:=fun vs H Q=>∃ a C dx b,vs=[.ref a,w]/\XCl K C/\H a=some (XO a C dx)/\PySem.W.kitOne K (.ref C) c=some b/\Q (.bl b) H
theorem Ggp{w:V}{c:Value}(hw:∀ u,Gz w u->u=c):Vb X (.builtin "isinstance") (Ha0 X.K w c):=by
 intro pins s σ H xs us Q I r zq0
 obtain⟨a,C,dx,b,e,xc,hH,hk,q⟩:=zq0
 subst e
 obtain⟨u,w',rfl,ru,rw'⟩:=Vals.two r
 cases (show u=Value.ref a from ru)
 cases hw _ rw'
 exact PySem.W.kia_one (Ggj xc) I.kIn (Gsv I hH) hk (fun z=>nomatch z) fun tk=>⟨.bl b,H,I.tok tk,rfl,q⟩
noncomputable def Gde:List D->Option (List Bool)
 | []=>some []
 | .bl b::r=>(Gde r).map (b::·)
 | _::_=>none
theorem Gb4:∀ {l:List D} {bs:List Bool},Gde l=some bs->l=bs.map .bl
 | [],bs,h=>by cases h; rfl
 | d::r,bs,h=>by
  cases d with
  | bl b=>
   have h:(Gde r).map (b::·)=some bs:=h
   cases z:Gde r with
   | none=>rw[z] at h; cases h
   | some q=>rw[z] at h; cases h; rw[Gb4 z]; rfl
  | _=>cases h
theorem Gb5{K:PySem.W.Frag}{mp:List Addr}{H:Hp}:∀ {bs:List Bool} {vs:List V},RepL K mp H (bs.map .bl) vs->vs=bs.map .bl
 | [],vs,h=>h
 | b::r,vs,h=>by
  obtain⟨v,q,e,h1,h2⟩:=(show ∃ v r',vs=v::r'/\Rep K mp H (.bl b) v/\RepL K mp H (r.map .bl) r' from h)
  cases (show v=.bl b from h1)
  rw[e,Gb5 h2]
  rfl
theorem Gb6:∀ {bs:List Bool} {us:List Value},Vals (bs.map V.bl) us->us=bs.map Value.bool
 | [],_,.nil=>rfl
 | b::r,_,.cons h t=>by
  rw[Gb6 t]
  cases (show _=Value.bool b from h)
  rfl
theorem Gnb(b k:Bool):MeetsSeq.EqGives (.bool b) (.bool k) (b==k):=fun prog w A E s Q h=>PySem.SeqAt.EqAt.bool_bool b k prog w E Q h
noncomputable def Gk8(k:Bool):Value->Bool
 | .bool b=>b==k
 | _=>false
theorem Gjk(bs:List Bool)(k:Bool):∀ y,y∈(bs.map Value.bool).toArray->MeetsSeq.EqGives y (.bool k) (Gk8 k y):=fun y hy=>by
 obtain⟨b,_,rfl⟩:=Ay.mp (show y∈bs.map Value.bool from by simpa using hy)
 exact Gnb b k
noncomputable def Gym:V->List V->Hp->VK->Prop:=fun x vs H Q=>∃ (l:Addr) (bs:List Bool) (k:Bool),x=.ref l/\vs=[.bl k]/\H l=some (.lst (bs.map .bl))/\Q (.int (bs.countP (·==k):Nat)) H
theorem Gvm:MtM X "list.count" Gym:=by
 intro pins s σ H x vs v us Q I rx rv zq0
 obtain⟨l,bs,k,e1,e2,hH,q⟩:=zq0
 subst e1 e2
 cases rx
 obtain⟨u,rfl,ru⟩:=Vals.one rv
 cases (show u=Value.bool k from ru)
 obtain⟨z,its,n,r,hl,e⟩:=I.lstM hH
 cases Gb6 r
 refine call_meets PySem.F.slot_list_count ⟨_,e,rfl⟩ PySem.F.entry_list_count (PySem.F.args_list_count_2 _ _) (MeetsSeq.list_count l _ n (.bool k) (Gk8 k) (Gjk bs k)) ⟨e,.int _,H,I.tok _,⟨_,rfl⟩,?_⟩
 have ec:List.countP (Gk8 k) (List.map Value.bool bs).toArray.toList=bs.countP (·==k):=by
  rw[List.countP_map]; rfl
 rw[ec]
 exact q
noncomputable def Gk9(x:D)(xs:List D)(S:Sto):Out D:=match x,xs with
 | .lst i,[.bl k]=>match S[i]? with
  | some c=>if c.fz=false then(match Gde c.xs with
   | some bs=>.ok (.int (bs.countP (·==k):Nat)) S
   | none=>.bad) else .bad
  | none=>.bad
 | _,_=>.bad
theorem Gvn:MeD K Gym Gk9:=by
 intro XQ σ ρ mp H S x xs v vs Q rs rx r p
 unfold Gk9 at p
 split at p
 ·rename_i i k
  split at p
  ·rename_i c zc
   by_cases hc:c.fz=false
   ·rw[if_pos hc] at p
    split at p
    ·rename_i bs zb
     obtain⟨w,rfl,hw⟩:=RepL.one r
     cases (show w=.bl k from hw)
     obtain⟨a,ys,rfl,ha,sq,q,f⟩:=rs.items rx zc
     rw[Gb4 zb] at q
     cases Gb5 q
     exact⟨a,bs,k,rfl,rfl,f hc,p mp H _ .refl rs rfl⟩
    ·exact p.elim
   ·rw[if_neg hc] at p; exact p.elim
  ·exact p.elim
 ·exact p.elim
noncomputable def Gyn:V->List V->Hp->VK->Prop:=fun x vs H Q=>∃ (l:Addr) (bs:List Bool) (k:Bool) (j:Nat),x=.ref l/\vs=[.bl k]/\H l=some (.lst (bs.map .bl))/\List.findIdx? (·==k) bs=some j/\Q (.int (j:Nat)) H
theorem Gvo:MtM X "list.index" Gyn:=by
 intro pins s σ H x vs v us Q I rx rv zq0
 obtain⟨l,bs,k,j,e1,e2,hH,hj,q⟩:=zq0
 subst e1 e2
 cases rx
 obtain⟨u,rfl,ru⟩:=Vals.one rv
 cases (show u=Value.bool k from ru)
 obtain⟨z,its,n,r,hl,e⟩:=I.lstM hH
 cases Gb6 r
 rw[List.findIdx?_eq_some_iff_getElem] at hj
 obtain⟨h1,h2,h3⟩:=hj
 have z:bs.length<=sizeLine:=by simpa using z
 rw[sizeLine_eq] at z
 refine call_meets PySem.F.slot_list_index ⟨_,e,rfl⟩ PySem.F.entry_list_index (PySem.F.args_list_index_2 _ _) (MeetsSeq.list_index l _ n (.bool k) (Gk8 k) (Gjk bs k) j (by simpa using h1) (by omega) (by simpa[Gk8] using h2) (fun m hm hlt=>?_)) ⟨e,.int _,H,I.tok _,⟨_,rfl⟩,q⟩
 have:=h3 m hlt
 simpa[Gk8] using this
noncomputable def Gla(x:D)(xs:List D)(S:Sto):Out D:=match x,xs with
 | .lst i,[.bl k]=>match S[i]? with
  | some c=>if c.fz=false then(match Gde c.xs with
   | some bs=>(match List.findIdx? (·==k) bs with
    | some j=>.ok (.int (j:Nat)) S
    | none=>.bad)
   | none=>.bad) else .bad
  | none=>.bad
 | _,_=>.bad
theorem Gvp:MeD K Gyn Gla:=by
 intro XQ σ ρ mp H S x xs v vs Q rs rx r p
 unfold Gla at p
 split at p
 ·rename_i i k
  split at p
  ·rename_i c zc
   by_cases hc:c.fz=false
   ·rw[if_pos hc] at p
    split at p
    ·rename_i bs zb
     split at p
     ·rename_i j zj
      obtain⟨w,rfl,hw⟩:=RepL.one r
      cases (show w=.bl k from hw)
      obtain⟨a,ys,rfl,ha,sq,q,f⟩:=rs.items rx zc
      rw[Gb4 zb] at q
      cases Gb5 q
      exact⟨a,bs,k,j,rfl,rfl,f hc,zj,p mp H _ .refl rs rfl⟩
     ·exact p.elim
    ·exact p.elim
   ·rw[if_neg hc] at p; exact p.elim
  ·exact p.elim
 ·exact p.elim
end
noncomputable def Gvq(K:PySem.W.Frag)(c:Addr):Bool:=
 (PySem.W.findIn K (.ref c) "__getattribute__"==some (some (.builtin "BaseException.__getattribute__")))&&((PySem.W.findIn K (.ref c) "__getattr__"==some none)&&((PySem.W.findIn K (.ref c) "__class__"==some (some (.builtin "object.__class__")))
  && ((PySem.W.clsIn K c).isSome&&((PySem.W.mroIn K c (.type "object")==some true)&&((PySem.W.subIn K (.ref c) (.type "BaseException")==some true)&&["bool","int","str","tuple","list"].all fun T=>PySem.W.kitOne K (.ref c) (.type T)==some false)))))
theorem Gvr{c:Addr}(h:Gvq K c=true):XCl K c:=by
 unfold Gvq at h
 simp only[As,beq_iff_eq,AK] at h
 obtain⟨h1,h2,h3,h4,h5,h6,h7⟩:=h
 exact⟨h1,h2,h3,h4,h5,h6,h7⟩
noncomputable def xrowB(K:PySem.W.Frag)(cs:Addr)(l:List (Str×Addr))(p:Str×Addr):Bool:=
 (PySem.W.nsIn K mainGlobals p.1==some (some (.ref p.2)))&&(Gvq K p.2&&((PySem.W.exmOne K (.ref p.2) (.ref cs)==some true)&&((PySem.W.kitOne K (.ref p.2) (.type "ValueError")==some true)&&l.all fun q=>PySem.W.kitOne K (.ref p.2) (.ref q.2)==some (decide (p.1∈[q.1])))))
noncomputable def Gnc(K:PySem.W.Frag)(cs:Addr)(l m:List (Str×Addr)):Bool:=(l.all fun p=>xrowB K cs m p)&&m.all fun q=>PySem.W.nsIn K mainGlobals q.1==some (some (.ref q.2))
structure XT(K:PySem.W.Frag)(mg:Str->Option Value)(sup:Str)(ys ms:List Str):Prop where
 cat:Cat K mg sup ys
 isx:∀ x∈ms,Isx K mg x ys [x]
 val:IsxB K "ValueError" ys ys
 xns:XNs K ys
theorem Gyo{mg:Str->Option Value}{sup:Str}{cs:Addr}{l m:List (Str×Addr)}(X:K.In h)(G:h.Ns mainGlobals mg)(a:PySem.W.nsIn K mainGlobals sup=some (some (.ref cs)))(t:Gnc K cs l m=true):XT K mg sup (l.map (·.1)) (m.map (·.1)):=by
 unfold Gnc at t
 rw[As] at t
 obtain⟨t,tm⟩:=t
 have qm:∀ r∈m,CN K r.1 r.2:=fun r hr=>beq_iff_eq.mp (AK.mp tm r hr)
 have q:∀ p∈l,CN K p.1 p.2/\XCl K p.2/\PySem.W.exmOne K (.ref p.2) (.ref cs)=some true/\PySem.W.kitOne K (.ref p.2) (.type "ValueError")=some true/\∀ r∈m,PySem.W.kitOne K (.ref p.2) (.ref r.2)=some (decide (p.1∈[r.1])):=fun p hp=>by
  have z:=AK.mp t p hp
  unfold xrowB at z
  simp only[As,beq_iff_eq,AK] at z
  obtain⟨h1,h2,h3,h4,h5⟩:=z
  exact⟨h1,Gvr h2,h3,h4,h5⟩
 refine⟨⟨cs,PySem.W.mg_of X G a,fun y hy=>?_⟩,fun x hx=>?_,⟨fun y hy=>?_⟩,fun y hy=>?_⟩
 ·obtain⟨p,hp,rfl⟩:=Ay.mp hy
  obtain⟨h1,h2,h3,h4,h5⟩:=q p hp
  exact⟨p.2,h1,h2,h3⟩
 ·obtain⟨r,hr,rfl⟩:=Ay.mp hx
  refine⟨r.2,PySem.W.mg_of X G (qm r hr),fun y hy=>?_⟩
  obtain⟨p,hp,rfl⟩:=Ay.mp hy
  obtain⟨h1,h2,h3,h4,h5⟩:=q p hp
  exact⟨p.2,h1,h5 r hr⟩
 ·obtain⟨p,hp,rfl⟩:=Ay.mp hy
  obtain⟨h1,h2,h3,h4,h5⟩:=q p hp
  exact⟨p.2,h1,by rw[h4,decide_eq_true hy]⟩
 ·obtain⟨p,hp,rfl⟩:=Ay.mp hy
  obtain⟨h1,h2,h3,h4,h5⟩:=q p hp
  exact⟨p.2,h1,h2⟩
noncomputable def kxB(K:PySem.W.Frag)(C:Addr):Bool:=match K.lookup C with
 | some ⟨.type "type",_,.cls cd,sl⟩=>(match cd.mro,sl.toList with
  | .ref C'::bm,[_,_,_,_,some (.builtin n),_]=>C'==C&&(!cd.hasDel&&(n=="ValueError.__new__"&&(bm.contains (.type "ValueError")&&(!bm.contains (.type "AttributeError")&&(!bm.contains (.type "NameError")&&bm.contains (.type "BaseException"))))))
  | _,_=>false)
 | _=>false
theorem Gyp(q:kxB K C=true):KX K C:=by
 unfold kxB at q
 split at q
 ·rename_i dd cd sl ho
  split at q
  ·rename_i C' bm k0 k1 k2 k3 n k5 hm hs
   simp only[As,beq_iff_eq,Bool.not_eq_true'] at q
   obtain⟨rfl,hdel,hn,h1,h2,h3,h4⟩:=q
   subst hn
   obtain⟨nm,bs,mro,ns,qn,hd,sn,sub,ab,col,del⟩:=cd
   dsimp only at hm hdel
   subst hm hdel
   have hsl:sl=#[k0,k1,k2,k3,some (.builtin "ValueError.__new__"),k5]:=by
    obtain⟨l⟩:=sl
    simp only at hs
    rw[hs]
   subst hsl
   exact⟨nm,qn,ns,bs,bm,hd,sn,sub,ab,col,dd,k0,k1,k2,k3,k5,ho,⟨h1,h2,h3,h4⟩⟩
  ·cases q
 ·cases q
noncomputable def Gb7(K:PySem.W.Frag)(c f:Addr):Bool:=kxB K c&&(PySem.W.findIn K (.ref c) "__init__"==some (some (.ref f)))
section
variable{P:Program}{w:World}{K:PySem.W.Frag}{mg:Str->Option Value}{base:Heap}
structure IniX(P:Program)(w:World)(K:PySem.W.Frag)(mg:Str->Option Value)(base:Heap)(f:Addr)(j:Nat):Prop where
 ex:∃ fd ps oI,K.lookup f=some oI/\oI.cls=.type "function"/\FnOk P w K mg base CX0 j f fd ps (spI K)/\ps.length=2/\Binds K fd ps []
theorem Vp{x:Str}{f:Addr}(X:K.In h)(G:h.Ns mainGlobals mg)(i:IniX P w K mg base f j)(a:PySem.W.nsIn K mainGlobals x=some (some (.ref C)))(t:Gb7 K C f=true):ClX P w K mg base x j:=by
 obtain⟨fd,ps,oI,l,c,F,n,b⟩:=i.ex
 unfold Gb7 at t
 simp only[As,beq_iff_eq] at t
 exact⟨C,f,fd,ps,oI,PySem.W.mg_of X G a,a,Gyp t.1,t.2,l,c,F,n,b⟩
noncomputable abbrev Gs1(K:PySem.W.Frag):TS:=Gsf (tVI K (Gl7 (Gth 0) (Gl7 (Gth 1) Gx1)))
theorem ini_mk{f:Addr}{an:Option Addr}{kV:Value}(l:K.lookup f=some ⟨.type "function",od,.func (PySem.W.fnOf "__init__" "SummitError.__init__" (Hl st) (Gv st) (Gb st) .none kV doc pm an cdv ct),osl⟩)(c:PySem.W.codeIn K cdv "SummitError.__init__"=true)(k:PySem.W.keepIn K (.ref f)=true)(Sc:FnScope ["self","text"] ["self","text"] (Gb st))(hb:∀ (f:Addr) (cdv:Value) (A:Around) (outer:List PySem.Env) (s:Shared) (H:Hp) (E:XK),PSs (Ku CX0 P w K mg base ["self","text"] "SummitError.__init__" (Gb st) f cdv A outer s H E).nox (Gv st) (Gs1 K))(bi:∀ (kV doc pm:Value) (an:Option Addr) (cdv ct:Value) (us:List Value),us.length=2->bindArgs (PySem.W.fnOf "__init__" "SummitError.__init__" (Hl st) (Gv st) (Gb st) .none kV doc pm an cdv ct) ⟨us,[]⟩=pure ((["self","text"]:List Str).zip us)):IniX P w K mg base f 1:=by
 have F:=Ger (st:=st) l c k
 refine⟨_,["self","text"],_,l,rfl,?_,rfl,F.binds bi⟩
 refine Fun.ok F Sc (fun vs H Q E ⟨e,v,C,dx,ev,_⟩=>by rw[ev]; rfl) fun cdv A outer s H vs Q E hr ⟨e,v,C,dx,ev,hH,kx,q⟩=>?_
 refine⟨_,hb _ cdv A outer s H E,?_⟩
 subst ev
 exact⟨.ref e,rfl,v,rfl,e,v,C,dx,rfl,hH,kx,q⟩
end
section
variable{X:Cx}{XQ:XW}
noncomputable def Ha1(i j:Int):Prop:=(-1000000000000<=i/\i<=1000000000000) /\ -1000000000000<=j/\j<=1000000000000
noncomputable instance {i j:Int}:Decidable (Ha1 i j):=inferInstanceAs (Decidable ((-1000000000000<=i/\i<=1000000000000) /\ -1000000000000<=j/\j<=1000000000000))
end
structure FvT(K:PySem.W.Frag)(mg:Str->Option Value)(x:Str):Prop where
 ex:∃ f,CN K x f/\mg x=some (.ref f)
section
variable{X:Cx}{XQ:XW}{k:Nat}{ps:List Str}{fn:Fn}{x y:Str}{p pos:Pos}{e:Expr}{es:List Expr}
theorem Gyq:XL X.nox (fun _ _ _ _ _ _=>False) where
 own:=fun pins σ H s e C dx φ I hH fr le ⟨x,mp,ρ,S,_,_,h⟩=>h.elim
 cal:=fun pins σ H s e s' E2 I hx hE=>by
  obtain⟨a,T,C,dx,H',_,_,_,_,_,_,_,_,h⟩:=hx
  obtain⟨_,_,_,_,_,_,z⟩:=hE C dx H' h
  exact z.elim
 pas:=PassesOwn.never
 pat:=fun _=>PassesOwnAt.never
noncomputable def clv(i:Nat)(x:Str)(n:Nat)(fn:Fn)(t:Ev (List D)):Ev D:=fun ρ S=>match ρ[i]? with
 | some (some (.fv y))=>if y=x then(t ρ S).bind fun ds S1=>if ds.length=n then fn ds S1 else .bad else .bad
 | _=>.bad
end
noncomputable def Gnd:List Value->Bool
 | .ref _::r=>Gnd r
 | l=>l==[.type "ValueError",.type "Exception",.type "BaseException",.type "object"]
structure KA(K:PySem.W.Frag)(C:Addr):Prop where
 sa:PySem.W.findIn K (.ref C) "__setattr__"=some (some (.builtin "object.__setattr__"))
 ve:(PySem.W.clsIn K C).any (fun cd=>Gnd cd.mro)=true
 na:PySem.W.findIn K (.ref C) "at"=some none
 hd:PySem.W.hasDictIn K C=true
section
variable{X:Cx}{pins:List (Addr×Obj)}{σ:L2.St}{H:Hp}{s:Shared}{C e:Addr}
structure BaseI(K:PySem.W.Frag)(mg:Str->Option Value)(x:Str)(f:Addr):Prop where
 ex:∃ cs mc,mg x=some (.ref cs)/\PySem.W.readsIn K cs mc=true/\PySem.W.findCls K (.ref cs) mc "__init__"=some (.val (.ref f))/\PySem.W.specialIn K (.ref cs) "__getattribute__"=some (some (.builtin "type.__getattribute__"))/\PySem.W.keepIn K (.ref f)=true
end
noncomputable def spJ(K:PySem.W.Frag):Sp:=fun vs H Q _=>∃ e n C,vs=[.ref e,.int n]/\H e=some (FX e C none)/\(KX K C/\KA K C)/\∀ d,H d=none->d≠e->Q .non (upd (upd H e (FX e C (some d))) d (XA d n))
section
variable{P:Program}{w:World}{K:PySem.W.Frag}{mg:Str->Option Value}{base:Heap}
structure IniJ(P:Program)(w:World)(K:PySem.W.Frag)(mg:Str->Option Value)(base:Heap)(f:Addr)(j:Nat):Prop where
 ex:∃ fd ps oI,K.lookup f=some oI/\oI.cls=.type "function"/\FnOk P w K mg base CX0 j f fd ps (spJ K)/\ps.length=2/\Binds K fd ps []
end
section
variable{X:Cx}{pins:List (Addr×Obj)}{σ:L2.St}{H:Hp}{s:Shared}{C f:Addr}{fd:FuncData}{ps:List Str}{k:Nat}
structure ClJ(P:Program)(w:World)(K:PySem.W.Frag)(mg:Str->Option Value)(base:Heap)(x:Str)(j:Nat):Prop where
 ex:∃ C f fd ps oI,mg x=some (.ref C)/\CN K x C/\(KX K C/\KA K C)/\PySem.W.findIn K (.ref C) "__init__"=some (some (.ref f))/\K.lookup f=some oI/\oI.cls=.type "function"/\FnOk P w K mg base CX0 j f fd ps (spJ K)/\ps.length=2/\Binds K fd ps []
end
section
variable{P:Program}{w:World}{A:Around}{E:Value->Shared->Prop}{env:PySem.Env}{s:Shared}
variable{nm q:Str}{C N:Addr}{bs bm:List Value}{hdct:Bool}{sn:List Str}{sub:List Value}{ab:Bool}{col:Option Bool}{dd:Option Addr}{k0 k1 k2 k3 k5:Option Value}{newId:String}
end
structure RoomQ(k:Nat)(A:Around):Prop where
 dp:A.depth+3*k+5<recursionLimit
 un:A.units+16*k+200<cLine
 gd:A.guards=some []
structure FnQ(P:Program)(w:World)(K:PySem.W.Frag)(mg:Str->Option Value)(base:Heap)(k:Nat)(f:Addr)(fd:FuncData)(ps:List Str)(sp:Sp):Prop where
 len:∀ vs H Q E,sp vs H Q E->vs.length=ps.length
 run:∀ (A:Around) (outer:List PySem.Env) (s:Shared) (H:Hp) (args:Args) (us:List Value) (vs:List V) (Q:VK) (E:XK),RoomQ k A->Env0 P w K mg base A outer s H->BindsTo s fd args (ps.zip us)->Vals vs us->sp vs H Q E→
  codeAny (model P w) A (.call (.ref f) args) (CR CX0 outer P w H s Q E) s
section
variable{P:Program}{w:World}{K:PySem.W.Frag}{mg:Str->Option Value}{base:Heap}
structure IniXQ(P:Program)(w:World)(K:PySem.W.Frag)(mg:Str->Option Value)(base:Heap)(f:Addr)(j:Nat):Prop where
 ex:∃ fd ps oI,K.lookup f=some oI/\oI.cls=.type "function"/\FnQ P w K mg base j f fd ps (spI K)/\ps.length=2/\Binds K fd ps []
structure IniJQ(P:Program)(w:World)(K:PySem.W.Frag)(mg:Str->Option Value)(base:Heap)(f:Addr)(j:Nat):Prop where
 ex:∃ fd ps oI,K.lookup f=some oI/\oI.cls=.type "function"/\FnQ P w K mg base j f fd ps (spJ K)/\ps.length=2/\Binds K fd ps []
end
section
variable{X:Cx}{pins:List (Addr×Obj)}{σ:L2.St}{H:Hp}{s:Shared}{C f:Addr}{fd:FuncData}{ps:List Str}{k:Nat}
structure ClJQ(P:Program)(w:World)(K:PySem.W.Frag)(mg:Str->Option Value)(base:Heap)(x:Str)(j:Nat):Prop where
 ex:∃ C f fd ps oI,mg x=some (.ref C)/\CN K x C/\(KX K C/\KA K C)/\PySem.W.findIn K (.ref C) "__init__"=some (some (.ref f))/\K.lookup f=some oI/\oI.cls=.type "function"/\FnQ P w K mg base j f fd ps (spJ K)/\ps.length=2/\Binds K fd ps []
end
noncomputable abbrev hx(X:Cx)(a:Addr):Cx:={ X with A:=X.A.mark (some (.ref a)),calm:=false }
structure GE(X:Cx)(XQ:XW)(e:Expr)(f:Ev D):Prop where
 h:JE X XQ e f
structure GA(X:Cx)(XQ:XW)(es:List Expr)(f:Ev (List D)):Prop where
 h:JA X XQ es f
structure GT(X:Cx)(XQ:XW)(e:Expr)(f:Ev Bool):Prop where
 h:JT X XQ e f
structure GW(X:Cx)(XQ:XW)(e:Expr)(f:Ev Bool):Prop where
 h:JW X XQ e f
structure GO(X:Cx)(XQ:XW)(e:Option Expr)(f:Ev (Option Int)):Prop where
 h:JO X XQ e f
structure GS(X:Cx)(XQ:XW)(st:Stmt)(f:Sv):Prop where
 h:JS X XQ st f
structure GSs(X:Cx)(XQ:XW)(st:List Stmt)(f:Sv):Prop where
 h:JSs X XQ st f
structure GI(X:Cx)(XQ:XW)(tg it:Expr)(f:Ev Src):Prop where
 h:JI X XQ tg it f
structure GG(X:Cx)(tg:Expr)(g:Tg):Prop where
 h:JG X tg g
structure GGs(X:Cx)(ts:List Expr)(g:Tgs):Prop where
 h:JGs X ts g
structure GTs(Y:Cx)(XQ:XW)(ifs:List Expr)(t:Ev Bool):Prop where
 h:JTs Y XQ ifs t
theorem Gne{x:Str}(t:FvT X.K X.mg x)(hg:Gl X x)(hp:Gy x=true):GE X XQ (.Name x pos) (cn (.fv x)):=by
 refine⟨?_⟩
 obtain⟨f,hc,hm⟩:=t.ex
 exact Vd (Gek hg hm (v:=.ref f) rfl (Gy.of hp).1) fun mp H=>⟨f,rfl,hc⟩
theorem Gnf{k:Nat}{x:Str}{e:Expr}(i:Nat){ys:List Str}{t:Ev (List D)}(xs:XNs X.K ys)(L:XL X XQ)(C:CalX X.prog X.w X.K X.mg X.base x ps fn j)(hr:Room k X.A)(hj:j<=k)(hN:X.N[i]?=some y)(hv:Vis X.env.scope y)(hy:Gy y=true)(ha:GA X XQ (e::es) t)(he:starEach (e::es) X.env=(false,eval e X.env)::starEach es X.env:=by rfl)(hpl:(backTo pos (starEach es X.env)).any (·.1)=false:=by rfl):GE X XQ (.Call (.Name y p) (e::es) [] pos) (clv i x ps.length (gX ys fn) t):=by
 have ha:=ha.h
 refine⟨?_⟩
 obtain⟨f,fd,F,hm,hk,hb⟩:=C.ex
 intro pins s σ H Q I zq0
 obtain⟨mp,ρ,S,G,p0⟩:=zq0
 unfold clv at p0
 split at p0
 ·rename_i z hz
  by_cases c:z=x
  ·rw[if_pos c] at p0
   subst c
   obtain⟨v,hσ,f',rfl,hc⟩:=G.loc i _ hz
   have hm':=PySem.W.mg_of I.ok.mod.kin I.ok.mod.glob hc
   rw[hm] at hm'
   cases hm'
   refine wpAny_Call_Name_kw (thn (Gej hN hv (Gy.of hy).1 (Gy.of hy).2 pins s σ H (fun w H'=>w=.ref f/\H'=H) I ⟨.ref f,hσ,rfl,rfl⟩) fun u s1 zq0=>?_)
   obtain⟨w,H1,I1,r1,e1,e2⟩:=zq0
   subst e1 e2
   obtain rfl:u=Value.ref f:=r1
   refine PySem.W.callWith_K (h₀:=X.base) I1.ok.mod.kin hk ?_ he hpl
   refine thn (ha pos pins s1 σ H1 (fun vs H2=>spX X.K ps.length fn vs H2 Q fun c dx H'=>∃ C,c=.ref C/\WX X.K XQ σ C dx H') I1 ?_) fun us s2 ⟨vs,H2,I2,r2,q2⟩=>⟨I2.kIn,Gji (F.mono hj) hr hb L.cal I2 r2 q2⟩
   refine bindP G p0 fun mp1 H1 ds S1 vs a1 G1 r1 p1=>?_
   by_cases hl:ds.length=ps.length
   ·rw[if_pos hl] at p1
    refine⟨mp1,ds,S1,G1.rs,r1,hl,?_⟩
    unfold gX at p1
    cases z:fn ds S1 with
    | ok d S'=>rw[z] at p1; exact p1
    | exc xx S'=>
     rw[z] at p1
     by_cases hi:xx.cls∈ys
     ·have p1:Gi X.K (Rep X.K) XQ σ ρ mp1 H1 (.exc xx S') Q:=by simpa only[if_pos hi] using p1
      obtain⟨C,hC,_⟩:=xs _ hi
      refine⟨C,hC,fun mp' H' dx af rs xf=>⟨C,rfl,xx,mp',ρ,S',xf,hC,p1 mp' H' af (G1.aft af rs)⟩⟩
     ·have p1:Gi X.K (Rep X.K) XQ σ ρ mp1 H1 .bad Q:=by simpa only[if_neg hi] using p1
      exact p1.elim
    | bad=>rw[z] at p1; exact p1.elim
   ·rw[if_neg hl] at p1; exact p1.elim
  ·rw[if_neg c] at p0; exact p0.elim
 ·exact p0.elim
theorem Gvs{x:Str}{ys:List Str}{e:Expr}(k:Isx X.K X.mg x ys sub)(hg:Gl X "isinstance")(hm:X.mg "isinstance"=none)(hgt:Gl X x)(hp:Gy x=true)(he:GE X XQ e f)(hs:starEach [e,.Name x p2] X.env=(false,eval e X.env)::starEach [.Name x p2] X.env)(hpl:(backTo pos (starEach [.Name x p2] X.env)).any (·.1)=false)(hs2:starEach [.Name x p2] X.env=(false,eval (.Name x p2) X.env)::starEach [] X.env):GE X XQ (.Call (.Name "isinstance" p) [e,.Name x p2] [] pos) (o1 (Jz ys sub) f):=by
 have he:=he.h
 refine⟨?_⟩
 obtain⟨cs,hmt,hk⟩:=k.ex
 refine PE.mono (Zd (Ggp (w:=.ref cs) (c:=.ref cs) fun u h=>h) hg hm (by rfl) (Qp he (Qp (Gek hgt hmt (v:=.ref cs) rfl (Gy.of hp).1) pa_nil hs2) hs) (by decide) (by decide) hs hpl) fun σ H Q zq0=>?_
 obtain⟨mp,ρ,S,G,q⟩:=zq0
 refine bindP G q fun mp1 H1 d S1 v a1 G1 r1 p1=>?_
 cases d with
 | exn y n=>
  obtain⟨a,dx,C,rfl,⟨hc,xc,hH⟩,_⟩:=(show ∃ a dx p,v=.ref a/\(CN X.K y p/\XCl X.K p/\H1 a=some (XO a p dx))/\∀ i,n=some i->∃ d,dx=some d/\H1 d=some (XA d i) from r1)
  by_cases hy:y∈ys
  ·have p1:Post X.K XQ σ ρ mp1 H1 (.ok (.bl (decide (y∈sub))) S1) Q:=by simpa only[Jz,if_pos hy] using p1
   obtain⟨C',hc',ko⟩:=hk y hy
   cases CN.one hc hc'
   exact⟨a,C,dx,_,rfl,xc,hH,ko,Gi.ok (R:=Rep X.K) p1 G1.rs rfl⟩
  ·have p1:Post X.K XQ σ ρ mp1 H1 .bad Q:=by simpa only[Jz,if_neg hy] using p1
   exact p1.elim
 | _=>exact p1.elim
theorem Gqf{x:Str}{ys:List Str}{e:Expr}(k:IsxB X.K T ys sub)(hv:bootBuiltins x=some (.type T))(hnx:x≠"__name__")(hg:Gl X "isinstance")(hm:X.mg "isinstance"=none)(hgt:Gl X x)(hmt:X.mg x=none)(hp:Gy x=true)(he:GE X XQ e f)(hs:starEach [e,.Name x p2] X.env=(false,eval e X.env)::starEach [.Name x p2] X.env)(hpl:(backTo pos (starEach [.Name x p2] X.env)).any (·.1)=false)(hs2:starEach [.Name x p2] X.env=(false,eval (.Name x p2) X.env)::starEach [] X.env):GE X XQ (.Call (.Name "isinstance" p) [e,.Name x p2] [] pos) (o1 (Jz ys sub) f):=by
 have he:=he.h
 refine⟨?_⟩
 have hk:=k.ex
 refine PE.mono (Zd (Ggp (w:=.ty T) (c:=.type T) fun u h=>h) hg hm (by rfl) (Qp he (Qp (Gi3 hgt hmt hv (v:=.ty T) rfl hnx (Gy.of hp).1) pa_nil hs2) hs) (by decide) (by decide) hs hpl) fun σ H Q zq0=>?_
 obtain⟨mp,ρ,S,G,q⟩:=zq0
 refine bindP G q fun mp1 H1 d S1 v a1 G1 r1 p1=>?_
 cases d with
 | exn y n=>
  obtain⟨a,dx,C,rfl,⟨hc,xc,hH⟩,_⟩:=(show ∃ a dx p,v=.ref a/\(CN X.K y p/\XCl X.K p/\H1 a=some (XO a p dx))/\∀ i,n=some i->∃ d,dx=some d/\H1 d=some (XA d i) from r1)
  by_cases hy:y∈ys
  ·have p1:Post X.K XQ σ ρ mp1 H1 (.ok (.bl (decide (y∈sub))) S1) Q:=by simpa only[Jz,if_pos hy] using p1
   obtain⟨C',hc',ko⟩:=hk y hy
   cases CN.one hc hc'
   exact⟨a,C,dx,_,rfl,xc,hH,ko,Gi.ok (R:=Rep X.K) p1 G1.rs rfl⟩
  ·have p1:Post X.K XQ σ ρ mp1 H1 .bad Q:=by simpa only[Jz,if_neg hy] using p1
   exact p1.elim
 | _=>exact p1.elim
theorem Gng{e:Expr}{f:Ev (List D)}(ho:GE X XQ o fo)(ha:GA X XQ [e] f)(hbase:attributeBase o "count" X.env (eval o X.env)=eval o X.env:=by rfl)(hfew:((backTo cpos (starEach [e] X.env)).all (fun x=>!x.1)&&(backToKw cpos (keywordEach [] X.env)).all (fun x=>x.1.isSome)
   && decide ([e].length+([]:List Keyword).length+(if([]:List Keyword).isEmpty then 0 else 1)<30))=true:=by rfl)(hline:(apos.endLine==cpos.line)=true:=by rfl)(hs:starEach [e] X.env=(false,eval e X.env)::starEach [] X.env:=by rfl):GE X XQ (.Call (.Attribute o "count" apos) [e] [] cpos) (mt Gk9 fo f):=by
 have ho:=ho.h
 have ha:=ha.h
 exact⟨Gey PySem.F.slot_list_count PySem.F.type_list_count Gvm Gvn ho ha hbase hfew hline hs rfl⟩
theorem Gnh{e:Expr}{f:Ev (List D)}(ho:GE X XQ o fo)(ha:GA X XQ [e] f)(hbase:attributeBase o "index" X.env (eval o X.env)=eval o X.env:=by rfl)(hfew:((backTo cpos (starEach [e] X.env)).all (fun x=>!x.1)&&(backToKw cpos (keywordEach [] X.env)).all (fun x=>x.1.isSome)
   && decide ([e].length+([]:List Keyword).length+(if([]:List Keyword).isEmpty then 0 else 1)<30))=true:=by rfl)(hline:(apos.endLine==cpos.line)=true:=by rfl)(hs:starEach [e] X.env=(false,eval e X.env)::starEach [] X.env:=by rfl):GE X XQ (.Call (.Attribute o "index" apos) [e] [] cpos) (mt Gla fo f):=by
 have ho:=ho.h
 have ha:=ha.h
 exact⟨Gey PySem.F.slot_list_index PySem.F.type_list_index Gvo Gvp ho ha hbase hfew hline hs rfl⟩
theorem Gb8{x1}{tp:Pos}{f:Ev (List D)}(hg:Gl X "enumerate")(hm:X.mg "enumerate"=none)(ha:GA X XQ [a] f)(hs:starEach [a] X.env=[(false,eval a X.env)]:=by rfl):GI X XQ (.Tuple es x1 tp) (.Call (.Name "enumerate" p) [a] [] pos) (Qw f):=by
 have ha:=ha.h
 refine⟨?_⟩
 refine PI.mono (Gm0 hg hm ha hs) fun σ H R zq0=>?_
 obtain⟨mp,ρ,S,G,p⟩:=zq0
 refine bindP G p fun mp1 H1 ds S1 vs a1 G1 r1 p1=>?_
 split at p1
 ·rename_i i
  split at p1
  ·rename_i c zc
   obtain⟨v,rfl,h1⟩:=RepL.one r1
   obtain⟨a2,xs,rfl,e2,sq,q,_⟩:=G1.rs.items h1 zc
   exact⟨a2,rfl,⟨xs,sq⟩,Gi.ok (R:=kI X.K) (d:=⟨fun k S=>(S[i]?).bind fun c=>(c.xs[k]?).map fun d=>.tup [.int k,d],c.xs.length+1⟩) (S:=S1) p1 G1.rs (Gve e2 (Rep.nd h1))⟩
  ·exact p1.elim
 ·exact p1.elim
theorem Gal{j pos}:GE X XQ (.Constant .none j pos) (cn .non):=⟨Vd Gtj fun _ _=>rfl⟩
theorem Yi{b:Bool}{j pos}:GE X XQ (.Constant (.bool b) j pos) (cn (.bl b)):=⟨Vd Gxn fun _ _=>rfl⟩
theorem ge_int{i:Int}{j pos}:GE X XQ (.Constant (.int i) j pos) (cn (.int i)):=⟨Vd Gti fun _ _=>rfl⟩
theorem Gw{x:Str}{j pos}:GE X XQ (.Constant (.str x) j pos) (cn (.str x)):=⟨Vd Gtk fun _ _=>rfl⟩
theorem Ji(ha:GE X XQ a fa)(hb:GE X XQ b fb):GE X XQ (.BinOp a .Add b pos) (o2 Gx fa fb):=by
 have ha:=ha.h
 have hb:=hb.h
 exact⟨Gbz Gpt Gut ha hb⟩
theorem Gic(ha:GE X XQ a fa)(hb:GE X XQ b fb):GE X XQ (.BinOp a .Sub b pos) (o2 Gdd fa fb):=by
 have ha:=ha.h
 have hb:=hb.h
 exact⟨Gbz Gt2 (od_int0 fun _ _ _ _=>rfl) ha hb⟩
theorem Ge3(ha:GE X XQ a fa)(hb:GE X XQ b fb):GE X XQ (.BinOp a .Mult b pos) (o2 Jl fa fb):=by
 have ha:=ha.h
 have hb:=hb.h
 exact⟨Gbz Gpu Guu ha hb⟩
theorem Gvt(ha:GE X XQ a fa)(hb:GE X XQ b fb):GE X XQ (.BinOp a .Mod b pos) (o2 Wj fa fb):=by
 have ha:=ha.h
 have hb:=hb.h
 exact⟨Gbz Gt4 (Gew (fun _ _ h=>of_decide_eq_true h) fun _ _ _ _=>rfl) ha hb⟩
theorem Gqg(ha:GE X XQ a fa)(hb:GE X XQ b fb):GE X XQ (.BinOp a .FloorDiv b pos) (o2 Ga4 fa fb):=by
 have ha:=ha.h
 have hb:=hb.h
 exact⟨Gbz Gmw (Gew (fun _ j h=>(of_decide_eq_true h:0<j/\j<2^200)) fun _ _ _ _=>rfl) ha hb⟩
theorem Gvu(ha:GE X XQ a fa)(hb:GE X XQ b fb):GE X XQ (.BinOp a .Pow b pos) (o2 Ggh fa fb):=by
 have ha:=ha.h
 have hb:=hb.h
 exact⟨Gbz Gt5 (Gew (fun i j h=>(of_decide_eq_true h:0<=j/\j<=1000000/\i.natAbs<2^64)) fun _ _ _ _=>rfl) ha hb⟩
theorem Gyr(ha:GE X XQ a fa)(hb:GE X XQ b fb):GE X XQ (.Compare a [.Lt] [b] pos) (o2 ltD fa fb):=by
 have ha:=ha.h
 have hb:=hb.h
 exact⟨Ges Ggd (od_int0 fun _ _ _ _=>rfl) ha hb (nomark _)⟩
theorem Gys(ha:GE X XQ a fa)(hb:GE X XQ b fb):GE X XQ (.Compare a [.LtE] [b] pos) (o2 leD fa fb):=by
 have ha:=ha.h
 have hb:=hb.h
 exact⟨Ges Gi6 (od_int0 fun _ _ _ _=>rfl) ha hb (nomark _)⟩
theorem Gyt(ha:GE X XQ a fa)(hb:GE X XQ b fb):GE X XQ (.Compare a [.GtE] [b] pos) (o2 geD fa fb):=by
 have ha:=ha.h
 have hb:=hb.h
 exact⟨Ges Gsg (od_int0 fun _ _ _ _=>rfl) ha hb (nomark _)⟩
theorem Gb9(hu:X.A.units+64<cLine)(ha:GE X XQ a fa)(hb:GE X XQ b fb):GE X XQ (.Compare a [.Eq] [b] pos) (o2 eqD fa fb):=by
 have ha:=ha.h
 have hb:=hb.h
 exact⟨Gml (Gso hu) Gsq ha hb (nomark _)⟩
theorem Gyu(hu:X.A.units+64<cLine)(ha:GE X XQ a fa)(hb:GE X XQ b fb):GE X XQ (.Compare a [.NotEq] [b] pos) (o2 neD fa fb):=by
 have ha:=ha.h
 have hb:=hb.h
 exact⟨Gml (Gsp hu) Gsr ha hb (nomark _)⟩
theorem Gqh(ha:GE X XQ a fa)(hb:GE X XQ b fb):GE X XQ (.Compare a [.IsNot] [b] pos) (o2 Zg fa fb):=by
 have ha:=ha.h
 have hb:=hb.h
 exact⟨Ges Gi7 Gje ha hb (nomark _)⟩
theorem Gni{rest:List Expr}{g:Ev D}(ha:GE X XQ a f)(hb:GE X XQ (.BoolOp .And (b::rest) pos) g):GE X XQ (.BoolOp .And (a::b::rest) pos) (va f g):=by
 have ha:=ha.h
 have hb:=hb.h
 exact⟨PE.mono (Gtp ha hb) fun σ H Q ⟨mp,ρ,S,G,p⟩=>bindP G p fun mp1 H1 x S1 v a1 G1 r1 p1=>by
  cases x with
  | bl b=>
   refine⟨b,r1,?_⟩
   cases b with
   | true=>exact(if_pos rfl).mpr ⟨mp1,ρ,S1,G1,by simpa using p1⟩
   | false=>exact(if_neg Ap).mpr (Gi.ok (R:=Rep X.K) (d:=.bl false) (S:=S1) (by simpa using p1) G1.rs rfl)
  | _=>exact p1.elim⟩
theorem Gnj{op}(h:GE X XQ a f):GE X XQ (.BoolOp op [a] pos) f:=by
 have h:=h.h
 exact⟨Gto h⟩
theorem Gvv(ha:GE X XQ a f):GE X XQ (.UnaryOp .Not a pos) (vn f):=by
 have ha:=ha.h
 exact⟨PE.mono (Gtq ha) fun σ H Q ⟨mp,ρ,S,G,p⟩=>bindP G p fun mp1 H1 x S1 v a1 G1 r1 p1=>by
  cases x with
  | bl b=>exact⟨b,r1,Gi.ok p1 G1.rs rfl⟩
  | _=>exact p1.elim⟩
theorem Gid(ha:GE X XQ a fa):GE X XQ (.UnaryOp .USub a pos) (o1 Ggi fa):=by
 have ha:=ha.h
 exact⟨Gyf Gt6 Gu2 ha⟩
theorem Gvw{c:Expr}(hc:GT X XQ c fc)(ha:GE X XQ a fa)(hb:GE X XQ b fb):GE X XQ (.IfExp c a b pos) (ie fc fa fb):=by
 have hc:=hc.h
 have ha:=ha.h
 have hb:=hb.h
 exact⟨PE.mono (Glv hc ha hb) fun σ H Q ⟨mp,ρ,S,G,p⟩=>bindP G p fun mp1 H1 b S1 c a1 G1 r1 p1=>by
  cases (show c=b from r1)
  cases b with
  | true=>exact(if_pos rfl).mpr ⟨mp1,ρ,S1,G1,by simpa using p1⟩
  | false=>exact(if_neg Ap).mpr ⟨mp1,ρ,S1,G1,by simpa using p1⟩⟩
theorem Gs(ha:GE X XQ a fa)(hb:GE X XQ b fb)(hs:Gem b:=by intro _ _; rfl):GE X XQ (.Subscript a b pos) (o2 getD fa fb):=by
 have ha:=ha.h
 have hb:=hb.h
 exact⟨Gye Guh Guv ha hb hs⟩
theorem Xv{e:Expr}{lo hi:Option Expr}{fe:Ev D}{fl fh:Ev (Option Int)}(he:GE X XQ e fe)(hl:GO X XQ lo fl)(hh:GO X XQ hi fh):GE X XQ (.Subscript e (.Slice lo hi none p2) pos) (sl2 fe fl fh):=by
 have he:=he.h
 have hl:=hl.h
 have hh:=hh.h
 refine⟨?_⟩
 refine PE.mono (Gma ((Gph.or Gue).or Gvd) he hl hh) fun σ H Q zq0=>?_
 obtain⟨mp,ρ,S,G,p⟩:=zq0
 refine bindP G p fun mp1 H1 x S1 v a1 G1 r1 p1=>?_
 refine bindP G1 p1 fun mp2 H2 l S2 l' a2 G2 r2 p2=>?_
 refine bindP G2 p2 fun mp3 H3 u S3 u' a3 G3 r3 p3=>?_
 cases (show l'=l from r2)
 cases (show u'=u from r3)
 have r1:=Rep.aft (a2.trans a3) _ _ r1
 cases x with
 | tup ds=>
  have p3:Post X.K XQ σ ρ mp3 H3 (if HT.sIx ds.length 0 l=0/\HT.sIx ds.length ds.length u=ds.length then .ok (.tup ds) S3 else .ok (.tup (Um ds l u)) S3) Q:=p3
  obtain⟨a,xs,rfl,sq,q⟩:=Rep.tup r1
  by_cases hw:HT.sIx ds.length 0 l=0/\HT.sIx ds.length ds.length u=ds.length
  ·rw[if_pos hw] at p3
   exact .inr ⟨a,xs,rfl,sq,by rw[q.len]; exact hw,Gi.ok (R:=Rep X.K) p3 G3.rs r1⟩
  ·rw[if_neg hw] at p3
   exact .inl (.inr ⟨a,xs,rfl,sq,by rw[q.len]; exact hw,fun t ht=>Ve p3 G3.rs (q.cut l u) ht⟩)
 | lst i=>
  have p3:Post X.K XQ σ ρ mp3 H3 (match S3[i]? with | some c=>.ok (.lst S3.length) (S3++[⟨false,Um c.xs l u⟩]) | none=>.bad) Q:=p3
  cases zc:S3[i]? with
  | none=>rw[zc] at p3; exact p3.elim
  | some c=>
   rw[zc] at p3
   obtain⟨a,xs,rfl,_,sq,q,_⟩:=G3.rs.items r1 zc
   exact .inl (.inl ⟨a,xs,rfl,sq,fun t ht=>Vf p3 G3.rs (q.cut l u) ht⟩)
 | _=>exact(show False from p3).elim
theorem Hy{f:Ev (List D)}(h:GA X XQ es f):GE X XQ (.List es pos) (ls f):=by
 have h:=h.h
 refine⟨?_⟩
 refine PE.mono (Gub h) fun σ H Q zq0=>?_
 obtain⟨mp,ρ,S,G,p⟩:=zq0
 refine bindP G p fun mp1 H1 xs S1 vs a1 G1 r1 p1=>?_
 by_cases hl:xs.length<=1000000
 ·rw[if_pos hl] at p1
  exact⟨by rw[r1.len]; exact line_le hl,fun q hq=>Vf p1 G1.rs r1 hq⟩
 ·rw[if_neg hl] at p1; exact p1.elim
theorem Hi{f:Ev (List D)}{x1}(h:GA X XQ es f):GE X XQ (.Tuple es x1 pos) (tp f):=by
 have h:=h.h
 refine⟨?_⟩
 refine PE.mono (Gua h) fun σ H Q zq0=>?_
 obtain⟨mp,ρ,S,G,p⟩:=zq0
 refine bindP G p fun mp1 H1 xs S1 vs a1 G1 r1 p1=>?_
 by_cases hl:xs.length<=1000000
 ·rw[if_pos hl] at p1
  exact⟨by rw[r1.len]; exact line_le hl,fun q hq=>Ve p1 G1.rs r1 hq⟩
 ·rw[if_neg hl] at p1; exact p1.elim
theorem Gvx{x:Str}{e:Expr}(k:Kit X.K T)(hv:bootBuiltins x=some (.type T))(hnx:x≠"__name__")(hdx:(x==("__debug__":Str))=false)(hg:Gl X "isinstance")(hm:X.mg "isinstance"=none)(hgt:Gl X x)(hmt:X.mg x=none)(he:GE X XQ e f)(hs:starEach [e,.Name x p2] X.env=(false,eval e X.env)::starEach [.Name x p2] X.env)(hpl:(backTo pos (starEach [.Name x p2] X.env)).any (·.1)=false)(hs2:starEach [.Name x p2] X.env=(false,eval (.Name x p2) X.env)::starEach [] X.env):GE X XQ (.Call (.Name "isinstance" p) [e,.Name x p2] [] pos) (o1 (isD T) f):=by
 have he:=he.h
 refine⟨?_⟩
 refine PE.mono (Zd (Gmu k) hg hm (by rfl) (Qp he (Qp (Gi3 hgt hmt hv (v:=.ty T) rfl hnx hdx) pa_nil hs2) hs) (by decide) (by decide) hs hpl) fun σ H Q zq0=>?_
 obtain⟨mp,ρ,S,G,q⟩:=zq0
 refine bindP G q fun mp1 H1 d S1 v a1 G1 r1 p1=>?_
 have p2:((∃ c,d=.fv c)\/∃ c,d=.dct c)\/Post X.K XQ σ ρ mp1 H1 (.ok (.bl (isT T (tyN d))) S1) Q:=by cases d<;>first | exact .inr p1 | exact .inl (.inl ⟨_,rfl⟩) | exact .inl (.inr ⟨_,rfl⟩)
 rcases p2 with(⟨c,rfl⟩ | ⟨c,rfl⟩) | p2
 ·exact(show False from p1).elim
 ·exact(show False from p1).elim
 refine⟨v,tyN d,rfl,?_,Gi.ok (R:=Rep X.K) p2 G1.rs rfl⟩
 cases d with
 | non=>cases (show v=.non from r1); exact rfl
 | bl b=>cases (show v=.bl b from r1); exact rfl
 | int b=>cases (show v=.int b from r1); exact rfl
 | str b=>cases (show v=.str b from r1); exact rfl
 | tup l=>obtain⟨a,xs,rfl,sq,_⟩:=Rep.tup r1; exact .inl ⟨rfl,xs,sq⟩
 | lst i=>
  obtain⟨a,rfl,ha,_⟩:=(show ∃ a,v=.ref a/\mp1[i]?=some a/\¬ Dcy H1 a from r1)
  have hl:i<S1.length:=by rw[<- G1.rs.len]; exact(Ab.mp ha).1
  obtain⟨a2,xs,e2,_,sq,_⟩:=G1.rs.items r1 (Ag hl)
  cases e2
  exact .inr (.inl ⟨rfl,xs,sq⟩)
 | exn c n=>
  obtain⟨a,dx,q,rfl,⟨_,xc,hH⟩,_⟩:=(show ∃ a dx p,v=.ref a/\(CN X.K c p/\XCl X.K p/\H1 a=some (XO a p dx))/\∀ i,n=some i->∃ d,dx=some d/\H1 d=some (XA d i) from r1)
  exact .inr (.inr ⟨rfl,q,dx,xc,hH⟩)
 | fv c=>exact(show False from p1).elim
 | dct c=>exact(show False from p1).elim
theorem Qm{e:Expr}{f:Ev (List D)}(hg:Gl X "len")(hm:X.mg "len"=none)(ha:GA X XQ [e] f)(he:starEach [e] X.env=(false,eval e X.env)::starEach [] X.env:=by rfl):GE X XQ (.Call (.Name "len" p) [e] [] pos) (b1 Hr f):=by
 have ha:=ha.h
 exact⟨Gex Gl6 Gux hg hm PySem.boot_len ha (he:=he)⟩
theorem Gqi{e:Expr}{f:Ev (List D)}(hg:Gl X "list")(hm:X.mg "list"=none)(ha:GA X XQ [e] f)(he:starEach [e] X.env=(false,eval e X.env)::starEach [] X.env:=by rfl):GE X XQ (.Call (.Name "list" p) [e] [] pos) (b1 Wo f):=by
 have ha:=ha.h
 exact⟨Gmm Gep Gpv hg hm (by rfl) ha (he:=he)⟩
theorem Ggq{e:Expr}{f:Ev (List D)}(hg:Gl X "tuple")(hm:X.mg "tuple"=none)(ha:GA X XQ [e] f)(he:starEach [e] X.env=(false,eval e X.env)::starEach [] X.env:=by rfl):GE X XQ (.Call (.Name "tuple" p) [e] [] pos) (b1 Zf f):=by
 have ha:=ha.h
 exact⟨Gmm Gdc Gmn hg hm (by rfl) ha (he:=he)⟩
theorem Gvy{e e':Expr}{f:Ev (List D)}(hc:X.calm=true)(hg:Gl X "min")(hm:X.mg "min"=none)(ha:GA X XQ [e,e'] f)(he:starEach [e,e'] X.env=(false,eval e X.env)::starEach [e'] X.env:=by rfl)(hpl:(backTo pos (starEach [e'] X.env)).any (·.1)=false:=by rfl):GE X XQ (.Call (.Name "min" p) [e,e'] [] pos) (b1 Gk4 f):=by
 have ha:=ha.h
 exact⟨Gex (Gky hc) Guy hg hm (by rfl) ha (he:=he) (hpl:=hpl)⟩
theorem Gvz{e e':Expr}{f:Ev (List D)}(hc:X.calm=true)(hg:Gl X "max")(hm:X.mg "max"=none)(ha:GA X XQ [e,e'] f)(he:starEach [e,e'] X.env=(false,eval e X.env)::starEach [e'] X.env:=by rfl)(hpl:(backTo pos (starEach [e'] X.env)).any (·.1)=false:=by rfl):GE X XQ (.Call (.Name "max" p) [e,e'] [] pos) (b1 Gmy f):=by
 have ha:=ha.h
 exact⟨Gex (Gkx hc) Gvc hg hm (by rfl) ha (he:=he) (hpl:=hpl)⟩
theorem Ge4{e:Expr}{f:Ev (List D)}(hg:Gl X "int")(hm:X.mg "int"=none)(ha:GA X XQ [e] f)(he:starEach [e] X.env=(false,eval e X.env)::starEach [] X.env:=by rfl):GE X XQ (.Call (.Name "int" p) [e] [] pos) (b1 Yh f):=by
 have ha:=ha.h
 exact⟨Gmm Gkz Guz hg hm (by rfl) ha (he:=he)⟩
theorem Zj{k:Nat}{e:Expr}{f:Ev (List D)}(hr:Room k X.A)(hg:Gl X "repr")(hm:X.mg "repr"=none)(ha:GA X XQ [e] f)(he:starEach [e] X.env=(false,eval e X.env)::starEach [] X.env:=by rfl):GE X XQ (.Call (.Name "repr" p) [e] [] pos) (b1 Wf f):=by
 have ha:=ha.h
 exact⟨Gpz (Gp1 hr) Gp0 hg hm (by rfl) ha (he:=he)⟩
theorem Ge5{e:Expr}{f:Ev (List D)}(hc:X.calm=true)(hg:Gl X "sum")(hm:X.mg "sum"=none)(ha:GA X XQ [e] f)(he:starEach [e] X.env=(false,eval e X.env)::starEach [] X.env:=by rfl):GE X XQ (.Call (.Name "sum" p) [e] [] pos) (b1 Gk6 f):=by
 have ha:=ha.h
 exact⟨Gex (Gmx hc) Gvb hg hm (by rfl) ha (he:=he)⟩
theorem Xw{e:Expr}{f:Ev (List D)}(ho:GE X XQ o fo)(ha:GA X XQ [e] f)(hbase:attributeBase o "append" X.env (eval o X.env)=eval o X.env:=by rfl)(hfew:((backTo cpos (starEach [e] X.env)).all (fun x=>!x.1)&&(backToKw cpos (keywordEach [] X.env)).all (fun x=>x.1.isSome)
   && decide ([e].length+([]:List Keyword).length+(if([]:List Keyword).isEmpty then 0 else 1)<30))=true:=by rfl)(hline:(apos.endLine==cpos.line)=true:=by rfl)(hs:starEach [e] X.env=(false,eval e X.env)::starEach [] X.env:=by rfl):GE X XQ (.Call (.Attribute o "append" apos) [e] [] cpos) (mt Gez fo f):=by
 have ho:=ho.h
 have ha:=ha.h
 exact⟨Gey PySem.F.slot_list_append PySem.F.type_list_append Gd1 Gu1 ho ha hbase hfew hline hs rfl⟩
theorem Gyv(ha:GE X XQ a fa)(hb:GE X XQ b fb):GT X XQ (.Compare a [.Lt] [b] pos) (tb (o2 ltD fa fb)):=by
 have ha:=ha.h
 have hb:=hb.h
 exact⟨Gb0 Ggd (od_int0 fun _ _ _ _=>rfl) ha hb (nomark _)⟩
theorem Gnk(ha:GE X XQ a fa)(hb:GE X XQ b fb):GT X XQ (.Compare a [.Gt] [b] pos) (tb (o2 gtD fa fb)):=by
 have ha:=ha.h
 have hb:=hb.h
 exact⟨Gb0 Gxz (od_int0 fun _ _ _ _=>rfl) ha hb (nomark _)⟩
theorem Gyw(ha:GE X XQ a fa)(hb:GE X XQ b fb):GT X XQ (.Compare a [.GtE] [b] pos) (tb (o2 geD fa fb)):=by
 have ha:=ha.h
 have hb:=hb.h
 exact⟨Gb0 Gsg (od_int0 fun _ _ _ _=>rfl) ha hb (nomark _)⟩
theorem Gd5(hu:X.A.units+64<cLine)(ha:GE X XQ a fa)(hb:GE X XQ b fb):GT X XQ (.Compare a [.Eq] [b] pos) (tb (o2 eqD fa fb)):=by
 have ha:=ha.h
 have hb:=hb.h
 exact⟨Gh9 (Gso hu) Gsq ha hb (nomark _)⟩
theorem Zk(hu:X.A.units+64<cLine)(ha:GE X XQ a fa)(hb:GE X XQ b fb):GT X XQ (.Compare a [.NotEq] [b] pos) (tb (o2 neD fa fb)):=by
 have ha:=ha.h
 have hb:=hb.h
 exact⟨Gh9 (Gsp hu) Gsr ha hb (nomark _)⟩
theorem Gv0(ha:GE X XQ a fa)(hb:GE X XQ b fb):GT X XQ (.Compare a [.Is] [b] pos) (tb (o2 Gmo fa fb)):=by
 have ha:=ha.h
 have hb:=hb.h
 exact⟨Gb0 Gt7 Gu0 ha hb (nomark _)⟩
theorem Gjl(ha:GE X XQ a fa)(hb:GE X XQ b fb):GT X XQ (.Compare a [.IsNot] [b] pos) (tb (o2 Zg fa fb)):=by
 have ha:=ha.h
 have hb:=hb.h
 exact⟨Gb0 Gi7 Gje ha hb (nomark _)⟩
theorem Gca{c:Expr}{op op':CmpOp}{r r':R2}{o o':D->D->Sto->Out D}{fc:Ev D}(ho:OpR X (compareOp op) r)(hd:OpD X.K r o)(ho':OpR X (compareOp op') r')(hd':OpD X.K r' o')(ha:GE X XQ a fa)(hb:GE X XQ b fb)(hc:GE X XQ c fc)(hm:lastMarks [op,op'] [b,c]=false:=by with_unfolding_all rfl):GT X XQ (.Compare a [op,op'] [b,c] pos) (tb (ch o o' fa fb fc)):=by
 have ha:=ha.h
 have hb:=hb.h
 have hc:=hc.h
 exact⟨PT.mono (Gl4 ho ho' ha hb hc hm) fun σ H Q h=>Gu3 hd hd' σ H _ (Gmh h)⟩
theorem Qx{f:Ev Bool}(h:GT X XQ a f):GT X XQ (.UnaryOp .Not a pos) (tn f):=by
 have h:=h.h
 exact⟨PT.mono (Gtn h) fun σ H Q ⟨mp,ρ,S,G,p⟩=>bindP G p fun mp1 H1 b S1 c a1 G1 r1 p1=>by
  cases (show c=b from r1)
  exact Gi.ok p1 G1.rs rfl⟩
theorem Kv{e:Expr}(h:GE X XQ e f)(he:∀ whole,isTrue e X.env whole=(do let v <- whole; standAt e.pos; holding [v] (truthy v)):=by intro _; rfl):GT X XQ e (tt f):=by
 have h:=h.h
 refine⟨?_⟩
 refine PT.mono (Gl5 h he) fun σ H Q zq0=>?_
 obtain⟨mp,ρ,S,G,p⟩:=zq0
 refine bindP G p fun mp1 H1 x S1 v a1 G1 r1 p1=>?_
 cases z:Wm x S1 with
 | none=>rw[z] at p1; exact p1.elim
 | some b=>
  rw[z] at p1
  exact⟨b,Gpl G1.rs r1 z,Gi.ok p1 G1.rs rfl⟩
theorem Gjm{f:Ev Bool}(h:GT X XQ a f):GW X XQ (.BoolOp .And [a] pos) f:=by
 have h:=h.h
 exact⟨Go2 h⟩
theorem Ws{f:Ev Bool}(h:GT X XQ a f):GW X XQ (.BoolOp .Or [a] pos) f:=by
 have h:=h.h
 exact⟨Gtl h⟩
theorem Gie{rest:List Expr}{f g:Ev Bool}(h:GT X XQ a f)(hb:GW X XQ (.BoolOp .And (b::rest) pos) g):GW X XQ (.BoolOp .And (a::b::rest) pos) (ta f g):=by
 have h:=h.h
 have hb:=hb.h
 exact⟨PW.mono (Gtm h hb) fun σ H Q ⟨mp,ρ,S,G,p⟩=>bindP G p fun mp1 H1 b S1 c a1 G1 r1 p1=>by
  cases (show c=b from r1)
  cases b with
  | true=>exact(if_pos rfl).mpr ⟨mp1,ρ,S1,G1,by simpa using p1⟩
  | false=>exact(if_neg Ap).mpr (Gi.ok (R:=kB) (d:=false) (S:=S1) (by simpa using p1) G1.rs rfl)⟩
theorem Wt{rest:List Expr}{f g:Ev Bool}(h:GT X XQ a f)(hb:GW X XQ (.BoolOp .Or (b::rest) pos) g):GW X XQ (.BoolOp .Or (a::b::rest) pos) (to f g):=by
 have h:=h.h
 have hb:=hb.h
 exact⟨PW.mono (Gxo h hb) fun σ H Q ⟨mp,ρ,S,G,p⟩=>bindP G p fun mp1 H1 b S1 c a1 G1 r1 p1=>by
  cases (show c=b from r1)
  cases b with
  | false=>exact(if_neg Ap).mpr ⟨mp1,ρ,S1,G1,by simpa using p1⟩
  | true=>exact(if_pos rfl).mpr (Gi.ok (R:=kB) (d:=true) (S:=S1) (by simpa using p1) G1.rs rfl)⟩
theorem Gf :GA X XQ [] an:=⟨PA.mono pa_nil fun σ H Q ⟨mp,ρ,S,G,p⟩=>Gi.ok p G.rs RepL.nil⟩
theorem Ga{e:Expr}{g:Ev (List D)}(ha:GE X XQ e f)(hr:GA X XQ es g)(hs:starEach (e::es) X.env=(false,eval e X.env)::starEach es X.env:=by rfl):GA X XQ (e::es) (ac f g):=by
 have ha:=ha.h
 have hr:=hr.h
 refine⟨?_⟩
 refine PA.mono (Qp ha hr hs) fun σ H Q zq0=>?_
 obtain⟨mp,ρ,S,G,p⟩:=zq0
 refine bindP G p fun mp1 H1 x S1 v a1 G1 r1 p1=>?_
 refine bindP G1 p1 fun mp2 H2 xs S2 vs a2 G2 r2 p2=>?_
 exact Gi.ok p2 G2.rs (RepL.cons (Rep.aft a2 _ _ r1) r2)
theorem Ge6 :GO X XQ none onone:=⟨PO.mono Gpd fun σ H Q ⟨mp,ρ,S,G,p⟩=>Gi.ok (R:=kO) (show Gi X.K kO XQ σ ρ mp H (.ok none S) Q from p) G.rs rfl⟩
theorem Xx{e:Expr}(h:GE X XQ e f):GO X XQ (some e) (osome f):=by
 have h:=h.h
 exact⟨PO.mono (Gpe h) fun σ H Q ⟨mp,ρ,S,G,p⟩=>bindP G p fun mp1 H1 x S1 v a1 G1 r1 p1=>by
 cases x with
 | int i=>exact⟨i,r1,Gi.ok (R:=kO) p1 G1.rs rfl⟩
 | _=>exact(show False from p1).elim⟩
theorem Vj{f:Ev (List D)}(hg:Gl X "range")(hm:X.mg "range"=none)(ha:GA X XQ [a] f)(hs:starEach [a] X.env=[(false,eval a X.env)]:=by rfl):GI X XQ tg (.Call (.Name "range" p) [a] [] pos) (ir1 f):=by
 have ha:=ha.h
 refine⟨?_⟩
 refine PI.mono (Gkv hg hm ha hs) fun σ H R zq0=>?_
 obtain⟨mp,ρ,S,G,p⟩:=zq0
 refine bindP G p fun mp1 H1 ds S1 vs a1 G1 r1 p1=>?_
 split at p1
 ·rename_i j
  by_cases hb : -1000000000000<=j/\j<=1000000000000
  ·rw[if_pos hb] at p1
   obtain⟨v,rfl,h1⟩:=RepL.one r1
   cases (show v=.int j from h1)
   refine⟨j,rfl,by omega,by omega,Gi.ok (R:=kI X.K) (d:=rsrc 0 j.toNat) (S:=S1) p1 G1.rs Gur⟩
  ·rw[if_neg hb] at p1; exact p1.elim
 ·exact p1.elim
theorem Gcb{l:Expr}(hl:GE X XQ l f):GI X XQ tg l (isrc f):=by
 have hl:=hl.h
 refine⟨?_⟩
 refine PI.mono (Guo hl) fun σ H R zq0=>?_
 obtain⟨mp,ρ,S,G,p⟩:=zq0
 refine bindP G p fun mp1 H1 d S1 v a1 G1 r1 p1=>?_
 cases d with
 | tup ds=>
  obtain⟨a,xs,rfl,s,q⟩:=Rep.tup r1
  exact⟨a,rfl,.inr ⟨⟨xs,s⟩,Gi.ok (R:=kI X.K) (d:=⟨fun k _=>ds[k]?,ds.length+1⟩) (S:=S1) p1 G1.rs (Gup s q)⟩⟩
 | lst i=>
  have p1:Gi X.K (kI X.K) XQ σ ρ mp1 H1 (match S1[i]? with | some c=>.ok ⟨fun k S=>(S[i]?).bind fun c=>c.xs[k]?,c.xs.length+1⟩ S1 | none=>.bad) R:=p1
  cases z:S1[i]? with
  | none=>rw[z] at p1; exact p1.elim
  | some c=>
   rw[z] at p1
   obtain⟨a,xs,rfl,ha,s,q,_⟩:=G1.rs.items r1 z
   exact⟨a,rfl,.inl ⟨⟨xs,s⟩,Gi.ok (R:=kI X.K) (d:=⟨fun k S=>(S[i]?).bind fun c=>c.xs[k]?,c.xs.length+1⟩) (S:=S1) p1 G1.rs (Guq ha (Rep.nd r1))⟩⟩
 | _=>exact(show False from p1).elim
theorem ggn(i:Nat){x:Str}(hN:X.N.Nodup)(h:OkL X.env.scope x)(hi:X.N[i]?=some x:=by rfl)(hf:X.fn x=true:=by rfl):GG X (.Name x pos) (gn i):=⟨Get i hN hi (okL.loc h.h) (.inl hf)⟩
theorem Ha2(i:Nat){s2:Shared}{c:List (Str×Addr)}{x:Str}(hN:N'.Nodup)(h:Gu8 scope x=true)(hi:N'[i]?=some x:=by rfl):GG (blk X s2 H2 C scope c N' fp) (.Name x pos) (gn i):=by
 refine⟨?_⟩
 unfold Gu8 at h
 split at h
 ·rename_i e
  exact Get i hN hi (.inl (lookup_relabel_local e)) (.inr (lookup_relabel_local e))
 ·rename_i e
  exact Get i hN hi (.inr (Hu (scope:=scope) (env:=X.env) (by decide) scope.names e)) (.inl (by show(scope.names.lookup x==some NameKind.cell)=true; rw[e]; rfl))
 ·cases h
theorem Wu{m:Nat}{k:Tgs}(hc:X.calm=true)(h:GGs X es k)(hn:(assignEach es X.env).length=n:=by rfl)(hst:(assignEach es X.env).findIdx? (·.1)=none:=by rfl):GG X (.Tuple es m pos) (gt k n):=by
 have h:=h.h
 exact⟨PG.mono (Gts hc h hn hst) fun v σ H Q ⟨mp,ρ,S,d,ρ',G,r,e,q⟩=>by
  cases d with
  | tup ds=>
   have e:(if ds.length=n then k ds ρ else none)=some ρ':=e
   obtain⟨a,xs,ev,sq,rl⟩:=Rep.tup r
   by_cases hl:ds.length=n
   ·rw[if_pos hl] at e
    exact⟨a,xs,ev,sq,by rw[rl.len]; exact hl,mp,ρ,S,ds,ρ',G,rl,e,q⟩
   ·rw[if_neg hl] at e; cases e
  | _=>cases (show(none:Option Lc)=some ρ' from e)⟩
theorem Uf :GGs X [] gnil:=⟨PGs.mono Go6 fun vs σ H Q ⟨mp,ρ,S,ds,ρ',G,r,e,k⟩=>by
 cases ds with
 | nil=>
  cases (show some ρ=some ρ' from e)
  exact⟨r,k _ G⟩
 | cons _ _=>cases (show(none:Option Lc)=some ρ' from e)⟩
theorem Hf{e:Expr}{g:Tg}{k:Tgs}(h1:GG X e g)(h2:GGs X es k)(hs:(assignEach (e::es) X.env).map (·.2)=assign e X.env::(assignEach es X.env).map (·.2):=by rfl):GGs X (e::es) (gcons g k):=by
 have h1:=h1.h
 have h2:=h2.h
 exact⟨PGs.mono (Glx h1 h2 hs) fun vs σ H Q ⟨mp,ρ,S,ds,ρ',G,r,e,q⟩=>by
  cases ds with
  | nil=>cases (show(none:Option Lc)=some ρ' from e)
  | cons d ds=>
   have e:(g d ρ).bind (fun ρ'=>k ds ρ')=some ρ':=e
   obtain⟨v,vr,ev,h3,h4⟩:=(show ∃ v r,vs=v::r/\Rep X.K mp H d v/\RepL X.K mp H ds r from r)
   cases z:g d ρ with
   | none=>rw[z] at e; cases e
   | some ρ1=>
    rw[z] at e
    exact⟨v,vr,ev,mp,ρ,S,d,ρ1,G,h3,z,fun σ1 G1=>⟨mp,ρ1,S,ds,ρ',G1,h4,e,q⟩⟩⟩
theorem Hq :GSs X XQ [] skip:=⟨PSs.mono Go3 fun E σ H ⟨mp,ρ,S,G,p⟩=>PostS.nx p G⟩
theorem Gg{rest:List Stmt}{f g:Sv}(h1:GS X XQ st f)(h2:GSs X XQ rest g):GSs X XQ (st::rest) (sq f g):=by
 have h1:=h1.h
 have h2:=h2.h
 refine⟨?_⟩
 refine PSs.mono (Glw h1 h2) fun E σ H ⟨mp,ρ,S,G,p⟩=>⟨mp,ρ,S,G,?_⟩
 unfold sq at p
 cases e:f ρ S with
 | nx ρ' S'=>rw[e] at p; exact fun m h v a G'=>⟨m,ρ',S',G',PostS.aft p a⟩
 | rt d S'=>rw[e] at p; exact p
 | bk ρ' S'=>rw[e] at p; exact p
 | ct ρ' S'=>rw[e] at p; exact p
 | exc x ρ' S'=>rw[e] at p; exact p
 | bad=>rw[e] at p; exact p
theorem Gn{f:Sv}(h1:GS X XQ st f):GSs X XQ [st] f:=by
 have h1:=h1.h
 exact⟨Gi4 h1⟩
theorem Hm{e:Expr}(he:GE X XQ e f):GS X XQ (.Return (some e) pos) (sret f):=by
 have he:=he.h
 exact⟨PS.mono (Gtr he) fun E σ H ⟨mp,ρ,S,G,p⟩=>bindSP G p fun mp1 H1 d S1 v a1 G1 r1 p1=>PostS.rt p1 G1.rs r1⟩
theorem Ka{c:Expr}{a b:List Stmt}{f g:Sv}(hc:GT X XQ c fc)(ha:GSs X XQ a f)(hb:GSs X XQ b g):GS X XQ (.If c a b pos) (sif fc f g):=by
 have hc:=hc.h
 have ha:=ha.h
 have hb:=hb.h
 exact⟨PS.mono (Gxt hc ha hb) fun E σ H ⟨mp,ρ,S,G,p⟩=>bindSP G p fun mp1 H1 b S1 c a1 G1 r1 p1=>by
  cases (show c=b from r1)
  cases b with
  | true=>exact(if_pos rfl).mpr ⟨mp1,ρ,S1,G1,by simpa using p1⟩
  | false=>exact(if_neg Ap).mpr ⟨mp1,ρ,S1,G1,by simpa using p1⟩⟩
theorem gset(i:Nat){x:Str}{e:Expr}(hN:X.N.Nodup)(h:OkL X.env.scope x)(he:GE X XQ e f)(hi:X.N[i]?=some x:=by rfl)(hs:swapsWith e (some (.Name x pos')) pos.line X.env=pure false:=by rfl)(hf:X.fn x=true:=by rfl):GS X XQ (.Assign [.Name x pos'] e pos) (sa f (gn i)):=by
 have he:=he.h
 exact⟨Gum i hN he hi (okL.loc h.h) hs (.inl hf)⟩
theorem Gnl(i:Nat){sc:Scope}{spos:Pos}{pk:List (Option Nat)}{f:Ev Src}{g:Tg}{t:Ev Bool}{e:Ev D}(hsc:X.env.scope=sc)(hNN:X.N=N)(ct:CompTab sc scope N N' pk)(hcm:X.calm=true)(hi:GI X XQ tg iter f)(hg:∀ cl s2 H2 C fp,GG (blk X s2 H2 C scope cl N' fp) tg g)(ht:∀ cl s2 H2 C fp,GTs (blk X s2 H2 C scope cl N' fp) XN ifs t)(he:∀ cl s2 H2 C fp,GE (blk X s2 H2 C scope cl N' fp) XN elt e)(hN:X.N.Nodup)(hl:OkL X.env.scope y)(hsw:swapsWith (.ListComp elt [⟨tg,iter,ifs,0⟩] scope pos) (some (.Name y py)) spos.line X.env=pure true)(hy:X.N[i]?=some y:=by rfl)(hs:∀ x,foldedSetIterable iter X.env x=pure x:=by intro _; rfl)(hf:X.fn y=true:=by rfl):GS X XQ (.Assign [.Name y py] (.ListComp elt [⟨tg,iter,ifs,0⟩] scope pos) spos) (sa (cmp f pk g t e) (gn i)):=by
 have hi:=hi.h
 have hg:=(fun z0 z1 z2 z3 z4=>(hg z0 z1 z2 z3 z4).h)
 have ht:=(fun z0 z1 z2 z3 z4=>(ht z0 z1 z2 z3 z4).h)
 have he:=(fun z0 z1 z2 z3 z4=>(he z0 z1 z2 z3 z4).h)
 refine⟨?_⟩
 subst hsc hNN
 exact Gh7 i ct hcm hi hg ht he hN hy (okL.loc hl.h) hsw hs (.inl hf)
theorem Gam{e:Expr}{g:Tg}(he:GE X XQ e f)(hg:GG X tg g)(hs:swapsWithSole [tg] e pos.line X.env=pure false:=by rfl)(hw:swappedStores [tg] e X.env=pure none:=by rfl)(h1:(assignEach [tg] X.env).map (·.2)=[assign tg X.env]:=by rfl):GS X XQ (.Assign [tg] e pos) (sa f g):=by
 have he:=he.h
 have hg:=hg.h
 exact⟨PS.mono (Gly he hg hs hw h1) Hat⟩
theorem Gif(i j:Nat){x:Str}{f:Ev (List D)}{px pt:Pos}{kt k2 pt2}(hc:X.calm=true)(hN:X.N.Nodup)(hi:X.N[i]?=some x)(hj:X.N[j]?=some y)(hij:i≠j)(hx:X.env.scope.names.lookup x=some .local)(hy:X.env.scope.names.lookup y=some .local)(ha:GA X XQ [a,b] f)(hw:swappedStores [.Tuple [.Name x px,.Name y py] kt pt] (.Tuple [a,b] k2 pt2) X.env=pure (some [x,y]))(hs:swapsWithSole [.Tuple [.Name x px,.Name y py] kt pt] (.Tuple [a,b] k2 pt2) pos.line X.env=pure false:=by rfl):GS X XQ (.Assign [.Tuple [.Name x px,.Name y py] kt pt] (.Tuple [a,b] k2 pt2) pos) (spar i j f):=by
 have ha:=ha.h
 refine⟨?_⟩
 refine PS.mono (Gtv hc hN hi hj hij hx hy ha hw hs) fun E σ H zq0=>?_
 obtain⟨mp,ρ,S,G,p⟩:=zq0
 refine bindSP G p fun mp1 H1 ds S1 vs a1 G1 r1 p1=>?_
 split at p1
 ·obtain⟨v,w,rfl,h1,h2⟩:=RepL.two r1
  exact⟨v,w,rfl,PostS.nx p1 ((G1.set i h1).set j h2)⟩
 ·exact p1.elim
theorem Gnm{ob ix e:Expr}{fi:Ev D}(he:GE X XQ e f)(hob:GE X XQ ob fo)(hix:GE X XQ ix fi)(hs:swapsWithSole [.Subscript ob ix p2] e pos.line X.env=pure false:=by rfl)(hw:swappedStores [.Subscript ob ix p2] e X.env=pure none:=by rfl)(h1:(assignEach [.Subscript ob ix p2] X.env).map (·.2)=[assign (.Subscript ob ix p2) X.env]:=by rfl)(ha:∀ v,assign (.Subscript ob ix p2) X.env v=(do
   let ov <- holding [v] (eval ob X.env)
   let iv <- holding [v,ov] (eval ix X.env)
   standAt p2
   holding [v,ov,iv] (setItem ov iv v)
   release [v,ov,iv] []):=by intro _; rfl):GS X XQ (.Assign [.Subscript ob ix p2] e pos) (ss f fo fi Vg):=by
 have he:=he.h
 have hob:=hob.h
 have hix:=hix.h
 exact⟨Gmi Gmb Guw he hob hix hs hw h1 ha⟩
theorem Xy{e:Expr}(he:GE X XQ e f)(hs:swapsWith e none pos.line X.env=pure false:=by rfl):GS X XQ (.Expr e pos) (sx f):=by
 have he:=he.h
 exact⟨PS.mono (Gi5 he hs) fun E σ H ⟨mp,ρ,S,G,p⟩=>bindSP G p fun mp1 H1 d S1 v a1 G1 r1 p1=>PostS.nx p1 G1⟩
theorem Gcc{f:Ev Src}{g:Tg}{b:Sv}(hp:PassesOwn (model X.prog X.w) X.A X.env X.xe)(hc:X.calm=true)(hi:GI X XQ tg iter f)(hg:GG X tg g)(hb:GSs X XQ body b)(hs:∀ x,foldedSetIterable iter X.env x=pure x:=by intro _; rfl):GS X XQ (.For tg iter body [] pos) (sfor f g b):=by
 have hi:=hi.h
 have hg:=hg.h
 have hb:=hb.h
 refine⟨?_⟩
 refine PS.mono (Gtz hp hc hi hg hb hs) fun E σ H zq0=>?_
 obtain⟨mp,ρ,S,G,p⟩:=zq0
 refine bindSP G p fun mp1 H1 s S1 J a1 G1 j1 p1=>?_
 refine⟨fun i m σ' H'=>∃ mp' ρ' S',Aft X.K mp1 H1 mp' H'/\Gd X.K mp' H' σ' ρ' S'/\PostS X.K XQ mp' H' (Ki s.nxt g b m i ρ' S') E,⟨s.fuel,mp1,ρ,S1,.refl,G1,p1⟩,?_⟩
 rintro i m σ' H' ⟨mp',ρ',S',a',G',p'⟩
 cases m with
 | zero=>exact(show False from p').elim
 | succ n=>
  have j:=j1 mp' H' S' a' G'.rs i
  unfold Ki at p'
  cases z:s.nxt i S' with
  | none=>
   rw[z] at j p'
   exact .inl ⟨j,PostS.nx p' G'⟩
  | some d=>
   rw[z] at j p'
   obtain⟨j1,j2⟩:=j
   refine .inr ⟨j1,fun σ2 H2=>∃ mp2 ρ2 S2,Aft X.K mp1 H1 mp2 H2/\Gd X.K mp2 H2 σ2 ρ2 S2/\PostS X.K XQ mp2 H2 (Ki s.nxt g b n (i+1) ρ2 S2) E,fun σ2 H2 q=>⟨n,AJ n,q⟩,fun x H2 y=>?_⟩
   obtain⟨a2,r2,x2⟩:=j2 x H2 y
   have G2:=G'.aft a2 r2
   cases zg:g d ρ' with
   | none=>simp only[zg] at p'; exact p'.elim
   | some ρ1=>
    simp only[zg] at p'
    refine⟨mp',ρ',S',d,ρ1,G2,x2,zg,fun σ3 G3=>⟨mp',ρ1,S',G3,?_⟩⟩
    have p2:=PostS.aft p' a2
    cases zb:b ρ1 S' with
    | nx ρ2 S2=>simp only[zb] at p2; exact fun m h v af G4=>⟨m,ρ2,S2,(a'.trans a2).trans af,G4,PostS.aft p2 af⟩
    | ct ρ2 S2=>simp only[zb] at p2; exact fun m h v af G4=>⟨m,ρ2,S2,(a'.trans a2).trans af,G4,PostS.aft p2 af⟩
    | bk ρ2 S2=>simp only[zb] at p2; exact p2
    | rt d S2=>simp only[zb] at p2; exact p2
    | exc x ρ2 S2=>simp only[zb] at p2; exact p2
    | bad=>simp only[zb] at p2; exact p2
theorem Ggr(fuel:Nat){c:Expr}{b:Sv}(hp:PassesOwn (model X.prog X.w) X.A X.env X.xe)(hc:GT X XQ c fc)(hb:GSs X XQ body b):GS X XQ (.While c body [] pos) (whN fc b fuel):=by
 have hc:=hc.h
 have hb:=hb.h
 refine⟨?_⟩
 refine PS.mono (Glz hp hc hb) fun E σ H zq0=>?_
 obtain⟨mp,ρ,S,G,p⟩:=zq0
 refine⟨fun m σ' H'=>∃ mp' ρ' S',Gd X.K mp' H' σ' ρ' S'/\PostS X.K XQ mp' H' (whN fc b m ρ' S') E,⟨fuel,mp,ρ,S,G,p⟩,?_⟩
 rintro m σ' H' ⟨mp',ρ',S',G',p'⟩
 cases m with
 | zero=>exact(show False from p').elim
 | succ n=>
  refine bindSP G' p' fun mp1 H1 t S1 t' a1 G1 r1 p1=>?_
  cases (show t'=t from r1)
  cases t with
  | false=>exact(if_neg Ap).mpr (PostS.nx (by simpa using p1) G1)
  | true=>
   refine(if_pos rfl).mpr ⟨fun σ2 H2=>∃ mp2 ρ2 S2,Gd X.K mp2 H2 σ2 ρ2 S2/\PostS X.K XQ mp2 H2 (whN fc b n ρ2 S2) E,fun σ2 H2 q=>⟨n,AJ n,q⟩,⟨mp1,ρ',S1,G1,?_⟩⟩
   simp only[if_true] at p1
   cases zb:b ρ' S1 with
   | nx ρ2 S2=>simp only[zb] at p1; exact fun m h v af G4=>⟨m,ρ2,S2,G4,PostS.aft p1 af⟩
   | ct ρ2 S2=>simp only[zb] at p1; exact fun m h v af G4=>⟨m,ρ2,S2,G4,PostS.aft p1 af⟩
   | bk ρ2 S2=>simp only[zb] at p1; exact p1
   | rt d S2=>simp only[zb] at p1; exact p1
   | exc x ρ2 S2=>simp only[zb] at p1; exact p1
   | bad=>simp only[zb] at p1; exact p1
theorem Gv1(i:Nat){x:Str}{e:Expr}(hN:X.N.Nodup)(h:OkL X.env.scope x)(he:GE X XQ e f)(hi:X.N[i]?=some x:=by rfl)(hf:X.fn x=true:=by rfl):GS X XQ (.AugAssign (.Name x pos') .Add e pos) (sag i (fun a b=>a+b) f):=by
 have he:=he.h
 exact⟨PS.mono (Gtw hN hi (okL.loc h.h) he Gtx (.inl hf)) Hax⟩
theorem Ga6:GS X XQ (.Continue pos) sct:=⟨PS.mono Ggc fun E σ H ⟨mp,ρ,S,G,p⟩=>p mp H σ .refl G⟩
theorem gv(i:Nat){x:Str}(h:OkV X.env.scope x)(hN:X.N[i]?=some x:=by rfl):GE X XQ (.Name x pos) (vr i):=⟨Gmg i hN (okV.vis h.h).1 (Gy.of (okV.vis h.h).2).1 (Gy.of (okV.vis h.h).2).2⟩
theorem gvB(i:Nat){s2:Shared}{c:List (Str×Addr)}{x:Str}(h:Gp3 scope x=true)(hN:N'[i]?=some x:=by rfl):GE (blk X s2 H2 C scope c N' fp) XQ (.Name x pos) (vr i):=⟨Gmg i hN (Ge2 h).1 (Gy.of (Ge2 (X:=X) (s2:=s2) (H2:=H2) (C:=C) (c:=c) (N':=N') (fp:=fp) h).2).1 (Gy.of (Ge2 (X:=X) (s2:=s2) (H2:=H2) (C:=C) (c:=c) (N':=N') (fp:=fp) h).2).2⟩
theorem gown{x:Str}{k:Nat}{e:Expr}{t:Ev (List D)}(C:Cal X.prog X.w X.K X.mg X.base x ps fn j)(hr:Room k X.A)(hg:Gl X x)(hp:Gy x=true)(ha:GA X XQ (e::es) t)(hn:ps.length=n:=by rfl)(hj:j<=k:=by decide)(he:starEach (e::es) X.env=(false,eval e X.env)::starEach es X.env:=by rfl)(hpl:(backTo pos (starEach es X.env)).any (·.1)=false:=by rfl):GE X XQ (.Call (.Name x p) (e::es) [] pos) (cl n (Go fn) t):=by
 have ha:=ha.h
 exact⟨Gu7 C hr ha hn hj hg (Gy.of hp).1 he hpl⟩
theorem gcomp{sc:Scope}{pk:List (Option Nat)}{f:Ev Src}{g:Tg}{t:Ev Bool}{e:Ev D}(hsc:X.env.scope=sc)(hNN:X.N=N)(ct:CompTab sc scope N N' pk)(hcm:X.calm=true)(hi:GI X XQ tg iter f)(hg:∀ cl s2 H2 C fp,GG (blk X s2 H2 C scope cl N' fp) tg g)(ht:∀ cl s2 H2 C fp,GTs (blk X s2 H2 C scope cl N' fp) XN ifs t)(he:∀ cl s2 H2 C fp,GE (blk X s2 H2 C scope cl N' fp) XN elt e)(hs:∀ x,foldedSetIterable iter X.env x=pure x:=by intro _; rfl):GE X XQ (.ListComp elt [⟨tg,iter,ifs,0⟩] scope pos) (cmp f pk g t e):=by
 have hi:=hi.h
 have hg:=(fun z0 z1 z2 z3 z4=>(hg z0 z1 z2 z3 z4).h)
 have ht:=(fun z0 z1 z2 z3 z4=>(ht z0 z1 z2 z3 z4).h)
 have he:=(fun z0 z1 z2 z3 z4=>(he z0 z1 z2 z3 z4).h)
 refine⟨?_⟩
 subst hsc hNN
 exact Gpq ct hcm hi hg ht he hs
theorem Vq{Y:Cx}:GTs Y XQ [] ttrue:=⟨fun pins s σ H Q I ⟨mp,ρ,S,G,p⟩=>Gpn pins s σ H Q I (Gi.ok (show Gi Y.K kB XQ σ ρ mp H (.ok true S) Q from p) G.rs rfl)⟩
theorem GW.jt{e:Expr}{f:Ev Bool}(h:GW X XQ e f):GT X XQ e f:=⟨JW.jt h.h⟩
noncomputable def Gqj:Stmt->List Stmt
 | .ClassDef _ _ _ b _ _ _ _ _ _ _=>b
 | _=>[]
section
variable{X:Cx}{XQ:XW}{k:Nat}{x:Str}{p pos:Pos}{e:Expr}{es:List Expr}
theorem Gyx{ys:List Str}{t:Ev (List D)}(xs:XNs X.K ys)(L:XL X XQ)(C:CalX X.prog X.w X.K X.mg X.base x ps fn j)(hr:Room k X.A)(hg:Gl X x)(hp:Gy x=true)(ha:GA X XQ (e::es) t)(hn:ps.length=n:=by rfl)(hj:j<=k:=by decide)(he:starEach (e::es) X.env=(false,eval e X.env)::starEach es X.env:=by rfl)(hpl:(backTo pos (starEach es X.env)).any (·.1)=false:=by rfl):
  GE X XQ (.Call (.Name x p) (e::es) [] pos) (cl n (gX ys fn) t):=by
 have ha:=ha.h
 refine⟨?_⟩
 subst hn
 obtain⟨f,fd,F,hm,hk,hb⟩:=C.ex
 exact Gm7 xs L F hr hj hg hm hk hb ha (Gy.of hp).1 he hpl
theorem Gnn{pos:Pos}{t:Ev (List D)}(L:XL X XQ)(hcm:X.calm=true)(C:ClX X.prog X.w X.K X.mg X.base x j)(hr:Room k X.A)(hg:Gl X x)(hp:Gy x=true)(ha:GA X XQ [a] t)(hj:j+1<=k:=by decide)(he:starEach [a] X.env=(false,eval a X.env)::starEach [] X.env:=by rfl)(hpl:(backTo cpos (starEach [] X.env)).any (·.1)=false:=by rfl):
  GS X XQ (.Raise (some (.Call (.Name x np) [a] [] cpos)) none pos) (srs x t):=by
 have ha:=ha.h
 refine⟨?_⟩
 obtain⟨C,f,fd,ps,oI,hm,hc,kx,hi,lf,hfc,F,hl,hb⟩:=C.ex
 refine PS.mono (Gm3 (W:=fun σ H e=>WX X.K XQ σ C none (del H e)) (fun pins σ H e s' I hH h0 w=>L.own1 pins σ H s' e C none I hH h0 w) hcm hg hm kx hi lf hfc F hl (hr.mono hj) hb ha (Gy.of hp).1 he hpl) fun E σ H zq0=>?_
 obtain⟨mp,ρ,S,G,p⟩:=zq0
 refine bindSP G p fun mp1 H1 ds S1 vs a1 G1 r1 p1=>?_
 split at p1
 ·obtain⟨v,rfl,_⟩:=RepL.one r1
  refine⟨v,rfl,fun e he=>⟨⟨x,none⟩,mp1,ρ,S1,Gp9,hc,?_⟩⟩
  have e1:del (upd H1 e (FX e C none)) e=H1:=by
   funext b
   by_cases c:b=e
   ·rw[c,Qe,he]
   ·rw[Ql c,Gk c]
  rw[e1]
  exact p1 mp1 H1 σ .refl G1
 ·exact p1.elim
theorem Gqk(i:Nat){n:Str}{pos:Pos}{ys:List Str}{fb:Sv}(pl:Plain X)(ct:Cat X.K X.mg c ys)(hg:Gl X c)(hp:Gy c=true)(hN:X.N.Nodup)(hn:OkC X.env.scope n)(hb:∀ (pn:List (Addr×Obj)) (xe:Value->Shared->Prop) (XQ':XW),XL (trb X pn xe) XQ'->GSs (trb X pn xe) XQ' body fb)(hs:∀ a,GSs (hnd X a) XN (b0::suite) fh)(hi:X.N[i]?=some n:=by rfl):
  GS X XQ (.Try body [.ExceptHandler (some (.Name c np)) (some n) (b0::suite) hpos] [] [] pos) (Vi ys (hdl i fh) fb):=⟨Gqd pl ct hg hp hN hi hn.h (fun a b c d=>(hb a b c d).h) fun a=>(hs a).h⟩
theorem Gql{pos:Pos}{ys:List Str}{fb:Sv}(pl:Plain X)(ct:Cat X.K X.mg c ys)(hg:Gl X c)(hp:Gy c=true)(hb:∀ (pn:List (Addr×Obj)) (xe:Value->Shared->Prop) (XQ':XW),XL (trb X pn xe) XQ'->GSs (trb X pn xe) XQ' body fb)(hs:∀ a,GSs (hnd X a) XN (b0::suite) fh):
  GS X XQ (.Try body [.ExceptHandler (some (.Name c np)) none (b0::suite) hpos] [] [] pos) (Vi ys (Gqc fh) fb):=⟨Gqe pl ct hg hp (fun a b c d=>(hb a b c d).h) fun a=>(hs a).h⟩
end
structure FH(K:PySem.W.Frag)(x:Str)(st:Stmt):Prop where
 ex:∃ (f:Addr) (oc:Value) (od an:Option Addr) (osl:Array (Option Value)) (kV doc pm cdv ct:Value),PySem.W.nsIn K mainGlobals x=some (some (.ref f))/\K.lookup f=some ⟨oc,od,.func (PySem.W.fnOf x x (Hl st) (Gv st) (Gb st) .none kV doc pm an cdv ct),osl⟩/\PySem.W.codeIn K cdv x=true/\PySem.W.keepIn K (.ref f)=true
section
variable{K:PySem.W.Frag}{mg:Str->Option Value}
theorem Gyy{x:Str}{f:Addr}{oc:Value}{an:Option Addr}{kV:Value}(a:PySem.W.nsIn K mainGlobals x=some (some (.ref f)))(l:K.lookup f=some ⟨oc,od,.func (PySem.W.fnOf x x (Hl st) (Gv st) (Gb st) .none kV doc pm an cdv ct),osl⟩)(c:PySem.W.codeIn K cdv x=true)(k:PySem.W.keepIn K (.ref f)=true):FH K x st:=⟨f,oc,od,an,osl,kV,doc,pm,cdv,ct,a,l,c,k⟩
theorem FH.dn{x:Str}(F:FH K x st)(X:K.In h)(G:h.Ns mainGlobals mg)(hb:∀ (kV doc pm:Value) (an:Option Addr) (cdv ct:Value) (us:List Value),us.length=ps.length->bindArgs (PySem.W.fnOf x x (Hl st) (Gv st) (Gb st) .none kV doc pm an cdv ct) ⟨us,[]⟩=pure (ps.zip us)):Dn K mg x st ps:=by
 obtain⟨f,oc,od,an,osl,kV,doc,pm,cdv,ct,a,l,c,k⟩:=F.ex
 exact Gyh X G a l c k hb
theorem FH.fv{x:Str}(F:FH K x st)(X:K.In h)(G:h.Ns mainGlobals mg):FvT K mg x:=by
 obtain⟨f,oc,od,an,osl,kV,doc,pm,cdv,ct,a,l,c,k⟩:=F.ex
 exact⟨f,a,PySem.W.mg_of X G a⟩
end
section
variable{K:PySem.W.Frag}{h:Heap}{mg:Str->Option Value}{x:Str}
theorem Gqm{i:Int}{t:Tok}(X:K.In h)(G:h.Ns mainGlobals mg)(a:PySem.W.nsIn K mainGlobals x=some (some (.int i t))):∃ u v,mg x=some u/\Gz v u/\∀ mp H,Rep K mp H (.int i) v:=
 ⟨_,.int i,PySem.W.mg_of X G a,⟨t,rfl⟩,fun _ _=>rfl⟩
theorem Gqn{t:Tok}(X:K.In h)(G:h.Ns mainGlobals mg)(a:PySem.W.nsIn K mainGlobals x=some (some (.str y t))):∃ u v,mg x=some u/\Gz v u/\∀ mp H,Rep K mp H (.str y) v:=
 ⟨_,.str y,PySem.W.mg_of X G a,⟨t,rfl⟩,fun _ _=>rfl⟩
theorem Gno{p:Addr}{t:Tok}{sl:Array (Option Value)}(X:K.In h)(G:h.Ns mainGlobals mg)(a:PySem.W.nsIn K mainGlobals x=some (some (.ref p)))(l:K.lookup p=some { cls:=.type "tuple",dict:=none,data:=.seq #[.str y t] n,slots:=sl }):
  ∃ u v,mg x=some u/\Gz v u/\∀ mp H,Rep K mp H (.tup [.str y]) v:=
 ⟨_,.ref p,PySem.W.mg_of X G a,rfl,fun _ _=>⟨p,[.str y],rfl,.inr ⟨_,_,n,l,rfl,rfl,by rw[sizeLine_eq]; simp,.cons ⟨t,rfl⟩ .nil⟩,RepL.cons rfl RepL.nil⟩⟩
end
structure FnS(N P:List Str)(sc:Scope):Prop where
 s:FnScope N P sc
 v:N.all (okV sc)=true
 l:N.all (okL sc)=true
theorem kdF{P:List Str}{s:Scope}(a:s.kind=.function:=by rfl)(b:s.isCoroutine=false:=by rfl)(c:s.isGenerator=false:=by rfl)(d:N.Nodup:=by decide +kernel)(e:N.take P.length=P:=by rfl)(f:∀ x∈P,s.names.lookup x=some .local\/s.names.lookup x=some .cell:=by decide +kernel)(g:∀ y∈s.names,y.2≠.free:=by decide +kernel)(v:N.all (okV s)=true:=by decide +kernel)(l:N.all (okL s)=true:=by decide +kernel):FnS N P s:=⟨⟨a,b,c,d,e,f,g⟩,v,l⟩
theorem FnS.nd{P:List Str}{sc:Scope}(S:FnS N P sc):N.Nodup:=S.s.nd
theorem Gnp{i:Nat}{x:Str}(h:N[i]?=some x):x∈N:=Ai h
theorem FnS.ov{P:List Str}{sc:Scope}{i:Nat}{x:Str}(S:FnS N P sc)(h:N[i]?=some x):OkV sc x:=⟨AK.mp S.v x (Gnp h)⟩
theorem FnS.ol{P:List Str}{sc:Scope}{i:Nat}{x:Str}(S:FnS N P sc)(h:N[i]?=some x):OkL sc x:=⟨AK.mp S.l x (Gnp h)⟩
theorem kdC{sc:Scope}{pk:List (Option Nat)}(a:scope.kind=.function:=by rfl)(b:∀ y∈scope.names,y.2=.cell->scope.names.lookup y.1=some .cell:=by decide +kernel)(c:∀ y∈scope.names,y.2=.local->scope.names.lookup y.1=some .local:=by decide +kernel)(d:∀ y∈scope.names,y.2=.free->sc.names.lookup y.1=some .cell\/sc.names.lookup y.1=some .free:=by decide +kernel)(e:pk.length=N'.length:=by rfl)(f:((List.range N'.length).all fun i=>match pk[i]? with
  | some (some j)=>match N[j]?,N'[i]? with
   | some x,some y=>(x==y)&&((sc.names.lookup y==some NameKind.cell)||(sc.names.lookup y==some NameKind.free))&&(scope.names.lookup y==some NameKind.free)
   | _,_=>false
  | _=>true)=true:=by decide +kernel):CompTab sc scope N N' pk:=⟨a,b,c,d,e,f⟩
section
variable{X:Cx}{XQ:XW}{k:Nat}{x:Str}{p pos:Pos}{e:Expr}{es:List Expr}{P:List Str}{f:Ev D}
theorem gw(i:Nat)(S:FnS X.N P X.env.scope)(hN:X.N[i]?=some x:=by rfl):GE X XQ (.Name x pos) (vr i):=gv i (S.ov hN) hN
theorem gG(s:Scope)(h:okG s x=true:=by decide +kernel)(hs:X.env.scope=s:=by rfl):Gl X x:=gl ⟨hs▸h⟩
theorem ggw(i:Nat)(S:FnS X.N P X.env.scope)(hi:X.N[i]?=some x:=by rfl)(hf:X.fn x=true:=by rfl):GG X (.Name x pos) (gn i):=ggn i S.nd (S.ol hi) hi hf
theorem gsew(i:Nat)(S:FnS X.N P X.env.scope)(he:GE X XQ e f)(hi:X.N[i]?=some x:=by rfl)(hs:swapsWith e (some (.Name x pos')) pos.line X.env=pure false:=by rfl)(hf:X.fn x=true:=by rfl):
  GS X XQ (.Assign [.Name x pos'] e pos) (sa f (gn i)):=gset i S.nd (S.ol hi) he hi hs hf
theorem gsiw(i:Nat)(S:FnS X.N P X.env.scope)(he:GE X XQ e f)(hi:X.N[i]?=some x:=by rfl)(hf:X.fn x=true:=by rfl):GS X XQ (.AugAssign (.Name x pos') .Add e pos) (sag i (fun a b=>a+b) f):=Gv1 i S.nd (S.ol hi) he hi hf
theorem gow{t:Ev (List D)}(s:Scope)(C:Cal X.prog X.w X.K X.mg X.base x ps fn j)(hr:Room k X.A)(ha:GA X XQ (e::es) t)(hg:okG s x=true:=by decide +kernel)(hn:ps.length=n:=by rfl)(hj:j<=k:=by decide)(hs:X.env.scope=s:=by rfl)(he:starEach (e::es) X.env=(false,eval e X.env)::starEach es X.env:=by rfl)(hpl:(backTo pos (starEach es X.env)).any (·.1)=false:=by rfl):
  GE X XQ (.Call (.Name x p) (e::es) [] pos) (cl n (Go fn) t):=gown C hr (gG s hg hs) (okG.gl hg).2 ha hn hj he hpl
theorem Ggs{ys:List Str}{t:Ev (List D)}(s:Scope)(xs:XNs X.K ys)(L:XL X XQ)(C:CalX X.prog X.w X.K X.mg X.base x ps fn j)(hr:Room k X.A)(ha:GA X XQ (e::es) t)(hg:okG s x=true:=by decide +kernel)(hn:ps.length=n:=by rfl)(hj:j<=k:=by decide)(hs:X.env.scope=s:=by rfl)(he:starEach (e::es) X.env=(false,eval e X.env)::starEach es X.env:=by rfl)(hpl:(backTo pos (starEach es X.env)).any (·.1)=false:=by rfl):
  GE X XQ (.Call (.Name x p) (e::es) [] pos) (cl n (gX ys fn) t):=Gyx xs L C hr (gG s hg hs) (okG.gl hg).2 ha hn hj he hpl
theorem Gyz(i:Nat){ys:List Str}{t:Ev (List D)}(S:FnS X.N P X.env.scope)(xs:XNs X.K ys)(L:XL X XQ)(C:CalX X.prog X.w X.K X.mg X.base x ps fn j)(hr:Room k X.A)(ha:GA X XQ (e::es) t)(hj:j<=k:=by decide)(hN:X.N[i]?=some y:=by rfl)(he:starEach (e::es) X.env=(false,eval e X.env)::starEach es X.env:=by rfl)(hpl:(backTo pos (starEach es X.env)).any (·.1)=false:=by rfl):GE X XQ (.Call (.Name y p) (e::es) [] pos) (clv i x ps.length (gX ys fn) t):=Gnf i xs L C hr hj hN (okV.vis (S.ov hN).h).1 (okV.vis (S.ov hN).h).2 ha he hpl
theorem Ggt{t:Ev (List D)}(s:Scope)(L:XL X XQ)(C:ClX X.prog X.w X.K X.mg X.base x j)(hr:Room k X.A)(ha:GA X XQ [a] t)(hg:okG s x=true:=by decide +kernel)(hcm:X.calm=true:=by rfl)(hj:j+1<=k:=by decide)(hs:X.env.scope=s:=by rfl)(he:starEach [a] X.env=(false,eval a X.env)::starEach [] X.env:=by rfl)(hpl:(backTo cpos (starEach [] X.env)).any (·.1)=false:=by rfl):
  GS X XQ (.Raise (some (.Call (.Name x np) [a] [] cpos)) none pos) (srs x t):=Gnn L hcm C hr (gG s hg hs) (okG.gl hg).2 ha hj he hpl
theorem Qn{ys:List Str}(s:Scope)(k:Isx X.K X.mg x ys sub)(hm:X.mg "isinstance"=none)(he:GE X XQ e f)(hg:okG s "isinstance"=true:=by decide +kernel)(hg2:okG s x=true:=by decide +kernel)(h0:X.env.scope=s:=by rfl)(hs:starEach [e,.Name x p2] X.env=(false,eval e X.env)::starEach [.Name x p2] X.env:=by rfl)(hpl:(backTo pos (starEach [.Name x p2] X.env)).any (·.1)=false:=by rfl)(hs2:starEach [.Name x p2] X.env=(false,eval (.Name x p2) X.env)::starEach [] X.env:=by rfl):GE X XQ (.Call (.Name "isinstance" p) [e,.Name x p2] [] pos) (o1 (Jz ys sub) f):=Gvs k (gG s hg h0) hm (gG s hg2 h0) (okG.gl hg2).2 he hs hpl hs2
theorem Gv2{ys:List Str}(s:Scope)(k:IsxB X.K T ys sub)(hm:X.mg "isinstance"=none)(hmt:X.mg x=none)(he:GE X XQ e f)(hv:bootBuiltins x=some (.type T):=by rfl)(hnx:x≠"__name__":=by decide +kernel)(hg:okG s "isinstance"=true:=by decide +kernel)(hg2:okG s x=true:=by decide +kernel)(h0:X.env.scope=s:=by rfl)(hs:starEach [e,.Name x p2] X.env=(false,eval e X.env)::starEach [.Name x p2] X.env:=by rfl)(hpl:(backTo pos (starEach [.Name x p2] X.env)).any (·.1)=false:=by rfl)(hs2:starEach [.Name x p2] X.env=(false,eval (.Name x p2) X.env)::starEach [] X.env:=by rfl):GE X XQ (.Call (.Name "isinstance" p) [e,.Name x p2] [] pos) (o1 (Jz ys sub) f):=Gqf k hv hnx (gG s hg h0) hm (gG s hg2 h0) hmt (okG.gl hg2).2 he hs hpl hs2
theorem Yv(g1:Gl X "isinstance")(g2:Gl X x)(k:Kit X.K T)(hm:X.mg "isinstance"=none)(hmt:X.mg x=none)(he:GE X XQ e f)(hv:bootBuiltins x=some (.type T):=by rfl)(hnx:x≠"__name__":=by decide +kernel)(hdx:(x==("__debug__":Str))=false:=by decide +kernel)(hs:starEach [e,.Name x p2] X.env=(false,eval e X.env)::starEach [.Name x p2] X.env:=by rfl)(hpl:(backTo pos (starEach [.Name x p2] X.env)).any (·.1)=false:=by rfl)(hs2:starEach [.Name x p2] X.env=(false,eval (.Name x p2) X.env)::starEach [] X.env:=by rfl):GE X XQ (.Call (.Name "isinstance" p) [e,.Name x p2] [] pos) (o1 (isD T) f):=Gvx k hv hnx hdx g1 hm g2 hmt he hs hpl hs2
theorem Gy0{sc:Scope}{pk:List (Option Nat)}{f:Ev Src}{g:Tg}{t:Ev Bool}{e:Ev D}(S:FnS N P sc)(hi:GI X XQ tg iter f)(hg:∀ cl s2 H2 C fp,GG (blk X s2 H2 C scope cl N' fp) tg g)(ht:∀ cl s2 H2 C fp,GTs (blk X s2 H2 C scope cl N' fp) XN ifs t)(he:∀ cl s2 H2 C fp,GE (blk X s2 H2 C scope cl N' fp) XN elt e)(ct:CompTab sc scope N N' pk:=by exact kdC)(hsc:X.env.scope=sc:=by rfl)(hNN:X.N=N:=by rfl)(hcm:X.calm=true:=by rfl)(hs:∀ x,foldedSetIterable iter X.env x=pure x:=by intro _; rfl):GE X XQ (.ListComp elt [⟨tg,iter,ifs,0⟩] scope pos) (cmp f pk g t e):=gcomp hsc hNN ct hcm hi hg ht he hs
theorem Gd6(i:Nat){sc:Scope}{spos:Pos}{pk:List (Option Nat)}{f:Ev Src}{g:Tg}{t:Ev Bool}{e:Ev D}(S:FnS N P sc)(hi:GI X XQ tg iter f)(hg:∀ cl s2 H2 C fp,GG (blk X s2 H2 C scope cl N' fp) tg g)(ht:∀ cl s2 H2 C fp,GTs (blk X s2 H2 C scope cl N' fp) XN ifs t)(he:∀ cl s2 H2 C fp,GE (blk X s2 H2 C scope cl N' fp) XN elt e)(ct:CompTab sc scope N N' pk:=by exact kdC)(hsc:X.env.scope=sc:=by rfl)(hNN:X.N=N:=by rfl)(hcm:X.calm=true:=by rfl)(hsw:swapsWith (.ListComp elt [⟨tg,iter,ifs,0⟩] scope pos) (some (.Name y py)) spos.line X.env=pure true:=by rfl)(hy:N[i]?=some y:=by rfl)(hs:∀ x,foldedSetIterable iter X.env x=pure x:=by intro _; rfl)(hf:X.fn y=true:=by rfl):GS X XQ (.Assign [.Name y py] (.ListComp elt [⟨tg,iter,ifs,0⟩] scope pos) spos) (sa (cmp f pk g t e) (gn i)):=
 Gnl i hsc hNN ct hcm hi hg ht he (hNN▸S.nd) (hsc▸S.ol hy) hsw (hNN▸hy) hs hf
section
variable{s2:Shared}{H2:Hp}{C:Addr}{scope:Scope}{c:List (Str×Addr)}{N':List Str}{fp:List Addr}
theorem Ga7(i:Nat)(h:Gp3 scope x=true:=by decide +kernel)(hN:N'[i]?=some x:=by rfl):GE (blk X s2 H2 C scope c N' fp) XQ (.Name x pos) (vr i):=gvB i h hN
theorem Gy1(h:okG scope x=true:=by decide +kernel):Gl (blk X s2 H2 C scope c N' fp) x:=glB h
theorem Gcd(i:Nat)(h:Gu8 scope x=true:=by decide +kernel)(hN:N'.Nodup:=by decide +kernel)(hi:N'[i]?=some x:=by rfl):GG (blk X s2 H2 C scope c N' fp) (.Name x pos) (gn i):=Ha2 i hN h hi
theorem Gy2{t:Ev (List D)}(Q:Cal X.prog X.w X.K X.mg X.base x ps fn j)(hr:Room k X.A)(ha:GA (blk X s2 H2 C scope c N' fp) XQ (e::es) t)(hg:okG scope x=true:=by decide +kernel)(hn:ps.length=n:=by rfl)(hj:j<=k:=by decide)(he:starEach (e::es) (blk X s2 H2 C scope c N' fp).env=(false,eval e (blk X s2 H2 C scope c N' fp).env)::starEach es (blk X s2 H2 C scope c N' fp).env:=by rfl)(hpl:(backTo pos (starEach es (blk X s2 H2 C scope c N' fp).env)).any (·.1)=false:=by rfl):
  GE (blk X s2 H2 C scope c N' fp) XQ (.Call (.Name x p) (e::es) [] pos) (cl n (Go fn) t):=gown (X:=blk X s2 H2 C scope c N' fp) Q hr (glB hg) (okG.gl hg).2 ha hn hj he hpl
end
end
theorem usS{Q:List Value->Prop}(h:∀ a us,us.length=n->Q (a::us))(us:List Value)(e:us.length=n+1):Q us:=by
 cases us with
 | nil=>cases e
 | cons a us=>exact h a us (Nat.succ.inj e)
theorem us0{Q:List Value->Prop}(h:Q [])(us:List Value)(e:us.length=0):Q us:=List.eq_nil_of_length_eq_zero e▸h
section
variable{P:Program}{w:World}{K:PySem.W.Frag}{mg:Str->Option Value}{base:Heap}{x:Str}{st:Stmt}{ps N:List Str}{fn:Fn}
noncomputable abbrev GH(K:PySem.W.Frag)(mg:Str->Option Value):Prop:=∃ h:Heap,K.In h/\h.Ns mainGlobals mg
theorem calw{b:Sv}(k:Nat)(F:FH K x st)(g:GH K mg)(S:FnS N ps (Gb st))(hfn:fn=fnB N.length b)
  (hb:∀ (f:Addr) (cdv:Value) (A:Around) (outer:List PySem.Env) (s:Shared) (H:Hp) (E:XK),Room k (A.deeper (envOfC x (Gb st) s.heap.objs.size f cdv))→
   JSs (Ku CX0 P w K mg base N x (Gb st) f cdv A outer s H E).nox XN (Gv st) b)
  (ha:∀ (kV doc pm:Value) (an:Option Addr) (cdv ct:Value) (us:List Value),us.length=ps.length->bindArgs (PySem.W.fnOf x x (Hl st) (Gv st) (Gb st) .none kV doc pm an cdv ct) ⟨us,[]⟩=pure (ps.zip us):=by(intro _ _ _ _ _ _; (repeat refine DL.usS fun _=>?_); exact DL.us0 rfl)):Cal P w K mg base x ps fn (k+1):=
 let ⟨_,X,G⟩:=g; Gu6 N k b hfn (F.dn X G ha) S.s hb
theorem calxw{b:Sv}(k:Nat)(F:FH K x st)(g:GH K mg)(S:FnS N ps (Gb st))(hfn:fn=fnB N.length b)
  (hb:∀ (f:Addr) (cdv:Value) (A:Around) (outer:List PySem.Env) (s:Shared) (H:Hp) (E:XK) (XQ:XW),Room k (A.deeper (envOfC x (Gb st) s.heap.objs.size f cdv))->XL (Ku (CXe P w) P w K mg base N x (Gb st) f cdv A outer s H E) XQ→
   JSs (Ku (CXe P w) P w K mg base N x (Gb st) f cdv A outer s H E) XQ (Gv st) b)
  (ha:∀ (kV doc pm:Value) (an:Option Addr) (cdv ct:Value) (us:List Value),us.length=ps.length->bindArgs (PySem.W.fnOf x x (Hl st) (Gv st) (Gb st) .none kV doc pm an cdv ct) ⟨us,[]⟩=pure (ps.zip us):=by(intro _ _ _ _ _ _; (repeat refine DL.usS fun _=>?_); exact DL.us0 rfl)):CalX P w K mg base x ps fn (k+1):=
 let ⟨_,X,G⟩:=g; Gqa N k b hfn (F.dn X G ha) S.s hb
theorem FH.fnx{f:Addr}(F:FH K x st)(X:K.In h)(G:h.Ns mainGlobals mg)(hm:mg x=some (.ref f)):∃ od an osl kV doc pm cdv ct,∃ oc:Value,PySem.W.keepIn K (.ref f)=true/\PySem.W.codeIn K cdv x=true/\K.lookup f=some ⟨oc,od,.func (PySem.W.fnOf x x (Hl st) (Gv st) (Gb st) .none kV doc pm an cdv ct),osl⟩:=by
 obtain⟨f',oc,od,an,osl,kV,doc,pm,cdv,ct,a,l,c,k⟩:=F.ex
 have e:=hm.symm.trans (PySem.W.mg_of X G a)
 cases e
 exact⟨od,an,osl,kV,doc,pm,cdv,ct,oc,k,c,l⟩
end
section
variable{X:Cx}{XQ:XW}
noncomputable def mt0(o:D->List D->Sto->Out D)(fo:Ev D):Ev D:=fun ρ S=>(fo ρ S).bind fun x S1=>if isLst x S1=true then o x [] S1 else .bad
@[simp] theorem Ha3{o:D->List D->Sto->Out D}:mt0 o fo ρ S=(fo ρ S).bind fun x S1=>if isLst x S1=true then o x [] S1 else .bad:=id rfl
end
inductive DP:List (Option Expr)->List Expr->List (Str×D)->Prop
 | nil:DP [] [] []
 | i {k:Str} {i:Int} {j j' p p'} {ks vs l}:DP ks vs l->DP (some (.Constant (.str k) j p)::ks) (.Constant (.int i) j' p'::vs) ((k,.int i)::l)
 | s {k x:Str} {j j' p p'} {ks vs l}:DP ks vs l->DP (some (.Constant (.str k) j p)::ks) (.Constant (.str x) j' p'::vs) ((k,.str x)::l)
noncomputable def dsub(l:List (Str×D))(fb:Ev D):Ev D:=fun ρ S=>(fb ρ S).bind fun y S1=>match y with
 | .str k=>match l.lookup k with
  | some (.int i)=>.ok (.int i) S1
  | some (.str x)=>.ok (.str x) S1
  | _=>.bad
 | _=>.bad
@[simp] theorem Gz8{l:List (Str×D)}:dsub l fb ρ S=(fb ρ S).bind fun y S1=>match y with
 | .str k=>match l.lookup k with
  | some (.int i)=>.ok (.int i) S1
  | some (.str x)=>.ok (.str x) S1
  | _=>.bad
 | _=>.bad:=id rfl
inductive Nms(mg:Str->Option Value):List Str->List Addr->Prop
 | nil:Nms mg [] []
 | cons {x:Str} {c:Addr} {xs:List Str} {cs:List Addr} (h:mg x=some (.ref c)) (t:Nms mg xs cs):Nms mg (x::xs) (c::cs)
structure IsT(K:PySem.W.Frag)(mg:Str->Option Value)(xs ys:List Str):Prop where
 ex:∃ cs,Nms mg xs cs/\∀ y∈ys,∃ C,CN K y C/\PySem.W.kitAny K (.ref C) (cs.map Value.ref)=some (decide (y∈xs))
inductive GNs(X:Cx)(s:Scope):List Expr->List Str->Prop
 | nil:GNs X s [] []
 | cons {x:Str} {p:Pos} {es:List Expr} {xs:List Str} (t:GNs X s es xs) (hg:okG s x=true:=by decide +kernel) (hs:starEach (.Name x p::es) X.env=(false,eval (.Name x p) X.env)::starEach es X.env:=by rfl):GNs X s (.Name x p::es) (x::xs)
section
variable{X:Cx}{XQ:XW}
variable{a b:Expr}{fa fb:Ev D}{pos:Pos}
end
section
variable{X:Cx}{pins:List (Addr×Obj)}{σ:L2.St}{H:Hp}{s:Shared}{mp:List Addr}
mutual
theorem Ggu(I:Inv X pins σ H s):∀ (d:D) (v:V) (u:Value) (κ:NK),Rep X.K mp H d v->Gz v u->nkO d=some κ->∃ as,Reads s.heap u (pk κ) as
 | .int i,v,u,κ,h,r,e=>by
  cases (show v=.int i from h); obtain⟨t,rfl⟩:=(show ∃ t,u=Value.int i t from r)
  simp only[nkO,Option.some.injEq] at e
  subst e
  simp only[pk]
  exact⟨_,.int i t⟩
 | .tup l,v,u,κ,h,r,e=>by
  obtain⟨a,xs,rfl,sq,q⟩:=Rep.tup h
  cases (show u=Value.ref a from r)
  obtain⟨its,rv,⟨o,ho,hc,k,hd⟩,_⟩:=I.tuple sq
  simp only[nkO] at e
  obtain⟨ks,e1,rfl⟩:=Option.map_eq_some_iff.mp e
  obtain⟨as,ra⟩:=readsL_nk I l xs its ks q rv e1
  simp only[pk]
  exact⟨as,.tuple ho hc hd (by simpa using ra)⟩
 | .non,_,_,_,_,_,e=>by simp[nkO] at e
 | .bl _,_,_,_,_,_,e=>by simp[nkO] at e
 | .str _,_,_,_,_,_,e=>by simp[nkO] at e
 | .lst _,_,_,_,_,_,e=>by simp[nkO] at e
 | .exn _ _,_,_,_,_,_,e=>by simp[nkO] at e
 | .fv _,_,_,_,_,_,e=>by simp[nkO] at e
 | .dct _,_,_,_,_,_,e=>by simp[nkO] at e
theorem readsL_nk(I:Inv X pins σ H s):∀ (l:List D) (vs:List V) (us:List Value) (ks:List NK),RepL X.K mp H l vs->Vals vs us->nkOs l=some ks->∃ as,ReadsAll s.heap us (pks ks) as
 | [],vs,us,ks,h,r,e=>by
  cases (show vs=[] from h); cases r
  simp only[nkOs,Option.some.injEq] at e
  subst e
  simp only[pks]
  exact⟨_,.nil⟩
 | d::l,vs,us,ks,h,r,e=>by
  obtain⟨v,vr,rfl,h1,h2⟩:=(show ∃ v r,vs=v::r/\Rep X.K mp H d v/\RepL X.K mp H l r from h)
  cases r with
  | cons r1 r2=>
   simp only[nkOs] at e
   obtain⟨k,e1,e2⟩:=Option.bind_eq_some_iff.mp e
   obtain⟨q,e3,rfl⟩:=Option.map_eq_some_iff.mp e2
   obtain⟨as,ra⟩:=Ggu I d v _ k h1 r1 e1
   obtain⟨bs,rb⟩:=readsL_nk I l vr _ q h2 r2 e3
   simp only[pks]
   exact⟨_,.cons ra rb⟩
end
end
noncomputable abbrev KVs:=List (NK×Addr×V)
noncomputable def Gce(kvs:KVs)(κ:NK):Option V:=(kvs.find? fun q=>decide (q.1=κ)).map (·.2.2)
noncomputable def Ggv(kvs:KVs)(κ:NK)(b:Addr)(v:V):KVs:=if(Gce kvs κ).isSome then kvs.map (fun q=>if q.1=κ then(q.1,q.2.1,v) else q) else kvs++[(κ,b,v)]
noncomputable def KT:KVs->List (NK×Addr×Value)->Prop:=Paired fun p q=>p.1=q.1/\p.2.1=q.2.1/\Gz p.2.2 q.2.2
theorem Ggw{q:NK×Addr×V}{r:KVs}{κ:NK}(e:q.1=κ):Gce (q::r) κ=some q.2.2:=by simp[Gce,Bu,e]
theorem Ggx{q:NK×Addr×V}{r:KVs}{κ:NK}(e:¬ q.1=κ):Gce (q::r) κ=Gce r κ:=by simp[Gce,Bu,e]
theorem KT.val{kvs:KVs}{xs:List (NK×Addr×Value)}(r:KT kvs xs)(k:NK):Go0 (Gce kvs k) ((atKey xs k).map (·.2)):=by
 unfold KT at r
 induction r with
 | nil=>exact True.intro
 | @cons p q ps qs h t ih=>
  obtain⟨h1,_,h2⟩:=h
  by_cases e:p.1=k
  ·have e':q.1=k:=h1.symm.trans e
   have b:atKey (q::qs) k=some q.2:=by simp[atKey,Bu,e']
   rw[Ggw e,b]; exact h2
  ·have e':¬ q.1=k:=fun z=>e (h1.trans z)
   have b:atKey (q::qs) k=atKey qs k:=by simp[atKey,Bu,e']
   rw[Ggx e,b]; exact ih
theorem Gd7{v:Option V}{o:Option Value}(r:Go0 v o):v.isSome=o.isSome:=by
 cases v<;>cases o<;>first | rfl | exact r.elim
theorem KT.repl{kvs:KVs}{xs:List (NK×Addr×Value)}(r:KT kvs xs)(k:NK){y:V}{u:Value}(ry:Gz y u):KT (kvs.map fun q=>if q.1=k then(q.1,q.2.1,y) else q) (xs.map (putAt k u)):=by
 unfold KT at r ⊢
 induction r with
 | nil=>exact .nil
 | @cons p q ps qs h t ih=>
  rw[Au,Au]
  refine .cons ?_ ih
  obtain⟨h1,h2,h3⟩:=h
  unfold putAt
  by_cases e:p.1=k
  ·rw[if_pos e,if_pos (h1.symm.trans e)]; exact⟨h1,h2,ry⟩
  ·rw[if_neg e,if_neg (fun z=>e (h1.trans z))]; exact⟨h1,h2,h3⟩
theorem Wv{α β:Type}{F:α->β->Prop}:∀ {l:List α} {m:List β} {a:α} {b:β},Paired F l m->F a b->Paired F (l++[a]) (m++[b])
 | _,_,_,_,.nil,h=>.cons h .nil
 | _,_,_,_,.cons r t,h=>.cons r (Wv t h)
theorem KT.put{kvs:KVs}{xs:List (NK×Addr×Value)}(r:KT kvs xs)(k:NK){b:Addr}{y:V}{u:Value}(ry:Gz y u):KT (Ggv kvs k b y) (storedH xs k b u):=by
 have e:(Gce kvs k).isSome=(atKey xs k).isSome:=by rw[Gd7 (r.val k),Option.isSome_map]
 unfold Ggv storedH
 rw[e]
 by_cases q:(atKey xs k).isSome=true
 ·rw[if_pos q,if_pos q]; exact r.repl k ry
 ·rw[if_neg q,if_neg q]; exact Wv r ⟨rfl,rfl,ry⟩
theorem Ggy(kvs:KVs)(κ:NK)(b:Addr)(v:V):(Ggv kvs κ b v).length<=kvs.length+1:=by
 unfold Ggv
 split<;>simp
noncomputable def Ggz(K:PySem.W.Frag)(H:Hp)(κ:NK)(b:Addr):Prop:=(pk κ).depth<=8/\∃ mp k,nkO k=some κ/\Rep K mp H k (.ref b)
section
variable{X:Cx}{XQ:XW}{pins:List (Addr×Obj)}{σ:L2.St}{H:Hp}{s:Shared}
theorem Ggz.is{κ:NK}{b:Addr}(I:Inv X pins σ H s)(k:Ggz X.K H κ b):(nestKind X.prog X.w).is s.heap κ b:=by
 obtain⟨d,mp,k,e,r⟩:=k
 exact⟨Ggu I k _ _ κ r rfl e,d⟩
theorem Yw{α β:Type}{F:α->β->Prop}:∀ {l:List α} {m:List β} {b:β},Paired F l m->b∈m->∃ a∈l,F a b
 | _,_,_,.nil,h=>by simp at h
 | _,_,_,.cons r t,h=>by
  rcases Ad.mp h with rfl | h
  ·exact⟨_,Aq,r⟩
  ·obtain⟨a,h1,h2⟩:=Yw t h
   exact⟨a,An _ h1,h2⟩
theorem Gy3{a:Addr}{kvs:KVs}(I:Inv X pins σ H s)(e:Rd H a (.dT kvs))(ks:∀ q∈kvs,Ggz X.K H q.1 q.2.1):kvs.length<=sizeLine/\(a==sysModules)=false/\∃ xs,KT kvs xs/\s.heap.DictOfH (nestKind X.prog X.w) a xs:=by
 obtain⟨z,y,xs,r,o,es,ep,h1,h2,h3,h4,h5⟩:=(e.ok I.hok:Jj X.prog X.w H s.heap a (.dT kvs))
 refine⟨z,y,xs,r,o,es,ep,h1,h2,h3,h4,fun x hx=>?_,h5⟩
 obtain⟨q,hq,e1,e2,_⟩:=Yw r hx
 rw[<- e1,<- e2]
 exact(ks q hq).is I
noncomputable def TD(K:PySem.W.Frag)(H:Hp)(a:Addr)(kvs:KVs):Prop:=(Rd H a (.dT kvs)/\∀ q∈kvs,Ggz K H q.1 q.2.1)\/(kvs=[]/\Rd H a (.dK []))
theorem TD.rd{a:Addr}{kvs:KVs}(d:TD X.K H a kvs)(I:Inv X pins σ H s):kvs.length<=sizeLine/\(a==sysModules)=false/\∃ xs,KT kvs xs/\s.heap.DictOfH (nestKind X.prog X.w) a xs:=by
 rcases d with⟨e,ks⟩ | ⟨rfl,e⟩
 ·exact Gy3 I e ks
 ·obtain⟨z,y,vs,r,o,es,ep,h1,h2,h3,h4,h5,h6⟩:=(e.ok I.hok:Jj X.prog X.w H s.heap a (.dK []))
  cases r
  cases es':es.toList with
  | nil=>exact⟨AC _,y,[],.nil,o,es,ep,h1,h2,h3,es',fun x hx=>by simp at hx,List.nodup_nil⟩
  | cons q r=>rw[es'] at h5; cases h5
noncomputable def Gjn(K:PySem.W.Frag):Gku:=fun o i v H Q=>∃ a b κ kvs,o=.ref a/\i=.ref b/\TD K H a kvs/\Mut (H a)/\Ggz K H κ b/\kvs.length<sizeLine/\Q (upd H a (.dT (Ggv kvs κ b v)))
theorem Gnq(hu:X.A.units+20<cLine):Go4 X (Gjn X.K):=by
 intro pins s σ H o i v ov iv u Q I ro ri rv h
 obtain⟨a,b,κ,kvs,rfl,rfl,ea,mu,kb,hl,q⟩:=h
 cases (show ov=Value.ref a from ro)
 cases (show iv=Value.ref b from ri)
 obtain⟨hz,hd,xs,rel,dd⟩:=ea.rd I
 have hz':xs.length<=sizeLine:=by rw[<- Paired.length rel]; exact hz
 have hl':=Ggy kvs κ b v
 refine wpAny_setItem_heap (hsz:=hz') (by show X.A.in1.units+10<cLine; first | omega | (simp[Around.in1]; omega)) (kb.is I) dd fun h' dd' hs=>⟨_,?_,q⟩
 obtain⟨o,es,ep,hq,h2,h3,h4,_,h5⟩:=dd'
 exact I.write (x:=a) (e:=a) mu (.inl rfl) (fun c q hc z=>(hs.2 c hc).trans z) ⟨o,hq⟩ ⟨by omega,hd,_,rel.put κ rv,o,es,ep,hq,h2,h3,h4,h5⟩
end
noncomputable def dlook(κ:NK):List D->Option D
 | []=>none
 | .tup [k,e]::r=>if nkO k=some κ then some e else dlook κ r
 | _::r=>dlook κ r
noncomputable def drepl(κ:NK)(z:D):D->D
 | .tup [k,e]=>if nkO k=some κ then .tup [k,z] else .tup [k,e]
 | d=>d
noncomputable def dput(κ:NK)(k z:D)(l:List D):List D:=if(dlook κ l).isSome=true then l.map (drepl κ z) else l++[.tup [k,z]]
noncomputable def Vr(x:D):Option NK:=match x with
 | .tup l=>match nkO (.tup l) with
  | some κ=>if(pk κ).depth<=8 then some κ else none
  | none=>none
 | _=>none
noncomputable def Ge7:D->Bool
 | .tup [.tup _,_]=>true
 | _=>false
noncomputable def Gg0(neg:Bool)(x y:D)(S:Sto):Out D:=match y with
 | .dct i=>match S[i]?,Vr x with
  | some c,some κ=>if c.xs.all Ge7=true then .ok (.bl (if neg=true then !(dlook κ c.xs).isSome else(dlook κ c.xs).isSome)) S else .bad
  | _,_=>.bad
 | _=>.bad
noncomputable def dsetD(x y z:D)(S:Sto):Option Sto:=match x with
 | .dct i=>match S[i]?,Vr y with
  | some c,some κ=>if(c.fz=false/\c.xs.length<1000000)/\c.xs.all Ge7=true then some (S.set i ⟨false,dput κ y z c.xs⟩) else none
  | _,_=>none
 | _=>none
section
variable{K:PySem.W.Frag}{mp:List Addr}{H:Hp}
theorem Ge8{x:D}{κ:NK}{v:V}(h:Rep K mp H x v)(e:Vr x=some κ):nkO x=some κ/\∃ b,v=.ref b/\Ggz K H κ b:=by
 unfold Vr at e
 split at e
 ·rename_i l
  split at e
  ·rename_i κ' z
   split at e
   ·rename_i hd
    cases (Ac e)
    obtain⟨b,xs,rfl,_⟩:=Rep.tup h
    exact⟨z,b,rfl,hd,mp,_,z,h⟩
   ·cases e
  ·cases e
 ·cases e
theorem Gqo{l:List D}{kvs:KVs}(r:Paired (Gby K mp H) l kvs):∀ q∈kvs,Ggz K H q.1 q.2.1:=by
 intro q hq
 obtain⟨d,_,k,e,_,⟨h1,h2⟩,h3,_⟩:=Yw r hq
 exact⟨h2,mp,k,h1,h3⟩
theorem Gjo{l:List D}{kvs:KVs}(r:Paired (Gby K mp H) l kvs)(κ:NK):(dlook κ l).isSome=(Gce kvs κ).isSome/\∀ e,dlook κ l=some e->∃ v,Gce kvs κ=some v/\Rep K mp H e v:=by
 induction r with
 | nil=>exact⟨rfl,fun e z=>nomatch z⟩
 | @cons d q ds qs h t ih=>
  obtain⟨k,e,rfl,⟨h1,_⟩,_,h3⟩:=h
  by_cases c:q.1=κ
  ·have hc:nkO k=some κ:=by rw[h1,c]
   rw[Ggw c]
   simp only[dlook,hc,if_true]
   exact⟨rfl,fun e' z=>⟨_,rfl,by cases z; exact h3⟩⟩
  ·have hc:¬ nkO k=some κ:=by rw[h1]; exact fun z=>c (Ac z)
   rw[Ggx c]
   simp only[dlook,hc,if_false]
   exact ih
theorem Gqp{l:List D}{kvs:KVs}{z:D}{w:V}(r:Paired (Gby K mp H) l kvs)(κ:NK)(hz:Rep K mp H z w):Paired (Gby K mp H) (l.map (drepl κ z)) (kvs.map fun q=>if q.1=κ then(q.1,q.2.1,w) else q):=by
 induction r with
 | nil=>exact .nil
 | @cons d q ds qs h t ih=>
  rw[Au,Au]
  refine .cons ?_ ih
  obtain⟨k,e,rfl,⟨h1,hd⟩,h2,h3⟩:=h
  by_cases c:q.1=κ
  ·have hc:nkO k=some κ:=by rw[h1,c]
   rw[if_pos c]
   simp only[drepl,hc,if_true]
   exact⟨k,z,rfl,⟨h1,hd⟩,h2,hz⟩
  ·have hc:¬ nkO k=some κ:=by rw[h1]; exact fun z=>c (Ac z)
   rw[if_neg c]
   simp only[drepl,hc,if_false]
   exact⟨k,e,rfl,⟨h1,hd⟩,h2,h3⟩
theorem Gv3{l:List D}{kvs:KVs}{k z:D}{b:Addr}{w:V}{κ:NK}(r:Paired (Gby K mp H) l kvs)(hk:nkO k=some κ)(kb:Ggz K H κ b)(hb:Rep K mp H k (.ref b))(hz:Rep K mp H z w):Paired (Gby K mp H) (dput κ k z l) (Ggv kvs κ b w):=by
 unfold dput Ggv
 rw[(Gjo r κ).1]
 by_cases c:(Gce kvs κ).isSome=true
 ·rw[if_pos c,if_pos c]; exact Gqp r κ hz
 ·rw[if_neg c,if_neg c]; exact Wv r ⟨k,z,rfl,⟨hk,kb.1⟩,hb,hz⟩
theorem RS.pairs{S:Sto}{i:Nat}{c:Cell}{v:V}(r:RS K mp H S)(h:Rep K mp H (.dct i) v)(e:S[i]?=some c):∃ a u,v=.ref a/\mp[i]?=some a/\FzD c.fz H a u/\DPr K mp H c.xs u:=by
 obtain⟨a,ev,ea,⟨u,du,hk⟩,lk0⟩:=(show ∃ a,v=.ref a/\mp[i]?=some a/\Dcy H a/\K.lookup a=none from h)
 rcases r.cell i a c ea e with⟨xs,q,z⟩ | ⟨u',e',rr⟩
 ·exfalso
  cases f:c.fz with
  | false=>rw[f,if_neg Ap] at z; exact du.neL hk z rfl
  | true=>
   rw[f] at z
   have z:SqF K H a xs:=(if_pos rfl).mp z
   rcases z with⟨ob,z⟩ | ⟨o,its,n,lk,_⟩
   ·rcases hk with hk | ⟨ob',hk⟩<;>rw[z] at hk<;>cases hk<;>cases du
   ·rw[lk0] at lk; cases lk
 ·exact⟨a,u',ev,ea,e',rr⟩
theorem DPr.td{a:Addr}{l:List D}{u:HO}(p:DPr K mp H l u)(e:Rd H a u)(t:l.all Ge7=true):∃ kvs,TD K H a kvs/\Paired (Gby K mp H) l kvs:=by
 cases u with
 | dT kvs=>exact⟨kvs,.inl ⟨e,Gqo p⟩,p⟩
 | dK kvs=>
  cases p with
  | nil=>exact⟨[],.inr ⟨rfl,e⟩,.nil⟩
  | @cons d q ds qs h r=>
   obtain⟨k,e',rfl,hk,_⟩:=h
   cases k<;>first | (cases hk) | (simp[Ge7] at t)
 | _=>exact p.elim
theorem FzD.mut{a:Addr}{u:HO}{f:Bool}(e:FzD f H a u)(hf:f=false)(d:DOb u):Mut (H a):=by
 subst hf
 rw[show H a=some u from e]
 cases d<;>exact True.intro
theorem RS.setDc{S:Sto}{i:Nat}{a:Addr}{c:Cell}{ds:List D}(r:RS K mp H S)(hi:mp[i]?=some a)(hc:S[i]?=some c)(hf:c.fz=false){u0 u1:HO}(d0:DOb u0)(ha:H a=some u0)(q:DPr K mp H ds u1):
  Aft K mp H mp (upd H a u1)/\RS K mp (upd H a u1) (S.set i ⟨false,ds⟩):=by
 have nf:∀ {b:Addr} {o:HO},H b=some o->(∀ u,DOb u->o≠u)->b≠a:=fun e n z=>by subst z; rw[ha] at e; exact n u0 d0 (Ac e).symm
 have af:Aft K mp H mp (upd H a u1):=by
  refine⟨fun _ _ e=>e,fun b ys s=>?_,fun b φ s=>by rw[Gk (nf s fun _ d z=>by subst z; cases d)]; exact s,fun j b e n ⟨u,du,z⟩=>?_,fun b ⟨u,du,z⟩=>?_,fun b ob u _ z=>by rw[Gk (nf z fun _ d z=>by subst z; cases d)]; exact z⟩
  ·rcases s with(s | ⟨ob,s⟩) | s
   ·exact .inl (.inl (by rw[Gk (nf s fun _ d z=>by subst z; cases d)]; exact s))
   ·exact .inl (.inr ⟨ob,by rw[Gk (nf s fun _ d z=>by subst z; cases d)]; exact s⟩)
   ·exact .inr s
  ·by_cases hb:b=a
   ·subst hb; exact n ⟨_,d0,.inl ha⟩
   ·exact n ⟨u,du,(Ga1 hb).mp z⟩
  ·by_cases hb:b=a
   ·subst hb; exact⟨_,q.ob,.inl Hd⟩
   ·exact⟨u,du,(Ga1 hb).mpr z⟩
 refine⟨af,⟨by simp[r.len],fun j b cj e1 e2=>?_,fun j k b cj ck e1 e2 e3 e4 f1 f2=>?_⟩⟩
 ·by_cases hj:j=i
  ·subst hj
   rw[hi] at e1
   cases e1
   rw[Av (Ab.mp hc).1] at e2
   cases e2
   exact .inr ⟨u1,Hd,q.aft af⟩
  ·rw[Am (Ne.symm hj)] at e2
   rcases r.cell j b cj e1 e2 with⟨ys,h1,h2⟩ | ⟨u,e,rr⟩
   ·refine .inl ⟨ys,RepL.aft af _ _ h1,?_⟩
    cases z:cj.fz with
    | true=>
     rw[z] at h2
     have h2:SqF K H b ys:=(if_pos rfl).mp h2
     refine(if_pos rfl).mpr ?_
     rcases h2 with⟨ob,s⟩ | s
     ·exact .inl ⟨ob,by rw[Gk (nf s fun _ d z=>by subst z; cases d)]; exact s⟩
     ·exact .inr s
    | false=>
     rw[z,if_neg Ap] at h2
     rw[if_neg Ap,Gk (nf h2 fun _ d z=>by subst z; cases d)]
     exact h2
   ·have hb:b≠a:=fun hb=>by
     subst hb
     cases f:cj.fz with
     | false=>exact hj (r.inj j i b cj c e1 hi e2 hc f hf)
     | true=>
      rw[f] at e
      obtain⟨ob,e⟩:=e
      rw[ha] at e
      cases e
      cases d0
    exact .inr ⟨u,e.upd hb,rr.aft af⟩
 ·have fz:∀ (j:Nat) (cj:Cell),(S.set i ⟨false,ds⟩)[j]?=some cj->cj.fz=false->∃ c',S[j]?=some c'/\c'.fz=false:=fun j cj e f=>by
   by_cases hj:j=i
   ·subst hj
    exact⟨c,hc,hf⟩
   ·rw[Am (Ne.symm hj)] at e
    exact⟨cj,e,f⟩
  obtain⟨c1,g1,g2⟩:=fz j cj e3 f1
  obtain⟨c2,g3,g4⟩:=fz k ck e4 f2
  exact r.inj j k b c1 c2 e1 e2 g1 g3 g2 g4
theorem RS.newDc{S:Sto}{p:Addr}(r:RS K mp H S)(h:H p=none)(hp:∀ i:Nat,mp[i]?≠some p):
  Aft K mp H (mp++[p]) (upd H p (.dT []))/\RS K (mp++[p]) (upd H p (.dT [])) (S++[⟨false,[]⟩])/\(mp++[p])[S.length]?=some p:=by
 have ne:∀ (i:Nat) (a:Addr),mp[i]?=some a->a≠p:=fun i a e z=>hp i (z▸e)
 have af:Aft K mp H (mp++[p]) (upd H p (.dT [])):=by
  refine⟨fun i a e=>by rw[Ar (Ab.mp e).1]; exact e,fun b ys s=>?_,fun b φ s=>by rw[Gk (Ha s h)]; exact s,fun j b e n ⟨u,du,z⟩=>?_,fun b ⟨u,du,z⟩=>⟨u,du,(Ga1 (Gul z h)).mpr z⟩,fun b ob u _ z=>by rw[Gk (Ha z h)]; exact z⟩
  ·rcases s with(s | ⟨ob,s⟩) | s
   ·exact .inl (.inl (by rw[Gk (Ha s h)]; exact s))
   ·exact .inl (.inr ⟨ob,by rw[Gk (Ha s h)]; exact s⟩)
   ·exact .inr s
  ·exact n ⟨u,du,(Ga1 (ne j b e)).mp z⟩
 have hl:=r.len
 have lastp:(mp++[p])[S.length]?=some p:=by rw[<- hl]; simp
 have old:∀ (i:Nat) (a:Addr),i<S.length->(mp++[p])[i]?=some a->mp[i]?=some a:=fun i a hi e1=>by
  rw[Ar (by omega)] at e1; exact e1
 refine⟨af,⟨by simp[hl],fun i a c e1 e2=>?_,fun i j a ci cj e1 e2 e3 e4 f1 f2=>?_⟩,lastp⟩
 ·by_cases hi:i<S.length
  ·rw[Ar hi] at e2
   exact(r.cell i a c (old i a hi e1) e2).new h af
  ·have hi':i=S.length:=by
    have:=(Ab.mp e2).1
    simp at this
    omega
   subst hi'
   rw[lastp] at e1
   cases e1
   simp at e2
   subst e2
   exact .inr ⟨.dT [],Hd,Paired.nil⟩
 ·have hi:=(Ab.mp e3).1
  have hj:=(Ab.mp e4).1
  simp at hi hj
  by_cases hi':i<S.length
  ·have o1:=old i a hi' e1
   by_cases hj':j<S.length
   ·rw[Ar hi'] at e3
    rw[Ar hj'] at e4
    exact r.inj i j a ci cj o1 (old j a hj' e2) e3 e4 f1 f2
   ·have:j=S.length:=by omega
    subst this
    rw[lastp] at e2
    cases e2
    exact absurd rfl (ne i _ o1)
  ·have:i=S.length:=by omega
   subst this
   rw[lastp] at e1
   cases e1
   by_cases hj':j<S.length
   ·exact absurd rfl (ne j _ (old j _ hj' e2))
   ·omega
theorem Gg1{X:Cx}{pins:List (Addr×Obj)}{σ:L2.St}{H:Hp}{s:Shared}(I:Inv X pins σ H s):X.K.lookup s.heap.objs.size=none:=by
 cases e:X.K.lookup s.heap.objs.size with
 | none=>rfl
 | some o=>exact absurd (Ae (I.kIn _ o e)) (Az _)
theorem RS.off{X:Cx}{pins:List (Addr×Obj)}{σ:L2.St}{s:Shared}{S:Sto}(r:RS X.K mp H S)(I:Inv X pins σ H s)(i:Nat):mp[i]?≠some s.heap.objs.size:=fun e=>by
 have hl:i<S.length:=by rw[<- r.len]; exact(Ab.mp e).1
 have hn:H s.heap.objs.size=none:=I.hok.fresh (Aa _)
 rcases r.cell i _ _ e (Ag hl) with⟨xs,q,z⟩ | ⟨u,e',rr⟩
 ·cases f:(S[i]).fz with
  | true=>
   rw[f] at z
   have z:SqF X.K H _ xs:=(if_pos rfl).mp z
   rcases z with⟨ob,z⟩ | ⟨o,its,n,lk,_⟩
   ·rw[hn] at z; cases z
   ·exact absurd (Ae (I.kIn _ o lk)) (Az _)
  | false=>rw[f,if_neg Ap,hn] at z; cases z
 ·obtain⟨o,z⟩:=Gmf e'.rd
  rw[hn] at z; cases z
end
section
variable{X:Cx}{XQ:XW}
theorem Gqq(neg:Bool)(hu:X.A.units+20<cLine):OpX X (compareOp (if neg=true then .NotIn else .In)) (Gg0 neg):=by
 intro pins s σ ρ XQ mp H S x y v u vv uv Q I rs rx ry rv ru p _
 unfold Gg0 at p
 split at p
 ·rename_i i
  split at p
  ·rename_i c κ zc zk
   by_cases hf:c.xs.all Ge7=true
   ·rw[if_pos hf] at p
    obtain⟨hk,b,rfl,kb⟩:=Ge8 rx zk
    obtain⟨a,u,rfl,ha,hH,rr⟩:=rs.pairs ry zc
    obtain⟨kvs,td,rr⟩:=rr.td hH.rd hf
    cases (show vv=Value.ref b from rv)
    cases (show uv=Value.ref a from ru)
    obtain⟨hz,hd,xs,rel,dd⟩:=td.rd I
    have e:(atKey xs κ).isSome=(dlook κ c.xs).isSome:=by
     rw[(Gjo rr κ).1,Gd7 (rel.val κ),Option.isSome_map]
    cases neg with
    | true=>
     refine wpAny_notIn_heap (knd:=nestKind X.prog X.w) (by show X.A.in1.units+10<cLine; first | omega | (simp[Around.in1]; omega)) (kb.is I) hd dd ?_
     rw[e]
     exact⟨.bl _,H,I.tok _,rfl,Gi.ok (R:=Rep X.K) p rs rfl⟩
    | false=>
     refine wpAny_in_heap (knd:=nestKind X.prog X.w) (by show X.A.in1.units+10<cLine; first | omega | (simp[Around.in1]; omega)) (kb.is I) hd dd ?_
     rw[e]
     exact⟨.bl _,H,I.tok _,rfl,Gi.ok (R:=Rep X.K) p rs rfl⟩
   ·rw[if_neg hf] at p; exact p.elim
  ·exact p.elim
 ·exact p.elim
theorem Gqr(neg:Bool)(x y:D)(S:Sto)(e:XD)(S':Sto):Gg0 neg x y S≠.exc e S':=by
 unfold Gg0
 split
 ·split
  ·split<;>(intro z; cases z)
  ·intro z; cases z
 ·intro z; cases z
theorem Ge9{K:PySem.W.Frag}:Gun (Gjn K) K dsetD:=by
 intro mp H S S' x y z v u w Q rs rx ry rz e k
 unfold dsetD at e
 split at e
 ·rename_i i
  split at e
  ·rename_i c κ zc zk
   split at e
   ·rename_i hf
    cases (Ac e)
    obtain⟨hk,b,rfl,kb⟩:=Ge8 ry zk
    obtain⟨a,u,rfl,ha,hH,pr⟩:=rs.pairs rx zc
    have mu:=hH.mut hf.1.1 pr.ob
    obtain⟨kvs,td,rr⟩:=pr.td hH.rd hf.2
    rw[hf.1.1] at hH
    obtain⟨af,rs'⟩:=rs.setDc (u1:=.dT (Ggv kvs κ b w)) ha zc hf.1.1 pr.ob hH (Gv3 rr hk kb ry rz)
    have hl:kvs.length<sizeLine:=by rw[<- Paired.length rr]; exact Af hf.1.2 (by decide)
    exact⟨a,b,κ,kvs,rfl,rfl,td,mu,kb,hl,k _ af rs'⟩
   ·cases e
  ·cases e
 ·cases e
variable{k:Nat}{a b:Expr}{fa fb:Ev D}{pos:Pos}
theorem Gv4(hr:Room k X.A)(ha:GE X XQ a fa)(hb:GE X XQ b fb)(hm:behindInMarks .NotIn b=false:=by rfl):GT X XQ (.Compare a [.NotIn] [b] pos) (tb (o2 (Gg0 true) fa fb)):=⟨Gh9 (Gqq true (by have:=hr.un; omega)) (Gqr true) ha.h hb.h hm⟩
end
structure FHd(K:PySem.W.Frag)(x:Str)(st:Stmt)(d:Int):Prop where
 ex:∃ (f T:Addr) (oc:Value) (od an:Option Addr) (osl sl:Array (Option Value)) (kV doc pm cdv ct:Value) (t:Tok) (n:Nat),PySem.W.nsIn K mainGlobals x=some (some (.ref f))/\K.lookup f=some ⟨oc,od,.func (PySem.W.fnOf x x (Hl st) (Gv st) (Gb st) (.ref T) kV doc pm an cdv ct),osl⟩/\PySem.W.codeIn K cdv x=true/\PySem.W.keepIn K (.ref f)=true∧
  K.lookup T=some { cls:=.type "tuple",dict:=none,data:=.seq #[.int d t] n,slots:=sl }
section
variable{P:Program}{w:World}{K:PySem.W.Frag}{mg:Str->Option Value}{base:Heap}
theorem Gv5{x:Str}{st:Stmt}{d:Int}{f T:Addr}{oc:Value}{od an:Option Addr}{osl sl:Array (Option Value)}{kV doc pm cdv ct:Value}{t:Tok}{n:Nat}(a:PySem.W.nsIn K mainGlobals x=some (some (.ref f)))
  (l:K.lookup f=some ⟨oc,od,.func (PySem.W.fnOf x x (Hl st) (Gv st) (Gb st) (.ref T) kV doc pm an cdv ct),osl⟩) (c:PySem.W.codeIn K cdv x=true) (k:PySem.W.keepIn K (.ref f)=true) (lT:K.lookup T=some { cls:=.type "tuple",dict:=none,data:=.seq #[.int d t] n,slots:=sl }):FHd K x st d:=⟨f,T,oc,od,an,osl,sl,kV,doc,pm,cdv,ct,t,n,a,l,c,k,lT⟩
structure CalD(P:Program)(w:World)(K:PySem.W.Frag)(mg:Str->Option Value)(base:Heap)(x:Str)(ps:List Str)(fn:Fn)(d:Int)(j:Nat):Prop where
 ex:∃ f fd t,FnOk P w K mg base (CXe P w) j f fd ps (spX K ps.length fn)/\mg x=some (.ref f)/\PySem.W.keepIn K (.ref f)=true/\Binds K fd ps []/\Binds K fd ps [.int d t]
theorem CalD.x{x:Str}{ps:List Str}{fn:Fn}{d:Int}{j:Nat}(C:CalD P w K mg base x ps fn d j):CalX P w K mg base x ps fn j:=
 let ⟨f,fd,_,h1,h2,h3,h4,_⟩:=C.ex; ⟨f,fd,h1,h2,h3,h4⟩
theorem caldw{x:Str}{st:Stmt}{N ps:List Str}{fn:Fn}{d:Int}{b:Sv}(k:Nat)(F:FHd K x st d)(g:GH K mg)(S:FnS N ps (Gb st))(hfn:fn=fnB N.length b)
  (hb:∀ (f:Addr) (cdv:Value) (A:Around) (outer:List PySem.Env) (s:Shared) (H:Hp) (E:XK) (XQ:XW),Room k (A.deeper (envOfC x (Gb st) s.heap.objs.size f cdv))->XL (Ku (CXe P w) P w K mg base N x (Gb st) f cdv A outer s H E) XQ→
   JSs (Ku (CXe P w) P w K mg base N x (Gb st) f cdv A outer s H E) XQ (Gv st) b)
  (ha:∀ (s:Shared) (T:Addr) (o:Obj) (t:Tok) (n:Nat) (kV doc pm:Value) (an:Option Addr) (cdv ct:Value) (us:List Value),us.length=ps.length->s.heap.get? T=some o->o.data=.seq #[.int d t] n->BindsTo s (PySem.W.fnOf x x (Hl st) (Gv st) (Gb st) (.ref T) kV doc pm an cdv ct) ⟨us,[]⟩ (ps.zip us))
  (ha1:∀ (s:Shared) (T:Addr) (o:Obj) (t:Tok) (n:Nat) (kV doc pm:Value) (an:Option Addr) (cdv ct:Value) (us:List Value),us.length+1=ps.length->s.heap.get? T=some o->o.data=.seq #[.int d t] n->BindsTo s (PySem.W.fnOf x x (Hl st) (Gv st) (Gb st) (.ref T) kV doc pm an cdv ct) ⟨us,[]⟩ (ps.zip (us++[Value.int d t]))):
  CalD P w K mg base x ps fn d (k+1):=by
 subst hfn
 obtain⟨_,X,G⟩:=g
 obtain⟨f,T,oc,od,an,osl,sl,kV,doc,pm,cdv,ct,t,n,a,l,c,kp,lT⟩:=F.ex
 refine⟨f,_,t,Gl8 l c S.s (fun vs H Q E ⟨mp,ds,S,rs,r,hl,_⟩=>by rw[r.len]; exact hl) fun A outer s H vs Q E hr ⟨mp,ds,S,rs,r,hl,p⟩=>?_,PySem.W.mg_of X G a,kp,fun s us X hl=>?_,fun s us X hl=>ha1 s T _ t n kV doc pm an cdv ct us (by rw[<- hl,AB]; rfl) (X T _ lT) rfl⟩
 ·refine⟨_,hb f cdv A outer s H E (XQd K E) hr Gm5,mp,_,S,Gb1 rs r,?_⟩
  unfold fnB at p
  show PostS K _ mp H (b (ds.map some++List.replicate (N.length-ds.length) none) S) _
  cases z:b (ds.map some++List.replicate (N.length-ds.length) none) S with
  | rt d S'=>rw[z] at p; exact p
  | nx ρ' S'=>rw[z] at p; exact fun m h v af G=>p m h .non af G.rs rfl
  | bk ρ' S'=>rw[z] at p; exact p.elim
  | ct ρ' S'=>rw[z] at p; exact p.elim
  | exc x ρ' S'=>
   rw[z] at p
   obtain⟨C,hc,q⟩:=p
   exact fun m h v af G=>⟨C,hc,fun dx xf=>q m h dx af G.rs xf⟩
  | bad=>rw[z] at p; exact p.elim
 ·rw[A4] at hl ⊢
  exact ha s T _ t n kV doc pm an cdv ct us hl (X T _ lT) rfl
end
section
variable{X:Cx}{XQ:XW}{k:Nat}{f:Addr}{fd:FuncData}{ps:List Str}{fn:Fn}{x:Str}{p pos:Pos}{e:Expr}{es:List Expr}
theorem Gqs{ob ix e:Expr}{f fo fi:Ev D}{pos p2:Pos}(hr:Room k X.A)(he:GE X XQ e f)(hob:GE X XQ ob fo)(hix:GE X XQ ix fi)(hs:swapsWithSole [.Subscript ob ix p2] e pos.line X.env=pure false:=by rfl)(hw:swappedStores [.Subscript ob ix p2] e X.env=pure none:=by rfl)(h1:(assignEach [.Subscript ob ix p2] X.env).map (·.2)=[assign (.Subscript ob ix p2) X.env]:=by rfl)(ha:∀ v,assign (.Subscript ob ix p2) X.env v=(do
   let ov <- holding [v] (eval ob X.env)
   let iv <- holding [v,ov] (eval ix X.env)
   standAt p2
   holding [v,ov,iv] (setItem ov iv v)
   release [v,ov,iv] []):=by intro _; rfl):GS X XQ (.Assign [.Subscript ob ix p2] e pos) (ss f fo fi dsetD):=⟨Gmi (Gnq (by have:=hr.un; omega)) Ge9 he.h hob.h hix.h hs hw h1 ha⟩
noncomputable def Gcf(d:Int)(fn:Fn):Fn:=fun ds S=>fn (ds++[.int d]) S
theorem Gs2{d:Int}{j n:Nat}{ys:List Str}{t:Ev (List D)}(s:Scope)(xs:XNs X.K ys)(L:XL X XQ)(C:CalD X.prog X.w X.K X.mg X.base x ps fn d j)(hr:Room k X.A)(ha:GA X XQ (e::es) t)(hg:okG s x=true:=by decide +kernel)(hn:ps.length=n+1:=by rfl)(hj:j<=k:=by decide)(hs:X.env.scope=s:=by rfl)
  (he:starEach (e::es) X.env=(false,eval e X.env)::starEach es X.env:=by rfl) (hpl:(backTo pos (starEach es X.env)).any (·.1)=false:=by rfl):
  GE X XQ (.Call (.Name x p) (e::es) [] pos) (cl n (gX ys (Gcf d fn)) t):=by
 obtain⟨f,fd,tk,F,hm,hk,_,hb⟩:=C.ex
 have F:=F.mono hj
 have hdb:=(Gy.of (okG.gl hg).2).1
 refine⟨?_⟩
 intro pins s0 σ H Q I zq0
 obtain⟨mp,ρ,S,G,p⟩:=zq0
 refine wpAny_Call_Name_kw (Xs I (gG s hg hs) hm ?_ hdb)
 refine PySem.W.callWith_K (h₀:=X.base) I.ok.mod.kin hk (thn (ha.h pos pins s0 σ H _ I (bindP G p fun mp1 H1 ds S1 vs a1 G1 r1 p1=>(⟨mp1,ρ,ds,S1,G1,r1,p1⟩:∃ mp1 ρ ds S1,Gd X.K mp1 H1 σ ρ S1/\RepL X.K mp1 H1 ds vs/\Post X.K XQ σ ρ mp1 H1 (if ds.length=n then gX ys (Gcf d fn) ds S1 else .bad) Q))) fun us s1 ⟨vs,H1,I1,r,mp1,ρ1,ds,S1,G1,r1,p1⟩=>⟨I1.kIn,?_⟩) he hpl
 by_cases hl:ds.length=n
 ·rw[if_pos hl] at p1
  have r2:Vals (vs++[V.int d]) (us++[Value.int d tk]):=r.append (.cons ⟨tk,rfl⟩ .nil)
  have rl:RepL X.K mp1 H1 (ds++[.int d]) (vs++[V.int d]):=RepL.append r1 (RepL.cons rfl RepL.nil)
  have hll:(ds++[D.int d]).length=ps.length:=by rw[hn,AB,hl]; rfl
  have h:spX X.K ps.length fn (vs++[V.int d]) H1 Q fun c dx H'=>∃ C,c=.ref C/\WX X.K XQ σ C dx H':=by
   refine⟨mp1,ds++[.int d],S1,G1.rs,rl,hll,?_⟩
   unfold gX Gcf at p1
   cases z:fn (ds++[.int d]) S1 with
   | ok d S'=>rw[z] at p1; exact p1
   | exc xx S'=>
    rw[z] at p1
    by_cases hi:xx.cls∈ys
    ·have p1:Gi X.K (Rep X.K) XQ σ ρ1 mp1 H1 (.exc xx S') Q:=by simpa only[if_pos hi] using p1
     obtain⟨C,hC,_⟩:=xs _ hi
     refine⟨C,hC,fun mp' H' dx af rs xf=>⟨C,rfl,xx,mp',ρ1,S',xf,hC,p1 mp' H' af (G1.aft af rs)⟩⟩
    ·have p1:Gi X.K (Rep X.K) XQ σ ρ1 mp1 H1 .bad Q:=by simpa only[if_neg hi] using p1
     exact p1.elim
   | bad=>rw[z] at p1; exact p1.elim
  have hlu:(us++[Value.int d tk]).length=ps.length:=by rw[<- r2.length,rl.len]; exact hll
  refine wpAny_call (codeAny_mono (F.run X.A X.stack s1 H1 ⟨us,[]⟩ (us++[Value.int d tk]) (vs++[V.int d]) Q _ hr I1.env0 (hb s1 us I1.kIn hlu) r2 h) fun r s' hq=>?_)
  cases r with
  | error e=>exact L.cal pins σ H1 s1 e s' (fun c dx H'=>∃ C,c=.ref C/\WX X.K XQ σ C dx H') I1 hq fun C dx H' ⟨C',e1,q⟩=>by cases e1; exact q
  | ok fl=>
   cases fl with
   | ret u=>exact I1.after hq
   | next=>exact False.elim hq
   | brk=>exact False.elim hq
   | cont=>exact False.elim hq
 ·rw[if_neg hl] at p1; exact p1.elim
end
noncomputable def Gg2(fa fb:Ev D):Ev D:=fun ρ S=>(fa ρ (S++[⟨false,[]⟩])).bind fun k S1=>(fb ρ S1).bind fun v S2=>match dsetD (.dct S.length) k v S2 with
 | some S3=>.ok (.dct S.length) S3
 | none=>.bad
section
variable{X:Cx}{XQ:XW}{k:Nat}{a b:Expr}{fa fb:Ev D}{pos:Pos}
theorem Gd8{pins:List (Addr×Obj)}{σ:L2.St}{H:Hp}{s:Shared}{o i v:V}{ov iv u:Value}{E:Value->Shared->Prop}{Q:Hp->Prop}(hu:X.A.units+20<cLine)(I:Inv X pins σ H s)(ro:Gz o ov)(ri:Gz i iv)(rv:Gz v u)(h:Gjn X.K o i v H Q):
  ∃ d,ov=.ref d/\wpAny (model X.prog X.w) X.A (dictSet d iv u) (fun _ s'=>∃ H',Inv X pins σ H' s'/\Q H') E s:=by
 obtain⟨a,b,κ,kvs,rfl,rfl,ea,mu,kb,hl,q⟩:=h
 cases (show ov=Value.ref a from ro)
 cases (show iv=Value.ref b from ri)
 refine⟨a,rfl,?_⟩
 obtain⟨hz,hd,xs,rel,dd⟩:=ea.rd I
 have hz':xs.length<=sizeLine:=by rw[<- Paired.length rel]; exact hz
 have hl':=Ggy kvs κ b v
 refine wpAny_dictSet_heap (knd:=nestKind X.prog X.w) (hsz:=hz') (by show X.A.units+10<cLine; omega) (kb.is I) dd fun h' dd' hs=>⟨_,?_,q⟩
 obtain⟨o,es,ep,hq,h2,h3,h4,_,h5⟩:=dd'
 exact I.write (x:=a) (e:=a) mu (.inl rfl) (fun c q hc z=>(hs.2 c hc).trans z) ⟨o,hq⟩ ⟨by omega,hd,_,rel.put κ rv,o,es,ep,hq,h2,h3,h4,h5⟩
theorem Gy4(hr:Room k X.A)(ha:GE X XQ a fa)(hb:GE X XQ b fb):GE X XQ (.Dict [some a] [b] pos) (Gg2 fa fb):=by
 have hu:X.A.units+20<cLine:=by have:=hr.un; omega
 have ha:=ha.h
 have hb:=hb.h
 refine⟨?_⟩
 intro pins s σ H Q I zq0
 obtain⟨mp,ρ,S,G,p⟩:=zq0
 have hbig:sysModules<s.heap.objs.size:=by
  have h:mainGlobals<s.heap.objs.size:=(I.mod.glob.keeps I.bk).lt
  exact Bk (by decide) h
 have hn:H s.heap.objs.size=none:=I.hok.fresh (Aa _)
 obtain⟨af,rs,la⟩:=G.rs.newDc hn (G.rs.off I)
 have G0:=G.aft af rs
 have I0:=I.laid (a:=s.heap.objs.size) (o:=.dT []) (h':=s.heap.push { cls:=.type "dict",data:=.dict #[] }) (t':=s.toks) (fun _ _ q=>Ah _ q) (Aa _)
  ⟨AC _,beq_eq_false_iff_ne.mpr (Ne.symm (At hbig)),[],.nil,_,#[],0,AA _ rfl,⟨rfl,rfl,rfl⟩,rfl,rfl,List.nodup_nil⟩
 have rd:Rep X.K (mp++[s.heap.objs.size]) (upd H s.heap.objs.size (.dT [])) (.dct S.length) (.ref s.heap.objs.size):=⟨_,rfl,la,⟨_,.t _,.inl Hd⟩,Gg1 I⟩
 have p0:=Gi.aft p af
 refine wpAny_Dict_any rfl rfl (by simp) (by simp) (pairTrees_cons_walk ?_)
 refine thn (ha pins _ σ _ _ I0 (bindP G0 p0 fun mp1 H1 x S1 v a1 G1 r1 p1=>(⟨mp1,ρ,S1,x,G1,r1,Rep.aft a1 _ _ rd,p1⟩:∃ mp1 ρ S1 x,Gd X.K mp1 H1 σ ρ S1/\Rep X.K mp1 H1 x v/\Rep X.K mp1 H1 (.dct S.length) (.ref s.heap.objs.size)/\Post X.K XQ σ ρ mp1 H1 ((fb ρ S1).bind fun v S2=>match dsetD (.dct S.length) x v S2 with | some S3=>.ok (.dct S.length) S3 | none=>.bad) Q))) fun kv s1 zq0=>?_
 obtain⟨v,H1,I1,rv,mp1,ρ1,S1,x,G1,r1,rd1,p1⟩:=zq0
 refine thn (hb pins s1 σ H1 _ I1 (bindP G1 p1 fun mp2 H2 y S2 u a2 G2 r2 p2=>(⟨mp2,ρ1,S2,x,y,v,G2,Rep.aft a2 _ _ r1,r2,Rep.aft a2 _ _ rd1,rfl,p2⟩:∃ mp2 ρ S2 x y v',Gd X.K mp2 H2 σ ρ S2/\Rep X.K mp2 H2 x v'/\Rep X.K mp2 H2 y u/\Rep X.K mp2 H2 (.dct S.length) (.ref s.heap.objs.size)/\v'=v/\Post X.K XQ σ ρ mp2 H2 (match dsetD (.dct S.length) x y S2 with | some S3=>.ok (.dct S.length) S3 | none=>.bad) Q))) fun vv s2 zq0=>?_
 obtain⟨u,H2,I2,ru,mp2,ρ2,S2,x2,y,v',G2,rx,ry,rd2,ev,p2⟩:=zq0
 subst ev
 refine pairTrees_nil_walk ?_
 cases z:dsetD (.dct S.length) x2 y S2 with
 | none=>rw[z] at p2; exact p2.elim
 | some S3=>
  rw[z] at p2
  have hs:=Ge9 (K:=X.K) mp2 H2 S2 S3 (.dct S.length) x2 y (.ref s.heap.objs.size) _ _ (fun H'=>Q (.ref s.heap.objs.size) H') G2.rs rd2 rx ry z fun H' af' rs'=>p2 mp2 H' _ af' rs' (Rep.aft af' _ _ rd2)
  obtain⟨d,ed,w'⟩:=Gd8 (E:=X.xe) hu I2 (show Gz (.ref s.heap.objs.size) (Value.ref s.heap.objs.size) from rfl) rv ru hs
  cases ed
  show wpAny _ _ (storeAll s.heap.objs.size [(kv,vv)]) _ _ _
  unfold storeAll
  rw[List.forIn_cons]
  refine wpAny_bind (wpAny_bind (wpAny_mono w' (fun _ s3 zq0=>?_) fun _ _ e=>e))
  obtain⟨H3,I3,q3⟩:=zq0
  refine wpAny_pure ?_
  show wpAny _ _ (forIn [] PUnit.unit _) _ _ s3
  rw[List.forIn_nil]
  exact wpAny_pure ⟨.ref s.heap.objs.size,H3,I3,rfl,q3⟩
end
structure NN(N:List Str):Prop
theorem nn(N:List Str):NN N:=⟨⟩
section
variable{X:Cx}{XQ:XW}{k:Nat}{x:Str}{p pos:Pos}{e:Expr}{es:List Expr}{N P:List Str}{s:Scope}{f:Ev D}
theorem gGS(S:FnS N P s)(h:okG s x=true:=by decide +kernel)(hs:X.env.scope=s:=by rfl):Gl X x:=gG s h hs
theorem Ha4{fn:Fn}{ps:List Str}{j n:Nat}{t:Ev (List D)}(S:FnS N P s)(C:Cal X.prog X.w X.K X.mg X.base x ps fn j)(hr:Room k X.A)(ha:GA X XQ (e::es) t)(hg:okG s x=true:=by decide +kernel)(hn:ps.length=n:=by rfl)(hj:j<=k:=by decide)(hs:X.env.scope=s:=by rfl)
  (he:starEach (e::es) X.env=(false,eval e X.env)::starEach es X.env:=by rfl) (hpl:(backTo pos (starEach es X.env)).any (·.1)=false:=by rfl):
  GE X XQ (.Call (.Name x p) (e::es) [] pos) (cl n (Go fn) t):=gow s C hr ha hg hn hj hs he hpl
theorem Gy5{fn:Fn}{ps:List Str}{j n:Nat}{ys:List Str}{t:Ev (List D)}(S:FnS N P s)(xs:XNs X.K ys)(L:XL X XQ)(C:CalX X.prog X.w X.K X.mg X.base x ps fn j)(hr:Room k X.A)(ha:GA X XQ (e::es) t)(hg:okG s x=true:=by decide +kernel)(hn:ps.length=n:=by rfl)(hj:j<=k:=by decide)(hs:X.env.scope=s:=by rfl)
  (he:starEach (e::es) X.env=(false,eval e X.env)::starEach es X.env:=by rfl) (hpl:(backTo pos (starEach es X.env)).any (·.1)=false:=by rfl):
  GE X XQ (.Call (.Name x p) (e::es) [] pos) (cl n (gX ys fn) t):=Ggs s xs L C hr ha hg hn hj hs he hpl
theorem Gv6(i:Nat){N:List Str}{sc:Scope}{y:Str}{py spos:Pos}{elt tg iter:Expr}{ifs:List Expr}{scope:Scope}{N':List Str}{pk:List (Option Nat)}{f:Ev Src}{g:Tg}{t:Ev Bool}{e:Ev D}(W:NN N')(S:FnS N P sc)(hi:GI X XQ tg iter f)(hg:∀ cl s2 H2 C fp,GG (blk X s2 H2 C scope cl N' fp) tg g)(ht:∀ cl s2 H2 C fp,GTs (blk X s2 H2 C scope cl N' fp) XN ifs t)(he:∀ cl s2 H2 C fp,GE (blk X s2 H2 C scope cl N' fp) XN elt e)(ct:CompTab sc scope N N' pk:=by exact kdC)(hsc:X.env.scope=sc:=by rfl)(hNN:X.N=N:=by rfl)(hcm:X.calm=true:=by rfl)(hsw:swapsWith (.ListComp elt [⟨tg,iter,ifs,0⟩] scope pos) (some (.Name y py)) spos.line X.env=pure true:=by rfl)(hy:N[i]?=some y:=by rfl)(hs:∀ x,foldedSetIterable iter X.env x=pure x:=by intro _; rfl)(hf:X.fn y=true:=by rfl):GS X XQ (.Assign [.Name y py] (.ListComp elt [⟨tg,iter,ifs,0⟩] scope pos) spos) (sa (cmp f pk g t e) (gn i)):=Gd6 i S hi hg ht he ct hsc hNN hcm hsw hy hs hf
theorem Ha5{j:Nat}{np cpos:Pos}{a:Expr}{t:Ev (List D)}(S:FnS N P s)(L:XL X XQ)(C:ClX X.prog X.w X.K X.mg X.base x j)(hr:Room k X.A)(ha:GA X XQ [a] t)(hg:okG s x=true:=by decide +kernel)(hcm:X.calm=true:=by rfl)(hj:j+1<=k:=by decide)(hs:X.env.scope=s:=by rfl)
  (he:starEach [a] X.env=(false,eval a X.env)::starEach [] X.env:=by rfl) (hpl:(backTo cpos (starEach [] X.env)).any (·.1)=false:=by rfl):
  GS X XQ (.Raise (some (.Call (.Name x np) [a] [] cpos)) none pos) (srs x t):=Ggt s L C hr ha hg hcm hj hs he hpl
end
section
variable{X:Cx}
noncomputable def bdD(kx vx:Expr)(D:Addr)(env:PySem.Env):Sem Unit:=do
 let kv <- eval kx env
 let vv <- holding [kv] (eval vx env)
 standAt { kx.pos with endLine:=vx.pos.endLine,endCol:=vx.pos.endCol }
 holding [kv,vv] (dictSet D kv vv)
noncomputable def peD(K:PySem.W.Frag)(tk tv:TE):ElP:=fun a σ H k=>tk σ H fun kv H5=>tv σ H5 fun vv H6=>Gjn K (.ref a) kv vv H6 k
noncomputable def oD(K:PySem.W.Frag)(H:Hp)(a:Addr):Prop:=K.lookup a=none/\∀ mp S,RS K mp H S->∀ i:Nat,mp[i]?≠some a
theorem ckD{kx vx tg iter:Expr}{ifs:List Expr}{scope:Scope}{pos:Pos}:CK (.DictComp kx vx [⟨tg,iter,ifs,0⟩] scope pos) tg iter ifs scope "dict" (.dict #[]) (bdD kx vx):=⟨fun _ _ _ _ _ _=>⟨rfl,rfl⟩,fun _ _ _=>rfl,codeAny_compStart_dict,by size_fits,rfl,rfl,fun _ _=>⟨_,rfl⟩⟩
theorem nwD:NwOk X "dict" (.dict #[]) (.dT []) (oD X.K):=⟨fun I old hacc=>I.hok.laid old (Aa _) ⟨AC _,beq_eq_false_iff_ne.mpr (Ne.symm (At (Bk (by decide:sysModules<mainGlobals) (I.mod.glob.keeps I.bk).lt))),[],.nil,_,#[],0,hacc,⟨rfl,rfl,rfl⟩,rfl,rfl,List.nodup_nil⟩,fun I=>⟨Gg1 I,fun mp S r i=>r.off I i⟩⟩
theorem elD{kx vx:Expr}{scope:Scope}{N':List Str}{tk tv:TE}(hk:∀ cl s2 H2 C fp,PE (blk X s2 H2 C scope cl N' fp) kx tk)(hv:∀ cl s2 H2 C fp,PE (blk X s2 H2 C scope cl N' fp) vx tv)(hu:X.A.units+20<cLine):Gpo X scope N' (bdD kx vx) (peD X.K tk tv):=by
 intro cl s2 H2 C fp a pins s σ H K I q
 refine wpAny_bind (wpAny_mono (hk cl s2 H2 C fp _ s σ H _ I q) (fun ukx s9 zq=>?_) fun _ _ z=>z)
 obtain⟨kv,H9,I9,r9,q9⟩:=zq
 refine wpAny_bind (wpAny_holding (wpAny_mono (hv cl s2 H2 C fp _ s9 σ H9 _ I9 q9) (fun uvx s10 zq=>?_) fun _ _ z=>z))
 obtain⟨vv,H10,I10,r10,q10⟩:=zq
 obtain⟨d,ed,w'⟩:=Gd8 (X:=blk X s2 H2 C scope cl N' fp) (E:=fun _ _=>False) hu I10 (show Gz (.ref a) (Value.ref a) from rfl) r9 r10 q10
 cases ed
 exact wpAny_bind (wpAny_standAt (wpAny_holding w'))
noncomputable def Gv7(a:Nat)(t:Ev Bool)(ek ev:Ev D):Sv:=fun ρ S=>bindS (t ρ S) ρ fun b S1=>if b=true then bindS (ek ρ S1) ρ fun k S2=>bindS (ev ρ S2) ρ fun v S3=>(match dsetD (.dct a) k v S3 with
  | some S4=>.nx ρ S4
  | none=>.bad) else .nx ρ S1
noncomputable def dcm(f:Ev Src)(pk:List (Option Nat))(g:Tg)(t:Ev Bool)(ek ev:Ev D):Ev D:=fun ρ S=>(f ρ S).bind fun src S1=>match Ki src.nxt g (Gv7 S1.length t ek ev) src.fuel 0 (pkS pk ρ) (S1++[⟨false,[]⟩]) with
 | .nx _ S'=>.ok (.dct S1.length) S'
 | _=>.bad
noncomputable def eDs(ek ev:Ev D)(a:Nat):Sv:=fun ρ S1=>bindS (ek ρ S1) ρ fun k S2=>bindS (ev ρ S2) ρ fun v S3=>(match dsetD (.dct a) k v S3 with
  | some S4=>.nx ρ S4
  | none=>.bad)
theorem edD{K:PySem.W.Frag}{ek ev:Ev D}:ElD K (eDs ek ev) .dct (fun H a=>Dcy H a/\K.lookup a=none) (.dT []) (oD K) (peD K (rdE K XN ek) (rdE K XN ev)):=by
 refine⟨fun r h o=>r.newDc h (o.2 _ _ r),fun o=>⟨⟨_,.t _,.inl Hd⟩,o.1⟩,fun af l n=>⟨af.dcy _ n.1,n.2⟩,fun l n=>⟨_,rfl,l,n⟩,fun i ρ S=>?_,fun{mp H σ ρ S S' i a Kt} G la nd z k=>⟨mp,ρ,S,G,?_⟩⟩
 ·unfold eDs
  cases ek ρ S with
  | exc x S3=>exact .inr (.inl ⟨_,_,_,rfl⟩)
  | bad=>exact .inr (.inr rfl)
  | ok d S2=>
   simp only[bindS]
   cases ev ρ S2 with
   | exc x S3=>exact .inr (.inl ⟨_,_,_,rfl⟩)
   | bad=>exact .inr (.inr rfl)
   | ok v S3=>
    simp only
    cases dsetD (.dct i) d v S3 with
    | none=>exact .inr (.inr rfl)
    | some S4=>exact .inl ⟨_,rfl⟩
 ·unfold eDs at z
  cases ze:ek ρ S with
  | exc x S3=>rw[ze] at z; cases z
  | bad=>rw[ze] at z; cases z
  | ok dk S3=>
   simp only[ze,bindS] at z
   intro mp4 H4 v a4 rs4 r4
   have G5:=G.aft a4 rs4
   refine⟨mp4,ρ,S3,G5,?_⟩
   cases zv:ev ρ S3 with
   | exc x S4=>simp only[zv] at z; cases z
   | bad=>simp only[zv] at z; cases z
   | ok dv S4=>
    simp only[zv] at z
    intro mp5 H5 u a5 rs5 r5
    cases zc:dsetD (.dct i) dk dv S4 with
    | none=>simp only[zc] at z; cases z
    | some S5=>
     simp only[zc] at z
     cases z
     exact Ge9 (K:=K) mp5 H5 S4 _ (.dct i) dk dv (.ref a) v u _ rs5 ⟨a,rfl,a5.pre _ _ (a4.pre _ _ la),a5.dcy _ (a4.dcy _ nd.1),nd.2⟩ (Rep.aft a5 _ _ r4) r5 zc fun H6 af6 rs6=>k _ _ ((a4.trans a5).trans af6) rs6
variable{XQ:XW}
theorem Gy6(i:Nat){y:Str}{py spos:Pos}{kx vx tg iter:Expr}{ifs:List Expr}{scope:Scope}{pos:Pos}{N':List Str}{pk:List (Option Nat)}{f:Ev Src}{g:Tg}{t:Ev Bool}{ek ev:Ev D}(ct:CompTab X.env.scope scope X.N N' pk)(hcm:X.calm=true)(hi:JI X XQ tg iter f)
  (hg:∀ cl s2 H2 C fp,JG (blk X s2 H2 C scope cl N' fp) tg g) (ht:∀ cl s2 H2 C fp,JTs (blk X s2 H2 C scope cl N' fp) XN ifs t) (hk:∀ cl s2 H2 C fp,JE (blk X s2 H2 C scope cl N' fp) XN kx ek) (hv:∀ cl s2 H2 C fp,JE (blk X s2 H2 C scope cl N' fp) XN vx ev) (hu:X.A.units+20<cLine)
  (hN:X.N.Nodup) (hy:X.N[i]?=some y:=by rfl) (hx:Loc X.env.scope y:=by first | exact Or.inl rfl | exact Or.inr rfl) (hsw:swapsWith (.DictComp kx vx [⟨tg,iter,ifs,0⟩] scope pos) (some (.Name y py)) spos.line X.env=pure true:=by rfl)
  (hs:∀ x,foldedSetIterable iter X.env x=pure x:=by intro _; rfl) (hf:X.fn y=true\/X.env.scope.names.lookup y=some .local:=by first | exact .inl rfl | exact .inr rfl | assumption):
  JS X XQ (.Assign [.Name y py] (.DictComp kx vx [⟨tg,iter,ifs,0⟩] scope pos) spos) (sa (dcm f pk g t ek ev) (gn i)):=by
 refine PS.mono (Gjd (g:=Gk3 X.K g) (tt:=rdT X.K XN t) (pe:=peD X.K (rdE X.K XN ek) (rdE X.K XN ev)) ckD nwD ct hcm hi hg ht (elD hk hv hu) hN hy hx hsw hs hf) fun E σ H ⟨mp,ρ,S,G,p⟩=>Gh6 (el:=eDs ek ev) (dv:=.dct) edD σ H _ ?_
 exact bindSP G p fun mp1 H1 d S1 v a1 G1 r1 p1=>PostS.nx p1 (G1.set i r1)
end
section
variable{X:Cx}{XQ:XW}
variable{k:Nat}{a b:Expr}{fa fb:Ev D}{pos:Pos}
end
end DL
namespace ST
open PySem PySem.SetTable
variable{mask p n j:Nat}{α:Type}
noncomputable def A5:Nat->Nat
 | 0=>0
 | n+1=>5*A5 n+1
theorem Gv8(m n:Nat):A5 (n+m)=A5 n+A5 m*(4*A5 n+1):=by
 induction m with
 | zero=>simp[A5]
 | succ m ih=>rw[<- AE]; simp only[A5,ih]; grind
theorem Gv9(k:Nat):∃ w,A5 (2^k)=2^k*(2*w+1):=by
 induction k with
 | zero=>exact⟨0,rfl⟩
 | succ k ih=>
  obtain⟨w,hw⟩:=ih
  have e:2^(k+1)=2^k+2^k:=by rw[Bl]; omega
  refine⟨w+(2*w+1)*A5 (2^k),?_⟩
  rw[e,Gv8]
  generalize A5 (2^k)=a at *
  subst hw
  generalize 2^k=p
  grind
noncomputable def g5(x:Nat):Nat->Nat
 | 0=>x
 | n+1=>5*g5 x n+1
theorem Gy7(x n:Nat):g5 x n=x+A5 n*(4*x+1):=by
 induction n with
 | zero=>simp[g5,A5]
 | succ n ih=>simp only[g5,A5,ih]; grind
theorem Gwa(x m n:Nat):g5 x (m+n)=g5 (g5 x m) n:=by
 induction n with
 | zero=>rfl
 | succ n ih=>rw[<- AE]; simp only[g5,ih]
theorem Gwb(k:Nat):∀ x f:Nat,∃ r,r<2^k/\g5 x r%2^k=f%2^k:=by
 induction k with
 | zero=>intro x f; exact⟨0,by decide,by simp[Nat.mod_one]⟩
 | succ k ih=>
  intro x f
  obtain⟨r,hr,e⟩:=ih x f
  have e2:2^(k+1)=2*2^k:=by rw[Bl,AO]
  obtain⟨w,hw⟩:=Gv9 k
  have e3:g5 x (r+2^k)=g5 x r+2^k*(2*(w*(4*g5 x r+1)+2*g5 x r)+1):=by
   rw[Gwa,Gy7,hw,Nat.mul_assoc]
   congr 2
   generalize g5 x r=y
   grind
  have h1:=Nat.mod_add_div (g5 x r) (2^k)
  have h2:=Nat.mod_add_div f (2^k)
  have hp:0<2^k:=Nat.two_pow_pos k
  generalize hP:2^k=P at *
  rw[e2]
  have key:∀ a q:Nat,(a%P+P*q)%(2*P)=a%P+P*(q%2):=by
   intro a q
   have:=Bb a hp
   have hq:=Nat.mod_add_div q 2
   have:a%P+P*q=(a%P+P*(q%2))+(2*P)*(q / 2):=by
    rw[AO 2 P,Nat.mul_assoc,AE,<- Nat.mul_add,hq]
   rw[this,Nat.add_mul_mod_self_left]
   apply BB
   rcases Nat.mod_two_eq_zero_or_one q with z | z<;>rw[z]<;>omega
  have hf:f%(2*P)=f%P+P*(f / P%2):=by rw[<- key f,h2]
  by_cases hc:g5 x r / P%2=f / P%2
  ·refine⟨r,by omega,?_⟩
   rw[hf,<- hc,<- e,<- key,h1]
  ·refine⟨r+P,by omega,?_⟩
   rw[e3,hf,<- e]
   generalize hz:w*(4*g5 x r+1)+2*g5 x r=z
   have:g5 x r+P*(2*z+1)=g5 x r%P+P*(g5 x r / P+(2*z+1)):=by rw[Nat.mul_add P (g5 x r / P),<- AE,h1]
   rw[this,key]
   congr 2
   omega
noncomputable def lp(mask:Nat)(q:Nat×Nat):Nat->Nat×Nat
 | 0=>q
 | n+1=>leap mask (lp mask q n).1 (lp mask q n).2
theorem Gwc(mask:Nat)(q:Nat×Nat)(n:Nat):(lp mask q n).2=q.2 / 32^n:=by
 induction n with
 | zero=>simp[lp]
 | succ n ih=>simp only[lp,leap,ih]; rw[Nat.div_div_eq_div_mul,Bl]
theorem Gfa(mask:Nat)(q:Nat×Nat)(m n:Nat):lp mask q (m+n)=lp mask (lp mask q m) n:=by
 induction n with
 | zero=>rfl
 | succ n ih=>rw[<- AE]; simp only[lp,ih]
theorem Gqt(mask i:Nat)(n:Nat):(lp mask (i,0) n).1%(mask+1)=g5 i n%(mask+1)/\(lp mask (i,0) n).2=0:=by
 induction n with
 | zero=>exact⟨rfl,rfl⟩
 | succ n ih=>
  obtain⟨a,b⟩:=ih
  simp only[lp,leap,b,g5,Nat.zero_div]
  refine⟨?_,trivial⟩
  simp only[Nat.add_zero,Nat.mod_mod]
  rw[Nat.add_mod,Nat.mul_mod,a,<- Nat.mul_mod,<- Nat.add_mod,AO]
theorem Gnr{k i f:Nat}(hm:mask+1=2^k)(hi:i<=mask)(hp:p<2^64)(hf:f<=mask):∃ m,m<mask+14/\(lp mask (i,p) m).1=f:=by
 have h0:(lp mask (i,p) 13).2=0:=by rw[Gwc]; exact Nat.div_eq_of_lt (Af hp (by decide))
 obtain⟨r,hr,e⟩:=Gwb k (lp mask (i,p) 13).1 f
 refine⟨13+r,by omega,?_⟩
 have hb:∀ n,(lp mask (i,p) n).1<=mask:=by
  intro n; cases n with
  | zero=>exact hi
  | succ n=>simp only[lp,leap]; exact BC (Bb _ (Bm _))
 have e1:=Gqt mask (lp mask (i,p) 13).1 r
 have e2:lp mask (i,p) 13=((lp mask (i,p) 13).1,0):=by rw[<- h0]
 rw[Gfa,e2]
 have e3:=hb (13+r)
 rw[Gfa,e2] at e3
 rw[<- hm] at e
 have:=e1.1.trans e
 rwa [BB (Nat.lt_succ_of_le e3),BB (Nat.lt_succ_of_le hf)] at this
noncomputable def Ris(xs:Array Nat):Prop:=∀ i j:Nat,i<j->(hj:j<xs.size)->xs.getD i 0<xs.getD j 0
theorem Gqu{xs:Array Nat}{i a:Nat}(h:i<xs.size):xs.getD i a=xs.getD i 0:=by simp[Array.getD,h]
theorem Gqv(xs:Array Nat)(j:Nat)(R:Ris xs):∀ (fuel lo hi:Nat),hi<=xs.size->lo<=hi->hi-lo<=fuel->(∀ i,i<lo->xs.getD i 0<j)->(∀ i,hi<=i->i<xs.size->j<=xs.getD i 0)→
  below.go xs j fuel lo hi<=xs.size/\(∀ i,i<below.go xs j fuel lo hi->xs.getD i 0<j)/\(∀ i,below.go xs j fuel lo hi<=i->i<xs.size->j<=xs.getD i 0):=by
 intro fuel
 induction fuel with
 | zero=>
  intro lo hi h1 h2 h3 h4 h5
  have:lo=hi:=by omega
  subst this
  simp only[below.go]
  exact⟨h1,h4,h5⟩
 | succ fuel ih=>
  intro lo hi h1 h2 h3 h4 h5
  simp only[below.go]
  by_cases hl:lo<hi
  ·rw[if_pos hl]
   have hm:(lo+hi) / 2<xs.size:=by omega
   rw[Gqu hm]
   by_cases hc:xs.getD ((lo+hi) / 2) 0<j
   ·rw[if_pos hc]
    refine ih _ _ h1 (by omega) (by omega) (fun i hi'=>?_) h5
    rcases Bv i ((lo+hi) / 2) with z | z
    ·exact Bk (R _ _ z hm) hc
    ·have:i=(lo+hi) / 2:=by omega
     subst this; exact hc
   ·rw[if_neg hc]
    refine ih _ _ (by omega) (by omega) (by omega) h4 (fun i hi' hs=>?_)
    rcases Bv ((lo+hi) / 2) i with z | z
    ·exact Ao (Bz hc) (Bd (R _ _ z hs))
    ·have:i=(lo+hi) / 2:=by omega
     subst this; exact Bz hc
  ·rw[if_neg hl]
   have:lo=hi:=by omega
   subst this
   exact⟨h1,h4,h5⟩
theorem Gig{xs:Array Nat}(j:Nat)(R:Ris xs):below xs j<=xs.size/\(∀ i,i<below xs j->xs.getD i 0<j)/\(∀ i,below xs j<=i->i<xs.size->j<=xs.getD i 0):=
 Gqv xs j R _ 0 xs.size (Aa _) (AC _) (Aa _) (fun _ h=>absurd h (Nat.not_lt_zero _)) (fun i h1 h2=>absurd h2 (Nat.not_lt.mpr h1))
structure Tb(t:SetTable)(n:Nat):Prop where
 pow:∃ k,t.mask+1=2^k
 dum:t.dummies=#[]
 ris:Ris t.place
 le:∀ i,i<t.place.size->t.place.getD i 0<=t.mask
 sz:t.place.size=n
theorem Gan{t:SetTable}(T:Tb t n)(h:t.slot j≠.empty):∃ i,t.slot j=.live i/\i<t.place.size/\t.place.getD i 0=j:=by
 have hd:has t.dummies j=false:=by rw[T.dum]; simp[has]
 revert h
 simp only[SetTable.slot,hd,beq_iff_eq]
 by_cases hc:t.place[below t.place j]?=some j
 ·simp only[hc,if_true]
  intro _
  have hl:below t.place j<t.place.size:=(Array.getElem?_eq_some_iff.mp hc).1
  refine⟨_,rfl,hl,?_⟩
  have:=(Array.getElem?_eq_some_iff.mp hc).2
  simp[Array.getD,hl,this]
 ·simp[hc]
theorem Gih{t:SetTable}(T:Tb t n)(h:∀ i,i<t.place.size->t.place.getD i 0≠j):t.slot j=.empty:=by
 cases he:decide (t.slot j=.empty) with
 | true=>exact of_decide_eq_true he
 | false=>obtain⟨i,_,hi,e⟩:=Gan T (of_decide_eq_false he); exact absurd e (h i hi)
theorem Gqw{t:SetTable}(T:Tb t n){i:Nat}(h:t.slot j=.live i):i<t.place.size/\t.place.getD i 0=j:=by
 obtain⟨i',e,a,b⟩:=Gan (t:=t) (j:=j) T (by rw[h]; simp)
 rw[h] at e; cases e; exact⟨a,b⟩
theorem exfree:∀ (n m:Nat) (p:Nat->Nat),n<=m->∃ f,f<=m/\∀ i,i<n->p i≠f:=by
 intro n
 induction n with
 | zero=>intro m p _; exact⟨0,AC _,fun i h=>absurd h (Nat.not_lt_zero _)⟩
 | succ n ih=>
  intro m p hm
  cases m with
  | zero=>omega
  | succ m=>
   obtain⟨f,hf,q⟩:=ih m (fun i=>if p i<p n then p i else p i-1) (by omega)
   by_cases hc:f<p n
   ·refine⟨f,by omega,fun i hi=>?_⟩
    rcases Bv i n with z | z
    ·have:=q i z
     split at this<;>omega
    ·have:i=n:=by omega
     subst this; omega
   ·refine⟨f+1,by omega,fun i hi=>?_⟩
    rcases Bv i n with z | z
    ·have:=q i z
     split at this<;>omega
    ·have:i=n:=by omega
     subst this; omega
theorem Tb.free{t:SetTable}(T:Tb t n)(h:n<=t.mask):∃ f,f<=t.mask/\t.slot f=.empty:=by
 obtain⟨f,hf,q⟩:=exfree n t.mask (fun i=>t.place.getD i 0) h
 exact⟨f,hf,Gih T fun i hi=>q i (T.sz▸hi)⟩
noncomputable def adv(t:SetTable)(p:Probe):Nat->Probe
 | 0=>p
 | n+1=>adv t (t.advance p) n
theorem Gqx(t:SetTable)(p:Probe)(m n:Nat):adv t p (m+n)=adv t (adv t p m) n:=by
 induction m generalizing p with
 | zero=>simp[adv]
 | succ m ih=>rw[Nat.add_right_comm]; simp only[adv]; exact ih _
theorem Gd9(mask i:Nat):runEnd mask i-i<=9:=by unfold runEnd; split<;>omega
theorem Gns(t:SetTable):∀ (m:Nat) (p:Probe),p.more=m->∃ s,s<=m+1/\(adv t p s).j=(adv t p s).i/\((adv t p s).i,(adv t p s).perturb)=leap t.mask p.i p.perturb/\(adv t p s).more<=9:=by
 intro m
 induction m with
 | zero=>intro p hp; exact⟨1,Aa _,by simp[adv,SetTable.advance,hp],by simp[adv,SetTable.advance,hp],by simp only[adv,SetTable.advance,hp]; exact Gd9 _ _⟩
 | succ m ih=>
  intro p hp
  have e:(t.advance p)={ p with j:=p.j+1,more:=p.more-1 }:=by simp[SetTable.advance,hp]
  obtain⟨s,hs,q⟩:=ih (t.advance p) (by rw[e]; simp[hp])
  refine⟨s+1,by omega,?_⟩
  simp only[adv]
  rw[e] at q
  rw[e]
  exact q
theorem Gwd(t:SetTable)(m:Nat):∀ (p:Probe),p.j=p.i->p.more<=9->∃ s,s<=10*m/\(adv t p s).j=(lp t.mask (p.i,p.perturb) m).1:=by
 induction m with
 | zero=>intro p h _; exact⟨0,Aa _,h⟩
 | succ m ih=>
  intro p h hm
  obtain⟨s,hs,a,b,c⟩:=Gns t _ p rfl
  obtain⟨s',hs',q⟩:=ih (adv t p s) a c
  refine⟨s+s',by omega,?_⟩
  rw[Gqx,q,b,Ba m 1,Gfa]
  rfl
theorem Gii{t:SetTable}(T:Tb t n)(hn:n<=t.mask)(h:Int):∃ s,s<10*turns t.mask/\t.slot (adv t (t.probeStart h) s).j=.empty:=by
 obtain⟨f,hf,e⟩:=T.free hn
 obtain⟨k,hk⟩:=T.pow
 have hb:bits h<2^64:=by
  unfold bits
  have h1:=A1 h (show((2:Int)^64)≠0 by decide)
  have h2:=Bc h (show(0:Int)<2^64 by decide)
  omega
 obtain⟨m,hm,q⟩:=Gnr (mask:=t.mask) (i:=bits h%(t.mask+1)) (p:=bits h) hk (BC (Bb _ (Bm _))) hb hf
 obtain⟨s,hs,q2⟩:=Gwd t m (t.probeStart h) rfl (Gd9 _ _)
 refine⟨s,by unfold turns; omega,?_⟩
 rw[q2]
 show t.slot (lp t.mask (bits h%(t.mask+1),bits h) m).1=_
 rw[q]; exact e
noncomputable def Pin(t:SetTable)(p:Probe):Prop:=p.dummy=none/\p.j+p.more<=t.mask
theorem Gqy{t:SetTable}{p:Probe}(h:Pin t p):Pin t (t.advance p):=by
 obtain⟨a,b⟩:=h
 unfold SetTable.advance
 split
 ·exact⟨a,by simp only; omega⟩
 ·refine⟨a,?_⟩
  simp only[leap]
  have:=Bb (p.i*5+1+p.perturb / 32) (Bm t.mask)
  generalize (p.i*5+1+p.perturb / 32)%(t.mask+1)=z at *
  unfold runEnd
  split<;>omega
theorem Glb(t:SetTable)(h:Int):Pin t (t.probeStart h):=by
 refine⟨rfl,?_⟩
 simp only[SetTable.probeStart]
 have:=Bb (bits h) (Bm t.mask)
 generalize bits h%(t.mask+1)=z at *
 unfold runEnd
 split<;>omega
theorem Glc{t:SetTable}(T:Tb t n)(hashAt:Nat->Int)(h:Int):∀ (s fuel:Nat) (p:Probe),s<fuel->Pin t p->t.slot (adv t p s).j=.empty→
  (∃ j,probe.go t hashAt h fuel p=some (.empty j none)/\t.slot j=.empty/\j<=t.mask)∨
  (∃ j i next s',probe.go t hashAt h fuel p=some (.candidate j i next)/\t.slot j=.live i/\hashAt i=h/\s'<s/\Pin t next/\t.slot (adv t next s').j=.empty):=by
 intro s
 induction s with
 | zero=>
  intro fuel p hf hd he
  cases fuel with
  | zero=>omega
  | succ fuel=>exact .inl ⟨p.j,by simp only[adv] at he; simp[probe.go,he,hd.1],he,by have:=hd.2; omega⟩
 | succ s ih=>
  intro fuel p hf hd he
  cases fuel with
  | zero=>omega
  | succ fuel=>
   cases hc:decide (t.slot p.j=.empty) with
   | true=>have hc:=of_decide_eq_true hc; exact .inl ⟨p.j,by simp[probe.go,hc,hd.1],hc,by have:=hd.2; omega⟩
   | false=>
    obtain⟨i,e,_,_⟩:=Gan T (of_decide_eq_false hc)
    have hd':=Gqy hd
    by_cases hh:hashAt i=h
    ·exact .inr ⟨p.j,i,t.advance p,s,by simp[probe.go,e,hh],e,hh,AJ _,hd',he⟩
    ·have eg:probe.go t hashAt h (fuel+1) p=probe.go t hashAt h fuel (t.advance p):=by simp[probe.go,e,hh]
     rw[eg]
     rcases ih fuel (t.advance p) (by omega) hd' he with⟨j,a,b⟩ | ⟨j,i',nx,s',a,b,c,d,f,g⟩
     ·exact .inl ⟨j,a,b⟩
     ·exact .inr ⟨j,i',nx,s',a,b,c,AZ d,f,g⟩
theorem Gfb{xs:Array α}{x:α}(hp:p<=xs.size)(i:Nat):(insertAt xs p x)[i]?=if i<p then xs[i]? else if i=p then some x else xs[i-1]?:=by
 have h1:(xs.extract 0 p).size=p:=by simp; omega
 unfold insertAt
 rw[Array.getElem?_append,Array.getElem?_push,Array.size_push,h1]
 by_cases a:i<p
 ·rw[if_pos (by omega),if_neg (by omega),if_pos a]; simp[Array.getElem?_extract]; omega
 ·by_cases b:i=p
  ·rw[if_pos (by omega),if_pos b,if_neg a,if_pos b]
  ·rw[if_neg (by omega),if_neg a,if_neg b,Array.getElem?_extract]
   have:p+(i-(p+1))=i-1:=by omega
   rw[this]
   split
   ·rfl
   ·exact(Array.getElem?_eq_none (by omega)).symm
theorem Zl{xs:Array α}{x:α}(hp:p<=xs.size):(insertAt xs p x).size=xs.size+1:=by
 unfold insertAt; simp; omega
theorem Gqz{xs:Array α}{x y:α}(hp:p<=xs.size)(h:y∈insertAt xs p x):y∈xs\/y=x:=by
 obtain⟨i,hi⟩:=Array.mem_iff_getElem?.mp h
 rw[Gfb hp] at hi
 split at hi
 ·exact .inl (Array.mem_of_getElem? hi)
 ·split at hi
  ·cases hi; exact .inr rfl
  ·exact .inl (Array.mem_of_getElem? hi)
theorem Xz(xs:Array Nat)(i:Nat):xs.getD i 0=(xs[i]?).getD 0:=by simp[Array.getD_eq_getD_getElem?]
theorem Tb.put{t:SetTable}(T:Tb t n)(he:t.slot j=.empty)(hj:j<=t.mask):Tb (t.put j).1 (n+1)/\(t.put j).1.mask=t.mask/\(t.put j).2<=n/\(t.put j).1.plain=t.plain/\(t.put j).1.led=t.led/\(t.put j).1.moves=t.moves:=by
 obtain⟨b1,b2,b3⟩:=Gig (xs:=t.place) j T.ris
 have hne:∀ i,i<t.place.size->t.place.getD i 0≠j:=by
  intro i hi e
  have hb:below t.place j=i:=by
   rcases BD (below t.place j) i with z | z | z
   ·have:=b3 _ (Aa _) (by omega); have:=T.ris _ _ z hi; omega
   ·exact z
   ·have:=b2 _ z; omega
  revert he
  simp only[SetTable.slot,hb]
  have:t.place[i]?=some j:=by rw[<- e]; simp[Array.getD,hi]
  simp[this]
 refine⟨⟨T.pow,?_,?_,?_,?_⟩,rfl,by rw[<- T.sz]; exact b1,rfl,rfl,rfl⟩
 ·simp[SetTable.put,T.dum,has]
 ·intro i k hik hk
  simp only[SetTable.put] at hk ⊢
  rw[Zl b1] at hk
  rw[Xz,Xz,Gfb b1,Gfb b1]
  generalize below t.place j=p at *
  have G:∀ a,(t.place[a]?).getD 0=t.place.getD a 0:=fun a=>(Xz _ a).symm
  rcases BD k p with z | z | z
  ·rw[if_pos z,if_pos (Bk hik z),G,G]; exact T.ris _ _ hik (by omega)
  ·have y:i<p:=by omega
   rw[if_neg (by omega:¬ k<p),if_pos z,if_pos y,G]; exact b2 _ y
  ·rw[if_neg (by omega:¬ k<p),if_neg (by omega:¬ k=p),G]
   have h3:=b3 (k-1) (by omega) (by omega)
   rcases BD i p with y | y | y
   ·rw[if_pos y,G]; exact Af (b2 _ y) h3
   ·rw[if_neg (by omega:¬ i<p),if_pos y]; have:=hne (k-1) (by omega); simp only[BE]; omega
   ·rw[if_neg (by omega:¬ i<p),if_neg (by omega:¬ i=p),G]; exact T.ris _ _ (by omega) (by omega)
 ·intro i hi
  simp only[SetTable.put] at hi ⊢
  rw[Zl b1] at hi
  rw[Xz,Gfb b1]
  split
  ·rw[<- Xz]; exact T.le _ (by omega)
  ·split
   ·exact hj
   ·rw[<- Xz]; exact T.le _ (by omega)
 ·simp only[SetTable.put]; rw[Zl b1,T.sz]
structure Ow(mask:Nat)(o:Array (Option Nat))(k:Nat):Prop where
 sz:o.size=mask+1
 cnt:(o.toList.filterMap id).length=k
 lt:∀ v∈o.toList.filterMap id,v<k
theorem Gq0{k:Nat}(hp:mask+1=2^k){o:Array (Option Nat)}(hs:o.size=mask+1){f:Nat}(hf:f<=mask)(hn:o.getD f (some 0)=none):∀ (m fuel i p:Nat),m<fuel->(lp mask (i,p) m).1=f->∃ j,layClean.free mask o fuel i p=some j/\o.getD j (some 0)=none:=by
 intro m
 induction m with
 | zero=>
  intro fuel i p hm e
  cases fuel with
  | zero=>omega
  | succ fuel=>
   simp only[lp] at e
   subst e
   simp only[layClean.free]
   cases hc:(List.range (runEnd mask i+1-i)).find? fun k=>(o.getD (i+k) (some 0)).isNone with
   | some q=>exact⟨_,rfl,by have:=List.find?_some hc; simpa using this⟩
   | none=>
    have:=List.find?_eq_none.mp hc 0 (AU.mpr (by unfold runEnd; split<;>omega))
    simp[hn] at this
 | succ m ih=>
  intro fuel i p hm e
  cases fuel with
  | zero=>omega
  | succ fuel=>
   simp only[layClean.free]
   cases hc:(List.range (runEnd mask i+1-i)).find? fun k=>(o.getD (i+k) (some 0)).isNone with
   | some q=>exact⟨_,rfl,by have:=List.find?_some hc; simpa using this⟩
   | none=>
    refine ih fuel _ _ (by omega) ?_
    rw[Ba m 1,Gfa] at e
    exact e
theorem Gnt:∀ (l:List (Option Nat)),(l.filterMap id).length<l.length->∃ f,f<l.length/\l[f]?=some none
 | [],h=>by simp at h
 | none::l,_=>⟨0,by simp,rfl⟩
 | some a::l,h=>by
  obtain⟨f,hf,e⟩:=Gnt l (by simpa using h)
  exact⟨f+1,by simpa using hf,by simpa using e⟩
theorem Gnu:∀ (l:List (Option Nat)) (j v:Nat),l[j]?=some none->((l.set j (some v)).filterMap id).length=(l.filterMap id).length+1/\∀ x∈(l.set j (some v)).filterMap id,x∈l.filterMap id\/x=v
 | [],j,v,h=>by simp at h
 | a::l,0,v,h=>by
  simp only[List.getElem?_cons_zero,Option.some.injEq] at h
  subst h
  refine⟨by simp,fun x hx=>?_⟩
  simp only[List.set_cons_zero,AM,id,Ad] at hx
  rcases hx with hx | hx
  ·exact .inr hx
  ·exact .inl (by simpa using hx)
 | a::l,j+1,v,h=>by
  obtain⟨h1,h2⟩:=Gnu l j v (by simpa using h)
  cases a with
  | none=>exact⟨by simpa using h1,fun x hx=>by simpa using h2 x (by simpa using hx)⟩
  | some b=>
   refine⟨by simpa using h1,fun x hx=>?_⟩
   simp only[List.set_cons_succ,AM,id,Ad] at hx ⊢
   rcases hx with hx | hx
   ·exact .inl (.inl hx)
   ·rcases h2 x hx with q | q
    ·exact .inl (.inr q)
    ·exact .inr q
theorem Gnv{k:Nat}(hp:mask+1=2^k):∀ (hs:List Int) (o:Array (Option Nat)) (c:Nat),Ow mask o c->c+hs.length<=mask→
  ∃ o',hs.foldl (fun acc h=>do
   let (owner,k) <- acc
   let j <- layClean.free mask owner (turns mask) (bits h%(mask+1)) (bits h)
   pure (owner.setIfInBounds j (some k),k+1)) (some (o,c))=some (o',c+hs.length)/\Ow mask o' (c+hs.length):=by
 intro hs
 induction hs with
 | nil=>intro o c W _; exact⟨o,rfl,W⟩
 | cons h hs ih=>
  intro o c W hl
  simp only[AL] at hl
  obtain⟨f,hf,e⟩:=Gnt o.toList (by rw[W.cnt,Array.length_toList,W.sz]; omega)
  have hb:bits h<2^64:=by
   unfold bits
   have h1:=A1 h (show((2:Int)^64)≠0 by decide)
   have h2:=Bc h (show(0:Int)<2^64 by decide)
   omega
  have hf2:f<=mask:=by rw[Array.length_toList,W.sz] at hf; omega
  obtain⟨m,hm,q⟩:=Gnr (mask:=mask) (i:=bits h%(mask+1)) (p:=bits h) hp (BC (Bb _ (Bm _))) hb hf2
  have hn:o.getD f (some 0)=none:=by rw[Array.getD_eq_getD_getElem?,<- Array.getElem?_toList,e]; rfl
  obtain⟨j,ej,nj⟩:=Gq0 hp W.sz hf2 hn m (turns mask) _ _ (by unfold turns; omega) q
  have nj':o.toList[j]?=some none:=by
   rw[Array.getD_eq_getD_getElem?,<- Array.getElem?_toList] at nj
   cases hq:o.toList[j]? with
   | none=>rw[hq] at nj; simp at nj
   | some v=>rw[hq] at nj; simp at nj; rw[nj]
  obtain⟨c1,c2⟩:=Gnu o.toList j c nj'
  have W':Ow mask (o.setIfInBounds j (some c)) (c+1):=by
   refine⟨by simp[W.sz],by rw[Array.toList_setIfInBounds,c1,W.cnt],fun v hv=>?_⟩
   rw[Array.toList_setIfInBounds] at hv
   rcases c2 v hv with z | z
   ·exact AZ (W.lt v z)
   ·omega
  obtain⟨o',e',W''⟩:=ih _ _ W' (by omega)
  refine⟨o',?_,by rw[AL,Ba hs.length 1,<- AE]; exact W''⟩
  rw[List.foldl_cons,AL,Ba hs.length 1,<- AE,<- e']
  congr 1
  simp[ej]
noncomputable def lv:Nat->List (Option Nat)->List (Nat×Nat)
 | _,[]=>[]
 | s,none::l=>lv (s+1) l
 | s,some a::l=>(s,a)::lv (s+1) l
theorem Gs3{o:Array (Option Nat)}:∀ (l:List (Option Nat)) (s:Nat),(∀ i,i<l.length->o.getD (s+i) none=(l[i]?).getD none)->(List.range' s l.length).filterMap (fun j=>(o.getD j none).map (j,·))=lv s l
 | [],_,_=>rfl
 | a::l,s,h=>by
  have h0:o.getD s none=a:=by have:=h 0 (by simp); simpa using this
  have ih:=Gs3 l (s+1) (fun i hi=>by have:=h (i+1) (by simpa using hi); rw[AE,Ba 1 i,this]; simp)
  rw[AL,List.range'_succ,AM,h0,ih]
  cases a<;>rfl
theorem Gij:∀ (l:List (Option Nat)) (s:Nat),(lv s l).map (·.2)=l.filterMap id
 | [],_=>rfl
 | none::l,s=>by simpa[lv] using Gij l (s+1)
 | some a::l,s=>by simpa[lv] using Gij l (s+1)
theorem Gik:∀ (l:List (Option Nat)) (s:Nat),((lv s l).map (·.1)).Pairwise (·<·)/\∀ x∈(lv s l).map (·.1),s<=x/\x<s+l.length
 | [],s=>⟨List.Pairwise.nil,fun x h=>by simp[lv] at h⟩
 | none::l,s=>by
  obtain⟨a,b⟩:=Gik l (s+1)
  refine⟨a,fun x hx=>?_⟩
  have:=b x hx
  simp only[AL]; omega
 | some v::l,s=>by
  obtain⟨a,b⟩:=Gik l (s+1)
  refine⟨List.pairwise_cons.mpr ⟨fun x hx=>(b x hx).1,a⟩,fun x hx=>?_⟩
  simp only[lv,Au,Ad] at hx
  simp only[AL]
  rcases hx with hx | hx
  ·omega
  ·have:=b x hx; omega
theorem Gwe{l:List Nat}(h:l.Pairwise (·<·)):Ris l.toArray:=by
 intro i j hij hj
 have hj':j<l.length:=by simpa using hj
 have hi':i<l.length:=by omega
 have e:∀ a (h:a<l.length),l.toArray.getD a 0=l[a]:=fun a h=>by simp[Array.getD_eq_getD_getElem?,h]
 rw[e i hi',e j hj']
 exact List.pairwise_iff_getElem.mp h i j hi' hj' hij
theorem Gq1{k finger moves:Nat}{led plain:Bool}(hp:mask+1=2^k){hs:Array Int}(hn:hs.size<=mask):
  ∃ t order,laid mask finger moves led plain hs=some (t,order)/\Tb t hs.size/\t.mask=mask/\t.led=led/\t.moves=moves/\order.size=hs.size/\∀ v∈order,v<hs.size:=by
 have W0:Ow mask (Array.replicate (mask+1) none) 0:=by
  refine⟨by simp,?_,?_⟩<;>simp[List.filterMap_replicate]
 obtain⟨o,e,W⟩:=Gnv hp hs.toList _ 0 W0 (by simpa using hn)
 simp only[Bw,Array.length_toList] at e W
 have ec:layClean mask hs=some o:=by
  unfold layClean
  rw[<- Array.foldl_toList,e]
  rfl
 have el:(List.range (mask+1)).filterMap (fun j=>(o.getD j none).map (j,·))=lv 0 o.toList:=by
  rw[List.range_eq_range',show mask+1=o.toList.length by rw[Array.length_toList,W.sz]]
  refine Gs3 o.toList 0 fun i _=>?_
  rw[Bw,Array.getD_eq_getD_getElem?,<- Array.getElem?_toList]
 obtain⟨f1,f2⟩:=Gik o.toList 0
 have f3:=Gij o.toList 0
 have f4:(lv 0 o.toList).length=hs.size:=by rw[<- AD (·.2),f3,W.cnt]
 refine⟨_,_,by unfold laid; rw[ec]; simp only[Option.bind_eq_bind,AQ,el]; rfl,⟨⟨k,hp⟩,rfl,Gwe f1,?_,by simp[f4]⟩,rfl,rfl,rfl,by simp[f4],?_⟩
 ·intro i hi
  have hi':i<((lv 0 o.toList).map (·.1)).length:=by simpa using hi
  have:=f2 _ (A2 hi')
  rw[Bw,Array.length_toList,W.sz] at this
  have e:∀ (l:List Nat) a (h:a<l.length),l.toArray.getD a 0=l[a]:=fun l a h=>by simp[Array.getD_eq_getD_getElem?,h]
  show((lv 0 o.toList).map (·.1)).toArray.getD i 0<=mask
  rw[e _ _ hi']
  omega
 ·intro v hv
  rw[f3] at hv
  exact W.lt v (by simpa using hv)
theorem Gdf(n:Nat):∀ (fuel k:Nat),∃ k',sizeAbove.go n fuel (2^k)=2^k'/\k<=k':=by
 intro fuel
 induction fuel with
 | zero=>intro k; exact⟨k,rfl,Aa _⟩
 | succ f ih=>
  intro k
  simp only[sizeAbove.go]
  split
  ·rw[show 2^k*2=2^(k+1) from(Bl 2 k).symm]
   obtain⟨k',a,b⟩:=ih (k+1)
   exact⟨k',a,by omega⟩
  ·exact⟨k,rfl,Aa _⟩
theorem Gfc(n:Nat):∀ (fuel s:Nat),n<s*2^fuel->n<sizeAbove.go n fuel s/\(s<=2*n+8->sizeAbove.go n fuel s<=2*n+8):=by
 intro fuel
 induction fuel with
 | zero=>intro s h; simp only[sizeAbove.go]; exact⟨by simpa using h,id⟩
 | succ f ih=>
  intro s h
  simp only[sizeAbove.go]
  split
  ·obtain⟨a,b⟩:=ih (s*2) (by rw[Nat.mul_assoc,<- Nat.pow_succ',AO]; rw[AO]; exact h)
   exact⟨a,fun _=>b (by omega)⟩
  ·exact⟨by omega,id⟩
theorem Gfd(h:n<100000):∃ k,sizeAbove n=2^k/\8<=sizeAbove n/\n<sizeAbove n/\sizeAbove n<=2*n+8:=by
 obtain⟨k,a,b⟩:=Gdf n 64 3
 obtain⟨c,d⟩:=Gfc n 64 8 (Af h (by decide))
 refine⟨k,a,?_,c,d (by omega)⟩
 show 8<=sizeAbove.go n 64 8
 have:sizeAbove.go n 64 (2^3)=2^k:=a
 rw[show(8:Nat)=2^3 from rfl,this]
 exact Nat.pow_le_pow_right (by decide) b
structure Tg(t:SetTable)(n:Nat):Prop where
 b:Tb t n
 low:n*5<t.mask*3
 high:t.mask<=8*n+8
theorem Gnw(led:Bool):Tg (SetTable.fresh 0 0 led) 0:=by
 refine⟨⟨⟨3,rfl⟩,rfl,?_,?_,rfl⟩,(by decide:0*5<7*3),(by decide:7<=8*0+8)⟩
 ·intro i j _ h; simp[SetTable.fresh] at h
 ·intro i h; simp[SetTable.fresh] at h
end ST
namespace ST
open PySem PySem.SetTable PySem.Spec PyProof.Rows L2
section
noncomputable def OfP(k:NK):Prop:=∀ (prog:Program) (w:World) (A:Around) (E:Value->Shared->Prop) (s:Shared) (v:Value) (as:List Addr) (n:Nat) (Q:Bool->Shared->Prop),
 Reads s.heap v (pk k) as->(pk k).depth<=n->Q false s->wpAny (model prog w) A (ofAClassStatement n v) Q E s
noncomputable def HbP(k:NK):Prop:=∀ (prog:Program) (w:World) (A:Around) (E:Value->Shared->Prop) (s:Shared) (v:Value) (as:List Addr) (n:Nat) (Q:Bool->Shared->Prop),
 Reads s.heap v (pk k) as->(pk k).depth<=n->Q true s->wpAny (model prog w) A (hashByValue n v) Q E s
theorem Gwf{l:List NK}(ih:∀ k∈l,OfP k):OfP (.t l):=by
 intro prog w A E s v as n Q r hn h
 simp only[pk] at r
 cases r with
 | @tuple a o vs n' xs as ho hc hd rs=>
  have hT:s.TypeIs (.ref a) "tuple":=⟨o,ho,hc⟩
  have hdep:(pk (.t l)).depth=PyData.depthAll (pks l)+1:=by simp[pk,PyData.depth]
  rw[hdep] at hn
  cases n with
  | zero=>omega
  | succ n=>
   unfold ofAClassStatement
   refine wpAny_bind (wpAny_typeOf hT ?_)
   dsimp only
   rw[if_pos (by decide)]
   refine wpAny_bind (wpAny_pure ?_)
   simp only[A6,Ak,if_false]
   refine wpAny_bind (wpAny_seqItems ho hd ?_)
   dsimp only
   refine wpAny_bind ?_
   rw[<- Array.forIn_toList]
   refine wpAny_forIn_list _ (fun rest r s'=>r.1=none/\s'=s/\∃ left cs,(∀ k∈left,k∈l)/\ReadsAll s.heap rest (pks left) cs) _ ?_ ?_ _ _ ⟨rfl,rfl,l,as,fun _ h=>h,rs⟩
   ·rintro x rest r s' ⟨hr,rfl,left,cs,hm,hl⟩
    cases left with
    | nil=>simp only[pks] at hl; cases hl
    | cons k left=>
     simp only[pks] at hl
     cases hl with
     | @cons _ _ _ _ c1 c2 h1 h2=>
      have hk:=hm k Aq
      have hdk:=Uy hk
      refine wpAny_bind (ih k hk prog w _ _ _ x c1 n _ h1 (by omega) ?_)
      simp only[Ak,if_false]
      exact wpAny_pure ⟨rfl,rfl,left,c2,fun q hq=>hm q (An _ hq),h2⟩
   ·rintro⟨r1,r2⟩ s' ⟨hr,rfl,_⟩
    simp only at hr
    subst hr
    exact wpAny_pure h
mutual
theorem of_ok:∀ k:NK,OfP k
 | .i m=>by
  intro prog w A E s v as n Q r hn h
  simp only[pk] at r
  cases r
  unfold ofAClassStatement
  exact wpAny_pure h
 | .t l=>Gwf (of_all l)
theorem of_all:∀ (l:List NK) (k:NK),k∈l->OfP k
 | [],k,h=>by simp at h
 | a::r,k,h=>(Ad.mp h).elim (fun e=>e▸of_ok a) (fun m=>of_all r k m)
end
theorem Gwg{l:List NK}(ih:∀ k∈l,HbP k):HbP (.t l):=by
 intro prog w A E s v as n Q r hn h
 simp only[pk] at r
 cases r with
 | @tuple a o vs n' xs as ho hc hd rs=>
  have hT:s.TypeIs (.ref a) "tuple":=⟨o,ho,hc⟩
  have hdep:(pk (.t l)).depth=PyData.depthAll (pks l)+1:=by simp[pk,PyData.depth]
  rw[hdep] at hn
  cases n with
  | zero=>omega
  | succ n=>
   unfold hashByValue
   refine wpAny_bind (wpAny_specialOf hT F.slot_tuple_hash.lookup ?_)
   dsimp only
   refine wpAny_bind (wpAny_seqItems ho hd ?_)
   dsimp only[Option.getD]
   refine wpAny_bind ?_
   rw[<- Array.forIn_toList]
   refine wpAny_forIn_list _ (fun rest r s'=>r.1=none/\s'=s/\∃ left cs,(∀ k∈left,k∈l)/\ReadsAll s.heap rest (pks left) cs) _ ?_ ?_ _ _ ⟨rfl,rfl,l,as,fun _ h=>h,rs⟩
   ·rintro x rest r s' ⟨hr,rfl,left,cs,hm,hl⟩
    cases left with
    | nil=>simp only[pks] at hl; cases hl
    | cons k left=>
     simp only[pks] at hl
     cases hl with
     | @cons _ _ _ _ c1 c2 h1 h2=>
      have hk:=hm k Aq
      have hdk:=Uy hk
      refine wpAny_bind (ih k hk prog w _ _ _ x c1 n _ h1 (by omega) ?_)
      simp only[A6,Ak,if_false]
      exact wpAny_pure ⟨rfl,rfl,left,c2,fun q hq=>hm q (An _ hq),h2⟩
   ·rintro⟨r1,r2⟩ s' ⟨hr,rfl,_⟩
    simp only at hr
    subst hr
    exact wpAny_pure h
mutual
theorem hb_ok:∀ k:NK,HbP k
 | .i m=>by
  intro prog w A E s v as n Q r hn h
  simp only[pk] at r
  cases r
  cases n<;>(unfold hashByValue; exact wpAny_pure h)
 | .t l=>Gwg (hb_all l)
theorem hb_all:∀ (l:List NK) (k:NK),k∈l->HbP k
 | [],k,h=>by simp at h
 | a::r,k,h=>(Ad.mp h).elim (fun e=>e▸hb_ok a) (fun m=>hb_all r k m)
end
mutual
theorem Gg3:∀ (k:NK) {h h':Heap} {v:Value} {as:List Addr} {d:Addr},Reads h v (pk k) as->(∀ o,h.get? d=some o->o.cls≠.type "tuple")->(∀ x o,x≠d->h.get? x=some o->h'.get? x=some o)->Reads h' v (pk k) as
 | .i n,h,h',v,as,d,r,_,_=>by
  simp only[pk] at r ⊢
  cases r
  exact .int _ _
 | .t l,h,h',v,as,d,r,hd,hs=>by
  simp only[pk] at r ⊢
  cases r with
  | @tuple a o' vs n' xs as ho' hc hd' rs=>
   have hne:a≠d:=by
    rintro rfl
    exact hd _ ho' hc
   exact .tuple (hs a _ hne ho') hc hd' (rds_keeps l rs hd hs)
theorem rds_keeps:∀ (l:List NK) {h h':Heap} {v:List Value} {as:List Addr} {d:Addr},ReadsAll h v (pks l) as->(∀ o,h.get? d=some o->o.cls≠.type "tuple")->(∀ x o,x≠d->h.get? x=some o->h'.get? x=some o)->ReadsAll h' v (pks l) as
 | [],h,h',v,as,d,r,_,_=>by
  simp only[pks] at r ⊢
  cases r
  exact .nil
 | k::l,h,h',v,as,d,r,hd,hs=>by
  simp only[pks] at r ⊢
  cases r with
  | cons r1 r2=>exact .cons (Gg3 k r1 hd hs) (rds_keeps l r2 hd hs)
end
theorem Gg4{k:NK}{h h':Heap}{a d:Addr}(r:Wl h k a)(hd:∀ o,h.get? d=some o->o.cls≠.type "tuple")(hs:∀ x o,x≠d->h.get? x=some o->h'.get? x=some o):Wl h' k a:=⟨⟨_,Gg3 k r.1.choose_spec hd hs⟩,r.2⟩
end
structure SetN(h:Heap)(a:Addr)(ks:List NK)(n:Nat)(o:Obj)(es:Array (Int×Value))(ep:Nat)(t:SetTable):Prop where
 ho:h.get? a=some o
 ex:o.ExactSet
 hd:o.data=.set es ep t
 tg:Tg t n
 sz:es.size=n
 el:∀ e∈es,∃ k b,k∈ks/\e=(nkh k,.ref b)/\Wl h k b
section
variable{prog:Program}{w:World}{A:Around}{E:Value->Shared->Prop}{s:Shared}{a x:Addr}{ks:List NK}{n:Nat}{o:Obj}{es:Array (Int×Value)}{ep:Nat}{t:SetTable}{k:NK}
theorem Tg.fits(T:Tg t n):t.fits n=true:=by
 have:=T.low
 simp only[SetTable.fits,SetTable.fill,T.b.sz,T.b.dum,As,beq_self_eq_true,decide_eq_true_eq,true_and]
 simp; omega
theorem SetN.fits(S:SetN s.heap a ks n o es ep t):t.fits es.size=true:=by rw[S.sz]; exact S.tg.fits
theorem Tg.odd(T:Tg t n):t.gaveWay=false:=by
 obtain⟨k,hk⟩:=T.b.pow
 have:=T.low
 cases k with
 | zero=>simp at hk; omega
 | succ k=>
  rw[Bl] at hk
  simp only[SetTable.gaveWay,beq_eq_false_iff_ne]
  omega
theorem Gq2{l:List Value}{Q:Bool->Shared->Prop}(hx:Wl s.heap k x)(hl:∀ v∈l,∃ k' b,v=.ref b/\Wl s.heap k' b)(h:Q false s):wpAny (model prog w) A (searchCouldBeSeen (.ref x) l) Q E s:=by
 unfold searchCouldBeSeen
 refine wpAny_bind ?_
 refine wpAny_forIn_list _ (fun rest r s'=>s'=s/\r.1=none/\∀ v∈rest,∃ k' b,v=.ref b/\Wl s.heap k' b) _ ?_ ?_ _ _ ⟨rfl,rfl,hl⟩
 ·rintro v rest r s' ⟨rfl,hr,hl'⟩
  obtain⟨k',b,rfl,hb⟩:=hl' v Aq
  have fin:∀ r':Option Bool×PUnit,r'.1=none->s'=s'/\r'.1=none/\∀ v∈rest,∃ k' b,v=.ref b/\Wl s'.heap k' b:=fun r' e=>⟨rfl,e,fun v hv=>hl' v (An _ hv)⟩
  dsimp only
  split
  ·exact wpAny_pure (fin _ rfl)
  ·obtain⟨⟨as,rx⟩,dx⟩:=hx
   obtain⟨⟨bs,rb⟩,db⟩:=hb
   refine wpAny_bind (quiet_ok _ _ _ _ _ _ _ as 8 _ rx dx ?_)
   simp only[A6,Ak,if_false]
   refine wpAny_bind (quiet_ok _ _ _ _ _ _ _ bs 8 _ rb db ?_)
   simp only[A6,Ak,if_false]
   refine wpAny_bind (of_ok _ _ _ _ _ _ _ as 8 _ rx dx ?_)
   simp only[Ak,if_false]
   refine wpAny_bind (of_ok _ _ _ _ _ _ _ bs 8 _ rb db ?_)
   simp only[Ak,if_false]
   exact wpAny_pure (fin _ rfl)
 ·rintro⟨r1,r2⟩ s' ⟨rfl,hr,_⟩
  simp only at hr
  subst hr
  exact wpAny_pure h
theorem Gld(S:SetN s.heap a ks n o es ep t)(hx:Wl s.heap k x)(hk:k∉ks)(hu:A.units+10<cLine){Q:SetFound->Shared->Prop}
  (h:∀ j,t.slot j=.empty->j<=t.mask->Q (.free j false) s):
  ∀ (d fuel:Nat) (stand:Option Probe),d<fuel->d<10*turns t.mask->Pin t (stand.getD (t.probeStart (nkh k)))->t.slot (adv t (stand.getD (t.probeStart (nkh k))) d).j=.empty→
  wpAny (model prog w) A (setSearchFrom a (.ref x) (nkh k) true fuel stand) Q E s:=by
 intro d
 induction d using Nat.strongRecOn with
 | ind d ih=>
  intro fuel stand hf ht hp he
  cases fuel with
  | zero=>omega
  | succ fuel=>
   unfold setSearchFrom
   refine wpAny_bind (wpAny_setState_of S.ho S.hd S.fits ?_)
   dsimp only
   rw[S.tg.odd]
   simp only[Ak,if_false]
   rcases Glc S.tg.b _ (nkh k) d (10*turns t.mask) _ ht hp he with⟨j,e,f,g⟩ | ⟨j,i,nx,s',e,f,g,hs',hp',he'⟩
   ·rw[show t.probe _ (nkh k) _=_ from e]
    exact wpAny_pure (h j f g)
   ·rw[show t.probe _ (nkh k) _=_ from e]
    dsimp only
    have hi:=(Gqw S.tg.b f).1
    rw[S.tg.b.sz,<- S.sz] at hi
    have hes:es[i]?=some es[i]:=Array.getElem?_eq_getElem hi
    obtain⟨k',b,hk',ee,hb⟩:=S.el _ (Array.getElem_mem hi)
    rw[ee] at hes
    have hne:k'≠k:=fun q=>hk (q▸hk')
    simp only[hes]
    split
    ·refine wpAny_bind (Gq2 hx (fun v hv=>?_) ?_)
     ·obtain⟨e1,h1,rfl⟩:=Ay.mp hv
      have h2:e1∈es:=(Array.mem_filter.mp (Array.mem_toList_iff.mp h1)).1
      obtain⟨k2,b2,_,rfl,h3⟩:=S.el _ h2
      exact⟨k2,b2,rfl,h3⟩
     simp only[Ak,if_false]
     refine wpAny_bind (wpAny_holding ((nestKind prog w).eqBool (x:=k') (y:=k) hu hb hx ?_))
     rw[decide_eq_false hne]
     refine wpAny_bind (wpAny_setState_of S.ho S.hd S.fits ?_)
     simp only[Bool.and_false,Ak,if_false,SetTable.sameMemory,beq_self_eq_true,if_true,f,hes]
     refine wpAny_bind (wpAny_isSame_ref_self ?_)
     simp only[if_true]
     refine wpAny_bind (wpAny_pure ?_)
     exact ih s' hs' fuel (some nx) (by omega) (by omega) hp' he'
    ·refine wpAny_bind (wpAny_holding ((nestKind prog w).eqBool (x:=k') (y:=k) hu hb hx ?_))
     rw[decide_eq_false hne]
     refine wpAny_bind (wpAny_setState_of S.ho S.hd S.fits ?_)
     simp only[Bool.and_false,Ak,if_false,SetTable.sameMemory,beq_self_eq_true,if_true,f,hes]
     refine wpAny_bind (wpAny_isSame_ref_self ?_)
     simp only[if_true]
     refine wpAny_bind (wpAny_pure ?_)
     exact ih s' hs' fuel (some nx) (by omega) (by omega) hp' he'
end
section
variable{prog:Program}{w:World}{A:Around}{E:Value->Shared->Prop}{s:Shared}{a x:Addr}{ks:List NK}{n:Nat}{o:Obj}{es:Array (Int×Value)}{ep:Nat}{t:SetTable}{k:NK}
theorem Gq3(S:SetN s.heap a ks n o es ep t):∀ o',s.heap.get? a=some o'->o'.cls≠.type "tuple":=by
 intro o' e
 rw[S.ho] at e; cases e
 rw[S.ex.1]; decide
theorem Gjp{h:Heap}{o:Obj}{es es':Array (Int×Value)}{ep:Nat}{t t':SetTable}(ho:h.get? a=some o)(hd:o.data=.set es ep t):
  (h.update a (Obj.putSet es' t')).get? a=some { o with data:=.set es' (ep+1) t' }:=by
 have:=AN (Obj.putSet es' t') ho (by rw[putSet_of es' t' hd]; rfl)
 rw[putSet_of es' t' hd] at this; exact this
theorem Gwh(S:SetN s.heap a ks n o es ep t)(hx:Wl s.heap k x)(hk:k∉ks)(hu:A.units+10<cLine)(hn:n<1200){Q:Bool->Shared->Prop}
  (h:∀ h' o' es' ep' t',Heap.SameBut a s.heap h'->SetN h' a (k::ks) (n+1) o' es' ep' t'->Q true { s with heap:=h' }):
  wpAny (model prog w) A (setAddHashed a (.ref x) (nkh k)) Q E s:=by
 unfold setAddHashed
 refine wpAny_holding ?_
 unfold setAddHashedIn
 refine wpAny_bind (wpAny_setState_of S.ho S.hd S.fits ?_)
 dsimp only
 rw[show byScan (.ref x) es=false from by simp[byScan,Value.scannable]]
 simp only[Ak,if_false]
 have hlow:=S.tg.low
 have hhigh:=S.tg.high
 obtain⟨d,hd,he⟩:=Gii S.tg.b (by omega) (nkh k)
 refine wpAny_bind ?_
 unfold setSearch
 refine Gld S hx hk hu (fun j hj hm=>?_) d 100000 none (by unfold turns at hd; omega) hd (Glb _ _) he
 dsimp only
 refine wpAny_bind (wpAny_setState_of S.ho S.hd S.fits ?_)
 dsimp only
 have P:=S.tg.b.put hj hm
 generalize t.put j=tp at P ⊢
 obtain⟨t1,p⟩:=tp
 obtain⟨T',m1,m2,m3,m4,m5⟩:=P
 dsimp only at *
 have hp:p<=es.size:=by rw[S.sz]; exact m2
 have sz1:(insertAt es p (nkh k,Value.ref x)).size=n+1:=by rw[Zl hp,S.sz]
 have big:n+1<=sizeLine:=by unfold sizeLine; omega
 have tail:wpAny (model prog w) A (do
   storeSet a (insertAt es p (nkh k,Value.ref x)) t1
   if(!false&&t1.tooFull)=true then do
     setRelay a (grown (es.size+1))
     pure true
    else pure true) Q E s:=?tl
 ·split
  ·refine wpAny_bind (hb_ok _ _ _ _ _ _ _ _ 8 _ hx.1.choose_spec hx.2 ?_)
   simp only[if_true]
   exact tail
  ·refine wpAny_bind (wpAny_pure ?_)
   simp only[if_true]
   exact tail
 refine wpAny_bind (wpAny_storeSet_of S.ho S.hd ?_ (by rw[sz1]; exact big))
 have g1:=Gjp (es':=insertAt es p (nkh k,Value.ref x)) (t':=t1) S.ho S.hd
 have sb1:=Heap.SameBut.update s.heap a (Obj.putSet (insertAt es p (nkh k,Value.ref x)) t1)
 have nt:=Gq3 S
 have el1:∀ h',Heap.SameBut a s.heap h'->∀ e∈insertAt es p (nkh k,Value.ref x),∃ k' b,k'∈k::ks/\e=(nkh k',.ref b)/\Wl h' k' b:=by
  intro h' sb e he
  have kp:∀ x o,x≠a->s.heap.get? x=some o->h'.get? x=some o:=fun x o ne q=>(sb.2 x ne).trans q
  rcases Gqz hp he with z | rfl
  ·obtain⟨k',b,c1,c2,c3⟩:=S.el _ z
   exact⟨k',b,An _ c1,c2,Gg4 c3 nt kp⟩
  ·exact⟨k,x,Aq,rfl,Gg4 hx nt kp⟩
 have fl:t1.fill=n+1:=by simp[SetTable.fill,T'.sz,T'.dum]
 have mk:t1.mask=t.mask:=m1
 by_cases full:t1.tooFull=true
 ·simp only[full,Bool.not_false,Bool.and_true,if_true]
  have ex1:Obj.ExactSet { o with data:=Data.set (insertAt es p (nkh k,Value.ref x)) (ep+1) t1 }:=S.ex
  generalize hh1:s.heap.update a (Obj.putSet (insertAt es p (nkh k,Value.ref x)) t1)=h1 at *
  have el2:=el1
  generalize hE:insertAt es p (nkh k,Value.ref x)=es1 at *
  have fit1:t1.fits es1.size=true:=by
   simp only[SetTable.fits,fl,T'.sz,sz1,As,beq_self_eq_true,decide_eq_true_eq,true_and]; omega
  rw[show SetTable.grown (es.size+1)=4*(n+1) by rw[S.sz]; unfold SetTable.grown; rw[if_neg (by omega)]; omega]
  obtain⟨kk,p1,p2,p3,p4⟩:=Gfd (n:=4*(n+1)) (by omega)
  obtain⟨t2,order,l1,l2,l3,l4,l5,l6,l7⟩:=Gq1 (mask:=sizeAbove (4*(n+1))-1) (k:=kk) (finger:=t1.finger) (moves:=t1.movedTo (sizeAbove (4*(n+1))-1)) (led:=t1.led) (plain:=t1.plain) (hs:=es1.map (·.1)) (by omega) (by rw[Array.size_map,sz1]; omega)
  rw[Array.size_map,sz1] at l2 l6 l7
  have hfm:(order.filterMap (es1[·]?)).size=es1.size/\∀ e∈order.filterMap (es1[·]?),e∈es1:=by
   refine⟨?_,fun e he=>?_⟩
   ·rw[sz1,<- l6]
    have:∀ l:List Nat,(∀ v∈l,v<es1.size)->(l.filterMap (es1[·]?)).length=l.length:=by
     intro l
     induction l with
     | nil=>intro _; rfl
     | cons v l ih=>
      intro hv
      rw[AM,Array.getElem?_eq_getElem (hv v Aq)]
      simp[ih fun v h=>hv v (An _ h)]
    have:=this order.toList fun v hv=>by rw[sz1]; exact l7 v (Array.mem_toList_iff.mp hv)
    rw[<- Array.length_toList,Array.toList_filterMap,this,Array.length_toList]
   ·obtain⟨v,_,hv⟩:=Array.mem_filterMap.mp he
    exact Array.mem_of_getElem? hv
  refine wpAny_bind ?_
  unfold setRelay
  refine wpAny_bind (wpAny_setState_of (o:={ o with data:=Data.set es1 (ep+1) t1 }) g1 rfl fit1 ?_)
  dsimp only
  rw[if_neg (by unfold sizeLine; omega)]
  rw[show t1.relaid (es1.map (·.1)) (4*(n+1))=some (t2,order) from l1]
  have er:∀ z:Sem (Array (Int×Value)×SetTable),(if((order.filterMap (es1[·]?)).size != es1.size)=true then z else pure (order.filterMap (es1[·]?),t2))=pure (order.filterMap (es1[·]?),t2):=by
   intro z; rw[hfm.1]; simp
  refine wpAny_bind (wpAny_of_eq (er _) ?_)
  dsimp only
  refine wpAny_storeSet_of (o:={ o with data:=Data.set es1 (ep+1) t1 }) g1 rfl ?_ (by rw[hfm.1,sz1]; exact big)
  have g2:=Gjp (o:={ o with data:=Data.set es1 (ep+1) t1 }) (es':=order.filterMap (es1[·]?)) (t':=t2) g1 rfl
  have sb2:=sb1.trans (Heap.SameBut.update h1 a (Obj.putSet (order.filterMap (es1[·]?)) t2))
  refine wpAny_pure (h _ _ _ _ _ sb2 ⟨g2,S.ex,rfl,⟨l2,by rw[l3]; omega,by rw[l3]; omega⟩,by rw[hfm.1,sz1],fun e he=>el1 _ sb2 e (hfm.2 e he)⟩)
 ·simp only[full,Bool.not_false,Bool.true_and,if_false,Ak]
  refine wpAny_pure (h _ _ _ _ _ sb1 ⟨g1,S.ex,rfl,⟨T',?_,by omega⟩,sz1,el1 _ sb1⟩)
  simp only[SetTable.tooFull,fl,ge_iff_le,decide_eq_true_eq] at full
  omega
end
section
variable{prog:Program}{w:World}{A:Around}{R:Result->Shared->Prop}{I:Addr}{fp wr:List Addr}{G:Array GenState->Array GenState->Prop}{n:Nat}{P:Nat->Value->Prop}{St:Nat->Shared->Prop}
mutual
theorem Gg5{h h':Heap}(key:∀ x o,h.get? x=some o->o.cls=.type "tuple"->h'.get? x=some o):∀ (k:NK) {v:Value} {as:List Addr},Reads h v (pk k) as->Reads h' v (pk k) as
 | .i n,v,as,r=>by
  simp only[pk] at r ⊢
  cases r
  exact .int _ _
 | .t l,v,as,r=>by
  simp only[pk] at r ⊢
  cases r with
  | @tuple a o' vs n' xs as ho' hc hd' rs=>exact .tuple (key _ _ ho' hc) hc hd' (rts_keeps key l rs)
theorem rts_keeps{h h':Heap}(key:∀ x o,h.get? x=some o->o.cls=.type "tuple"->h'.get? x=some o):∀ (l:List NK) {v:List Value} {as:List Addr},ReadsAll h v (pks l) as->ReadsAll h' v (pks l) as
 | [],v,as,r=>by
  simp only[pks] at r ⊢
  cases r
  exact .nil
 | k::l,v,as,r=>by
  simp only[pks] at r ⊢
  cases r with
  | cons r1 r2=>exact .cons (Gg5 key k r1) (rts_keeps key l r2)
end
theorem nk_mono{k:NK}{h h':Heap}{a:Addr}(r:Wl h k a){wr:List Addr}(hw:∀ b∈wr,∀ o,h.get? b=some o->o.cls≠.type "tuple")(hs:∀ b o,b∉wr->h.get? b=some o->h'.get? b=some o):Wl h' k a:=by
 refine⟨⟨_,Gg5 (fun x o e c=>?_) k r.1.choose_spec⟩,r.2⟩
 by_cases hm:x∈wr
 ·exact absurd c (hw x hm o e)
 ·exact hs x o hm e
theorem SetN.frame{h h':Heap}{S:Addr}{ks:List NK}{m:Nat}{o:Obj}{es:Array (Int×Value)}{ep:Nat}{t:SetTable}(H:SetN h S ks m o es ep t){wr:List Addr}(hS:S∉wr)
  (hw:∀ b∈wr,∀ o,h.get? b=some o->o.cls≠.type "tuple") (hs:∀ b o,b∉wr->h.get? b=some o->h'.get? b=some o):SetN h' S ks m o es ep t:=
 ⟨hs _ _ hS H.ho,H.ex,H.hd,H.tg,H.sz,fun e he=>let ⟨k,b,c1,c2,c3⟩:=H.el e he; ⟨k,b,c1,c2,nk_mono c3 hw hs⟩⟩
theorem Gy8(W:WalksS prog w A.in1 I fp wr G n P St)(S:Addr)(hSf:S∉fp)(hu:A.units+12<cLine)
  (key:Nat->NK) (adr:Nat->Addr) (hval:∀ i v,P i v->v=.ref (adr i)) (hnd:∀ i j,i<n->j<n->key i=key j->i=j) (hb:n<1200)
  (hw:∀ i s,St i s->∀ b∈wr,∀ o,s.heap.get? b=some o->o.cls≠.type "tuple"):
  ∀ (k i:Nat) (s:Shared) (ks:List NK) (o:Obj) (es:Array (Int×Value)) (ep:Nat) (t:SetTable),n-i=k->i<=n->St i s->(∀ k∈ks,∃ j,j<i/\k=key j)->(∀ j,j<n->Wl s.heap (key j) (adr j))→
   SetN s.heap S ks i o es ep t→
   (∀ s' ks o es ep t,Moved (S::wr) G s s'->SetN s'.heap S ks n o es ep t->R (.ok (.ret .none)) s')→
   codeAny (model prog w) A (.builtin "set.update.loop" ⟨[.ref S,.ref I],[]⟩) R s:=by
 have hSw:S∉wr:=fun h=>hSf (W.sub _ h)
 have hsub:∀ b∈wr,b∈S::wr:=fun b hb=>An _ hb
 intro k
 induction k with
 | zero=>
  intro i s ks o es ep t hk hi hst hks hnk hS hR
  have hin:i=n:=by omega
  subst hin
  refine codeAny_builtin F.entry_set_update_loop ?_
  rw[Around.under_plainId F.plain_set_update_loop _]
  show wpAny _ A.in1 (pyNext (.ref I) >>= _) _ _ s
  refine wpAny_bind (W.done s _ _ hst fun s' hm=>?_)
  show wpAny _ A.in1 (ret Value.none) _ _ s'
  exact wpAny_pure (hR s' _ _ _ _ _ (hm.mono hsub) (hS.frame hSw (hw _ _ hst) hm.heap))
 | succ k ih=>
  intro i s ks o es ep t hk hi hst hks hnk hS hR
  have hlt:i<n:=by omega
  refine codeAny_builtin F.entry_set_update_loop ?_
  rw[Around.under_plainId F.plain_set_update_loop _]
  show wpAny _ A.in1 (pyNext (.ref I) >>= _) _ _ s
  refine wpAny_bind (W.item i s _ _ hlt hst fun v s' hP hst' hm=>?_)
  obtain rfl:=hval i v hP
  have hS':=hS.frame hSw (hw _ _ hst) hm.heap
  have hnk':∀ j,j<n->Wl s'.heap (key j) (adr j):=fun j hj=>nk_mono (hnk j hj) (hw _ _ hst) hm.heap
  show wpAny _ A.in1 (holding [Value.ref (adr i)] (setAdd S (.ref (adr i))) >>= _) _ _ s'
  refine wpAny_bind (wpAny_holding ?_)
  unfold setAdd
  refine wpAny_holding ?_
  have hu1:A.in1.units+10<cLine:=by first | omega | (simp[Around.in1]; omega)
  refine wpAny_bind ((nestKind prog w).pyHash (k:=key i) hu1 (hnk' i hlt) ?_)
  have hnot:key i∉ks:=fun q=>by
   obtain⟨j,hj,e⟩:=hks _ q
   have:=hnd i j hlt (by omega) e
   omega
  refine Gwh (s:={ s' with toks:=s'.toks+nkd (key i) }) hS' (hnk' i hlt) hnot hu1 (by omega) fun h' o' es' ep' t' hsb hS2=>?_
  have hto:∀ b o,b∉[S]->s'.heap.get? b=some o->h'.get? b=some o:=fun b o hb e=>(hsb.2 b (fun q=>hb (by simp[q]))).trans e
  have htw:∀ b∈[S],∀ o,s'.heap.get? b=some o->o.cls≠.type "tuple":=by
   intro b hb o e
   have:b=S:=by simpa using hb
   subst this
   rw[hS'.ho] at e; cases e
   rw[hS'.ex.1]; decide
  refine wpAny_pure ⟨plainId_quiet F.plain_set_update_loop _,ih (i+1) _ _ _ _ _ _ (by omega) hlt (W.frame _ s' _ _ hst' (Nat.le_add_right _ _) fun b hb o e=>?_) (fun q hq=>?_) (fun j hj=>nk_mono (hnk' j hj) htw hto) hS2 fun s'' ks2 o2 es2 ep2 t2 hm'' hS''=>?_⟩
  ·rw[hsb.2 b (fun h:b=S=>hSf (by rw[<- h]; exact hb))]; exact e
  ·rcases Ad.mp hq with rfl | hq
   ·exact⟨i,AJ _,rfl⟩
   ·obtain⟨j,hj,e⟩:=hks q hq
    exact⟨j,AZ hj,e⟩
  ·refine hR s'' _ _ _ _ _ (Moved.trans W.gtrans ((hm.mono hsub).then_heap (Nat.le_add_right _ _) fun b o hb e=>?_) hm'') hS''
   rw[hsb.2 b (fun h:b=S=>hb (by rw[h]; exact Aq))]; exact e
end
section
variable{prog:Program}{w:World}{A:Around}{E:Value->Shared->Prop}{s:Shared}
set_option maxHeartbeats 3200000 in
theorem call_setN{l:Addr}{items:Array Value}{Q:Value->Shared->Prop}(hh:A.handled=none)(hu:A.units+20<cLine)(hl:s.heap.IsList l items)(hb:items.size<1200)
  (key:Nat->NK) (adr:Nat->Addr) (hval:∀ (i:Nat) (v:Value),items[i]?=some v->v=.ref (adr i)) (hnk:∀ j,j<items.size->Wl s.heap (key j) (adr j)) (hnd:∀ i j,i<items.size->j<items.size->key i=key j->i=j)
  (h:∀ (h':Heap) (tk:Nat) ks o es ep t,SetN h' s.heap.objs.size ks items.size o es ep t→
   (∀ b o,b<s.heap.objs.size->s.heap.get? b=some o->h'.get? b=some o)->s.toks<=tk->Q (.ref s.heap.objs.size) { s with heap:=h',toks:=tk }):
  wpAny (model prog w) A (call (.type "set") [.ref l]) Q E s:=by
 obtain⟨c,tl,hmro⟩:=F.called_set.mro
 have hmade:=F.called_set.made
 have hsub:=F.called_set.sub
 refine wpAny_call (codeAny_of_tree ?_)
 show wpAny _ _ (callAny (.type "set") _) _ _ _
 refine wpAny_pure ⟨Code.quiet_builtin _ (by decide +kernel),codeAny_builtin F.entry_type_call ?_⟩
 rw[Around.under_plain (weight_type_call_type "set" [.ref l] []) rfl]
 have h1:=F.called_set.notType
 have h2:=F.called_set.canCreate
 have hct:=F.typeCall_set_1 (.ref l)
 repeat (any_goals (first | assumption | wp_step))
 refine codeAny_mono (code_set_new_1 (.ref l) (E:=E) (Q₁:=fun obj s₁=>∃ led:Bool,obj=.ref s.heap.objs.size/\s₁={ s with heap:=s.heap.push { cls:=.type "set",dict:=none,data:=.set #[] 0 (.fresh 0 0 led) } }) fun led=>⟨led,rfl,rfl⟩) fun r s₁ hr=>?_
 cases r with
 | error e=>exact hr
 | ok fl=>
  cases fl with
  | ret obj=>
   obtain⟨led,rfl,rfl⟩:=hr
   have hS:(s.heap.push { cls:=.type "set",dict:=none,data:=.set #[] 0 (.fresh 0 0 led) }).get? s.heap.objs.size=some { cls:=.type "set",dict:=none,data:=.set #[] 0 (.fresh 0 0 led) }:=AA _ rfl
   have hT:Shared.TypeIs { s with heap:=s.heap.push { cls:=.type "set",dict:=none,data:=.set #[] 0 (.fresh 0 0 led) } } (.ref s.heap.objs.size) "set":=⟨_,hS,rfl⟩
   have hli:=F.called_set.init.lookup
   have hbi:=F.called_set.init.bind (.ref s.heap.objs.size)
   repeat (any_goals (first | assumption | wp_step))
   refine codeAny_mono (codeAny_call_builtin (R:=wants (fun r s₂=>r=.none/\∃ h' tk ks o es ep t,s₂={ s with heap:=h',toks:=tk }/\SetN h' s.heap.objs.size ks items.size o es ep t∧
     (∀ b o,b<s.heap.objs.size->s.heap.get? b=some o->h'.get? b=some o)/\s.toks<=tk) E) F.called_set.init.plain F.entry_set_init (check_set_init_1 hT ?_)) fun r₂ s₂ hr₂=>?_
   ·obtain⟨ol,hol,hcl,nl,hdl⟩:=hl
    obtain⟨ocls,odict,odata,oslots⟩:=ol
    simp only at hcl hdl
    subst hcl; subst hdl
    have hol':(s.heap.push { cls:=.type "set",dict:=none,data:=.set #[] 0 (.fresh 0 0 led) }).get? l=some { cls:=.type "list",dict:=odict,data:=.seq items nl,slots:=oslots }:=Ah _ hol
    have hsls:=F.sub_list_set
    have hslf:=F.sub_list_frozenset
    have hne:(Value.type "list"==Value.type "dict")=false:=by decide
    have hl1:(s.heap.push { cls:=.type "set",dict:=none,data:=.set #[] 0 (.fresh 0 0 led) }).IsList l items:=⟨_,hol',rfl,nl,rfl⟩
    unfold Builtin.«set.__init__» noKeywords Builtin.Frozenset.updateFrom
    generalize hPI:pyIter=PI
    wp_walk
    subst hPI
    refine wpAny_pyIter_list hl1 ?_
    refine wpAny_bind (wpAny_runValue ?_)
    have hlS:l<s.heap.objs.size:=Ae hol
    have hh3:A.in1.in1.in1.handled=none:=by simp[hh]
    have hneI:l≠(s.heap.push { cls:=.type "set",dict:=none,data:=.set #[] 0 (.fresh 0 0 led) }).objs.size:=by
     rw[AR]; exact At (AZ hlS)
    have hSf:s.heap.objs.size∉[(s.heap.push { cls:=.type "set",dict:=none,data:=.set #[] 0 (.fresh 0 0 led) }).objs.size,l]:=by
     rw[AR]; simp only[Ad,AY,AF,or_false,not_or]
     exact⟨At (AJ _),Bg hlS⟩
    refine Gy8 ((Walks.list hh3 _ l hneI items).toS) s.heap.objs.size hSf (by first | omega | (simp[Around.in1]; omega)) key adr hval hnd hb (fun i s hs b hb o e=>?_) (items.size-0) 0 _ [] _ _ _ _ (by omega) (AC _)
     ⟨⟨_,AA _ rfl,rfl,rfl⟩,(hl1.push _)⟩ (fun _ h=>by simp at h) (fun j hj=>nk_mono (wr:=[]) (hnk j hj) (fun _ h=>by simp at h) fun b o _ e=>Ah _ (Ah _ e))
     ⟨Ah _ hS,⟨rfl,rfl,rfl⟩,rfl,Gnw led,rfl,fun e he=>by simp at he⟩ ?hR
    ·have:=AY.mp hb
     subst this
     obtain⟨⟨o',e1,e2,_⟩,_⟩:=hs
     rw[e1] at e; cases e
     rw[e2]; decide
    case hR=>
     intro s' ks o es ep t hm hS'
     obtain⟨h',g',d',tk',os'⟩:=s'
     have eg:g'=s.gens:=hm.gens
     have ed:d'=s.drawn:=hm.drawn
     have eo:os'=s.os:=hm.os
     subst eg; subst ed; subst eo
     show wpAny _ _ _ _ _ _
     refine wpAny_pure ?_
     show wpAny _ _ (ret Value.none) _ _ _
     refine wpAny_pure ⟨rfl,h',tk',ks,o,es,ep,t,rfl,hS',fun b o hb e=>?_,hm.toks⟩
     have hb1:b≠s.heap.objs.size:=At hb
     have hb2:b≠(s.heap.push { cls:=.type "set",dict:=none,data:=.set #[] 0 (.fresh 0 0 led) }).objs.size:=by
      rw[AR]; exact At (AZ hb)
     exact hm.heap b o (by simp only[Ad,AY,AF,or_false,not_or]; exact⟨hb1,hb2⟩) (Ah _ (Ah _ e))
   ·cases r₂ with
    | error e=>exact hr₂
    | ok fl₂=>
     cases fl₂ with
     | ret r=>
      obtain⟨rfl,h',tk,ks,o,es,ep,t,rfl,hS',hk',ht⟩:=hr₂
      repeat (any_goals (first | assumption | wp_step))
      exact h _ _ _ _ _ _ _ hS' hk' ht
     | _=>exact hr₂.elim
  | _=>exact hr.elim
end
end ST
namespace DL
open PySem PySem.Spec PyProof.Rows L2
variable{pos:Pos}
noncomputable def kyL(l:List D):Bool:=l.all (fun d=>(Vr d).isSome)&&decide (l.map Vr).Nodup
noncomputable def Gea(xs:List D)(S:Sto):Out D:=match xs with
 | [.lst k]=>match S[k]? with
  | some c=>if(c.fz=false/\c.xs.length<1200)/\kyL c.xs=true then .ok (.int c.xs.length) S else .bad
  | none=>.bad
 | _=>.bad
theorem Gy9{l:List D}(h:(l.map Vr).Nodup){i j:Nat}{a b:D}(hi:l[i]?=some a)(hj:l[j]?=some b)(e:Vr a=Vr b):i=j:=by
 have hi':(l.map Vr)[i]?=some (Vr a):=by rw[Aw,hi]; rfl
 have hj':(l.map Vr)[j]?=some (Vr a):=by rw[Aw,hj,e]; rfl
 exact(List.getElem?_inj (Ab.mp hi').1 h).mp (hi'.trans hj'.symm)
section
variable{X:Cx}{XQ:XW}
theorem Gjq{l:List Stmt}:GSs X XQ l sbad:=⟨fun pins s σ H E I ⟨mp,ρ,S,G,p⟩=>(show False from p).elim⟩
theorem Gq4{k:Nat}{p p2 pos2:Pos}{a:Expr}{f:Ev (List D)}(hr:Room k X.A)(hg:Gl X "len")(hm:X.mg "len"=none)(hg2:Gl X "set")(hm2:X.mg "set"=none)(ha:GA X XQ [a] f)(hcm:X.calm=true:=by rfl)(he:starEach [.Call (.Name "set" p2) [a] [] pos2] X.env=(false,eval (.Call (.Name "set" p2) [a] [] pos2) X.env)::starEach [] X.env:=by rfl)(he2:starEach [a] X.env=(false,eval a X.env)::starEach [] X.env:=by rfl):
  GE X XQ (.Call (.Name "len" p) [.Call (.Name "set" p2) [a] [] pos2] [] pos) (b1 Gea f):=by
 have ha:=ha.h
 refine⟨?_⟩
 intro pins s σ H Q I zq0
 obtain⟨mp,ρ,S,G,q⟩:=zq0
 refine wpAny_Call_Name_kw (Vn I hg hm (by rfl) ?_ (by decide) (by decide))
 refine PyProof.Rows.callWith_builtin1 ?_ he rfl
 rw[he]
 refine Calls.spliced_cons ?_
 refine wpAny_Call_Name_kw (Vn I hg2 hm2 (by rfl) ?_ (by decide) (by decide))
 refine PyProof.Rows.callWith_type1 (thn (ha pos2 pins s σ H (fun vs H1=>∃ mp1 S1 ds,Gd X.K mp1 H1 σ ρ S1/\RepL X.K mp1 H1 ds vs/\Post X.K XQ σ ρ mp1 H1 (Gea ds S1) Q) I (bindP G q fun mp1 H1 ds S1 vs a1 G1 r1 p1=>⟨mp1,S1,ds,G1,r1,p1⟩)) fun us s1 zq0=>?_) he2 rfl
 obtain⟨vs,H1,I1,rv,mp1,S1,ds,G1,r1,p1⟩:=zq0
 unfold Gea at p1
 split at p1
 ·rename_i k
  split at p1
  ·rename_i c zc
   by_cases hc:(c.fz=false/\c.xs.length<1200)/\kyL c.xs=true
   ·rw[if_pos hc] at p1
    obtain⟨⟨hf,hlt⟩,hk⟩:=hc
    obtain⟨v,rfl,h1⟩:=RepL.one r1
    obtain⟨u,rfl,ru⟩:=Vals.one rv
    obtain⟨l,xs,rfl,hl,_,rx,hH⟩:=G1.rs.items h1 zc
    cases (show u=Value.ref l from ru)
    have hH:=hH hf
    obtain⟨hz,its,n,vi,ho⟩:=(show Jj X.prog X.w H1 s1.heap l (.lst xs) from I1.hok l _ hH)
    have isl:s1.heap.IsList l its.toArray:=⟨_,ho,rfl,n,rfl⟩
    have e1:its.length=c.xs.length:=by rw[<- vi.length,<- rx.len]
    unfold kyL at hk
    rw[As,decide_eq_true_eq,AK] at hk
    obtain⟨hk1,hk2⟩:=hk
    have row:∀ i,i<c.xs.length->∃ d κ b,c.xs[i]?=some d/\Vr d=some κ/\its[i]?=some (.ref b)/\Wl s1.heap κ b:=by
     intro i hi
     have hd:c.xs[i]?=some c.xs[i]:=Ag hi
     obtain⟨κ,hκ⟩:=Bq.mp (hk1 _ (A2 hi))
     obtain⟨v,hv,rp⟩:=RepL.get rx hd
     obtain⟨_,b,rfl,kb⟩:=Ge8 rp hκ
     obtain⟨u,hu,ru⟩:=vi.get hv
     cases (show u=Value.ref b from ru)
     exact⟨_,κ,b,hd,hκ,hu,kb.is I1⟩
    have hsz:its.toArray.size=c.xs.length:=by simp[e1]
    refine ST.call_setN (I.ok.hd hcm) (by have:=hr.units; omega) isl (by rw[hsz]; exact hlt) (fun i=>((c.xs[i]?).bind Vr).getD (.i 0)) (fun i=>match its[i]? with | some (.ref b)=>b | _=>0) (fun i v hv=>?_) (fun j hj=>?_) (fun i j hi hj e=>?_) fun h' tk ks o es ep t hS kp ht=>?_
    ·have hi:i<c.xs.length:=by rw[<- hsz]; exact(Array.getElem?_eq_some_iff.mp hv).1
     obtain⟨d,κ,b,_,_,h3,_⟩:=row i hi
     have:its[i]?=some v:=by simpa using hv
     rw[h3] at this
     cases this
     simp only[h3]
    ·obtain⟨d,κ,b,g1,g2,g3,g4⟩:=row j (by rw[<- hsz]; exact hj)
     simp only[g1,g3,AQ,g2,BE]
     exact g4
    ·obtain⟨d,κ,b,g1,g2,g3,g4⟩:=row i (by rw[<- hsz]; exact hi)
     obtain⟨d',κ',b',g1',g2',g3',g4'⟩:=row j (by rw[<- hsz]; exact hj)
     simp only[g1,g1',AQ,g2,g2',BE] at e
     exact Gy9 hk2 g1 g1' (by rw[g2,g2',e])
    ·refine Calls.spliced_nil ?_
     refine call_len_set hS.ho hS.ex hS.hd (by rw[hS.sz]; exact hS.tg.fits) (by rw[hS.sz,hsz]; omega) ?_
     rw[hS.sz,hsz]
     have I2:Inv X pins σ H1 { s1 with heap:=h',toks:=tk+1+1 }:=I1.kept fun b u e=>kp b u (Ae e) e
     exact⟨.int c.xs.length,H1,I2,⟨_,rfl⟩,Gi.ok (R:=Rep X.K) p1 G1.rs rfl⟩
   ·rw[if_neg hc] at p1; exact p1.elim
  ·exact p1.elim
 ·exact p1.elim
end
theorem Gle(its:List Value):slicePick its.toArray none none (some (-1))=its.reverse.toArray:=by
 have e:∀ k∈List.range its.length,its.toArray[(((its.length:Int)-1)+(-1)*(k:Int)).toNat]?=some (its.reverse.getD k .none):=fun k hk=>by
  have hk:k<its.length:=AU.mp hk
  have e1:(((its.length:Int)-1)+(-1)*(k:Int)).toNat=its.length-1-k:=by omega
  rw[e1]
  simp[List.getD,hk]
 have hc:(if((its.length:Int)-1) > -1 then(((its.length:Int)-1)-(-1)-(-1)-1) / (-(-1)) else 0).toNat=its.length:=by
  by_cases c:(its.length:Int)-1 > -1
  ·rw[if_pos c,show(-(-1):Int)=1 by decide,Int.ediv_one]; omega
  ·rw[if_neg c]; omega
 unfold slicePick
 have hb:sliceBounds none none (some (-1)) its.toArray.size=((its.length:Int)-1,-1,-1):=by simp[sliceBounds]
 rw[hb]
 congr 1
 show(sliceRange ((its.length:Int)-1) (-1) (-1)).filterMap (its.toArray[·]?)=its.reverse
 unfold sliceRange
 rw[if_neg (by decide)]
 show((List.range (if((its.length:Int)-1) > -1 then(((its.length:Int)-1)-(-1)-(-1)-1) / (-(-1)) else 0).toNat).map _).filterMap _=_
 rw[hc,List.filterMap_map]
 have e2:=Gmz (fun k:Nat=>its.toArray[(((its.length:Int)-1)+(-1)*(k:Int)).toNat]?) (fun k=>its.reverse.getD k .none) _ e
 refine Eq.trans ?_ (e2.trans ?_)
 ·rfl
 ·apply List.ext_getElem
  ·simp
  ·intro i h1 h2
   simp at h1 h2 ⊢
   simp[List.getD,h2]
section
variable{X:Cx}{XQ:XW}
noncomputable def rvL(x:D)(st:Option Int)(S:Sto):Out D:=match x,st with
 | .lst i,some (-1)=>match S[i]? with
  | some c=>.ok (.lst S.length) (S++[⟨false,c.xs.reverse⟩])
  | none=>.bad
 | _,_=>.bad
noncomputable def rvl(fe:Ev D)(fs:Ev (Option Int)):Ev D:=fun ρ S=>(fe ρ S).bind fun x S1=>(fs ρ S1).bind fun o S2=>rvL x o S2
theorem Gq5{e:Expr}{fe:Ev D}{fs:Ev (Option Int)}{p2 q1 q2:Pos}{j1}(he:GE X XQ e fe)(hst:GO X XQ (some (.UnaryOp .USub (.Constant (.int 1) j1 q1) q2)) fs):GE X XQ (.Subscript e (.Slice none none (some (.UnaryOp .USub (.Constant (.int 1) j1 q1) q2)) p2) pos) (rvl fe fs):=by
 have he:=he.h
 have hst:=hst.h
 refine⟨?_⟩
 intro pins s σ H Q I h
 have h':rdE X.K XQ fe σ H fun v H1=>∃ mp1 ρ S1 x,Gd X.K mp1 H1 σ ρ S1/\Rep X.K mp1 H1 x v/\Post X.K XQ σ ρ mp1 H1 ((fs ρ S1).bind fun o S2=>rvL x o S2) Q:=by
  obtain⟨mp,ρ,S,G,p⟩:=h
  exact bindP G p fun mp1 H1 x S1 v a1 G1 r1 p1=>⟨mp1,ρ,S1,x,G1,r1,p1⟩
 refine Subscript_ (thn (he pins s σ H _ I h') fun v s1 zq0=>?_)
 obtain⟨x,H1,I1,r1,mp1,ρ,S1,d,G1,rd,p1⟩:=zq0
 refine wpAny_Slice ?_
 rw[evalPart_none]
 refine wpAny_pure ?_
 refine wpAny_pure ?_
 have h2:rdO X.K XQ fs σ H1 fun o H2=>∃ mp2 S2,Aft X.K mp1 H1 mp2 H2/\Gd X.K mp2 H2 σ ρ S2/\Post X.K XQ σ ρ mp2 H2 (rvL d o S2) Q:=
  bindP G1 p1 fun mp2 H2 o S2 o' a2 G2 r2 p2=>by
   cases (show o'=o from r2)
   exact⟨mp2,S2,a2,G2,p2⟩
 refine thn (hst pins s1 σ H1 _ I1 h2) fun vs s2 zq0=>?_
 obtain⟨o,H2,I2,ps,mp2,S2,a2,G2,p2⟩:=zq0
 have rd:=Rep.aft a2 _ _ rd
 have I3:Inv X pins σ H2 { s2 with heap:=s2.heap.push { cls:=.type "slice",data:=.fields #[.none,.none,vs] } }:=I2.kept (t':=s2.toks) fun b ob q=>Ah _ q
 unfold rvL at p2
 split at p2
 ·rename_i i
  split at p2
  ·rename_i c zc
   obtain⟨l,xs,rfl,hl,sq,rx,_⟩:=G2.rs.items rd zc
   cases r1
   obtain⟨its,r,pt,hz⟩:=I3.list sq
   show wpAny (model X.prog X.w) X.A (subscriptTail e (.Slice none none (some (.UnaryOp .USub (.Constant (.int 1) j1 q1) q2)) _) (.ref l) (.ref s2.heap.objs.size)) (EP X pins σ Q) X.xe _
   refine tail_any (ops:=[.ref l,.ref s2.heap.objs.size]) pt.isList.typeIs slot_list_getitem.lookup ?_ (by with_unfolding_all rfl)
   refine wpAny_getItem_list_slice pt.isList (Heap.IsSliceOf.new ..) .none .none ps (by simp) ?_ (by rw[Aj,<- r.length]; exact hz)
   rw[Gle]
   have hn:=I3.hok.fresh (Aa _)
   obtain⟨af,rs,la⟩:=G2.rs.newL hn rx.rev
   refine⟨.ref _,_,I3.laid (t':=s2.toks) (o:=.lst xs.reverse) (fun b ob q=>Ah _ q) (Aa _) ⟨by rw[List.length_reverse]; exact hz,_,0,r.reverse,AA _ rfl⟩,rfl,p2 _ _ _ af rs ⟨_,rfl,la,nd_lst Hd⟩⟩
  ·exact p2.elim
 ·exact p2.elim
end
theorem Gwi(t:Tok)(l:Addr)(xs:Array Value)(n:Nat)(d:Option Addr)(sl:Array (Option Value)):
  Meets (Builtin.«tuple.__mul__» ⟨[.ref l,.int 1 t],[]⟩) (fun _ R s=>s.heap.get? l=some { cls:=.type "tuple",dict:=d,data:=.seq xs n,slots:=sl }/\R (.ok (.ret (Value.ref l))) s):=
 .of_wp fun prog w A R s h=>by
  obtain⟨hp,g,d,tk,os⟩:=s; obtain⟨hl,h⟩:=h
  have hT:Shared.TypeIs { heap:=hp,gens:=g,drawn:=d,toks:=tk,os:=os } (.ref l) "tuple":=⟨_,hl,rfl⟩
  wp_walk using wpAny_loadPart' hl
  exact⟨_,rfl,h⟩
theorem Gq6(t:Tok)(l:Addr)(xs:Array Value)(n:Nat)(d:Option Addr)(sl:Array (Option Value))(he:xs.isEmpty=false):
  Meets (Builtin.«tuple.__mul__» ⟨[.ref l,.int 0 t],[]⟩) (fun _ R s=>s.heap.get? l=some { cls:=.type "tuple",dict:=d,data:=.seq xs n,slots:=sl }/\R (.ok (.ret (Value.ref s.heap.objs.size))) { s with heap:=s.heap.push { cls:=.type "tuple",data:=.seq #[] } }):=
 .of_wp fun prog w A R s h=>by
  obtain⟨hp,g,d,tk,os⟩:=s; obtain⟨hl,h⟩:=h
  wp_walk using wpAny_loadPart' hl
  exact⟨_,rfl,h⟩
section
variable{X:Cx}{XQ:XW}
noncomputable def Gs4(K:PySem.W.Frag):R2:=fun x y H Q=>∃ a xs,x=.ref a/\SqT K H a xs/\xs≠[]/\((y=.int 1/\Q (.ref a) H)\/(y=.int 0/\∀ p,H p=none->Q (.ref p) (upd H p (.tup []))))
theorem Gq7:OpR X (binaryOp .Mult) (Gs4 X.K):=by
 intro pins s σ H x y v u Q I rx ry zq0
 obtain⟨a,xs,e1,ha,hne,q⟩:=zq0
 subst e1
 cases rx
 obtain⟨its,r1,p1,_⟩:=I.tuple ha
 obtain⟨⟨cls,dd,data,sl⟩,ho,hc,n,hd⟩:=id p1
 simp only at hc hd
 subst hc hd
 have hne':its≠[]:=fun z=>hne (r1.nil_iff.mp z)
 have hie:its.toArray.isEmpty=false:=by
  cases its with
  | nil=>exact absurd rfl hne'
  | cons _ _=>rfl
 rcases q with⟨rfl,q⟩ | ⟨rfl,q⟩
 ·obtain⟨t,rfl⟩:=ry
  refine wpAny_binaryOp_repeat_ref (T:="tuple") (U:="int") (by decide) ⟨_,ho,rfl⟩ (fun s'=>typeIs_int s' 1 t) Gaj F.fills_int_mul F.slot_int_rmul Yt F.slot_int_index.lookup
   (call_meets F.slot_int_rmul (typeIs_int s 1 t) F.entry_int_rmul (F.args_int_rmul_2 _ _) (Gh8 1 t a its.toArray n dd sl)
    ⟨ho,rfl,⟨_,ho,rfl⟩,call_meets F.slot_tuple_mul ⟨_,ho,rfl⟩ F.entry_tuple_mul (F.args_tuple_mul_2 _ _) (Gwi t a its.toArray n dd sl) ⟨ho,?_⟩⟩)
  exact⟨.ref a,H,I,rfl,q⟩
 ·obtain⟨t,rfl⟩:=ry
  refine wpAny_binaryOp_repeat_ref (T:="tuple") (U:="int") (by decide) ⟨_,ho,rfl⟩ (fun s'=>typeIs_int s' 0 t) Gaj F.fills_int_mul F.slot_int_rmul Yt F.slot_int_index.lookup
   (call_meets F.slot_int_rmul (typeIs_int s 0 t) F.entry_int_rmul (F.args_int_rmul_2 _ _) (Gh8 0 t a its.toArray n dd sl)
    ⟨ho,rfl,⟨_,ho,rfl⟩,call_meets F.slot_tuple_mul ⟨_,ho,rfl⟩ F.entry_tuple_mul (F.args_tuple_mul_2 _ _) (Gq6 t a its.toArray n dd sl hie) ⟨ho,?_⟩⟩)
  refine⟨.ref s.heap.objs.size,_,I.laid (t':=s.toks) (o:=.tup []) (fun b ob q=>Ah _ q) (Aa _) ?_,rfl,q _ (I.hok.fresh (Aa _))⟩
  exact⟨AC _,[],.nil,IsTup.new _ _⟩
noncomputable def Gfe(x y:D)(S:Sto):Out D:=match x,y with
 | .tup l,.int k=>if l.length=0 then .bad else if k=1 then .ok (.tup l) S else if k=0 then .ok (.tup []) S else .bad
 | _,_=>.bad
theorem Gq8{K:PySem.W.Frag}:OpD K (Gs4 K) Gfe:=by
 intro XQ σ ρ mp H S x y v u Q rs rx ry p
 unfold Gfe at p
 split at p
 ·rename_i l k
  split at p
  ·exact p.elim
  ·rename_i hl
   obtain⟨a1,xs,rfl,s1,q1⟩:=Rep.tup rx
   have hlen:=q1.len
   have hne:xs≠[]:=fun z=>by rw[z] at hlen; simp at hlen; omega
   cases (show u=.int k from ry)
   split at p
   ·rename_i h1
    subst h1
    exact⟨a1,xs,rfl,s1,hne,.inl ⟨rfl,Gi.ok (R:=Rep K) p rs rx⟩⟩
   ·split at p
    ·rename_i h0
     subst h0
     exact⟨a1,xs,rfl,s1,hne,.inr ⟨rfl,fun q hq=>Ve p rs RepL.nil hq⟩⟩
    ·exact p.elim
 ·exact p.elim
theorem Gjr{a b:Expr}{fa fb:Ev D}(ha:GE X XQ a fa)(hb:GE X XQ b fb):GE X XQ (.BinOp a .Mult b pos) (o2 Gfe fa fb):=⟨Gbz Gq7 Gq8 ha.h hb.h⟩
end
end DL
namespace Law
open PySem PySem.Spec PyProof.Rows L2 DL
variable{X:Cx}{XQ:XW}{pos:Pos}
noncomputable def top(i:Nat):Stmt:=PySem.Challenge.pw_summitwater_k25_limits_left_out.main.body.getD i (.Pass ⟨0,0,0,0⟩)
noncomputable abbrev Uo:Stmt:=top 3
noncomputable abbrev Up:Stmt:=top 4
noncomputable abbrev Gao:Stmt:=top 5
noncomputable abbrev Yx:Stmt:=top 6
noncomputable abbrev Uq:Stmt:=top 7
noncomputable abbrev Gg6:Stmt:=top 8
noncomputable abbrev Gap:Stmt:=top 11
noncomputable abbrev Gg7:Stmt:=top 12
noncomputable abbrev Ur:Stmt:=top 28
noncomputable abbrev Zm:Stmt:=top 29
noncomputable abbrev Ww:Stmt:=top 30
noncomputable abbrev Zn:Stmt:=top 31
noncomputable abbrev Yj:Stmt:=top 42
noncomputable abbrev Wg:Stmt:=top 37
noncomputable abbrev Wy:Stmt:=top 43
noncomputable abbrev Wz:Stmt:=top 36
noncomputable abbrev Yk:Stmt:=top 41
noncomputable abbrev Vs:Stmt:=top 39
noncomputable abbrev Us:Stmt:=top 40
noncomputable abbrev Gg8:Stmt:=top 46
noncomputable abbrev Yl:Stmt:=top 45
noncomputable abbrev Ga8:Stmt:=top 44
noncomputable abbrev Wh:Stmt:=top 38
noncomputable abbrev Zo:Stmt:=top 33
noncomputable abbrev Xa:Stmt:=top 35
noncomputable abbrev Xb:Stmt:=top 34
noncomputable abbrev Geb:Stmt:=top 50
noncomputable abbrev Gil:Stmt:=top 49
noncomputable abbrev Gec:Stmt:=top 51
noncomputable abbrev Gaq:Stmt:=top 56
noncomputable abbrev Xc:Stmt:=top 55
noncomputable abbrev Xd:Stmt:=top 60
noncomputable abbrev Gim:Stmt:=top 59
noncomputable abbrev Zp:Stmt:=top 67
noncomputable abbrev Zq:Stmt:=top 68
noncomputable abbrev Zr:Stmt:=top 69
noncomputable abbrev Xe:Stmt:=top 70
noncomputable abbrev Ym:Stmt:=top 71
noncomputable abbrev Zs:Stmt:=top 73
noncomputable abbrev Ga9:Stmt:=top 72
noncomputable abbrev Qy:Stmt:=top 74
noncomputable abbrev Vt:Stmt:=top 75
noncomputable abbrev Gcg:Stmt:=top 76
noncomputable def c_CHAMBER:D:=(.tup [(.str "chamber")])
noncomputable def c_END:D:=(.tup [(.str "end")])
noncomputable def c_LIMIT_OF_FEWER:D:=(.int 20000)
noncomputable def c_UP:D:=(.str "up")
noncomputable def ys:List Str:=["NoGate","Dry","Full","NoSpring","NoBarge","NoRoom","Uneven","Shallow","Falls","NoText","TooMany","NoLine"]
noncomputable def ms:List Str:=["NoGate","Dry","Full","NoSpring","NoBarge","NoRoom","Uneven","Shallow","Falls","NoText","TooMany","NoLine"]
structure Hs(K:PySem.W.Frag):Prop where
 h_has_spring:FH K "has_spring" Uo
 h_most_water:FH K "most_water" Up
 h_is_dry:FH K "is_dry" Gao
 h_is_full:FH K "is_full" Yx
 h_is_shallow:FH K "is_shallow" Uq
 h_holds:FH K "holds" Gg6
 h_higher:FH K "higher" Gap
 h_lower:FH K "lower" Gg7
 h_is_through:FH K "is_through" Ur
 h_barges_of:FH K "barges_of" Zm
 h_with_barges:FH K "with_barges" Ww
 h_with_more:FH K "with_more" Zn
 h_check_gate:FH K "check_gate" Yj
 h_place_behind:FH K "place_behind" Wg
 h_check_water:FH K "check_water" Wy
 h_place_ahead:FH K "place_ahead" Wz
 h_check_move:FH K "check_move" Yk
 h_check_let:FH K "check_let" Vs
 h_check_feed:FH K "check_feed" Us
 h_moved:FH K "moved" Gg8
 h_with_water:FH K "with_water" Yl
 h_let_down:FH K "let_down" Ga8
 h_is_last_move:FH K "is_last_move" Wh
 h_deed_done:FH K "deed_done" Zo
 h_deeds_of:FH K "deeds_of" Xa
 h_steps_by:FH K "steps_by" Xb
 h_met_by:FH K "met_by" Geb
 h_met:FHd K "met" Gil 600
 h_row_to:FH K "row_to" Gec
 h_row_by:FH K "row_by" Gaq
 h_row_done:FH K "row_done" Xc
 h_row_through:FH K "row_through" Xd
 h_jam:FHd K "jam" Gim 600
 h__law_tape:FH K "_law_tape" Zp
 h__law_draw:FH K "_law_draw" Zq
 h__law_name:FH K "_law_name" Zr
 h__law_did:FH K "_law_did" Xe
 h__law_whole:FH K "_law_whole" Ym
 h__law_gone:FH K "_law_gone" Zs
 h__law_due:FH K "_law_due" Ga9
 h__law_is_met:FH K "_law_is_met" Qy
 h__law_hill:FH K "_law_hill" Vt
 h_law:FH K "law" Gcg
 z_ValueError:PySem.W.nsIn K mainGlobals "ValueError"=some none
 z_bool:PySem.W.nsIn K mainGlobals "bool"=some none
 z_enumerate:PySem.W.nsIn K mainGlobals "enumerate"=some none
 z_int:PySem.W.nsIn K mainGlobals "int"=some none
 z_isinstance:PySem.W.nsIn K mainGlobals "isinstance"=some none
 z_len:PySem.W.nsIn K mainGlobals "len"=some none
 z_list:PySem.W.nsIn K mainGlobals "list"=some none
 z_max:PySem.W.nsIn K mainGlobals "max"=some none
 z_min:PySem.W.nsIn K mainGlobals "min"=some none
 z_range:PySem.W.nsIn K mainGlobals "range"=some none
 z_repr:PySem.W.nsIn K mainGlobals "repr"=some none
 z_set:PySem.W.nsIn K mainGlobals "set"=some none
 z_str:PySem.W.nsIn K mainGlobals "str"=some none
 z_sum:PySem.W.nsIn K mainGlobals "sum"=some none
 z_tuple:PySem.W.nsIn K mainGlobals "tuple"=some none
structure Txt(K:PySem.W.Frag)(mg:Str->Option Value):Prop where
 b_ValueError:mg "ValueError"=none
 b_bool:mg "bool"=none
 b_enumerate:mg "enumerate"=none
 b_int:mg "int"=none
 b_isinstance:mg "isinstance"=none
 b_len:mg "len"=none
 b_list:mg "list"=none
 b_max:mg "max"=none
 b_min:mg "min"=none
 b_range:mg "range"=none
 b_repr:mg "repr"=none
 b_set:mg "set"=none
 b_str:mg "str"=none
 b_sum:mg "sum"=none
 b_tuple:mg "tuple"=none
 k_CHAMBER:∃ u v,mg "CHAMBER"=some u/\Gz v u/\∀ mp H,Rep K mp H c_CHAMBER v
 k_END:∃ u v,mg "END"=some u/\Gz v u/\∀ mp H,Rep K mp H c_END v
 k_LIMIT_OF_FEWER:∃ u v,mg "LIMIT_OF_FEWER"=some u/\Gz v u/\∀ mp H,Rep K mp H c_LIMIT_OF_FEWER v
 k_UP:∃ u v,mg "UP"=some u/\Gz v u/\∀ mp H,Rep K mp H c_UP v
 fv_deed_done:FvT K mg "deed_done"
 xt:XT K mg "SummitError" ys ms
theorem Txt.c_CHAMBER(T:Txt X.K X.mg)(hg:Gl X "CHAMBER"):GE X XQ (.Name "CHAMBER" pos) (cn c_CHAMBER):=let ⟨u,v,h1,h2,h3⟩:=T.k_CHAMBER; ⟨Ge1 h1 h2 h3 hg (by decide +kernel)⟩
theorem Txt.c_END(T:Txt X.K X.mg)(hg:Gl X "END"):GE X XQ (.Name "END" pos) (cn c_END):=let ⟨u,v,h1,h2,h3⟩:=T.k_END; ⟨Ge1 h1 h2 h3 hg (by decide +kernel)⟩
theorem Txt.c_LIMIT_OF_FEWER(T:Txt X.K X.mg)(hg:Gl X "LIMIT_OF_FEWER"):GE X XQ (.Name "LIMIT_OF_FEWER" pos) (cn c_LIMIT_OF_FEWER):=let ⟨u,v,h1,h2,h3⟩:=T.k_LIMIT_OF_FEWER; ⟨Ge1 h1 h2 h3 hg (by decide +kernel)⟩
theorem Txt.c_UP(T:Txt X.K X.mg)(hg:Gl X "UP"):GE X XQ (.Name "UP" pos) (cn c_UP):=let ⟨u,v,h1,h2,h3⟩:=T.k_UP; ⟨Ge1 h1 h2 h3 hg (by decide +kernel)⟩
noncomputable abbrev Qa:Stmt:=(Gqj (top 14)).getD 0 (.Pass ⟨0,0,0,0⟩)
theorem sc_init:FnScope ["self","text"] ["self","text"] (Gb Qa):=kdS
theorem Gza:OkG (Gb Qa) "ValueError":=⟨by decide +kernel⟩
theorem Gq9:OkV (Gb Qa) "self":=⟨by decide +kernel⟩
theorem Gra:OkV (Gb Qa) "text":=⟨by decide +kernel⟩
theorem Glf{P:Program}{w:World}{K:PySem.W.Frag}{mg:Str->Option Value}{base:Heap}(hm:mg "ValueError"=none)(f:Addr)(cdv:Value)(A:Around)(outer:List PySem.Env)(s:Shared)(H:Hp)(E:XK):PSs (Ku CX0 P w K mg base ["self","text"] "SummitError.__init__" (Gb Qa) f cdv A outer s H E).nox (Gv Qa) (Gs1 K):=by
 conv=>arg 2; whnf
 exact Gi4 (Gi5 (Gm2 (gl Gza) hm (Qp (Gej (i:=0) rfl (okV.vis Gq9.h).1) (Qp (Gej (i:=1) rfl (okV.vis Gra.h).1) pa_nil)) rfl))
structure All(P:Program)(w:World)(K:PySem.W.Frag)(mg:Str->Option Value)(base:Heap):Prop where
 h:Hs K
 g:GH K mg
 t:Txt K mg
 X_Dry:ClX P w K mg base "Dry" 1
 X_Full:ClX P w K mg base "Full" 1
 X_NoBarge:ClX P w K mg base "NoBarge" 1
 X_NoGate:ClX P w K mg base "NoGate" 1
 X_NoRoom:ClX P w K mg base "NoRoom" 1
 X_NoSpring:ClX P w K mg base "NoSpring" 1
 X_Shallow:ClX P w K mg base "Shallow" 1
 X_TooMany:ClX P w K mg base "TooMany" 1
 X_Uneven:ClX P w K mg base "Uneven" 1
section
variable{P:Program}{w:World}{K:PySem.W.Frag}{mg:Str->Option Value}{base:Heap}
noncomputable def Hv:Sv:=(sret (va (o2 eqD (o2 getD (vr 0) (cn (.int 0))) (cn (.str "pound"))) (o2 Zg (o2 getD (vr 0) (cn (.int 4))) (cn .non))))
noncomputable def Vu:Fn:=fnB 1 Hv
theorem Gdg:FnS ["place"] ["place"] (Gb Uo):=kdF
noncomputable abbrev z0:=Gb Uo
theorem Gch(Al:All P w K mg base):Cal P w K mg base "has_spring" ["place"] Vu 1:=by
 have Sc:=Gdg
 refine calw (b:=Hv) 0 Al.h.h_has_spring Al.g Sc rfl fun _ _ _ _ _ _ _ hr=>?_
 conv=>arg 3; whnf
 refine GSs.h ?_
 sleep 0
noncomputable def Km:Sv:=(sq (sif (tb (o2 eqD (vr 0) (cn c_END)))
  (sret (cn (.int 0)))
  skip)
  (sret (ie (tb (o2 eqD (vr 0) (cn c_CHAMBER))) (cn (.int 1)) (o2 getD (vr 0) (cn (.int 1))))))
noncomputable def Js:Fn:=fnB 1 Km
theorem Gdh:FnS ["place"] ["place"] (Gb Up):=kdF
noncomputable abbrev z1:=Gb Up
theorem Gci(Al:All P w K mg base):Cal P w K mg base "most_water" ["place"] Js 1:=by
 have Sc:=Gdh
 have T:=Al.t
 refine calw (b:=Km) 0 Al.h.h_most_water Al.g Sc rfl fun _ _ _ _ _ _ _ hr=>?_
 conv=>arg 3; whnf
 refine GSs.h ?_
 sleep 0
noncomputable def Xf:Sv:=(sret (va (o2 neD (vr 0) (cn c_END)) (o2 eqD (vr 1) (cn (.int 0)))))
noncomputable def Gcj:Fn:=fnB 2 Xf
theorem Glg:FnS ["place","level"] ["place","level"] (Gb Gao):=kdF
noncomputable abbrev z2:=Gb Gao
theorem Gin(Al:All P w K mg base):Cal P w K mg base "is_dry" ["place","level"] Gcj 1:=by
 have Sc:=Glg
 have T:=Al.t
 refine calw (b:=Xf) 0 Al.h.h_is_dry Al.g Sc rfl fun _ _ _ _ _ _ _ hr=>?_
 conv=>arg 3; whnf
 refine GSs.h ?_
 sleep 0
noncomputable def Vk:Sv:=(sret (va (o2 neD (vr 0) (cn c_END)) (o2 geD (vr 1) (cl 1 (Go Js) (ac (vr 0) an)))))
noncomputable def Ya:Fn:=fnB 2 Vk
theorem Gio:FnS ["place","level"] ["place","level"] (Gb Yx):=kdF
noncomputable abbrev z3:=Gb Yx
theorem Gba(Al:All P w K mg base):Cal P w K mg base "is_full" ["place","level"] Ya 2:=by
 have Sc:=Gio
 have T:=Al.t
 refine calw (b:=Vk) 1 Al.h.h_is_full Al.g Sc rfl fun _ _ _ _ _ _ _ hr=>?_
 conv=>arg 3; whnf
 refine GSs.h ?_
 have:=Gci Al
 sleep 0
noncomputable def Vv:Sv:=(sret (va (o2 eqD (o2 getD (vr 0) (cn (.int 0))) (cn (.str "pound"))) (o2 ltD (vr 1) (o2 getD (vr 0) (cn (.int 2))))))
noncomputable def Kn:Fn:=fnB 2 Vv
theorem Gdi:FnS ["place","level"] ["place","level"] (Gb Uq):=kdF
noncomputable abbrev z4:=Gb Uq
theorem Gck(Al:All P w K mg base):Cal P w K mg base "is_shallow" ["place","level"] Kn 1:=by
 have Sc:=Gdi
 refine calw (b:=Vv) 0 Al.h.h_is_shallow Al.g Sc rfl fun _ _ _ _ _ _ _ hr=>?_
 conv=>arg 3; whnf
 refine GSs.h ?_
 sleep 0
noncomputable def Zt:Sv:=(sq (sif (tb (o2 eqD (vr 0) (cn c_END)))
  (sret (cn (.bl true)))
  skip)
  (sret (o2 leD (vr 1) (ie (tb (o2 eqD (vr 0) (cn c_CHAMBER))) (cn (.int 1)) (o2 getD (vr 0) (cn (.int 3)))))))
noncomputable def Yb:Fn:=fnB 2 Zt
theorem Gnx:FnS ["place","barges"] ["place","barges"] (Gb Gg6):=kdF
theorem Glh(Al:All P w K mg base):Cal P w K mg base "holds" ["place","barges"] Yb 1:=by
 have Sc:=Gnx
 have T:=Al.t
 refine calw (b:=Zt) 0 Al.h.h_holds Al.g Sc rfl fun _ _ _ _ _ _ _ hr=>?_
 conv=>arg 3; whnf
 refine GSs.h ?_
 sleep 0
noncomputable def Xg:Sv:=(sret (ie (tb (o2 eqD (o2 getD (o2 getD (vr 0) (cn (.int 1))) (vr 1)) (cn c_UP))) (o2 Gx (vr 1) (cn (.int 1))) (vr 1)))
noncomputable def Xh:Fn:=fnB 2 Xg
theorem Gli:FnS ["canal","gate"] ["canal","gate"] (Gb Gap):=kdF
noncomputable abbrev z6:=Gb Gap
theorem Yy(Al:All P w K mg base):Cal P w K mg base "higher" ["canal","gate"] Xh 1:=by
 have Sc:=Gli
 have T:=Al.t
 refine calw (b:=Xg) 0 Al.h.h_higher Al.g Sc rfl fun _ _ _ _ _ _ _ hr=>?_
 conv=>arg 3; whnf
 refine GSs.h ?_
 sleep 0
noncomputable def Zu:Sv:=(sret (ie (tb (o2 eqD (o2 getD (o2 getD (vr 0) (cn (.int 1))) (vr 1)) (cn c_UP))) (vr 1) (o2 Gx (vr 1) (cn (.int 1)))))
noncomputable def Zv:Fn:=fnB 2 Zu
theorem Gny:FnS ["canal","gate"] ["canal","gate"] (Gb Gg7):=kdF
theorem Gar(Al:All P w K mg base):Cal P w K mg base "lower" ["canal","gate"] Zv 1:=by
 have Sc:=Gny
 have T:=Al.t
 refine calw (b:=Zu) 0 Al.h.h_lower Al.g Sc rfl fun _ _ _ _ _ _ _ hr=>?_
 conv=>arg 3; whnf
 refine GSs.h ?_
 sleep 0
noncomputable def Zw:Sv:=(sq (sa (o2 Gdd (b1 Hr (ac (o2 getD (vr 0) (cn (.int 0))) an)) (cn (.int 1))) (gn 2))
  (sq (spar 3 4 (ac (o2 getD (vr 1) (cn (.int 1))) (ac (o2 getD (vr 1) (cn (.int 2))) an)))
  (sret (va (o2 eqD (b1 Gk6 (ac (sl2 (vr 3) onone (osome (vr 2))) an)) (cn (.int 0))) (o2 eqD (b1 Gk6 (ac (sl2 (vr 4) (osome (cn (.int 1))) onone) an)) (cn (.int 0)))))))
noncomputable def Vw:Fn:=fnB 5 Zw
theorem Gdj:FnS ["canal","stand","last","rights","lefts"] ["canal","stand"] (Gb Ur):=kdF
noncomputable abbrev z8:=Gb Ur
theorem Ha6:OkC z8 "lefts":=⟨by decide +kernel⟩
theorem Ha7:OkC z8 "rights":=⟨by decide +kernel⟩
theorem Gcl(Al:All P w K mg base):Cal P w K mg base "is_through" ["canal","stand"] Vw 1:=by
 have Sc:=Gdj
 have T:=Al.t
 refine calw (b:=Zw) 0 Al.h.h_is_through Al.g Sc rfl fun _ _ _ _ _ _ _ hr=>?_
 conv=>arg 3; whnf
 refine GSs.h ?_
 exact(Gg (gsew 2 Sc (Gic (Qm (gG z8) T.b_len (Ga (Gs (gw 0 Sc) ge_int) Gf Gh)) ge_int))
  (Gg (Gif 3 4 rfl Sc.nd rfl rfl (by decide) Ha7.h Ha6.h (Ga (Gs (gw 1 Sc) ge_int) (Ga (Gs (gw 1 Sc) ge_int) Gf Gh) Gh) (by rfl))
  (Gn (Hm (Gni (Gb9 hr.units (Ge5 rfl (gG z8) T.b_sum (Ga (Xv (gw 3 Sc) Ge6 (Xx (gw 2 Sc))) Gf Gh)) ge_int) (Gnj (Gb9 hr.units (Ge5 rfl (gG z8) T.b_sum (Ga (Xv (gw 4 Sc) (Xx ge_int) Ge6) Gf Gh)) ge_int)))))))
noncomputable def Qf:Sv:=(sret (ie (tb (o2 eqD (vr 1) (cn (.str "right")))) (o2 getD (vr 0) (cn (.int 1))) (o2 getD (vr 0) (cn (.int 2)))))
noncomputable def Ug:Fn:=fnB 2 Qf
theorem Gff:FnS ["stand","word"] ["stand","word"] (Gb Zm):=kdF
theorem Yn(Al:All P w K mg base):Cal P w K mg base "barges_of" ["stand","word"] Ug 1:=by
 have Sc:=Gff
 refine calw (b:=Qf) 0 Al.h.h_barges_of Al.g Sc rfl fun _ _ _ _ _ _ _ hr=>?_
 conv=>arg 3; whnf
 refine GSs.h ?_
 sleep 0
noncomputable def Ut:Sv:=(sq (sa (vr 0) (gt (gcons (gn 3) (gcons (gn 4) (gcons (gn 5) gnil))) 3))
  (sret (ie (tb (o2 eqD (vr 1) (cn (.str "right")))) (tp (ac (vr 3) (ac (vr 2) (ac (vr 5) an)))) (tp (ac (vr 3) (ac (vr 4) (ac (vr 2) an)))))))
noncomputable def Qb:Fn:=fnB 6 Ut
theorem Gcm:FnS ["stand","word","row","levels","rights","lefts"] ["stand","word","row"] (Gb Ww):=kdF
theorem Gbe(Al:All P w K mg base):Cal P w K mg base "with_barges" ["stand","word","row"] Qb 1:=by
 have Sc:=Gcm
 refine calw (b:=Ut) 0 Al.h.h_with_barges Al.g Sc rfl fun _ _ _ _ _ _ _ hr=>?_
 conv=>arg 3; whnf
 refine GSs.h ?_
 sleep 0
noncomputable def Qg:Sv:=(sret (o2 Gx (o2 Gx (sl2 (vr 0) onone (osome (vr 1))) (tp (ac (o2 Gx (o2 getD (vr 0) (vr 1)) (vr 2)) an))) (sl2 (vr 0) (osome (o2 Gx (vr 1) (cn (.int 1)))) onone)))
noncomputable def Kl:Fn:=fnB 3 Qg
theorem Gfg:FnS ["row","place","many"] ["row","place","many"] (Gb Zn):=kdF
theorem Uu(Al:All P w K mg base):Cal P w K mg base "with_more" ["row","place","many"] Kl 1:=by
 have Sc:=Gfg
 refine calw (b:=Qg) 0 Al.h.h_with_more Al.g Sc rfl fun _ _ _ _ _ _ _ hr=>?_
 conv=>arg 3; whnf
 refine GSs.h ?_
 sleep 0
noncomputable def Je:Sv:=(sif (tn (tb (ch leD ltD (cn (.int 0)) (vr 1) (b1 Hr (ac (o2 getD (vr 0) (cn (.int 1))) an)))))
  (srs "NoGate" (ac (cn (.str "there is no such gate")) an))
  skip)
noncomputable def Qr:Fn:=fnB 2 Je
theorem Gdk:FnS ["canal","gate"] ["canal","gate"] (Gb Yj):=kdF
theorem Xi(Al:All P w K mg base):CalX P w K mg base "check_gate" ["canal","gate"] Qr 3:=by
 have Sc:=Gdk
 have T:=Al.t
 refine calxw (b:=Je) 2 Al.h.h_check_gate Al.g Sc rfl fun _ _ _ _ _ _ _ _ hr L=>?_
 conv=>arg 3; whnf
 refine GSs.h ?_
 have:=Al.X_NoGate
 sleep 0
noncomputable def Qz:Sv:=(sq (sa (vr 0) (gt (gcons (gn 1) (gcons (gn 2) gnil)) 2))
  (sret (ie (tb (o2 eqD (vr 1) (cn (.str "right")))) (o2 Gx (vr 2) (cn (.int 1))) (vr 2))))
noncomputable def Hz:Fn:=fnB 3 Qz
theorem Gbf:FnS ["deed","word","gate"] ["deed"] (Gb Wg):=kdF
theorem Kw(Al:All P w K mg base):Cal P w K mg base "place_behind" ["deed"] Hz 1:=by
 have Sc:=Gbf
 refine calw (b:=Qz) 0 Al.h.h_place_behind Al.g Sc rfl fun _ _ _ _ _ _ _ hr=>?_
 conv=>arg 3; whnf
 refine GSs.h ?_
 sleep 0
noncomputable def Uv:Sv:=(sq (sa (o2 getD (vr 0) (cn (.int 0))) (gn 3))
  (sq (sa (cl 2 (Go Xh) (ac (vr 0) (ac (vr 2) an))) (gn 4))
  (sq (sa (cl 2 (Go Zv) (ac (vr 0) (ac (vr 2) an))) (gn 5))
  (sq (sif (ta (tb (o2 eqD (o2 getD (vr 3) (vr 4)) (cn c_CHAMBER))) (tb (o2 eqD (o2 getD (vr 1) (vr 4)) (cn (.int 1)))))
  (srs "Uneven" (ac (cn (.str "the higher chamber is full")) an))
  skip)
  (sq (sif (ta (tb (o2 eqD (o2 getD (vr 3) (vr 5)) (cn c_CHAMBER))) (tb (o2 eqD (o2 getD (vr 1) (vr 5)) (cn (.int 0)))))
  (srs "Uneven" (ac (cn (.str "the lower chamber is empty")) an))
  skip)
  (sif (to (tt (cl 2 (Go Kn) (ac (o2 getD (vr 3) (vr 4)) (ac (o2 getD (vr 1) (vr 4)) an)))) (tt (cl 2 (Go Kn) (ac (o2 getD (vr 3) (vr 5)) (ac (o2 getD (vr 1) (vr 5)) an)))))
  (srs "Shallow" (ac (cn (.str "the pound's level is below its deep")) an))
  skip))))))
noncomputable def Qc:Fn:=fnB 6 Uv
theorem Gcn:FnS ["canal","levels","gate","places","high","low"] ["canal","levels","gate"] (Gb Wy):=kdF
theorem Gbg(Al:All P w K mg base):CalX P w K mg base "check_water" ["canal","levels","gate"] Qc 3:=by
 have Sc:=Gcn
 have T:=Al.t
 refine calxw (b:=Uv) 2 Al.h.h_check_water Al.g Sc rfl fun _ _ _ _ _ _ _ _ hr L=>?_
 conv=>arg 3; whnf
 refine GSs.h ?_
 have:=Yy Al
 have:=Gar Al
 have:=Gck Al
 have:=Al.X_Uneven
 have:=Al.X_Shallow
 sleep 0
noncomputable def Uw:Sv:=(sq (sa (vr 0) (gt (gcons (gn 1) (gcons (gn 2) gnil)) 2))
  (sret (ie (tb (o2 eqD (vr 1) (cn (.str "right")))) (vr 2) (o2 Gx (vr 2) (cn (.int 1))))))
noncomputable def Kb:Fn:=fnB 3 Uw
theorem Gco:FnS ["deed","word","gate"] ["deed"] (Gb Wz):=kdF
theorem Wi(Al:All P w K mg base):Cal P w K mg base "place_ahead" ["deed"] Kb 1:=by
 have Sc:=Gco
 refine calw (b:=Uw) 0 Al.h.h_place_ahead Al.g Sc rfl fun _ _ _ _ _ _ _ hr=>?_
 conv=>arg 3; whnf
 refine GSs.h ?_
 sleep 0
noncomputable def Jt:Sv:=(sq (sa (vr 2) (gt (gcons (gn 3) (gcons (gn 4) gnil)) 2))
  (sq (sx (cl 2 (gX ys Qr) (ac (vr 0) (ac (vr 4) an))))
  (sq (sif (tb (o2 eqD (o2 getD (cl 2 (Go Ug) (ac (vr 1) (ac (vr 3) an))) (cl 1 (Go Kb) (ac (vr 2) an))) (cn (.int 0))))
  (srs "NoBarge" (ac (cn (.str "there is no barge that goes this way")) an))
  skip)
  (sq (sa (cl 1 (Go Hz) (ac (vr 2) an)) (gn 5))
  (sq (sif (tn (tt (cl 2 (Go Yb) (ac (o2 getD (o2 getD (vr 0) (cn (.int 0))) (vr 5)) (ac (o2 Gx (o2 Gx (o2 getD (o2 getD (vr 1) (cn (.int 1))) (vr 5)) (o2 getD (o2 getD (vr 1) (cn (.int 2))) (vr 5))) (cn (.int 1))) an)))))
  (srs "NoRoom" (ac (cn (.str "the place that the barge comes to has no room")) an))
  skip)
  (sx (cl 3 (gX ys Qc) (ac (vr 0) (ac (o2 getD (vr 1) (cn (.int 0))) (ac (vr 4) an))))))))))
noncomputable def Ju:Fn:=fnB 6 Jt
theorem Gdl:FnS ["canal","stand","deed","word","gate","target"] ["canal","stand","deed"] (Gb Yk):=kdF
theorem Gcp(Al:All P w K mg base):CalX P w K mg base "check_move" ["canal","stand","deed"] Ju 4:=by
 have Sc:=Gdl
 have T:=Al.t
 refine calxw (b:=Jt) 3 Al.h.h_check_move Al.g Sc rfl fun _ _ _ _ _ _ _ _ hr L=>?_
 conv=>arg 3; whnf
 refine GSs.h ?_
 have:=Xi Al
 have:=Yn Al
 have:=Wi Al
 have:=Kw Al
 have:=Glh Al
 have:=Gbg Al
 have:=Al.X_NoBarge
 have:=Al.X_NoRoom
 sleep 0
noncomputable def Uh:Sv:=(sq (sx (cl 2 (gX ys Qr) (ac (vr 0) (ac (vr 2) an))))
  (sq (spar 3 4 (ac (o2 getD (vr 0) (cn (.int 0))) (ac (o2 getD (vr 1) (cn (.int 0))) an)))
  (sq (sa (cl 2 (Go Xh) (ac (vr 0) (ac (vr 2) an))) (gn 5))
  (sq (sa (cl 2 (Go Zv) (ac (vr 0) (ac (vr 2) an))) (gn 6))
  (sq (sif (tt (cl 2 (Go Gcj) (ac (o2 getD (vr 3) (vr 5)) (ac (o2 getD (vr 4) (vr 5)) an))))
  (srs "Dry" (ac (cn (.str "the higher place has no lockful")) an))
  skip)
  (sif (tt (cl 2 (Go Ya) (ac (o2 getD (vr 3) (vr 6)) (ac (o2 getD (vr 4) (vr 6)) an))))
  (srs "Full" (ac (cn (.str "the lower place takes no lockful")) an))
  skip))))))
noncomputable def Qh:Fn:=fnB 7 Uh
theorem Gfh:FnS ["canal","stand","gate","places","levels","high","low"] ["canal","stand","gate"] (Gb Vs):=kdF
noncomputable abbrev z17:=Gb Vs
theorem Gzb:OkC z17 "levels":=⟨by decide +kernel⟩
theorem Gzc:OkC z17 "places":=⟨by decide +kernel⟩
theorem Gdm(Al:All P w K mg base):CalX P w K mg base "check_let" ["canal","stand","gate"] Qh 4:=by
 have Sc:=Gfh
 have T:=Al.t
 refine calxw (b:=Uh) 3 Al.h.h_check_let Al.g Sc rfl fun _ _ _ _ _ _ _ _ hr L=>?_
 conv=>arg 3; whnf
 refine GSs.h ?_
 exact(Gg (Xy (Ggs z17 T.xt.xns L (Xi Al) hr (Ga (gw 0 Sc) (Ga (gw 2 Sc) Gf Ge) Ge)))
  (Gg (Gif 3 4 rfl Sc.nd rfl rfl (by decide) Gzc.h Gzb.h (Ga (Gs (gw 0 Sc) ge_int) (Ga (Gs (gw 1 Sc) ge_int) Gf Gh) Gh) (by rfl))
  (Gg (gsew 5 Sc (gow z17 (Yy Al) hr (Ga (gw 0 Sc) (Ga (gw 2 Sc) Gf Ge) Ge)))
  (Gg (gsew 6 Sc (gow z17 (Gar Al) hr (Ga (gw 0 Sc) (Ga (gw 2 Sc) Gf Ge) Ge)))
  (Gg (Ka (Kv (gow z17 (Gin Al) hr (Ga (Gs (gw 3 Sc) (gw 5 Sc)) (Ga (Gs (gw 4 Sc) (gw 5 Sc)) Gf Gh) Gh)))
  (Gn (Ggt z17 L Al.X_Dry hr (Ga Gw Gf Gc)))
  Hq)
  (Gn (Ka (Kv (gow z17 (Gba Al) hr (Ga (Gs (gw 3 Sc) (gw 6 Sc)) (Ga (Gs (gw 4 Sc) (gw 6 Sc)) Gf Gh) Gh)))
  (Gn (Ggt z17 L Al.X_Full hr (Ga Gw Gf Gc)))
  Hq)))))))
noncomputable def Vx:Sv:=(sq (spar 3 4 (ac (o2 getD (vr 0) (cn (.int 0))) (ac (o2 getD (vr 1) (cn (.int 0))) an)))
  (sq (sif (to (tn (tb (ch leD ltD (cn (.int 0)) (vr 2) (b1 Hr (ac (vr 3) an))))) (tn (tt (cl 1 (Go Vu) (ac (o2 getD (vr 3) (vr 2)) an)))))
  (srs "NoSpring" (ac (cn (.str "there is no spring at this place")) an))
  skip)
  (sif (tt (cl 2 (Go Ya) (ac (o2 getD (vr 3) (vr 2)) (ac (o2 getD (vr 4) (vr 2)) an))))
  (srs "Full" (ac (cn (.str "the pound is at its brim")) an))
  skip)))
noncomputable def Qs:Fn:=fnB 5 Vx
theorem Gdn:FnS ["canal","stand","number","places","levels"] ["canal","stand","number"] (Gb Us):=kdF
noncomputable abbrev z18:=Gb Us
theorem Gzd:OkC z18 "levels":=⟨by decide +kernel⟩
theorem Gze:OkC z18 "places":=⟨by decide +kernel⟩
theorem Gcq(Al:All P w K mg base):CalX P w K mg base "check_feed" ["canal","stand","number"] Qs 3:=by
 have Sc:=Gdn
 have T:=Al.t
 refine calxw (b:=Vx) 2 Al.h.h_check_feed Al.g Sc rfl fun _ _ _ _ _ _ _ _ hr L=>?_
 conv=>arg 3; whnf
 refine GSs.h ?_
 exact(Gg (Gif 3 4 rfl Sc.nd rfl rfl (by decide) Gze.h Gzd.h (Ga (Gs (gw 0 Sc) ge_int) (Ga (Gs (gw 1 Sc) ge_int) Gf Gh) Gh) (by rfl))
  (Gg (Ka (GW.jt (Wt (Qx (Gca Gi6 Gmq Ggd Gmp ge_int (gw 2 Sc) (Qm (gG z18) T.b_len (Ga (gw 3 Sc) Gf Ge)))) (Ws (Qx (Kv (gow z18 (Gch Al) hr (Ga (Gs (gw 3 Sc) (gw 2 Sc)) Gf Gh)))))))
  (Gn (Ggt z18 L Al.X_NoSpring hr (Ga Gw Gf Gc)))
  Hq)
  (Gn (Ka (Kv (gow z18 (Gba Al) hr (Ga (Gs (gw 3 Sc) (gw 2 Sc)) (Ga (Gs (gw 4 Sc) (gw 2 Sc)) Gf Gh) Gh)))
  (Gn (Ggt z18 L Al.X_Full hr (Ga Gw Gf Gc)))
  Hq))))
noncomputable def Gfi:Sv:=(sq (sa (o2 getD (vr 1) (cn (.int 0))) (gn 2))
  (sq (sa (cl 3 (Go Kl) (ac (cl 2 (Go Ug) (ac (vr 0) (ac (vr 2) an))) (ac (cl 1 (Go Kb) (ac (vr 1) an)) (ac (o1 Ggi (cn (.int 1))) an)))) (gn 3))
  (sret (cl 3 (Go Qb) (ac (vr 0) (ac (vr 2) (ac (cl 3 (Go Kl) (ac (vr 3) (ac (cl 1 (Go Hz) (ac (vr 1) an)) (ac (cn (.int 1)) an)))) an)))))))
noncomputable def Gbl:Fn:=fnB 4 Gfi
theorem Gnz:FnS ["stand","deed","word","row"] ["stand","deed"] (Gb Gg8):=kdF
theorem Glj(Al:All P w K mg base):Cal P w K mg base "moved" ["stand","deed"] Gbl 2:=by
 have Sc:=Gnz
 refine calw (b:=Gfi) 1 Al.h.h_moved Al.g Sc rfl fun _ _ _ _ _ _ _ hr=>?_
 conv=>arg 3; whnf
 refine GSs.h ?_
 have:=Uu Al
 have:=Yn Al
 have:=Wi Al
 have:=Gbe Al
 have:=Kw Al
 sleep 0
noncomputable def Vz:Sv:=(sq (sif (tb (o2 eqD (o2 getD (o2 getD (vr 0) (cn (.int 0))) (vr 2)) (cn c_END)))
  (sret (vr 1))
  skip)
  (sret (cl 3 (Go Kl) (ac (vr 1) (ac (vr 2) (ac (vr 3) an))))))
noncomputable def Ko:Fn:=fnB 4 Vz
theorem Gdo:FnS ["canal","levels","place","many"] ["canal","levels","place","many"] (Gb Yl):=kdF
theorem Gcr(Al:All P w K mg base):Cal P w K mg base "with_water" ["canal","levels","place","many"] Ko 2:=by
 have Sc:=Gdo
 have T:=Al.t
 refine calw (b:=Vz) 1 Al.h.h_with_water Al.g Sc rfl fun _ _ _ _ _ _ _ hr=>?_
 conv=>arg 3; whnf
 refine GSs.h ?_
 have:=Uu Al
 sleep 0
noncomputable def Yz:Sv:=(sq (sa (vr 1) (gt (gcons (gn 3) (gcons (gn 4) (gcons (gn 5) gnil))) 3))
  (sq (sa (cl 4 (Go Ko) (ac (vr 0) (ac (vr 3) (ac (cl 2 (Go Xh) (ac (vr 0) (ac (vr 2) an))) (ac (o1 Ggi (cn (.int 1))) an))))) (gn 3))
  (sq (sa (cl 4 (Go Ko) (ac (vr 0) (ac (vr 3) (ac (cl 2 (Go Zv) (ac (vr 0) (ac (vr 2) an))) (ac (cn (.int 1)) an))))) (gn 3))
  (sret (tp (ac (vr 3) (ac (vr 4) (ac (vr 5) an))))))))
noncomputable def Wa:Fn:=fnB 6 Yz
theorem Gg9:FnS ["canal","stand","gate","levels","rights","lefts"] ["canal","stand","gate"] (Gb Ga8):=kdF
theorem Gfj(Al:All P w K mg base):Cal P w K mg base "let_down" ["canal","stand","gate"] Wa 3:=by
 have Sc:=Gg9
 refine calw (b:=Yz) 2 Al.h.h_let_down Al.g Sc rfl fun _ _ _ _ _ _ _ hr=>?_
 conv=>arg 3; whnf
 refine GSs.h ?_
 have:=Gcr Al
 have:=Yy Al
 have:=Gar Al
 sleep 0
noncomputable def Ua:Sv:=(sret (o2 eqD (cl 1 (Go Hz) (ac (vr 1) an)) (ie (tb (o2 eqD (o2 getD (vr 1) (cn (.int 0))) (cn (.str "right")))) (o2 Gdd (b1 Hr (ac (o2 getD (vr 0) (cn (.int 0))) an)) (cn (.int 1))) (cn (.int 0)))))
noncomputable def Kq:Fn:=fnB 2 Ua
theorem Gbh:FnS ["canal","deed"] ["canal","deed"] (Gb Wh):=kdF
theorem Gas(Al:All P w K mg base):Cal P w K mg base "is_last_move" ["canal","deed"] Kq 2:=by
 have Sc:=Gbh
 have T:=Al.t
 refine calw (b:=Ua) 1 Al.h.h_is_last_move Al.g Sc rfl fun _ _ _ _ _ _ _ hr=>?_
 conv=>arg 3; whnf
 refine GSs.h ?_
 have:=Kw Al
 sleep 0
noncomputable def Hk:Sv:=(sq (sa (vr 2) (gt (gcons (gn 3) (gcons (gn 4) gnil)) 2))
  (sq (sif (tb (o2 eqD (vr 3) (cn (.str "let"))))
  (sq (sx (cl 3 (gX ys Qh) (ac (vr 0) (ac (vr 1) (ac (vr 4) an)))))
  (sret (tp (ac (cl 3 (Go Wa) (ac (vr 0) (ac (vr 1) (ac (vr 4) an)))) (ac (cn (.int 0)) (ac (cn (.int 0)) an))))))
  skip)
  (sq (sif (tb (o2 eqD (vr 3) (cn (.str "feed"))))
  (sq (sx (cl 3 (gX ys Qs) (ac (vr 0) (ac (vr 1) (ac (vr 4) an)))))
  (sq (sa (vr 1) (gt (gcons (gn 5) (gcons (gn 6) (gcons (gn 7) gnil))) 3))
  (sret (tp (ac (tp (ac (cl 3 (Go Kl) (ac (vr 5) (ac (vr 4) (ac (cn (.int 1)) an)))) (ac (vr 6) (ac (vr 7) an)))) (ac (o2 getD (o2 getD (o2 getD (vr 0) (cn (.int 0))) (vr 4)) (cn (.int 4))) (ac (cn (.int 0)) an)))))))
  skip)
  (sq (sx (cl 3 (gX ys Ju) (ac (vr 0) (ac (vr 1) (ac (vr 2) an)))))
  (sret (tp (ac (cl 2 (Go Gbl) (ac (vr 1) (ac (vr 2) an))) (ac (cn (.int 0)) (ac (ie (tt (cl 2 (Go Kq) (ac (vr 0) (ac (vr 2) an)))) (cn (.int 1)) (cn (.int 0))) an)))))))))
noncomputable def Gj:Fn:=fnB 8 Hk
theorem Gfk:FnS ["canal","stand","deed","word","number","levels","rights","lefts"] ["canal","stand","deed"] (Gb Zo):=kdF
theorem Gdp(Al:All P w K mg base):CalX P w K mg base "deed_done" ["canal","stand","deed"] Gj 5:=by
 have Sc:=Gfk
 have T:=Al.t
 refine calxw (b:=Hk) 4 Al.h.h_deed_done Al.g Sc rfl fun _ _ _ _ _ _ _ _ hr L=>?_
 conv=>arg 3; whnf
 refine GSs.h ?_
 have:=Gdm Al
 have:=Gfj Al
 have:=Gcq Al
 have:=Uu Al
 have:=Gcp Al
 have:=Glj Al
 have:=Gas Al
 sleep 0
noncomputable def Ub:Sv:=(sq (sa (vr 0) (gt (gcons (gn 1) (gcons (gn 2) gnil)) 2))
  (sq (sa (cmp (ir1 (ac (b1 Hr (ac (vr 2) an)) an)) [none] (gn 0) ttrue (tp (ac (cn (.str "let")) (ac (vr 0) an)))) (gn 3))
  (sq (sa (cmp (ir1 (ac (b1 Hr (ac (vr 1) an)) an)) [none] (gn 0) ttrue (tp (ac (cn (.str "feed")) (ac (vr 0) an)))) (gn 4))
  (sq (sa (cmp (ir1 (ac (b1 Hr (ac (vr 2) an)) an)) [none] (gn 0) ttrue (tp (ac (cn (.str "right")) (ac (vr 0) an)))) (gn 5))
  (sq (sa (cmp (ir1 (ac (b1 Hr (ac (vr 2) an)) an)) [none] (gn 0) ttrue (tp (ac (cn (.str "left")) (ac (vr 0) an)))) (gn 6))
  (sret (o2 Gx (o2 Gx (o2 Gx (vr 3) (vr 4)) (vr 5)) (vr 6))))))))
noncomputable def Wb:Fn:=fnB 7 Ub
theorem Gha:FnS ["canal","places","gates","lets","feeds","rights","lefts"] ["canal"] (Gb Xa):=kdF
noncomputable abbrev z24:=Gb Xa
theorem Gfl(Al:All P w K mg base):Cal P w K mg base "deeds_of" ["canal"] Wb 1:=by
 have Sc:=Gha
 have T:=Al.t
 refine calw (b:=Ub) 0 Al.h.h_deeds_of Al.g Sc rfl fun _ _ _ _ _ _ _ hr=>?_
 conv=>arg 3; whnf
 refine GSs.h ?_
 exact(Gg (Gam (gw 0 Sc) (Wu rfl (Hf (ggw 1 Sc) (Hf (ggw 2 Sc) Uf))))
  (Gg (Gd6 3 (N':=["gate"]) (pk:=[none]) Sc (Vj (gG z24) T.b_range (Ga (Qm (gG z24) T.b_len (Ga (gw 2 Sc) Gf Ge)) Gf Hj)) (fun cl s2 H2 C fp=>(Gcd 0)) (fun cl s2 H2 C fp=>Vq) (fun cl s2 H2 C fp=>(Hi (Ga Gw (Ga (Ga7 0) Gf Ge) Gc))))
  (Gg (Gd6 4 (N':=["place"]) (pk:=[none]) Sc (Vj (gG z24) T.b_range (Ga (Qm (gG z24) T.b_len (Ga (gw 1 Sc) Gf Ge)) Gf Hj)) (fun cl s2 H2 C fp=>(Gcd 0)) (fun cl s2 H2 C fp=>Vq) (fun cl s2 H2 C fp=>(Hi (Ga Gw (Ga (Ga7 0) Gf Ge) Gc))))
  (Gg (Gd6 5 (N':=["gate"]) (pk:=[none]) Sc (Vj (gG z24) T.b_range (Ga (Qm (gG z24) T.b_len (Ga (gw 2 Sc) Gf Ge)) Gf Hj)) (fun cl s2 H2 C fp=>(Gcd 0)) (fun cl s2 H2 C fp=>Vq) (fun cl s2 H2 C fp=>(Hi (Ga Gw (Ga (Ga7 0) Gf Ge) Gc))))
  (Gg (Gd6 6 (N':=["gate"]) (pk:=[none]) Sc (Vj (gG z24) T.b_range (Ga (Qm (gG z24) T.b_len (Ga (gw 2 Sc) Gf Ge)) Gf Hj)) (fun cl s2 H2 C fp=>(Gcd 0)) (fun cl s2 H2 C fp=>Vq) (fun cl s2 H2 C fp=>(Hi (Ga Gw (Ga (Ga7 0) Gf Ge) Gc))))
  (Gn (Hm (Ji (Ji (Ji (gw 3 Sc) (gw 4 Sc)) (gw 5 Sc)) (gw 6 Sc)))))))))
noncomputable def Kc:Sv:=(sa (clv 2 "deed_done" 3 (gX ys Gj) (ac (vr 0) (ac (vr 1) (ac (vr 4) an)))) (gt (gcons (gn 5) (gcons (gn 6) (gcons (gn 7) gnil))) 3))
noncomputable def Gdq:Sv:=sct
noncomputable def Jg:Sv:=(sq (Vi ys (Gqc Gdq) Kc)
  (sx (mt Gez (vr 3) (ac (tp (ac (vr 4) (ac (vr 5) (ac (vr 6) (ac (vr 7) an))))) an))))
noncomputable def Uc:Sv:=(sq (sa (ls an) (gn 3))
  (sq (sfor (isrc (cl 1 (Go Wb) (ac (vr 0) an))) (gn 4) Jg)
  (sret (vr 3))))
noncomputable def Kx:Fn:=fnB 8 Uc
theorem Ghb:FnS ["canal","stand","done","steps","deed","behind","price","gain"] ["canal","stand","done"] (Gb Xb):=kdF
noncomputable abbrev z25:=Gb Xb
theorem Yo:Gy "SummitError"=true:=by decide +kernel
theorem Gfm(Al:All P w K mg base):Cal P w K mg base "steps_by" ["canal","stand","done"] Kx 6:=by
 have Sc:=Ghb
 have T:=Al.t
 refine calw (b:=Uc) 5 Al.h.h_steps_by Al.g Sc rfl fun _ _ _ _ _ _ _ hr=>?_
 conv=>arg 3; whnf
 refine GSs.h ?_
 exact(Gg (gsew 3 Sc (Hy Gf))
  (Gg (Gcc PassesOwn.never rfl (Gcb (gow z25 (Gfl Al) hr (Ga (gw 0 Sc) Gf Ge))) (ggw 4 Sc)
  (Gg (Gql ⟨rfl,rfl,rfl⟩ T.xt.cat (gG z25) Yo (fun pn xe XQ L=>(Gn (Gam (Gyz 2 Sc T.xt.xns L (Gdp Al) hr (Ga (gw 0 Sc) (Ga (gw 1 Sc) (Ga (gw 4 Sc) Gf Ge) Ge) Ge)) (Wu rfl (Hf (ggw 5 Sc) (Hf (ggw 6 Sc) (Hf (ggw 7 Sc) Uf)))))))
  (fun a=>(Gn Ga6)))
  (Gn (Xy (Xw (gw 3 Sc) (Ga (Hi (Ga (gw 4 Sc) (Ga (gw 5 Sc) (Ga (gw 6 Sc) (Ga (gw 7 Sc) Gf Ge) Ge) Ge) Ge)) Gf Jf))))))
  (Gn (Hm (gw 3 Sc)))))
noncomputable def Jn:Sv:=(sif (tb (o2 (Gg0 true) (vr 8) (vr 5)))
  (sq (ss (cn (.bl true)) (vr 5) (vr 8) dsetD)
  (sx (mt Gez (vr 4) (ac (tp (ac (vr 8) (ac (vr 6) (ac (vr 7) an)))) an))))
  skip)
noncomputable def Jc:Sv:=(sq (sif (tb (o2 gtD (b1 Hr (ac (vr 4) an)) (vr 2)))
  (srs "TooMany" (ac (cn (.str "more stands are met than the limit")) an))
  skip)
  (sq (sfor (isrc (cl 3 (Go Kx) (ac (vr 0) (ac (o2 getD (o2 getD (vr 4) (vr 6)) (cn (.int 0))) (ac (vr 3) an))))) (gt (gcons (gn 7) (gcons (gn 8) (gcons (gn 9) (gcons (gn 10) gnil)))) 4) Jn)
  (sag 6 (fun a b=>a+b) (cn (.int 1)))))
noncomputable def Jo:Ev Bool:=(tb (o2 ltD (vr 6) (b1 Hr (ac (vr 4) an))))
noncomputable def Zx:Sv:=(sq (sa (ls (ac (tp (ac (vr 1) (ac (cn .non) (ac (cn .non) an)))) an)) (gn 4))
  (sq (sa (Gg2 (vr 1) (cn (.bl true))) (gn 5))
  (sq (sa (cn (.int 0)) (gn 6))
  (sq (whN Jo Jc 3000)
  (sret (vr 4))))))
noncomputable def Vl:Fn:=fnB 11 Zx
theorem Glk:FnS ["canal","stand","limit","done","told","seen","at","deed","behind","price","gain"] ["canal","stand","limit","done"] (Gb Geb):=kdF
theorem Gip(Al:All P w K mg base):CalX P w K mg base "met_by" ["canal","stand","limit","done"] Vl 7:=by
 have Sc:=Glk
 have T:=Al.t
 refine calxw (b:=Zx) 6 Al.h.h_met_by Al.g Sc rfl fun _ _ _ _ _ _ _ _ hr L=>?_
 conv=>arg 3; whnf
 refine GSs.h ?_
 have:=Gfm Al
 have:=Al.X_TooMany
 sleep 0
noncomputable def Gjs:Sv:=(sret (cl 4 (gX ys Vl) (ac (vr 0) (ac (vr 1) (ac (vr 2) (ac (cn (.fv "deed_done")) an))))))
noncomputable def Ud:Fn:=fnB 3 Gjs
theorem Gwj:FnS ["canal","stand","limit"] ["canal","stand","limit"] (Gb Gil):=kdF
noncomputable abbrev z27:=Gb Gil
theorem Gfn(Al:All P w K mg base):CalD P w K mg base "met" ["canal","stand","limit"] Ud 600 8:=by
 have Sc:=Gwj
 have T:=Al.t
 refine caldw (b:=Gjs) 7 Al.h.h_met Al.g Sc rfl (fun _ _ _ _ _ _ _ _ hr L=>?_) (fun s T o t n kV doc pm an cdv ct us hl ho hd=>match us,hl with | [_,_,_],_=>.of_defaults rfl ho hd rfl rfl) (fun s T o t n kV doc pm an cdv ct us hl ho hd=>match us,hl with | [_,_],_=>.of_defaults rfl ho hd rfl rfl)
 conv=>arg 3; whnf
 refine GSs.h ?_
 exact(Gn (Hm (Ggs z27 T.xt.xns L (Gip Al) hr (Ga (gw 0 Sc) (Ga (gw 1 Sc) (Ga (gw 2 Sc) (Ga (Gne T.fv_deed_done (gG z27) (by decide +kernel)) Gf Ge) Ge) Ge) Ge))))
noncomputable def Gbb:Sv:=(sq (sx (mt Gez (vr 2) (ac (vr 5) an)))
  (sa (o2 getD (vr 0) (vr 4)) (gt (gcons (gn 3) (gcons (gn 4) (gcons (gn 5) gnil))) 3)))
noncomputable def Xj:Ev Bool:=(tb (o2 Zg (vr 4) (cn .non)))
noncomputable def Gcs:Sv:=(sq (sa (ls an) (gn 2))
  (sq (sa (o2 getD (vr 0) (vr 1)) (gt (gcons (gn 3) (gcons (gn 4) (gcons (gn 5) gnil))) 3))
  (sq (whN Xj Gbb 3000)
  (sret (rvl (vr 2) (osome (o1 Ggi (cn (.int 1)))))))))
noncomputable def Zy:Fn:=fnB 6 Gcs
theorem Gll:FnS ["told","number","deeds","stand","ahead","deed"] ["told","number"] (Gb Gec):=kdF
theorem Giq(Al:All P w K mg base):Cal P w K mg base "row_to" ["told","number"] Zy 1:=by
 have Sc:=Gll
 refine calw (b:=Gcs) 0 Al.h.h_row_to Al.g Sc rfl fun _ _ _ _ _ _ _ hr=>?_
 conv=>arg 3; whnf
 refine GSs.h ?_
 exact(Gg (gsew 2 Sc (Hy Gf))
  (Gg (Gam (Gs (gw 0 Sc) (gw 1 Sc)) (Wu rfl (Hf (ggw 3 Sc) (Hf (ggw 4 Sc) (Hf (ggw 5 Sc) Uf)))))
  (Gg (Ggr 3000 PassesOwn.never (Gjl (gw 4 Sc) Gal)
  (Gg (Xy (Xw (gw 2 Sc) (Ga (gw 5 Sc) Gf Ge)))
  (Gn (Gam (Gs (gw 0 Sc) (gw 4 Sc)) (Wu rfl (Hf (ggw 3 Sc) (Hf (ggw 4 Sc) (Hf (ggw 5 Sc) Uf))))))))
  (Gn (Hm (Gq5 (gw 2 Sc) (Xx (Gid ge_int))))))))
noncomputable def Ghc:Sv:=sbad
noncomputable def Gct:Sv:=(sq (sa (vr 1) (gn 4))
  (sq (sa (cn (.int 0)) (gn 5))
  (sq (sa (cn (.int 0)) (gn 6))
  (sq (sfor (Qw (ac (vr 2) an)) (gt (gcons (gn 7) (gcons (gn 8) gnil)) 2) Ghc)
  (sret (tp (ac (vr 4) (ac (vr 5) (ac (vr 6) an)))))))))
noncomputable def Zz:Fn:=fnB 11 Gct
theorem Glm:FnS ["canal","stand","deeds","done","behind","price","gain","at","deed","paid","gained"] ["canal","stand","deeds","done"] (Gb Gaq):=kdF
noncomputable abbrev z29:=Gb Gaq
theorem Gir(Al:All P w K mg base):CalX P w K mg base "row_by" ["canal","stand","deeds","done"] Zz 1:=by
 have Sc:=Glm
 have T:=Al.t
 refine calxw (b:=Gct) 0 Al.h.h_row_by Al.g Sc rfl fun _ _ _ _ _ _ _ _ hr L=>?_
 conv=>arg 3; whnf
 refine GSs.h ?_
 exact(Gg (gsew 4 Sc (gw 1 Sc))
  (Gg (gsew 5 Sc ge_int)
  (Gg (gsew 6 Sc ge_int)
  (Gg (Gcc L.pas rfl (Gb8 (gG z29) T.b_enumerate (Ga (gw 2 Sc) Gf Ge)) (Wu rfl (Hf (ggw 7 Sc) (Hf (ggw 8 Sc) Uf)))
  Gjq)
  (Gn (Hm (Hi (Ga (gw 4 Sc) (Ga (gw 5 Sc) (Ga (gw 6 Sc) Gf Ge) Ge) Ge))))))))
noncomputable def Zc:Sv:=(sret (cl 4 (gX ys Zz) (ac (vr 0) (ac (vr 1) (ac (vr 2) (ac (cn (.fv "deed_done")) an))))))
noncomputable def Ue:Fn:=fnB 3 Zc
theorem Ghd:FnS ["canal","stand","deeds"] ["canal","stand","deeds"] (Gb Xc):=kdF
noncomputable abbrev z30:=Gb Xc
theorem Gfo(Al:All P w K mg base):CalX P w K mg base "row_done" ["canal","stand","deeds"] Ue 2:=by
 have Sc:=Ghd
 have T:=Al.t
 refine calxw (b:=Zc) 1 Al.h.h_row_done Al.g Sc rfl fun _ _ _ _ _ _ _ _ hr L=>?_
 conv=>arg 3; whnf
 refine GSs.h ?_
 exact(Gn (Hm (Ggs z30 T.xt.xns L (Gir Al) hr (Ga (gw 0 Sc) (Ga (gw 1 Sc) (Ga (gw 2 Sc) (Ga (Gne T.fv_deed_done (gG z30) (by decide +kernel)) Gf Ge) Ge) Ge) Ge))))
noncomputable def Jv:Sv:=(sif (tt (cl 2 (Go Vw) (ac (vr 0) (ac (vr 5) an))))
  (sret (cl 2 (Go Zy) (ac (vr 3) (ac (vr 4) an))))
  skip)
noncomputable def Qd:Sv:=(sq (sa (cl 3 (gX ys Ud) (ac (vr 0) (ac (vr 1) (ac (vr 2) an)))) (gn 3))
  (sq (sfor (Qw (ac (vr 3) an)) (gt (gcons (gn 4) (gcons (gt (gcons (gn 5) (gcons (gn 6) (gcons (gn 7) gnil))) 3) gnil)) 2) Jv)
  (sret (cn .non))))
noncomputable def Jh:Fn:=fnB 8 Qd
theorem Gcu:FnS ["canal","stand","limit","told","number","one","ahead","deed"] ["canal","stand","limit"] (Gb Xd):=kdF
theorem Gbi(Al:All P w K mg base):CalX P w K mg base "row_through" ["canal","stand","limit"] Jh 9:=by
 have Sc:=Gcu
 have T:=Al.t
 refine calxw (b:=Qd) 8 Al.h.h_row_through Al.g Sc rfl fun _ _ _ _ _ _ _ _ hr L=>?_
 conv=>arg 3; whnf
 refine GSs.h ?_
 have:=(Gfn Al).x
 have:=Gcl Al
 have:=Giq Al
 sleep 0
noncomputable def Gjt:Sv:=(sq (sa (cl 3 (gX ys Jh) (ac (vr 0) (ac (vr 1) (ac (vr 2) an)))) (gn 3))
  (sq (sif (tb (o2 Zg (vr 3) (cn .non)))
  (sret (tp (ac (cn (.str "free")) (ac (vr 3) an))))
  skip)
  (sq (sa (b1 Gmy (ac (vr 2) (ac (cn c_LIMIT_OF_FEWER) an))) (gn 4))
  sbad)))
noncomputable def Yp:Fn:=fnB 8 Gjt
theorem Gwk:FnS ["canal","stand","limit","deeds","further","kept","stands","rows"] ["canal","stand","limit"] (Gb Gim):=kdF
noncomputable abbrev z32:=Gb Gim
theorem Gju(Al:All P w K mg base):CalD P w K mg base "jam" ["canal","stand","limit"] Yp 600 10:=by
 have Sc:=Gwk
 have T:=Al.t
 refine caldw (b:=Gjt) 9 Al.h.h_jam Al.g Sc rfl (fun _ _ _ _ _ _ _ _ hr L=>?_) (fun s T o t n kV doc pm an cdv ct us hl ho hd=>match us,hl with | [_,_,_],_=>.of_defaults rfl ho hd rfl rfl) (fun s T o t n kV doc pm an cdv ct us hl ho hd=>match us,hl with | [_,_],_=>.of_defaults rfl ho hd rfl rfl)
 conv=>arg 3; whnf
 refine GSs.h ?_
 exact(Gg (gsew 3 Sc (Ggs z32 T.xt.xns L (Gbi Al) hr (Ga (gw 0 Sc) (Ga (gw 1 Sc) (Ga (gw 2 Sc) Gf Ge) Ge) Ge)))
  (Gg (Ka (Gjl (gw 3 Sc) Gal)
  (Gn (Hm (Hi (Ga Gw (Ga (gw 3 Sc) Gf Ge) Gc))))
  Hq)
  (Gg (gsew 4 Sc (Gvz rfl (gG z32) T.b_max (Ga (gw 2 Sc) (Ga (T.c_LIMIT_OF_FEWER (gG z32)) Gf Ge) Ge)))
  Gjq)))
noncomputable def Qi:Sv:=(sret (ls (ac (b1 Wo (ac (sl2 (vr 0) onone (osome (cn (.int 63)))) an)) (ac (cn (.int 0)) (ac (cn (.int 0)) an)))))
noncomputable def Xk:Fn:=fnB 1 Qi
theorem Gfp:FnS ["_law_script"] ["_law_script"] (Gb Zp):=kdF
theorem Gdr(Al:All P w K mg base):Cal P w K mg base "_law_tape" ["_law_script"] Xk 1:=by
 have Sc:=Gfp
 have T:=Al.t
 refine calw (b:=Qi) 0 Al.h.h__law_tape Al.g Sc rfl fun _ _ _ _ _ _ _ hr=>?_
 conv=>arg 3; whnf
 refine GSs.h ?_
 sleep 0
noncomputable def Jp:Sv:=(sq (sif (tb (o2 gtD (o2 getD (vr 0) (cn (.int 2))) (cn (.int 0))))
  (sq (sa (o2 Wj (o2 getD (vr 0) (cn (.int 2))) (vr 1)) (gn 2))
  (sq (ss (o2 Ga4 (o2 getD (vr 0) (cn (.int 2))) (vr 1)) (vr 0) (cn (.int 2)) Vg)
  (sret (vr 2))))
  skip)
  (sq (sa (o2 getD (vr 0) (cn (.int 1))) (gn 3))
  (sq (ss (o2 Gx (vr 3) (cn (.int 1))) (vr 0) (cn (.int 1)) Vg)
  (sq (sa (cn (.int 0)) (gn 4))
  (sq (sif (tb (o2 gtD (b1 Hr (ac (o2 getD (vr 0) (cn (.int 0))) an)) (cn (.int 0))))
  (sa (o2 getD (o2 getD (vr 0) (cn (.int 0))) (o2 Wj (vr 3) (b1 Hr (ac (o2 getD (vr 0) (cn (.int 0))) an)))) (gn 4))
  skip)
  (sq (sif (ta (tb (o2 ltD (vr 3) (b1 Hr (ac (o2 getD (vr 0) (cn (.int 0))) an)))) (tb (o2 geD (vr 4) (o2 Ggh (cn (.int 10)) (cn (.int 18))))))
  (sq (ss (o2 Ga4 (vr 4) (vr 1)) (vr 0) (cn (.int 2)) Vg)
  (sret (o2 Wj (vr 4) (vr 1))))
  skip)
  (sq (sa (o2 Wj (o2 Jl (o2 Gx (o2 Wj (vr 4) (cn (.int 1000003))) (cn (.int 1))) (o2 Gx (o2 Gx (o2 Jl (o2 Jl (cn (.int 7919)) (vr 3)) (vr 3)) (o2 Jl (cn (.int 104729)) (vr 3))) (cn (.int 12345)))) (cn (.int 2147483647))) (gn 5))
  (sq (sa (o2 Wj (o2 Gx (o2 Gx (o2 Jl (vr 5) (vr 5)) (o2 Jl (cn (.int 48271)) (vr 3))) (o2 Wj (vr 4) (cn (.int 65537)))) (cn (.int 2147483629))) (gn 5))
  (sret (o2 Wj (o2 Ga4 (vr 5) (cn (.int 8))) (vr 1)))))))))))
noncomputable def Gr:Fn:=fnB 6 Jp
theorem Gfq:FnS ["_law_tape_here","_law_many","_law_digit","_law_at","_law_cell","_law_mixed"] ["_law_tape_here","_law_many"] (Gb Zq):=kdF
theorem He(Al:All P w K mg base):Cal P w K mg base "_law_draw" ["_law_tape_here","_law_many"] Gr 1:=by
 have Sc:=Gfq
 have T:=Al.t
 refine calw (b:=Jp) 0 Al.h.h__law_draw Al.g Sc rfl fun _ _ _ _ _ _ _ hr=>?_
 conv=>arg 3; whnf
 refine GSs.h ?_
 sleep 0
noncomputable def Qj:Sv:=(sq (sa (ls (ac (cn (.str "nogate")) (ac (cn (.str "dry")) (ac (cn (.str "full")) (ac (cn (.str "nospring")) (ac (cn (.str "nobarge")) (ac (cn (.str "noroom")) (ac (cn (.str "uneven")) (ac (cn (.str "shallow")) (ac (cn (.str "falls")) (ac (cn (.str "notext")) (ac (cn (.str "toomany")) (ac (cn (.str "noline")) an))))))))))))) (gn 1))
  (sq (sif (to (tb (o2 neD (b1 Hr (ac (vr 0) an)) (cn (.int 13)))) (to (tb (o2 neD (mt Gk9 (sl2 (vr 0) onone (osome (cn (.int 12)))) (ac (cn (.bl true)) an)) (cn (.int 1)))) (tn (tt (o2 getD (vr 0) (cn (.int 12)))))))
  (sret (cn (.str "unlike")))
  skip)
  (sret (o2 getD (vr 1) (mt Gla (vr 0) (ac (cn (.bl true)) an))))))
noncomputable def Qk:Fn:=fnB 2 Qj
theorem Gfr:FnS ["_law_marks","_law_words_here"] ["_law_marks"] (Gb Zr):=kdF
theorem Gds(Al:All P w K mg base):Cal P w K mg base "_law_name" ["_law_marks"] Qk 1:=by
 have Sc:=Gfr
 have T:=Al.t
 refine calw (b:=Qj) 0 Al.h.h__law_name Al.g Sc rfl fun _ _ _ _ _ _ _ hr=>?_
 conv=>arg 3; whnf
 refine GSs.h ?_
 sleep 0
noncomputable def Ke:Sv:=(sif (ta (tb (o2 eqD (vr 0) (cn (.str "met")))) (tb (o2 eqD (vr 3) (cn (.int 0)))))
  (sa (cl 2 (gX ys (Gcf 600 Ud)) (ac (vr 1) (ac (vr 2) an))) (gn 4))
  (sif (tb (o2 eqD (vr 0) (cn (.str "met"))))
  (sa (cl 3 (gX ys Ud) (ac (vr 1) (ac (vr 2) (ac (vr 3) an)))) (gn 4))
  (sif (tb (o2 eqD (vr 3) (cn (.int 0))))
  (sa (cl 2 (gX ys (Gcf 600 Yp)) (ac (vr 1) (ac (vr 2) an))) (gn 4))
  (sa (cl 3 (gX ys Yp) (ac (vr 1) (ac (vr 2) (ac (vr 3) an)))) (gn 4)))))
noncomputable def Kf:Sv:=(sq (sa (ls (ac (o1 (Jz ys ["NoGate"]) (vr 6)) (ac (o1 (Jz ys ["Dry"]) (vr 6)) (ac (o1 (Jz ys ["Full"]) (vr 6)) (ac (o1 (Jz ys ["NoSpring"]) (vr 6)) an))))) (gn 5))
  (sq (sa (o2 Gx (vr 5) (ls (ac (o1 (Jz ys ["NoBarge"]) (vr 6)) (ac (o1 (Jz ys ["NoRoom"]) (vr 6)) (ac (o1 (Jz ys ["Uneven"]) (vr 6)) an))))) (gn 5))
  (sq (sa (o2 Gx (vr 5) (ls (ac (o1 (Jz ys ["Shallow"]) (vr 6)) (ac (o1 (Jz ys ["Falls"]) (vr 6)) (ac (o1 (Jz ys ["NoText"]) (vr 6)) an))))) (gn 5))
  (sa (o2 Gx (vr 5) (ls (ac (o1 (Jz ys ["TooMany"]) (vr 6)) (ac (o1 (Jz ys ["NoLine"]) (vr 6)) (ac (o1 (Jz ys ys) (vr 6)) an))))) (gn 5)))))
noncomputable def Wc:Sv:=(sq (sa (cn .non) (gn 4))
  (sq (sa (ls an) (gn 5))
  (sq (Vi ys (hdl 6 Kf) Ke)
  (sq (sif (tb (o2 neD (vr 5) (ls an)))
  (sret (cl 1 (Go Qk) (ac (vr 5) an)))
  skip)
  (sret (vr 4))))))
noncomputable def Hw:Fn:=fnB 7 Wc
theorem Ghe:FnS ["_law_call","_law_canal_here","_law_stand_here","_law_limit","_law_found","_law_marks","e"] ["_law_call","_law_canal_here","_law_stand_here","_law_limit"] (Gb Xe):=kdF
noncomputable abbrev z36:=Gb Xe
theorem Gzf:OkC z36 "e":=⟨by decide +kernel⟩
theorem Gfs(Al:All P w K mg base):Cal P w K mg base "_law_did" ["_law_call","_law_canal_here","_law_stand_here","_law_limit"] Hw 11:=by
 have Sc:=Ghe
 have T:=Al.t
 refine calw (b:=Wc) 10 Al.h.h__law_did Al.g Sc rfl fun _ _ _ _ _ _ _ hr=>?_
 conv=>arg 3; whnf
 refine GSs.h ?_
 exact(Gg (gsew 4 Sc Gal)
  (Gg (gsew 5 Sc (Hy Gf))
  (Gg (Gqk 6 ⟨rfl,rfl,rfl⟩ T.xt.cat (gG z36) Yo Sc.nd Gzf (fun pn xe XQ L=>(Gn (Ka (GW.jt (Gie (Gd5 hr.units (gw 0 Sc) Gw) (Gjm (Gd5 hr.units (gw 3 Sc) ge_int))))
  (Gn (gsew 4 Sc (Gs2 z36 T.xt.xns L (Gfn Al) hr (Ga (gw 1 Sc) (Ga (gw 2 Sc) Gf Ge) Ge))))
  (Gn (Ka (Gd5 hr.units (gw 0 Sc) Gw)
  (Gn (gsew 4 Sc (Ggs z36 T.xt.xns L (Gfn Al).x hr (Ga (gw 1 Sc) (Ga (gw 2 Sc) (Ga (gw 3 Sc) Gf Ge) Ge) Ge))))
  (Gn (Ka (Gd5 hr.units (gw 3 Sc) ge_int)
  (Gn (gsew 4 Sc (Gs2 z36 T.xt.xns L (Gju Al) hr (Ga (gw 1 Sc) (Ga (gw 2 Sc) Gf Ge) Ge))))
  (Gn (gsew 4 Sc (Ggs z36 T.xt.xns L (Gju Al).x hr (Ga (gw 1 Sc) (Ga (gw 2 Sc) (Ga (gw 3 Sc) Gf Ge) Ge) Ge)))))))))))
  (fun a=>(Gg (gsew 5 Sc (Hy (Ga (Qn z36 (T.xt.isx "NoGate" (by decide +kernel)) T.b_isinstance (gw 6 Sc)) (Ga (Qn z36 (T.xt.isx "Dry" (by decide +kernel)) T.b_isinstance (gw 6 Sc)) (Ga (Qn z36 (T.xt.isx "Full" (by decide +kernel)) T.b_isinstance (gw 6 Sc)) (Ga (Qn z36 (T.xt.isx "NoSpring" (by decide +kernel)) T.b_isinstance (gw 6 Sc)) Gf Hj) Hj) Hj) Hj)))
  (Gg (gsew 5 Sc (Ji (gw 5 Sc) (Hy (Ga (Qn z36 (T.xt.isx "NoBarge" (by decide +kernel)) T.b_isinstance (gw 6 Sc)) (Ga (Qn z36 (T.xt.isx "NoRoom" (by decide +kernel)) T.b_isinstance (gw 6 Sc)) (Ga (Qn z36 (T.xt.isx "Uneven" (by decide +kernel)) T.b_isinstance (gw 6 Sc)) Gf Hj) Hj) Hj))))
  (Gg (gsew 5 Sc (Ji (gw 5 Sc) (Hy (Ga (Qn z36 (T.xt.isx "Shallow" (by decide +kernel)) T.b_isinstance (gw 6 Sc)) (Ga (Qn z36 (T.xt.isx "Falls" (by decide +kernel)) T.b_isinstance (gw 6 Sc)) (Ga (Qn z36 (T.xt.isx "NoText" (by decide +kernel)) T.b_isinstance (gw 6 Sc)) Gf Hj) Hj) Hj))))
  (Gn (gsew 5 Sc (Ji (gw 5 Sc) (Hy (Ga (Qn z36 (T.xt.isx "TooMany" (by decide +kernel)) T.b_isinstance (gw 6 Sc)) (Ga (Qn z36 (T.xt.isx "NoLine" (by decide +kernel)) T.b_isinstance (gw 6 Sc)) (Ga (Gv2 z36 T.xt.val T.b_isinstance T.b_ValueError (gw 6 Sc)) Gf Hj) Hj) Hj))))))))))
  (Gg (Ka (Zk hr.units (gw 5 Sc) (Hy Gf))
  (Gn (Hm (gow z36 (Gds Al) hr (Ga (gw 5 Sc) Gf Ge))))
  Hq)
  (Gn (Hm (gw 4 Sc)))))))
noncomputable def Kr:Sv:=(sret (va (o1 (isD "int") (vr 0)) (vn (o1 (isD "bool") (vr 0)))))
noncomputable def Qt:Fn:=fnB 1 Kr
theorem Gdt:FnS ["_law_thing"] ["_law_thing"] (Gb Ym):=kdF
theorem Xl(Al:All P w K mg base):Cal P w K mg base "_law_whole" ["_law_thing"] Qt 1:=by
 have Sc:=Gdt
 have T:=Al.t
 refine calw (b:=Kr) 0 Al.h.h__law_whole Al.g Sc rfl fun _ _ _ _ _ _ _ hr=>?_
 conv=>arg 3; whnf
 refine GSs.h ?_
 sleep 0
noncomputable def Ja:Sv:=(sif (ta (tb (o2 eqD (o2 getD (o2 getD (vr 5) (vr 13)) (cn (.int 0))) (cn (.str "pound")))) (tb (o2 ltD (o2 getD (o2 getD (vr 8) (cn (.int 0))) (vr 13)) (o2 getD (o2 getD (vr 5) (vr 13)) (cn (.int 2))))))
  (sret (cn (.str "shallow")))
  skip)
noncomputable def Xm:Sv:=(sq (sa (o2 getD (vr 0) (cn (.int 0))) (gn 5))
  (sq (sa (vr 2) (gt (gcons (gn 6) (gcons (gn 7) gnil)) 2))
  (sq (sa (cmp (isrc (vr 1)) [none] (gn 0) ttrue (b1 Wo (ac (vr 0) an))) (gn 8))
  (sq (sa (o2 getD (ls (ac (cn (.int 2)) (ac (cn (.int 1)) an))) (b1 Yh (ac (o2 eqD (vr 6) (cn (.str "right"))) an))) (gn 9))
  (sq (sa (o2 Gx (vr 7) (b1 Yh (ac (o2 eqD (vr 6) (cn (.str "left"))) an))) (gn 10))
  (sq (sa (o2 Gdd (o2 Gx (o2 Jl (cn (.int 2)) (vr 7)) (cn (.int 1))) (vr 10)) (gn 11))
  (sq (sif (tb (o2 eqD (o2 getD (o2 getD (vr 8) (vr 9)) (vr 10)) (cn (.int 0))))
  (sret (cn (.str "nobarge")))
  skip)
  (sq (sa (o2 Gx (o2 getD (o2 getD (vr 8) (cn (.int 1))) (vr 11)) (o2 getD (o2 getD (vr 8) (cn (.int 2))) (vr 11))) (gn 12))
  (sq (sif (ta (tb (o2 eqD (o2 getD (o2 getD (vr 5) (vr 11)) (cn (.int 0))) (cn (.str "chamber")))) (tb (o2 gtD (vr 12) (cn (.int 0)))))
  (sret (cn (.str "noroom")))
  skip)
  (sq (sif (ta (tb (o2 eqD (o2 getD (o2 getD (vr 5) (vr 11)) (cn (.int 0))) (cn (.str "pound")))) (tb (o2 geD (vr 12) (o2 getD (o2 getD (vr 5) (vr 11)) (cn (.int 3))))))
  (sret (cn (.str "noroom")))
  skip)
  (sq (sif (ta (tb (o2 eqD (o2 getD (o2 getD (vr 5) (vr 3)) (cn (.int 0))) (cn (.str "chamber")))) (tb (o2 gtD (o2 getD (o2 getD (vr 8) (cn (.int 0))) (vr 3)) (cn (.int 0)))))
  (sret (cn (.str "uneven")))
  skip)
  (sq (sif (ta (tb (o2 eqD (o2 getD (o2 getD (vr 5) (vr 4)) (cn (.int 0))) (cn (.str "chamber")))) (tb (o2 eqD (o2 getD (o2 getD (vr 8) (cn (.int 0))) (vr 4)) (cn (.int 0)))))
  (sret (cn (.str "uneven")))
  skip)
  (sq (sfor (isrc (ls (ac (vr 3) (ac (vr 4) an)))) (gn 13) Ja)
  (sq (ss (o2 Gdd (o2 getD (o2 getD (vr 8) (vr 9)) (vr 10)) (cn (.int 1))) (o2 getD (vr 8) (vr 9)) (vr 10) Vg)
  (sq (ss (o2 Gx (o2 getD (o2 getD (vr 8) (vr 9)) (vr 11)) (cn (.int 1))) (o2 getD (vr 8) (vr 9)) (vr 11) Vg)
  (sq (sa (b1 Yh (ac (o2 eqD (vr 11) (o2 getD (ls (ac (cn (.int 0)) (ac (o2 Gdd (b1 Hr (ac (vr 5) an)) (cn (.int 1))) an))) (b1 Yh (ac (o2 eqD (vr 6) (cn (.str "right"))) an)))) an)) (gn 14))
  (sret (tp (ac (tp (ac (b1 Zf (ac (o2 getD (vr 8) (cn (.int 0))) an)) (ac (b1 Zf (ac (o2 getD (vr 8) (cn (.int 1))) an)) (ac (b1 Zf (ac (o2 getD (vr 8) (cn (.int 2))) an)) an)))) (ac (cn (.int 0)) (ac (vr 14) an)))))))))))))))))))))
noncomputable def Ui:Fn:=fnB 15 Xm
theorem Gft:FnS ["_law_canal_here","_law_stand_here","_law_deed","_law_up","_law_down","_law_places","_law_word","_law_n","_law_rows","_law_own","_law_start","_law_goal","_law_there","_law_at","_law_gain"] ["_law_canal_here","_law_stand_here","_law_deed","_law_up","_law_down"] (Gb Zs):=kdF
theorem Gdu(Al:All P w K mg base):Cal P w K mg base "_law_gone" ["_law_canal_here","_law_stand_here","_law_deed","_law_up","_law_down"] Ui 1:=by
 have Sc:=Gft
 have T:=Al.t
 refine calw (b:=Xm) 0 Al.h.h__law_gone Al.g Sc rfl fun _ _ _ _ _ _ _ hr=>?_
 conv=>arg 3; whnf
 refine GSs.h ?_
 have W1:=nn ["_law_row"]
 sleep 0
noncomputable def Kj:Sv:=(sq (sa (vr 0) (gt (gcons (gn 3) (gcons (gn 4) gnil)) 2))
  (sq (sa (vr 2) (gt (gcons (gn 5) (gcons (gn 6) gnil)) 2))
  (sq (sa (b1 Wo (ac (o2 getD (vr 1) (cn (.int 0))) an)) (gn 7))
  (sq (sif (tb (o2 eqD (vr 5) (cn (.str "feed"))))
  (sq (sif (to (tb (o2 ltD (vr 6) (cn (.int 0)))) (to (tb (o2 geD (vr 6) (b1 Hr (ac (vr 3) an)))) (tb (o2 neD (o2 getD (o2 getD (vr 3) (vr 6)) (cn (.int 0))) (cn (.str "pound"))))))
  (sret (cn (.str "nospring")))
  skip)
  (sq (sif (tb (o2 Gmo (o2 getD (o2 getD (vr 3) (vr 6)) (cn (.int 4))) (cn .non)))
  (sret (cn (.str "nospring")))
  skip)
  (sq (sif (tb (o2 eqD (o2 getD (vr 7) (vr 6)) (o2 getD (o2 getD (vr 3) (vr 6)) (cn (.int 1)))))
  (sret (cn (.str "full")))
  skip)
  (sq (ss (o2 Gx (o2 getD (vr 7) (vr 6)) (cn (.int 1))) (vr 7) (vr 6) Vg)
  (sret (tp (ac (tp (ac (b1 Zf (ac (vr 7) an)) (ac (o2 getD (vr 1) (cn (.int 1))) (ac (o2 getD (vr 1) (cn (.int 2))) an)))) (ac (o2 getD (o2 getD (vr 3) (vr 6)) (cn (.int 4))) (ac (cn (.int 0)) an)))))))))
  skip)
  (sq (sif (to (tb (o2 ltD (vr 6) (cn (.int 0)))) (tb (o2 geD (vr 6) (b1 Hr (ac (vr 4) an)))))
  (sret (cn (.str "nogate")))
  skip)
  (sq (sa (o2 Gx (vr 6) (b1 Yh (ac (o2 eqD (o2 getD (vr 4) (vr 6)) (cn (.str "up"))) an))) (gn 8))
  (sq (sa (o2 Gdd (o2 Gx (o2 Jl (cn (.int 2)) (vr 6)) (cn (.int 1))) (vr 8)) (gn 9))
  (sq (sif (tb (o2 neD (vr 5) (cn (.str "let"))))
  (sret (cl 5 (Go Ui) (ac (vr 0) (ac (vr 1) (ac (vr 2) (ac (vr 8) (ac (vr 9) an)))))))
  skip)
  (sq (sif (tb (o2 neD (o2 getD (o2 getD (vr 3) (vr 8)) (cn (.int 0))) (cn (.str "end"))))
  (sq (sif (tb (o2 eqD (o2 getD (vr 7) (vr 8)) (cn (.int 0))))
  (sret (cn (.str "dry")))
  skip)
  (ss (o2 Gdd (o2 getD (vr 7) (vr 8)) (cn (.int 1))) (vr 7) (vr 8) Vg))
  skip)
  (sq (sif (tb (o2 neD (o2 getD (o2 getD (vr 3) (vr 9)) (cn (.int 0))) (cn (.str "end"))))
  (sq (sif (tb (o2 eqD (o2 getD (vr 7) (vr 9)) (o2 getD (o2 Gx (o2 getD (vr 3) (vr 9)) (tp (ac (cn (.int 1)) an))) (cn (.int 1)))))
  (sret (cn (.str "full")))
  skip)
  (ss (o2 Gx (o2 getD (vr 7) (vr 9)) (cn (.int 1))) (vr 7) (vr 9) Vg))
  skip)
  (sret (tp (ac (tp (ac (b1 Zf (ac (vr 7) an)) (ac (o2 getD (vr 1) (cn (.int 1))) (ac (o2 getD (vr 1) (cn (.int 2))) an)))) (ac (cn (.int 0)) (ac (cn (.int 0)) an)))))))))))))))
noncomputable def Hg:Fn:=fnB 10 Kj
theorem Ghf:FnS ["_law_canal_here","_law_stand_here","_law_deed","_law_places","_law_gates","_law_word","_law_n","_law_levels","_law_up","_law_down"] ["_law_canal_here","_law_stand_here","_law_deed"] (Gb Ga9):=kdF
theorem Gfu(Al:All P w K mg base):Cal P w K mg base "_law_due" ["_law_canal_here","_law_stand_here","_law_deed"] Hg 2:=by
 have Sc:=Ghf
 have T:=Al.t
 refine calw (b:=Kj) 1 Al.h.h__law_due Al.g Sc rfl fun _ _ _ _ _ _ _ hr=>?_
 conv=>arg 3; whnf
 refine GSs.h ?_
 have:=Gdu Al
 sleep 0
noncomputable def Jb:Sv:=(sq (sif (to (tn (tt (o1 (isD "tuple") (vr 5)))) (tb (o2 neD (b1 Hr (ac (vr 5) an)) (cn (.int 3)))))
  (sret (cn (.bl false)))
  skip)
  (sif (tb (o2 gtD (vr 4) (cn (.int 0))))
  (sq (sif (to (tn (tt (cl 1 (Go Qt) (ac (o2 getD (vr 5) (cn (.int 1))) an)))) (tn (tb (ch leD ltD (cn (.int 0)) (o2 getD (vr 5) (cn (.int 1))) (vr 4)))))
  (sret (cn (.bl false)))
  skip)
  (sq (sif (to (tn (tt (o1 (isD "tuple") (o2 getD (vr 5) (cn (.int 2)))))) (to (tb (o2 neD (b1 Hr (ac (o2 getD (vr 5) (cn (.int 2))) an)) (cn (.int 2)))) (tn (tt (cl 1 (Go Qt) (ac (o2 getD (o2 getD (vr 5) (cn (.int 2))) (cn (.int 1))) an))))))
  (sret (cn (.bl false)))
  skip)
  (sq (sa (cl 3 (Go Hg) (ac (vr 0) (ac (o2 getD (o2 getD (vr 2) (o2 getD (vr 5) (cn (.int 1)))) (cn (.int 0))) (ac (o2 getD (vr 5) (cn (.int 2))) an)))) (gn 6))
  (sif (to (tt (o1 (isD "str") (vr 6))) (tb (o2 neD (o2 getD (vr 6) (cn (.int 0))) (o2 getD (vr 5) (cn (.int 0))))))
  (sret (cn (.bl false)))
  skip))))
  skip))
noncomputable def Ux:Sv:=(sq (sif (to (tn (tt (o1 (isD "list") (vr 2)))) (tb (o2 neD (b1 Hr (ac (vr 2) an)) (vr 3))))
  (sret (cn (.bl false)))
  skip)
  (sq (sif (tb (o2 neD (b1 Wf (ac (o2 getD (vr 2) (cn (.int 0))) an)) (b1 Wf (ac (tp (ac (vr 1) (ac (cn .non) (ac (cn .non) an)))) an))))
  (sret (cn (.bl false)))
  skip)
  (sq (sfor (Qw (ac (vr 2) an)) (gt (gcons (gn 4) (gcons (gn 5) gnil)) 2) Jb)
  (sret (o2 eqD (b1 Gea (ac (cmp (isrc (vr 2)) [none] (gn 0) ttrue (o2 getD (vr 0) (cn (.int 0)))) an)) (vr 3))))))
noncomputable def Kg:Fn:=fnB 7 Ux
theorem Gcv:FnS ["_law_canal_here","_law_stand_here","_law_found","_law_many","_law_at","_law_row","_law_told"] ["_law_canal_here","_law_stand_here","_law_found","_law_many"] (Gb Qy):=kdF
noncomputable abbrev z40:=Gb Qy
theorem Gbj(Al:All P w K mg base):Cal P w K mg base "_law_is_met" ["_law_canal_here","_law_stand_here","_law_found","_law_many"] Kg 3:=by
 have Sc:=Gcv
 have T:=Al.t
 refine calw (b:=Ux) 2 Al.h.h__law_is_met Al.g Sc rfl fun _ _ _ _ _ _ _ hr=>?_
 conv=>arg 3; whnf
 refine GSs.h ?_
 exact(Gg (Ka (GW.jt (Wt (Qx (Kv (Yv (gG z40) (gG z40) Gb3 T.b_isinstance T.b_list (gw 2 Sc)))) (Ws (Zk hr.units (Qm (gG z40) T.b_len (Ga (gw 2 Sc) Gf Ge)) (gw 3 Sc)))))
  (Gn (Hm Yi))
  Hq)
  (Gg (Ka (Zk hr.units (Zj hr (gG z40) T.b_repr (Ga (Gs (gw 2 Sc) ge_int) Gf Gh)) (Zj hr (gG z40) T.b_repr (Ga (Hi (Ga (gw 1 Sc) (Ga Gal (Ga Gal Gf Gc) Gc) Ge)) Gf Jf)))
  (Gn (Hm Yi))
  Hq)
  (Gg (Gcc PassesOwn.never rfl (Gb8 (gG z40) T.b_enumerate (Ga (gw 2 Sc) Gf Ge)) (Wu rfl (Hf (ggw 4 Sc) (Hf (ggw 5 Sc) Uf)))
  (Gg (Ka (GW.jt (Wt (Qx (Kv (Yv (gG z40) (gG z40) Xt T.b_isinstance T.b_tuple (gw 5 Sc)))) (Ws (Zk hr.units (Qm (gG z40) T.b_len (Ga (gw 5 Sc) Gf Ge)) ge_int))))
  (Gn (Hm Yi))
  Hq)
  (Gn (Ka (Gnk (gw 4 Sc) ge_int)
  (Gg (Ka (GW.jt (Wt (Qx (Kv (gow z40 (Xl Al) hr (Ga (Gs (gw 5 Sc) ge_int) Gf Gh)))) (Ws (Qx (Gca Gi6 Gmq Ggd Gmp ge_int (Gs (gw 5 Sc) ge_int) (gw 4 Sc))))))
  (Gn (Hm Yi))
  Hq)
  (Gg (Ka (GW.jt (Wt (Qx (Kv (Yv (gG z40) (gG z40) Xt T.b_isinstance T.b_tuple (Gs (gw 5 Sc) ge_int)))) (Wt (Zk hr.units (Qm (gG z40) T.b_len (Ga (Gs (gw 5 Sc) ge_int) Gf Gh)) ge_int) (Ws (Qx (Kv (gow z40 (Xl Al) hr (Ga (Gs (Gs (gw 5 Sc) ge_int) ge_int) Gf Gh))))))))
  (Gn (Hm Yi))
  Hq)
  (Gg (gsew 6 Sc (gow z40 (Gfu Al) hr (Ga (gw 0 Sc) (Ga (Gs (Gs (gw 2 Sc) (Gs (gw 5 Sc) ge_int)) ge_int) (Ga (Gs (gw 5 Sc) ge_int) Gf Gh) Gh) Ge)))
  (Gn (Ka (GW.jt (Wt (Kv (Yv (gG z40) (gG z40) Gjf T.b_isinstance T.b_str (gw 6 Sc))) (Ws (Zk hr.units (Gs (gw 6 Sc) ge_int) (Gs (gw 5 Sc) ge_int)))))
  (Gn (Hm Yi))
  Hq)))))
  Hq))))
  (Gn (Hm (Gb9 hr.units (Gq4 hr (gG z40) T.b_len (gG z40) T.b_set (Ga (Gy0 (N':=["_law_row"]) (pk:=[none]) Sc (Gcb (gw 2 Sc)) (fun cl s2 H2 C fp=>(Gcd 0)) (fun cl s2 H2 C fp=>Vq) (fun cl s2 H2 C fp=>(Gs (Ga7 0) ge_int))) Gf Ga3)) (gw 3 Sc)))))))
noncomputable def Ks:Sv:=(sx (mt Gez (vr 7) (ac (cl 2 (Go Gr) (ac (vr 0) (ac (o2 Gx (o2 getD (o2 Gx (vr 8) (tp (ac (cn (.int 1)) an))) (cn (.int 1))) (cn (.int 1))) an))) an)))
noncomputable def Xn:Sv:=(sq (sa (o2 Gx (cn (.int 2)) (cl 2 (Go Gr) (ac (vr 0) (ac (cn (.int 8)) an)))) (gn 1))
  (sq (sa (o2 getD (ls (ac (cn (.int 9)) (ac (o2 Gx (cn (.int 2)) (cl 2 (Go Gr) (ac (vr 0) (ac (cn (.int 8)) an)))) (ac (o2 Gx (cn (.int 2)) (cl 2 (Go Gr) (ac (vr 0) (ac (cn (.int 8)) an)))) an)))) (cl 2 (Go Gr) (ac (vr 0) (ac (cn (.int 3)) an)))) (gn 2))
  (sq (sa (b1 Yh (ac (o2 eqD (cl 2 (Go Gr) (ac (vr 0) (ac (cn (.int 4)) an))) (cn (.int 0))) an)) (gn 3))
  (sq (sa (b1 Gk4 (ac (vr 2) (ac (o2 getD (ls (ac (cn (.int 9)) (ac (cn (.int 5)) an))) (vr 3)) an))) (gn 2))
  (sq (sa (cmp (isrc (ls (ac (vr 1) (ac (vr 2) an)))) [none,some 0] (gn 0) ttrue (tp (ac (cn (.str "pound")) (ac (vr 0) (ac (cn (.int 0)) (ac (cn (.int 1)) (ac (cl 2 (Go Gr) (ac (vr 1) (ac (cn (.int 100)) an))) an))))))) (gn 4))
  (sq (sa (tp (ac (tp (ac (cn (.str "end")) an)) (ac (tp (ac (cn (.str "chamber")) an)) (ac (o2 getD (vr 4) (cn (.int 0))) (ac (tp (ac (cn (.str "chamber")) an)) (ac (o2 getD (vr 4) (cn (.int 1))) (ac (tp (ac (cn (.str "chamber")) an)) an))))))) (gn 5))
  (sq (sa (o2 Gx (o2 Gx (vr 5) (o2 Gfe (tp (ac (tp (ac (cn (.str "chamber")) an)) an)) (vr 3))) (tp (ac (tp (ac (cn (.str "end")) an)) an))) (gn 5))
  (sq (sa (o2 Gx (o2 getD (ls (ac (tp (ac (cn (.str "up")) (ac (cn (.str "up")) (ac (cn (.str "down")) (ac (cn (.str "down")) (ac (cn (.str "down")) (ac (cn (.str "down")) an))))))) (ac (tp (ac (cn (.str "up")) (ac (cn (.str "up")) (ac (cn (.str "up")) (ac (cn (.str "up")) (ac (cn (.str "down")) (ac (cn (.str "down")) an))))))) an))) (cl 2 (Go Gr) (ac (vr 0) (ac (cn (.int 2)) an)))) (o2 Gfe (tp (ac (cn (.str "down")) an)) (vr 3))) (gn 6))
  (sq (sa (ls (ac (cn (.int 0)) an)) (gn 7))
  (sq (sfor (isrc (sl2 (vr 5) (osome (cn (.int 1))) (osome (o1 Ggi (cn (.int 1)))))) (gn 8) Ks)
  (sq (sa (o2 Jl (tp (ac (cn (.int 0)) an)) (b1 Hr (ac (vr 5) an))) (gn 9))
  (sq (sa (tp (ac (b1 Zf (ac (o2 Gx (vr 7) (ls (ac (cn (.int 0)) an))) an)) (ac (vr 9) (ac (vr 9) an)))) (gn 10))
  (sq (sa (o2 Jl (o2 Jl (o2 getD (ls (ac (cn (.int 8)) (ac (cn (.int 16)) an))) (vr 3)) (o2 Gx (vr 1) (cn (.int 1)))) (o2 Gx (vr 2) (cn (.int 1)))) (gn 11))
  (sret (tp (ac (tp (ac (vr 5) (ac (vr 6) an))) (ac (vr 10) (ac (vr 11) an))))))))))))))))))
noncomputable def Uj:Fn:=fnB 12 Xn
theorem Gfv:FnS ["_law_tape_here","_law_one","_law_other","_law_more","_law_pounds","_law_places","_law_gates","_law_levels","_law_place","_law_none","_law_stand_here","_law_many"] ["_law_tape_here"] (Gb Vt):=kdF
noncomputable abbrev z41:=Gb Vt
theorem Gdv(Al:All P w K mg base):Cal P w K mg base "_law_hill" ["_law_tape_here"] Uj 2:=by
 have Sc:=Gfv
 have T:=Al.t
 refine calw (b:=Xn) 1 Al.h.h__law_hill Al.g Sc rfl fun _ _ _ _ _ _ _ hr=>?_
 conv=>arg 3; whnf
 refine GSs.h ?_
 exact(Gg (gsew 1 Sc (Ji ge_int (gow z41 (He Al) hr (Ga (gw 0 Sc) (Ga ge_int Gf Gc) Ge))))
  (Gg (gsew 2 Sc (Gs (Hy (Ga ge_int (Ga (Ji ge_int (gow z41 (He Al) hr (Ga (gw 0 Sc) (Ga ge_int Gf Gc) Ge))) (Ga (Ji ge_int (gow z41 (He Al) hr (Ga (gw 0 Sc) (Ga ge_int Gf Gc) Ge))) Gf Vh) Vh) Gc)) (gow z41 (He Al) hr (Ga (gw 0 Sc) (Ga ge_int Gf Gc) Ge))))
  (Gg (gsew 3 Sc (Ge4 (gG z41) T.b_int (Ga (Gb9 hr.units (gow z41 (He Al) hr (Ga (gw 0 Sc) (Ga ge_int Gf Gc) Ge)) ge_int) Gf Yu)))
  (Gg (gsew 2 Sc (Gvy rfl (gG z41) T.b_min (Ga (gw 2 Sc) (Ga (Gs (Hy (Ga ge_int (Ga ge_int Gf Gc) Gc)) (gw 3 Sc)) Gf Gh) Ge)))
  (Gg (Gd6 4 (N':=["_law_brim","_law_tape_here"]) (pk:=[none,some 0]) Sc (Gcb (Hy (Ga (gw 1 Sc) (Ga (gw 2 Sc) Gf Ge) Ge))) (fun cl s2 H2 C fp=>(Gcd 0)) (fun cl s2 H2 C fp=>Vq) (fun cl s2 H2 C fp=>(Hi (Ga Gw (Ga (Ga7 0) (Ga ge_int (Ga ge_int (Ga (Gy2 (He Al) hr (Ga (Ga7 1) (Ga ge_int Gf Gc) Ge)) Gf Hj) Gc) Gc) Ge) Gc))))
  (Gg (gsew 5 Sc (Hi (Ga (Hi (Ga Gw Gf Gc)) (Ga (Hi (Ga Gw Gf Gc)) (Ga (Gs (gw 4 Sc) ge_int) (Ga (Hi (Ga Gw Gf Gc)) (Ga (Gs (gw 4 Sc) ge_int) (Ga (Hi (Ga Gw Gf Gc)) Gf Jf) Gh) Jf) Gh) Jf) Jf)))
  (Gg (gsew 5 Sc (Ji (Ji (gw 5 Sc) (Gjr (Hi (Ga (Hi (Ga Gw Gf Gc)) Gf Jf)) (gw 3 Sc))) (Hi (Ga (Hi (Ga Gw Gf Gc)) Gf Jf))))
  (Gg (gsew 6 Sc (Ji (Gs (Hy (Ga (Hi (Ga Gw (Ga Gw (Ga Gw (Ga Gw (Ga Gw (Ga Gw Gf Gc) Gc) Gc) Gc) Gc) Gc)) (Ga (Hi (Ga Gw (Ga Gw (Ga Gw (Ga Gw (Ga Gw (Ga Gw Gf Gc) Gc) Gc) Gc) Gc) Gc)) Gf Jf) Jf)) (gow z41 (He Al) hr (Ga (gw 0 Sc) (Ga ge_int Gf Gc) Ge))) (Gjr (Hi (Ga Gw Gf Gc)) (gw 3 Sc))))
  (Gg (gsew 7 Sc (Hy (Ga ge_int Gf Gc)))
  (Gg (Gcc PassesOwn.never rfl (Gcb (Xv (gw 5 Sc) (Xx ge_int) (Xx (Gid ge_int)))) (ggw 8 Sc)
  (Gn (Xy (Xw (gw 7 Sc) (Ga (gow z41 (He Al) hr (Ga (gw 0 Sc) (Ga (Ji (Gs (Ji (gw 8 Sc) (Hi (Ga ge_int Gf Gc))) ge_int) ge_int) Gf Vh) Ge)) Gf Hj)))))
  (Gg (gsew 9 Sc (Ge3 (Hi (Ga ge_int Gf Gc)) (Qm (gG z41) T.b_len (Ga (gw 5 Sc) Gf Ge))))
  (Gg (gsew 10 Sc (Hi (Ga (Ggq (gG z41) T.b_tuple (Ga (Ji (gw 7 Sc) (Hy (Ga ge_int Gf Gc))) Gf Vh)) (Ga (gw 9 Sc) (Ga (gw 9 Sc) Gf Ge) Ge) Hj)))
  (Gg (gsew 11 Sc (Ge3 (Ge3 (Gs (Hy (Ga ge_int (Ga ge_int Gf Gc) Gc)) (gw 3 Sc)) (Ji (gw 1 Sc) ge_int)) (Ji (gw 2 Sc) ge_int)))
  (Gn (Hm (Hi (Ga (Hi (Ga (gw 5 Sc) (Ga (gw 6 Sc) Gf Ge) Ge)) (Ga (gw 10 Sc) (Ga (gw 11 Sc) Gf Ge) Ge) Jf)))))))))))))))))
noncomputable def Gn0:Sv:=(sq (sa (cl 1 (Go Xk) (ac (vr 0) an)) (gn 1))
  (sq (sa (cl 1 (Go Uj) (ac (vr 1) an)) (gt (gcons (gn 2) (gcons (gn 3) (gcons (gn 4) gnil))) 3))
  (sq (sa (o2 getD (ls (ac (cn (.int 0)) (ac (cn (.int 0)) (ac (o2 Gdd (vr 4) (cn (.int 1))) (ac (o2 getD (ls (ac (vr 4) (ac (cn (.int 2000)) an))) (cl 2 (Go Gr) (ac (vr 1) (ac (cn (.int 2)) an)))) an))))) (cl 2 (Go Gr) (ac (vr 1) (ac (cn (.int 4)) an)))) (gn 5))
  (sq (sa (o2 getD (ls (ac (cn (.str "met")) (ac (cn (.str "jam")) an))) (cl 2 (Go Gr) (ac (vr 1) (ac (cn (.int 2)) an)))) (gn 6))
  (sq (sa (cl 4 (Go Hw) (ac (vr 6) (ac (vr 2) (ac (vr 3) (ac (vr 5) an))))) (gn 7))
  (sq (sif (tb (o2 gtD (vr 4) (o2 getD (ls (ac (vr 5) (ac (cn (.int 600)) an))) (b1 Yh (ac (o2 eqD (vr 5) (cn (.int 0))) an)))))
  (sret (o2 eqD (b1 Wf (ac (vr 7) an)) (b1 Wf (ac (cn (.str "toomany")) an))))
  skip)
  (sq (sif (tb (o2 eqD (vr 6) (cn (.str "met"))))
  (sret (cl 4 (Go Kg) (ac (vr 2) (ac (vr 3) (ac (vr 7) (ac (vr 4) an))))))
  skip)
  (sq (sif (to (tn (tt (o1 (isD "tuple") (vr 7)))) (to (tb (o2 neD (b1 Hr (ac (vr 7) an)) (cn (.int 2)))) (tb (o2 neD (o2 getD (vr 7) (cn (.int 0))) (cn (.str "free"))))))
  (sret (cn (.bl false)))
  skip)
  (sq (sif (tn (tt (o1 (isD "list") (o2 getD (vr 7) (cn (.int 1))))))
  (sret (cn (.bl false)))
  skip)
  (sq (sx (cl 3 (gX ys Ue) (ac (vr 2) (ac (vr 3) (ac (o2 getD (vr 7) (cn (.int 1))) an)))))
  (sret (cn (.bl true)))))))))))))
noncomputable def Gcw:Fn:=fnB 8 Gn0
theorem Gwl:FnS ["_law_script","_law_tape_here","_law_canal_here","_law_stand_here","_law_many","_law_limit","_law_call","_law_found"] ["_law_script"] (Gb Gcg):=kdF
noncomputable abbrev z42:=Gb Gcg
theorem Grb(Al:All P w K mg base){f:Addr}{fd:FuncData}(F:Fun K "law" "law" Gcg f fd):FnOk P w K mg base CX0 12 f fd ["_law_script"] (spD K 1 Gcw):=by
 have Sc:=Gwl
 have T:=Al.t
 refine Gsm (b:=Gn0) F Sc.s fun cdv A outer s H E hr=>?_
 conv=>arg 3; whnf
 refine GSs.h ?_
 exact(Gg (gsew 1 Sc (gow z42 (Gdr Al) hr (Ga (gw 0 Sc) Gf Ge)))
  (Gg (Gam (gow z42 (Gdv Al) hr (Ga (gw 1 Sc) Gf Ge)) (Wu rfl (Hf (ggw 2 Sc) (Hf (ggw 3 Sc) (Hf (ggw 4 Sc) Uf)))))
  (Gg (gsew 5 Sc (Gs (Hy (Ga ge_int (Ga ge_int (Ga (Gic (gw 4 Sc) ge_int) (Ga (Gs (Hy (Ga (gw 4 Sc) (Ga ge_int Gf Gc) Ge)) (gow z42 (He Al) hr (Ga (gw 1 Sc) (Ga ge_int Gf Gc) Ge))) Gf Gh) Vh) Gc) Gc)) (gow z42 (He Al) hr (Ga (gw 1 Sc) (Ga ge_int Gf Gc) Ge))))
  (Gg (gsew 6 Sc (Gs (Hy (Ga Gw (Ga Gw Gf Gc) Gc)) (gow z42 (He Al) hr (Ga (gw 1 Sc) (Ga ge_int Gf Gc) Ge))))
  (Gg (gsew 7 Sc (gow z42 (Gfs Al) hr (Ga (gw 6 Sc) (Ga (gw 2 Sc) (Ga (gw 3 Sc) (Ga (gw 5 Sc) Gf Ge) Ge) Ge) Ge)))
  (Gg (Ka (Gnk (gw 4 Sc) (Gs (Hy (Ga (gw 5 Sc) (Ga ge_int Gf Gc) Ge)) (Ge4 (gG z42) T.b_int (Ga (Gb9 hr.units (gw 5 Sc) ge_int) Gf Yu))))
  (Gn (Hm (Gb9 hr.units (Zj hr (gG z42) T.b_repr (Ga (gw 7 Sc) Gf Ge)) (Zj hr (gG z42) T.b_repr (Ga Gw Gf Gc)))))
  Hq)
  (Gg (Ka (Gd5 hr.units (gw 6 Sc) Gw)
  (Gn (Hm (gow z42 (Gbj Al) hr (Ga (gw 2 Sc) (Ga (gw 3 Sc) (Ga (gw 7 Sc) (Ga (gw 4 Sc) Gf Ge) Ge) Ge) Ge))))
  Hq)
  (Gg (Ka (GW.jt (Wt (Qx (Kv (Yv (gG z42) (gG z42) Xt T.b_isinstance T.b_tuple (gw 7 Sc)))) (Wt (Zk hr.units (Qm (gG z42) T.b_len (Ga (gw 7 Sc) Gf Ge)) ge_int) (Ws (Zk hr.units (Gs (gw 7 Sc) ge_int) Gw)))))
  (Gn (Hm Yi))
  Hq)
  (Gg (Ka (Qx (Kv (Yv (gG z42) (gG z42) Gb3 T.b_isinstance T.b_list (Gs (gw 7 Sc) ge_int))))
  (Gn (Hm Yi))
  Hq)
  (Gg (Xy (Ggs z42 T.xt.xns Gyq (Gfo Al) hr (Ga (gw 2 Sc) (Ga (gw 3 Sc) (Ga (Gs (gw 7 Sc) ge_int) Gf Gh) Ge) Ge)))
  (Gn (Hm Yi))))))))))))
end
theorem Gwm{l:PySem.W.OpenLaw}{w:World}{K:PySem.W.Frag}{h:Heap}{mg:Str->Option Value}{fa:Addr}(X:K.In h)(G:h.Ns mainGlobals mg)(hfa:mg "law"=some (.ref fa))(HS:Hs K)
  {kp_CHAMBER:Addr} {kt_CHAMBER:Tok} {kn_CHAMBER:Nat} {ks_CHAMBER:Array (Option Value)} (ka_CHAMBER:PySem.W.nsIn K mainGlobals "CHAMBER"=some (some (.ref kp_CHAMBER))) (kl_CHAMBER:K.lookup kp_CHAMBER=some { cls:=.type "tuple",dict:=none,data:=.seq #[.str "chamber" kt_CHAMBER] kn_CHAMBER,slots:=ks_CHAMBER })
  {kp_END:Addr} {kt_END:Tok} {kn_END:Nat} {ks_END:Array (Option Value)} (ka_END:PySem.W.nsIn K mainGlobals "END"=some (some (.ref kp_END))) (kl_END:K.lookup kp_END=some { cls:=.type "tuple",dict:=none,data:=.seq #[.str "end" kt_END] kn_END,slots:=ks_END })
  {kt_LIMIT_OF_FEWER:Tok} (ka_LIMIT_OF_FEWER:PySem.W.nsIn K mainGlobals "LIMIT_OF_FEWER"=some (some (.int 20000 kt_LIMIT_OF_FEWER)))
  {kt_UP:Tok} (ka_UP:PySem.W.nsIn K mainGlobals "UP"=some (some (.str "up" kt_UP)))
  {cc_SummitError:Addr} (ca_SummitError:PySem.W.nsIn K mainGlobals "SummitError"=some (some (.ref cc_SummitError)))
  {cc_NoGate:Addr} (ca_NoGate:PySem.W.nsIn K mainGlobals "NoGate"=some (some (.ref cc_NoGate)))
  {cc_Dry:Addr} (ca_Dry:PySem.W.nsIn K mainGlobals "Dry"=some (some (.ref cc_Dry)))
  {cc_Full:Addr} (ca_Full:PySem.W.nsIn K mainGlobals "Full"=some (some (.ref cc_Full)))
  {cc_NoSpring:Addr} (ca_NoSpring:PySem.W.nsIn K mainGlobals "NoSpring"=some (some (.ref cc_NoSpring)))
  {cc_NoBarge:Addr} (ca_NoBarge:PySem.W.nsIn K mainGlobals "NoBarge"=some (some (.ref cc_NoBarge)))
  {cc_NoRoom:Addr} (ca_NoRoom:PySem.W.nsIn K mainGlobals "NoRoom"=some (some (.ref cc_NoRoom)))
  {cc_Uneven:Addr} (ca_Uneven:PySem.W.nsIn K mainGlobals "Uneven"=some (some (.ref cc_Uneven)))
  {cc_Shallow:Addr} (ca_Shallow:PySem.W.nsIn K mainGlobals "Shallow"=some (some (.ref cc_Shallow)))
  {cc_Falls:Addr} (ca_Falls:PySem.W.nsIn K mainGlobals "Falls"=some (some (.ref cc_Falls)))
  {cc_NoText:Addr} (ca_NoText:PySem.W.nsIn K mainGlobals "NoText"=some (some (.ref cc_NoText)))
  {cc_TooMany:Addr} (ca_TooMany:PySem.W.nsIn K mainGlobals "TooMany"=some (some (.ref cc_TooMany)))
  {cc_NoLine:Addr} (ca_NoLine:PySem.W.nsIn K mainGlobals "NoLine"=some (some (.ref cc_NoLine)))
  (xtb:Gnc K cc_SummitError [("NoGate",cc_NoGate),("Dry",cc_Dry),("Full",cc_Full),("NoSpring",cc_NoSpring),("NoBarge",cc_NoBarge),("NoRoom",cc_NoRoom),("Uneven",cc_Uneven),("Shallow",cc_Shallow),("Falls",cc_Falls),("NoText",cc_NoText),("TooMany",cc_TooMany),("NoLine",cc_NoLine)] [("NoGate",cc_NoGate),("Dry",cc_Dry),("Full",cc_Full),("NoSpring",cc_NoSpring),("NoBarge",cc_NoBarge),("NoRoom",cc_NoRoom),("Uneven",cc_Uneven),("Shallow",cc_Shallow),("Falls",cc_Falls),("NoText",cc_NoText),("TooMany",cc_TooMany),("NoLine",cc_NoLine)]=true)
  {fi:Addr} {odI anI:Option Addr} {slI:Array (Option Value)} {kVI dcI pmI cdI ctI:Value} (iI:PySem.W.findIn K (.ref cc_SummitError) "__init__"=some (some (.ref fi))) (lI:K.lookup fi=some ⟨.type "function",odI,.func (PySem.W.fnOf "__init__" "SummitError.__init__" (Hl Qa) (Gv Qa) (Gb Qa) .none kVI dcI pmI anI cdI ctI),slI⟩) (cI:PySem.W.codeIn K cdI "SummitError.__init__"=true) (kI:PySem.W.keepIn K (.ref fi)=true)
  (cx_Dry:Gb7 K cc_Dry fi=true)
  (cx_Full:Gb7 K cc_Full fi=true)
  (cx_NoBarge:Gb7 K cc_NoBarge fi=true)
  (cx_NoGate:Gb7 K cc_NoGate fi=true)
  (cx_NoRoom:Gb7 K cc_NoRoom fi=true)
  (cx_NoSpring:Gb7 K cc_NoSpring fi=true)
  (cx_Shallow:Gb7 K cc_Shallow fi=true)
  (cx_TooMany:Gb7 K cc_TooMany fi=true)
  (cx_Uneven:Gb7 K cc_Uneven fi=true)
  : ∃ fd:FuncData,(∀ (s:Shared) (v:Value),BindsTo s fd ⟨[v],[]⟩ [("_law_script",v)])/\∀ base:Heap,K.In base->base.Ns mainGlobals mg->FnOk l.prog w K mg base CX0 12 fa fd ["_law_script"] (spD K 1 Gcw):=by
 obtain⟨_,_,_,_,_,_,_,_,_,k_law,c_law,l_law⟩:=HS.h_law.fnx X G hfa
 have F:=Ger (st:=Gcg) l_law c_law k_law
 have T:Txt K mg:=⟨PySem.W.mg_none_of X G HS.z_ValueError,PySem.W.mg_none_of X G HS.z_bool,PySem.W.mg_none_of X G HS.z_enumerate,PySem.W.mg_none_of X G HS.z_int,PySem.W.mg_none_of X G HS.z_isinstance,PySem.W.mg_none_of X G HS.z_len,PySem.W.mg_none_of X G HS.z_list,PySem.W.mg_none_of X G HS.z_max,PySem.W.mg_none_of X G HS.z_min,PySem.W.mg_none_of X G HS.z_range,PySem.W.mg_none_of X G HS.z_repr,PySem.W.mg_none_of X G HS.z_set,PySem.W.mg_none_of X G HS.z_str,PySem.W.mg_none_of X G HS.z_sum,PySem.W.mg_none_of X G HS.z_tuple,Gno X G ka_CHAMBER kl_CHAMBER,Gno X G ka_END kl_END,Gqm X G ka_LIMIT_OF_FEWER,Gqn X G ka_UP,HS.h_deed_done.fv X G,Gyo X G ca_SummitError xtb⟩
 have hVE:mg "ValueError"=none:=PySem.W.mg_none_of X G HS.z_ValueError
 have ini:∀ base:Heap,IniX l.prog w K mg base fi 1:=fun base=>ini_mk (st:=Qa) lI cI kI sc_init (Glf hVE) (fun _ _ _ _ _ _ us hl=>match us,hl with | [_,_],_=>rfl)
 exact⟨_,fun s v=>.of_eq rfl,fun base _ _=>Grb ⟨HS,⟨h,X,G⟩,T,Vp X G (ini base) ca_Dry cx_Dry,Vp X G (ini base) ca_Full cx_Full,Vp X G (ini base) ca_NoBarge cx_NoBarge,Vp X G (ini base) ca_NoGate cx_NoGate,Vp X G (ini base) ca_NoRoom cx_NoRoom,Vp X G (ini base) ca_NoSpring cx_NoSpring,Vp X G (ini base) ca_Shallow cx_Shallow,Vp X G (ini base) ca_TooMany cx_TooMany,Vp X G (ini base) ca_Uneven cx_Uneven⟩ F⟩
end Law
namespace WM
noncomputable def stp(b l d:Int):Int:=min b (l+d)
noncomputable def F(b:Int)(ds:List Int)(x:Int):Int:=ds.foldl (stp b) x
noncomputable def AP(ds:List Int)(x:Int):Prop:=∀ j,1<=j->j<=ds.length->0<=x+(ds.take j).sum
inductive R where
 | dry (k:Nat) | lev (l:Int)
noncomputable def R.bind(o:R)(g:Int->R):R:=match o with
 | .dry k=>.dry k
 | .lev l=>g l
noncomputable def wl(b:Int):List Int->Nat->Int->R
 | [],_,x=>.lev x
 | d::r,k,x=>if stp b x d<0 then .dry k else wl b r (k+1) (stp b x d)
noncomputable def most(b:Int)(ds:List Int):Int:=F b ds.tail b
noncomputable def start(ds:List Int)(mn:Int):Int:=max 0 (-mn)
structure IsMin(ds:List Int)(mn:Int):Prop where
 le:∀ j,1<=j->j<=ds.length->mn<=(ds.take j).sum
 at':∃ j,1<=j/\j<=ds.length/\mn=(ds.take j).sum
end WM
namespace DL
open PySem PySem.Spec PyProof.Rows L2
variable{d:D}{f fa:Ev D}
section
variable{ρ:Lc}{S:Sto}{α β:Type}
@[simp high] theorem gq0{a:α}{l:List α}:(a::l)[0]?=some a:=rfl
@[simp high] theorem gqs{a:α}{l:List α}{i:Nat}:(a::l)[i+1]?=l[i]?:=rfl
@[simp ↓] theorem il1{a:α}{x y:β}:(if[a].length=1 then x else y)=x:=rfl
@[simp ↓] theorem il2{a b:α}{x y:β}:(if[a,b].length=2 then x else y)=x:=rfl
@[simp ↓] theorem il3{a b c:α}{x y:β}:(if[a,b,c].length=3 then x else y)=x:=rfl
@[simp ↓] theorem il4{a b c d:α}{x y:β}:(if[a,b,c,d].length=4 then x else y)=x:=rfl
@[simp ↓] theorem im1{a:α}{x y:β}:(if[a].length<=1000000 then x else y)=x:=rfl
@[simp ↓] theorem im2{a b:α}{x y:β}:(if[a,b].length<=1000000 then x else y)=x:=rfl
@[simp ↓] theorem im3{a b c:α}{x y:β}:(if[a,b,c].length<=1000000 then x else y)=x:=rfl
@[simp ↓] theorem im4{a b c d:α}{x y:β}:(if[a,b,c,d].length<=1000000 then x else y)=x:=rfl
@[simp ↓] theorem im5{a b c d e:α}{x y:β}:(if[a,b,c,d,e].length<=1000000 then x else y)=x:=rfl
@[simp] theorem Gaa{a:α}{g:α->Sto->Out β}:(Out.ok a S).bind g=g a S:=rfl
@[simp] theorem Gzg{g:α->Sto->Out β}:(Out.bad:Out α).bind g=.bad:=rfl
@[simp] theorem Jq{a:α}{g:α->Sto->OS}:bindS (Out.ok a S) ρ g=g a S:=rfl
@[simp] theorem Gxm{g:α->Sto->OS}:bindS (Out.bad:Out α) ρ g=.bad:=rfl
@[simp] theorem Gzh{i:Nat}:vr i ρ S=match ρ[i]? with
 | some (some d)=>.ok d S
 | _=>.bad:=rfl
@[simp] theorem Hbq:cn d ρ S=.ok d S:=rfl
@[simp] theorem Hbr:an ρ S=.ok [] S:=rfl
@[simp] theorem Hbs{g:Ev (List D)}:ac f g ρ S=(f ρ S).bind fun x S1=>(g ρ S1).bind fun xs S2=>.ok (x::xs) S2:=rfl
@[simp] theorem Gzi{o:D->D->Sto->Out D}{fb:Ev D}:o2 o fa fb ρ S=(fa ρ S).bind fun x S1=>(fb ρ S1).bind fun y S2=>o x y S2:=rfl
@[simp] theorem Hbt{o:D->Sto->Out D}:o1 o fa ρ S=(fa ρ S).bind fun x S1=>o x S1:=rfl
@[simp] theorem Hbu{o:List D->Sto->Out D}{f:Ev (List D)}:b1 o f ρ S=(f ρ S).bind o:=rfl
@[simp] theorem Hbv{n:Nat}{fn:Fn}{t:Ev (List D)}:cl n fn t ρ S=(t ρ S).bind fun ds S1=>if ds.length=n then fn ds S1 else .bad:=rfl
@[simp] theorem Gzj{fn:Fn}{ds:List D}:Go fn ds S=match fn ds S with
 | .ok d S'=>.ok d S'
 | _=>.bad:=rfl
@[simp] theorem Hbw:tb f ρ S=(f ρ S).bind fun x S1=>match x with
 | .bl b=>.ok b S1
 | _=>.bad:=rfl
@[simp] theorem Hbx:tt f ρ S=(f ρ S).bind fun x S1=>match Wm x S1 with
 | some b=>.ok b S1
 | none=>.bad:=rfl
@[simp] theorem Hby{f:Ev Bool}:tn f ρ S=(f ρ S).bind fun b S1=>.ok (!b) S1:=rfl
@[simp] theorem Hbz{f g:Ev Bool}:ta f g ρ S=(f ρ S).bind fun b S1=>if b=true then g ρ S1 else .ok false S1:=rfl
@[simp] theorem Hb0{f g:Ev Bool}:to f g ρ S=(f ρ S).bind fun b S1=>if b=true then .ok true S1 else g ρ S1:=rfl
@[simp] theorem Hb1{g:Ev D}:va f g ρ S=(f ρ S).bind fun x S1=>match x with
 | .bl b=>if b=true then g ρ S1 else .ok (.bl false) S1
 | _=>.bad:=rfl
@[simp] theorem Hb2{g:Ev D}:vo f g ρ S=(f ρ S).bind fun x S1=>match x with
 | .bl b=>if b=true then .ok (.bl true) S1 else g ρ S1
 | _=>.bad:=rfl
@[simp] theorem Hb3:vn f ρ S=(f ρ S).bind fun x S1=>match x with
 | .bl b=>.ok (.bl (!b)) S1
 | _=>.bad:=rfl
@[simp] theorem Hb4{c:Ev Bool}{g:Ev D}:ie c f g ρ S=(c ρ S).bind fun b S1=>if b=true then f ρ S1 else g ρ S1:=rfl
@[simp] theorem Hb5{f:Ev (List D)}:tp f ρ S=(f ρ S).bind fun xs S1=>if xs.length<=1000000 then .ok (.tup xs) S1 else .bad:=rfl
@[simp] theorem Hb6{f:Ev (List D)}:ls f ρ S=(f ρ S).bind fun xs S1=>if xs.length<=1000000 then .ok (.lst S1.length) (S1++[⟨false,xs⟩]) else .bad:=rfl
@[simp] theorem Ha8{fe:Ev D}{fl fh:Ev (Option Int)}:sl2 fe fl fh ρ S=(fe ρ S).bind fun x S1=>(fl ρ S1).bind fun l S2=>(fh ρ S2).bind fun u S3=>Ggl x l u S3:=rfl
@[simp] theorem Gzk:onone ρ S=.ok none S:=rfl
@[simp] theorem Gzl:osome f ρ S=(f ρ S).bind fun x S1=>match x with
 | .int i=>.ok (some i) S1
 | _=>.bad:=rfl
@[simp] theorem Hb7{o:D->List D->Sto->Out D}{fo:Ev D}{f:Ev (List D)}:mt o fo f ρ S=(fo ρ S).bind fun x S1=>if isLst x S1=true then(f ρ S1).bind fun xs S2=>o x xs S2 else .bad:=rfl
@[simp] theorem Hb8{o o':D->D->Sto->Out D}{fb fc:Ev D}:ch o o' fa fb fc ρ S=(fa ρ S).bind fun x S1=>(fb ρ S1).bind fun y S2=>(o x y S2).bind fun z S3=>match z with
 | .bl b=>if b=true then(fc ρ S3).bind fun w S4=>o' y w S4 else .ok (.bl false) S3
 | _=>.bad:=rfl
@[simp] theorem Gab{f g:Sv}:sq f g ρ S=match f ρ S with
 | .nx ρ' S'=>g ρ' S'
 | .rt d S'=>.rt d S'
 | .bk ρ' S'=>.bk ρ' S'
 | .ct ρ' S'=>.ct ρ' S'
 | .exc x ρ' S'=>.exc x ρ' S'
 | .bad=>.bad:=rfl
@[simp] theorem Gcx{g:Tg}:sa f g ρ S=bindS (f ρ S) ρ fun d S1=>match g d ρ with
 | some ρ'=>.nx ρ' S1
 | none=>.bad:=rfl
@[simp] theorem Hb9{i:Nat}:gn i d ρ=some (ρ.set i (some d)):=rfl
@[simp] theorem Grc:sret f ρ S=bindS (f ρ S) ρ fun d S1=>.rt d S1:=rfl
@[simp] theorem Gn1{c:Ev Bool}{f g:Sv}:sif c f g ρ S=bindS (c ρ S) ρ fun b S1=>if b=true then f ρ S1 else g ρ S1:=rfl
@[simp] theorem Hca:sx f ρ S=bindS (f ρ S) ρ fun _ S1=>.nx ρ S1:=rfl
@[simp] theorem Gz9:skip ρ S=.nx ρ S:=rfl
@[simp] theorem Hcb{fo fi:Ev D}{o:D->D->D->Sto->Option Sto}:ss f fo fi o ρ S=bindS (f ρ S) ρ fun d S1=>bindS (fo ρ S1) ρ fun x S2=>bindS (fi ρ S2) ρ fun y S3=>match o x y d S3 with
 | some S4=>.nx ρ S4
 | none=>.bad:=rfl
@[simp] theorem Ha9{i:Nat}{g:Int->Int->Int}:sag i g f ρ S=match ρ[i]? with
 | some (some (.int a))=>bindS (f ρ S) ρ fun d S1=>match d with
  | .int b=>.nx (ρ.set i (some (.int (g a b)))) S1
  | _=>.bad
 | _=>.bad:=rfl
@[simp] theorem Gjv:isrc f ρ S=(f ρ S).bind Gd3:=rfl
@[simp] theorem Yc{f:Ev Src}{g:Tg}{b:Sv}:sfor f g b ρ S=bindS (f ρ S) ρ fun s S1=>Ki s.nxt g b s.fuel 0 ρ S1:=rfl
section
variable{i j:Int}
@[simp] theorem Hba:Gx (.int i) (.int j) S=.ok (.int (i+j)) S:=rfl
@[simp] theorem Hbb:Gdd (.int i) (.int j) S=.ok (.int (i-j)) S:=rfl
@[simp] theorem Hcc:Ggi (.int i) S=.ok (.int (-i)) S:=rfl
theorem Gs5(h1 : -(2^64)<j)(h2:j<2^64):Jl (.int i) (.int j) S=.ok (.int (i*j)) S:=by
 show(if(-(2^64)<i/\i<2^64)\/(-(2^64)<j/\j<2^64) then Out.ok (D.int (i*j)) S else .bad)=_
 rw[if_pos (.inr ⟨h1,h2⟩)]
theorem Ged(h1 : -(2^64)<i)(h2:i<2^64):Jl (.int i) (.int j) S=.ok (.int (i*j)) S:=by
 show(if(-(2^64)<i/\i<2^64)\/(-(2^64)<j/\j<2^64) then Out.ok (D.int (i*j)) S else .bad)=_
 rw[if_pos (.inl ⟨h1,h2⟩)]
theorem Gat(h:0<j):Wj (.int i) (.int j) S=.ok (.int (i%j)) S:=by
 show(if decide (0<j)=true then Out.ok (D.int (i%j)) S else .bad)=_
 rw[if_pos (by simpa using h)]
theorem Gis(h:0<j)(h2:j<2^200):Ga4 (.int i) (.int j) S=.ok (.int (i / j)) S:=by
 show(if decide (0<j/\j<2^200)=true then Out.ok (D.int (i / j)) S else .bad)=_
 rw[if_pos (decide_eq_true ⟨h,h2⟩)]
theorem Git{n:Nat}(h:(n:Int)<=1000000)(h2:i.natAbs<2^64):Ggh (.int i) (.int n) S=.ok (.int (i^n)) S:=by
 show(if decide (0<=(n:Int)/\(n:Int)<=1000000/\i.natAbs<2^64)=true then Out.ok (D.int (i^(n:Int).toNat)) S else .bad)=_
 rw[if_pos (decide_eq_true ⟨by omega,h,h2⟩)]
 rfl
@[simp] theorem Hcd:Ggh (.int 10) (.int 6) S=.ok (.int 1000000) S:=Git (n:=6) (by decide) (by decide)
@[simp] theorem Hbc:Ggh (.int 10) (.int 15) S=.ok (.int 1000000000000000) S:=Git (n:=15) (by decide) (by decide)
@[simp] theorem Hbd:Ggh (.int 10) (.int 18) S=.ok (.int 1000000000000000000) S:=Git (n:=18) (by decide) (by decide)
@[simp] theorem Hce:ltD (.int i) (.int j) S=.ok (.bl (decide (i<j))) S:=rfl
@[simp] theorem Hcf:leD (.int i) (.int j) S=.ok (.bl (decide (i<=j))) S:=rfl
@[simp] theorem Hcg:gtD (.int i) (.int j) S=.ok (.bl (decide (j<i))) S:=rfl
@[simp] theorem Hch:geD (.int i) (.int j) S=.ok (.bl (decide (j<=i))) S:=rfl
@[simp] theorem Hbe:Gk4 [.int i,.int j] S=.ok (.int (min i j)) S:=by
 show Out.ok (D.int (if j<i then j else i)) S=_
 congr 2
 omega
@[simp] theorem Hbf:Gmy [.int i,.int j] S=.ok (.int (max i j)) S:=by
 show Out.ok (D.int (if j>i then j else i)) S=_
 congr 2
 omega
@[simp] theorem Hci:eqD (.int i) (.int j) S=.ok (.bl (decide (i=j))) S:=by
 simp only[eqD,toP]
 simp[SeqAt.shaped,PyData.eqv]
 rfl
@[simp] theorem Hcj:neD (.int i) (.int j) S=.ok (.bl (!decide (i=j))) S:=by
 simp only[neD,toP]
 simp[SeqAt.shaped,PyData.eqv]
 rfl
theorem Jk{x y:Str}(hx:PyData.strOk x=true)(hy:PyData.strOk y=true):eqD (.str x) (.str y) S=.ok (.bl (x==y)) S:=by
 simp only[eqD,toP]
 simp[SeqAt.shaped,PyData.eqv,PyData.canLay0,PyData.depth,hx,hy]
end
@[simp] theorem Hck{l:List D}:Hr [.tup l] S=.ok (.int l.length) S:=rfl
theorem Gcy{k:Nat}{c:Cell}(h:S[k]?=some c):Hr [.lst k] S=.ok (.int c.xs.length) S:=by
 show(match S[k]? with | some c=>Out.ok (D.int c.xs.length) S | none=>.bad)=_
 rw[h]
theorem Jd{k:Nat}{c:Cell}{i:Int}(h:S[k]?=some c)(e:atI c.xs i=some d):getD (.lst k) (.int i) S=.ok d S:=by
 show(match S[k]? with | some c=>(match atI c.xs i with | some d=>Out.ok d S | none=>.bad) | none=>.bad)=_
 rw[h]
 show(match atI c.xs i with | some d=>Out.ok d S | none=>.bad)=_
 rw[e]
theorem Hx{l:List D}{i:Int}(e:atI l i=some d):getD (.tup l) (.int i) S=.ok d S:=by
 show(match atI l i with | some d=>Out.ok d S | none=>.bad)=_
 rw[e]
theorem Gu{α:Type}{l:List α}{i:Int}{d:α}(h0:0<=i)(e:l[i.toNat]?=some d):atI l i=some d:=by
 unfold atI ixN
 have:i.toNat<l.length:=(Ab.mp e).1
 rw[if_pos h0,if_pos (by omega)]
 exact e
theorem Gjw{k:Nat}{xs:List D}{i:Int}(h:S[k]?=some ⟨false,xs⟩)(h0:0<=i)(h1:i<xs.length):Vg (.lst k) (.int i) d S=some (S.set k ⟨false,xs.set i.toNat d⟩):=by
 show(match S[k]? with | some c=>(match ixN c.xs.length i with | some j=>if c.fz=false then some (S.set k ⟨false,c.xs.set j d⟩) else none | none=>none) | none=>none)=_
 rw[h]
 show(match ixN xs.length i with | some j=>if false=false then some (S.set k ⟨false,xs.set j d⟩) else none | none=>none)=_
 unfold ixN
 rw[if_pos h0,if_pos h1]
 rfl
@[simp] theorem Hcl{l:List Int}:Gk6 [.tup (l.map D.int)] S=.ok (.int l.sum) S:=by
 have:∀ l:List Int,Wp (l.map D.int)=some l:=fun l=>by
  induction l with
  | nil=>rfl
  | cons a r ih=>show(Wp (r.map D.int)).map (a::·)=_; rw[ih]; rfl
 show(match (some (l.map D.int)).bind Wp with | some ns=>Out.ok (D.int ns.sum) S | none=>.bad)=_
 rw[AQ,this]
end
end DL
namespace Law
open PySem PySem.Spec PyProof.Rows L2 DL
variable{m j q n N:Nat}{b u:Bool}{ds xs:List D}{S S' S1 S2:Sto}{d:D}{f:Sv}{ρ ρ':Lc}{c:Cell}{a r lH lL v:Int}{L M:List Int}{nxt:Nat->Sto->Option D}{α:Type}{y:Str}
noncomputable def fin(o:OS):Out D:=match o with
 | .rt d S'=>.ok d S'
 | .nx _ S'=>.ok .non S'
 | .exc x _ S'=>.exc x S'
 | _=>.bad
theorem Gq{b:Sv}:fnB m b ds S=fin (b (ds.map some++List.replicate (m-ds.length) none) S):=rfl
@[simp] theorem Hbg:fin (.rt d S)=.ok d S:=rfl
theorem Gm{g:Sv}(h:f ρ S=.nx ρ' S'):fin (sq f g ρ S)=fin (g ρ' S'):=by rw[Gab,h]
theorem Gjx{g:Sv}(h:f ρ S=.rt d S'):fin (sq f g ρ S)=.ok d S':=by rw[Gab,h]; rfl
structure Dp(S:Sto)(t k:Nat)(n:Nat):Prop where
 ex:∃ (a b:Int) (xs:List Int),S[t]?=some ⟨false,[.lst k,.int a,.int b]⟩/\S[k]?=some ⟨false,xs.map D.int⟩/\0<=a/\a<=n
 ne:t≠k
structure Kp(S S':Sto)(t k:Nat):Prop where
 len:S.length<=S'.length
 get:∀ i,i<S.length->i≠t->i≠k->S'[i]?=S[i]?
theorem Kp.refl{t k:Nat}:Kp S S t k:=⟨Aa _,fun _ _ _ _=>rfl⟩
theorem Kp.trans{t k:Nat}(a:Kp S S1 t k)(b:Kp S1 S2 t k):Kp S S2 t k:=⟨Ao a.len b.len,fun i h h1 h2=>(b.get i (Af h a.len) h1 h2).trans (a.get i h h1 h2)⟩
theorem Kp.set{t k:Nat}(h:j=t\/j=k):Kp S (S.set j c) t k:=⟨by simp,fun i _ h1 h2=>by
 rw[Am]
 rcases h with h | h
 ·rw[h]; exact Ne.symm h1
 ·rw[h]; exact Ne.symm h2⟩
theorem Kp.app{t k:Nat}:Kp S (S++[c]) t k:=⟨by simp,fun i h _ _=>by rw[Ar h]⟩
theorem Kp.at{t k:Nat}(a:Kp S S' t k)(e:S[q]?=some c)(h1:q≠t)(h2:q≠k):S'[q]?=some c:=(a.get q (Ab.mp e).1 h1 h2).trans e
theorem Hc:(S++[c])[S.length]?=some c:=by rw[AW (Aa _)]; simp
theorem Jw{d:Cell}(e:S[q]?=some d):(S++[c])[q]?=some d:=by
 rw[Ar (Ab.mp e).1]; exact e
theorem Dp.app{t k:Nat}(h:Dp S t k n):Dp (S++[c]) t k n:=by
 obtain⟨⟨a,b,xs,e1,e2,h⟩,ne⟩:=h
 exact⟨⟨a,b,xs,Jw e1,Jw e2,h⟩,ne⟩
theorem Dp.lt{t k:Nat}(h:Dp S t k n):t<S.length/\k<S.length:=by
 obtain⟨⟨a,b,xs,e1,e2,h⟩,ne⟩:=h
 exact⟨(Ab.mp e1).1,(Ab.mp e2).1⟩
theorem Dp.set{t k:Nat}(h:Dp S t k n)(h1:q≠t)(h2:q≠k):Dp (S.set q c) t k n:=by
 obtain⟨⟨a,b,xs,e1,e2,h⟩,ne⟩:=h
 exact⟨⟨a,b,xs,by rw[Am h1]; exact e1,by rw[Am h2]; exact e2,h⟩,ne⟩
theorem Dp.mono{t k:Nat}(h:Dp S t k n)(hm:n<=m):Dp S t k m:=by
 obtain⟨⟨a,b,xs,e1,e2,h0,h1⟩,ne⟩:=h
 exact⟨⟨a,b,xs,e1,e2,h0,by omega⟩,ne⟩
noncomputable def Gwn:Sv:=(sq (sif (ta (tb (o2 ltD (vr 3) (b1 Hr (ac (o2 DL.getD (vr 0) (cn (.int 0))) an)))) (tb (o2 geD (vr 4) (o2 Ggh (cn (.int 10)) (cn (.int 18))))))
  (sq (ss (o2 Ga4 (vr 4) (vr 1)) (vr 0) (cn (.int 2)) Vg)
  (sret (o2 Wj (vr 4) (vr 1))))
  DL.skip)
  (sq (sa (o2 Wj (o2 Jl (o2 Gx (o2 Wj (vr 4) (cn (.int 1000003))) (cn (.int 1))) (o2 Gx (o2 Gx (o2 Jl (o2 Jl (cn (.int 7919)) (vr 3)) (vr 3)) (o2 Jl (cn (.int 104729)) (vr 3))) (cn (.int 12345)))) (cn (.int 2147483647))) (gn 5))
  (sq (sa (o2 Wj (o2 Gx (o2 Gx (o2 Jl (vr 5) (vr 5)) (o2 Jl (cn (.int 48271)) (vr 3))) (o2 Wj (vr 4) (cn (.int 65537)))) (cn (.int 2147483629))) (gn 5))
  (sret (o2 Wj (o2 Ga4 (vr 5) (cn (.int 8))) (vr 1))))))
theorem Gwo{t k:Nat}{m b c:Int}{xs:List Int}{g2:Option D}(e1:S[t]?=some ⟨false,[.lst k,.int (a+1),.int b]⟩)(e2:S[k]?=some ⟨false,xs.map D.int⟩)(ne:t≠k)(ha:0<=a)(han:a<=n)(hn:n<2^60)(hm:0<m)(hm2:m<2^200):
  ∃ r S',fin (Gwn [some (.lst t),some (.int m),g2,some (.int a),some (.int c),none] S)=.ok (.int r) S'/\0<=r/\r<m/\Dp S' t k (n+1)/\Kp S S' t k:=by
 have g0:DL.getD (.lst t) (.int 0) S=.ok (.lst k) S:=Jd e1 rfl
 have ln:Hr [.lst k] S=.ok (.int xs.length) S:=by rw[Gcy e2]; simp
 have lt:t<S.length:=(Ab.mp e1).1
 have s2:Vg (.lst t) (.int 2) (.int (c / m)) S=some (S.set t ⟨false,[.lst k,.int (a+1),.int (c / m)]⟩):=Gjw e1 (by decide) (by simp)
 by_cases h:a<xs.length/\1000000000000000000<=c
 ·refine⟨c%m,S.set t ⟨false,[.lst k,.int (a+1),.int (c / m)]⟩,?_,A1 _ (by omega),Bc _ hm,⟨⟨a+1,c / m,xs,Av lt,by rw[Am ne]; exact e2,by omega,by omega⟩,ne⟩,Kp.set (.inl rfl)⟩
  unfold Gwn
  exact Gjx (by simp[g0,ln,h.1,h.2,Gis hm hm2,s2,Gat hm])
 ·have sqr:∀ x:Int,Jl (.int (x%2147483647)) (.int (x%2147483647)) S=.ok (.int (x%2147483647*(x%2147483647))) S:=fun x=>Gs5 (by omega) (by omega)
  have m1:Jl (.int (7919*a)) (.int a) S=.ok (.int (7919*a*a)) S:=Gs5 (by omega) (by omega)
  have m2:∀ y:Int,Jl (.int (c%1000003+1)) (.int y) S=.ok (.int ((c%1000003+1)*y)) S:=fun y=>Ged (by omega) (by omega)
  obtain⟨z,hz⟩:∃ z:Int,z=((c%1000003+1)*(7919*a*a+104729*a+12345))%2147483647:=⟨_,rfl⟩
  obtain⟨y,hy⟩:∃ y:Int,y=(z*z+48271*a+c%65537)%2147483629:=⟨_,rfl⟩
  have mz:Jl (.int z) (.int z) S=.ok (.int (z*z)) S:=by rw[hz]; exact sqr _
  have e1':sif (ta (tb (o2 ltD (vr 3) (b1 Hr (ac (o2 DL.getD (vr 0) (cn (.int 0))) an)))) (tb (o2 geD (vr 4) (o2 Ggh (cn (.int 10)) (cn (.int 18)))))) (sq (ss (o2 Ga4 (vr 4) (vr 1)) (vr 0) (cn (.int 2)) Vg) (sret (o2 Wj (vr 4) (vr 1)))) DL.skip [some (.lst t),some (.int m),g2,some (.int a),some (.int c),none] S=.nx [some (.lst t),some (.int m),g2,some (.int a),some (.int c),none] S:=by
   by_cases c1:a<xs.length
   ·have c2:¬ 1000000000000000000<=c:=fun z=>h ⟨c1,z⟩
    simp[g0,ln,c1,c2]
   ·simp[g0,ln,c1]
  refine⟨y / 8%m,S,?_,A1 _ (by omega),Bc _ hm,⟨⟨a+1,b,xs,e1,e2,by omega,by omega⟩,ne⟩,.refl⟩
  unfold Gwn
  rw[Gm e1']
  refine(Gm (ρ':=[some (.lst t),some (.int m),g2,some (.int a),some (.int c),some (.int z)]) (S':=S) (by rw[hz]; simp[Gat,Ged,m1,m2])).trans ?_
  refine(Gm (ρ':=[some (.lst t),some (.int m),g2,some (.int a),some (.int c),some (.int y)]) (S':=S) (by rw[hy]; simp[Gat,Ged,mz])).trans ?_
  simp[Gis,Gat hm]
theorem We{t k:Nat}{m:Int}(h:Dp S t k n)(hn:n<2^60)(hm:0<m)(hm2:m<2^200):∃ r S',Gr [.lst t,.int m] S=.ok (.int r) S'/\0<=r/\r<m/\Dp S' t k (n+1)/\Kp S S' t k:=by
 obtain⟨⟨a,b,xs,e1,e2,ha,han⟩,ne⟩:=h
 have lt:t<S.length:=(Ab.mp e1).1
 have g1:DL.getD (.lst t) (.int 1) S=.ok (.int a) S:=Jd e1 rfl
 have g2:DL.getD (.lst t) (.int 2) S=.ok (.int b) S:=Jd e1 rfl
 have s1:Vg (.lst t) (.int 1) (.int (a+1)) S=some (S.set t ⟨false,[.lst k,.int (a+1),.int b]⟩):=Gjw e1 (by decide) (by simp)
 have s2:Vg (.lst t) (.int 2) (.int (b / m)) S=some (S.set t ⟨false,[.lst k,.int a,.int (b / m)]⟩):=Gjw e1 (by decide) (by simp)
 have hf:∀ X,Gr [.lst t,.int m] S=X↔fin (Jp [some (.lst t),some (.int m),none,none,none,none] S)=X:=fun X=>by rw[show Gr [.lst t,.int m] S=fin (Jp [some (.lst t),some (.int m),none,none,none,none] S) from Gq (m:=6) (b:=Jp)]
 by_cases c:0<b
 ·refine⟨b%m,S.set t ⟨false,[.lst k,.int a,.int (b / m)]⟩,(hf _).mpr ?_,A1 _ (by omega),Bc _ hm,⟨⟨a,b / m,xs,Av lt,by rw[Am ne]; exact e2,ha,by omega⟩,ne⟩,Kp.set (.inl rfl)⟩
  unfold Jp
  exact Gjx (by simp[g2,c,Gat hm,Gis hm hm2,s2])
 ·have e1':(S.set t ⟨false,[.lst k,.int (a+1),.int b]⟩)[t]?=some ⟨false,[.lst k,.int (a+1),.int b]⟩:=Av lt
  have e2':(S.set t ⟨false,[.lst k,.int (a+1),.int b]⟩)[k]?=some ⟨false,xs.map D.int⟩:=by rw[Am ne]; exact e2
  have kp:Kp S (S.set t ⟨false,[.lst k,.int (a+1),.int b]⟩) t k:=Kp.set (.inl rfl)
  generalize S.set t ⟨false,[.lst k,.int (a+1),.int b]⟩=S1 at *
  have g0:DL.getD (.lst t) (.int 0) S1=.ok (.lst k) S1:=Jd e1' rfl
  have ln:Hr [.lst k] S1=.ok (.int xs.length) S1:=by rw[Gcy e2']; simp
  obtain⟨cl',ec⟩:∃ cl':Int,sif (tb (o2 gtD (b1 Hr (ac (o2 DL.getD (vr 0) (cn (.int 0))) an)) (cn (.int 0)))) (sa (o2 DL.getD (o2 DL.getD (vr 0) (cn (.int 0))) (o2 Wj (vr 3) (b1 Hr (ac (o2 DL.getD (vr 0) (cn (.int 0))) an)))) (gn 4)) DL.skip [some (.lst t),some (.int m),none,some (.int a),some (.int 0),none] S1=.nx [some (.lst t),some (.int m),none,some (.int a),some (.int cl'),none] S1:=by
   by_cases c2:0<xs.length
   ·have c3:(0:Int)<xs.length:=by omega
    have lti:(a%(xs.length:Int)).toNat<xs.length:=by
     have:=Bc a c3
     have:=A1 a (by omega:(xs.length:Int)≠0)
     omega
    have gi:DL.getD (.lst k) (.int (a%(xs.length:Int))) S1=.ok (.int xs[(a%(xs.length:Int)).toNat]) S1:=Jd e2' (Gu (A1 a (by omega)) (by simp[lti]))
    exact⟨xs[(a%(xs.length:Int)).toNat],by simp[g0,ln,c2,Gat c3,gi]⟩
   ·exact⟨0,by simp[g0,ln,c2]⟩
  obtain⟨r,S',h1,h2,h3,h4,h5⟩:=Gwo (c:=cl') (g2:=none) e1' e2' ne ha han hn hm hm2
  refine⟨r,S',(hf _).mpr ?_,h2,h3,h4,kp.trans h5⟩
  unfold Jp
  refine(Gm (ρ':=[some (.lst t),some (.int m),none,none,none,none]) (S':=S) (by simp[g2,c])).trans ?_
  refine(Gm (ρ':=[some (.lst t),some (.int m),none,some (.int a),none,none]) (S':=S) (by simp[g1])).trans ?_
  refine(Gm (ρ':=[some (.lst t),some (.int m),none,some (.int a),none,none]) (S':=S1) (by simp[s1])).trans ?_
  refine(Gm (ρ':=[some (.lst t),some (.int m),none,some (.int a),some (.int 0),none]) (S':=S1) (by simp)).trans ?_
  rw[Gm ec]
  exact h1
theorem pick{t k:Nat}{x:D}(s:Kp (S++[⟨false,xs⟩]) S1 t k)(h:t<S.length/\k<S.length)(e:atI xs r=some x):DL.getD (.lst S.length) (.int r) S1=.ok x S1:=
 Jd (c:=⟨false,xs⟩) (s.at Hc (by omega) (by omega)) e
theorem Gac{t k:Nat}{m:Int}(h:Dp S t k n)(hn:n<2^60)(hm:m=xs.length)(h0:0<xs.length)(h1:xs.length<1000):∃ r x S1,Gr [.lst t,.int m] (S++[⟨false,xs⟩])=.ok (.int r) S1/\DL.getD (.lst S.length) (.int r) S1=.ok x S1/\x∈xs/\Dp S1 t k (n+1)/\Kp S S1 t k:=by
 obtain⟨r,S1,e1,r0,r1,d1,k1⟩:=We (m:=m) (h.app (c:=⟨false,xs⟩)) hn (by omega) (by omega)
 have hlt:r.toNat<xs.length:=by omega
 have ea:atI xs r=some xs[r.toNat]:=Gu r0 (by simp[hlt])
 exact⟨r,_,S1,e1,pick k1 h.lt ea,A2 hlt,d1,Kp.app.trans k1⟩
inductive Pl where
 | e | c | p (br de ro:Int) (pr:D)
variable{p pH pL:Pl}{ps:List Pl}
noncomputable def Pl.toD:Pl->D
 | .e=>.tup [.str "end"]
 | .c=>.tup [.str "chamber"]
 | .p br de ro pr=>.tup [.str "pound",.int br,.int de,.int ro,pr]
noncomputable def Pl.ok:Pl->Prop
 | .p br de ro pr=>1<=br/\br<=9/\0<=de/\de<=br/\1<=ro/\ro<=4/\(pr=.non\/∃ i,pr=.int i/\0<=i/\i<=99)
 | _=>True
theorem isL(e:S[q]?=some c):isLst (.lst q) S=true:=by simp only[isLst,e]
theorem Yd{nxt:Nat->Sto->Option D}{g:Tg}{b:Sv}{l:List D}(I:Nat->Lc->Sto->Prop)(hn:∀ k ρ S,I k ρ S->nxt k S=l[k]?)(hs:∀ k d ρ S,l[k]?=some d->I k ρ S->∃ ρ1 ρ2 S2,g d ρ=some ρ1/\b ρ1 S=.nx ρ2 S2/\I (k+1) ρ2 S2):
  ∀ (n k:Nat) (ρ:Lc) (S:Sto),k<=l.length->I k ρ S->l.length<n+k->∃ ρ' S',Ki nxt g b n k ρ S=.nx ρ' S'/\I l.length ρ' S'
 | 0,k,ρ,S,h1,_,h2=>by omega
 | n+1,k,ρ,S,h1,hI,h2=>by
  unfold Ki
  rw[hn k ρ S hI]
  cases z:l[k]? with
  | none=>
   have:k=l.length:=by have:=Bj.mp z; omega
   subst this
   exact⟨ρ,S,rfl,hI⟩
  | some d=>
   obtain⟨ρ1,ρ2,S2,h3,h4,h5⟩:=hs k d ρ S z hI
   have hk:k<l.length:=(Ab.mp z).1
   obtain⟨ρ',S',h6,h7⟩:=Yd I hn hs n (k+1) ρ2 S2 hk h5 (by omega)
   refine⟨ρ',S',?_,h7⟩
   simp only[h3,h4]
   exact h6
noncomputable def Gn2(l:List D):Src:=⟨fun k _=>l[k]?,l.length+1⟩
noncomputable def Gau(i n:Nat):Src:=⟨fun k S=>(S[i]?).bind fun c=>c.xs[k]?,n+1⟩
theorem Gzm{l:List D}:Gd3 (.tup l) S=.ok (Gn2 l) S:=rfl
theorem Ghg{i:Nat}(e:S[i]?=some c):Gd3 (.lst i) S=.ok (Gau i c.xs.length) S:=by
 simp only[Gd3,e]
 rfl
theorem Grd{k:Nat}:(rsrc 0 n).nxt k S=((List.range n).map fun k:Nat=>D.int (k:Int))[k]?:=by
 show(if k<n then some (D.int (0+k)) else none)=_
 rw[Aw]
 by_cases c:k<n
 ·rw[if_pos c,BG c]; simp
 ·rw[if_neg c,Bn (by simp; omega)]; rfl
theorem Gwp{f:Ev (List D)}(h:f ρ S=.ok [.int n] S')(hn:n<=1000000):ir1 f ρ S=.ok (rsrc 0 n) S':=by
 unfold ir1
 rw[h]
 show(if -1000000000000<=(n:Int)/\(n:Int)<=1000000000000 then Out.ok (rsrc 0 (n:Int).toNat) S' else .bad)=_
 rw[if_pos (by omega)]; rfl
theorem Kp.setq{S0:Sto}{t k:Nat}(a:Kp S0 S t k)(h:S0.length<=q):Kp S0 (S.set q c) t k:=⟨by simp; exact a.len,fun i hi h1 h2=>by
 rw[Am (by omega)]; exact a.get i hi h1 h2⟩
theorem Gcz{i:Nat}{a b:List D}(h1:S[i]?=some ⟨false,a⟩)(h2:S[j]?=some ⟨false,b⟩)(h:a.length+b.length<=1000000):Gx (.lst i) (.lst j) S=.ok (.lst S.length) (S++[⟨false,a++b⟩]):=by
 simp only[Gx,h1,h2]
 simp[h]
theorem Ghh(e:S[q]?=some c):Zf [.lst q] S=.ok (.tup c.xs) S:=by
 simp only[Zf,e]
noncomputable def Pl.isC:Pl->Bool
 | .c=>true
 | _=>false
noncomputable def Pl.isE:Pl->Bool
 | .e=>true
 | _=>false
theorem stok(s:String):PyData.strOk (Str.ofString s)=true:=by
 unfold PyData.strOk
 have hc:∀ c:Char,c.toNat<1114112:=fun c=>by
  rcases c.valid with h | ⟨_,h⟩
  ·exact Af h (by decide)
  ·exact h
 rw[Str.ofString_eq_toList]
 simp[hc]
theorem Gbm(h:p.ok):eqD p.toD (.tup [.str "chamber"]) S=.ok (.bl p.isC) S:=by
 have n1:(Str.ofString "end"==Str.ofString "chamber")=false:=by decide +kernel
 have n2:(Str.ofString "pound"==Str.ofString "chamber")=false:=by decide +kernel
 cases p with
 | e=>simp[Pl.toD,eqD,toP,Jm,SeqAt.shaped,PyData.canLay0,PyData.canLayAll0,PyData.depth,PyData.depthAll,stok,PyData.eqv,PyData.eqvAll,n1,Pl.isC]
 | c=>simp[Pl.toD,eqD,toP,Jm,SeqAt.shaped,PyData.canLay0,PyData.canLayAll0,PyData.depth,PyData.depthAll,stok,PyData.eqv,PyData.eqvAll,Pl.isC]
 | p br de ro pr=>
  obtain⟨_,_,_,_,_,_,h⟩:=h
  rcases h with rfl | ⟨i,rfl,_⟩
  ·simp[Pl.toD,eqD,toP,Jm,SeqAt.shaped,PyData.canLay0,PyData.canLayAll0,PyData.depth,PyData.depthAll,stok,PyData.eqv,PyData.eqvAll,n2,Pl.isC]
  ·simp[Pl.toD,eqD,toP,Jm,SeqAt.shaped,PyData.canLay0,PyData.canLayAll0,PyData.depth,PyData.depthAll,stok,PyData.eqv,PyData.eqvAll,n2,Pl.isC]
theorem Gfw(h:p.ok):eqD p.toD (.tup [.str "end"]) S=.ok (.bl p.isE) S:=by
 have n1:(Str.ofString "chamber"==Str.ofString "end")=false:=by decide +kernel
 have n2:(Str.ofString "pound"==Str.ofString "end")=false:=by decide +kernel
 cases p with
 | e=>simp[Pl.toD,eqD,toP,Jm,SeqAt.shaped,PyData.canLay0,PyData.canLayAll0,PyData.depth,PyData.depthAll,stok,PyData.eqv,PyData.eqvAll,Pl.isE]
 | c=>simp[Pl.toD,eqD,toP,Jm,SeqAt.shaped,PyData.canLay0,PyData.canLayAll0,PyData.depth,PyData.depthAll,stok,PyData.eqv,PyData.eqvAll,n1,Pl.isE]
 | p br de ro pr=>
  obtain⟨_,_,_,_,_,_,h⟩:=h
  rcases h with rfl | ⟨i,rfl,_⟩
  ·simp[Pl.toD,eqD,toP,Jm,SeqAt.shaped,PyData.canLay0,PyData.canLayAll0,PyData.depth,PyData.depthAll,stok,PyData.eqv,PyData.eqvAll,n2,Pl.isE]
  ·simp[Pl.toD,eqD,toP,Jm,SeqAt.shaped,PyData.canLay0,PyData.canLayAll0,PyData.depth,PyData.depthAll,stok,PyData.eqv,PyData.eqvAll,n2,Pl.isE]
theorem cbody_ok{a:Nat}{e:Ev D}(h:e ρ S=.ok d S2)(q:S2[a]?=some ⟨false,xs⟩)(hl:xs.length<1000000):cbody a ttrue e ρ S=.nx ρ (S2.set a ⟨false,xs++[d]⟩):=by
 show bindS (ttrue ρ S) ρ _=_
 show bindS (e ρ S) ρ _=_
 rw[h]
 simp only[Jq,q]
 rw[if_pos (by simp[hl])]
theorem Gn3{f:Ev Src}{pk:List (Option Nat)}{g:Tg}{c:Ev Bool}{e:Ev D}{s:Src}(h:f ρ S=.ok s S1)(l:Ki s.nxt g (cbody S1.length c e) s.fuel 0 (pkS pk ρ) (S1++[⟨false,[]⟩])=.nx ρ' S'):cmp f pk g c e ρ S=.ok (.lst S1.length) S':=by
 unfold cmp
 rw[h]
 simp only[Gaa,l]
structure Ex(S S':Sto):Prop where
 len:S.length<=S'.length
 get:∀ i,i<S.length->S'[i]?=S[i]?
theorem Ex.refl:Ex S S:=⟨Aa _,fun _ _=>rfl⟩
theorem Ex.trans(a:Ex S S1)(b:Ex S1 S2):Ex S S2:=⟨Ao a.len b.len,fun i h=>(b.get i (Af h a.len)).trans (a.get i h)⟩
theorem Ex.app:Ex S (S++[c]):=⟨by simp,fun i h=>by rw[Ar h]⟩
theorem Ex.setq{S0:Sto}(a:Ex S0 S)(h:S0.length<=q):Ex S0 (S.set q c):=⟨by simp; exact a.len,fun i hi=>by rw[Am (by omega)]; exact a.get i hi⟩
theorem Ex.at(a:Ex S S')(e:S[q]?=some c):S'[q]?=some c:=(a.get q (Ab.mp e).1).trans e
noncomputable def isInt:D->Bool
 | .int _=>true
 | _=>false
theorem Gfx{a b:List D}(h:a.length+b.length<=1000000):Gx (.tup a) (.tup b) S=.ok (.tup (a++b)) S:=by
 show(if a.length+b.length<=1000000 then Out.ok (D.tup (a++b)) S else .bad)=_
 rw[if_pos h]
theorem Gbn{a b:Str}(h1:PyData.strOk a=true)(h2:PyData.strOk b=true):PyData.strOk (a++b)=true:=by
 unfold PyData.strOk at *
 show((a.cps++b.cps).all fun x=>decide (x<1114112))=true
 rw[Array.all_append,h1,h2]
 rfl
theorem Gjy{n:Nat}:∀ ts:List Str,(∀ t∈ts,PyData.strOk t=true/\t.length<=n)->PyData.strOk (Str.join ", " ts)=true/\(Str.join ", " ts).length<=(n+2)*ts.length
 | [],_=>⟨by decide +kernel,by show(Str.join ", " []).length<=_; exact Nat.le_of_eq (by rfl)⟩
 | [x],h=>by
  obtain⟨h1,h2⟩:=h x Aq
  exact⟨h1,by show x.length<=_; simp; omega⟩
 | x::y::r,h=>by
  obtain⟨h1,h2⟩:=h x Aq
  obtain⟨h3,h4⟩:=Gjy (y::r) fun t ht=>h t (An _ ht)
  have e:Str.join ", " (x::y::r)=x++", "++Str.join ", " (y::r):=rfl
  refine⟨by rw[e]; exact Gbn (Gbn h1 (stok _)) h3,?_⟩
  rw[e,Str.length_append,Str.length_append]
  have e2:((", ":String):Str).length=2:=rfl
  rw[e2]
  simp only[AL] at h4 ⊢
  have:(n+2)*(r.length+1+1)=(n+2)*(r.length+1)+(n+2):=by rw[Nat.mul_add (n+2) (r.length+1) 1]; omega
  omega
theorem Gwq{ts:List Str}(h:∀ t∈ts,PyData.strOk t=true/\t.length<=n):PyData.strOk (tupleText ts)=true/\(tupleText ts).length<=(n+2)*ts.length+3:=by
 obtain⟨h1,h2⟩:=Gjy ts h
 unfold tupleText
 refine⟨Gbn (Gbn (stok _) h1) (stok _),?_⟩
 rw[Str.length_append,Str.length_append]
 have e1:(("(":String):Str).length=1:=rfl
 have e2:∀ b:Bool,(((if b=true then ",)" else ")":String):Str)).length<=2:=fun b=>by cases b<;>decide +kernel
 have:=e2 (ts.length==1)
 rw[e1]
 omega
theorem Gad:∀ L:List PyData,(PyData.shownAll L).length=L.length
 | []=>rfl
 | a::L=>by show(PyData.shown a::PyData.shownAll L).length=_; simp[Gad L]
theorem Gav{l:List D}:Wo [.tup l] S=.ok (.lst S.length) (S++[⟨false,l⟩]):=rfl
theorem Gre(s:String):(Str.ofString s).length=s.toList.length:=by
 rw[Str.ofString_eq_toList]
 show(Array.size _)=_
 simp
theorem Grf{i:Int}(h:i.natAbs<10^60):(Str.ofString (toString i)).length<=61:=by
 rw[Gre]
 cases i with
 | ofNat m=>
  show(Nat.repr m).toList.length<=61
  have:=(Nat.length_toDigits_le_iff (b:=10) (n:=m) (k:=60) (by decide) (by decide)).mpr h
  simp only[Nat.repr,String.toList_ofList]
  omega
 | negSucc m=>
  show("-"++Nat.repr (m+1)).toList.length<=61
  have:=(Nat.length_toDigits_le_iff (b:=10) (n:=m+1) (k:=60) (by decide) (by decide)).mpr h
  simp only[Nat.repr,String.toList_append,String.toList_ofList,AB]
  have:("-":String).toList.length=1:=rfl
  omega
structure Gp(p:PyData)(b e:Nat):Prop where
 sh:p.showable=true
 nd:p.hasDict=false
 dp:p.depth<=e
 ok:PyData.strOk p.shown=true
 le:p.shown.length<=b
theorem Gp.mono{p:PyData}{b e b' e':Nat}(h:Gp p b e)(h1:b<=b')(h2:e<=e'):Gp p b' e':=⟨h.sh,h.nd,Ao h.dp h2,h.ok,Ao h.le h1⟩
theorem Gn4{b e:Nat}:∀ {ps:List PyData},(∀ p∈ps,Gp p b e)->PyData.showableAll ps=true/\PyData.hasDictAll ps=false/\PyData.depthAll ps<=e/\∀ t∈PyData.shownAll ps,PyData.strOk t=true/\t.length<=b
 | [],_=>⟨rfl,rfl,AC _,fun t ht=>by cases ht⟩
 | p::r,h=>by
  have hp:=h p Aq
  obtain⟨a1,a2,a3,a4⟩:=Gn4 (ps:=r) fun q hq=>h q (An _ hq)
  refine⟨?_,?_,?_,?_⟩
  ·show(p.showable&&PyData.showableAll r)=true; rw[hp.sh,a1]; rfl
  ·show(p.hasDict||PyData.hasDictAll r)=false; rw[hp.nd,a2]; rfl
  ·show max p.depth (PyData.depthAll r)<=e; exact Nat.max_le.mpr ⟨hp.dp,a3⟩
  ·intro t ht
   have ht:t∈p.shown::PyData.shownAll r:=ht
   rcases Ad.mp ht with rfl | ht
   ·exact⟨hp.ok,hp.le⟩
   ·exact a4 t ht
theorem Gwr{ps:List PyData}{b e:Nat}(h:∀ p∈ps,Gp p b e):Gp (.tuple ps) ((b+2)*ps.length+3) (e+1):=by
 obtain⟨a1,a2,a3,a4⟩:=Gn4 h
 obtain⟨c1,c2⟩:=Gwq a4
 rw[Gad] at c2
 refine⟨by simpa[PyData.showable] using a1,by simpa[PyData.hasDict] using a2,by simp only[PyData.depth]; omega,?_,?_⟩
 ·show PyData.strOk (tupleText (PyData.shownAll ps))=true; exact c1
 ·show(tupleText (PyData.shownAll ps)).length<=_; exact c2
noncomputable def Sho(S:Sto)(d:D)(b e:Nat):Prop:=∃ p,(∀ S',Ex S S'->∀ n,e<n->toP S' n d=some p)/\Gp p b e
theorem Sho.mono{b e b' e':Nat}(h:Sho S d b e)(h1:b<=b')(h2:e<=e'):Sho S d b' e':=by
 obtain⟨p,a,g⟩:=h
 exact⟨p,fun S' x n hn=>a S' x n (by omega),g.mono h1 h2⟩
theorem Gjz{S:Sto}{b e:Nat}:∀ {l:List D},(∀ d∈l,Sho S d b e)->∃ ps,(∀ S',Ex S S'->∀ n,e<n->Jm (toP S' n) l=some ps)/\ps.length=l.length/\∀ p∈ps,Gp p b e
 | [],_=>⟨[],fun _ _ _ _=>rfl,rfl,fun p hp=>by cases hp⟩
 | d::l,h=>by
  obtain⟨p,a,g⟩:=h d Aq
  obtain⟨ps,a2,a3,a4⟩:=Gjz (l:=l) fun q hq=>h q (An _ hq)
  refine⟨p::ps,fun S' x n hn=>?_,by simp[a3],fun q hq=>?_⟩
  ·simp only[Jm,a S' x n hn,a2 S' x n hn]
  ·rcases Ad.mp hq with rfl | hq
   ·exact g
   ·exact a4 q hq
theorem Gfy{l:List D}{b e:Nat}(h:∀ d∈l,Sho S d b e):Sho S (.tup l) ((b+2)*l.length+3) (e+1):=by
 obtain⟨ps,a,hl,g⟩:=Gjz h
 refine⟨.tuple ps,fun S' x n hn=>?_,by rw[<- hl]; exact Gwr g⟩
 obtain⟨m,rfl⟩:∃ m,n=m+1:=⟨n-1,by omega⟩
 show(Jm (toP S' m) l).map PyData.tuple=_
 rw[a S' x m (by omega)]
 rfl
theorem Grg{i:Int}(h:i.natAbs<10^60):Sho S (.int i) 61 0:=by
 refine⟨.int i,fun S' _ n hn=>?_,⟨?_,rfl,Aa _,?_,?_⟩⟩
 ·obtain⟨m,rfl⟩:∃ m,n=m+1:=⟨n-1,by omega⟩
  rfl
 ·show decide (i.natAbs.log2<1920)=true
  refine decide_eq_true ?_
  by_cases c:i.natAbs=0
  ·rw[c]; decide
  ·refine Af ((Nat.log2_lt c).mpr (show i.natAbs<2^200 from Bk h (by decide))) (by decide)
 ·show PyData.strOk (Str.ofString (toString i))=true; exact stok _
 ·show(Str.ofString (toString i)).length<=61; exact Grf h
theorem Gj0:Sho S .non 61 0:=by
 refine⟨.none,fun S' _ n hn=>?_,⟨rfl,rfl,Aa _,by decide +kernel,by decide +kernel⟩⟩
 obtain⟨m,rfl⟩:∃ m,n=m+1:=⟨n-1,by omega⟩
 rfl
theorem Sho.repr{b e:Nat}(h:Sho S d b e)(h1:b<=1000000)(h2:e<40):∃ s:Str,PyData.strOk s=true/\∀ S',Ex S S'->Wf [d] S'=.ok (.str s) S':=by
 obtain⟨p,a,g⟩:=h
 refine⟨p.shown,g.ok,fun S' x=>?_⟩
 have ha:=a S' x 40 h2
 have big:∀ (q:PyData),q=p->(if(q.showable&&!q.hasDict&&decide (q.depth<=60))=true/\q.shown.length<=1000000 then Out.ok (D.str q.shown) S' else .bad)=.ok (.str p.shown) S':=fun q hq=>by
  subst hq
  rw[if_pos]
  refine⟨?_,Ao g.le h1⟩
  rw[g.sh,g.nd]
  have:=g.dp
  simp
  omega
 cases d with
 | non=>cases (Ac ha); rfl
 | bl v=>cases (Ac ha); cases v<;>rfl
 | int i=>
  cases (Ac ha)
  have:i.natAbs.log2<1920:=of_decide_eq_true g.sh
  show(if i.natAbs.log2<1920 then Out.ok (D.str (toString i)) S' else .bad)=_
  rw[if_pos this]
  rfl
 | str z=>
  cases (Ac ha)
  have:(reprText z).length<=1000000:=Ao g.le h1
  show(if(reprText z).length<=1000000 then Out.ok (D.str (reprText z)) S' else .bad)=_
  rw[if_pos this]
  rfl
 | tup l=>
  show(match toP S' 40 (.tup l) with
   | some p=>if(p.showable&&!p.hasDict&&decide (p.depth<=60))=true/\p.shown.length<=1000000 then Out.ok (D.str p.shown) S' else .bad
   | none=>.bad)=_
  rw[ha]
  exact big p rfl
 | lst i=>
  show(match toP S' 40 (.lst i) with
   | some p=>if(p.showable&&!p.hasDict&&decide (p.depth<=60))=true/\p.shown.length<=1000000 then Out.ok (D.str p.shown) S' else .bad
   | none=>.bad)=_
  rw[ha]
  exact big p rfl
 | exn _ _=>cases ha
 | fv _=>cases ha
 | dct _=>cases ha
theorem Gzn{c:Ev Bool}{g:Sv}(h:c ρ S=.ok true S1):sif c f g ρ S=f ρ S1:=by
 rw[Gn1,h,Jq,if_pos rfl]
theorem Gs6{c:Ev Bool}{g:Sv}(h:c ρ S=.ok false S1):sif c f g ρ S=g ρ S1:=by
 rw[Gn1,h,Jq,if_neg (by decide)]
theorem Gee{g:Sv}(h:f ρ S=.nx ρ' S1):sq f g ρ S=g ρ' S1:=by rw[Gab,h]
theorem Gzo{lo hi:Option Int}(e:S[q]?=some c):Ggl (.lst q) lo hi S=.ok (.lst S.length) (S++[⟨false,DL.Um c.xs lo hi⟩]):=by
 simp only[Ggl,e]
theorem Gws(e:S[q]?=some c):Wo [.lst q] S=.ok (.lst S.length) (S++[⟨false,c.xs⟩]):=by
 simp only[Wo,e]
theorem Grh{ns:List Int}{lo hi:Option Int}:∃ ys:List Int,DL.Um (ns.map D.int) lo hi=ys.map D.int:=
 ⟨(ns.drop (HT.sIx (ns.map D.int).length 0 lo)).take (HT.sIx (ns.map D.int).length (ns.map D.int).length hi-HT.sIx (ns.map D.int).length 0 lo),by unfold DL.Um; rw[List.map_take,List.map_drop]⟩
theorem Gri{fz:Bool}{ns:List Int}(e:S[q]?=some ⟨fz,ns.map D.int⟩):∃ (t k:Nat) (S':Sto),Xk [.lst q] S=.ok (.lst t) S'/\Dp S' t k 0:=by
 obtain⟨ys,hy⟩:=Grh (ns:=ns) (lo:=none) (hi:=some 63)
 have s1:Ggl (.lst q) none (some 63) S=.ok (.lst S.length) (S++[⟨false,ys.map D.int⟩]):=by rw[Gzo e,hy]
 have q1:(S++[⟨false,ys.map D.int⟩])[S.length]?=some (⟨false,ys.map D.int⟩:Cell):=Hc
 generalize hS1:S++[⟨false,ys.map D.int⟩]=S1 at *
 have s3:Wo [.lst S.length] S1=.ok (.lst S1.length) (S1++[⟨false,ys.map D.int⟩]):=Gws q1
 have q3:(S1++[⟨false,ys.map D.int⟩])[S1.length]?=some (⟨false,ys.map D.int⟩:Cell):=Hc
 have l3:(S1++[(⟨false,ys.map D.int⟩:Cell)]).length=S1.length+1:=by simp
 generalize hS3:S1++[⟨false,ys.map D.int⟩]=S3 at *
 refine⟨S3.length,S1.length,S3++[⟨false,[.lst S1.length,.int 0,.int 0]⟩],?_,⟨⟨0,0,ys,Hc,Jw q3,by decide,by decide⟩,by omega⟩⟩
 refine(Gq (m:=1) (b:=Qi)).trans ?_
 show fin (Qi [some (.lst q)] S)=_
 unfold Qi
 simp[s1,s3]
noncomputable def vOk(cr:Int)(p:Pl)(l r f:Int):Prop:=0<=l/\0<=r/\0<=f/\match p with
 | .e=>l=0/\r<=cr/\f<=cr
 | .c=>l<=1/\r+f<=1
 | .p br _ ro _=>l<=br/\r+f<=ro
theorem s1:eqD (.str "end") (.str "chamber") S=.ok (.bl false) S:=by rw[Jk (stok _) (stok _)]; rfl
theorem s2:eqD (.str "end") (.str "pound") S=.ok (.bl false) S:=by rw[Jk (stok _) (stok _)]; rfl
theorem s3:eqD (.str "chamber") (.str "chamber") S=.ok (.bl true) S:=by rw[Jk (stok _) (stok _)]; rfl
theorem s4:eqD (.str "chamber") (.str "pound") S=.ok (.bl false) S:=by rw[Jk (stok _) (stok _)]; rfl
theorem s5:eqD (.str "pound") (.str "chamber") S=.ok (.bl false) S:=by rw[Jk (stok _) (stok _)]; rfl
theorem s6:eqD (.str "pound") (.str "pound") S=.ok (.bl true) S:=by rw[Jk (stok _) (stok _)]; rfl
theorem s7:eqD (.str "end") (.str "end") S=.ok (.bl true) S:=by rw[Jk (stok _) (stok _)]; rfl
theorem s8:eqD (.str "chamber") (.str "end") S=.ok (.bl false) S:=by rw[Jk (stok _) (stok _)]; rfl
theorem s9:eqD (.str "pound") (.str "end") S=.ok (.bl false) S:=by rw[Jk (stok _) (stok _)]; rfl
theorem p0e{l:List D}:DL.getD (.tup (d::l)) (.int 0) S=.ok d S:=Hx (Gu (by decide) rfl)
theorem p1e{l:List D}{e:D}:DL.getD (.tup (e::d::l)) (.int 1) S=.ok d S:=Hx (Gu (by decide) rfl)
theorem p3e{l:List D}{a b c:D}:DL.getD (.tup (a::b::c::d::l)) (.int 3) S=.ok d S:=Hx (Gu (by decide) rfl)
theorem Gj1:Yh [.bl b] S=.ok (.int (if b then 1 else 0)) S:=rfl
structure StR(cr:Int)(ps:List Pl)(L R F:List Int):Prop where
 lL:L.length=ps.length
 lR:R.length=ps.length
 lF:F.length=ps.length
 at':∀ (i:Nat) (p:Pl),ps[i]?=some p->∃ l r f,L[i]?=some l/\R[i]?=some r/\F[i]?=some f/\vOk cr p l r f
noncomputable def stD(L R F:List Int):D:=.tup [.tup (L.map D.int),.tup (R.map D.int),.tup (F.map D.int)]
noncomputable def wat:Pl->Int
 | .e=>0
 | .c=>1
 | .p br _ _ _=>br
theorem Gn5(h:p.ok):Js [p.toD] S=.ok (.int (wat p)) S:=by
 have e1:=fun S=>Gfw (S:=S) h
 have e2:=fun S=>Gbm (S:=S) h
 cases p with
 | e=>simp[Js,fnB,Km,c_END,c_CHAMBER,e1,Pl.isE,wat]
 | c=>simp[Js,fnB,Km,c_END,c_CHAMBER,e1,e2,Pl.isE,Pl.isC,wat]
 | p br de ro pr=>
  have g:∀ S,DL.getD (Pl.toD (.p br de ro pr)) (.int 1) S=.ok (.int br) S:=fun S=>p1e
  simp[Js,fnB,Km,c_END,c_CHAMBER,e1,e2,Pl.isE,Pl.isC,wat,g]
theorem Qu{k:Nat}{i:Int}(h:L[k]?=some i):DL.getD (.tup (L.map D.int)) (.int k) S=.ok (.int i) S:=
 Hx (Gu (by omega) (by rw[AI,Aw,h]; rfl))
theorem Gef{g:Tg}{b:Sv}{k:Nat}{ρ1 ρ2:Lc}(h:nxt k S=some d)(h2:g d ρ=some ρ1)(h3:b ρ1 S=.nx ρ2 S2):Ki nxt g b (n+1) k ρ S=Ki nxt g b n (k+1) ρ2 S2:=by
 conv=>lhs; unfold Ki
 simp only[h,h2,h3]
theorem Gln{g:Tg}{b:Sv}{k:Nat}(h:nxt k S=none):Ki nxt g b (n+1) k ρ S=.nx ρ S:=by
 conv=>lhs; unfold Ki
 simp only[h]
theorem Grj{k:Nat}(h:k<M.length):Ggl (.tup (M.map D.int)) none (some (k:Int)) S=.ok (.tup ((M.take k).map D.int)) S:=by
 have e2:HT.sIx (M.map D.int).length (M.map D.int).length (some (k:Int))=k:=by
  rw[HT.Gi8,AD]
  omega
 show(if HT.sIx (M.map D.int).length 0 none=0/\HT.sIx (M.map D.int).length (M.map D.int).length (some (k:Int))=(M.map D.int).length then Out.ok (D.tup (M.map D.int)) S else .ok (.tup (DL.Um (M.map D.int) none (some (k:Int)))) S)=_
 rw[if_neg (by rw[e2,AD]; omega)]
 unfold DL.Um
 rw[e2,HT.Ggf,List.map_take]
 rfl
theorem Grk{k:Nat}(h:k<M.length):Ggl (.tup (M.map D.int)) (some ((k:Int)+1)) none S=.ok (.tup ((M.drop (k+1)).map D.int)) S:=by
 have e1:HT.sIx (M.map D.int).length 0 (some ((k:Int)+1))=k+1:=by
  have:=HT.Gi8 (M.map D.int).length 0 (k+1)
  rw[show((k+1:Nat):Int)=(k:Int)+1 from by push_cast; rfl] at this
  rw[this,AD]
  omega
 show(if HT.sIx (M.map D.int).length 0 (some ((k:Int)+1))=0/\HT.sIx (M.map D.int).length (M.map D.int).length none=(M.map D.int).length then Out.ok (D.tup (M.map D.int)) S else .ok (.tup (DL.Um (M.map D.int) (some ((k:Int)+1)) none)) S)=_
 rw[if_neg (by rw[e1]; omega)]
 unfold DL.Um
 rw[e1,HT.Ggf,List.map_drop,BA (by simp)]
theorem Gbo{k:Nat}{m:Int}(h:M[k]?=some r)(hl:M.length<=1000):Kl [.tup (M.map D.int),.int k,.int m] S=.ok (.tup ((M.set k (r+m)).map D.int)) S:=by
 have hk:k<M.length:=(Ab.mp h).1
 have g:=Qu (S:=S) h
 have a1:Gx (.tup ((M.take k).map D.int)) (.tup [.int (r+m)]) S=.ok (.tup ((M.take k).map D.int++[.int (r+m)])) S:=Gfx (by simp; omega)
 have a2:Gx (.tup ((M.take k).map D.int++[.int (r+m)])) (.tup ((M.drop (k+1)).map D.int)) S=.ok (.tup ((M.take k).map D.int++[.int (r+m)]++(M.drop (k+1)).map D.int)) S:=Gfx (by simp; omega)
 refine(Gq (m:=3) (b:=Qg)).trans ?_
 show fin (Qg [some (.tup (M.map D.int)),some (.int k),some (.int m)] S)=_
 have e:(M.take k).map D.int++[.int (r+m)]++(M.drop (k+1)).map D.int=(M.set k (r+m)).map D.int:=by
  rw[List.set_eq_take_append_cons_drop,if_pos hk]
  simp
 rw[e] at a2
 simp[Qg,Grj hk,Grk hk,g,a1,a2,-List.map_take,-List.map_drop,-List.map_set]
theorem Xo{f:Fn}{x:XD}(h:f ds S=.exc x S')(hy:x.cls∈ys):gX ys f ds S=.exc x S':=by
 simp only[gX,h,if_pos hy]
theorem Yq{f:Fn}(h:f ds S=.ok d S'):gX ys f ds S=.ok d S':=by
 simp only[gX,h]
@[simp] theorem Gzp{β:Type}{x:XD}{g:α->Sto->Out β}:(Out.exc x S:Out α).bind g=.exc x S:=rfl
@[simp] theorem Geg{x:XD}{g:α->Sto->OS}:bindS (Out.exc x S:Out α) ρ g=.exc x ρ S:=rfl
noncomputable def words:List D:=[.str "nogate",.str "dry",.str "full",.str "nospring",.str "nobarge",.str "noroom",.str "uneven",.str "shallow",.str "falls",.str "notext",.str "toomany",.str "noline"]
theorem Grl{m:List D}{bs cs:List Bool}{w:D}(h:S[q]?=some ⟨false,m⟩)(hl:m.length=13)(h12:m[12]?=some (.bl true))(hb:Gde m=some bs)(hc:Gde (DL.Um m none (some 12))=some cs)(hcnt:cs.countP (·==true)=1)(hidx:List.findIdx? (·==true) bs=some j)(hw:words[j]?=some w):
  ∃ S',Qk [.lst q] S=.ok w S'/\Ex S S':=by
 have e1:sa (ls (ac (cn (.str "nogate")) (ac (cn (.str "dry")) (ac (cn (.str "full")) (ac (cn (.str "nospring")) (ac (cn (.str "nobarge")) (ac (cn (.str "noroom")) (ac (cn (.str "uneven")) (ac (cn (.str "shallow")) (ac (cn (.str "falls")) (ac (cn (.str "notext")) (ac (cn (.str "toomany")) (ac (cn (.str "noline")) an))))))))))))) (gn 1) [some (.lst q),none] S=.nx [some (.lst q),some (.lst S.length)] (S++[⟨false,words⟩]):=by simp[words]
 have x1:Ex S (S++[⟨false,words⟩]):=Ex.app
 have w1:(S++[(⟨false,words⟩:Cell)])[S.length]?=some ⟨false,words⟩:=Hc
 have h1:=x1.at h
 generalize S++[(⟨false,words⟩:Cell)]=S1 at *
 have x2:Ex S1 (S1++[⟨false,DL.Um m none (some 12)⟩]):=Ex.app
 have sl:=Gzo (lo:=none) (hi:=some 12) h1
 have c1:(S1++[(⟨false,DL.Um m none (some 12)⟩:Cell)])[S1.length]?=some ⟨false,DL.Um m none (some 12)⟩:=Hc
 have h2:=x2.at h1
 have w2:=x2.at w1
 have ln:Hr [.lst q] S1=.ok (.int 13) S1:=by rw[Gcy h1,hl]; rfl
 generalize hS2:S1++[(⟨false,DL.Um m none (some 12)⟩:Cell)]=S2 at *
 have il:=isL c1
 have ct:Gk9 (.lst S1.length) [.bl true] S2=.ok (.int 1) S2:=by
  simp only[Gk9,c1,hc]
  rw[if_pos trivial,hcnt]
  rfl
 have g12:DL.getD (.lst q) (.int 12) S2=.ok (.bl true) S2:=Jd h2 (Gu (by decide) h12)
 have ix:Gla (.lst q) [.bl true] S2=.ok (.int j) S2:=by
  simp only[Gla,h2,hb,hidx]
  rw[if_pos trivial]
 have iq:=isL h2
 have gw:DL.getD (.lst S.length) (.int j) S2=.ok w S2:=Jd w2 (Gu (by omega) (by rw[AI]; exact hw))
 refine⟨S2,?_,x1.trans x2⟩
 refine(Gq (m:=2) (b:=Qj)).trans ?_
 show fin (Qj [some (.lst q),none] S)=_
 unfold Qj
 refine(Gm e1).trans ?_
 refine(Gm (ρ':=[some (.lst q),some (.lst S.length)]) (S':=S2) ?_).trans ?_
 ·simp[ln,sl,il,ct,g12,Wm]
 ·simp[iq,ix,gw]
noncomputable def mks(y:Str):List D:=ys.map (fun x=>.bl (decide (y∈[x])))++[.bl (decide (y∈ys))]
noncomputable def Kk(y:Str):D:=match (ys.zip words).lookup y with
 | some w=>w
 | none=>.non
noncomputable def Grm(y:Str):List Bool:=ys.map (fun x=>decide (y∈[x]))++[decide (y∈ys)]
theorem Kh(j:Nat)(y:Str)(h:S[q]?=some ⟨false,mks y⟩)(h1:(mks y)[12]?=some (.bl true):=by kernel_rfl!)(h2:Gde (mks y)=some (Grm y):=by kernel_rfl!)(h3:Gde (DL.Um (mks y) none (some 12))=some ((Grm y).take 12):=by kernel_rfl!)(h4:((Grm y).take 12).countP (·==true)=1:=by decide +kernel)(h5:List.findIdx? (·==true) (Grm y)=some j:=by kernel_rfl!)(h6:words[j]?=some (Kk y):=by kernel_rfl!):∃ S',Qk [.lst q] S=.ok (Kk y) S'/\Ex S S':=
 Grl h rfl h1 h2 h3 h4 h5 h6
theorem Gwt(hy:y∈ys)(h:S[q]?=some ⟨false,mks y⟩):∃ S',Qk [.lst q] S=.ok (Kk y) S'/\Ex S S':=by
 simp only[ys,Ad,AS,or_false] at hy
 rcases hy with rfl | rfl | rfl | rfl | rfl | rfl | rfl | rfl | rfl | rfl | rfl | rfl
 ·exact Kh 0 _ h
 ·exact Kh 1 _ h
 ·exact Kh 2 _ h
 ·exact Kh 3 _ h
 ·exact Kh 4 _ h
 ·exact Kh 5 _ h
 ·exact Kh 6 _ h
 ·exact Kh 7 _ h
 ·exact Kh 8 _ h
 ·exact Kh 9 _ h
 ·exact Kh 10 _ h
 ·exact Kh 11 _ h
theorem Gwu{p:Nat}(hp:S[p]?=some ⟨false,[]⟩)(hq:S[q]?=some ⟨false,[]⟩):neD (.lst p) (.lst q) S=.ok (.bl false) S:=by
 have e:∀ i,S[i]?=some ⟨false,[]⟩->toP S 40 (.lst i)=some (.list []):=fun i h=>by
  show(match S[i]? with | some c=>(Jm (toP S 39) c.xs).map PyData.list | none=>none)=_
  rw[h]; rfl
 simp only[neD,e p hp,e q hq]
 rfl
theorem Gj2{S:Sto}{n:Nat}:∀ bs:List Bool,Jm (toP S (n+1)) (bs.map D.bl)=some (bs.map PyData.bool)
 | []=>rfl
 | b::r=>by
  have:=Gj2 (S:=S) (n:=n) r
  rw[Au,Au]
  simp only[Jm,this]
  rfl
theorem Gj3:∀ L:List Bool,PyData.canLayAll0 (L.map .bool)=true
 | []=>rfl
 | b::r=>by simp[PyData.canLayAll0,PyData.canLay0,Gj3 r]
theorem Gj4:∀ L:List Bool,PyData.depthAll (L.map .bool)=0
 | []=>rfl
 | b::r=>by simp[PyData.depthAll,PyData.depth,Gj4 r]
theorem Grn{p:Nat}{bs:List Bool}(hp:S[p]?=some ⟨false,(b::bs).map D.bl⟩)(hq:S[q]?=some ⟨false,[]⟩):neD (.lst p) (.lst q) S=.ok (.bl true) S:=by
 have e1:toP S 40 (.lst p)=some (.list ((b::bs).map .bool)):=by
  show(match S[p]? with | some c=>(Jm (toP S 39) c.xs).map PyData.list | none=>none)=_
  rw[hp]
  show(Jm (toP S 39) ((b::bs).map D.bl)).map PyData.list=_
  rw[Gj2]; rfl
 have e2:toP S 40 (.lst q)=some (.list []):=by
  show(match S[q]? with | some c=>(Jm (toP S 39) c.xs).map PyData.list | none=>none)=_
  rw[hq]; rfl
 simp only[neD,e1,e2]
 rw[if_pos (by simp[SeqAt.shaped,PyData.canLay0,PyData.canLayAll0,Gj3,PyData.depth,PyData.depthAll,Gj4])]
 rfl
theorem Gn6{hh:XD->Sv}{fb:Sv}(h:fb ρ S=.nx ρ' S'):Vi ys hh fb ρ S=.nx ρ' S':=by simp only[Vi,h]
theorem Gj5{hh:XD->Sv}{fb:Sv}{x:XD}(h:fb ρ S=.exc x ρ' S')(hy:x.cls∈ys):Vi ys hh fb ρ S=hh x ρ' S':=by simp only[Vi,h,if_pos hy]
theorem Gwv{i:Nat}{fh:Sv}{x:XD}(h:fh (ρ.set i (some (.exn x.cls x.fld))) S=.nx ρ' S'):hdl i fh x ρ S=.nx (ρ'.set i none) S':=by simp only[hdl,h]
theorem Gn7(y:Str):∃ b bs,mks y=(b::bs).map D.bl:=⟨decide (y∈(["NoGate"]:List Str)),[decide (y∈(["Dry"]:List Str)),decide (y∈(["Full"]:List Str)),decide (y∈(["NoSpring"]:List Str)),decide (y∈(["NoBarge"]:List Str)),decide (y∈(["NoRoom"]:List Str)),decide (y∈(["Uneven"]:List Str)),decide (y∈(["Shallow"]:List Str)),decide (y∈(["Falls"]:List Str)),decide (y∈(["NoText"]:List Str)),decide (y∈(["TooMany"]:List Str)),decide (y∈(["NoLine"]:List Str)),decide (y∈ys)],rfl⟩
noncomputable def gd(u:Bool):D:=.str (if u=true then "up" else "down")
noncomputable def cD(ps:List Pl)(us:List Bool):D:=.tup [.tup (ps.map Pl.toD),.tup (us.map gd)]
inductive Res where
 | no (y:Str) | yes (d:D)
noncomputable def Res.out(r:Res)(S:Sto):Out D:=match r with
 | .no y=>.exc ⟨y,none⟩ S
 | .yes d=>.ok d S
noncomputable def Res.toD:Res->D
 | .no y=>Kk y
 | .yes d=>d
noncomputable def Res.ok:Res->Prop
 | .no y=>y∈ys
 | .yes _=>True
section
variable{ps:List Pl}{us:List Bool}{L R F:List Int}{S:Sto}
theorem cd0:DL.getD (cD ps us) (.int 0) S=.ok (.tup (ps.map Pl.toD)) S:=Hx (Gu (by decide) rfl)
theorem cd1:DL.getD (cD ps us) (.int 1) S=.ok (.tup (us.map gd)) S:=Hx (Gu (by decide) rfl)
theorem st0:DL.getD (stD L R F) (.int 0) S=.ok (.tup (L.map D.int)) S:=Hx (Gu (by decide) rfl)
theorem st1:DL.getD (stD L R F) (.int 1) S=.ok (.tup (R.map D.int)) S:=Hx (Gu (by decide) rfl)
theorem st2:DL.getD (stD L R F) (.int 2) S=.ok (.tup (F.map D.int)) S:=Hx (Gu (by decide) rfl)
theorem Uk{k:Nat}(h:ps[k]?=some p):DL.getD (.tup (ps.map Pl.toD)) (.int k) S=.ok p.toD S:=
 Hx (Gu (by omega) (by rw[AI,Aw,h]; rfl))
theorem Gj6{k:Nat}(h:us[k]?=some u):DL.getD (.tup (us.map gd)) (.int k) S=.ok (gd u) S:=
 Hx (Gu (by omega) (by rw[AI,Aw,h]; rfl))
theorem Gj7:eqD (gd u) (.str "up") S=.ok (.bl u) S:=by
 cases u
 ·show eqD (.str "down") (.str "up") S=_
  rw[Jk (stok _) (stok _)]; rfl
 ·show eqD (.str "up") (.str "up") S=_
  rw[Jk (stok _) (stok _)]; rfl
noncomputable def hiI(u:Bool)(k:Nat):Nat:=if u=true then k+1 else k
noncomputable def loI(u:Bool)(k:Nat):Nat:=if u=true then k else k+1
theorem Gaw{k:Nat}(h:us[k]?=some u):Xh [cD ps us,.int k] S=.ok (.int (hiI u k)) S:=by
 refine(Gq (m:=2) (b:=Xg)).trans ?_
 show fin (Xg [some (cD ps us),some (.int k)] S)=_
 have g:=Gj7 (u:=u) (S:=S)
 cases u<;>simp[Xg,cd1,Gj6 h,c_UP,g,hiI]
theorem Gc0{k:Nat}(h:us[k]?=some u):Zv [cD ps us,.int k] S=.ok (.int (loI u k)) S:=by
 refine(Gq (m:=2) (b:=Zu)).trans ?_
 show fin (Zu [some (cD ps us),some (.int k)] S)=_
 have g:=Gj7 (u:=u) (S:=S)
 cases u<;>simp[Zu,cd1,Gj6 h,c_UP,g,loI]
theorem Jr{x y:D}(e:eqD x y S=.ok (.bl b) S):neD x y S=.ok (.bl (!b)) S:=by
 unfold eqD at e
 unfold neD
 split at e
 ·rename_i P Q z1 z2
  by_cases hs:(SeqAt.shaped P&&SeqAt.shaped Q)=true
  ·rw[if_pos hs] at e
   have:PyData.eqv P Q=b:=by injection e with e _; injection e
   rw[if_pos hs,this]
  ·rw[if_neg hs] at e; cases e
 ·cases e
theorem Gn8(h:p.ok):neD p.toD (.tup [.str "end"]) S=.ok (.bl (!p.isE)) S:=Jr (Gfw h)
theorem Glo{l:Int}(h:p.ok):Gcj [p.toD,.int l] S=.ok (.bl (!p.isE&&decide (l=0))) S:=by
 refine(Gq (m:=2) (b:=Xf)).trans ?_
 show fin (Xf [some p.toD,some (.int l)] S)=_
 have n:=Gn8 (S:=S) h
 cases z:p.isE<;>rw[z] at n<;>simp[Xf,c_END,n]
theorem Gc1{l:Int}(h:p.ok):Ya [p.toD,.int l] S=.ok (.bl (!p.isE&&decide (wat p<=l))) S:=by
 refine(Gq (m:=2) (b:=Vk)).trans ?_
 show fin (Vk [some p.toD,some (.int l)] S)=_
 have n:=Gn8 (S:=S) h
 have wa:=Gn5 (S:=S) h
 cases z:p.isE<;>rw[z] at n<;>simp[Vk,c_END,n,wa]
noncomputable def spr:Pl->Bool
 | .p _ _ _ (.int _)=>true
 | _=>false
theorem Glp(h:p.ok):Vu [p.toD] S=.ok (.bl (spr p)) S:=by
 refine(Gq (m:=1) (b:=Hv)).trans ?_
 show fin (Hv [some p.toD] S)=_
 cases p with
 | e=>
  have g:DL.getD (Pl.toD .e) (.int 0) S=.ok (.str "end") S:=Hx (Gu (by decide) rfl)
  simp[Hv,g,s2,spr]
 | c=>
  have g:DL.getD (Pl.toD .c) (.int 0) S=.ok (.str "chamber") S:=Hx (Gu (by decide) rfl)
  simp[Hv,g,s4,spr]
 | p br de ro pr=>
  have g:DL.getD (Pl.toD (.p br de ro pr)) (.int 0) S=.ok (.str "pound") S:=Hx (Gu (by decide) rfl)
  have g4:DL.getD (Pl.toD (.p br de ro pr)) (.int 4) S=.ok pr S:=Hx (Gu (by decide) rfl)
  obtain⟨_,_,_,_,_,_,hpr⟩:=h
  rcases hpr with rfl | ⟨i,rfl,_⟩
  ·simp[Hv,g,g4,s6,spr,Zg]
  ·simp[Hv,g,g4,s6,spr,Zg]
theorem Gj8{n:Int}:Qr [cD ps us,.int n] S=if 0<=n/\n<us.length then .ok .non S else .exc ⟨"NoGate",none⟩ S:=by
 refine(Gq (m:=2) (b:=Je)).trans ?_
 show fin (Je [some (cD ps us),some (.int n)] S)=_
 by_cases h1:0<=n
 ·by_cases h2:n<us.length
  ·rw[if_pos ⟨h1,h2⟩]
   simp[Je,cd1,h1,h2,fin]
  ·rw[if_neg (fun z=>h2 z.2)]
   simp[Je,cd1,h1,h2,fin,srs]
 ·rw[if_neg (fun z=>h1 z.1)]
  simp[Je,cd1,h1,fin,srs]
end
noncomputable def hol:Pl->Int->Bool
 | .e,_=>true
 | .c,b=>decide (b<=1)
 | .p _ _ ro _,b=>decide (b<=ro)
theorem Gn9{b:Int}(h:p.ok):Yb [p.toD,.int b] S=.ok (.bl (hol p b)) S:=by
 have e1:=fun S=>Gfw (S:=S) h
 have e2:=fun S=>Gbm (S:=S) h
 cases p with
 | e=>simp[Yb,fnB,Zt,c_END,c_CHAMBER,e1,Pl.isE,hol]
 | c=>simp[Yb,fnB,Zt,c_END,c_CHAMBER,e1,e2,Pl.isE,Pl.isC,hol]
 | p br de ro pr=>
  have g:∀ S,DL.getD (Pl.toD (.p br de ro pr)) (.int 3) S=.ok (.int ro) S:=fun S=>p3e
  simp[Yb,fnB,Zt,c_END,c_CHAMBER,e1,e2,Pl.isE,Pl.isC,hol,g]
noncomputable def wd(b:Bool):D:=.str (if b=true then "right" else "left")
noncomputable def sel(b:Bool)(R F:List Int):List Int:=if b=true then R else F
theorem Ye:eqD (wd b) (.str "right") S=.ok (.bl b) S:=by
 cases b
 ·show eqD (.str "left") (.str "right") S=_
  rw[Jk (stok _) (stok _)]; rfl
 ·show eqD (.str "right") (.str "right") S=_
  rw[Jk (stok _) (stok _)]; rfl
theorem Goa{R F:List Int}:Ug [stD L R F,wd b] S=.ok (.tup ((sel b R F).map D.int)) S:=by
 refine(Gq (m:=2) (b:=Qf)).trans ?_
 show fin (Qf [some (stD L R F),some (wd b)] S)=_
 have w:=Ye (S:=S) (b:=b)
 have g1:DL.getD (stD L R F) (.int 1) S=.ok (.tup (R.map D.int)) S:=p1e
 have g2:DL.getD (stD L R F) (.int 2) S=.ok (.tup (F.map D.int)) S:=Hx (Gu (by decide) rfl)
 cases b<;>simp[Qf,w,g1,g2,sel]
structure Rw(S:Sto)(q x y z:Nat)(A B C:List D):Prop where
 q0:S[q]?=some ⟨false,[.lst x,.lst y,.lst z]⟩
 q1:S[x]?=some ⟨false,A⟩
 q2:S[y]?=some ⟨false,B⟩
 q3:S[z]?=some ⟨false,C⟩
theorem Gob{A B C:List D}{f:Ev D}(hf:f ρ S=.ok (.tup [.tup A,.tup B,.tup C]) S):∃ S',cmp (isrc f) [none] (gn 0) ttrue (b1 Wo (ac (vr 0) an)) ρ S=.ok (.lst S.length) S'/\Rw S' S.length (S.length+1) (S.length+2) (S.length+3) A B C/\Ex S S':=by
 have w:∀ (l:Sto) (j:Nat),(S++l)[S.length+j]?=l[j]?:=fun l j=>by rw[AW (by omega)]; congr 1; omega
 have w0:∀ l:Sto,(S++l)[S.length]?=l[0]?:=fun l=>w l 0
 have st:∀ (l:Sto) (c:Cell),(S++l).set S.length c=S++l.set 0 c:=fun l c=>by rw[List.set_append_right _ _ (Aa _),Nat.sub_self]
 refine⟨S++[⟨false,[.lst (S.length+1),.lst (S.length+2),.lst (S.length+3)]⟩,⟨false,A⟩,⟨false,B⟩,⟨false,C⟩],?_,⟨w0 _,w _ 1,w _ 2,w _ 3⟩,⟨by simp,fun i hi=>by rw[Ar hi]⟩⟩
 simp[cmp,hf,Gd3,Ki,cbody,ttrue,Gav,w0,st,pkS]
theorem Rw.ex{x y z:Nat}{A B C:List D}(h:Rw S q x y z A B C)(e:Ex S S'):Rw S' q x y z A B C:=⟨e.at h.q0,e.at h.q1,e.at h.q2,e.at h.q3⟩
theorem Gc2:("NoGate":Str)∈ys/\("Dry":Str)∈ys/\("Full":Str)∈ys/\("NoSpring":Str)∈ys:=by decide +kernel
noncomputable def adw(p:Pl)(L:List Int)(i:Nat)(l d:Int):List Int:=if p.isE=true then L else L.set i (l+d)
@[simp] theorem Hcm{g:Tgs}:gt g n (.tup ds) ρ=if ds.length=n then g ds ρ else none:=rfl
@[simp] theorem Hcn{g:Tg}{c:Tgs}:gcons g c (d::ds) ρ=(g d ρ).bind fun ρ'=>c ds ρ':=rfl
@[simp] theorem Hco:gnil [] ρ=some ρ:=rfl
section
variable{ps:List Pl}{us:List Bool}{L R F:List Int}{S:Sto}
theorem Gro{k:Nat}(hu:us[k]?=some u)(h1:ps[hiI u k]?=some pH)(h2:ps[loI u k]?=some pL)(h3:L[hiI u k]?=some lH)(h4:L[loI u k]?=some lL)(ok1:pH.ok)(ok2:pL.ok):
  Qh [cD ps us,stD L R F,.int k] S=if(!pH.isE&&decide (lH=0))=true then .exc ⟨"Dry",none⟩ S else if(!pL.isE&&decide (wat pL<=lL))=true then .exc ⟨"Full",none⟩ S else .ok .non S:=by
 have hk:k<us.length:=(Ab.mp hu).1
 have cg:=Gj8 (ps:=ps) (us:=us) (n:=(k:Int)) (S:=S)
 rw[if_pos ⟨by omega,by omega⟩] at cg
 have cg:=Yq cg
 have hi:=Gaw (ps:=ps) (S:=S) hu
 have lo:=Gc0 (ps:=ps) (S:=S) hu
 have dry:=Glo (l:=lH) (S:=S) ok1
 have ful:=Gc1 (l:=lL) (S:=S) ok2
 have g1:=Uk (S:=S) h1
 have g2:=Uk (S:=S) h2
 have g3:=Qu (S:=S) h3
 have g4:=Qu (S:=S) h4
 have c0:=cd0 (ps:=ps) (us:=us) (S:=S)
 have s0:=st0 (L:=L) (R:=R) (F:=F) (S:=S)
 unfold Qh
 rw[Gq]
 generalize cD ps us=cd at *
 generalize stD L R F=sd at *
 generalize pH.toD=pa at *
 generalize pL.toD=pb at *
 generalize (!pH.isE&&decide (lH=0))=b1 at *
 generalize (!pL.isE&&decide (wat pL<=lL))=b2 at *
 cases b1<;>cases b2<;>simp[Uh,cg,spar,c0,s0,hi,lo,g1,g2,g3,g4,dry,ful,Wm,srs,fin]
theorem Gs7{i:Nat}{l d:Int}(hp:ps[i]?=some p)(hl:L[i]?=some l)(ok:p.ok)(hL:L.length<=1000):Ko [cD ps us,.tup (L.map D.int),.int i,.int d] S=.ok (.tup ((adw p L i l d).map D.int)) S:=by
 have e:=Gfw (S:=S) ok
 have mo:=Gbo (S:=S) (m:=d) hl hL
 have g:=Uk (S:=S) hp
 have c0:=cd0 (ps:=ps) (us:=us) (S:=S)
 unfold adw Ko
 rw[Gq]
 cases z:p.isE<;>rw[z] at e<;>simp[Vz,c0,g,c_END,e,mo,-List.map_set]
theorem Grp{i:Nat}{l d:Int}:(adw p L i l d).length=L.length:=by unfold adw; split<;>simp
theorem Giu{i:Nat}{l d:Int}(h:i≠j):(adw p L i l d)[j]?=L[j]?:=by
 unfold adw
 split
 ·rfl
 ·exact Am h
theorem Goc{k:Nat}:hiI u k≠loI u k:=by cases u<;>simp[hiI,loI]
theorem Gzq{k:Nat}(hu:us[k]?=some u)(h1:ps[hiI u k]?=some pH)(h2:ps[loI u k]?=some pL)(h3:L[hiI u k]?=some lH)(h4:L[loI u k]?=some lL)(ok1:pH.ok)(ok2:pL.ok)(hL:L.length<=1000):
  Wa [cD ps us,stD L R F,.int k] S=.ok (stD (adw pL (adw pH L (hiI u k) lH (-1)) (loI u k) lL 1) R F) S:=by
 have hi:=Gaw (ps:=ps) (S:=S) hu
 have lo:=Gc0 (ps:=ps) (S:=S) hu
 have w1:=Gs7 (us:=us) (d := -1) (S:=S) h1 h3 ok1 hL
 have w2:=Gs7 (us:=us) (L:=adw pH L (hiI u k) lH (-1)) (d:=1) (S:=S) h2 ((Giu Goc).trans h4) ok2 (by rw[Grp]; exact hL)
 unfold Wa
 rw[Gq]
 simp[Yz,stD,hi,w1,lo,w2]
theorem Gww:eqD (.str "let") (.str "let") S=.ok (.bl true) S:=by rw[Jk (stok _) (stok _)]; rfl
theorem Gwx:eqD (.str "feed") (.str "let") S=.ok (.bl false) S:=by rw[Jk (stok _) (stok _)]; rfl
theorem Grq:eqD (.str "feed") (.str "feed") S=.ok (.bl true) S:=by rw[Jk (stok _) (stok _)]; rfl
theorem Gzr:eqD (.str "let") (.str "feed") S=.ok (.bl false) S:=by rw[Jk (stok _) (stok _)]; rfl
noncomputable def Ghi(u:Bool)(k:Nat)(pH pL:Pl)(lH lL:Int)(L R F:List Int):Res:=
 if(!pH.isE&&decide (lH=0))=true then .no "Dry" else if(!pL.isE&&decide (wat pL<=lL))=true then .no "Full" else .yes (.tup [stD (adw pL (adw pH L (hiI u k) lH (-1)) (loI u k) lL 1) R F,.int 0,.int 0])
theorem dd_let{k:Nat}(hu:us[k]?=some u)(h1:ps[hiI u k]?=some pH)(h2:ps[loI u k]?=some pL)(h3:L[hiI u k]?=some lH)(h4:L[loI u k]?=some lL)(ok1:pH.ok)(ok2:pL.ok)(hL:L.length<=1000):
  Gj [cD ps us,stD L R F,.tup [.str "let",.int k]] S=(Ghi u k pH pL lH lL L R F).out S:=by
 have cl':=Gro (R:=R) (F:=F) (S:=S) hu h1 h2 h3 h4 ok1 ok2
 have ld:=Gzq (R:=R) (F:=F) (S:=S) hu h1 h2 h3 h4 ok1 ok2 hL
 unfold Gj Ghi
 rw[Gq]
 generalize cD ps us=cd at *
 generalize stD L R F=sd at *
 generalize (!pH.isE&&decide (lH=0))=b1 at *
 generalize (!pL.isE&&decide (wat pL<=lL))=b2 at *
 cases b1<;>cases b2<;>simp[Hk,Gww,gX,cl',Gc2,ld,fin,Res.out]
theorem dd_nogate{n:Int}(h:¬ (0<=n/\n<us.length)):Gj [cD ps us,stD L R F,.tup [.str "let",.int n]] S=.exc ⟨"NoGate",none⟩ S:=by
 have cg:=Gj8 (ps:=ps) (us:=us) (n:=n) (S:=S)
 rw[if_neg h] at cg
 simp[Gj,Gq,Hk,Gww,gX,Qh,Uh,cg,Gc2,fin]
noncomputable def Vm(k:Nat)(p:Pl)(l:Int)(L R F:List Int):Res:=match p with
 | .p br _ _ (.int i)=>if br<=l then .no "Full" else .yes (.tup [stD (L.set k (l+1)) R F,.int i,.int 0])
 | _=>.no "NoSpring"
theorem Gs8{br de ro:Int}{pr:D}:DL.getD (Pl.toD (.p br de ro pr)) (.int 4) S=.ok pr S:=Hx (Gu (by decide) rfl)
theorem dd_feed{k:Nat}{l:Int}(hp:ps[k]?=some p)(hl:L[k]?=some l)(ok:p.ok)(hL:L.length<=1000):Gj [cD ps us,stD L R F,.tup [.str "feed",.int k]] S=(Vm k p l L R F).out S:=by
 have hk:k<ps.length:=(Ab.mp hp).1
 have sp:=Glp (S:=S) ok
 have fu:=Gc1 (l:=l) (S:=S) ok
 have g1:=Uk (S:=S) hp
 have g2:=Qu (S:=S) hl
 have c0:=cd0 (ps:=ps) (us:=us) (S:=S)
 have mo:=Gbo (S:=S) (m:=1) hl hL
 have cf:Qs [cD ps us,stD L R F,.int k] S=if spr p=true then(if(!p.isE&&decide (wat p<=l))=true then .exc ⟨"Full",none⟩ S else .ok .non S) else .exc ⟨"NoSpring",none⟩ S:=by
  have s0:=st0 (L:=L) (R:=R) (F:=F) (S:=S)
  unfold Qs
  rw[Gq]
  generalize cD ps us=cd at *
  generalize stD L R F=sd at *
  generalize p.toD=pd at *
  generalize (!p.isE&&decide (wat p<=l))=b2 at *
  generalize spr p=b1 at *
  cases b1<;>cases b2<;>simp[Vx,spar,c0,s0,g1,g2,sp,fu,Wm,srs,fin,hk]
 have no:spr p=false->Gj [cD ps us,stD L R F,.tup [.str "feed",.int k]] S=.exc ⟨"NoSpring",none⟩ S:=fun z=>by
  rw[z] at cf
  simp[Gj,Gq,Hk,Gwx,Grq,gX,cf,Gc2,fin]
 cases p with
 | e=>exact no rfl
 | c=>exact no rfl
 | p br de ro pr=>
  rcases ok.2.2.2.2.2.2 with rfl | ⟨i,rfl,_⟩
  ·exact no rfl
  ·have pp:=Gs8 (br:=br) (de:=de) (ro:=ro) (pr:=.int i) (S:=S)
   generalize Pl.toD (.p br de ro (.int i))=pd at *
   by_cases c:br<=l
   ·simp[spr,Pl.isE,wat,c] at cf
    simp[Gj,Gq,Hk,Gwx,Grq,gX,cf,Gc2,fin,Vm,c,Res.out]
   ·simp[spr,Pl.isE,wat,c] at cf
    unfold stD at cf
    simp[Gj,Gq,Hk,Gwx,Grq,gX,cf,fin,Vm,c,Res.out,stD,mo,g1,c0,pp,-List.map_set]
end
theorem God:("NoGate":Str)∈ys/\("NoBarge":Str)∈ys/\("NoRoom":Str)∈ys/\("Uneven":Str)∈ys/\("Shallow":Str)∈ys:=by decide +kernel
noncomputable def stI(b:Bool)(k:Nat):Nat:=if b=true then k else k+1
noncomputable def glI(b:Bool)(k:Nat):Nat:=if b=true then k+1 else k
noncomputable abbrev dM(b:Bool)(n:Int):D:=.tup [wd b,.int n]
noncomputable def shal:Pl->Int->Bool
 | .p _ de _ _,l=>decide (l<de)
 | _,_=>false
section
variable{ps:List Pl}{us:List Bool}{L R F:List Int}{S:Sto}{b:Bool}
theorem Goe:eqD (wd b) (.str "let") S=.ok (.bl false) S:=by cases b<;>exact(Jk (stok _) (stok _)).trans rfl
theorem Gfz:eqD (wd b) (.str "feed") S=.ok (.bl false) S:=by cases b<;>exact(Jk (stok _) (stok _)).trans rfl
theorem Gwy:eqD (wd b) (.str "left") S=.ok (.bl (!b)) S:=by cases b<;>exact(Jk (stok _) (stok _)).trans rfl
theorem Ghj{k:Nat}:Kb [dM b k] S=.ok (.int (stI b k:Nat)) S:=by
 have w:=Ye (b:=b) (S:=S)
 cases b<;>simp[Kb,Gq,Uw,w,stI]
theorem Gax{k:Nat}:Hz [dM b k] S=.ok (.int (glI b k:Nat)) S:=by
 have w:=Ye (b:=b) (S:=S)
 cases b<;>simp[Hz,Gq,Qz,w,glI]
theorem Gof{k:Nat}:stI b k≠glI b k:=by cases b<;>simp[stI,glI]
theorem Gj9{l:Int}:Kn [p.toD,.int l] S=.ok (.bl (shal p l)) S:=by
 have g:∀ {x:D} {r:List D},DL.getD (.tup (x::r)) (.int 0) S=.ok x S:=Hx (Gu (by decide) rfl)
 have g2:∀ {x y z:D} {r:List D},DL.getD (.tup (x::y::z::r)) (.int 2) S=.ok z S:=Hx (Gu (by decide) rfl)
 cases p<;>simp[Kn,Gq,Vv,Pl.toD,g,g2,s2,s4,s6,shal]
theorem Grr{k:Nat}(hu:us[k]?=some u)(h1:ps[hiI u k]?=some pH)(h2:ps[loI u k]?=some pL)(h3:L[hiI u k]?=some lH)(h4:L[loI u k]?=some lL)(ok1:pH.ok)(ok2:pL.ok):
  Qc [cD ps us,.tup (L.map D.int),.int k] S=if(pH.isC&&decide (lH=1))=true then .exc ⟨"Uneven",none⟩ S else if(pL.isC&&decide (lL=0))=true then .exc ⟨"Uneven",none⟩ S else if(shal pH lH||shal pL lL)=true then .exc ⟨"Shallow",none⟩ S else .ok .non S:=by
 have hi:=Gaw (ps:=ps) (S:=S) hu
 have lo:=Gc0 (ps:=ps) (S:=S) hu
 have g1:=Uk (S:=S) h1
 have g2:=Uk (S:=S) h2
 have g3:=Qu (S:=S) h3
 have g4:=Qu (S:=S) h4
 have c1:=Gbm (S:=S) ok1
 have c2:=Gbm (S:=S) ok2
 have sh1:=Gj9 (p:=pH) (l:=lH) (S:=S)
 have sh2:=Gj9 (p:=pL) (l:=lL) (S:=S)
 have c0:=cd0 (ps:=ps) (us:=us) (S:=S)
 unfold Qc
 rw[Gq]
 generalize cD ps us=cd at *
 generalize pH.toD=pa at *
 generalize pL.toD=pb at *
 generalize D.tup (L.map D.int)=ld at *
 generalize shal pH lH=x1 at *
 generalize shal pL lL=x2 at *
 generalize pH.isC=b1 at *
 generalize pL.isC=b2 at *
 by_cases e1:lH=1<;>by_cases e2:lL=0<;>(try simp only[e1] at sh1)<;>(try simp only[e2] at sh2)<;>cases b1<;>cases b2<;>cases x1<;>cases x2<;>simp[Uv,c0,hi,lo,g1,g2,g3,g4,c1,c2,c_CHAMBER,sh1,sh2,Wm,srs,fin,e1,e2]
structure Mv(ps:List Pl)(us:List Bool)(L R F:List Int)(b:Bool)(k:Nat)(u:Bool)(pH pL pG:Pl)(lH lL a g r1 f1:Int):Prop where
 hu:us[k]?=some u
 h1:ps[hiI u k]?=some pH
 h2:ps[loI u k]?=some pL
 h3:L[hiI u k]?=some lH
 h4:L[loI u k]?=some lL
 ok1:pH.ok
 ok2:pL.ok
 hG:ps[glI b k]?=some pG
 okG:pG.ok
 ha:(sel b R F)[stI b k]?=some a
 hg:(sel b R F)[glI b k]?=some g
 hr:R[glI b k]?=some r1
 hf:F[glI b k]?=some f1
 hn:us.length+1=ps.length
 lM:(sel b R F).length<=1000
noncomputable def Jx(b:Bool)(R F:List Int)(k:Nat)(a g:Int):List Int:=((sel b R F).set (stI b k) (a + -1)).set (glI b k) (g+1)
noncomputable def Gog(b:Bool)(L R F:List Int)(k:Nat)(a g:Int):D:=stD L (if b=true then Jx b R F k a g else R) (if b=true then F else Jx b R F k a g)
noncomputable def Gf0(pH pL pG:Pl)(lH lL a r1 f1:Int):Option Str:=
 if a=0 then some "NoBarge" else if(hol pG (r1+f1+1))=false then some "NoRoom" else if(pH.isC&&decide (lH=1))=true then some "Uneven" else if(pL.isC&&decide (lL=0))=true then some "Uneven" else if(shal pH lH||shal pL lL)=true then some "Shallow" else none
noncomputable def Gc3(m:Nat)(b:Bool)(k:Nat)(pH pL pG:Pl)(lH lL a g r1 f1:Int)(L R F:List Int):Res:=match Gf0 pH pL pG lH lL a r1 f1 with
 | some y=>.no y
 | none=>.yes (.tup [Gog b L R F k a g,.int 0,.int (if(glI b k:Int)=(if b=true then(m:Int)-1 else 0) then 1 else 0)])
variable{k:Nat}{u:Bool}{pH pL pG:Pl}{lH lL a g r1 f1:Int}
theorem Gka(h:Gf0 pH pL pG lH lL a r1 f1=some y):y∈ys:=by
 unfold Gf0 at h
 repeat' split at h
 all_goals cases h<;>simp[God]
theorem Goh(v:Mv ps us L R F b k u pH pL pG lH lL a g r1 f1):Ju [cD ps us,stD L R F,dM b k] S=match Gf0 pH pL pG lH lL a r1 f1 with
  | some y=>.exc ⟨y,none⟩ S
  | none=>.ok .non S:=by
 have hk:k<us.length:=(Ab.mp v.hu).1
 have cg:=Gj8 (ps:=ps) (us:=us) (n:=(k:Int)) (S:=S)
 rw[if_pos ⟨by omega,by omega⟩] at cg
 have bo:=Goa (b:=b) (L:=L) (R:=R) (F:=F) (S:=S)
 have ah:=Ghj (b:=b) (k:=k) (S:=S)
 have be:=Gax (b:=b) (k:=k) (S:=S)
 have ga:=Qu (S:=S) v.ha
 have gG:=Uk (S:=S) v.hG
 have gr:=Qu (S:=S) v.hr
 have gf:=Qu (S:=S) v.hf
 have ho:=Gn9 (b:=r1+f1+1) (S:=S) v.okG
 have cw:=Grr (S:=S) v.hu v.h1 v.h2 v.h3 v.h4 v.ok1 v.ok2
 have c0:=cd0 (ps:=ps) (us:=us) (S:=S)
 have s0:=st0 (L:=L) (R:=R) (F:=F) (S:=S)
 have s1:=st1 (L:=L) (R:=R) (F:=F) (S:=S)
 have s2:=st2 (L:=L) (R:=R) (F:=F) (S:=S)
 unfold Ju Gf0
 rw[Gq]
 generalize cD ps us=cd at *
 generalize stD L R F=sd at *
 generalize pG.toD=pd at *
 generalize hol pG (r1+f1+1)=b3 at *
 generalize (pH.isC&&decide (lH=1))=b4 at *
 generalize (pL.isC&&decide (lL=0))=b5 at *
 generalize (shal pH lH||shal pL lL)=b6 at *
 have m1:=God
 by_cases e1:a=0
 ·simp[Jt,gX,cg,bo,ah,ga,e1,srs,fin]
 ·cases b3
  ·simp[Jt,gX,cg,bo,ah,ga,e1,srs,fin,be,c0,gG,s1,s2,gr,gf,ho,Wm]
  ·cases b4<;>cases b5<;>cases b6<;>simp[Jt,gX,cg,bo,ah,ga,e1,srs,fin,be,c0,gG,s0,s1,s2,gr,gf,ho,Wm,cw,God]
theorem Goi(v:Mv ps us L R F b k u pH pL pG lH lL a g r1 f1):Gbl [stD L R F,dM b k] S=.ok (Gog b L R F k a g) S:=by
 have bo:=Goa (b:=b) (L:=L) (R:=R) (F:=F) (S:=S)
 have ah:=Ghj (b:=b) (k:=k) (S:=S)
 have be:=Gax (b:=b) (k:=k) (S:=S)
 have m1:=Gbo (S:=S) (m := -1) v.ha v.lM
 have hg':((sel b R F).set (stI b k) (a + -1))[glI b k]?=some g:=(Am Gof).trans v.hg
 have m2:=Gbo (S:=S) (m:=1) hg' (by rw[Bi]; exact v.lM)
 have wb:Qb [stD L R F,wd b,.tup ((Jx b R F k a g).map D.int)] S=.ok (Gog b L R F k a g) S:=by
  have w:=Ye (S:=S) (b:=b)
  cases b<;>simp[Qb,Gq,Ut,w,Gog,stD]
 have d0:DL.getD (dM b k) (.int 0) S=.ok (wd b) S:=Hx (Gu (by decide) rfl)
 unfold Jx at wb
 generalize stD L R F=sd at *
 simp[Gbl,Gq,Gfi,d0,bo,ah,m1,m2,be,wb,-List.map_set]
theorem Grs:Kq [cD ps us,dM b k] S=.ok (.bl (decide ((glI b k:Int)=(if b=true then(ps.length:Int)-1 else 0)))) S:=by
 have be:=Gax (b:=b) (k:=k) (S:=S)
 have d0:DL.getD (dM b k) (.int 0) S=.ok (wd b) S:=Hx (Gu (by decide) rfl)
 have w:=Ye (S:=S) (b:=b)
 cases b<;>simp[Kq,Gq,Ua,be,d0,w,cd0]
theorem dd_move(v:Mv ps us L R F b k u pH pL pG lH lL a g r1 f1):Gj [cD ps us,stD L R F,dM b k] S=(Gc3 ps.length b k pH pL pG lH lL a g r1 f1 L R F).out S:=by
 have cm:=Goh (S:=S) v
 have mo:=Goi (S:=S) v
 have la:=Grs (ps:=ps) (us:=us) (b:=b) (k:=k) (S:=S)
 have wl:=Goe (b:=b) (S:=S)
 have wf:=Gfz (b:=b) (S:=S)
 unfold Gc3 Gj
 rw[Gq]
 generalize cD ps us=cd at *
 generalize stD L R F=sd at *
 cases z:Gf0 pH pL pG lH lL a r1 f1 with
 | some y=>
  rw[z] at cm
  simp[Hk,wl,wf,Xo cm (Gka z),fin,Res.out]
 | none=>
  rw[z] at cm
  by_cases c:(glI b k:Int)=(if b=true then(ps.length:Int)-1 else 0)
  ·rw[decide_eq_true c] at la
   simp[Hk,wl,wf,Yq cm,fin,Res.out,mo,la,Wm,c]
  ·rw[decide_eq_false c] at la
   simp[Hk,wl,wf,Yq cm,fin,Res.out,mo,la,Wm,c]
theorem dd_mnogate{n:Int}(h:¬ (0<=n/\n<us.length)):Gj [cD ps us,stD L R F,dM b n] S=.exc ⟨"NoGate",none⟩ S:=by
 have cg:=Gj8 (ps:=ps) (us:=us) (n:=n) (S:=S)
 rw[if_neg h] at cg
 have cg:=Xo cg God.1
 have wl:=Goe (b:=b) (S:=S)
 have wf:=Gfz (b:=b) (S:=S)
 have cm:Ju [cD ps us,stD L R F,dM b n] S=.exc ⟨"NoGate",none⟩ S:=by
  simp[Ju,Gq,Jt,cg,fin]
 simp[Gj,Gq,Hk,wl,wf,Xo cm God.1,fin]
end
noncomputable def pn:Pl->Str
 | .e=>"end"
 | .c=>"chamber"
 | .p _ _ _ _=>"pound"
noncomputable def isP:Pl->Bool
 | .p _ _ _ _=>true
 | _=>false
section
variable{ps:List Pl}{us:List Bool}{L R F:List Int}{S:Sto}
theorem pl0:DL.getD p.toD (.int 0) S=.ok (.str (pn p)) S:=by cases p<;>exact Hx (Gu (by decide) rfl)
theorem Goj:neD (.str (pn p)) (.str "pound") S=.ok (.bl (!isP p)) S:=by
 cases p
 ·exact Jr s2
 ·exact Jr s4
 ·exact Jr s6
theorem Gkb:neD (.str (pn p)) (.str "end") S=.ok (.bl (!p.isE)) S:=by
 cases p
 ·exact Jr s7
 ·exact Jr s8
 ·exact Jr s9
noncomputable abbrev dL(w:Str)(n:Int):D:=.tup [.str w,.int n]
theorem Ky{i:Nat}{l:Int}(h:S[q]?=some ⟨false,M.map D.int⟩)(hl:M[i]?=some l):DL.getD (.lst q) (.int i) S=.ok (.int l) S:=Jd h (Gu (by omega) (by rw[AI,Aw,hl]; rfl))
theorem lst_set{i:Nat}{l:Int}(h:S[q]?=some ⟨false,M.map D.int⟩)(hl:M[i]?=some l):Vg (.lst q) (.int i) (.int v) S=some (S.set q ⟨false,(M.set i v).map D.int⟩):=by
 have hi:i<M.length:=(Ab.mp hl).1
 rw[Gjw h (by omega) (by simp; omega),AI,List.map_set]
theorem Gf1:Kk "NoSpring"=.str "nospring"/\Kk "Full"=.str "full"/\Kk "Dry"=.str "dry"/\Kk "NoGate"=.str "nogate":=⟨rfl,rfl,rfl,rfl⟩
theorem Gc4{i:Nat}{l d:Int}(hq:S[q]?=some ⟨false,M.map D.int⟩)(hl:M[i]?=some l)(hv:v=l+d:=by rfl):∃ S2,(p.isE=true->S2=S)/\(p.isE=false->Vg (.lst q) (.int i) (.int v) S=some S2)/\S2[q]?=some ⟨false,(adw p M i l d).map D.int⟩/\∀ {T:Sto},T.length<=q->Ex T S->Ex T S2:=by
 subst hv
 unfold adw
 cases p.isE
 ·exact⟨_,nofun,fun _=>lst_set hq hl,Av (Ab.mp hq).1,fun h x=>x.setq h⟩
 ·exact⟨S,fun _=>rfl,nofun,hq,fun _ x=>x⟩
theorem Gok{k:Nat}{l:Int}(hp:ps[k]?=some p)(hl:L[k]?=some l)(ok:p.ok)(hw:l<=wat p):∃ S',Hg [cD ps us,stD L R F,dL "feed" k] S=.ok (Vm k p l L R F).toD S'/\Ex S S':=by
 have hk:(k:Int)<ps.length:=by have:=(Ab.mp hp).1; omega
 have h1:¬ ((ps.length:Int)<=k)/\¬ (k:Int)<0:=by omega
 have q0:=Hc (S:=S) (c:=⟨false,L.map D.int⟩)
 have x1:=Ex.app (S:=S) (c:=⟨false,L.map D.int⟩)
 have li:=Gav (l:=L.map D.int) (S:=S)
 generalize S++[(⟨false,L.map D.int⟩:Cell)]=S1 at *
 obtain⟨S2,_,st,q2,x2⟩:=Gc4 (p:=p) (d:=1) q0 hl
 have gl:=Ky q0 hl
 have tu:=Ghh q2
 have s0:=st0 (L:=L) (R:=R) (F:=F) (S:=S)
 have s1:=fun S=>st1 (L:=L) (R:=R) (F:=F) (S:=S)
 have s2:=fun S=>st2 (L:=L) (R:=R) (F:=F) (S:=S)
 have g1:=fun S=>Uk (ps:=ps) (S:=S) hp
 have n:=fun S=>Goj (p:=p) (S:=S)
 have g0:=fun S=>pl0 (p:=p) (S:=S)
 generalize stD L R F=sd at *
 simp[Hg,Gq,Kj,cD,s0,li,Grq,h1,g1,g0,n]
 cases p with
 | e=>exact⟨S1,by simp[isP,Vm,Res.toD,Gf1],x1⟩
 | c=>exact⟨S1,by simp[isP,Vm,Res.toD,Gf1],x1⟩
 | p br de ro pr=>
  have p4:=fun S=>Gs8 (br:=br) (de:=de) (ro:=ro) (pr:=pr) (S:=S)
  have p1:∀ S,DL.getD (Pl.toD (.p br de ro pr)) (.int 1) S=.ok (.int br) S:=fun S=>Hx (Gu (by decide) rfl)
  have hw':l<=br:=hw
  simp[isP]
  rcases ok.2.2.2.2.2.2 with rfl | ⟨i,rfl,_⟩
  ·exact⟨S1,by simp[g1,p4,Vm,Res.toD,Gf1,show ∀ S,Gmo .non .non S=.ok (.bl true) S from fun _=>rfl],x1⟩
  ·generalize Pl.toD (.p br de ro (.int i))=pd at *
   have ii:∀ S,Gmo (.int i) .non S=.ok (.bl false) S:=fun _=>rfl
   simp[g1,p4,p1,ii,gl]
   by_cases c:l=br
   ·subst c
    exact⟨S1,by simp[Vm,Res.toD,Gf1],x1⟩
   ·have c':¬ br<=l:=by omega
    exact⟨S2,by simp[g1,gl,s1,s2,Vm,Res.toD,p4,c,c',st rfl,tu,stD,adw,Pl.isE,-List.map_set],x2 (Aa _) x1⟩
theorem Hbh:neD (.str "let") (.str "let") S=.ok (.bl false) S:=Jr Gww
theorem due_let_no{n:Int}(h:¬ (0<=n/\n<us.length)):∃ S',Hg [cD ps us,stD L R F,dL "let" n] S=.ok (Kk "NoGate") S'/\Ex S S':=by
 refine⟨S++[⟨false,L.map D.int⟩],?_,Ex.app⟩
 have h2:¬ n<0->(us.length:Int)<=n:=by omega
 by_cases h1:n<0<;>simp[Hg,Gq,Kj,cD,st0,Gav,Gzr,h1,h2,Gf1]
theorem Gzs(hE:p.isE=false):∃ d,Gx p.toD (.tup [.int 1]) S=.ok d S/\DL.getD d (.int 1) S=.ok (.int (wat p)) S:=by
 cases p with
 | e=>cases hE
 | c=>exact⟨_,Gfx (by simp),Hx (Gu (by decide) rfl)⟩
 | p br de ro pr=>exact⟨_,Gfx (by simp),Hx (Gu (by decide) rfl)⟩
theorem Gzt{k:Nat}:(k:Int)+(if u=true then 1 else 0)=(hiI u k:Nat):=by cases u<;>simp[hiI]
theorem Gzu{k:Nat}:2*(k:Int)+1-(hiI u k:Nat)=(loI u k:Nat):=by cases u<;>simp[hiI,loI]<;>omega
theorem Grt{k:Nat}(hu:us[k]?=some u)(h1:ps[hiI u k]?=some pH)(h2:ps[loI u k]?=some pL)(h3:L[hiI u k]?=some lH)(h4:L[loI u k]?=some lL)(hw:lL<=wat pL)(hk:k<=1000):
  ∃ S',Hg [cD ps us,stD L R F,dL "let" k] S=.ok (Ghi u k pH pL lH lL L R F).toD S'/\Ex S S':=by
 have hk1:¬ ((us.length:Int)<=k)/\¬ (k:Int)<0:=by have:=(Ab.mp hu).1; omega
 have q0:=Hc (S:=S) (c:=⟨false,L.map D.int⟩)
 have x1:=Ex.app (S:=S) (c:=⟨false,L.map D.int⟩)
 have li:=Gav (l:=L.map D.int) (S:=S)
 generalize S++[(⟨false,L.map D.int⟩:Cell)]=S1 at *
 obtain⟨S2,i2,st2',q2,x2⟩:=Gc4 (p:=pH) (d := -1) (v:=lH-1) q0 h3
 obtain⟨S3,i3,st3',q3,x3⟩:=Gc4 (p:=pL) (d:=1) q2 ((Giu Goc).trans h4)
 have x2:=x2 (Aa _) x1
 have x3:=x3 (Aa _) x2
 have mu:Jl (.int 2) (.int (k:Int)) S1=.ok (.int (2*(k:Int))) S1:=Ged (by decide) (by decide)
 have gg:=Gj6 (S:=S1) hu
 have gu:=Gj7 (u:=u) (S:=S1)
 have gH:=Uk (S:=S1) h1
 have gL:=Uk (S:=S2) h2
 have l1:=Ky q0 h3
 have l2:=Ky q2 ((Giu Goc).trans h4)
 have n1:=Gkb (p:=pH) (S:=S1)
 have n2:=Gkb (p:=pL) (S:=S2)
 have tu:=Ghh q3
 have s0:=st0 (L:=L) (R:=R) (F:=F) (S:=S)
 have s1:=st1 (L:=L) (R:=R) (F:=F) (S:=S3)
 have s2:=st2 (L:=L) (R:=R) (F:=F) (S:=S3)
 have a1:=pl0 (p:=pH) (S:=S1)
 have a2:=pl0 (p:=pL) (S:=S2)
 have hi:=Gzt (k:=k) (u:=u)
 have lo:=Gzu (k:=k) (u:=u)
 have w1:pL.isE=false->∃ d,Gx pL.toD (.tup [.int 1]) S2=.ok d S2/\DL.getD d (.int 1) S2=.ok (.int (wat pL)) S2:=Gzs
 unfold Ghi Hg
 rw[Gq]
 generalize stD L R F=sd at *
 generalize gd u=gu' at *
 generalize pH.toD=pa at *
 generalize pL.toD=pb at *
 generalize pn pH=na at *
 generalize pn pL=nb at *
 generalize adw pL (adw pH L (hiI u k) lH (-1)) (loI u k) lL 1=LL at *
 generalize pH.isE=b1 at *
 generalize pL.isE=b2 at *
 simp[Kj,cD,s0,li,Gzr,hk1,gg,gu,Gj1,hi,mu,lo,Hbh,gH,a1,n1]
 by_cases c1:b1=false/\lH=0
 ·obtain⟨rfl,rfl⟩:=c1
  exact⟨S1,by simp[l1,Res.toD,Gf1],x1⟩
 ·by_cases c2:b2=false/\lL=wat pL
  ·obtain⟨rfl,rfl⟩:=c2
   obtain⟨d,w1,w2⟩:=w1 rfl
   refine⟨S2,?_,x2⟩
   cases b1
   ·have c1:¬ lH=0:=fun z=>c1 ⟨rfl,z⟩
    simp[l1,c1,st2' rfl,gL,a2,n2,l2,w1,w2,Res.toD,Gf1]
   ·obtain rfl:=i2 rfl
    simp[gL,a2,n2,l2,w1,w2,Res.toD,Gf1]
  ·refine⟨S3,?_,x3⟩
   cases b2
   ·have c2:¬ lL=wat pL:=fun z=>c2 ⟨rfl,z⟩
    have c3:¬ wat pL<=lL:=by omega
    obtain⟨d,w1,w2⟩:=w1 rfl
    cases b1
    ·have c1:¬ lH=0:=fun z=>c1 ⟨rfl,z⟩
     simp[l1,c1,st2' rfl,s1,s2,gL,a2,n2,l2,w1,w2,c2,c3,st3' rfl,tu,Res.toD,stD]
    ·obtain rfl:=i2 rfl
     simp[s1,s2,gL,a2,n2,l2,w1,w2,c2,c3,st3' rfl,tu,Res.toD,stD]
   ·obtain rfl:=i3 rfl
    cases b1
    ·have c1:¬ lH=0:=fun z=>c1 ⟨rfl,z⟩
     simp[l1,c1,st2' rfl,s1,s2,gL,a2,n2,tu,Res.toD,stD]
    ·obtain rfl:=i2 rfl
     simp[s1,s2,gL,a2,n2,tu,Res.toD,stD]
end
theorem Gwz:eqD (.str (pn p)) (.str "chamber") S=.ok (.bl p.isC) S:=by
 cases p
 ·exact s1
 ·exact s3
 ·exact s5
theorem Gw0:eqD (.str (pn p)) (.str "pound") S=.ok (.bl (isP p)) S:=by
 cases p
 ·exact s2
 ·exact s4
 ·exact s6
theorem Gkc{g:Tg}{b:Sv}{k:Nat}{ρ1:Lc}{y:D}(h:nxt k S=some d)(h2:g d ρ=some ρ1)(h3:b ρ1 S=.rt y S2):Ki nxt g b (n+1) k ρ S=.rt y S2:=by
 conv=>lhs; unfold Ki
 simp only[h,h2,h3]
theorem Hbi{i:Nat}{b:Sv}{x y r:D}{c1 c2:Bool}(hq:S[q]?=some ⟨false,[x,y]⟩)(h1:b (ρ.set i (some x)) S=if c1=true then .rt r S else .nx (ρ.set i (some x)) S)(h2:b ((ρ.set i (some x)).set i (some y)) S=if c2=true then .rt r S else .nx ((ρ.set i (some x)).set i (some y)) S):Ki (Gau q 2).nxt (gn i) b (Gau q 2).fuel 0 ρ S=if(c1||c2)=true then .rt r S else .nx ((ρ.set i (some x)).set i (some y)) S:=by
 have nx:∀ j,(Gau q 2).nxt j S=[x,y][j]?:=fun j=>by
  show(S[q]?).bind (fun c=>c.xs[j]?)=_
  rw[hq]; rfl
 rw[show(Gau q 2).fuel=3 from rfl]
 cases c1
 ·rw[Gef (nx 0) rfl h1]
  cases c2
  ·rw[Gef (nx 1) rfl h2,Gln (nx 2)]; rfl
  ·exact Gkc (nx 1) rfl h2
 ·exact Gkc (nx 0) rfl h1
noncomputable def kk(b:Bool):Int:=if b=true then 1 else 2
noncomputable def Xp(b:Bool)(n:Nat):Nat:=if b=true then n+2 else n+3
section
variable{q:Nat}{A B C:List D}{S:Sto}
theorem rw0(h:Rw S q (q+1) (q+2) (q+3) A B C):DL.getD (.lst q) (.int 0) S=.ok (.lst (q+1)) S:=Jd h.q0 rfl
theorem rw1(h:Rw S q (q+1) (q+2) (q+3) A B C):DL.getD (.lst q) (.int 1) S=.ok (.lst (q+2)) S:=Jd h.q0 rfl
theorem rw2(h:Rw S q (q+1) (q+2) (q+3) A B C):DL.getD (.lst q) (.int 2) S=.ok (.lst (q+3)) S:=Jd h.q0 rfl
theorem rwk(h:Rw S q (q+1) (q+2) (q+3) A B C):DL.getD (.lst q) (.int (kk b)) S=.ok (.lst (Xp b q)) S:=by
 cases b
 ·exact rw2 h
 ·exact rw1 h
end
noncomputable abbrev RwI(S:Sto)(q:Nat)(L R F:List Int):Prop:=Rw S q (q+1) (q+2) (q+3) (L.map D.int) (R.map D.int) (F.map D.int)
theorem Gf2{R F:List Int}(h:RwI S q L R F):S[Xp b q]?=some ⟨false,(sel b R F).map D.int⟩:=by
 cases b
 ·exact h.q3
 ·exact h.q2
theorem Gol{R F:List Int}(h:RwI S q L R F):RwI (S.set (Xp b q) ⟨false,M.map D.int⟩) q L (if b=true then M else R) (if b=true then F else M):=by
 have lt:∀ {i:Nat} {c:Cell},S[i]?=some c->i<S.length:=fun e=>(Ab.mp e).1
 cases b<;>refine⟨?_,?_,?_,?_⟩<;>first | (rw[Am (by simp[Xp])]; first | exact h.q0 | exact h.q1 | exact h.q2 | exact h.q3) | exact Av (lt (by first | exact h.q2 | exact h.q3))
section
variable{ps:List Pl}{us:List Bool}{L R F:List Int}{S:Sto}{b:Bool}{k:Nat}{u:Bool}{pH pL pG:Pl}{lH lL a g r1 f1:Int}
theorem Hbj:Kk "NoBarge"=.str "nobarge"/\Kk "NoRoom"=.str "noroom"/\Kk "Uneven"=.str "uneven"/\Kk "Shallow"=.str "shallow":=⟨rfl,rfl,rfl,rfl⟩
theorem Hbk:(k:Int)+(if b=false then 1 else 0)=(stI b k:Nat):=by cases b<;>simp[stI]
theorem Hbl:2*(k:Int)+1-(stI b k:Nat)=(glI b k:Nat):=by cases b<;>simp[stI,glI]<;>omega
theorem Gru(v:Mv ps us L R F b k u pH pL pG lH lL a g r1 f1)(hc:pH.isC=true->0<=lH/\lH<=1):∃ S',Ui [cD ps us,stD L R F,dM b k,.int (hiI u k),.int (loI u k)] S=.ok (Gc3 ps.length b k pH pL pG lH lL a g r1 f1 L R F).toD S'/\Ex S S':=by
 obtain⟨S1,e1,w1,x1⟩:=Gob (A:=L.map D.int) (B:=R.map D.int) (C:=F.map D.int) (f:=vr 1) (ρ:=[some (cD ps us),some (stD L R F),some (dM b k),some (.int (hiI u k)),some (.int (loI u k)),some (.tup (ps.map Pl.toD)),some (wd b),some (.int k),none,none,none,none,none,none,none]) (S:=S) rfl
 have gk:DL.getD (.lst S1.length) (.int (if b=true then 1 else 0)) (S1++[⟨false,[.int 2,.int 1]⟩])=.ok (.int (kk b)) (S1++[⟨false,[.int 2,.int 1]⟩]):=Jd Hc (by cases b<;>rfl)
 have x12:=x1.trans (Ex.app (c:=⟨false,[.int 2,.int 1]⟩))
 have w2:RwI (S1++[⟨false,[.int 2,.int 1]⟩]) S.length L R F:=Rw.ex w1 Ex.app
 generalize h2:S1++[(⟨false,[.int 2,.int 1]⟩:Cell)]=S2 at *
 have q3:=Hc (S:=S2) (c:=⟨false,[.int (hiI u k),.int (loI u k)]⟩)
 have x13:=x12.trans (Ex.app (c:=⟨false,[.int (hiI u k),.int (loI u k)]⟩))
 have w3:RwI (S2++[⟨false,[.int (hiI u k),.int (loI u k)]⟩]) S.length L R F:=Rw.ex w2 Ex.app
 generalize h3:S2++[(⟨false,[.int (hiI u k),.int (loI u k)]⟩:Cell)]=S3 at *
 have lrow:S.length<=Xp b S.length:=by cases b<;>simp[Xp]
 have t4:=lst_set (v:=a-1) (Gf2 (b:=b) w3) v.ha
 have w4:=Gol (b:=b) (M:=(sel b R F).set (stI b k) (a-1)) w3
 have x4:=x13.setq (c:=⟨false,((sel b R F).set (stI b k) (a-1)).map D.int⟩) lrow
 have q4:=Av (a:=(⟨false,((sel b R F).set (stI b k) (a-1)).map D.int⟩:Cell)) (Ab.mp (Gf2 (b:=b) w3)).1
 generalize S3.set (Xp b S.length) ⟨false,((sel b R F).set (stI b k) (a-1)).map D.int⟩=S4 at *
 have hg':((sel b R F).set (stI b k) (a-1))[glI b k]?=some g:=(Am Gof).trans v.hg
 have g5:=Ky q4 hg'
 have w5:RwI (S4.set (Xp b S.length) ⟨false,(Jx b R F k a g).map D.int⟩) S.length L (if b=true then Jx b R F k a g else R) (if b=true then F else Jx b R F k a g):=by
  have:=Gol (b:=b) (M:=Jx b R F k a g) w4
  cases b<;>exact this
 have x5:=x4.setq (c:=⟨false,(Jx b R F k a g).map D.int⟩) lrow
 have t5:Vg (.lst (Xp b S.length)) (.int (glI b k)) (.int (g+1)) S4=some (S4.set (Xp b S.length) ⟨false,(Jx b R F k a g).map D.int⟩):=lst_set (v:=g+1) q4 hg'
 generalize S4.set (Xp b S.length) ⟨false,(Jx b R F k a g).map D.int⟩=S5 at *
 have gv:DL.getD (.lst S5.length) (.int (if b=true then 1 else 0)) (S5++[⟨false,[.int 0,.int ((ps.length:Int)-1)]⟩])=.ok (.int (if b=true then(ps.length:Int)-1 else 0)) (S5++[⟨false,[.int 0,.int ((ps.length:Int)-1)]⟩]):=Jd Hc (by cases b<;>rfl)
 have x6:=x5.trans (Ex.app (c:=⟨false,[.int 0,.int ((ps.length:Int)-1)]⟩))
 have w6:RwI (S5++[⟨false,[.int 0,.int ((ps.length:Int)-1)]⟩]) S.length L (if b=true then Jx b R F k a g else R) (if b=true then F else Jx b R F k a g):=Rw.ex w5 Ex.app
 generalize h6:S5++[(⟨false,[.int 0,.int ((ps.length:Int)-1)]⟩:Cell)]=S6 at *
 have wr:=fun S=>Ye (b:=b) (S:=S)
 have wl:=fun S=>Gwy (b:=b) (S:=S)
 have mu:Jl (.int 2) (.int (k:Int)) S2=.ok (.int (2*(k:Int))) S2:=Ged (by decide) (by decide)
 have f1':=Hbk (b:=b) (k:=k)
 have f2':=Hbl (b:=b) (k:=k)
 have r2:=rwk (b:=b) w2
 have r3:=rwk (b:=b) w3
 have r4:=rwk (b:=b) w4
 have a2:=Ky (Gf2 (b:=b) w2) v.ha
 have a3:=Ky (Gf2 (b:=b) w3) v.ha
 have b0:=rw0 w2
 have b1:=rw1 w2
 have b2:=rw2 w2
 have d0:=rw0 w6
 have d1:=rw1 w6
 have d2:=rw2 w6
 have u0:=Ghh w6.q1
 have u1:=Ghh w6.q2
 have u2:=Ghh w6.q3
 have gr:=Ky w2.q2 v.hr
 have gf:=Ky w2.q3 v.hf
 have gG:=Uk (S:=S2) v.hG
 have gH:=fun S=>Uk (ps:=ps) (S:=S) v.h1
 have gL:=fun S=>Uk (ps:=ps) (S:=S) v.h2
 have lH2:=Ky w2.q1 v.h3
 have lL2:=Ky w2.q1 v.h4
 have lH3:=Ky w3.q1 v.h3
 have lL3:=Ky w3.q1 v.h4
 have c3:=rw0 w3
 have c0:=cd0 (ps:=ps) (us:=us) (S:=S)
 have z0:=fun S (p:Pl)=>pl0 (p:=p) (S:=S)
 have zc:=fun S (p:Pl)=>Gwz (p:=p) (S:=S)
 have zp:=fun S (p:Pl)=>Gw0 (p:=p) (S:=S)
 have p3:∀ S br de ro pr,DL.getD (Pl.toD (.p br de ro pr)) (.int 3) S=.ok (.int ro) S:=fun _ _ _ _ _=>Hx (Gu (by decide) rfl)
 have p2:∀ S br de ro pr,DL.getD (Pl.toD (.p br de ro pr)) (.int 2) S=.ok (.int de) S:=fun _ _ _ _ _=>Hx (Gu (by decide) rfl)
 have sh:∀ (p:Pl) (i:Nat) (l:Int) (ρ:Lc),ps[i]?=some p->L[i]?=some l->ρ[5]?=some (some (.tup (ps.map Pl.toD)))->ρ[8]?=some (some (.lst S.length))->ρ[13]?=some (some (.int i))->Ja ρ S3=if shal p l=true then .rt (.str "shallow") S3 else .nx ρ S3:=fun p i l ρ hp hl h5 h8 h13=>by
  have gp:=Uk (S:=S3) hp
  have gl:=Ky w3.q1 hl
  cases p with
  | e=>simp[Ja,h5,h8,h13,gp,z0,zp,isP,shal]
  | c=>simp[Ja,h5,h8,h13,gp,z0,zp,isP,shal]
  | p br de ro pr=>
   by_cases c:l<de<;>simp[Ja,h5,h8,h13,gp,z0,zp,isP,shal,c3,gl,p2,c]
 have sr:=Ghg q3
 have lp:=Hbi (S:=S3) (q:=S2.length) (i:=13) (b:=Ja) (ρ:=[some (cD ps us),some (stD L R F),some (dM b k),some (.int (hiI u k)),some (.int (loI u k)),some (.tup (ps.map Pl.toD)),some (wd b),some (.int k),some (.lst S.length),some (.int (kk b)),some (.int (stI b k)),some (.int (glI b k)),some (.int (r1+f1)),none,none]) q3 (sh pH _ lH _ v.h1 v.h3 rfl rfl rfl) (sh pL _ lL _ v.h2 v.h4 rfl rfl rfl)
 have zz:∀ {S:Sto} {b:Bool} {c:Prop} [Decidable c],(if b=true then Out.ok (decide c) S else Out.ok false S)=Out.ok (b&&decide c) S:=fun{_} {b}=>by cases b<;>simp
 have i3:(pH.isC=true/\0<lH)↔(pH.isC=true/\lH=1):=⟨fun z=>⟨z.1,by have:=hc z.1; omega⟩,fun z=>⟨z.1,by omega⟩⟩
 have rm:(isP pG=false/\((pG.isC=true/\0<r1+f1)↔hol pG (r1+f1+1)=false))\/(isP pG=true/\pG.isC=false/\∃ ro:Int,DL.getD pG.toD (.int 3) S2=.ok (.int ro) S2/\(ro<=r1+f1↔hol pG (r1+f1+1)=false)):=by
  cases pG with
  | e=>exact .inl ⟨rfl,by simp[hol,Pl.isC]⟩
  | c=>exact .inl ⟨rfl,by simp[hol,Pl.isC]; omega⟩
  | p br de ro pr=>exact .inr ⟨rfl,rfl,ro,p3 ..,by simp[hol]; omega⟩
 have hw:=Hbj
 unfold Gc3 Gf0 Ui
 rw[Gq]
 clear x1 w1 w2 w3 w4 w5 p3 p2 sh v hc x4 x5 hg'
 generalize cD ps us=cd at *
 generalize stD L R F=sd at *
 simp[*,Xm,Gj1]
 by_cases c1:a=0
 ·subst c1
  exact⟨S2,by simp[*,Res.toD],x12⟩
 ·simp[*]
  refine⟨if hol pG (r1+f1+1)=false\/(pH.isC=true/\lH=1)\/(pL.isC=true/\lL=0) then S2 else if shal pH lH=true\/shal pL lL=true then S3 else S6,?_,by split; exact x12; split; exact x13; exact x6⟩
  rcases rm with⟨hP,i2⟩ | ⟨hP,hC,ro,g3,i2⟩<;>by_cases c2:hol pG (r1+f1+1)=false<;>by_cases c3:pH.isC=true/\lH=1<;>by_cases c4:pL.isC=true/\lL=0<;>by_cases c5:shal pH lH=true\/shal pL lL=true<;>simp[*,Gj1,Res.toD,Gog,stD]
theorem due_mno{n:Int}(h:¬ (0<=n/\n<us.length)):∃ S',Hg [cD ps us,stD L R F,dM b n] S=.ok (Kk "NoGate") S'/\Ex S S':=by
 refine⟨S++[⟨false,L.map D.int⟩],?_,Ex.app⟩
 have h2:¬ n<0->(us.length:Int)<=n:=by omega
 by_cases h1:n<0<;>simp[Hg,Gq,Kj,cD,st0,Gav,Gfz,h1,h2,Gf1]
theorem Gom(v:Mv ps us L R F b k u pH pL pG lH lL a g r1 f1)(hc:pH.isC=true->0<=lH/\lH<=1):∃ S',Hg [cD ps us,stD L R F,dM b k] S=.ok (Gc3 ps.length b k pH pL pG lH lL a g r1 f1 L R F).toD S'/\Ex S S':=by
 have hk1:¬ ((us.length:Int)<=k)/\¬ (k:Int)<0:=by have:=(Ab.mp v.hu).1; omega
 have x1:=Ex.app (S:=S) (c:=⟨false,L.map D.int⟩)
 have li:=Gav (l:=L.map D.int) (S:=S)
 generalize S++[(⟨false,L.map D.int⟩:Cell)]=S1 at *
 obtain⟨S2,e2,x2⟩:=Gru (S:=S1) v hc
 refine⟨S2,?_,x1.trans x2⟩
 have mu:Jl (.int 2) (.int (k:Int)) S1=.ok (.int (2*(k:Int))) S1:=Ged (by decide) (by decide)
 have gg:=Gj6 (S:=S1) v.hu
 have gu:=Gj7 (u:=u) (S:=S1)
 have hi:=Gzt (k:=k) (u:=u)
 have lo:=Gzu (k:=k) (u:=u)
 have nl:=Jr (Goe (b:=b) (S:=S1))
 have wf:=Gfz (b:=b) (S:=S1)
 have s0:=st0 (L:=L) (R:=R) (F:=F) (S:=S)
 generalize stD L R F=sd at *
 generalize gd u=g' at *
 unfold cD at e2
 simp[Hg,Gq,Kj,cD,s0,li,wf,hk1,gg,gu,Gj1,hi,mu,lo,nl,e2]
end
theorem Gzv{s:Str}(h1:(PyData.str s).showable=true:=by decide +kernel)(h2:PyData.strOk (PyData.str s).shown=true:=by decide +kernel)(h3:(PyData.str s).shown.length<=61:=by decide +kernel):Sho S (.str s) 61 0:=by
 refine⟨.str s,fun S' _ n hn=>?_,⟨h1,rfl,Aa _,h2,h3⟩⟩
 obtain⟨m,rfl⟩:∃ m,n=m+1:=⟨n-1,by omega⟩
 rfl
noncomputable def Sm(M:List Int):Prop:=M.length<=13/\∀ i∈M,i.natAbs<10^60
theorem Gf3(h:Sm M):Sho S (.tup (M.map D.int)) 822 1:=by
 refine(Gfy (b:=61) (e:=0) fun d hd=>?_).mono ?_ (Aa _)
 ·obtain⟨i,hi,rfl⟩:=Ay.mp hd
  exact Grg (h.2 i hi)
 ·have:=h.1
  simp only[AD]
  omega
theorem Gw1{R F:List Int}(h1:Sm L)(h2:Sm R)(h3:Sm F):Sho S (stD L R F) 2475 2:=(Gfy (S:=S) (l:=[.tup (L.map D.int),.tup (R.map D.int),.tup (F.map D.int)]) (b:=822) (e:=1) fun d hd=>by
 simp only[Ad,AS,or_false] at hd
 rcases hd with rfl | rfl | rfl
 ·exact Gf3 h1
 ·exact Gf3 h2
 ·exact Gf3 h3).mono (by simp) (by decide)
theorem Hbm:∀ {i:Int},-2000<=i->i<=2000->i.natAbs<10^60:=fun h1 h2=>Nat.lt_of_le_of_lt (show _<=2000 by omega) (by decide)
theorem sm_of(hl:M.length<=13)(h:∀ i∈M,0<=i/\i<=1000):Sm M:=⟨hl,fun i hi=>Hbm (by have:=h i hi; omega) (by have:=h i hi; omega)⟩
structure StF(ps:List Pl)(L R F:List Int):Prop where
 lL:L.length=ps.length
 lR:R.length=ps.length
 lF:F.length=ps.length
 nL:∀ i∈L,0<=i
 nR:∀ i∈R,0<=i
 nF:∀ i∈F,0<=i
 at':∀ (i:Nat) (p:Pl) (l r f:Int),ps[i]?=some p->L[i]?=some l->R[i]?=some r->F[i]?=some f->l<=wat p/\hol p (r+f)=true
 sum:R.sum+F.sum<=900
theorem Gf4:∀ {M:List Int} {i:Nat} {a v:Int},M[i]?=some a->(M.set i v).sum=M.sum-a+v
 | [],i,a,v,h=>by simp at h
 | x::M,0,a,v,h=>by
  cases (Ac h)
  rw[List.set_cons_zero,A3,A3]
  omega
 | x::M,i+1,a,v,h=>by
  have:=Gf4 (M:=M) (i:=i) (v:=v) (by simpa using h)
  rw[List.set_cons_succ,A3,A3,this]
  omega
theorem Gf5{i:Nat}(h:∀ j∈M,0<=j)(hv:0<=v):∀ j∈M.set i v,0<=j:=fun j hj=>by
 rcases List.mem_or_eq_of_mem_set hj with z | z
 ·exact h j z
 ·rw[z]; exact hv
theorem Giv{i:Nat}{x:Int}(h:(M.set i v)[j]?=some x):(j=i/\x=v)\/(j≠i/\M[j]?=some x):=by
 by_cases c:j=i
 ·subst c
  have hl:j<M.length:=by
   have:=(Ab.mp h).1
   simpa using this
  rw[Av hl] at h
  exact .inl ⟨rfl,(Ac h).symm⟩
 ·rw[Am (Ne.symm c)] at h
  exact .inr ⟨c,h⟩
section
variable{ps:List Pl}{us:List Bool}{L R F:List Int}
theorem StF.setL{i:Nat}(h:StF ps L R F)(hp:ps[i]?=some p)(h0:0<=v)(h1:v<=wat p):StF ps (L.set i v) R F:=by
 refine⟨by rw[Bi]; exact h.lL,h.lR,h.lF,Gf5 h.nL h0,h.nR,h.nF,fun j q l r f e1 e2 e3 e4=>?_,h.sum⟩
 rcases Giv e2 with⟨rfl,rfl⟩ | ⟨_,e2⟩
 ·rw[hp] at e1
  cases e1
  have hj:j<L.length:=by rw[h.lL]; exact(Ab.mp hp).1
  exact⟨h1,(h.at' j p _ r f hp (Ag hj) e3 e4).2⟩
 ·exact h.at' j q l r f e1 e2 e3 e4
theorem StF.adw{i:Nat}{l d:Int}(h:StF ps L R F)(hp:ps[i]?=some p)(hb:p.isE=false->0<=l+d/\l+d<=wat p):StF ps (Law.adw p L i l d) R F:=by
 unfold Law.adw
 split
 ·exact h
 ·rename_i c
  have:=hb (by simpa using c)
  exact h.setL hp this.1 this.2
theorem Gf6{b:Int}(h:hol p b=true)(hab:a<=b):hol p a=true:=by
 cases p with
 | e=>rfl
 | c=>
  have:b<=1:=by simpa[hol] using h
  simp[hol]; omega
 | p br de ro pr=>
  have:b<=ro:=by simpa[hol] using h
  simp[hol]; omega
theorem StF.move{k:Nat}{pG:Pl}{g r1 f1:Int}(h:StF ps L R F)(hG:ps[glI b k]?=some pG)(ha:(sel b R F)[stI b k]?=some a)(hg:(sel b R F)[glI b k]?=some g)(hr:R[glI b k]?=some r1)(hf:F[glI b k]?=some f1)(h1:1<=a)(h2:hol pG (r1+f1+1)=true):
  StF ps L (if b=true then Jx b R F k a g else R) (if b=true then F else Jx b R F k a g):=by
 have hg':((sel b R F).set (stI b k) (a + -1))[glI b k]?=some g:=(Am Gof).trans hg
 have hsum:(Jx b R F k a g).sum=(sel b R F).sum:=by
  unfold Jx
  rw[Gf4 hg',Gf4 ha]
  omega
 have at2:∀ (j:Nat) (x:Int),(Jx b R F k a g)[j]?=some x->(j=glI b k/\x=g+1)\/(j≠glI b k/\∃ y,(sel b R F)[j]?=some y/\x<=y):=fun j x e=>by
  rcases Giv e with⟨c,e⟩ | ⟨c,e⟩
  ·exact .inl ⟨c,e⟩
  ·rcases Giv e with⟨c',e⟩ | ⟨c',e⟩
   ·exact .inr ⟨c,a,by rw[c']; exact ha,by omega⟩
   ·exact .inr ⟨c,x,e,Int.le_refl _⟩
 have nn:∀ {M:List Int},sel b R F=M->(∀ i∈M,0<=i)->∀ i∈Jx b R F k a g,0<=i:=fun e n=>by
  unfold Jx
  rw[e]
  exact Gf5 (Gf5 n (by omega)) (by have:=n g (by rw[<- e]; exact Ai hg); omega)
 have ln:(Jx b R F k a g).length=(sel b R F).length:=by unfold Jx; rw[Bi,Bi]
 cases b
 ·have e:sel false R F=F:=rfl
  rw[e] at hsum at2 ln hg
  refine⟨h.lL,h.lR,by simp only[Ak,if_false]; rw[ln]; exact h.lF,h.nL,h.nR,nn e h.nF,fun j q l r f e1 e2 e3 e4=>?_,by simp only[Ak,if_false]; rw[hsum]; exact h.sum⟩
  simp only[Ak,if_false] at e3 e4
  rcases at2 j f e4 with⟨c,rfl⟩ | ⟨_,y,ey,hy⟩
  ·rw[c] at e1 e2 e3
   rw[hG] at e1; cases e1
   rw[hr] at e3; cases e3
   rw[hf] at hg; cases hg
   exact⟨(h.at' _ _ _ _ _ hG e2 hr hf).1,Gf6 h2 (by omega)⟩
  ·have:=h.at' j q l r y e1 e2 e3 ey
   exact⟨this.1,Gf6 this.2 (by omega)⟩
 ·have e:sel true R F=R:=rfl
  rw[e] at hsum at2 ln hg
  refine⟨h.lL,by simp only[if_true]; rw[ln]; exact h.lR,h.lF,h.nL,nn e h.nR,h.nF,fun j q l r f e1 e2 e3 e4=>?_,by simp only[if_true]; rw[hsum]; exact h.sum⟩
  simp only[if_true] at e3 e4
  rcases at2 j r e3 with⟨c,rfl⟩ | ⟨_,y,ey,hy⟩
  ·rw[c] at e1 e2 e4
   rw[hG] at e1; cases e1
   rw[hf] at e4; cases e4
   rw[hr] at hg; cases hg
   exact⟨(h.at' _ _ _ _ _ hG e2 hr hf).1,Gf6 h2 (by omega)⟩
  ·have:=h.at' j q l y f e1 e2 ey e4
   exact⟨this.1,Gf6 this.2 (by omega)⟩
end
inductive Kd(ps:List Pl):Res->Prop where
 | no {y:Str} (h:y∈ys):Kd ps (.no y)
 | yes {A B C:List Int} {p g:Int} (h:StF ps A B C) (p0:0<=p/\p<=1000) (g0:0<=g/\g<=1):Kd ps (.yes (.tup [stD A B C,.int p,.int g]))
structure Rs(ps:List Pl)(us:List Bool)(L R F:List Int)(dd:D)(r:Res):Prop where
 did:∀ S,Gj [cD ps us,stD L R F,dd] S=r.out S
 due:∀ S,∃ S',Hg [cD ps us,stD L R F,dd] S=.ok r.toD S'/\Ex S S'
 kd:Kd ps r
section
variable{cr:Int}{ps:List Pl}{us:List Bool}{L R F:List Int}
theorem Giw{l f:Int}(h:vOk cr p l r f):l<=wat p:=by
 have:=h.2.2.2
 cases p with
 | e=>simp only at this; simp[wat,this.1]
 | c=>simp only at this; simp[wat,this.1]
 | p br de ro pr=>simp only at this; simp[wat,this.1]
theorem Gw2(hp:∀ p∈ps,p.ok)(hl:ps.length<=13)(hu:us.length+1=ps.length)(st:StR cr ps L R F)(sf:StF ps L R F){k:Nat}(hk:k<us.length):∃ r,Rs ps us L R F (.tup [.str "let",.int k]) r:=by
 have eu:=Ag hk
 generalize us[k]=u at eu
 have hH:hiI u k<ps.length:=by cases u<;>simp[hiI]<;>omega
 have hL:loI u k<ps.length:=by cases u<;>simp[loI]<;>omega
 have eH:=Ag hH
 have eL:=Ag hL
 obtain⟨lH,_,_,a1,_,_,a4⟩:=st.at' _ _ eH
 obtain⟨lL,_,_,b1,_,_,b4⟩:=st.at' _ _ eL
 have k1:=hp _ (Ai eH)
 have k2:=hp _ (Ai eL)
 have w1:=Giw a4
 have w2:=Giw b4
 have n1:=a4.1
 have n2:=b4.1
 generalize ps[hiI u k]=pH at eH k1 w1
 generalize ps[loI u k]=pL at eL k2 w2
 refine⟨Ghi u k pH pL lH lL L R F,fun S=>dd_let eu eH eL a1 b1 k1 k2 (by rw[st.lL]; omega),fun S=>Grt eu eH eL a1 b1 w2 (by omega),?_⟩
 unfold Ghi
 split
 ·exact .no Gc2.2.1
 ·rename_i c1
  split
  ·exact .no Gc2.2.2.1
  ·rename_i c2
   refine .yes ((sf.adw eH fun z=>?_).adw eL fun z=>?_) (by decide) (by decide)
   ·have:lH≠0:=by simpa[z] using c1
    exact⟨by omega,by omega⟩
   ·have:¬ wat pL<=lL:=by simpa[z] using c2
    exact⟨by omega,by omega⟩
theorem Grv(hp:∀ p∈ps,p.ok)(hl:ps.length<=13)(st:StR cr ps L R F)(sf:StF ps L R F){k:Nat}(hk:k<ps.length):∃ r,Rs ps us L R F (.tup [.str "feed",.int k]) r:=by
 have e:=Ag hk
 obtain⟨l,_,_,a1,_,_,a4⟩:=st.at' _ _ e
 have k1:=hp _ (Ai e)
 have w1:=Giw a4
 have n1:=a4.1
 generalize ps[k]=p at e k1 w1
 refine⟨Vm k p l L R F,fun S=>dd_feed e a1 k1 (by rw[st.lL]; omega),fun S=>Gok e a1 k1 w1,?_⟩
 unfold Vm
 split
 ·rename_i br de ro i
  split
  ·exact .no Gc2.2.2.1
  ·rename_i c
   have w1:l<=br:=w1
   have pb:0<=i/\i<=1000:=by
    obtain⟨_,_,_,_,_,_,hpr⟩:=k1
    rcases hpr with h | ⟨j,h,h1,h2⟩
    ·cases h
    ·cases h; omega
   exact .yes (sf.setL e (by omega) (show l+1<=br by omega)) pb (by decide)
 ·exact .no Gc2.2.2.2
theorem Gkd(hp:∀ p∈ps,p.ok)(hl:ps.length<=13)(hu:us.length+1=ps.length)(st:StR cr ps L R F)(sf:StF ps L R F)(b:Bool){k:Nat}(hk:k<us.length):∃ r,Rs ps us L R F (dM b k) r:=by
 have eu:=Ag hk
 generalize us[k]=u at eu
 have hH:hiI u k<ps.length:=by cases u<;>simp[hiI]<;>omega
 have hL:loI u k<ps.length:=by cases u<;>simp[loI]<;>omega
 have hG:glI b k<ps.length:=by cases b<;>simp[glI]<;>omega
 have hS:stI b k<ps.length:=by cases b<;>simp[stI]<;>omega
 have lM:(sel b R F).length=ps.length:=by
  unfold sel
  split
  ·exact st.lR
  ·exact st.lF
 have nM:∀ i∈sel b R F,0<=i:=by
  unfold sel
  split
  ·exact sf.nR
  ·exact sf.nF
 have eH:=Ag hH
 have eL:=Ag hL
 have eG:=Ag hG
 have aH:=Ag (l:=L) (i:=hiI u k) (by rw[st.lL]; exact hH)
 have aL:=Ag (l:=L) (i:=loI u k) (by rw[st.lL]; exact hL)
 have aS:=Ag (l:=sel b R F) (i:=stI b k) (by rw[lM]; exact hS)
 have aG:=Ag (l:=sel b R F) (i:=glI b k) (by rw[lM]; exact hG)
 have aR:=Ag (l:=R) (i:=glI b k) (by rw[st.lR]; exact hG)
 have aF:=Ag (l:=F) (i:=glI b k) (by rw[st.lF]; exact hG)
 have v:Mv ps us L R F b k u ps[hiI u k] ps[loI u k] ps[glI b k] _ _ _ _ _ _:=⟨eu,eH,eL,aH,aL,hp _ (A2 hH),hp _ (A2 hL),eG,hp _ (A2 hG),aS,aG,aR,aF,hu,by omega⟩
 have hc:(ps[hiI u k]).isC=true->0<=L[hiI u k]'(by rw[st.lL]; exact hH)/\L[hiI u k]'(by rw[st.lL]; exact hH)<=1:=fun z=>by
  obtain⟨l',_,_,q1,_,_,q4⟩:=st.at' _ _ eH
  rw[aH] at q1
  cases q1
  obtain⟨c1,_,_,c2⟩:=q4
  cases y:ps[hiI u k] with
  | c=>rw[y] at c2; exact⟨c1,c2.1⟩
  | e=>rw[y] at z; cases z
  | p _ _ _ _=>rw[y] at z; cases z
 have na:=nM _ (Ai aS)
 refine⟨_,fun S=>dd_move v,fun S=>Gom v hc,?_⟩
 unfold Gc3
 split
 ·rename_i y z; exact .no (Gka z)
 ·rename_i z
  unfold Gf0 at z
  split at z
  ·cases z
  ·rename_i c1
   split at z
   ·cases z
   ·rename_i c2
    exact .yes (sf.move eG aS aG aR aF (by omega) (by simpa using c2)) (by decide) ((fun(c:Prop) (_:Decidable c)=>show 0<=(if c then(1:Int) else 0)/\(if c then(1:Int) else 0)<=1 by split<;>decide) _ _)
end
inductive Wd where
 | l | f | r | e
variable{w:Wd}
noncomputable def Wd.toD:Wd->D
 | .l=>.str "let"
 | .f=>.str "feed"
 | .r=>wd true
 | .e=>wd false
noncomputable abbrev ddOf(p:Wd×Nat):D:=.tup [p.1.toD,.int p.2]
noncomputable def Res.isY:Res->Bool
 | .yes _=>true
 | .no _=>false
theorem Ghk{s:Src}{l:List D}{fs:Ev Src}{pk:List (Option Nat)}{e:Ev D}(rest:Lc)(v:D->D)(hf:fs ρ S=.ok s S)(hn:∀ k (S':Sto),Ex S S'->s.nxt k S'=l[k]?)(hfu:l.length<s.fuel)(hp:pkS pk ρ=none::rest)(hl:l.length<1000)(he:∀ d∈l,∀ S':Sto,Ex S S'->∃ S'',e (some d::rest) S'=.ok (v d) S''/\Ex S' S''):
  ∃ S',cmp fs pk (gn 0) ttrue e ρ S=.ok (.lst S.length) S'/\S'[S.length]?=some ⟨false,l.map v⟩/\Ex S S':=by
 obtain⟨ρ',S',el,g,hρ,hq,hx⟩:=Yd (nxt:=s.nxt) (g:=gn 0) (b:=cbody S.length ttrue e) (l:=l)
  (fun i ρ S'=>∃ g,ρ=g::rest/\S'[S.length]?=some ⟨false,(l.take i).map v⟩/\Ex S S')
  (fun k ρ S' ⟨_,_,_,h3⟩=>hn k S' h3) (fun i d ρ S' hd ⟨g,h1,h2,h3⟩=>by
   subst h1
   have hi:i<l.length:=(Ab.mp hd).1
   obtain⟨S'',e1,e2⟩:=he d (Ai hd) S' h3
   have q'':=e2.at h2
   have lq:S.length<S''.length:=(Ab.mp q'').1
   refine⟨_,_,_,rfl,cbody_ok e1 q'' (by simp; omega),some d,rfl,?_,(h3.trans e2).setq (Aa _)⟩
   rw[Av lq]
   have:l.take (i+1)=l.take i++[d]:=by rw[Bx,hd]; rfl
   rw[this]
   simp) s.fuel 0 (none::rest) (S++[⟨false,[]⟩]) (AC _) ⟨none,rfl,by simp[Hc],Ex.app⟩ (by omega)
 rw[List.take_length] at hq
 exact⟨S',Gn3 (pk:=pk) (ρ:=ρ) (S:=S) (f:=fs) (s:=s) (S1:=S) (g:=gn 0) (c:=ttrue) (e:=e) hf (by rw[hp]; exact el),hq,hx⟩
section
theorem Gay:∀ {M:List Int},(∀ j∈M,0<=j)->0<=M.sum
 | [],_=>Int.le_refl _
 | x::M,h=>by
  have a:=Gay (M:=M) fun j hj=>h j (An _ hj)
  have b:=h x Aq
  rw[A3]
  omega
theorem Gc5:∀ {M:List Int} {i:Nat} {a:Int},(∀ j∈M,0<=j)->M[i]?=some a->a<=M.sum
 | [],i,a,_,h=>by simp at h
 | x::M,0,a,hn,h=>by
  cases (Ac h)
  have:=Gay (M:=M) fun j hj=>hn j (An _ hj)
  rw[A3]
  omega
 | x::M,i+1,a,hn,h=>by
  have c:=Gc5 (M:=M) (i:=i) (a:=a) (fun j hj=>hn j (An _ hj)) (by simpa using h)
  have b:=hn x Aq
  rw[A3]
  omega
theorem StF.toR{R F:List Int}(h:StF ps L R F):StR 900 ps L R F:=by
 refine⟨h.lL,h.lR,h.lF,fun i p hp=>?_⟩
 have hi:=(Ab.mp hp).1
 obtain⟨l,e1⟩:∃ l,L[i]?=some l:=⟨_,Ag (by rw[h.lL]; exact hi)⟩
 obtain⟨r,e2⟩:∃ l,R[i]?=some l:=⟨_,Ag (by rw[h.lR]; exact hi)⟩
 obtain⟨f,e3⟩:∃ l,F[i]?=some l:=⟨_,Ag (by rw[h.lF]; exact hi)⟩
 obtain⟨a,b⟩:=h.at' i p _ _ _ hp e1 e2 e3
 have n1:=h.nL _ (Ai e1)
 have n2:=h.nR _ (Ai e2)
 have n3:=h.nF _ (Ai e3)
 have s2:=Gc5 h.nR e2
 have s3:=Gc5 h.nF e3
 have t2:=Gay h.nR
 have t3:=Gay h.nF
 have s:=h.sum
 refine⟨l,r,f,e1,e2,e3,n1,n2,n3,?_⟩
 cases p with
 | e=>
  have a:l<=0:=a
  exact⟨by omega,by omega,by omega⟩
 | c=>
  have a:l<=1:=a
  have b:r+f<=1:=by simpa[hol] using b
  exact⟨a,b⟩
 | p br de ro pr=>
  have a:l<=br:=a
  have b:r+f<=ro:=by simpa[hol] using b
  exact⟨a,b⟩
end
theorem Grw{cr:Int}{us:List Bool}{R F:List Int}(hp:∀ p∈ps,p.ok)(hl:ps.length<=13)(hu:us.length+1=ps.length)(st:StR cr ps L R F)(sf:StF ps L R F):
  ∃ res:Wd×Nat->Res,(∀ w k,k<ps.length->Rs ps us L R F (ddOf (w,k)) (res (w,k)))/\∀ w,w≠.f->(res (w,us.length)).isY=false:=by
 have one:∀ w k,k<ps.length->∃ r,Rs ps us L R F (ddOf (w,k)) r/\(w≠.f->k=us.length->r.isY=false):=fun w k hk=>by
  cases w with
  | f=>
   obtain⟨r,h⟩:=Grv (us:=us) hp hl st sf hk
   exact⟨r,h,fun z=>absurd rfl z⟩
  | l=>
   by_cases c:k<us.length
   ·obtain⟨r,h⟩:=Gw2 hp hl hu st sf c
    exact⟨r,h,fun _ z=>by omega⟩
   ·exact⟨.no "NoGate",⟨fun S=>dd_nogate (by omega),fun S=>due_let_no (by omega),.no Gc2.1⟩,fun _ _=>rfl⟩
  | r=>
   by_cases c:k<us.length
   ·obtain⟨r,h⟩:=Gkd hp hl hu st sf true c
    exact⟨r,h,fun _ z=>by omega⟩
   ·exact⟨.no "NoGate",⟨fun S=>dd_mnogate (by omega),fun S=>due_mno (by omega),.no Gc2.1⟩,fun _ _=>rfl⟩
  | e=>
   by_cases c:k<us.length
   ·obtain⟨r,h⟩:=Gkd hp hl hu st sf false c
    exact⟨r,h,fun _ z=>by omega⟩
   ·exact⟨.no "NoGate",⟨fun S=>dd_mnogate (by omega),fun S=>due_mno (by omega),.no Gc2.1⟩,fun _ _=>rfl⟩
 have all:∀ p:Wd×Nat,∃ r,p.2<ps.length->Rs ps us L R F (ddOf p) r/\(p.1≠.f->p.2=us.length->r.isY=false):=fun p=>by
  by_cases h:p.2<ps.length
  ·obtain⟨r,h1⟩:=one p.1 p.2 h
   exact⟨r,fun _=>h1⟩
  ·exact⟨.no "NoGate",fun z=>absurd z h⟩
 obtain⟨res,h⟩:=Classical.axiomOfChoice all
 exact⟨res,fun w k hk=>(h (w,k) hk).1,fun w hw=>(h (w,us.length) (by show us.length<ps.length; omega)).2 hw rfl⟩
noncomputable def prs(w:Wd)(n:Nat):List (Wd×Nat):=(List.range n).map fun k=>(w,k)
noncomputable def prP(m N:Nat):List (Wd×Nat):=((prs .l m++prs .f N)++prs .r m)++prs .e m
noncomputable instance:DecidableEq Wd:=fun a b=>by cases a<;>cases b<;>first | exact .isTrue rfl | exact .isFalse (fun z=>nomatch z)
theorem Ghl{nxt:Nat->Sto->Option D}{g:Tg}{b:Sv}{l:List D}(I:Nat->Lc->Sto->Prop)(hn:∀ k ρ S,I k ρ S->nxt k S=l[k]?)(hs:∀ k d ρ S,l[k]?=some d->I k ρ S->∃ ρ1 ρ2 S2,g d ρ=some ρ1/\(b ρ1 S=.nx ρ2 S2\/b ρ1 S=.ct ρ2 S2)/\I (k+1) ρ2 S2):
  ∀ (n k:Nat) (ρ:Lc) (S:Sto),k<=l.length->I k ρ S->l.length<n+k->∃ ρ' S',Ki nxt g b n k ρ S=.nx ρ' S'/\I l.length ρ' S'
 | 0,k,ρ,S,h1,_,h2=>by omega
 | n+1,k,ρ,S,h1,hI,h2=>by
  unfold Ki
  rw[hn k ρ S hI]
  cases z:l[k]? with
  | none=>
   have:k=l.length:=by have:=Bj.mp z; omega
   subst this
   exact⟨ρ,S,rfl,hI⟩
  | some d=>
   obtain⟨ρ1,ρ2,S2,h3,h4,h5⟩:=hs k d ρ S z hI
   have hk:k<l.length:=(Ab.mp z).1
   obtain⟨ρ',S',h6,h7⟩:=Ghl I hn hs n (k+1) ρ2 S2 hk h5 (by omega)
   refine⟨ρ',S',?_,h7⟩
   rcases h4 with h4 | h4
   ·simp only[h3,h4]; exact h6
   ·simp only[h3,h4]; exact h6
theorem Gae{e:Ev (List D)}{s:D}(hs:s=w.toD)(h:e ρ S=.ok [.int N] S)(hN:N<=100):∃ S',cmp (ir1 e) [none] (gn 0) ttrue (tp (ac (cn s) (ac (vr 0) an))) ρ S=.ok (.lst S.length) S'/\S'[S.length]?=some ⟨false,(prs w N).map ddOf⟩/\Ex S S':=by
 subst hs
 obtain⟨S',e1,h1,x1⟩:=Ghk (s:=rsrc 0 N) (l:=(List.range N).map fun k:Nat=>D.int (k:Int)) (fs:=ir1 e) (pk:=[none]) (e:=tp (ac (cn w.toD) (ac (vr 0) an))) (ρ:=ρ) (S:=S) [] (fun d=>.tup [w.toD,d]) (Gwp h (by omega)) (fun k S' _=>Grd) (by simp[rsrc]) rfl (by simp; omega) (fun d _ S' x=>⟨S',by simp,.refl⟩)
 refine⟨S',e1,?_,x1⟩
 rw[h1]
 unfold prs
 rw[List.map_map,List.map_map]
 rfl
theorem Gw3{us:List Bool}(hl:ps.length<=13)(hu:us.length+1=ps.length):∃ q S',Wb [cD ps us] S=.ok (.lst q) S'/\S'[q]?=some ⟨false,(prP us.length ps.length).map ddOf⟩/\Ex S S'/\S.length<=q:=by
 obtain⟨S1,e1,h1,x1⟩:=Gae (w:=.l) (s:=.str "let") (e:=ac (b1 Hr (ac (vr 2) an)) an) (ρ:=[some (cD ps us),some (.tup (ps.map Pl.toD)),some (.tup (us.map gd)),none,none,none,none]) (N:=us.length) (S:=S) rfl (by simp) (by omega)
 obtain⟨S2,e2,h2,x2⟩:=Gae (w:=.f) (s:=.str "feed") (e:=ac (b1 Hr (ac (vr 1) an)) an) (ρ:=[some (cD ps us),some (.tup (ps.map Pl.toD)),some (.tup (us.map gd)),some (.lst S.length),none,none,none]) (N:=ps.length) (S:=S1) rfl (by simp) (by omega)
 obtain⟨S3,e3,h3,x3⟩:=Gae (w:=.r) (s:=.str "right") (e:=ac (b1 Hr (ac (vr 2) an)) an) (ρ:=[some (cD ps us),some (.tup (ps.map Pl.toD)),some (.tup (us.map gd)),some (.lst S.length),some (.lst S1.length),none,none]) (N:=us.length) (S:=S2) rfl (by simp) (by omega)
 obtain⟨S4,e4,h4,x4⟩:=Gae (w:=.e) (s:=.str "left") (e:=ac (b1 Hr (ac (vr 2) an)) an) (ρ:=[some (cD ps us),some (.tup (ps.map Pl.toD)),some (.tup (us.map gd)),some (.lst S.length),some (.lst S1.length),some (.lst S2.length),none]) (N:=us.length) (S:=S3) rfl (by simp) (by omega)
 have ln:∀ w n,((prs w n).map ddOf).length=n:=fun w n=>by simp[prs]
 have a1:=Gcz (((x2.trans x3).trans x4).at h1) ((x3.trans x4).at h2) (by rw[ln,ln]; omega)
 have a2:=Gcz (S:=S4++[⟨false,(prs .l us.length).map ddOf++(prs .f ps.length).map ddOf⟩]) Hc (Jw (x4.at h3)) (by rw[AB,ln,ln,ln]; omega)
 have a3:=Gcz (S:=(S4++[⟨false,(prs .l us.length).map ddOf++(prs .f ps.length).map ddOf⟩])++[⟨false,((prs .l us.length).map ddOf++(prs .f ps.length).map ddOf)++(prs .r us.length).map ddOf⟩]) Hc (Jw (Jw h4)) (by rw[AB,AB,ln,ln,ln,ln]; omega)
 refine⟨((S4++[(⟨false,(prs .l us.length).map ddOf++(prs .f ps.length).map ddOf⟩:Cell)])++[(⟨false,((prs .l us.length).map ddOf++(prs .f ps.length).map ddOf)++(prs .r us.length).map ddOf⟩:Cell)]).length,S4++[⟨false,(prs .l us.length).map ddOf++(prs .f ps.length).map ddOf⟩]++[⟨false,((prs .l us.length).map ddOf++(prs .f ps.length).map ddOf)++(prs .r us.length).map ddOf⟩]++[⟨false,(((prs .l us.length).map ddOf++(prs .f ps.length).map ddOf)++(prs .r us.length).map ddOf)++(prs .e us.length).map ddOf⟩],?_,?_,(((((x1.trans x2).trans x3).trans x4).trans Ex.app).trans Ex.app).trans Ex.app,?_⟩
 rotate_left
 ·rw[Hc]
  unfold prP
  rw[By,By,By]
 ·have:=x1.len; have:=x2.len; have:=x3.len; have:=x4.len
  rw[AB,AB]
  omega
 refine(Gq (m:=7) (b:=Ub)).trans ?_
 show fin (Ub [some (cD ps us),none,none,none,none,none,none] S)=_
 unfold Ub
 refine(Gm (ρ':=[some (cD ps us),some (.tup (ps.map Pl.toD)),some (.tup (us.map gd)),none,none,none,none]) (S':=S) rfl).trans ?_
 refine(Gm (ρ':=[some (cD ps us),some (.tup (ps.map Pl.toD)),some (.tup (us.map gd)),some (.lst S.length),none,none,none]) (S':=S1) (by rw[Gcx,e1]; rfl)).trans ?_
 refine(Gm (ρ':=[some (cD ps us),some (.tup (ps.map Pl.toD)),some (.tup (us.map gd)),some (.lst S.length),some (.lst S1.length),none,none]) (S':=S2) (by rw[Gcx,e2]; rfl)).trans ?_
 refine(Gm (ρ':=[some (cD ps us),some (.tup (ps.map Pl.toD)),some (.tup (us.map gd)),some (.lst S.length),some (.lst S1.length),some (.lst S2.length),none]) (S':=S3) (by rw[Gcx,e3]; rfl)).trans ?_
 refine(Gm (ρ':=[some (cD ps us),some (.tup (ps.map Pl.toD)),some (.tup (us.map gd)),some (.lst S.length),some (.lst S1.length),some (.lst S2.length),some (.lst S3.length)]) (S':=S4) (by rw[Gcx,e4]; rfl)).trans ?_
 simp only[Grc,Gzi,Gzh,List.getElem?_cons_succ,List.getElem?_cons_zero,Gaa,a1,a2,a3]
 rfl
theorem apd(h:S[q]?=some ⟨false,xs⟩)(hl:xs.length<1000000):Gez (.lst q) [d] S=.ok .non (S.set q ⟨false,xs++[d]⟩):=by
 simp only[Gez,h]
 simp[hl]
noncomputable def Res.three:Res->List D
 | .yes (.tup l)=>l
 | _=>[]
noncomputable def st4(res:Wd×Nat->Res)(p:Wd×Nat):D:=.tup (ddOf p::(res p).three)
theorem Grx{l:List α}{k:Nat}{p:α}{f:α->Bool}(h:l[k]?=some p):(l.take (k+1)).filter f=(l.take k).filter f++if f p=true then[p] else[]:=by
 rw[Bx,h,List.filter_append]
 show _++[p].filter f=_
 rw[List.filter_cons]
 rfl
theorem Gbp{p:Wd×Nat}(h:p∈prs w n):p.2<n:=by
 obtain⟨k,hk,rfl⟩:=Ay.mp h
 exact AU.mp hk
theorem Gc6{p:Wd×Nat}(hm:m<=N)(h:p∈prP m N):p.2<N:=by
 unfold prP at h
 simp only[Be] at h
 rcases h with((h | h) | h) | h
 ·have:=Gbp h; omega
 ·have:=Gbp h; omega
 ·have:=Gbp h; omega
 ·have:=Gbp h; omega
theorem Gbq:(prs w n).length=n:=by simp[prs]
theorem Gke:(prP m N).length=m+N+m+m:=by
 unfold prP
 rw[AB,AB,AB,Gbq,Gbq,Gbq,Gbq]
theorem Gon{x:Str}{fn:Fn}{t:Ev (List D)}(h:ρ[2]?=some (some (.fv x)))(ht:t ρ S=.ok ds S1)(hl:ds.length=n):clv 2 x n fn t ρ S=fn ds S1:=by
 unfold clv
 rw[h]
 simp only[if_true,ht,Gaa,hl]
section
variable{ps:List Pl}{us:List Bool}{L R F:List Int}{res:Wd×Nat->Res}
noncomputable abbrev rs8(ps:List Pl)(us:List Bool)(L R F:List Int)(x3 x4 x5 x6 x7:Option D):Lc:=[some (cD ps us),some (stD L R F),some (.fv "deed_done"),x3,x4,x5,x6,x7]
theorem Gry{p:Wd×Nat}{x3 x5 x6 x7:Option D}(did:Gj [cD ps us,stD L R F,ddOf p] S=.exc ⟨y,none⟩ S)(hy:y∈ys):Jg (rs8 ps us L R F x3 (some (ddOf p)) x5 x6 x7) S=.ct (rs8 ps us L R F x3 (some (ddOf p)) x5 x6 x7) S:=by
 unfold Jg
 have e:Kc (rs8 ps us L R F x3 (some (ddOf p)) x5 x6 x7) S=.exc ⟨y,none⟩ (rs8 ps us L R F x3 (some (ddOf p)) x5 x6 x7) S:=by
  have ec:clv 2 "deed_done" 3 (gX ys Gj) (ac (vr 0) (ac (vr 1) (ac (vr 4) an))) (rs8 ps us L R F x3 (some (ddOf p)) x5 x6 x7) S=gX ys Gj [cD ps us,stD L R F,ddOf p] S:=Gon (ds:=[cD ps us,stD L R F,ddOf p]) (S1:=S) rfl (by simp) rfl
  unfold Kc
  rw[Gcx,ec,Xo did hy,Geg]
 rw[Gab,Gj5 e hy]
 rfl
theorem Goo{p:Wd×Nat}{a b c:D}{x5 x6 x7:Option D}(did:Gj [cD ps us,stD L R F,ddOf p] S=.ok (.tup [a,b,c]) S)(hq:S[q]?=some ⟨false,xs⟩)(hl:xs.length<1000000):Jg (rs8 ps us L R F (some (.lst q)) (some (ddOf p)) x5 x6 x7) S=.nx (rs8 ps us L R F (some (.lst q)) (some (ddOf p)) (some a) (some b) (some c)) (S.set q ⟨false,xs++[.tup [ddOf p,a,b,c]]⟩):=by
 unfold Jg
 have e:Kc (rs8 ps us L R F (some (.lst q)) (some (ddOf p)) x5 x6 x7) S=.nx (rs8 ps us L R F (some (.lst q)) (some (ddOf p)) (some a) (some b) (some c)) S:=by
  have ec:clv 2 "deed_done" 3 (gX ys Gj) (ac (vr 0) (ac (vr 1) (ac (vr 4) an))) (rs8 ps us L R F (some (.lst q)) (some (ddOf p)) x5 x6 x7) S=gX ys Gj [cD ps us,stD L R F,ddOf p] S:=Gon (ds:=[cD ps us,stD L R F,ddOf p]) (S1:=S) rfl (by simp) rfl
  unfold Kc
  rw[Gcx,ec,Yq did,Jq]
  rfl
 rw[Gee (Gn6 e)]
 have il:isLst (.lst q) S=true:=by simp[isLst,hq]
 simp[apd hq hl,il]
theorem Gop(hl:ps.length<=13)(hu:us.length+1=ps.length)(hr:∀ w k,k<ps.length->Rs ps us L R F (ddOf (w,k)) (res (w,k))):
  ∃ S',Kx [cD ps us,stD L R F,.fv "deed_done"] S=.ok (.lst S.length) S'/\S'[S.length]?=some ⟨false,((prP us.length ps.length).filter fun p=>(res p).isY).map (st4 res)⟩/\Ex S S':=by
 have q1:(S++[(⟨false,[]⟩:Cell)])[S.length]?=some ⟨false,[]⟩:=Hc
 have x1:Ex S (S++[⟨false,[]⟩]):=Ex.app
 have l1:S.length<(S++[(⟨false,[]⟩:Cell)]).length:=by simp
 have e0:sa (ls an) (gn 3) (rs8 ps us L R F none none none none none) S=.nx (rs8 ps us L R F (some (.lst S.length)) none none none none) (S++[⟨false,[]⟩]):=by simp
 generalize S++[(⟨false,[]⟩:Cell)]=S1 at q1 x1 l1 e0
 obtain⟨q,S2,e2,h2,x2,lq⟩:=Gw3 (S:=S1) hl hu
 have pl:=Gke (m:=us.length) (N:=ps.length)
 obtain⟨ρ',S',ef,g4,g5,g6,g7,hρ,hq3,hq0,x⟩:=Ghl (nxt:=(Gau q ((prP us.length ps.length).map ddOf).length).nxt) (g:=gn 4) (b:=Jg) (l:=(prP us.length ps.length).map ddOf)
  (fun k ρ S'=>∃ g4 g5 g6 g7,ρ=rs8 ps us L R F (some (.lst S.length)) g4 g5 g6 g7/\S'[S.length]?=some ⟨false,(((prP us.length ps.length).take k).filter fun p=>(res p).isY).map (st4 res)⟩/\S'[q]?=some ⟨false,(prP us.length ps.length).map ddOf⟩/\Ex S S')
  (fun k ρ S' ⟨_,_,_,_,_,_,h,_⟩=>by
   show(S'[q]?).bind (fun c=>c.xs[k]?)=_
   rw[h]; rfl)
  (fun k d ρ S' hd ⟨g4,g5,g6,g7,h1,h3,h4,h5⟩=>by
   subst h1
   rw[Aw] at hd
   cases hk:(prP us.length ps.length)[k]? with
   | none=>rw[hk] at hd; cases hd
   | some p=>
    rw[hk] at hd
    cases (Ac hd)
    have rs:Rs ps us L R F (ddOf p) (res p):=hr p.1 p.2 (Gc6 (by omega) (Ai hk))
    have tk:((prP us.length ps.length).take (k+1)).filter (fun p=>(res p).isY)=((prP us.length ps.length).take k).filter (fun p=>(res p).isY)++if(res p).isY=true then[p] else[]:=Grx hk
    have did:=rs.did S'
    have kd:=rs.kd
    have l3:((((prP us.length ps.length).take k).filter fun p=>(res p).isY).map (st4 res)).length<1000:=by
     rw[AD]
     have:=List.length_filter_le (fun p=>(res p).isY) ((prP us.length ps.length).take k)
     have:=List.length_take_le k (prP us.length ps.length)
     have:((prP us.length ps.length).take k).length<=(prP us.length ps.length).length:=by rw[Bh]; omega
     omega
    cases hres:res p with
    | no y=>
     rw[hres] at did kd
     cases kd with
     | no hy=>
      refine⟨rs8 ps us L R F (some (.lst S.length)) (some (ddOf p)) g5 g6 g7,_,S',rfl,.inr (Gry did hy),_,_,_,_,rfl,?_,h4,h5⟩
      have hy0:(res p).isY=false:=by rw[hres]; rfl
      rw[tk,if_neg (by rw[hy0]; decide),A4]
      exact h3
    | yes d=>
     rw[hres] at did kd
     cases kd with
     | yes hst _ _=>
      have ls:S.length<S'.length:=(Ab.mp h3).1
      refine⟨rs8 ps us L R F (some (.lst S.length)) (some (ddOf p)) g5 g6 g7,_,_,rfl,.inl (Goo did h3 (by omega)),_,_,_,_,rfl,?_,?_,h5.setq (Aa _)⟩
      ·have hy1:(res p).isY=true:=by rw[hres]; rfl
       rw[Av ls,tk,if_pos hy1,By,Au,List.map_nil,show st4 res p=.tup (ddOf p::(res p).three) from rfl,hres]
       rfl
      ·rw[Am (by omega)]
       exact h4) (((prP us.length ps.length).map ddOf).length+1) 0 (rs8 ps us L R F (some (.lst S.length)) none none none none) S2 (AC _) ⟨none,none,none,none,rfl,x2.at q1,h2,x1.trans x2⟩ (AJ _)
 subst hρ
 rw[AD,List.take_length] at hq3
 refine⟨S',?_,hq3,x⟩
 refine(Gq (m:=8) (b:=Uc)).trans ?_
 show fin (Uc (rs8 ps us L R F none none none none none) S)=_
 unfold Uc
 refine(Gm e0).trans ?_
 refine(Gm (ρ':=rs8 ps us L R F (some (.lst S.length)) g4 g5 g6 g7) (S':=S') ?_).trans ?_
 ·rw[Yc,Gjv]
  have:cl 1 (Go Wb) (ac (vr 0) an) (rs8 ps us L R F (some (.lst S.length)) none none none none) S1=.ok (.lst q) S2:=by simp[e2]
  rw[this,Gaa,Ghg h2,Jq]
  exact ef
 simp
end
end Law
namespace BF
variable{α:Type}[DecidableEq α]
theorem Gix:∀ {l m:List α},l.Nodup->(∀ x∈l,x∈m)->l.length<=m.length
 | [],m,_,_=>AC _
 | a::r,m,h,hm=>by
  obtain⟨h1,h2⟩:=A8.mp h
  have ha:=hm a Aq
  have:=Gix (l:=r) (m:=m.erase a) h2 fun x hx=>(List.mem_erase_of_ne (show x≠a from fun e=>h1 (by rw[<- e]; exact hx))).mpr (hm x (An _ hx))
  rw[List.length_erase_of_mem ha] at this
  have:=List.length_pos_of_mem ha
  simp
  omega
noncomputable def Wk(t:List α)(b:α):List α:=if b∈t then t else t++[b]
noncomputable def Qo(t:List α)(bs:List α):List α:=bs.foldl Wk t
theorem Goq{t:List α}{b x:α}:x∈Wk t b↔x∈t\/x=b:=by
 unfold Wk
 by_cases h:b∈t
 ·rw[if_pos h]
  exact⟨.inl,fun z=>z.elim id fun e=>e▸h⟩
 ·rw[if_neg h]; simp
theorem Grz{t:List α}{b:α}(h:t.Nodup):(Wk t b).Nodup:=by
 unfold Wk
 by_cases hb:b∈t
 ·rw[if_pos hb]; exact h
 ·rw[if_neg hb]
  refine List.nodup_append.mpr ⟨h,by simp,fun x hx y hy=>?_⟩
  rw[AY.mp hy]
  exact fun e=>hb (e▸hx)
theorem Gor{t:List α}{b:α}:∃ r,Wk t b=t++r:=by
 unfold Wk
 split
 ·exact⟨[],by simp⟩
 ·exact⟨[b],rfl⟩
theorem Yf{t:List α}{b:α}{bs:List α}:Qo t (b::bs)=Qo (Wk t b) bs:=rfl
theorem Glq{t:List α}{b:α}{bs:List α}:Qo t (bs++[b])=Wk (Qo t bs) b:=by unfold Qo; rw[List.foldl_append]; rfl
theorem Xq:∀ {bs t:List α} {x:α},x∈Qo t bs↔x∈t\/x∈bs
 | [],t,x=>by simp[Qo]
 | b::bs,t,x=>by
  rw[Yf,Xq,Goq,Ad]
  exact⟨fun h=>h.elim (fun h=>h.elim .inl fun e=>.inr (.inl e)) fun h=>.inr (.inr h),fun h=>h.elim (fun h=>.inl (.inl h)) fun h=>h.elim (fun e=>.inl (.inr e)) .inr⟩
theorem Gkf:∀ {bs t:List α},t.Nodup->(Qo t bs).Nodup
 | [],t,h=>h
 | b::bs,t,h=>by rw[Yf]; exact Gkf (Grz h)
theorem Gaf:∀ {bs t:List α},∃ r,Qo t bs=t++r
 | [],t=>⟨[],by simp[Qo]⟩
 | b::bs,t=>by
  obtain⟨r,h⟩:=Gor (t:=t) (b:=b)
  obtain⟨q,h2⟩:=Gaf (bs:=bs) (t:=Wk t b)
  exact⟨r++q,by rw[Yf,h2,h,Br]⟩
inductive Rch(step:α->List α)(s:α):α->Prop
 | nil:Rch step s s
 | cons {x y:α} (h:Rch step s x) (k:y∈step x):Rch step s y
structure Bf(step:α->List α)(s:α)(t:List α)(n:Nat):Prop where
 nd:t.Nodup
 hd:s∈t
 re:∀ x∈t,Rch step s x
 cl:∀ i,i<n->∀ x,t[i]?=some x->∀ b∈step x,b∈t
 le:n<=t.length
theorem Bf.one{step:α->List α}{s:α}:Bf step s [s] 0:=⟨by simp,by simp,fun x hx=>by rw[AY.mp hx]; exact .nil,fun i h=>by omega,by simp⟩
theorem Bf.next{step:α->List α}{s x:α}{t:List α}{n:Nat}(h:Bf step s t n)(hx:t[n]?=some x):Bf step s (Qo t (step x)) (n+1):=by
 obtain⟨r,hr⟩:=Gaf (bs:=step x) (t:=t)
 have hn:=(Ab.mp hx).1
 refine⟨Gkf h.nd,Xq.mpr (.inl h.hd),fun y hy=>?_,fun i hi y hy b hb=>?_,by rw[hr]; simp; omega⟩
 ·rcases Xq.mp hy with hy | hy
  ·exact h.re y hy
  ·exact .cons (h.re x (Ai hx)) hy
 ·rw[hr,Ar (by omega)] at hy
  by_cases e:i=n
  ·subst e
   rw[hx] at hy
   cases hy
   exact Xq.mpr (.inr hb)
  ·exact Xq.mpr (.inl (h.cl i (by omega) y hy b hb))
theorem Bf.all{step:α->List α}{s:α}{t:List α}(h:Bf step s t t.length){x:α}(r:Rch step s x):x∈t:=by
 induction r with
 | nil=>exact h.hd
 | cons _ k ih=>
  obtain⟨i,hi⟩:=Bo.mp ih
  exact h.cl i (Ab.mp hi).1 _ hi _ k
theorem Bf.few{step:α->List α}{s:α}{t u:List α}{n:Nat}(h:Bf step s t n)(hu:∀ x,Rch step s x->x∈u):t.length<=u.length:=Gix h.nd fun x hx=>hu x (h.re x hx)
end BF
namespace Law
open PySem PySem.Spec PyProof.Rows L2 DL
noncomputable abbrev S3:=List Int×List Int×List Int
noncomputable def stE(s:S3):D:=stD s.1 s.2.1 s.2.2
noncomputable def kS(s:S3):NK:=.t [.t (s.1.map .i),.t (s.2.1.map .i),.t (s.2.2.map .i)]
theorem Gkg:∀ (l:List Int),nkOs (l.map D.int)=some (l.map NK.i)
 | []=>rfl
 | a::r=>by simp only[Au,nkOs,nkO,Gkg r,AQ,Option.map_some]
theorem Gkh(s:S3):nkO (stE s)=some (kS s):=by
 unfold stE stD kS
 simp only[nkO,nkOs,Gkg,AQ,Option.map_some]
theorem Yg:∀ {l m:List Int},l.map NK.i=m.map NK.i->l=m
 | [],[],_=>rfl
 | [],_::_,h=>by simp at h
 | _::_,[],h=>by simp at h
 | a::r,b::q,h=>by
  simp only[Au,List.cons.injEq,NK.i.injEq] at h
  rw[h.1,Yg h.2]
theorem Giy{a b:S3}(h:kS a=kS b):a=b:=by
 obtain⟨a1,a2,a3⟩:=a
 obtain⟨b1,b2,b3⟩:=b
 simp only[kS,NK.t.injEq,List.cons.injEq,and_true] at h
 obtain⟨h1,h2,h3⟩:=h
 rw[Yg h1,Yg h2,Yg h3]
theorem Gki:∀ (l:List Int),PyData.depthAll (pks (l.map NK.i))=0
 | []=>rfl
 | a::r=>by simp only[Au,pks,pk,PyData.depthAll,PyData.depth,Gki r]; rfl
theorem Gr0{a b:S3}(h:stE a=stE b):a=b:=by
 have:=Gkh a
 rw[h,Gkh b] at this
 exact(Giy (Ac this)).symm
theorem Gc7{s:S3}:Vr (stE s)=some (kS s):=by
 have e:Vr (stE s)=(match nkO (stE s) with | some κ=>if(pk κ).depth<=8 then some κ else none | none=>none):=rfl
 rw[e,Gkh]
 have:(pk (kS s)).depth<=8:=by
  simp only[kS,pk,pks,PyData.depth,PyData.depthAll,Gki]
  decide
 simp only[this,if_true]
theorem tkM{α:Type}{l:List α}{g:α->S3}{h:α->D}:(l.map fun e=>D.tup [stE (g e),h e]).all Ge7=true:=by simp[Ge7,stE,stD]
theorem Hbn{S:Sto}{f:Nat}{κ:NK}{x:D}{xs:List D}{neg z:Bool}(e:S[f]?=some ⟨z,xs⟩)(k:Vr x=some κ)(t:xs.all Ge7=true:=by exact tkM):Gg0 neg x (.dct f) S=.ok (.bl (if neg=true then !(dlook κ xs).isSome else(dlook κ xs).isSome)) S:=by
 simp only[Gg0,e,k,t,if_true]
theorem Gos{S:Sto}{f:Nat}{κ:NK}{x z:D}{xs:List D}(e:S[f]?=some ⟨false,xs⟩)(k:Vr x=some κ)(h:dlook κ xs=none)(hl:xs.length<1000000)(t:xs.all Ge7=true:=by exact tkM):dsetD (.dct f) x z S=some (S.set f ⟨false,xs++[.tup [x,z]]⟩):=by
 have:dput κ x z xs=xs++[.tup [x,z]]:=by unfold dput; rw[h]; rfl
 simp only[dsetD,e,k,this,hl,t,and_self,if_true]
theorem Got{c:Ev Bool}{b:Sv}(p:Nat)(I:Nat->Lc->Sto->Prop)(hc:∀ j ρ S,j<p->I j ρ S->c ρ S=.ok true S)(hs:∀ j ρ S,j<p->I j ρ S->∃ ρ2 S2,b ρ S=.nx ρ2 S2/\I (j+1) ρ2 S2):
  ∀ (r j f:Nat) (ρ:Lc) (S:Sto),j+r=p->I j ρ S->∃ ρ' S',I p ρ' S'/\whN c b (f+r) ρ S=whN c b f ρ' S'
 | 0,j,f,ρ,S,e,h=>⟨ρ,S,by rw[<- e]; exact h,rfl⟩
 | r+1,j,f,ρ,S,e,h=>by
  obtain⟨ρ2,S2,e1,h2⟩:=hs j ρ S (by omega) h
  obtain⟨ρ',S',h3,e3⟩:=Got p I hc hs r (j+1) f ρ2 S2 (by omega) h2
  refine⟨ρ',S',h3,?_⟩
  rw[<- e3]
  show whN c b (f+r+1) ρ S=_
  rw[whN,hc j ρ S (by omega) h]
  simp only[bindS,if_true,e1]
noncomputable def sdP(s:S3):D:=.tup [stE s,.bl true]
theorem Gc8{s:S3}:∀ {t:List S3},(dlook (kS s) (t.map sdP)).isSome=decide (s∈t)
 | []=>rfl
 | x::t=>by
  show(if nkO (stE x)=some (kS s) then some (D.bl true) else dlook (kS s) (t.map sdP)).isSome=_
  rw[Gkh]
  by_cases c:x=s
  ·subst c
   simp
  ·have:¬ some (kS x)=some (kS s):=fun z=>c (Giy (Ac z))
   rw[if_neg this,Gc8 (t:=t)]
   have c':¬ s=x:=fun z=>c z.symm
   simp[c']
theorem Glr{s:S3}{t:List S3}(h:s∉t):dlook (kS s) (t.map sdP)=none:=by
 have:=Gc8 (s:=s) (t:=t)
 rw[decide_eq_false h] at this
 exact Option.isNone_iff_eq_none.mp (by rw[Option.isNone_iff_eq_none]; exact Option.not_isSome_iff_eq_none.mp (by rw[this]; decide))
structure Cn(ps:List Pl)(us:List Bool):Prop where
 hp:∀ p∈ps,p.ok
 hl:ps.length<=13
 hu:us.length+1=ps.length
noncomputable abbrev Gd(ps:List Pl)(s:S3):Prop:=StF ps s.1 s.2.1 s.2.2
noncomputable def PR(ps:List Pl)(us:List Bool)(s:S3)(res:Wd×Nat->Res):Prop:=(∀ w k,k<ps.length->Rs ps us s.1 s.2.1 s.2.2 (ddOf (w,k)) (res (w,k)))/\∀ w,w≠.f->(res (w,us.length)).isY=false
open Classical in
noncomputable def resOf (ps:List Pl) (us:List Bool) (s:S3):Wd×Nat->Res:=if h:∃ res,PR ps us s res then Classical.choose h else fun _=>.no "NoGate"
open Classical in
noncomputable def bh (r:Res):S3:=if h:∃ s:S3,∃ p g:Int,r=.yes (.tup [stE s,.int p,.int g]) then Classical.choose h else([],[],[])
theorem Gkj{s:S3}{p g:Int}:bh (.yes (.tup [stE s,.int p,.int g]))=s:=by
 have h:∃ s':S3,∃ p' g':Int,Res.yes (.tup [stE s,.int p,.int g])=.yes (.tup [stE s',.int p',.int g']):=⟨s,p,g,rfl⟩
 unfold bh
 rw[dif_pos h]
 obtain⟨p',g',e⟩:=Classical.choose_spec h
 injection e with e
 injection e with e
 simp only[List.cons.injEq] at e
 exact(Gr0 e.1).symm
noncomputable def yesL (ps:List Pl) (us:List Bool) (s:S3):List (Wd×Nat):=(prP us.length ps.length).filter fun p=>(resOf ps us s p).isY
noncomputable def stepS (ps:List Pl) (us:List Bool) (s:S3):List S3:=(yesL ps us s).map fun p=>bh (resOf ps us s p)
section
variable{ps:List Pl}{us:List Bool}{s s0:S3}{S:Sto}
theorem Gf7(C:Cn ps us)(g:Gd ps s):PR ps us s (resOf ps us s):=by
 have h:∃ res,PR ps us s res:=Grw C.hp C.hl C.hu g.toR g
 unfold resOf
 rw[dif_pos h]
 exact Classical.choose_spec h
theorem Giz(C:Cn ps us)(g:Gd ps s){p:Wd×Nat}(h:p∈yesL ps us s):∃ (s':S3) (pr ga:Int),resOf ps us s p=.yes (.tup [stE s',.int pr,.int ga])/\bh (resOf ps us s p)=s'/\Gd ps s'/\st4 (resOf ps us s) p=.tup [ddOf p,stE s',.int pr,.int ga]:=by
 obtain⟨hp,hy⟩:=A7.mp h
 have rs:=(Gf7 C g).1 p.1 p.2 (Gc6 (by have:=C.hu; omega) hp)
 have kd:=rs.kd
 cases hres:resOf ps us s p with
 | no y=>rw[hres] at hy; cases hy
 | yes d=>
  rw[show(p.1,p.2)=p from rfl,hres] at kd
  cases kd with
  | yes hst hp0 hg0=>
   rename_i A B C' a g'
   refine⟨(A,B,C'),a,g',rfl,Gkj (s:=(A,B,C')),hst,?_⟩
   show D.tup (ddOf p::(resOf ps us s p).three)=_
   rw[hres]
   rfl
theorem Gkk(C:Cn ps us)(g:Gd ps s){x:S3}(h:x∈stepS ps us s):Gd ps x:=by
 obtain⟨p,hp,rfl⟩:=Ay.mp h
 obtain⟨s',_,_,_,e,h',_⟩:=Giz C g hp
 rw[e]; exact h'
theorem Gw4(C:Cn ps us)(g:Gd ps s0){x:S3}(h:BF.Rch (stepS ps us) s0 x):Gd ps x:=by
 induction h with
 | nil=>exact g
 | cons _ k ih=>exact Gkk C ih k
theorem Gr1:(yesL ps us s).length<=us.length+ps.length+us.length+us.length:=by
 have:=List.length_filter_le (fun p=>(resOf ps us s p).isY) (prP us.length ps.length)
 rw[Gke] at this
 exact this
theorem Ghm(C:Cn ps us)(g:Gd ps s):∃ S',Kx [cD ps us,stE s,.fv "deed_done"] S=.ok (.lst S.length) S'/\S'[S.length]?=some ⟨false,(yesL ps us s).map (st4 (resOf ps us s))⟩/\Ex S S':=Gop C.hl C.hu (Gf7 C g).1
end
end Law
namespace Law
open PySem PySem.Spec PyProof.Rows L2 DL BF
variable{a j f m:Nat}{tl:List D}{S0:Sto}{lim:Int}{ρ:Lc}
section
variable{ps:List Pl}{us:List Bool}{s s0 x:S3}{S:Sto}{t:List S3}{n:Nat}
noncomputable def Tw(ps:List Pl)(us:List Bool)(t:List S3)(k:Nat)(s:S3)(a b:D):Prop:=
 (k=0/\a=.non/\b=.non)\/(∃ (j:Nat) (p:Wd×Nat) (sj:S3),j<k/\t[j]?=some sj/\p∈yesL ps us sj/\bh (resOf ps us sj p)=s/\a=.int (j:Int)/\b=ddOf p)
structure Tl(ps:List Pl)(us:List Bool)(t:List S3)(tl:List D):Prop where
 len:tl.length=t.length
 at':∀ (k:Nat) (s:S3),t[k]?=some s->∃ a b,tl[k]?=some (.tup [stE s,a,b])/\Tw ps us t k s a b
theorem Tw.app{r:List S3}{k:Nat}{a b:D}(h:Tw ps us t k s a b):Tw ps us (t++r) k s a b:=by
 rcases h with h | ⟨j,p,sj,h1,h2,h3⟩
 ·exact .inl h
 ·exact .inr ⟨j,p,sj,h1,by rw[Ar (Ab.mp h2).1]; exact h2,h3⟩
theorem Tl.snoc{p:Wd×Nat}(h:Tl ps us t tl)(hj:t[j]?=some x)(hp:p∈yesL ps us x)(e:bh (resOf ps us x p)=s):Tl ps us (t++[s]) (tl++[.tup [stE s,.int (j:Int),ddOf p]]):=by
 have jl:=(Ab.mp hj).1
 refine⟨by simp[h.len],fun k s' hk=>?_⟩
 by_cases c:k<t.length
 ·rw[Ar c] at hk
  obtain⟨a,b,h1,h2⟩:=h.at' k s' hk
  exact⟨a,b,by rw[Ar (by rw[h.len]; exact c)]; exact h1,h2.app⟩
 ·have ek:k=t.length:=by
   have:=(Ab.mp hk).1
   simp at this; omega
  subst ek
  rw[AW (Aa _)] at hk
  simp at hk
  subst hk
  refine⟨.int (j:Int),ddOf p,?_,.inr ⟨j,p,x,jl,by rw[Ar jl]; exact hj,hp,e,rfl,rfl⟩⟩
  rw[AW (by rw[h.len]; exact Aa _),h.len]
  simp
noncomputable abbrev rm(ps:List Pl)(us:List Bool)(s0:S3)(lim:Int)(a f:Nat)(n:Nat)(x7 x8 x9 x10:Option D):Lc:=[some (cD ps us),some (stE s0),some (.int lim),some (.fv "deed_done"),some (.lst a),some (.dct f),some (.int n),x7,x8,x9,x10]
structure K2(a f:Nat)(S S':Sto):Prop where
 len:S.length<=S'.length
 get:∀ i,i<S.length->i≠a->i≠f->S'[i]?=S[i]?
theorem K2.refl:K2 a f S S:=⟨Aa _,fun _ _ _ _=>rfl⟩
theorem K2.trans{S1 S2:Sto}(h:K2 a f S S1)(g:K2 a f S1 S2):K2 a f S S2:=⟨Ao h.len g.len,fun i hi h1 h2=>(g.get i (Af hi h.len) h1 h2).trans (h.get i hi h1 h2)⟩
theorem K2.set{i:Nat}{c:Cell}(h:i=a\/i=f):K2 a f S (S.set i c):=⟨by simp,fun j _ h1 h2=>by rw[Am]; rcases h with h | h<;>(subst h; first | exact Ne.symm h1 | exact Ne.symm h2)⟩
theorem K2.at{i:Nat}{c:Cell}{S':Sto}(h:K2 a f S S')(e:S[i]?=some c)(h1:i≠a)(h2:i≠f):S'[i]?=some c:=(h.get i (Ab.mp e).1 h1 h2).trans e
theorem K2.ex{S':Sto}(x:Ex S0 S)(h:K2 a f S S')(ha:S0.length<=a)(hf:S0.length<=f):Ex S0 S':=⟨Ao x.len h.len,fun i hi=>(h.get i (Af hi x.len) (by omega) (by omega)).trans (x.get i hi)⟩
theorem Gr2(C:Cn ps us)(g:Gd ps x){p:Wd×Nat}(hp:p∈yesL ps us x)(hx:t[n]?=some x)(ha:S[a]?=some ⟨false,tl⟩)(hf:S[f]?=some ⟨false,t.map sdP⟩)(ne:a≠f)(T:Tl ps us t tl)(hl:t.length<10000){pr ga:D}:
  ∃ S' tl',Jn (rm ps us s0 lim a f n (some (ddOf p)) (some (stE (bh (resOf ps us x p)))) (some pr) (some ga)) S=.nx (rm ps us s0 lim a f n (some (ddOf p)) (some (stE (bh (resOf ps us x p)))) (some pr) (some ga)) S'/\S'[a]?=some ⟨false,tl'⟩/\S'[f]?=some ⟨false,(Wk t (bh (resOf ps us x p))).map sdP⟩/\Tl ps us (Wk t (bh (resOf ps us x p))) tl'/\K2 a f S S':=by
 generalize hs:bh (resOf ps us x p)=s'
 have iq:=Hbn (neg:=true) hf (Gc7 (s:=s'))
 rw[Gc8] at iq
 simp only[if_true] at iq
 by_cases c:s'∈t
 ·have e1:Wk t s'=t:=if_pos c
  rw[e1]
  refine⟨S,tl,?_,ha,hf,T,K2.refl⟩
  generalize stE s'=sd at *
  generalize stE s0=sd0 at *
  generalize cD ps us=cd at *
  generalize ddOf p=dp at *
  simp[Jn,iq,c]
 ·have e1:Wk t s'=t++[s']:=if_neg c
  rw[e1]
  have ds:=Gos (z:=.bl true) hf (Gc7 (s:=s')) (Glr c) (by simp; omega)
  have lf:f<S.length:=(Ab.mp hf).1
  have e2:t.map sdP++[.tup [stE s',.bl true]]=(t++[s']).map sdP:=by simp[sdP]
  rw[e2] at ds
  have f1:(S.set f ⟨false,(t++[s']).map sdP⟩)[f]?=some ⟨false,(t++[s']).map sdP⟩:=Av lf
  have a1:(S.set f ⟨false,(t++[s']).map sdP⟩)[a]?=some ⟨false,tl⟩:=by rw[Am (Ne.symm ne)]; exact ha
  have k1:K2 a f S (S.set f ⟨false,(t++[s']).map sdP⟩):=K2.set (.inr rfl)
  generalize S.set f ⟨false,(t++[s']).map sdP⟩=S1 at *
  have la:a<S1.length:=(Ab.mp a1).1
  have ap:=apd (d:=.tup [stE s',.int (n:Int),ddOf p]) a1 (by rw[T.len]; omega)
  have il:isLst (.lst a) S1=true:=by simp[isLst,a1]
  refine⟨S1.set a ⟨false,tl++[.tup [stE s',.int (n:Int),ddOf p]]⟩,tl++[.tup [stE s',.int (n:Int),ddOf p]],?_,Av la,by rw[Am ne]; exact f1,T.snoc hx hp hs,k1.trans (K2.set (.inl rfl))⟩
  generalize (⟨false,tl++[.tup [stE s',.int (n:Int),ddOf p]]⟩:Cell)=cc at *
  generalize stE s'=sd at *
  generalize stE s0=sd0 at *
  generalize cD ps us=cd at *
  generalize ddOf p=dp at *
  simp[Jn,iq,c,ds,il,ap]
noncomputable abbrev g4m:Tg:=gt (gcons (gn 7) (gcons (gn 8) (gcons (gn 9) (gcons (gn 10) gnil)))) 4
theorem Gw5(C:Cn ps us)(g:Gd ps x){q:Nat}{x7 x8 x9 x10:Option D}(hx:t[n]?=some x)(ha:S[a]?=some ⟨false,tl⟩)(hf:S[f]?=some ⟨false,t.map sdP⟩)(hq:S[q]?=some ⟨false,(yesL ps us x).map (st4 (resOf ps us x))⟩)(ne:a≠f)(qa:q≠a)(qf:q≠f)(T:Tl ps us t tl)(hl:t.length<=9000):
  ∃ S' tl' y7 y8 y9 y10,Ki (Gau q (yesL ps us x).length).nxt g4m Jn ((yesL ps us x).length+1) 0 (rm ps us s0 lim a f n x7 x8 x9 x10) S=.nx (rm ps us s0 lim a f n y7 y8 y9 y10) S'/\S'[a]?=some ⟨false,tl'⟩/\S'[f]?=some ⟨false,(Qo t (stepS ps us x)).map sdP⟩/\Tl ps us (Qo t (stepS ps us x)) tl'/\K2 a f S S':=by
 have yl:=Gr1 (ps:=ps) (us:=us) (s:=x)
 have h13:=C.hl
 have hu:=C.hu
 have lnA:∀ k,(Qo t ((stepS ps us x).take k)).length<=9000+52:=fun k=>by
  have len1:∀ (bs t:List S3),(Qo t bs).length<=t.length+bs.length:=fun bs=>by
   induction bs with
   | nil=>intro t; simp[Qo]
   | cons b bs ih=>
    intro t
    rw[Yf]
    have:=ih (Wk t b)
    have h1:(Wk t b).length<=t.length+1:=by unfold Wk; split<;>simp
    simp
    omega
  have:=len1 ((stepS ps us x).take k) t
  have h2:((stepS ps us x).take k).length<=(stepS ps us x).length:=by rw[Bh]; omega
  have h3:(stepS ps us x).length=(yesL ps us x).length:=by simp[stepS]
  omega
 obtain⟨ρ',S',ef,y7,y8,y9,y10,tl',hρ,h1,h2,h3,h4⟩:=Yd (nxt:=(Gau q (yesL ps us x).length).nxt) (g:=g4m) (b:=Jn) (l:=(yesL ps us x).map (st4 (resOf ps us x)))
  (fun k ρ S'=>∃ y7 y8 y9 y10 tl',ρ=rm ps us s0 lim a f n y7 y8 y9 y10/\S'[a]?=some ⟨false,tl'⟩/\S'[f]?=some ⟨false,(Qo t ((stepS ps us x).take k)).map sdP⟩/\Tl ps us (Qo t ((stepS ps us x).take k)) tl'/\K2 a f S S')
  (fun k ρ S' ⟨_,_,_,_,_,_,_,_,_,h⟩=>by
   show(S'[q]?).bind (fun c=>c.xs[k]?)=_
   rw[h.at hq qa qf]; rfl)
  (fun k d ρ S' hd ⟨y7,y8,y9,y10,tl',e,h1,h2,h3,h4⟩=>by
   subst e
   rw[Aw] at hd
   cases hk:(yesL ps us x)[k]? with
   | none=>rw[hk] at hd; cases hd
   | some p=>
    rw[hk] at hd
    have hd:=Ac hd
    have hp:=Ai hk
    obtain⟨s',pr,ga,e1,e2,_,e4⟩:=Giz C g hp
    rw[e4] at hd
    subst hd
    obtain⟨r,hr⟩:=Gaf (bs:=(stepS ps us x).take k) (t:=t)
    have hx':(Qo t ((stepS ps us x).take k))[n]?=some x:=by rw[hr,Ar (Ab.mp hx).1]; exact hx
    have ln:=lnA k
    obtain⟨S2,tl2,b1',b2,b3,b4,b5⟩:=Gr2 (s0:=s0) (lim:=lim) (n:=n) (S:=S') (pr:=.int pr) (ga:=.int ga) C g hp hx' h1 h2 ne h3 (by omega)
    have tk:Qo t ((stepS ps us x).take (k+1))=Wk (Qo t ((stepS ps us x).take k)) (bh (resOf ps us x p)):=by
     rw[<- Glq,Bx]
     congr 1
     congr 1
     unfold stepS
     rw[Aw,hk]
     rfl
    rw[tk]
    rw[e2] at b1' b3 b4 ⊢
    exact⟨rm ps us s0 lim a f n (some (ddOf p)) (some (stE s')) (some (.int pr)) (some (.int ga)),_,S2,rfl,b1',_,_,_,_,tl2,rfl,b2,b3,b4,h4.trans b5⟩)
  ((yesL ps us x).length+1) 0 (rm ps us s0 lim a f n x7 x8 x9 x10) S (AC _) ⟨x7,x8,x9,x10,tl,rfl,ha,hf,T,K2.refl⟩ (by simp)
 have tkl:(stepS ps us x).take (((yesL ps us x).map (st4 (resOf ps us x))).length)=stepS ps us x:=BA (by simp[stepS])
 rw[tkl] at h2 h3
 subst hρ
 exact⟨S',tl',y7,y8,y9,y10,ef,h1,h2,h3,h4⟩
end
section
variable{ps:List Pl}{us:List Bool}{s s0 x:S3}{S:Sto}{n:Nat}
noncomputable def bq (ps:List Pl) (us:List Bool) (s0:S3):Nat->List S3
 | 0=>[s0]
 | n+1=>match (bq ps us s0 n)[n]? with
  | some x=>Qo (bq ps us s0 n) (stepS ps us x)
  | none=>bq ps us s0 n
theorem Gf8(h:(bq ps us s0 n)[n]?=some x):bq ps us s0 (n+1)=Qo (bq ps us s0 n) (stepS ps us x):=by
 show(match (bq ps us s0 n)[n]? with | some x=>Qo (bq ps us s0 n) (stepS ps us x) | none=>bq ps us s0 n)=_
 rw[h]
theorem Gw6:∃ r,bq ps us s0 (n+1)=bq ps us s0 n++r:=by
 cases h:(bq ps us s0 n)[n]? with
 | some x=>rw[Gf8 h]; exact Gaf
 | none=>
  refine⟨[],?_⟩
  show(match (bq ps us s0 n)[n]? with | some x=>Qo (bq ps us s0 n) (stepS ps us x) | none=>bq ps us s0 n)=_
  rw[h]; simp
theorem Gkl(d:Nat):∃ r,bq ps us s0 (n+d)=bq ps us s0 n++r:=by
 induction d with
 | zero=>exact⟨[],by simp⟩
 | succ d ih=>
  obtain⟨r,h⟩:=ih
  obtain⟨q,h2⟩:=Gw6 (ps:=ps) (us:=us) (s0:=s0) (n:=n+d)
  exact⟨r++q,by rw[show n+(d+1)=n+d+1 from rfl,h2,h,Br]⟩
theorem Gs9(h:n<=m):(bq ps us s0 n).length<=(bq ps us s0 m).length:=by
 obtain⟨r,e⟩:=Gkl (ps:=ps) (us:=us) (s0:=s0) (n:=n) (m-n)
 rw[show n+(m-n)=m by omega] at e
 rw[e]; simp
theorem Ghn:∀ n,(∀ j,j<n->j<(bq ps us s0 j).length)->Bf (stepS ps us) s0 (bq ps us s0 n) n
 | 0,_=>Bf.one
 | n+1,h=>by
  have hn:=Ag (h n (by omega))
  rw[Gf8 hn]
  exact(Ghn n (fun j hj=>h j (by omega))).next hn
structure Dn(ps:List Pl)(us:List Bool)(s0:S3)(m:Nat):Prop where
 len:(bq ps us s0 m).length=m
 go:∀ j,j<m->j<(bq ps us s0 j).length
theorem Dn.gd(d:Dn ps us s0 m)(C:Cn ps us)(g:Gd ps s0)(hj:j<=m){x:S3}(hx:x∈bq ps us s0 j):Gd ps x:=Gw4 C g ((Ghn j (fun i hi=>d.go i (by omega))).re x hx)
noncomputable abbrev E0(ps:List Pl)(us:List Bool)(s0:S3)(lim:Int):Lc:=[some (cD ps us),some (stE s0),some (.int lim),some (.fv "deed_done"),none,none,none,none,none,none,none]
noncomputable def IM(S0:Sto)(ps:List Pl)(us:List Bool)(s0:S3)(lim:Int)(j:Nat)(ρ:Lc)(S:Sto):Prop:=
 ∃ tl x7 x8 x9 x10,ρ=rm ps us s0 lim S0.length (S0.length+1) j x7 x8 x9 x10/\S[S0.length]?=some ⟨false,tl⟩/\S[S0.length+1]?=some ⟨false,(bq ps us s0 j).map sdP⟩/\Tl ps us (bq ps us s0 j) tl/\Ex S0 S
theorem Gbr(h:IM S0 ps us s0 lim j ρ S):Jo ρ S=.ok (decide (j<(bq ps us s0 j).length)) S:=by
 obtain⟨tl,x7,x8,x9,x10,rfl,ha,_,T,_⟩:=h
 have ln:=Gcy ha
 simp only[T.len] at ln
 generalize (bq ps us s0 j).length=m at *
 unfold rm
 generalize stE s0=sd0 at *
 generalize cD ps us=cd at *
 simp[Jo,ln]
theorem Gkm(C:Cn ps us)(h:IM S0 ps us s0 lim j ρ S)(hx:(bq ps us s0 j)[j]?=some x)(g:Gd ps x)(hl:((bq ps us s0 j).length:Int)<=lim)(h9:(bq ps us s0 j).length<=9000):∃ ρ2 S2,Jc ρ S=.nx ρ2 S2/\IM S0 ps us s0 lim (j+1) ρ2 S2:=by
 obtain⟨tl,x7,x8,x9,x10,rfl,ha,hf,T,ex⟩:=h
 have ln:=Gcy ha
 simp only[T.len] at ln
 obtain⟨a',b',ht,_⟩:=T.at' j x hx
 have gj:DL.getD (.lst S0.length) (.int (j:Int)) S=.ok (.tup [stE x,a',b']) S:=Jd ha (Gu (by omega) (by rw[AI]; exact ht))
 obtain⟨S1,e1,q1,x1⟩:=Ghm (S:=S) C g
 have la:S0.length<S.length:=(Ab.mp ha).1
 have lf:S0.length+1<S.length:=(Ab.mp hf).1
 obtain⟨S2,tl2,y7,y8,y9,y10,e2,a2,f2,T2,k2⟩:=Gw5 (s0:=s0) (lim:=lim) (x7:=x7) (x8:=x8) (x9:=x9) (x10:=x10) C g hx (x1.at ha) (x1.at hf) q1 (by omega) (by omega) (by omega) T h9
 rw[<- Gf8 hx] at f2 T2
 have hn:¬ lim<((bq ps us s0 j).length:Int):=by omega
 have sr:=Ghg q1
 simp only[AD] at sr
 refine⟨rm ps us s0 lim S0.length (S0.length+1) (j+1) y7 y8 y9 y10,S2,?_,tl2,y7,y8,y9,y10,rfl,a2,f2,T2,(K2.ex (ex.trans x1) k2 (Aa _) (by omega))⟩
 have f1:(sif (tb (o2 gtD (b1 Hr (ac (vr 4) an)) (vr 2))) (srs "TooMany" (ac (cn (.str "more stands are met than the limit")) an)) DL.skip) (rm ps us s0 lim S0.length (S0.length+1) j x7 x8 x9 x10) S=.nx (rm ps us s0 lim S0.length (S0.length+1) j x7 x8 x9 x10) S:=by
  generalize (bq ps us s0 j).length=m at *
  unfold rm
  generalize stE s0=sd0 at *
  generalize cD ps us=cd at *
  simp[ln,hn]
 have f3:(sfor (isrc (cl 3 (Go Kx) (ac (vr 0) (ac (o2 DL.getD (o2 DL.getD (vr 4) (vr 6)) (cn (.int 0))) (ac (vr 3) an))))) g4m Jn) (rm ps us s0 lim S0.length (S0.length+1) j x7 x8 x9 x10) S=.nx (rm ps us s0 lim S0.length (S0.length+1) j y7 y8 y9 y10) S2:=by
  have ec:cl 3 (Go Kx) (ac (vr 0) (ac (o2 DL.getD (o2 DL.getD (vr 4) (vr 6)) (cn (.int 0))) (ac (vr 3) an))) (rm ps us s0 lim S0.length (S0.length+1) j x7 x8 x9 x10) S=.ok (.lst S.length) S1:=by
   unfold rm
   generalize stE x=sx at *
   generalize stE s0=sd0 at *
   generalize cD ps us=cd at *
   simp[gj,p0e,e1]
  rw[Yc,Gjv,ec,Gaa,sr,Jq]
  exact e2
 show sq _ (sq _ _) _ S=_
 rw[Gee f1,Gee f3]
 have:((j+1:Nat):Int)=(j:Int)+1:=by push_cast; rfl
 unfold rm
 rw[this]
 generalize stE s0=sd0 at *
 generalize cD ps us=cd at *
 simp
theorem Gou(h:IM S0 ps us s0 lim j ρ S)(hl:lim<((bq ps us s0 j).length:Int)):Jc ρ S=.exc ⟨"TooMany",none⟩ ρ S:=by
 obtain⟨tl,x7,x8,x9,x10,rfl,ha,hf,T,ex⟩:=h
 have ln:=Gcy ha
 simp only[T.len] at ln
 generalize (bq ps us s0 j).length=m at *
 unfold rm
 generalize stE s0=sd0 at *
 generalize cD ps us=cd at *
 simp[Jc,ln,hl,srs]
theorem Gkn:∃ S',IM S ps us s0 lim 0 (rm ps us s0 lim S.length (S.length+1) 0 none none none none) S'/\∀ X:Sv,fin ((sq (sa (ls (ac (tp (ac (vr 1) (ac (cn .non) (ac (cn .non) an)))) an)) (gn 4)) (sq (sa (Gg2 (vr 1) (cn (.bl true))) (gn 5)) (sq (sa (cn (.int 0)) (gn 6)) X))) (E0 ps us s0 lim) S)=fin (X (rm ps us s0 lim S.length (S.length+1) 0 none none none none) S'):=by
 have q1:(S++[⟨false,[.tup [stE s0,.non,.non]]⟩])[S.length]?=some ⟨false,[.tup [stE s0,.non,.non]]⟩:=Hc
 have l1:(S++[(⟨false,[.tup [stE s0,.non,.non]]⟩:Cell)]).length=S.length+1:=by simp
 have x1:Ex S (S++[⟨false,[.tup [stE s0,.non,.non]]⟩]):=Ex.app
 have s1:sa (ls (ac (tp (ac (vr 1) (ac (cn .non) (ac (cn .non) an)))) an)) (gn 4) (E0 ps us s0 lim) S=.nx ((E0 ps us s0 lim).set 4 (some (.lst S.length))) (S++[⟨false,[.tup [stE s0,.non,.non]]⟩]):=by
  unfold E0
  generalize stE s0=sd0 at *
  generalize cD ps us=cd at *
  simp
 generalize S++[(⟨false,[.tup [stE s0,.non,.non]]⟩:Cell)]=S1 at *
 have q2:(S1++[⟨false,[]⟩])[S1.length]?=some ⟨false,[]⟩:=Hc
 have ds:=Gos (z:=.bl true) q2 (Gc7 (s:=s0)) rfl (by simp) rfl
 have lq:S1.length<(S1++[(⟨false,[]⟩:Cell)]).length:=by simp
 have s2:sa (Gg2 (vr 1) (cn (.bl true))) (gn 5) ((E0 ps us s0 lim).set 4 (some (.lst S.length))) S1=.nx (((E0 ps us s0 lim).set 4 (some (.lst S.length))).set 5 (some (.dct S1.length))) ((S1++[(⟨false,[]⟩:Cell)]).set S1.length ⟨false,[]++[.tup [stE s0,.bl true]]⟩):=by
  unfold E0
  generalize (S1++[(⟨false,[]⟩:Cell)]).set S1.length ⟨false,[]++[.tup [stE s0,.bl true]]⟩=SS at *
  generalize stE s0=sd0 at *
  generalize cD ps us=cd at *
  simp[Gg2,ds]
 have q3:((S1++[(⟨false,[]⟩:Cell)]).set S1.length ⟨false,[]++[.tup [stE s0,.bl true]]⟩)[S1.length]?=some ⟨false,[sdP s0]⟩:=Av lq
 have x3:Ex S1 ((S1++[(⟨false,[]⟩:Cell)]).set S1.length ⟨false,[]++[.tup [stE s0,.bl true]]⟩):=Ex.app.setq (Aa _)
 generalize (S1++[(⟨false,[]⟩:Cell)]).set S1.length ⟨false,[]++[.tup [stE s0,.bl true]]⟩=S2 at *
 rw[l1] at q3 s2
 refine⟨S2,⟨[.tup [stE s0,.non,.non]],none,none,none,none,rfl,x3.at q1,q3,⟨rfl,fun k s hk=>?_⟩,x1.trans x3⟩,fun X=>?_⟩
 ·cases k with
  | zero=>
   cases (Ac hk)
   exact⟨.non,.non,rfl,.inl ⟨rfl,rfl,rfl⟩⟩
  | succ k=>simp[bq] at hk
 ·refine(Gm s1).trans ((Gm s2).trans ?_)
  refine(Gm (ρ':=rm ps us s0 lim S.length (S.length+1) 0 none none none none) (S':=S2) ?_)
  simp
theorem Gw7(C:Cn ps us)(g:Gd ps s0)(d:Dn ps us s0 m)(h1:(m:Int)<=lim)(h2:m<=2000):∃ tl S',Vl [cD ps us,stE s0,.int lim,.fv "deed_done"] S=.ok (.lst S.length) S'/\S'[S.length]?=some ⟨false,tl⟩/\Tl ps us (bq ps us s0 m) tl/\Ex S S':=by
 obtain⟨S1,I1,hX⟩:=Gkn (S:=S) (ps:=ps) (us:=us) (s0:=s0) (lim:=lim)
 have le:∀ j,j<=m->(bq ps us s0 j).length<=m:=fun j hj=>by have:=Gs9 (ps:=ps) (us:=us) (s0:=s0) hj; rw[d.len] at this; exact this
 obtain⟨ρ',S',hI,ew⟩:=Got (c:=Jo) (b:=Jc) m (IM S ps us s0 lim) (fun j ρ S' hj h=>by rw[Gbr h,decide_eq_true (d.go j hj)])
  (fun j ρ S' hj h=>by
   have hx:=Ag (d.go j hj)
   have l:=le j (by omega)
   exact Gkm C h hx (d.gd C g (Bd hj) (Ai hx)) (by omega) (by omega)) m 0 (3000-m) _ S1 (by omega) I1
 have ef:3000-m+m=3000:=by omega
 rw[ef] at ew
 have et:=Gbr hI
 rw[d.len,decide_eq_false (Az m)] at et
 obtain⟨f,ff⟩:∃ f,3000-m=f+1:=⟨3000-m-1,by omega⟩
 have ew2:whN Jo Jc (3000-m) ρ' S'=.nx ρ' S':=by
  rw[ff,whN,et]
  simp only[bindS,Ak,if_false]
 have ew:=ew.trans ew2
 obtain⟨tl,x7,x8,x9,x10,rfl,ha,hf,T,ex⟩:=hI
 refine⟨tl,S',?_,ha,T,ex⟩
 unfold Vl
 rw[Gq]
 simp only[Zx]
 refine(hX _).trans ?_
 refine(Gm ew).trans ?_
 simp
theorem Gw8(C:Cn ps us)(g:Gd ps s0)(d:Dn ps us s0 m)(h1:lim<(m:Int))(h2:m<=2000)(h0:1<=lim):∃ S',Vl [cD ps us,stE s0,.int lim,.fv "deed_done"] S=.exc ⟨"TooMany",none⟩ S'/\Ex S S':=by
 obtain⟨S1,I1,hX⟩:=Gkn (S:=S) (ps:=ps) (us:=us) (s0:=s0) (lim:=lim)
 have le:∀ j,j<=m->(bq ps us s0 j).length<=m:=fun j hj=>by have:=Gs9 (ps:=ps) (us:=us) (s0:=s0) hj; rw[d.len] at this; exact this
 obtain⟨p,hp1,hp2,hp3⟩:∃ p,p<m/\lim<((bq ps us s0 p).length:Int)/\∀ j,j<p->((bq ps us s0 j).length:Int)<=lim:=by
  have main:∀ n,(n<m/\lim<((bq ps us s0 n).length:Int))->∃ p,p<m/\lim<((bq ps us s0 p).length:Int)/\∀ j,j<p->((bq ps us s0 j).length:Int)<=lim:=by
   intro n
   induction n using Nat.strongRecOn with
   | _ n ih=>
    intro h
    by_cases c:∃ j,j<n/\lim<((bq ps us s0 j).length:Int)
    ·obtain⟨j,c1,c2⟩:=c
     exact ih j c1 ⟨by omega,c2⟩
    ·exact⟨n,h.1,h.2,fun j hj=>Int.not_lt.mp fun z=>c ⟨j,hj,z⟩⟩
  have:=d.go (m-1) (by omega)
  exact main (m-1) ⟨by omega,by omega⟩
 obtain⟨ρ',S',hI,ew⟩:=Got (c:=Jo) (b:=Jc) p (IM S ps us s0 lim) (fun j ρ S' hj h=>by rw[Gbr h,decide_eq_true (d.go j (by omega))])
  (fun j ρ S' hj h=>by
   have hx:=Ag (d.go j (show j<m by omega))
   have l:=le j (by omega)
   exact Gkm C h hx (d.gd C g (show j<=m by omega) (Ai hx)) (hp3 j hj) (by omega)) p 0 (3000-p) _ S1 (by omega) I1
 have ef:3000-p+p=3000:=by omega
 rw[ef] at ew
 have et:=Gbr hI
 rw[decide_eq_true (d.go p hp1)] at et
 have er:=Gou hI hp2
 obtain⟨f,ff⟩:∃ f,3000-p=f+1:=⟨3000-p-1,by omega⟩
 have ew2:whN Jo Jc (3000-p) ρ' S'=.exc ⟨"TooMany",none⟩ ρ' S':=by
  rw[ff,whN,et]
  simp only[bindS,if_true,er]
 have ew:=ew.trans ew2
 obtain⟨tl,x7,x8,x9,x10,rfl,ha,hf,T,ex⟩:=hI
 refine⟨S',?_,ex⟩
 unfold Vl
 rw[Gq]
 simp only[Zx]
 refine(hX _).trans ?_
 rw[Gab,ew]
 rfl
end
end Law
namespace BF
theorem Rch.trans{α:Type}[DecidableEq α]{step:α->List α}{a b c:α}(h:Rch step a b)(g:Rch step b c):Rch step a c:=by
 induction g with
 | nil=>exact h
 | cons _ k ih=>exact ih.cons k
theorem Rch.one{α:Type}[DecidableEq α]{step:α->List α}{a b:α}(h:b∈step a):Rch step a b:=.cons .nil h
end BF
namespace HL
noncomputable abbrev T6:=Int×Int×Int×Int×Int×Int
structure Mo(a b:Int)(m:Bool)(R:T6->T6->Prop):Prop where
 refl:∀ x,R x x
 trans:∀ {x y z},R x y->R y z->R x z
 fp:∀ {c1 p c2 q c3 c4},0<=p->p<a->R (c1,p,c2,q,c3,c4) (c1,p+1,c2,q,c3,c4)
 fq:∀ {c1 p c2 q c3 c4},0<=q->q<b->R (c1,p,c2,q,c3,c4) (c1,p,c2,q+1,c3,c4)
 l0:∀ {p c2 q c3 c4},R (1,p,c2,q,c3,c4) (0,p,c2,q,c3,c4)
 l1:∀ {p c2 q c3 c4},0<=p->p<a->R (0,p+1,c2,q,c3,c4) (1,p,c2,q,c3,c4)
 e2:∃ p' q':Int,(p'=0\/p'=1)/\(q'=0\/q'=1)/\∀ {c1 c3 c4},R (c1,0,1,0,c3,c4) (c1,p',0,q',c3,c4)
 f2:∃ p' q':Int,(p'=0\/p'=1)/\(q'=0\/q'=1)/\∀ {c1 c3 c4},R (c1,p',0,q',c3,c4) (c1,0,1,0,c3,c4)
 l4:∀ {c1 p c2 q c4},0<=q->q<b->R (c1,p,c2,q+1,0,c4) (c1,p,c2,q,1,c4)
 e3:∀ {c1 p c2 q},R (c1,p,c2,q,1,0) (c1,p,c2,q,0,0)
 e4:m=true->∀ {c1 p c2 q c3},R (c1,p,c2,q,c3,1) (c1,p,c2,q,c3,0)
 f4:m=true->∀ {c1 p c2 q},R (c1,p,c2,q,1,0) (c1,p,c2,q,0,1)
structure Va(a b:Int)(m:Bool)(x:T6):Prop where
 h1:x.1=0\/x.1=1
 h2:0<=x.2.1/\x.2.1<=a
 h3:x.2.2.1=0\/x.2.2.1=1
 h4:0<=x.2.2.2.1/\x.2.2.2.1<=b
 h5:x.2.2.2.2.1=0\/x.2.2.2.2.1=1
 h6:x.2.2.2.2.2=0\/(m=true/\x.2.2.2.2.2=1)
section
variable{a b:Int}{m:Bool}{R:T6->T6->Prop}
theorem dq(M:Mo a b m R){c1 p c2:Int}:∀ (n:Nat),(n:Int)<=b->R (c1,p,c2,n,0,0) (c1,p,c2,0,0,0)
 | 0,_=>M.refl _
 | n+1,h=>by
  have h':((n+1:Nat):Int)=(n:Int)+1:=by omega
  rw[h'] at h ⊢
  exact M.trans (M.l4 (by omega) (by omega)) (M.trans M.e3 (dq M n (by omega)))
theorem dp(M:Mo a b m R){c2 q c3 c4:Int}:∀ (n:Nat),(n:Int)<=a->R (0,n,c2,q,c3,c4) (0,0,c2,q,c3,c4)
 | 0,_=>M.refl _
 | n+1,h=>by
  have h':((n+1:Nat):Int)=(n:Int)+1:=by omega
  rw[h'] at h ⊢
  exact M.trans (M.l1 (by omega) (by omega)) (M.trans M.l0 (dp M n (by omega)))
theorem up(M:Mo a b m R){c1 c2 q c3 c4:Int}:∀ (n:Nat),(n:Int)<=a->R (c1,0,c2,q,c3,c4) (c1,n,c2,q,c3,c4)
 | 0,_=>M.refl _
 | n+1,h=>by
  have h':((n+1:Nat):Int)=(n:Int)+1:=by omega
  rw[h'] at h ⊢
  exact M.trans (up M n (by omega)) (M.fp (by omega) (by omega))
theorem uq(M:Mo a b m R){c1 p c2 c3 c4:Int}:∀ (n:Nat),(n:Int)<=b->R (c1,p,c2,0,c3,c4) (c1,p,c2,n,c3,c4)
 | 0,_=>M.refl _
 | n+1,h=>by
  have h':((n+1:Nat):Int)=(n:Int)+1:=by omega
  rw[h'] at h ⊢
  exact M.trans (uq M n (by omega)) (M.fq (by omega) (by omega))
theorem Xr{z:Int}(h:0<=z):∃ n:Nat,z=n:=⟨z.toNat,by omega⟩
theorem down(M:Mo a b m R)(ha:1<=a)(hb:1<=b){x:T6}(V:Va a b m x):R x (0,0,0,0,0,0):=by
 obtain⟨c1,p,c2,q,c3,c4⟩:=x
 obtain⟨h1,h2,h3,h4,h5,h6⟩:=V
 simp only at *
 obtain⟨n,rfl⟩:=Xr h2.1
 obtain⟨k,rfl⟩:=Xr h4.1
 have s4:R (c1,n,c2,k,c3,c4) (c1,n,c2,k,c3,0):=by
  rcases h6 with rfl | ⟨hm,rfl⟩
  ·exact M.refl _
  ·exact M.e4 hm
 have s3:R (c1,n,c2,k,c3,0) (c1,n,c2,k,0,0):=by
  rcases h5 with rfl | rfl
  ·exact M.refl _
  ·exact M.e3
 have s1:R (c1,n,c2,0,0,0) (0,n,c2,0,0,0):=by
  rcases h1 with rfl | rfl
  ·exact M.refl _
  ·exact M.l0
 refine M.trans s4 (M.trans s3 (M.trans (dq M k h4.2) (M.trans s1 (M.trans (dp M n h2.2) ?_))))
 rcases h3 with rfl | rfl
 ·exact M.refl _
 ·obtain⟨p',q',hp,hq,e⟩:=M.e2
  refine M.trans e ?_
  rcases hp with rfl | rfl<;>rcases hq with rfl | rfl
  ·exact M.refl _
  ·exact dq M 1 (by omega)
  ·exact dp M 1 (by omega)
  ·exact M.trans (dq M 1 (by omega)) (dp M 1 (by omega))
theorem fill(M:Mo a b m R)(ha:1<=a)(hb:1<=b){x:T6}(V:Va a b m x):R (0,0,0,0,0,0) x:=by
 obtain⟨c1,p,c2,q,c3,c4⟩:=x
 obtain⟨h1,h2,h3,h4,h5,h6⟩:=V
 simp only at *
 obtain⟨n,rfl⟩:=Xr h2.1
 obtain⟨k,rfl⟩:=Xr h4.1
 have q1:∀ {c1 p c2 c4},R (c1,p,c2,0,0,c4) (c1,p,c2,0,1,c4):=M.trans (M.fq (q:=0) (by omega) (by omega)) (M.l4 (q:=0) (by omega) (by omega))
 have s4:R (0,0,0,0,0,0) (0,0,0,0,0,c4):=by
  rcases h6 with rfl | ⟨hm,rfl⟩
  ·exact M.refl _
  ·exact M.trans q1 (M.f4 hm)
 have s3:R (0,0,0,0,0,c4) (0,0,0,0,c3,c4):=by
  rcases h5 with rfl | rfl
  ·exact M.refl _
  ·exact q1
 have s2:R (0,0,0,0,c3,c4) (0,0,c2,0,c3,c4):=by
  rcases h3 with rfl | rfl
  ·exact M.refl _
  ·obtain⟨p',q',hp,hq,e⟩:=M.f2
   refine M.trans ?_ e
   rcases hp with rfl | rfl<;>rcases hq with rfl | rfl
   ·exact M.refl _
   ·exact uq M 1 (by omega)
   ·exact up M 1 (by omega)
   ·exact M.trans (uq M 1 (by omega)) (up M 1 (by omega))
 have s1:R (0,0,c2,0,c3,c4) (c1,0,c2,0,c3,c4):=by
  rcases h1 with rfl | rfl
  ·exact M.refl _
  ·exact M.trans (M.fp (p:=0) (by omega) (by omega)) (M.l1 (p:=0) (by omega) (by omega))
 exact M.trans s4 (M.trans s3 (M.trans s2 (M.trans s1 (M.trans (up M n h2.2) (uq M k h4.2)))))
end
noncomputable def Gbk:List Nat->List (List Int)
 | []=>[[]]
 | w::ws=>(List.range (w+1)).flatMap fun(x:Nat)=>(Gbk ws).map fun l=>(x:Int)::l
theorem Gho:∀ ws:List Nat,(Gbk ws).length=(ws.map (·+1)).foldr (·*·) 1
 | []=>rfl
 | w::ws=>by
  simp only[Gbk,List.length_flatMap,AD,Gho ws,Au,List.foldr_cons]
  rw[List.map_const',List.sum_replicate_nat,List.length_range]
theorem Ghp:∀ {ws:List Nat} {l:List Int},l.length=ws.length->(∀ (i:Nat) (w:Nat) (x:Int),ws[i]?=some w->l[i]?=some x->0<=x/\x<=w)->l∈Gbk ws
 | [],[],_,_=>by simp[Gbk]
 | [],_::_,h,_=>by simp at h
 | _::_,[],h,_=>by simp at h
 | w::ws,x::l,h,g=>by
  obtain⟨h0,h1⟩:=g 0 w x rfl rfl
  refine BH.mpr ⟨x.toNat,AU.mpr (by omega),Ay.mpr ⟨l,Ghp (by simpa using h) (fun i w' x' a b=>g (i+1) w' x' a b),by rw[Int.toNat_of_nonneg h0]⟩⟩
theorem Ghq:∀ {ws:List Nat} {l:List Int},l∈Gbk ws->l.length=ws.length/\∀ (i:Nat) (w:Nat) (x:Int),ws[i]?=some w->l[i]?=some x->0<=x/\x<=w
 | [],l,h=>by simp[Gbk] at h; subst h; exact⟨rfl,fun i w x a _=>by simp at a⟩
 | w::ws,l,h=>by
  obtain⟨x,hx,h⟩:=BH.mp h
  obtain⟨r,hr,rfl⟩:=Ay.mp h
  obtain⟨a,b⟩:=Ghq hr
  refine⟨by simp[a],fun i w' x' e1 e2=>?_⟩
  cases i with
  | zero=>
   simp at e1 e2
   subst e1; subst e2
   have:=AU.mp hx
   omega
  | succ i=>exact b i w' x' (by simpa using e1) (by simpa using e2)
theorem Gko:∀ ws:List Nat,(Gbk ws).Nodup
 | []=>by simp[Gbk]
 | w::ws=>by
  have ih:=Gko ws
  simp only[Gbk]
  have key:∀ l:List Nat,l.Nodup->(l.flatMap fun(x:Nat)=>(Gbk ws).map fun r=>(x:Int)::r).Nodup:=by
   intro l
   induction l with
   | nil=>intro _; simp
   | cons x l il=>
    intro h
    obtain⟨h1,h2⟩:=A8.mp h
    rw[List.flatMap_cons]
    refine List.nodup_append.mpr ⟨?_,il h2,?_⟩
    ·exact List.Pairwise.map _ (fun a b hab e=>hab (by simpa using e)) ih
    ·intro u hu v hv e
     obtain⟨r,_,rfl⟩:=Ay.mp hu
     obtain⟨y,hy,hv⟩:=BH.mp hv
     obtain⟨r',_,rfl⟩:=Ay.mp hv
     simp only[List.cons.injEq] at e
     have:x=y:=by omega
     exact h1 (this▸hy)
  exact key _ List.nodup_range
end HL
namespace Law
open PySem PySem.Spec PyProof.Rows L2 DL BF
section
variable{ps:List Pl}{us:List Bool}{s:S3}
theorem Gf9(C:Cn ps us)(g:Gd ps s){p:Wd×Nat}{r:Res}(hp:p.2<ps.length)(e:∀ S,Gj [cD ps us,stE s,ddOf p] S=r.out S):resOf ps us s p=r:=by
 have h:=((Gf7 C g).1 p.1 p.2 hp).did []
 have h2:(resOf ps us s p).out []=r.out []:=h.symm.trans (e [])
 generalize resOf ps us s p=q at h2
 cases q<;>cases r<;>simp[Res.out] at h2<;>rw[h2]
theorem Gzw{m N k:Nat}(h:k<m):(Wd.l,k)∈prP m N:=by simp[prP,prs,h]
theorem Gzx{m N k:Nat}(h:k<N):(Wd.f,k)∈prP m N:=by simp[prP,prs,h]
theorem Gkp(C:Cn ps us)(g:Gd ps s){p:Wd×Nat}{s':S3}{pr ga:Int}(hm:p∈prP us.length ps.length)(e:∀ S,Gj [cD ps us,stE s,ddOf p] S=(Res.yes (.tup [stE s',.int pr,.int ga])).out S):s'∈stepS ps us s:=by
 have r:=Gf9 C g (Gc6 (by have:=C.hu; omega) hm) e
 exact Ay.mpr ⟨p,A7.mpr ⟨hm,by rw[r]; rfl⟩,by rw[r]; exact Gkj⟩
theorem Gw9(C:Cn ps us)(g:Gd ps s){k:Nat}{u:Bool}{pH pL:Pl}{lH lL:Int}(hu:us[k]?=some u)(h1:ps[hiI u k]?=some pH)(h2:ps[loI u k]?=some pL)(h3:s.1[hiI u k]?=some lH)(h4:s.1[loI u k]?=some lL)(nd:pH.isE=true\/lH≠0)(nf:pL.isE=true\/lL<wat pL):
  (adw pL (adw pH s.1 (hiI u k) lH (-1)) (loI u k) lL 1,s.2.1,s.2.2)∈stepS ps us s:=by
 refine Gkp (pr:=0) (ga:=0) C g (Gzw (Ab.mp hu).1) fun S=>?_
 have d:=dd_let (R:=s.2.1) (F:=s.2.2) (S:=S) hu h1 h2 h3 h4 (C.hp _ (Ai h1)) (C.hp _ (Ai h2)) (by rw[g.lL]; have:=C.hl; omega)
 refine d.trans ?_
 unfold Ghi
 rw[if_neg (by rcases nd with z | z<;>simp[z]),if_neg (by rcases nf with z | z<;>simp[z])]
 rfl
theorem Gr3(C:Cn ps us)(g:Gd ps s){k:Nat}{br de ro i l:Int}(hp:ps[k]?=some (.p br de ro (.int i)))(hl:s.1[k]?=some l)(h:l<br):(s.1.set k (l+1),s.2.1,s.2.2)∈stepS ps us s:=by
 refine Gkp (pr:=i) (ga:=0) C g (Gzx (Ab.mp hp).1) fun S=>?_
 have d:=dd_feed (us:=us) (R:=s.2.1) (F:=s.2.2) (S:=S) hp hl (C.hp _ (Ai hp)) (by rw[g.lL]; have:=C.hl; omega)
 refine d.trans ?_
 simp only[Vm]
 rw[if_neg (by omega)]
 rfl
theorem Hn{α:Type}{l:List α}{i:Nat}(h:i<l.length):∃ x,l[i]?=some x:=⟨_,Ag h⟩
theorem Gxa(C:Cn ps us)(g:Gd ps s)(z1:∀ i∈s.2.1,i=0)(z2:∀ i∈s.2.2,i=0){y:S3}(h:y∈stepS ps us s):y.2=s.2:=by
 obtain⟨⟨w,k⟩,hp,rfl⟩:=Ay.mp h
 obtain⟨hm,hy⟩:=A7.mp hp
 have hu:=C.hu
 have hl:=C.hl
 have l1:=g.lL
 have l2:=g.lR
 have l3:=g.lF
 have hk:k<ps.length:=Gc6 (by omega) hm
 have mv:∀ b:Bool,k<us.length->(Wd.toD w=wd b)->False:=by
  intro b hk' ew
  obtain⟨u,eu⟩:=Hn hk'
  have hH:hiI u k<ps.length:=by cases u<;>simp[hiI]<;>omega
  have hL:loI u k<ps.length:=by cases u<;>simp[loI]<;>omega
  have hG:glI b k<ps.length:=by cases b<;>simp[glI]<;>omega
  have hS:stI b k<ps.length:=by cases b<;>simp[stI]<;>omega
  have lM:(sel b s.2.1 s.2.2).length=ps.length:=by unfold sel; split<;>assumption
  have nM:∀ i∈sel b s.2.1 s.2.2,i=0:=by unfold sel; split<;>assumption
  obtain⟨pH,eH⟩:=Hn hH
  obtain⟨pL,eL⟩:=Hn hL
  obtain⟨pG,eG⟩:=Hn hG
  obtain⟨lH,aH⟩:=Hn (l:=s.1) (i:=hiI u k) (by omega)
  obtain⟨lL,aL⟩:=Hn (l:=s.1) (i:=loI u k) (by omega)
  obtain⟨a,aS⟩:=Hn (l:=sel b s.2.1 s.2.2) (i:=stI b k) (by omega)
  obtain⟨g',aG⟩:=Hn (l:=sel b s.2.1 s.2.2) (i:=glI b k) (by omega)
  obtain⟨r1,aR⟩:=Hn (l:=s.2.1) (i:=glI b k) (by omega)
  obtain⟨f1,aF⟩:=Hn (l:=s.2.2) (i:=glI b k) (by omega)
  have v:Mv ps us s.1 s.2.1 s.2.2 b k u pH pL pG lH lL a g' r1 f1:=⟨eu,eH,eL,aH,aL,C.hp _ (Ai eH),C.hp _ (Ai eL),eG,C.hp _ (Ai eG),aS,aG,aR,aF,hu,by omega⟩
  have ha:=nM _ (Ai aS)
  subst ha
  have d:∀ S,Gj [cD ps us,stE s,ddOf (w,k)] S=(Res.no "NoBarge").out S:=fun S=>by
   have:=dd_move (S:=S) v
   show Gj [cD ps us,stD s.1 s.2.1 s.2.2,.tup [Wd.toD w,.int k]] S=_
   rw[ew]
   refine this.trans ?_
   simp[Gc3,Gf0]
  rw[Gf9 C g hk d] at hy
  cases hy
 cases w with
 | l=>
  have hk':k<us.length:=by simpa[prP,prs] using hm
  obtain⟨u,eu⟩:=Hn hk'
  obtain⟨pH,eH⟩:=Hn (l:=ps) (i:=hiI u k) (by cases u<;>simp[hiI]<;>omega)
  obtain⟨pL,eL⟩:=Hn (l:=ps) (i:=loI u k) (by cases u<;>simp[loI]<;>omega)
  obtain⟨lH,aH⟩:=Hn (l:=s.1) (i:=hiI u k) (by cases u<;>simp[hiI]<;>omega)
  obtain⟨lL,aL⟩:=Hn (l:=s.1) (i:=loI u k) (by cases u<;>simp[loI]<;>omega)
  have r:=Gf9 C g (p:=(Wd.l,k)) hk fun S=>dd_let (R:=s.2.1) (F:=s.2.2) (S:=S) eu eH eL aH aL (C.hp _ (Ai eH)) (C.hp _ (Ai eL)) (by omega)
  rw[r] at hy ⊢
  unfold Ghi at hy ⊢
  split at hy
  ·cases hy
  ·rename_i c1
   rw[if_neg c1]
   split at hy
   ·cases hy
   ·rename_i c2
    rw[if_neg c2]
    exact congrArg (·.2) (Gkj (s:=(_,s.2.1,s.2.2)))
 | f=>
  obtain⟨p,ep⟩:=Hn hk
  obtain⟨l,al⟩:=Hn (l:=s.1) (i:=k) (by omega)
  have r:=Gf9 C g (p:=(Wd.f,k)) hk fun S=>dd_feed (R:=s.2.1) (F:=s.2.2) (S:=S) ep al (C.hp _ (Ai ep)) (by omega)
  rw[r] at hy ⊢
  cases p with
  | e=>cases hy
  | c=>cases hy
  | p br de ro pr=>
   cases pr<;>try (cases hy; done)
   simp only[Vm] at hy ⊢
   split at hy
   ·cases hy
   ·rename_i c1
    rw[if_neg c1]
    exact congrArg (·.2) (Gkj (s:=(_,s.2.1,s.2.2)))
 | r=>exact(mv true (by simpa[prP,prs] using hm) rfl).elim
 | e=>exact(mv false (by simpa[prP,prs] using hm) rfl).elim
end
end Law
namespace Law
open PySem PySem.Spec PyProof.Rows L2 DL BF HL
variable{y:S3}
noncomputable def hP(m:Bool)(a b i j:Int):List Pl:=[.e,.c,.p a 0 1 (.int i),.c,.p b 0 1 (.int j),.c]++(if m=true then[.c,.e] else[.e])
noncomputable def hU(m:Bool)(w:Bool):List Bool:=(if w=true then[true,true,true,true,false,false] else[true,true,false,false,false,false])++(if m=true then[false] else[])
noncomputable def hL(m:Bool)(x:T6):List Int:=[0,x.1,x.2.1,x.2.2.1,x.2.2.2.1,x.2.2.2.2.1]++(if m=true then[x.2.2.2.2.2,0] else[0])
noncomputable def hZ(m:Bool):List Int:=List.replicate (if m=true then 8 else 7) 0
noncomputable def hS(m:Bool)(x:T6):S3:=(hL m x,hZ m,hZ m)
structure Hb(a b i j:Int):Prop where
 a1:2<=a
 a2:a<=9
 b1:2<=b
 b2:b<=9
 i1:0<=i
 i2:i<=99
 j1:0<=j
 j2:j<=99
theorem hC{m w:Bool}{a b i j:Int}(H:Hb a b i j):Cn (hP m a b i j) (hU m w):=by
 obtain⟨a1,a2,b1,b2,i1,i2,j1,j2⟩:=H
 refine⟨fun p hp=>?_,by cases m<;>simp[hP],by cases m<;>cases w<;>simp[hP,hU]⟩
 have:p=.e\/p=.c\/p=.p a 0 1 (.int i)\/p=.p b 0 1 (.int j):=by
  cases m<;>simp[hP] at hp<;>rcases hp with h | h | h | h | h | h | h | h<;>simp_all
 rcases this with rfl | rfl | rfl | rfl
 ·trivial
 ·trivial
 ·exact⟨by omega,a2,by omega,by omega,by omega,by omega,.inr ⟨i,rfl,i1,i2⟩⟩
 ·exact⟨by omega,b2,by omega,by omega,by omega,by omega,.inr ⟨j,rfl,j1,j2⟩⟩
section
variable{m w:Bool}{a b i j:Int}
theorem hG(H:Hb a b i j){x:T6}(V:Va a b m x):Gd (hP m a b i j) (hS m x):=by
 obtain⟨a1,a2,b1,b2,i1,i2,j1,j2⟩:=H
 obtain⟨c1,p,c2,q,c3,c4⟩:=x
 obtain⟨h1,h2,h3,h4,h5,h6⟩:=V
 simp only at *
 have h6':0<=c4/\c4<=1:=by rcases h6 with h | h<;>omega
 refine⟨by cases m<;>simp[hP,hS,hL],by cases m<;>simp[hP,hS,hZ],by cases m<;>simp[hP,hS,hZ],?_,?_,?_,?_,?_⟩
 ·intro k hk
  cases m<;>simp[hS,hL] at hk<;>omega
 ·intro k hk
  simp[hS,hZ] at hk; omega
 ·intro k hk
  simp[hS,hZ] at hk; omega
 ·intro k pl l r f e1 e2 e3 e4
  have er:r=0:=by have:=Ai e3; simp[hS,hZ] at this; exact this.2
  have ef:f=0:=by have:=Ai e4; simp[hS,hZ] at this; exact this.2
  subst er; subst ef
  cases m<;>(rcases k with _ | _ | _ | _ | _ | _ | _ | _ | k<;>simp[hP,hS,hL] at e1 e2<;>(try subst e1)<;>(try subst e2)<;>simp[wat,hol]<;>omega)
 ·cases m<;>simp[hS,hZ]
noncomputable def hR(m w:Bool)(a b i j:Int)(x y:T6):Prop:=Va a b m x->Va a b m y/\Rch (stepS (hP m a b i j) (hU m w)) (hS m x) (hS m y)
theorem mvL(H:Hb a b i j){x y:T6}(Vy:Va a b m x->Va a b m y)(k:Nat)(u:Bool)(pH pL:Pl)(lH lL:Int)(hu:(hU m w)[k]?=some u)(h1:(hP m a b i j)[hiI u k]?=some pH)(h2:(hP m a b i j)[loI u k]?=some pL)(h3:(hL m x)[hiI u k]?=some lH)(h4:(hL m x)[loI u k]?=some lL)
  (nd:pH.isE=true\/lH≠0) (nf:pL.isE=true\/lL<wat pL) (e:adw pL (adw pH (hL m x) (hiI u k) lH (-1)) (loI u k) lL 1=hL m y):hR m w a b i j x y:=fun V=>by
 refine⟨Vy V,Rch.one ?_⟩
 have:=Gw9 (s:=hS m x) (hC (m:=m) (w:=w) H) (hG H V) hu h1 h2 h3 h4 nd nf
 have e':(adw pL (adw pH (hS m x).1 (hiI u k) lH (-1)) (loI u k) lL 1,(hS m x).2.1,(hS m x).2.2)=hS m y:=by
  show(adw pL (adw pH (hL m x) (hiI u k) lH (-1)) (loI u k) lL 1,hZ m,hZ m)=(hL m y,hZ m,hZ m)
  rw[e]
 rw[e'] at this
 exact this
theorem mvF(H:Hb a b i j){x y:T6}(Vy:Va a b m x->Va a b m y)(k:Nat){br pr l:Int}(hp:(hP m a b i j)[k]?=some (.p br 0 1 (.int pr)))(hl:(hL m x)[k]?=some l)(h:l<br)(e:(hL m x).set k (l+1)=hL m y):hR m w a b i j x y:=fun V=>by
 refine⟨Vy V,Rch.one ?_⟩
 have:=Gr3 (s:=hS m x) (hC (m:=m) (w:=w) H) (hG H V) hp hl h
 have e':((hS m x).1.set k (l+1),(hS m x).2.1,(hS m x).2.2)=hS m y:=by
  show((hL m x).set k (l+1),hZ m,hZ m)=(hL m y,hZ m,hZ m)
  rw[e]
 rw[e'] at this
 exact this
theorem hM(H:Hb a b i j):Mo a b m (hR m w a b i j) where
 refl:=fun x V=>⟨V,.nil⟩
 trans:=fun f g V=>⟨(g (f V).1).1,(f V).2.trans (g (f V).1).2⟩
 fp:=fun h0 h=>by
  refine mvF (br:=a) (pr:=i) H (fun V=>⟨V.h1,⟨by show 0<=_+1; omega,by show _+1<=a; omega⟩,V.h3,V.h4,V.h5,V.h6⟩) 2 ?_ ?_ h ?_<;>cases m<;>rfl
 fq:=fun h0 h=>by
  refine mvF (br:=b) (pr:=j) H (fun V=>⟨V.h1,V.h2,V.h3,⟨by show 0<=_+1; omega,by show _+1<=b; omega⟩,V.h5,V.h6⟩) 4 ?_ ?_ h ?_<;>cases m<;>rfl
 l0:=by
  intro p c2 q c3 c4
  refine mvL H (fun V=>⟨.inl rfl,V.h2,V.h3,V.h4,V.h5,V.h6⟩) 0 true .c .e 1 0 ?_ ?_ ?_ ?_ ?_ (.inr (by decide)) (.inl rfl) ?_<;>cases m<;>cases w<;>rfl
 l1:=by
  intro p c2 q c3 c4 h0 h
  refine mvL H (fun V=>⟨.inr rfl,⟨h0,Int.le_of_lt h⟩,V.h3,V.h4,V.h5,V.h6⟩) 1 true (.p a 0 1 (.int i)) .c (p+1) 0 ?_ ?_ ?_ ?_ ?_ (.inr (by omega)) (.inr (by decide)) ?_
  ·cases m<;>cases w<;>rfl
  ·cases m<;>rfl
  ·cases m<;>rfl
  ·cases m<;>rfl
  ·cases m<;>rfl
  ·cases m<;>simp[adw,hL,Pl.isE,hiI,loI]<;>omega
 e2:=by
  have ha:=H.a1
  have hb:=H.b1
  cases w with
  | false=>
   refine⟨0,1,.inl rfl,.inr rfl,?_⟩
   intro c1 c3 c4
   refine mvL H (fun V=>⟨V.h1,V.h2,.inl rfl,⟨by show(0:Int)<=1; decide,by show(1:Int)<=b; omega⟩,V.h5,V.h6⟩) 3 false .c (.p b 0 1 (.int j)) 1 0 ?_ ?_ ?_ ?_ ?_ (.inr (by decide)) (.inr (by show(0:Int)<b; omega)) ?_<;>cases m<;>rfl
  | true=>
   refine⟨1,0,.inr rfl,.inl rfl,?_⟩
   intro c1 c3 c4
   refine mvL H (fun V=>⟨V.h1,⟨by show(0:Int)<=1; decide,by show(1:Int)<=a; omega⟩,.inl rfl,V.h4,V.h5,V.h6⟩) 2 true .c (.p a 0 1 (.int i)) 1 0 ?_ ?_ ?_ ?_ ?_ (.inr (by decide)) (.inr (by show(0:Int)<a; omega)) ?_<;>cases m<;>rfl
 f2:=by
  have ha:=H.a1
  have hb:=H.b1
  cases w with
  | false=>
   refine⟨1,0,.inr rfl,.inl rfl,?_⟩
   intro c1 c3 c4
   refine mvL H (fun V=>⟨V.h1,⟨by show(0:Int)<=0; decide,by show(0:Int)<=a; omega⟩,.inr rfl,V.h4,V.h5,V.h6⟩) 2 false (.p a 0 1 (.int i)) .c 1 0 ?_ ?_ ?_ ?_ ?_ (.inr (by decide)) (.inr (by decide)) ?_<;>cases m<;>rfl
  | true=>
   refine⟨0,1,.inl rfl,.inr rfl,?_⟩
   intro c1 c3 c4
   refine mvL H (fun V=>⟨V.h1,V.h2,.inr rfl,⟨by show(0:Int)<=0; decide,by show(0:Int)<=b; omega⟩,V.h5,V.h6⟩) 3 true (.p b 0 1 (.int j)) .c 1 0 ?_ ?_ ?_ ?_ ?_ (.inr (by decide)) (.inr (by decide)) ?_<;>cases m<;>rfl
 l4:=by
  intro c1 p c2 q c4 h0 h
  refine mvL H (fun V=>⟨V.h1,V.h2,V.h3,⟨h0,Int.le_of_lt h⟩,.inr rfl,V.h6⟩) 4 false (.p b 0 1 (.int j)) .c (q+1) 0 ?_ ?_ ?_ ?_ ?_ (.inr (by omega)) (.inr (by decide)) ?_
  ·cases m<;>cases w<;>rfl
  ·cases m<;>rfl
  ·cases m<;>rfl
  ·cases m<;>rfl
  ·cases m<;>rfl
  ·cases m<;>simp[adw,hL,Pl.isE,hiI,loI]<;>omega
 e3:=by
  intro c1 p c2 q
  cases m with
  | false=>refine mvL H (fun V=>⟨V.h1,V.h2,V.h3,V.h4,.inl rfl,V.h6⟩) 5 false .c .e 1 0 ?_ ?_ ?_ ?_ ?_ (.inr (by decide)) (.inl rfl) ?_<;>cases w<;>rfl
  | true=>
   have s1:hR true w a b i j (c1,p,c2,q,1,0) (c1,p,c2,q,0,1):=by
    refine mvL H (fun V=>⟨V.h1,V.h2,V.h3,V.h4,.inl rfl,.inr ⟨rfl,rfl⟩⟩) 5 false .c .c 1 0 ?_ ?_ ?_ ?_ ?_ (.inr (by decide)) (.inr (by decide)) ?_<;>cases w<;>rfl
   have s2:hR true w a b i j (c1,p,c2,q,0,1) (c1,p,c2,q,0,0):=by
    refine mvL H (fun V=>⟨V.h1,V.h2,V.h3,V.h4,V.h5,.inl rfl⟩) 6 false .c .e 1 0 ?_ ?_ ?_ ?_ ?_ (.inr (by decide)) (.inl rfl) ?_<;>cases w<;>rfl
   exact fun V=>⟨(s2 (s1 V).1).1,(s1 V).2.trans (s2 (s1 V).1).2⟩
 e4:=by
  intro hm c1 p c2 q c3
  subst hm
  refine mvL H (fun V=>⟨V.h1,V.h2,V.h3,V.h4,V.h5,.inl rfl⟩) 6 false .c .e 1 0 ?_ ?_ ?_ ?_ ?_ (.inr (by decide)) (.inl rfl) ?_<;>cases w<;>rfl
 f4:=by
  intro hm c1 p c2 q
  subst hm
  refine mvL H (fun V=>⟨V.h1,V.h2,V.h3,V.h4,.inl rfl,.inr ⟨rfl,rfl⟩⟩) 5 false .c .c 1 0 ?_ ?_ ?_ ?_ ?_ (.inr (by decide)) (.inr (by decide)) ?_<;>cases w<;>rfl
end
noncomputable def hW(m:Bool)(a b:Int):List Nat:=[0,1,a.toNat,1,b.toNat,1]++(if m=true then[1,0] else[0])
noncomputable def hN(m:Bool)(a b:Int):Nat:=(if m=true then 16 else 8)*(a.toNat+1)*(b.toNat+1)
noncomputable def hA(m:Bool)(a b:Int):List S3:=(Gbk (hW m a b)).map fun L=>(L,hZ m,hZ m)
section
variable{m w:Bool}{a b i j:Int}
theorem Gov:(hA m a b).length=hN m a b:=by
 unfold hA hN
 rw[AD,Gho]
 cases m<;>simp[hW]<;>grind
theorem Gzy:(hA m a b).Nodup:=by
 unfold hA
 exact List.Pairwise.map _ (fun x y h e=>h (by simpa using e)) (Gko _)
theorem Gzz(H:Hb a b i j)(g:Gd (hP m a b i j) y)(z:y.2=(hZ m,hZ m)):y∈hA m a b:=by
 obtain⟨L,R,F⟩:=y
 simp only[Prod.mk.injEq] at z
 obtain⟨rfl,rfl⟩:=z
 refine Ay.mpr ⟨L,Ghp ?_ ?_,rfl⟩
 ·have:=g.lL
  simp only at this
  rw[this]
  cases m<;>simp[hP,hW]
 ·intro k v x e1 e2
  have h0:=g.nL x (Ai e2)
  refine⟨h0,?_⟩
  have hk:=(Ab.mp e2).1
  have l1:=g.lL
  have l2:=g.lR
  have l3:=g.lF
  simp only at l1 l2 l3 hk
  obtain⟨p,ep⟩:=Hn (l:=hP m a b i j) (i:=k) (by omega)
  obtain⟨r,er⟩:=Hn (l:=hZ m) (i:=k) (by omega)
  have hw:=(g.at' k p x r r ep e2 er er).1
  have ha:=H.a1
  have hb:=H.b1
  cases m<;>(rcases k with _ | _ | _ | _ | _ | _ | _ | _ | k<;>simp[hP,hW] at e1 ep<;>(try subst e1)<;>(try subst ep)<;>simp[wat] at hw<;>omega)
theorem Gz0(H:Hb a b i j)(h:y∈hA m a b):∃ x,Va a b m x/\y=hS m x:=by
 obtain⟨L,hL',rfl⟩:=Ay.mp h
 obtain⟨l,q⟩:=Ghq hL'
 have ha:=H.a1
 have hb:=H.b1
 have cut:∀ {x:Int},0<=x/\x<=1->x=0\/x=1:=fun h=>by omega
 cases m with
 | false=>
  obtain⟨x0,x1,x2,x3,x4,x5,x6,rfl⟩:∃ x0 x1 x2 x3 x4 x5 x6,L=[x0,x1,x2,x3,x4,x5,x6]:=by
   simp[hW] at l
   match L,l with
   | [x0,x1,x2,x3,x4,x5,x6],_=>exact⟨_,_,_,_,_,_,_,rfl⟩
  have q0:=q 0 0 x0 rfl rfl
  have q1:=q 1 1 x1 rfl rfl
  have q2:=q 2 _ x2 rfl rfl
  have q3:=q 3 1 x3 rfl rfl
  have q4:=q 4 _ x4 rfl rfl
  have q5:=q 5 1 x5 rfl rfl
  have q6:=q 6 0 x6 rfl rfl
  have e0:x0=0:=by omega
  have e6:x6=0:=by omega
  subst e0; subst e6
  exact⟨(x1,x2,x3,x4,x5,0),⟨cut q1,⟨q2.1,by show x2<=a; omega⟩,cut q3,⟨q4.1,by show x4<=b; omega⟩,cut q5,.inl rfl⟩,rfl⟩
 | true=>
  obtain⟨x0,x1,x2,x3,x4,x5,x6,x7,rfl⟩:∃ x0 x1 x2 x3 x4 x5 x6 x7,L=[x0,x1,x2,x3,x4,x5,x6,x7]:=by
   simp[hW] at l
   match L,l with
   | [x0,x1,x2,x3,x4,x5,x6,x7],_=>exact⟨_,_,_,_,_,_,_,_,rfl⟩
  have q0:=q 0 0 x0 rfl rfl
  have q1:=q 1 1 x1 rfl rfl
  have q2:=q 2 _ x2 rfl rfl
  have q3:=q 3 1 x3 rfl rfl
  have q4:=q 4 _ x4 rfl rfl
  have q5:=q 5 1 x5 rfl rfl
  have q6:=q 6 1 x6 rfl rfl
  have q7:=q 7 0 x7 rfl rfl
  have e0:x0=0:=by omega
  have e7:x7=0:=by omega
  subst e0; subst e7
  exact⟨(x1,x2,x3,x4,x5,x6),⟨cut q1,⟨q2.1,by show x2<=a; omega⟩,cut q3,⟨q4.1,by show x4<=b; omega⟩,cut q5,(cut q6).elim .inl fun h=>.inr ⟨rfl,h⟩⟩,rfl⟩
theorem Gkq(H:Hb a b i j){x:T6}(V:Va a b m x):Rch (stepS (hP m a b i j) (hU m w)) (hS m x) y↔y∈hA m a b:=by
 constructor
 ·intro r
  suffices h:Gd (hP m a b i j) y/\y.2=(hZ m,hZ m) from Gzz H h.1 h.2
  induction r with
  | nil=>exact⟨hG H V,rfl⟩
  | @cons u v _ k ih=>
   obtain⟨g,z⟩:=ih
   have z1:∀ q∈hZ m,q=(0:Int):=fun q hq=>by simp[hZ] at hq; exact hq.2
   refine⟨Gkk (hC H) g k,?_⟩
   rw[<- z]
   exact Gxa (hC (m:=m) (w:=w) H) g (by rw[z]; exact z1) (by rw[z]; exact z1) k
 ·intro h
  obtain⟨x',V',rfl⟩:=Gz0 H h
  have ha:=H.a1
  have hb:=H.b1
  have M:=hM (m:=m) (w:=w) H
  exact(M.trans (down M (by omega) (by omega) V) (fill M (by omega) (by omega) V') V).2
theorem least{P:Nat->Prop}{n:Nat}(h:P n):∃ k,k<=n/\P k/\∀ j,j<k->¬ P j:=by
 induction n using Nat.strongRecOn with
 | _ n ih=>
  by_cases c:∃ j,j<n/\P j
  ·obtain⟨j,hj,pj⟩:=c
   obtain⟨k,h1,h2,h3⟩:=ih j hj pj
   exact⟨k,by omega,h2,h3⟩
  ·exact⟨n,Aa _,h,fun j hj pj=>c ⟨j,hj,pj⟩⟩
theorem Hbo(H:Hb a b i j){x:T6}(V:Va a b m x):Dn (hP m a b i j) (hU m w) (hS m x) (hN m a b):=by
 have fw:∀ n,(∀ k,k<n->k<(bq (hP m a b i j) (hU m w) (hS m x) k).length)->(bq (hP m a b i j) (hU m w) (hS m x) n).length<=hN m a b:=fun n h=>by
  have:=(Ghn n h).few (u:=hA m a b) fun y r=>(Gkq H V).mp r
  rwa [Gov] at this
 obtain⟨k,h1,h2,h3⟩:∃ k,k<=hN m a b/\(¬ k<(bq (hP m a b i j) (hU m w) (hS m x) k).length)/\∀ q,q<k->¬ ¬ q<(bq (hP m a b i j) (hU m w) (hS m x) q).length:=by
  by_cases c:∃ q,q<=hN m a b/\¬ q<(bq (hP m a b i j) (hU m w) (hS m x) q).length
  ·obtain⟨q,hq,pq⟩:=c
   obtain⟨k,a1,a2,a3⟩:=least (P:=fun q=>¬ q<(bq (hP m a b i j) (hU m w) (hS m x) q).length) pq
   exact⟨k,by omega,a2,a3⟩
  ·exfalso
   have all:∀ q,q<=hN m a b->q<(bq (hP m a b i j) (hU m w) (hS m x) q).length:=fun q hq=>Classical.byContradiction fun z=>c ⟨q,hq,z⟩
   have:=fw (hN m a b) fun q hq=>all q (by omega)
   have:=all (hN m a b) (Aa _)
   omega
 have h3':∀ q,q<k->q<(bq (hP m a b i j) (hU m w) (hS m x) q).length:=fun q hq=>Classical.not_not.mp (h3 q hq)
 have B:=Ghn k h3'
 have hle:=B.le
 have hk:(bq (hP m a b i j) (hU m w) (hS m x) k).length=k:=by omega
 have:k=hN m a b:=by
  have B':Bf (stepS (hP m a b i j) (hU m w)) (hS m x) (bq (hP m a b i j) (hU m w) (hS m x) k) (bq (hP m a b i j) (hU m w) (hS m x) k).length:=by rw[hk]; exact B
  have e1:=Gix (Gzy (m:=m) (a:=a) (b:=b)) fun y hy=>B'.all ((Gkq (w:=w) H V).mpr hy)
  rw[Gov,hk] at e1
  omega
 subst this
 exact⟨hk,h3'⟩
end
end Law
namespace Law
open PySem PySem.Spec PyProof.Rows L2 DL BF
theorem Ghr{S:Sto}{n:Nat}:∀ L:List Int,Jm (toP S (n+1)) (L.map D.int)=some (L.map PyData.int)
 | []=>rfl
 | i::L=>by
  have:=Ghr (S:=S) (n:=n) L
  rw[Au,Au]
  simp only[Jm,this]
  rfl
theorem Ghs:∀ L:List Int,PyData.canLayAll0 (L.map .int)=true
 | []=>rfl
 | i::L=>by simp[PyData.canLayAll0,PyData.canLay0,Ghs L]
theorem Ght:∀ L:List Int,PyData.depthAll (L.map .int)=0
 | []=>rfl
 | i::L=>by simp[PyData.depthAll,PyData.depth,Ght L]
theorem Ghu:∀ L M:List Int,PyData.eqvAll (L.map .int) (M.map .int)=decide (L=M)
 | [],[]=>by simp[PyData.eqvAll]
 | [],j::M=>by simp[PyData.eqvAll]
 | i::L,[]=>by simp[PyData.eqvAll]
 | i::L,j::M=>by
  simp only[Au,PyData.eqvAll,PyData.eqv,Ghu L M]
  by_cases h1:i=j<;>by_cases h2:L=M<;>simp[h1,h2]
noncomputable def pdS(s:S3):PyData:=.tuple [.tuple (s.1.map .int),.tuple (s.2.1.map .int),.tuple (s.2.2.map .int)]
theorem Gr4{S:Sto}{n:Nat}{s:S3}:toP S (n+3) (stE s)=some (pdS s):=by
 have h:∀ L:List Int,toP S (n+2) (.tup (L.map D.int))=some (.tuple (L.map PyData.int)):=fun L=>by
  show(Jm (toP S (n+1)) (L.map D.int)).map PyData.tuple=_
  rw[Ghr (n:=n)]; rfl
 show(Jm (toP S (n+2)) [.tup (s.1.map D.int),.tup (s.2.1.map D.int),.tup (s.2.2.map D.int)]).map PyData.tuple=_
 simp only[Jm,h]
 rfl
theorem Gxb{a b:S3}:PyData.eqv (pdS a) (pdS b)=decide (a=b):=by
 obtain⟨a1,a2,a3⟩:=a
 obtain⟨b1,b2,b3⟩:=b
 simp only[pdS,PyData.eqv,PyData.eqvAll,Ghu,Bool.and_true]
 by_cases h1:a1=b1<;>by_cases h2:a2=b2<;>by_cases h3:a3=b3<;>simp[h1,h2,h3]
theorem Gxc{s:S3}:PyData.canLay0 (pdS s)=true:=by simp[pdS,PyData.canLay0,PyData.canLayAll0,Ghs]
theorem Gxd{s:S3}:(pdS s).depth=2:=by simp[pdS,PyData.depth,PyData.depthAll,Ght]
theorem Gxe{S:Sto}{s:S3}:neD (stE s) (stE s) S=.ok (.bl false) S:=by
 have e:toP S 40 (stE s)=some (pdS s):=Gr4 (n:=37)
 have sh:SeqAt.shaped (pdS s)=true:=by simp[SeqAt.shaped,Gxc,Gxd]
 simp only[neD,e,sh,Gxb,Bool.and_true,if_true]
 simp
end Law
namespace Law
open PySem PySem.Spec PyProof.Rows L2 DL BF HL
variable{q:Nat}{a lim b j:Int}{S S1:Sto}{x5:Option D}{m c:Bool}{cd sd:D}{tl:List D}
theorem addls{E:Ev (List D)}{ρ:Lc}{a xs:List D}(h6:ρ[5]?=some (some (.lst q)))(hq:S[q]?=some ⟨false,a⟩)(hE:E ρ S=.ok xs S)(hl:xs.length<=1000)(ha:a.length<=1000):
  sa (o2 Gx (vr 5) (ls E)) (gn 5) ρ S=.nx (ρ.set 5 (some (.lst (S.length+1)))) ((S++[⟨false,xs⟩])++[⟨false,a++xs⟩]):=by
 have e:Gx (.lst q) (.lst S.length) (S++[⟨false,xs⟩])=.ok (.lst (S++[(⟨false,xs⟩:Cell)]).length) ((S++[⟨false,xs⟩])++[⟨false,a++xs⟩]):=Gcz (Jw hq) Hc (by omega)
 have h1:xs.length<=1000000:=by omega
 simp[h6,hE,h1] at e ⊢
 simp[e]
theorem Gz1{y:Str}{sub:List Str}(hy:y∈ys):Jz ys sub (.exn y none) S=.ok (.bl (decide (y∈sub))) S:=if_pos hy
theorem Gz2{y:Str}{x0 x1 x2 x3 x4:Option D}(hy:y∈ys):∃ q S',Kf [x0,x1,x2,x3,x4,x5,some (.exn y none)] S=.nx [x0,x1,x2,x3,x4,some (.lst q),some (.exn y none)] S'/\S'[q]?=some ⟨false,mks y⟩/\Ex S S':=by
 have i:=fun(sub:List Str) (S:Sto)=>Gz1 (sub:=sub) (S:=S) hy
 have e1:sa (ls (ac (o1 (Jz ys ["NoGate"]) (vr 6)) (ac (o1 (Jz ys ["Dry"]) (vr 6)) (ac (o1 (Jz ys ["Full"]) (vr 6)) (ac (o1 (Jz ys ["NoSpring"]) (vr 6)) an))))) (gn 5) [x0,x1,x2,x3,x4,x5,some (.exn y none)] S=.nx [x0,x1,x2,x3,x4,some (.lst S.length),some (.exn y none)] (S++[⟨false,[.bl (decide (y∈(["NoGate"]:List Str))),.bl (decide (y∈(["Dry"]:List Str))),.bl (decide (y∈(["Full"]:List Str))),.bl (decide (y∈(["NoSpring"]:List Str)))]⟩]):=by
  simp[i]
 have x1':Ex S (S++[⟨false,[.bl (decide (y∈(["NoGate"]:List Str))),.bl (decide (y∈(["Dry"]:List Str))),.bl (decide (y∈(["Full"]:List Str))),.bl (decide (y∈(["NoSpring"]:List Str)))]⟩]):=Ex.app
 have q1:(S++[(⟨false,[.bl (decide (y∈(["NoGate"]:List Str))),.bl (decide (y∈(["Dry"]:List Str))),.bl (decide (y∈(["Full"]:List Str))),.bl (decide (y∈(["NoSpring"]:List Str)))]⟩:Cell)])[S.length]?=some ⟨false,[.bl (decide (y∈(["NoGate"]:List Str))),.bl (decide (y∈(["Dry"]:List Str))),.bl (decide (y∈(["Full"]:List Str))),.bl (decide (y∈(["NoSpring"]:List Str)))]⟩:=Hc
 generalize S++[(⟨false,[.bl (decide (y∈(["NoGate"]:List Str))),.bl (decide (y∈(["Dry"]:List Str))),.bl (decide (y∈(["Full"]:List Str))),.bl (decide (y∈(["NoSpring"]:List Str)))]⟩:Cell)]=S1 at *
 have stp:∀ {q:Nat} {m:List D} {S:Sto},S[q]?=some ⟨false,m⟩->m.length<=100->∀ (s1 s2 s3:List Str),∃ q' S',sa (o2 Gx (vr 5) (ls (ac (o1 (Jz ys s1) (vr 6)) (ac (o1 (Jz ys s2) (vr 6)) (ac (o1 (Jz ys s3) (vr 6)) an))))) (gn 5) [x0,x1,x2,x3,x4,some (.lst q),some (.exn y none)] S=.nx [x0,x1,x2,x3,x4,some (.lst q'),some (.exn y none)] S'/\S'[q']?=some ⟨false,m++[.bl (decide (y∈s1)),.bl (decide (y∈s2)),.bl (decide (y∈s3))]⟩/\Ex S S':=fun{q m S} hq hm s1 s2 s3=>by
  have ad:=addls (E:=ac (o1 (Jz ys s1) (vr 6)) (ac (o1 (Jz ys s2) (vr 6)) (ac (o1 (Jz ys s3) (vr 6)) an))) (ρ:=[x0,x1,x2,x3,x4,some (.lst q),some (.exn y none)]) (xs:=[.bl (decide (y∈s1)),.bl (decide (y∈s2)),.bl (decide (y∈s3))]) rfl hq (by simp[i]) (by simp) (by omega)
  refine⟨_,_,ad,?_,Ex.app.trans Ex.app⟩
  have:=Hc (S:=S++[(⟨false,[.bl (decide (y∈s1)),.bl (decide (y∈s2)),.bl (decide (y∈s3))]⟩:Cell)]) (c:=⟨false,m++[.bl (decide (y∈s1)),.bl (decide (y∈s2)),.bl (decide (y∈s3))]⟩)
  simpa using this
 obtain⟨q2,S2,e2,h2,x2'⟩:=stp q1 (by simp) ["NoBarge"] ["NoRoom"] ["Uneven"]
 obtain⟨q3,S3,e3,h3,x3'⟩:=stp h2 (by simp) ["Shallow"] ["Falls"] ["NoText"]
 obtain⟨q4,S4,e4,h4,x4'⟩:=stp h3 (by simp) ["TooMany"] ["NoLine"] ys
 refine⟨q4,S4,?_,h4,((x1'.trans x2').trans x3').trans x4'⟩
 unfold Kf
 rw[Gee e1,Gee e2,Gee e3,e4]
theorem Gc9:("TooMany":Str)∈ys:=by decide +kernel
theorem Gz3:Kk "TooMany"=.str "toomany":=by kernel_rfl!
section
variable{ps:List Pl}{us:List Bool}{s0:S3}{S:Sto}
theorem Gr5(C:Cn ps us)(g:Gd ps s0){m:Nat}(d:Dn ps us s0 m)(h1:(m:Int)<=lim)(h2:m<=2000):∃ tl S',Ud [cD ps us,stE s0,.int lim] S=.ok (.lst S.length) S'/\S'[S.length]?=some ⟨false,tl⟩/\Tl ps us (bq ps us s0 m) tl/\Ex S S':=by
 obtain⟨tl,S',e,q,T,x⟩:=Gw7 (S:=S) C g d h1 h2
 have gxo:=Yq e
 refine⟨tl,S',?_,q,T,x⟩
 unfold Ud
 rw[Gq]
 generalize stE s0=sd0 at *
 generalize cD ps us=cd at *
 simp[Gjs,gxo,fin]
theorem Gr6(C:Cn ps us)(g:Gd ps s0){m:Nat}(d:Dn ps us s0 m)(h1:lim<(m:Int))(h2:m<=2000)(h0:1<=lim):∃ S',Ud [cD ps us,stE s0,.int lim] S=.exc ⟨"TooMany",none⟩ S'/\Ex S S':=by
 obtain⟨S',e,x⟩:=Gw8 (S:=S) C g d h1 h2 h0
 have gxo:=Xo e Gc9
 refine⟨S',?_,x⟩
 unfold Ud
 rw[Gq]
 generalize stE s0=sd0 at *
 generalize cD ps us=cd at *
 simp[Gjs,gxo,fin]
end
noncomputable def cfn(c:Bool):Fn:=if c=true then Yp else Ud
noncomputable def cwd(c:Bool):D:=.str (if c=true then "jam" else "met")
theorem Gxf:eqD (cwd c) (.str "met") S=.ok (.bl (!c)) S:=by cases c<;>exact(Jk (stok _) (stok _)).trans rfl
theorem Gow:Ke [some (cwd c),some cd,some sd,some (.int lim),some .non,x5,none] S=bindS (gX ys (cfn c) [cd,sd,.int (if lim=0 then 600 else lim)] S) [some (cwd c),some cd,some sd,some (.int lim),some .non,x5,none] fun d S1=>.nx [some (cwd c),some cd,some sd,some (.int lim),some d,x5,none] S1:=by
 unfold Ke
 have e:=Gxf (S:=S) (c:=c)
 have h1:gX ys (Gcf 600 Ud) [cd,sd] S=gX ys Ud [cd,sd,.int 600] S:=rfl
 have h2:gX ys (Gcf 600 Yp) [cd,sd] S=gX ys Yp [cd,sd,.int 600] S:=rfl
 cases c<;>by_cases z:lim=0<;>simp[e,cfn,h1,h2,z]
section
variable{m w:Bool}{a b i j:Int}{x:T6}{S:Sto}
theorem Gr7:Vw [cD (hP m a b i j) (hU m w),stE (hS m x)] S=.ok (.bl true) S:=by
 cases m<;>rfl
theorem Gox{r:List D}(h:S[q]?=some ⟨false,.tup [sd,.non,.non]::r⟩):∃ q' S',Zy [.lst q,.int 0] S=.ok (.lst q') S'/\S'[q']?=some ⟨false,[]⟩/\Ex S S':=by
 have x1:Ex S (S++[⟨false,[]⟩]):=Ex.app
 have q1:(S++[(⟨false,[]⟩:Cell)])[S.length]?=some ⟨false,[]⟩:=Hc
 have h1:=x1.at h
 have g0:DL.getD (.lst q) (.int 0) (S++[⟨false,[]⟩])=.ok (.tup [sd,.non,.non]) (S++[⟨false,[]⟩]):=Jd h1 (Gu (by decide) rfl)
 have rvv:rvL (.lst S.length) (some (-1)) (S++[⟨false,[]⟩])=.ok (.lst (S++[(⟨false,[]⟩:Cell)]).length) ((S++[⟨false,[]⟩])++[⟨false,[]⟩]):=by
  simp[rvL,q1]
 refine⟨(S++[(⟨false,[]⟩:Cell)]).length,(S++[⟨false,[]⟩])++[⟨false,[]⟩],?_,Hc,x1.trans Ex.app⟩
 unfold Zy
 rw[Gq]
 have e1:sa (ls an) (gn 2) [some (.lst q),some (.int 0),none,none,none,none] S=.nx [some (.lst q),some (.int 0),some (.lst S.length),none,none,none] (S++[⟨false,[]⟩]):=by simp
 generalize S++[(⟨false,[]⟩:Cell)]=S1 at *
 have e2:sa (o2 DL.getD (vr 0) (vr 1)) (gt (gcons (gn 3) (gcons (gn 4) (gcons (gn 5) gnil))) 3) [some (.lst q),some (.int 0),some (.lst S.length),none,none,none] S1=.nx [some (.lst q),some (.int 0),some (.lst S.length),some sd,some .non,some .non] S1:=by simp[g0]
 have e3:whN Xj Gbb 3000 [some (.lst q),some (.int 0),some (.lst S.length),some sd,some .non,some .non] S1=.nx [some (.lst q),some (.int 0),some (.lst S.length),some sd,some .non,some .non] S1:=by
  have:Xj [some (.lst q),some (.int 0),some (.lst S.length),some sd,some .non,some .non] S1=.ok false S1:=by rfl
  rw[show(3000:Nat)=2999+1 from rfl,whN,this]
  simp only[bindS,Ak,if_false]
 simp only[Gcs]
 refine(Gm e1).trans ((Gm e2).trans ((Gm e3).trans ?_))
 simp[rvl,rvv,fin]
theorem Gr8(hm:Ud [cD (hP m a b i j) (hU m w),stE (hS m x),.int lim] S=.ok (.lst q) S1)(hq:S1[q]?=some ⟨false,.tup [stE (hS m x),.non,.non]::tl⟩):∃ q' S',Jh [cD (hP m a b i j) (hU m w),stE (hS m x),.int lim] S=.ok (.lst q') S'/\S'[q']?=some ⟨false,[]⟩/\Ex S1 S':=by
 have gxo:=Yq hm
 obtain⟨q',S',er,hq',x'⟩:=Gox hq
 have th:=Gr7 (m:=m) (w:=w) (a:=a) (b:=b) (i:=i) (j:=j) (x:=x) (S:=S1)
 refine⟨q',S',?_,hq',x'⟩
 unfold Jh
 rw[Gq]
 generalize cD (hP m a b i j) (hU m w)=cd at *
 generalize stE (hS m x)=sd at *
 have e1:sa (cl 3 (gX ys Ud) (ac (vr 0) (ac (vr 1) (ac (vr 2) an)))) (gn 3) [some cd,some sd,some (.int lim),none,none,none,none,none] S=.nx [some cd,some sd,some (.int lim),some (.lst q),none,none,none,none] S1:=by simp[gxo]
 have sr:Qw (ac (vr 3) an) [some cd,some sd,some (.int lim),some (.lst q),none,none,none,none] S1=.ok ⟨fun(k:Nat) S=>(S[q]?).bind fun c=>(c.xs[k]?).map fun d=>D.tup [.int k,d],(.tup [sd,.non,.non]::tl).length+1⟩ S1:=by simp[Qw,hq]
 have lb:Jv [some cd,some sd,some (.int lim),some (.lst q),some (.int 0),some sd,some .non,some .non] S1=.rt (.lst q') S':=by
  simp[Jv,th,er,Wm]
 have e2:sfor (Qw (ac (vr 3) an)) (gt (gcons (gn 4) (gcons (gt (gcons (gn 5) (gcons (gn 6) (gcons (gn 7) gnil))) 3) gnil)) 2) Jv [some cd,some sd,some (.int lim),some (.lst q),none,none,none,none] S1=.rt (.lst q') S':=by
  rw[Yc,sr,Jq]
  simp only[AL,Ki,hq]
  simp[lb]
 simp only[Qd]
 refine(Gm e1).trans ?_
 rw[Gab,e2]
 rfl
theorem Gxg(hm:Ud [cD (hP m a b i j) (hU m w),stE (hS m x),.int lim] S=.ok (.lst q) S1)(hq:S1[q]?=some ⟨false,.tup [stE (hS m x),.non,.non]::tl⟩):∃ q' S',Yp [cD (hP m a b i j) (hU m w),stE (hS m x),.int lim] S=.ok (.tup [.str "free",.lst q']) S'/\S'[q']?=some ⟨false,[]⟩/\Ex S1 S':=by
 obtain⟨q',S',e,hq',x'⟩:=Gr8 hm hq
 have gxo:=Yq e
 refine⟨q',S',?_,hq',x'⟩
 unfold Yp
 rw[Gq]
 generalize cD (hP m a b i j) (hU m w)=cd at *
 generalize stE (hS m x)=sd at *
 have nn:Zg (.lst q') .non S'=.ok (.bl true) S':=rfl
 simp[Gjt,gxo,nn,fin]
theorem Gxh(hm:Ud [cd,sd,.int lim] S=.exc ⟨"TooMany",none⟩ S1):Yp [cd,sd,.int lim] S=.exc ⟨"TooMany",none⟩ S1:=by
 have gxo:=Xo hm Gc9
 have e:Jh [cd,sd,.int lim] S=.exc ⟨"TooMany",none⟩ S1:=by
  unfold Jh
  rw[Gq]
  simp[Qd,gxo,fin]
 have gx2:=Xo e Gc9
 unfold Yp
 rw[Gq]
 simp[Gjt,gx2,fin]
end
section
variable{ps:List Pl}{us:List Bool}{s s0 x:S3}{S S0:Sto}{t:List S3}{n:Nat}
theorem Gkr{n:Int}{S:Sto}:Qt [.int n] S=.ok (.bl true) S:=by
 refine(Gq (m:=1) (b:=Kr)).trans ?_
 show fin (Kr [some (.int n)] S)=_
 unfold Kr
 rfl
theorem Gz4(C:Cn ps us)(g:Gd ps s):Sm s.1/\Sm s.2.1/\Sm s.2.2:=by
 have h13:=C.hl
 have su:=g.sum
 have t2:=Gay g.nR
 have t3:=Gay g.nF
 refine⟨sm_of (by rw[g.lL]; exact h13) fun i hi=>?_,sm_of (by rw[g.lR]; exact h13) fun i hi=>?_,sm_of (by rw[g.lF]; exact h13) fun i hi=>?_⟩
 ·have n1:=g.nL i hi
  obtain⟨k,hk⟩:=Bo.mp hi
  have kl:=(Ab.mp hk).1
  rw[g.lL] at kl
  have e1:=Ag kl
  have e2:s.2.1[k]?=some _:=Ag (by rw[g.lR]; exact kl)
  have e3:s.2.2[k]?=some _:=Ag (by rw[g.lF]; exact kl)
  have h:=(g.at' k _ _ _ _ e1 hk e2 e3).1
  have ok:=C.hp _ (A2 kl)
  generalize ps[k]=pl at *
  cases pl with
  | e=>simp[wat] at h; omega
  | c=>simp[wat] at h; omega
  | p br de ro pr=>
   simp only[wat,Pl.ok] at h ok
   omega
 ·obtain⟨k,hk⟩:=Bo.mp hi
  have:=Gc5 g.nR hk
  have:=g.nR i hi
  omega
 ·obtain⟨k,hk⟩:=Bo.mp hi
  have:=Gc5 g.nF hk
  have:=g.nF i hi
  omega
theorem Gr9(C:Cn ps us)(g:Gd ps s):Sho S (stE s) 2475 2:=let ⟨h1,h2,h3⟩:=Gz4 C g; Gw1 h1 h2 h3
structure Rt(ps:List Pl)(us:List Bool)(s0:S3)(t:List S3)(tl:List D):Prop where
 C:Cn ps us
 T:Tl ps us t tl
 nd:t.Nodup
 hd:t[0]?=some s0
 gd:∀ x∈t,Gd ps x
 len:t.length<1000
noncomputable abbrev rI(cd sd:D)(a:Nat)(N:Int)(x4 x5 x6:Option D):Lc:=[some cd,some sd,some (.lst a),some (.int N),x4,x5,x6]
theorem Hbp{a k:Nat}{N:Int}{A B:D}{x6:Option D}(h:Rt ps us s0 t tl)(ha:S[a]?=some ⟨false,tl⟩)(hk:t[k]?=some s)(tk:Tw ps us t k s A B):
  ∃ S' y6,Jb (rI (cD ps us) sd a N (some (.int k)) (some (.tup [stE s,A,B])) x6) S=.nx (rI (cD ps us) sd a N (some (.int k)) (some (.tup [stE s,A,B])) y6) S'/\Ex S S':=by
 have C:=h.C
 have it:∀ S,isD "tuple" (.tup [stE s,A,B]) S=.ok (.bl true) S:=fun S=>rfl
 have g0':∀ S,DL.getD (.tup [stE s,A,B]) (.int 0) S=.ok (stE s) S:=fun S=>p0e
 have g1':∀ S,DL.getD (.tup [stE s,A,B]) (.int 1) S=.ok A S:=fun S=>p1e
 have g2':∀ S,DL.getD (.tup [stE s,A,B]) (.int 2) S=.ok B S:=fun S=>Hx (Gu (by decide) rfl)
 have ln3:∀ S,Hr [.tup [stE s,A,B]] S=.ok (.int 3) S:=fun S=>rfl
 rcases tk with⟨k0,hA,hB⟩ | ⟨j,p,sj,hj,tj,hp,hb,hA,hB⟩
 ·subst k0
  refine⟨S,x6,?_,.refl⟩
  generalize cD ps us=cd at *
  generalize D.tup [stE s,A,B]=od at *
  simp[Jb,it,ln3,Wm]
 ·subst hA hB
  have gsj:=h.gd sj (Ai tj)
  obtain⟨a',b',htj,_⟩:=h.T.at' j sj tj
  have gj:DL.getD (.lst a) (.int (j:Int)) S=.ok (.tup [stE sj,a',b']) S:=Jd ha (Gu (by omega) (by rw[AI]; exact htj))
  have gp0:∀ S,DL.getD (.tup [stE sj,a',b']) (.int 0) S=.ok (stE sj) S:=fun S=>p0e
  obtain⟨s',pr,ga,e1,e2,_,_⟩:=Giz C gsj hp
  rw[hb] at e2
  subst e2
  obtain⟨hm,_⟩:=A7.mp hp
  obtain⟨S',du,xd⟩:=((Gf7 C gsj).1 p.1 p.2 (Gc6 (by have:=C.hu; omega) hm)).due S
  have e1':resOf ps us sj (p.1,p.2)=.yes (.tup [stE s,.int pr,.int ga]):=e1
  rw[e1'] at du
  have du:Hg [cD ps us,stE sj,ddOf p] S=.ok (.tup [stE s,.int pr,.int ga]) S':=du
  have it2:∀ S,isD "tuple" (ddOf p) S=.ok (.bl true) S:=fun S=>rfl
  have ln2:∀ S,Hr [ddOf p] S=.ok (.int 2) S:=fun S=>rfl
  have gd1:∀ S,DL.getD (ddOf p) (.int 1) S=.ok (.int p.2) S:=fun S=>p1e
  have wj:=Gkr (n:=(j:Int)) (S:=S)
  have wp:=Gkr (n:=(p.2:Int)) (S:=S)
  have is:isD "str" (.tup [stE s,.int pr,.int ga]) S'=.ok (.bl false) S':=rfl
  have gt0:∀ S,DL.getD (.tup [stE s,.int pr,.int ga]) (.int 0) S=.ok (stE s) S:=fun S=>p0e
  have nes:=Gxe (s:=s) (S:=S')
  have k0:(0:Int)<(k:Int):=by omega
  have j1:(0:Int)<=(j:Int):=by omega
  have j2:(j:Int)<(k:Int):=by omega
  refine⟨S',some (.tup [stE s,.int pr,.int ga]),?_,xd⟩
  generalize hod:D.tup [stE s,.int (j:Int),ddOf p]=od at *
  generalize htd:D.tup [stE s,.int pr,.int ga]=td at *
  generalize D.tup [stE sj,a',b']=oj at *
  generalize stE sj=sdj at *
  generalize stE s=sds at *
  generalize cD ps us=cd at *
  generalize (p.2:Int)=pp at *
  generalize ddOf p=dp at *
  generalize (j:Int)=jj at *
  generalize (k:Int)=kk' at *
  simp[Jb,it,ln3,Wm,k0,g1',g2',wj,wp,j1,j2,it2,ln2,gd1,gj,gp0,du,is,gt0,g0',nes]
theorem Dn.rt{m:Nat}(C:Cn ps us)(g:Gd ps s0)(d:Dn ps us s0 m)(h:m<1000)(T:Tl ps us (bq ps us s0 m) tl):Rt ps us s0 (bq ps us s0 m) tl where
 C:=C
 T:=T
 nd:=(Ghn m d.go).nd
 hd:=by
  obtain⟨r,e⟩:=Gkl (ps:=ps) (us:=us) (s0:=s0) (n:=0) m
  rw[Bw] at e
  rw[e]; rfl
 gd:=fun x hx=>d.gd C g (Aa _) hx
 len:=by rw[d.len]; exact h
theorem Rt.first(h:Rt ps us s0 t tl):∃ r,tl=.tup [stE s0,.non,.non]::r:=by
 obtain⟨A,B,e,tw⟩:=h.T.at' 0 s0 h.hd
 rcases tw with⟨_,rfl,rfl⟩ | ⟨j,_,_,hj,_⟩
 ·cases tl with
  | nil=>simp at e
  | cons d r=>simp at e; exact⟨r,by rw[e]⟩
 ·omega
theorem Gz5{t:List S3}(h:t.Nodup):kyL (t.map stE)=true:=by
 unfold kyL
 rw[As,decide_eq_true_eq,AK]
 refine⟨fun d hd=>?_,?_⟩
 ·obtain⟨s,_,rfl⟩:=Ay.mp hd
  rw[Gc7]; rfl
 ·rw[List.map_map]
  refine List.Pairwise.map _ (fun a b hab e=>hab ?_) h
  simp only[Function.comp,Gc7,Option.some.injEq] at e
  exact Giy e
theorem Goy{a:Nat}(h:Rt ps us s0 t tl)(ha:S[a]?=some ⟨false,tl⟩):∃ S',Kg [cD ps us,stE s0,.lst a,.int t.length] S=.ok (.bl true) S':=by
 have C:=h.C
 have gs:=h.gd s0 (Ai h.hd)
 have il:isD "list" (.lst a) S=.ok (.bl true) S:=by simp[isD,isT,ha,tyN]
 have l1:=Gcy ha
 simp only[h.T.len] at l1
 obtain⟨r0,e0⟩:=h.first
 have gf:DL.getD (.lst a) (.int 0) S=.ok (.tup [stE s0,.non,.non]) S:=Jd ha (Gu (by decide) (by rw[e0]; rfl))
 obtain⟨r,hr,er⟩:=Sho.repr (S:=S) (d:=.tup [stE s0,.non,.non]) (b:=(2475+2)*3+3) (e:=3) (Gfy (l:=[stE s0,.non,.non]) fun d hd=>by
   simp only[Ad,AF,or_false] at hd
   rcases hd with rfl | rfl | rfl
   ·exact Gr9 C gs
   ·exact Gj0.mono (by decide) (by decide)
   ·exact Gj0.mono (by decide) (by decide)) (by decide) (by decide)
 have er:=er S .refl
 have nr:neD (.str r) (.str r) S=.ok (.bl false) S:=by
  have:=Jr (S:=S) (Jk (S:=S) hr hr)
  rw[this]; simp
 have ll:tl.length<1000:=by rw[h.T.len]; exact h.len
 have hn:∀ (k:Nat) (S':Sto),S'[a]?=some ⟨false,tl⟩->((S'[a]?).bind fun c=>(c.xs[k]?).map fun d=>D.tup [.int k,d])=((List.range tl.length).map fun k:Nat=>D.tup [.int k,tl.getD k .non])[k]?:=fun k S' q=>by
  rw[q]
  show(tl[k]?).map _=_
  rw[Aw]
  by_cases c:k<tl.length
  ·rw[BG c,Ag c]
   simp[List.getD,Ag c]
  ·rw[Bn (by omega),Bn (by simp; omega)]; rfl
 obtain⟨ρ',S',ef,y4,y5,y6,hρ,h1⟩:=Yd (nxt:=fun(k:Nat) S=>(S[a]?).bind fun c=>(c.xs[k]?).map fun d=>D.tup [.int k,d]) (g:=gt (gcons (gn 4) (gcons (gn 5) gnil)) 2) (b:=Jb) (l:=(List.range tl.length).map fun k:Nat=>D.tup [.int k,tl.getD k .non])
  (fun k ρ S'=>∃ y4 y5 y6,ρ=rI (cD ps us) (stE s0) a t.length y4 y5 y6/\Ex S S')
  (fun k _ S' ⟨_,_,_,_,hx⟩=>hn k S' (hx.at ha))
  (fun k d ρ S' hd ⟨y4,y5,y6,e,h1⟩=>by
   subst e
   have kl:k<tl.length:=by have:=(Ab.mp hd).1; simpa using this
   rw[Aw,BG kl] at hd
   have hd:D.tup [.int (k:Int),tl.getD k .non]=d:=Ac hd
   have kt:k<t.length:=by rw[<- h.T.len]; exact kl
   have hk:=Ag kt
   generalize t[k]=s at hk
   obtain⟨A,B,hAB,tw⟩:=h.T.at' k s hk
   have eg:tl.getD k .non=.tup [stE s,A,B]:=by simp[List.getD,hAB]
   rw[eg] at hd
   subst hd
   obtain⟨S2,z6,e1,e2⟩:=Hbp (N:=t.length) (sd:=stE s0) (x6:=y6) h (h1.at ha) hk tw
   exact⟨rI (cD ps us) (stE s0) a t.length (some (.int k)) (some (.tup [stE s,A,B])) y6,_,S2,rfl,e1,_,_,_,rfl,h1.trans e2⟩)
  (tl.length+1) 0 (rI (cD ps us) (stE s0) a t.length none none none) S (AC _) ⟨none,none,none,rfl,.refl⟩ (by simp)
 subst hρ
 have ha':=h1.at ha
 have sr:=Ghg ha'
 have f0:isrc (vr 2) (rI (cD ps us) (stE s0) a t.length y4 y5 y6) S'=.ok (Gau a tl.length) S':=by
  generalize cD ps us=cd at *
  generalize stE s0=sd at *
  generalize (t.length:Int)=tt at *
  simp[sr]
 obtain⟨S3,ec,qc,xc⟩:=Ghk (l:=tl) (fs:=isrc (vr 2)) (pk:=[none]) (e:=o2 DL.getD (vr 0) (cn (.int 0))) (ρ:=rI (cD ps us) (stE s0) a t.length y4 y5 y6) (S:=S') [] (fun d=>match d with | .tup (d::_)=>d | d=>d) f0
  (fun k S' hx=>by show(S'[a]?).bind (fun c=>c.xs[k]?)=_; rw[hx.at ha']; rfl) (by show tl.length<tl.length+1; omega) rfl ll
  (fun d hd S' hx=>by
   obtain⟨k,hk⟩:=Bo.mp hd
   have kt:k<t.length:=by rw[<- h.T.len]; exact(Ab.mp hk).1
   obtain⟨A,B,hAB,_⟩:=h.T.at' k _ (Ag kt)
   rw[hk] at hAB
   cases (Ac hAB)
   have g0:DL.getD (.tup [stE t[k],A,B]) (.int 0) S'=.ok (stE t[k]) S':=p0e
   refine⟨S',?_,.refl⟩
   generalize stE t[k]=sd at *
   simp[g0])
 have em:tl.map (fun d=>match d with | .tup (d::_)=>d | d=>d)=t.map stE:=by
  refine List.ext_getElem? fun k=>?_
  rw[Aw,Aw]
  by_cases kt:k<t.length
  ·obtain⟨A,B,hAB,_⟩:=h.T.at' k _ (Ag kt)
   rw[hAB,Ag kt]; rfl
  ·rw[Bn (by rw[h.T.len]; omega),Bn (by omega)]; rfl
 rw[em] at qc
 have ls:Gea [.lst S'.length] S3=.ok (.int t.length) S3:=by
  have c:((True/\(t.map stE).length<1200)/\kyL (t.map stE)=true):=⟨⟨trivial,by have:=h.len; simp; omega⟩,Gz5 h.nd⟩
  simp only[Gea,qc]
  rw[if_pos c]
  simp
 refine⟨S3,?_⟩
 unfold Kg
 rw[Gq]
 simp only[Ux]
 have sr2:Qw (ac (vr 2) an) (rI (cD ps us) (stE s0) a t.length none none none) S=.ok ⟨fun(k:Nat) S=>(S[a]?).bind fun c=>(c.xs[k]?).map fun d=>D.tup [.int k,d],tl.length+1⟩ S:=by
  simp[Qw,ha]
 refine(Gm (ρ':=rI (cD ps us) (stE s0) a t.length none none none) (S':=S) ?_).trans ?_
 ·generalize cD ps us=cd at *
  generalize stE s0=sd at *
  generalize (t.length:Int)=tt at *
  simp[il,Wm,l1]
 refine(Gm (ρ':=rI (cD ps us) (stE s0) a t.length none none none) (S':=S) ?_).trans ?_
 ·generalize cD ps us=cd at *
  generalize stE s0=sd at *
  generalize (t.length:Int)=tt at *
  generalize hq:D.tup [sd,.non,.non]=td at *
  simp[gf,er,nr,hq]
 refine(Gm (ρ':=rI (cD ps us) (stE s0) a t.length y4 y5 y6) (S':=S') ?_).trans ?_
 ·rw[Yc,sr2,Jq]
  exact ef
 ·generalize hcm:cmp (isrc (vr 2)) [none] (gn 0) ttrue (o2 DL.getD (vr 0) (cn (.int 0)))=cm at *
  generalize (t.length:Int)=tt at *
  simp[ec,ls,fin]
end
theorem Gta{v:D}{S2:Sto}(e:cfn c [cd,sd,.int (if lim=0 then 600 else lim)] (S++[⟨false,[]⟩])=.ok v S2)(x:Ex (S++[⟨false,[]⟩]) S2):Hw [cwd c,cd,sd,.int lim] S=.ok v (S2++[⟨false,[]⟩]):=by
 have q1:(S++[(⟨false,[]⟩:Cell)])[S.length]?=some ⟨false,[]⟩:=Hc
 have s1:sa (ls an) (gn 5) [some (cwd c),some cd,some sd,some (.int lim),some .non,none,none] S=.nx [some (cwd c),some cd,some sd,some (.int lim),some .non,some (.lst S.length),none] (S++[⟨false,[]⟩]):=by simp
 generalize S++[(⟨false,[]⟩:Cell)]=S1 at *
 have gxo:=Yq e
 have tr:=Gn6 (hh:=hdl 6 Kf) (fb:=Ke) (ρ:=[some (cwd c),some cd,some sd,some (.int lim),some .non,some (.lst S.length),none]) (S:=S1) (ρ':=[some (cwd c),some cd,some sd,some (.int lim),some v,some (.lst S.length),none]) (S':=S2) (by rw[Gow,gxo,Jq])
 have q2:(S2++[(⟨false,[]⟩:Cell)])[S2.length]?=some ⟨false,[]⟩:=Hc
 have nn:=Gwu (Jw (x.at q1)) q2
 unfold Hw
 rw[Gq]
 simp only[Wc]
 refine(Gm (ρ':=[some (cwd c),some cd,some sd,some (.int lim),some .non,none,none]) (S':=S) (by simp)).trans ?_
 refine(Gm s1).trans ?_
 refine(Gm tr).trans ?_
 generalize cwd c=cw at *
 simp[nn,fin]
theorem Gz6{S2:Sto}(e:cfn c [cd,sd,.int (if lim=0 then 600 else lim)] (S++[⟨false,[]⟩])=.exc ⟨"TooMany",none⟩ S2)(x:Ex (S++[⟨false,[]⟩]) S2):∃ S',Hw [cwd c,cd,sd,.int lim] S=.ok (.str "toomany") S':=by
 have s1:sa (ls an) (gn 5) [some (cwd c),some cd,some sd,some (.int lim),some .non,none,none] S=.nx [some (cwd c),some cd,some sd,some (.int lim),some .non,some (.lst S.length),none] (S++[⟨false,[]⟩]):=by simp
 generalize S++[(⟨false,[]⟩:Cell)]=S1 at *
 have gxo:=Xo e Gc9
 obtain⟨q,S3,e3,h3,x3⟩:=Gz2 (y:="TooMany") (x0:=some (cwd c)) (x1:=some cd) (x2:=some sd) (x3:=some (.int lim)) (x4:=some .non) (x5:=some (.lst S.length)) (S:=S2) Gc9
 have tr:Vi ys (hdl 6 Kf) Ke [some (cwd c),some cd,some sd,some (.int lim),some .non,some (.lst S.length),none] S1=.nx [some (cwd c),some cd,some sd,some (.int lim),some .non,some (.lst q),none] S3:=by
  rw[Gj5 (x:=⟨"TooMany",none⟩) (ρ':=[some (cwd c),some cd,some sd,some (.int lim),some .non,some (.lst S.length),none]) (S':=S2) (by rw[Gow,gxo,Geg]) Gc9]
  exact Gwv (ρ':=[some (cwd c),some cd,some sd,some (.int lim),some .non,some (.lst q),some (.exn "TooMany" none)]) e3
 obtain⟨b,bs,hb⟩:=Gn7 "TooMany"
 have h3':S3[q]?=some ⟨false,(b::bs).map D.bl⟩:=by rw[<- hb]; exact h3
 have q4:(S3++[(⟨false,[]⟩:Cell)])[S3.length]?=some ⟨false,[]⟩:=Hc
 have ns:=Grn (Jw h3') q4
 obtain⟨S5,e5,x5⟩:=Gwt Gc9 (Jw (c:=⟨false,[]⟩) h3)
 rw[Gz3] at e5
 refine⟨S5,?_⟩
 unfold Hw
 rw[Gq]
 simp only[Wc]
 refine(Gm (ρ':=[some (cwd c),some cd,some sd,some (.int lim),some .non,none,none]) (S':=S) (by simp)).trans ?_
 refine(Gm s1).trans ?_
 refine(Gm tr).trans ?_
 generalize cwd c=cw at *
 simp[ns,e5,fin]
section
variable{S:Sto}{t k n:Nat}
noncomputable abbrev pnd(a i:Int):D:=.tup [.str "pound",.int a,.int 0,.int 1,.int i]
theorem Gxi{S0:Sto}{f:Ev Src}{ρ:Lc}{w:Nat}{A B:Int}(d:Dp S t k n)(hn:n<2^50)(hq:S[w]?=some ⟨false,[.int A,.int B]⟩)(wt:w≠t)(wk:w≠k)(hf:f ρ S0=.ok (Gau w 2) S)(hp:pkS [none,some 0] ρ=[none,some (.lst t)]):
  ∃ (i j:Int) (S':Sto),cmp f [none,some 0] (gn 0) ttrue (tp (ac (cn (.str "pound")) (ac (vr 0) (ac (cn (.int 0)) (ac (cn (.int 1)) (ac (cl 2 (Go Gr) (ac (vr 1) (ac (cn (.int 100)) an))) an)))))) ρ S0=.ok (.lst S.length) S'/\S'[S.length]?=some ⟨false,[pnd A i,pnd B j]⟩/\(0<=i/\i<=99)/\(0<=j/\j<=99)/\Dp S' t k (n+2)/\Kp S S' t k:=by
 have lt:=d.lt
 have wl:w<S.length:=(Ab.mp hq).1
 obtain⟨ρ',S',ef,y0,gs,rfl,q,l,b,d',kp⟩:=Yd (nxt:=(Gau w 2).nxt) (g:=gn 0) (b:=cbody S.length ttrue (tp (ac (cn (.str "pound")) (ac (vr 0) (ac (cn (.int 0)) (ac (cn (.int 1)) (ac (cl 2 (Go Gr) (ac (vr 1) (ac (cn (.int 100)) an))) an))))))) (l:=[.int A,.int B])
  (fun i ρ S'=>∃ (y0:Option D) (gs:List Int),ρ=[y0,some (.lst t)]/\S'[S.length]?=some ⟨false,(List.zip ([A,B].take i) gs).map fun p=>pnd p.1 p.2⟩/\gs.length=i/\(∀ g∈gs,0<=g/\g<=99)/\Dp S' t k (n+i)/\Kp S S' t k)
  (fun i _ S' ⟨_,_,_,_,_,_,_,kp⟩=>by show(S'[w]?).bind (fun c=>c.xs[i]?)=_; rw[kp.at hq wt wk]; rfl) (fun i dt ρ S1 hd ⟨y0,gs,e,q,l,b,d1,kp⟩=>by
   subst e
   have hi:i<2:=by have:=(Ab.mp hd).1; simpa using this
   obtain⟨v,hv,ev⟩:∃ v,[A,B][i]?=some v/\dt=.int v:=by
    rcases i with _ | _ | i
    ·exact⟨A,rfl,by simpa using hd.symm⟩
    ·exact⟨B,rfl,by simpa using hd.symm⟩
    ·omega
   subst ev
   obtain⟨r,S2,e1,r0,r1,d2,k2⟩:=We (m:=100) d1 (by omega) (by decide) (by decide)
   have q2:=k2.at q (by omega) (by omega)
   have l2:S.length<S2.length:=(Ab.mp q2).1
   refine⟨[some (.int v),some (.lst t)],[some (.int v),some (.lst t)],S2.set S.length ⟨false,((List.zip ([A,B].take i) gs).map fun p=>pnd p.1 p.2)++[pnd v r]⟩,rfl,cbody_ok (by simp[e1]) q2 (by simp; omega),some (.int v),gs++[r],rfl,?_,by simp[l],fun g hg=>?_,(d2.set (by omega) (by omega)).mono (by omega),(kp.trans k2).setq (Aa _)⟩
   ·rw[Av l2,Bx,hv]
    have:([A,B].take i).length=gs.length:=by rw[l]; simp; omega
    rw[show(some v).toList=[v] from rfl,List.zip_append this]
    simp
   ·rcases Be.mp hg with h | h
    ·exact b g h
    ·rw[AY.mp h]; omega)
  (Gau w 2).fuel 0 [none,some (.lst t)] (S++[⟨false,[]⟩]) (AC _) ⟨none,[],rfl,Hc,rfl,by simp,d.app,Kp.app⟩ (by show 2<2+1+0; decide)
 match gs,l,b,q with
 | [i,j],_,b,q=>
  have b1:=b i (by simp)
  have b2:=b j (by simp)
  exact⟨i,j,S',Gn3 hf (by rw[hp]; exact ef),q,b1,b2,d',kp⟩
noncomputable abbrev rh(t:Nat)(x1 x2 x3 x4 x5 x6 x7 x8 x9 x10 x11:Option D):Lc:=[some (.lst t),x1,x2,x3,x4,x5,x6,x7,x8,x9,x10,x11]
theorem Gxj{pl:List Pl}{f:Ev Src}{x1 x2 x3 x4 x6 x8 x9 x10 x11:Option D}(d:Dp S t k n)(hn:n<2^50)(hl:pl.length<=20)(hE:∀ p∈pl,p.isE=false/\0<=wat p/\wat p<=9)(hq:S[q]?=some ⟨false,[.int 0]⟩)(qt:q≠t)(qk:q≠k)(hf:f (rh t x1 x2 x3 x4 x5 x6 (some (.lst q)) x8 x9 x10 x11) S=.ok (Gn2 (pl.map Pl.toD)) S):
  ∃ (L:List Int) (y8:Option D) (S':Sto),sfor f (gn 8) Ks (rh t x1 x2 x3 x4 x5 x6 (some (.lst q)) x8 x9 x10 x11) S=.nx (rh t x1 x2 x3 x4 x5 x6 (some (.lst q)) y8 x9 x10 x11) S'/\S'[q]?=some ⟨false,(0::L).map D.int⟩/\L.length=pl.length/\(∀ (i:Nat) (p:Pl) (l:Int),pl[i]?=some p->L[i]?=some l->0<=l/\l<=wat p)/\Dp S' t k (n+pl.length):=by
 obtain⟨ρ',S',ef,y8,L,hρ,hq',hL,hb,hd⟩:=Yd (nxt:=(Gn2 (pl.map Pl.toD)).nxt) (g:=gn 8) (b:=Ks) (l:=pl.map Pl.toD)
  (fun i ρ S'=>∃ (y8:Option D) (L:List Int),ρ=rh t x1 x2 x3 x4 x5 x6 (some (.lst q)) y8 x9 x10 x11/\S'[q]?=some ⟨false,(0::L).map D.int⟩/\L.length=i/\(∀ (i:Nat) (p:Pl) (l:Int),pl[i]?=some p->L[i]?=some l->0<=l/\l<=wat p)/\Dp S' t k (n+i))
  (fun i _ S' _=>rfl) (fun i dt ρ S1 hd ⟨y8,L,e,hq1,hL,hb,d1⟩=>by
   subst e
   have hi:i<pl.length:=by have:=(Ab.mp hd).1; simpa using this
   have hp:=Ag hi
   generalize pl[i]=p at hp
   rw[Aw,hp] at hd
   have hd:p.toD=dt:=Ac hd
   subst hd
   obtain⟨e0,w0,w9⟩:=hE p (Ai hp)
   obtain⟨pd,a1,a2⟩:=Gzs (S:=S1) e0
   obtain⟨r,S2,e1,r0,r1,d2,k2⟩:=We (m:=wat p+1) d1 (by omega) (by omega) (by omega)
   have q2:=k2.at hq1 qt qk
   have l2:q<S2.length:=(Ab.mp q2).1
   have ap:=apd (d:=.int r) q2 (by simp; omega)
   have il:isLst (.lst q) S1=true:=by simp[isLst,hq1]
   refine⟨rh t x1 x2 x3 x4 x5 x6 (some (.lst q)) (some p.toD) x9 x10 x11,rh t x1 x2 x3 x4 x5 x6 (some (.lst q)) (some p.toD) x9 x10 x11,S2.set q ⟨false,(0::L).map D.int++[.int r]⟩,rfl,?_,some p.toD,L++[r],rfl,by rw[Av l2]; simp,by simp[hL],fun i' p' l' h1 h2=>?_,(d2.set qt qk).mono (by omega)⟩
   ·generalize hc:(⟨false,(0::L).map D.int++[.int r]⟩:Cell)=cc at *
    generalize p.toD=pt at *
    generalize wat p=wp at *
    simp[Ks,il,a1,a2,e1,ap]
   ·by_cases c:i'<L.length
    ·rw[Ar c] at h2
     exact hb i' p' l' h1 h2
    ·have:i'=L.length:=by have:=(Ab.mp h2).1; simp at this; omega
     subst this
     rw[hL,hp] at h1
     cases h1
     rw[AW (Aa _)] at h2
     simp at h2
     omega)
  (Gn2 (pl.map Pl.toD)).fuel 0 (rh t x1 x2 x3 x4 x5 x6 (some (.lst q)) x8 x9 x10 x11) S (AC _) ⟨x8,[],rfl,hq,rfl,fun i p l _ h=>by simp at h,d⟩ (by show(pl.map Pl.toD).length<(pl.map Pl.toD).length+1+0; omega)
 subst hρ
 rw[AD] at hL hd
 exact⟨L,y8,S',by rw[Yc,hf,Jq]; exact ef,hq',hL,hb,hd⟩
end
section
variable{S:Sto}{t k n:Nat}
noncomputable abbrev dE:D:=.tup [.str "end"]
noncomputable abbrev dC:D:=.tup [.str "chamber"]
noncomputable abbrev drw(m:Int):Ev D:=cl 2 (Go Gr) (ac (vr 0) (ac (cn (.int m)) an))
noncomputable def mI(m:Bool):Int:=if m=true then 1 else 0
noncomputable def hp0(a b i j:Int):D:=.tup [dE,dC,pnd a i,dC,pnd b j,dC]
theorem Gls{i:Int}{S:Sto}:∃ d1 d2:D,Gfe (.tup [dC]) (.int (mI m)) S=.ok d1 S/\Gx (hp0 a b i j) d1 S=.ok d2 S/\Gx d2 (.tup [dE]) S=.ok (.tup ((hP m a b i j).map Pl.toD)) S:=by
 refine⟨.tup (if m=true then[dC] else[]),.tup ([dE,dC,pnd a i,dC,pnd b j,dC]++(if m=true then[dC] else[])),?_,?_,?_⟩<;>cases m<;>rfl
noncomputable def gts(w:Bool):D:=.tup ((if w=true then[true,true,true,true,false,false] else[true,true,false,false,false,false]).map gd)
theorem Goz{w:Bool}{S:Sto}:∃ d1:D,Gfe (.tup [.str "down"]) (.int (mI m)) S=.ok d1 S/\Gx (gts w) d1 S=.ok (.tup ((hU m w).map gd)) S:=by
 refine⟨.tup (if m=true then[.str "down"] else[]),?_,?_⟩
 ·cases m<;>rfl
 ·cases m<;>cases w<;>rfl
noncomputable def mid(m:Bool)(a b i j:Int):List Pl:=[.c,.p a 0 1 (.int i),.c,.p b 0 1 (.int j),.c]++(if m=true then[.c] else[])
theorem Gxk{i:Int}{S:Sto}:Ggl (.tup ((hP m a b i j).map Pl.toD)) (some 1) (some (-1)) S=.ok (.tup ((mid m a b i j).map Pl.toD)) S:=by
 cases m<;>rfl
theorem Gsa{i:Int}{S:Sto}:∃ d:D,Hr [.tup ((hP m a b i j).map Pl.toD)] S=.ok d S/\Jl (.tup [.int 0]) d S=.ok (.tup ((hZ m).map D.int)) S:=by
 refine⟨.int (if m=true then 8 else 7),?_,?_⟩
 ·cases m<;>rfl
 ·cases m<;>simp[Jl,hZ]
theorem Gz7{i:Int}{L:List Int}(h:L.length=(mid m a b i j).length)(hb:∀ (q:Nat) (p:Pl) (l:Int),(mid m a b i j)[q]?=some p->L[q]?=some l->0<=l/\l<=wat p):∃ x,Va a b m x/\(0::L)++[0]=hL m x:=by
 have cut:∀ {x:Int},0<=x/\x<=1->x=0\/x=1:=fun h=>by omega
 cases m with
 | false=>
  match L,h with
  | [x1,x2,x3,x4,x5],_=>
   exact⟨(x1,x2,x3,x4,x5,0),⟨cut (hb 0 _ _ rfl rfl),hb 1 _ _ rfl rfl,cut (hb 2 _ _ rfl rfl),hb 3 _ _ rfl rfl,cut (hb 4 _ _ rfl rfl),.inl rfl⟩,rfl⟩
 | true=>
  match L,h with
  | [x1,x2,x3,x4,x5,x6],_=>
   exact⟨(x1,x2,x3,x4,x5,x6),⟨cut (hb 0 _ _ rfl rfl),hb 1 _ _ rfl rfl,cut (hb 2 _ _ rfl rfl),hb 3 _ _ rfl rfl,cut (hb 4 _ _ rfl rfl),(cut (hb 5 _ _ rfl rfl)).elim .inl fun h=>.inr ⟨rfl,h⟩⟩,rfl⟩
theorem Gsb(ha:0<=a)(hb:0<=b):(if m=true then(16:Int) else 8)*(a+1)*(b+1)=((hN m a b:Nat):Int):=by
 unfold hN
 obtain⟨x,rfl⟩:=Xr ha
 obtain⟨y,rfl⟩:=Xr hb
 cases m<;>simp
end
section
variable{S:Sto}{t k n:Nat}
noncomputable abbrev ga0:D:=.tup [.str "up",.str "up",.str "down",.str "down",.str "down",.str "down"]
noncomputable abbrev ga1:D:=.tup [.str "up",.str "up",.str "up",.str "up",.str "down",.str "down"]
theorem Gsc(d:Dp S t k n)(hn:n<2^40):∃ (m w:Bool) (a b i j:Int) (x:T6) (S':Sto),Uj [.lst t] S=.ok (.tup [cD (hP m a b i j) (hU m w),stE (hS m x),.int (hN m a b)]) S'/\Hb a b i j/\Va a b m x/\hN m a b<1000/\Dp S' t k (n+30):=by
 obtain⟨r1,S1,e1,r10,r11,d1,k1⟩:=We (m:=8) d (by omega) (by decide) (by decide)
 obtain⟨r2,S2,e2,r20,r21,d2,k2⟩:=We (m:=8) d1 (by omega) (by decide) (by decide)
 obtain⟨r3,S3,e3,r30,r31,d3,k3⟩:=We (m:=8) d2 (by omega) (by decide) (by decide)
 obtain⟨r4,x4,S4,e4,g4,hx4,d4,k4⟩:=Gac (m:=3) (xs:=[.int 9,.int (2+r2),.int (2+r3)]) d3 (by omega) rfl (by simp) (by simp)
 obtain⟨B0,rfl,b00,b01⟩:∃ B0:Int,x4=.int B0/\2<=B0/\B0<=9:=by
  simp only[Ad,AF,or_false] at hx4
  rcases hx4 with rfl | rfl | rfl
  ·exact⟨9,rfl,by decide,by decide⟩
  ·exact⟨2+r2,rfl,by omega,by omega⟩
  ·exact⟨2+r3,rfl,by omega,by omega⟩
 obtain⟨r5,S5,e5,r50,r51,d5,k5⟩:=We (m:=4) d4 (by omega) (by decide) (by decide)
 obtain⟨m,hm⟩:∃ m:Bool,m=decide (r5=0):=⟨_,rfl⟩
 have A0:2<=2+r1/\2+r1<=9:=by omega
 generalize hA:2+r1=A at A0
 have s1:sa (o2 Gx (cn (.int 2)) (drw 8)) (gn 1) (rh t none none none none none none none none none none none) S=.nx (rh t (some (.int A)) none none none none none none none none none none) S1:=by simp[e1,hA]
 have s2:sa (o2 DL.getD (ls (ac (cn (.int 9)) (ac (o2 Gx (cn (.int 2)) (drw 8)) (ac (o2 Gx (cn (.int 2)) (drw 8)) an)))) (drw 3)) (gn 2) (rh t (some (.int A)) none none none none none none none none none none) S1=.nx (rh t (some (.int A)) (some (.int B0)) none none none none none none none none none) S4:=by simp[e2,e3,e4,g4]
 have s3:sa (b1 Yh (ac (o2 eqD (drw 4) (cn (.int 0))) an)) (gn 3) (rh t (some (.int A)) (some (.int B0)) none none none none none none none none none) S4=.nx (rh t (some (.int A)) (some (.int B0)) (some (.int (mI m))) none none none none none none none none) S5:=by
  have ib:∀ c:Bool,Yh [.bl c] S5=.ok (.int (mI c)) S5:=fun c=>by cases c<;>rfl
  simp[e5,ib,<- hm]
 have q6:(S5++[(⟨false,[.int 9,.int 5]⟩:Cell)])[S5.length]?=some ⟨false,[.int 9,.int 5]⟩:=Hc
 have g6:DL.getD (.lst S5.length) (.int (mI m)) (S5++[⟨false,[.int 9,.int 5]⟩])=.ok (.int (if m=true then 5 else 9)) (S5++[⟨false,[.int 9,.int 5]⟩]):=by
  cases m
  ·exact Jd q6 (Gu (by decide) rfl)
  ·exact Jd q6 (Gu (by decide) rfl)
 have d6:Dp (S5++[⟨false,[.int 9,.int 5]⟩]) t k (n+1+1+1+1+1):=d5.app
 obtain⟨B,hB⟩:∃ B:Int,B=min B0 (if m=true then 5 else 9):=⟨_,rfl⟩
 have hB2:2<=B/\B<=9/\(m=true->B<=5):=by subst hB; cases m<;>simp<;>omega
 have s4:sa (b1 Gk4 (ac (vr 2) (ac (o2 DL.getD (ls (ac (cn (.int 9)) (ac (cn (.int 5)) an))) (vr 3)) an))) (gn 2) (rh t (some (.int A)) (some (.int B0)) (some (.int (mI m))) none none none none none none none none) S5=.nx (rh t (some (.int A)) (some (.int B)) (some (.int (mI m))) none none none none none none none none) (S5++[⟨false,[.int 9,.int 5]⟩]):=by
  simp[g6,hB]
 generalize S5++[(⟨false,[.int 9,.int 5]⟩:Cell)]=S6 at *
 have q7:(S6++[(⟨false,[.int A,.int B]⟩:Cell)])[S6.length]?=some ⟨false,[.int A,.int B]⟩:=Hc
 have d7:Dp (S6++[⟨false,[.int A,.int B]⟩]) t k (n+5):=d6.app
 have lt6:=d6.lt
 have f7:isrc (ls (ac (vr 1) (ac (vr 2) an))) (rh t (some (.int A)) (some (.int B)) (some (.int (mI m))) none none none none none none none none) S6=.ok (Gau S6.length 2) (S6++[⟨false,[.int A,.int B]⟩]):=by
  have:=Ghg q7
  simp at this
  simp[this]
 obtain⟨i,j,S8,e8,q8,hi,hj,d8,k8⟩:=Gxi (S0:=S6) (ρ:=rh t (some (.int A)) (some (.int B)) (some (.int (mI m))) none none none none none none none none) d7 (by omega) q7 (by omega) (by omega) f7 rfl
 generalize S6++[(⟨false,[.int A,.int B]⟩:Cell)]=S7 at *
 have s5:sa (cmp (isrc (ls (ac (vr 1) (ac (vr 2) an)))) [none,some 0] (gn 0) ttrue (tp (ac (cn (.str "pound")) (ac (vr 0) (ac (cn (.int 0)) (ac (cn (.int 1)) (ac (cl 2 (Go Gr) (ac (vr 1) (ac (cn (.int 100)) an))) an))))))) (gn 4) (rh t (some (.int A)) (some (.int B)) (some (.int (mI m))) none none none none none none none none) S6=.nx (rh t (some (.int A)) (some (.int B)) (some (.int (mI m))) (some (.lst S7.length)) none none none none none none none) S8:=by
  rw[Gcx,e8]; rfl
 have p0:DL.getD (.lst S7.length) (.int 0) S8=.ok (pnd A i) S8:=Jd q8 (Gu (by decide) rfl)
 have p1:DL.getD (.lst S7.length) (.int 1) S8=.ok (pnd B j) S8:=Jd q8 (Gu (by decide) rfl)
 have s6:sa (tp (ac (tp (ac (cn (.str "end")) an)) (ac (tp (ac (cn (.str "chamber")) an)) (ac (o2 DL.getD (vr 4) (cn (.int 0))) (ac (tp (ac (cn (.str "chamber")) an)) (ac (o2 DL.getD (vr 4) (cn (.int 1))) (ac (tp (ac (cn (.str "chamber")) an)) an))))))) (gn 5) (rh t (some (.int A)) (some (.int B)) (some (.int (mI m))) (some (.lst S7.length)) none none none none none none none) S8=.nx (rh t (some (.int A)) (some (.int B)) (some (.int (mI m))) (some (.lst S7.length)) (some (hp0 A B i j)) none none none none none none) S8:=by
  simp[p0,p1,hp0]
 obtain⟨pd1,pd2,c1,c2,c3⟩:=Gls (m:=m) (a:=A) (b:=B) (i:=i) (j:=j) (S:=S8)
 have s7:sa (o2 Gx (o2 Gx (vr 5) (o2 Gfe (tp (ac (tp (ac (cn (.str "chamber")) an)) an)) (vr 3))) (tp (ac (tp (ac (cn (.str "end")) an)) an))) (gn 5) (rh t (some (.int A)) (some (.int B)) (some (.int (mI m))) (some (.lst S7.length)) (some (hp0 A B i j)) none none none none none none) S8=.nx (rh t (some (.int A)) (some (.int B)) (some (.int (mI m))) (some (.lst S7.length)) (some (.tup ((hP m A B i j).map Pl.toD))) none none none none none none) S8:=by
  generalize hp0 A B i j=h0 at *
  generalize D.tup ((hP m A B i j).map Pl.toD)=hh at *
  simp[c1,c2,c3]
 obtain⟨r9,g,S9,e9,g9,hg,d9,k9⟩:=Gac (m:=2) (xs:=[ga0,ga1]) d8 (by omega) rfl (by decide) (by decide)
 obtain⟨w,rfl⟩:∃ w,g=gts w:=by
  simp only[Ad,AF,or_false] at hg
  rcases hg with rfl | rfl
  ·exact⟨false,rfl⟩
  ·exact⟨true,rfl⟩
 obtain⟨gd1,c4,c5⟩:=Goz (m:=m) (w:=w) (S:=S9)
 have s8:sa (o2 Gx (o2 DL.getD (ls (ac (tp (ac (cn (.str "up")) (ac (cn (.str "up")) (ac (cn (.str "down")) (ac (cn (.str "down")) (ac (cn (.str "down")) (ac (cn (.str "down")) an))))))) (ac (tp (ac (cn (.str "up")) (ac (cn (.str "up")) (ac (cn (.str "up")) (ac (cn (.str "up")) (ac (cn (.str "down")) (ac (cn (.str "down")) an))))))) an))) (drw 2)) (o2 Gfe (tp (ac (cn (.str "down")) an)) (vr 3))) (gn 6) (rh t (some (.int A)) (some (.int B)) (some (.int (mI m))) (some (.lst S7.length)) (some (.tup ((hP m A B i j).map Pl.toD))) none none none none none none) S8=.nx (rh t (some (.int A)) (some (.int B)) (some (.int (mI m))) (some (.lst S7.length)) (some (.tup ((hP m A B i j).map Pl.toD))) (some (.tup ((hU m w).map gd))) none none none none none) S9:=by
  generalize D.tup ((hP m A B i j).map Pl.toD)=hh at *
  generalize D.tup ((hU m w).map gd)=hu at *
  generalize gts w=gw at *
  simp[e9,g9,c4,c5]
 have lt9:=d9.lt
 have q9:(S9++[(⟨false,[.int 0]⟩:Cell)])[S9.length]?=some ⟨false,[.int 0]⟩:=Hc
 have s9:sa (ls (ac (cn (.int 0)) an)) (gn 7) (rh t (some (.int A)) (some (.int B)) (some (.int (mI m))) (some (.lst S7.length)) (some (.tup ((hP m A B i j).map Pl.toD))) (some (.tup ((hU m w).map gd))) none none none none none) S9=.nx (rh t (some (.int A)) (some (.int B)) (some (.int (mI m))) (some (.lst S7.length)) (some (.tup ((hP m A B i j).map Pl.toD))) (some (.tup ((hU m w).map gd))) (some (.lst S9.length)) none none none none) (S9++[⟨false,[.int 0]⟩]):=by simp
 have d10:Dp (S9++[⟨false,[.int 0]⟩]) t k (n+5+2+1):=d9.app
 have hmid:(mid m A B i j).length<=20:=by cases m<;>simp[mid]
 have mE:∀ p∈mid m A B i j,p.isE=false/\0<=wat p/\wat p<=9:=by
  intro p hp
  have:p=.c\/p=.p A 0 1 (.int i)\/p=.p B 0 1 (.int j):=by
   cases m<;>simp[mid] at hp<;>rcases hp with h | h | h | h | h | h<;>simp_all
  rcases this with rfl | rfl | rfl
  ·exact⟨rfl,by decide,by decide⟩
  ·exact⟨rfl,by show 0<=A; omega,by show A<=9; omega⟩
  ·exact⟨rfl,by show 0<=B; omega,by show B<=9; omega⟩
 have f10:isrc (sl2 (vr 5) (osome (cn (.int 1))) (osome (o1 Ggi (cn (.int 1))))) (rh t (some (.int A)) (some (.int B)) (some (.int (mI m))) (some (.lst S7.length)) (some (.tup ((hP m A B i j).map Pl.toD))) (some (.tup ((hU m w).map gd))) (some (.lst S9.length)) none none none none) (S9++[⟨false,[.int 0]⟩])=.ok (Gn2 ((mid m A B i j).map Pl.toD)) (S9++[⟨false,[.int 0]⟩]):=by
  have me:=Gxk (m:=m) (a:=A) (b:=B) (i:=i) (j:=j) (S:=S9++[⟨false,[.int 0]⟩])
  have st:=Gzm (l:=(mid m A B i j).map Pl.toD) (S:=S9++[⟨false,[.int 0]⟩])
  generalize D.tup ((hP m A B i j).map Pl.toD)=hh at *
  generalize D.tup ((mid m A B i j).map Pl.toD)=hm' at *
  simp[me,st]
 obtain⟨L,y8,S11,s10,q11,hLl,hLb,d11⟩:=Gxj (pl:=mid m A B i j) d10 (by omega) hmid mE q9 (by omega) (by omega) f10
 generalize S9++[(⟨false,[.int 0]⟩:Cell)]=S10 at *
 obtain⟨x,V,hx⟩:=Gz7 hLl hLb
 obtain⟨nd,n1,n2⟩:=Gsa (m:=m) (a:=A) (b:=B) (i:=i) (j:=j) (S:=S11)
 have s11:sa (o2 Jl (tp (ac (cn (.int 0)) an)) (b1 Hr (ac (vr 5) an))) (gn 9) (rh t (some (.int A)) (some (.int B)) (some (.int (mI m))) (some (.lst S7.length)) (some (.tup ((hP m A B i j).map Pl.toD))) (some (.tup ((hU m w).map gd))) (some (.lst S9.length)) y8 none none none) S11=.nx (rh t (some (.int A)) (some (.int B)) (some (.int (mI m))) (some (.lst S7.length)) (some (.tup ((hP m A B i j).map Pl.toD))) (some (.tup ((hU m w).map gd))) (some (.lst S9.length)) y8 (some (.tup ((hZ m).map D.int))) none none) S11:=by
  generalize D.tup ((hP m A B i j).map Pl.toD)=hh at *
  generalize D.tup ((hU m w).map gd)=hu at *
  generalize D.tup ((hZ m).map D.int)=hz at *
  simp[n1,n2]
 have q12:(S11++[(⟨false,[.int 0]⟩:Cell)])[S11.length]?=some ⟨false,[.int 0]⟩:=Hc
 have ad:Gx (.lst S9.length) (.lst S11.length) (S11++[⟨false,[.int 0]⟩])=.ok (.lst (S11++[(⟨false,[.int 0]⟩:Cell)]).length) ((S11++[⟨false,[.int 0]⟩])++[⟨false,(0::L).map D.int++[.int 0]⟩]):=Gcz (Jw q11) q12 (by simp; omega)
 have eL:(0::L).map D.int++[.int 0]=(hL m x).map D.int:=by rw[<- hx]; simp
 rw[eL] at ad
 have tq:Zf [.lst (S11++[(⟨false,[.int 0]⟩:Cell)]).length] ((S11++[⟨false,[.int 0]⟩])++[⟨false,(hL m x).map D.int⟩])=.ok (.tup ((hL m x).map D.int)) ((S11++[⟨false,[.int 0]⟩])++[⟨false,(hL m x).map D.int⟩]):=by
  simp only[Zf,Hc]
 have d12:Dp ((S11++[⟨false,[.int 0]⟩])++[⟨false,(hL m x).map D.int⟩]) t k (n+5+2+1+(mid m A B i j).length):=d11.app.app
 have s12:sa (tp (ac (b1 Zf (ac (o2 Gx (vr 7) (ls (ac (cn (.int 0)) an))) an)) (ac (vr 9) (ac (vr 9) an)))) (gn 10) (rh t (some (.int A)) (some (.int B)) (some (.int (mI m))) (some (.lst S7.length)) (some (.tup ((hP m A B i j).map Pl.toD))) (some (.tup ((hU m w).map gd))) (some (.lst S9.length)) y8 (some (.tup ((hZ m).map D.int))) none none) S11=.nx (rh t (some (.int A)) (some (.int B)) (some (.int (mI m))) (some (.lst S7.length)) (some (.tup ((hP m A B i j).map Pl.toD))) (some (.tup ((hU m w).map gd))) (some (.lst S9.length)) y8 (some (.tup ((hZ m).map D.int))) (some (stE (hS m x))) none) ((S11++[⟨false,[.int 0]⟩])++[⟨false,(hL m x).map D.int⟩]):=by
  have es:stE (hS m x)=.tup [.tup ((hL m x).map D.int),.tup ((hZ m).map D.int),.tup ((hZ m).map D.int)]:=rfl
  rw[es]
  generalize D.tup ((hP m A B i j).map Pl.toD)=hh at *
  generalize D.tup ((hU m w).map gd)=hu at *
  generalize D.tup ((hZ m).map D.int)=hz at *
  generalize D.tup ((hL m x).map D.int)=hl at *
  generalize (⟨false,(hL m x).map D.int⟩:Cell)=cc at *
  simp at ad tq
  simp[ad,tq]
 generalize (S11++[(⟨false,[.int 0]⟩:Cell)])++[(⟨false,(hL m x).map D.int⟩:Cell)]=S12 at *
 have q13:(S12++[(⟨false,[.int 8,.int 16]⟩:Cell)])[S12.length]?=some ⟨false,[.int 8,.int 16]⟩:=Hc
 have g13:DL.getD (.lst S12.length) (.int (mI m)) (S12++[⟨false,[.int 8,.int 16]⟩])=.ok (.int (if m=true then 16 else 8)) (S12++[⟨false,[.int 8,.int 16]⟩]):=by
  cases m
  ·exact Jd q13 (Gu (by decide) rfl)
  ·exact Jd q13 (Gu (by decide) rfl)
 have ml:∀ (u v:Int) (S:Sto),(-(2^64)<v/\v<2^64)->Jl (.int u) (.int v) S=.ok (.int (u*v)) S:=fun u v S h=>by simp only[Jl]; rw[if_pos (.inr h)]
 have s13:sa (o2 Jl (o2 Jl (o2 DL.getD (ls (ac (cn (.int 8)) (ac (cn (.int 16)) an))) (vr 3)) (o2 Gx (vr 1) (cn (.int 1)))) (o2 Gx (vr 2) (cn (.int 1)))) (gn 11) (rh t (some (.int A)) (some (.int B)) (some (.int (mI m))) (some (.lst S7.length)) (some (.tup ((hP m A B i j).map Pl.toD))) (some (.tup ((hU m w).map gd))) (some (.lst S9.length)) y8 (some (.tup ((hZ m).map D.int))) (some (stE (hS m x))) none) S12=.nx (rh t (some (.int A)) (some (.int B)) (some (.int (mI m))) (some (.lst S7.length)) (some (.tup ((hP m A B i j).map Pl.toD))) (some (.tup ((hU m w).map gd))) (some (.lst S9.length)) y8 (some (.tup ((hZ m).map D.int))) (some (stE (hS m x))) (some (.int (hN m A B)))) (S12++[⟨false,[.int 8,.int 16]⟩]):=by
  rw[<- Gsb (m:=m) (a:=A) (b:=B) (by omega) (by omega)]
  have m1:=ml (if m=true then 16 else 8) (A+1) (S12++[⟨false,[.int 8,.int 16]⟩]) (by omega)
  have m2:=ml ((if m=true then 16 else 8)*(A+1)) (B+1) (S12++[⟨false,[.int 8,.int 16]⟩]) (by omega)
  generalize D.tup ((hP m A B i j).map Pl.toD)=hh at *
  generalize D.tup ((hU m w).map gd)=hu at *
  generalize D.tup ((hZ m).map D.int)=hz at *
  generalize stE (hS m x)=hs at *
  generalize (if m=true then(16:Int) else 8)=kk at *
  simp[g13,m1,m2]
 have hlen:(mid m A B i j).length<=6:=by cases m<;>simp[mid]
 refine⟨m,w,A,B,i,j,x,S12++[⟨false,[.int 8,.int 16]⟩],?_,⟨A0.1,A0.2,hB2.1,hB2.2.1,hi.1,hi.2,hj.1,hj.2⟩,V,?_,(d12.app).mono (by omega)⟩
 ·unfold Uj
  rw[Gq]
  simp only[Xn]
  refine(Gm s1).trans ((Gm s2).trans ((Gm s3).trans ((Gm s4).trans ((Gm s5).trans ((Gm s6).trans ((Gm s7).trans ((Gm s8).trans ((Gm s9).trans ((Gm s10).trans ((Gm s11).trans ((Gm s12).trans ((Gm s13).trans ?_))))))))))))
  have ec:cD (hP m A B i j) (hU m w)=.tup [.tup ((hP m A B i j).map Pl.toD),.tup ((hU m w).map gd)]:=rfl
  rw[ec]
  generalize D.tup ((hP m A B i j).map Pl.toD)=hh at *
  generalize D.tup ((hU m w).map gd)=hu at *
  generalize D.tup ((hZ m).map D.int)=hz at *
  generalize stE (hS m x)=hs at *
  simp[fin]
 ·unfold hN
  obtain⟨a',rfl⟩:=Xr (show 0<=A by omega)
  obtain⟨b',rfl⟩:=Xr (show 0<=B by omega)
  have h1:a'+1<=10:=by omega
  cases m with
  | false=>
   have h2:b'+1<=10:=by omega
   have:=AT (AT (Aa 8) h1) h2
   simp
   omega
  | true=>
   have h2:b'+1<=6:=by have:=hB2.2.2 rfl; omega
   have:=AT (AT (Aa 16) h1) h2
   simp
   omega
end
section
variable{S:Sto}{q:Nat}
noncomputable abbrev rL(q t:Nat)(cd sd:D)(N:Int)(x5 x6 x7:Option D):Lc:=[some (.lst q),some (.lst t),some cd,some sd,some (.int N),x5,x6,x7]
theorem Gi0{q':Nat}(h:S[q']?=some ⟨false,[]⟩):Ue [cd,sd,.lst q'] S=.ok (.tup [sd,.int 0,.int 0]) S:=by
 have sr:Qw (ac (vr 2) an) [some cd,some sd,some (.lst q'),some (.fv "deed_done"),some sd,some (.int 0),some (.int 0),none,none,none,none] S=.ok ⟨fun(k:Nat) S=>(S[q']?).bind fun c=>(c.xs[k]?).map fun d=>D.tup [.int k,d],0+1⟩ S:=by simp[Qw,h]
 have e0:Zz [cd,sd,.lst q',.fv "deed_done"] S=.ok (.tup [sd,.int 0,.int 0]) S:=by
  unfold Zz
  rw[Gq]
  simp only[Gct]
  refine(Gm (ρ':=[some cd,some sd,some (.lst q'),some (.fv "deed_done"),some sd,none,none,none,none,none,none]) (S':=S) (by simp)).trans ?_
  refine(Gm (ρ':=[some cd,some sd,some (.lst q'),some (.fv "deed_done"),some sd,some (.int 0),none,none,none,none,none]) (S':=S) (by simp)).trans ?_
  refine(Gm (ρ':=[some cd,some sd,some (.lst q'),some (.fv "deed_done"),some sd,some (.int 0),some (.int 0),none,none,none,none]) (S':=S) (by simp)).trans ?_
  refine(Gm (ρ':=[some cd,some sd,some (.lst q'),some (.fv "deed_done"),some sd,some (.int 0),some (.int 0),none,none,none,none]) (S':=S) (by
   rw[Yc,sr,Jq]
   simp only[Ki,h]
   simp)).trans ?_
  simp[fin]
 have gxo:=Yq e0
 unfold Ue
 rw[Gq]
 simp[Zc,gxo,fin]
theorem Gsd{w:Bool}{i:Int}{x:T6}{t:Nat}(H:Hb a b i j)(V:Va a b m x)(hN1:hN m a b<1000)(hN0:2<=hN m a b)(hl:lim=0\/1<=lim):∃ S',
  fin (sq (sa (cl 4 (Go Hw) (ac (vr 6) (ac (vr 2) (ac (vr 3) (ac (vr 5) an))))) (gn 7))
  (sq (sif (tb (o2 gtD (vr 4) (o2 DL.getD (ls (ac (vr 5) (ac (cn (.int 600)) an))) (b1 Yh (ac (o2 eqD (vr 5) (cn (.int 0))) an)))))
  (sret (o2 eqD (b1 Wf (ac (vr 7) an)) (b1 Wf (ac (cn (.str "toomany")) an))))
  skip)
  (sq (sif (tb (o2 eqD (vr 6) (cn (.str "met"))))
  (sret (cl 4 (Go Kg) (ac (vr 2) (ac (vr 3) (ac (vr 7) (ac (vr 4) an))))))
  skip)
  (sq (sif (to (tn (tt (o1 (isD "tuple") (vr 7)))) (to (tb (o2 neD (b1 Hr (ac (vr 7) an)) (cn (.int 2)))) (tb (o2 neD (o2 DL.getD (vr 7) (cn (.int 0))) (cn (.str "free"))))))
  (sret (cn (.bl false)))
  skip)
  (sq (sif (tn (tt (o1 (isD "list") (o2 DL.getD (vr 7) (cn (.int 1))))))
  (sret (cn (.bl false)))
  skip)
  (sq (sx (cl 3 (gX ys Ue) (ac (vr 2) (ac (vr 3) (ac (o2 DL.getD (vr 7) (cn (.int 1))) an)))))
  (sret (cn (.bl true))))))))
   (rL q t (cD (hP m a b i j) (hU m w)) (stE (hS m x)) (hN m a b) (some (.int lim)) (some (cwd c)) none) S)=.ok (.bl true) S':=by
 have C:=hC (m:=m) (w:=w) H
 have g:=hG H V
 have d:=Hbo (w:=w) H V
 have ib:∀ (z:Bool) (S:Sto),Yh [.bl z] S=.ok (.int (mI z)) S:=fun z S=>by cases z<;>rfl
 have tst:∀ (S1:Sto) (x7:Option D),∃ S2,(tb (o2 gtD (vr 4) (o2 DL.getD (ls (ac (vr 5) (ac (cn (.int 600)) an))) (b1 Yh (ac (o2 eqD (vr 5) (cn (.int 0))) an))))) (rL q t (cD (hP m a b i j) (hU m w)) (stE (hS m x)) (hN m a b) (some (.int lim)) (some (cwd c)) x7) S1=.ok (decide ((if lim=0 then 600 else lim)<(hN m a b:Int))) S2/\Ex S1 S2:=by
  intro S1 x7
  have q1:(S1++[(⟨false,[.int lim,.int 600]⟩:Cell)])[S1.length]?=some ⟨false,[.int lim,.int 600]⟩:=Hc
  have gl:DL.getD (.lst S1.length) (.int (mI (decide (lim=0)))) (S1++[⟨false,[.int lim,.int 600]⟩])=.ok (.int (if lim=0 then 600 else lim)) (S1++[⟨false,[.int lim,.int 600]⟩]):=by
   by_cases z:lim=0
   ·rw[decide_eq_true z,if_pos z]
    exact Jd q1 (Gu (by decide) rfl)
   ·rw[decide_eq_false z,if_neg z]
    exact Jd q1 (Gu (by decide) rfl)
  refine⟨S1++[⟨false,[.int lim,.int 600]⟩],?_,Ex.app⟩
  generalize cD (hP m a b i j) (hU m w)=cd at *
  generalize stE (hS m x)=sd at *
  generalize (hN m a b:Int)=N at *
  generalize (if lim=0 then 600 else lim)=L' at *
  generalize cwd c=cw at *
  simp[ib,gl]
 by_cases hc:((hN m a b:Nat):Int)<=(if lim=0 then 600 else lim)
 ·obtain⟨tl,S6,e6,q6,T6',x6⟩:=Gr5 (S:=S++[⟨false,[]⟩]) C g d hc (by omega)
  have R:=d.rt C g hN1 T6'
  obtain⟨tl',ht⟩:=R.first
  subst ht
  cases c with
  | false=>
   have dy:=Gta (c:=false) (lim:=lim) e6 x6
   obtain⟨S8,f8,x8⟩:=tst (S6++[⟨false,[]⟩]) (some (.lst (S++[(⟨false,[]⟩:Cell)]).length))
   rw[decide_eq_false (by omega)] at f8
   obtain⟨S9,f9⟩:=Goy R (x8.at (Jw q6))
   rw[d.len] at f9
   refine⟨S9,?_⟩
   have cm:=Gxf (S:=S8) (c:=false)
   have e1:sa (cl 4 (Go Hw) (ac (vr 6) (ac (vr 2) (ac (vr 3) (ac (vr 5) an))))) (gn 7) (rL q t (cD (hP m a b i j) (hU m w)) (stE (hS m x)) (hN m a b) (some (.int lim)) (some (cwd false)) none) S=.nx (rL q t (cD (hP m a b i j) (hU m w)) (stE (hS m x)) (hN m a b) (some (.int lim)) (some (cwd false)) (some (.lst (S++[(⟨false,[]⟩:Cell)]).length))) (S6++[⟨false,[]⟩]):=by
    generalize cD (hP m a b i j) (hU m w)=cd at *
    generalize stE (hS m x)=sd at *
    generalize cwd false=cw at *
    generalize (S++[(⟨false,[]⟩:Cell)]).length=ln at *
    simp[dy]
   refine(Gm e1).trans ?_
   generalize (S++[(⟨false,[]⟩:Cell)]).length=ln at *
   rw[Gab,Gs6 f8]
   generalize cD (hP m a b i j) (hU m w)=cd at *
   generalize stE (hS m x)=sd at *
   generalize cwd false=cw at *
   simp[cm,f9,fin]
  | true=>
   obtain⟨q7,S7,e7,h7,x7⟩:=Gxg e6 q6
   have dy:=Gta (c:=true) (lim:=lim) e7 (x6.trans x7)
   obtain⟨S8,f8,x8⟩:=tst (S7++[⟨false,[]⟩]) (some (.tup [.str "free",.lst q7]))
   rw[decide_eq_false (by omega)] at f8
   have h8:=x8.at (Jw (c:=⟨false,[]⟩) h7)
   have rd:=Yq (Gi0 (cd:=cD (hP m a b i j) (hU m w)) (sd:=stE (hS m x)) h8)
   have cm:=Gxf (S:=S8) (c:=true)
   have it:isD "tuple" (.tup [.str "free",.lst q7]) S8=.ok (.bl true) S8:=rfl
   have ln:Hr [.tup [.str "free",.lst q7]] S8=.ok (.int 2) S8:=rfl
   have g0:DL.getD (.tup [.str "free",.lst q7]) (.int 0) S8=.ok (.str "free") S8:=p0e
   have g1:DL.getD (.tup [.str "free",.lst q7]) (.int 1) S8=.ok (.lst q7) S8:=p1e
   have nf:neD (.str "free") (.str "free") S8=.ok (.bl false) S8:=Jr (b:=true) ((Jk (stok _) (stok _)).trans rfl)
   have il:isD "list" (.lst q7) S8=.ok (.bl true) S8:=by simp[isD,isT,h8,tyN]
   refine⟨S8,?_⟩
   have e1:sa (cl 4 (Go Hw) (ac (vr 6) (ac (vr 2) (ac (vr 3) (ac (vr 5) an))))) (gn 7) (rL q t (cD (hP m a b i j) (hU m w)) (stE (hS m x)) (hN m a b) (some (.int lim)) (some (cwd true)) none) S=.nx (rL q t (cD (hP m a b i j) (hU m w)) (stE (hS m x)) (hN m a b) (some (.int lim)) (some (cwd true)) (some (.tup [.str "free",.lst q7]))) (S7++[⟨false,[]⟩]):=by
    generalize cD (hP m a b i j) (hU m w)=cd at *
    generalize stE (hS m x)=sd at *
    generalize cwd true=cw at *
    generalize D.tup [.str "free",.lst q7]=fr at *
    simp[dy]
   refine(Gm e1).trans ?_
   rw[Gab,Gs6 f8]
   generalize cD (hP m a b i j) (hU m w)=cd at *
   generalize stE (hS m x)=sd at *
   generalize cwd true=cw at *
   generalize D.tup [.str "free",.lst q7]=fr at *
   simp[cm,it,ln,g0,g1,nf,il,rd,Wm,fin]
 ·obtain⟨S6,e6,x6⟩:=Gr6 (S:=S++[⟨false,[]⟩]) C g d (lim:=if lim=0 then 600 else lim) (by omega) (by omega) (by split<;>omega)
  have ec:cfn c [cD (hP m a b i j) (hU m w),stE (hS m x),.int (if lim=0 then 600 else lim)] (S++[⟨false,[]⟩])=.exc ⟨"TooMany",none⟩ S6:=by
   cases c
   ·exact e6
   ·exact Gxh e6
  obtain⟨S7,dn⟩:=Gz6 ec x6
  obtain⟨S8,f8,x8⟩:=tst S7 (some (.str "toomany"))
  rw[decide_eq_true (by omega)] at f8
  obtain⟨r,hr,er⟩:=Sho.repr (S:=S8) (Gzv (s:="toomany")) (by decide) (by decide)
  have er:=er S8 .refl
  have eqr:=Jk (S:=S8) hr hr
  refine⟨S8,?_⟩
  have e1:sa (cl 4 (Go Hw) (ac (vr 6) (ac (vr 2) (ac (vr 3) (ac (vr 5) an))))) (gn 7) (rL q t (cD (hP m a b i j) (hU m w)) (stE (hS m x)) (hN m a b) (some (.int lim)) (some (cwd c)) none) S=.nx (rL q t (cD (hP m a b i j) (hU m w)) (stE (hS m x)) (hN m a b) (some (.int lim)) (some (cwd c)) (some (.str "toomany"))) S7:=by
   generalize cD (hP m a b i j) (hU m w)=cd at *
   generalize stE (hS m x)=sd at *
   generalize cwd c=cw at *
   simp[dn]
  refine(Gm e1).trans ?_
  rw[Gab,Gzn f8]
  generalize cD (hP m a b i j) (hU m w)=cd at *
  generalize stE (hS m x)=sd at *
  generalize cwd c=cw at *
  simp[er,eqr,fin]
end
end Law
namespace Law
open PySem PySem.Spec PyProof.Rows L2 DL HL
theorem Gxl{S:Sto}{q:Nat}{fz:Bool}{ns:List Int}(e:S[q]?=some ⟨fz,ns.map D.int⟩):∃ S',Gcw [.lst q] S=.ok (.bl true) S':=by
 obtain⟨t,k,S1,f1,d1⟩:=Gri e
 obtain⟨m,w,a,b,i,j,x,S2,f2,H,V,hN1,d2⟩:=Gsc d1 (by decide)
 have hN0:2<=hN m a b:=by
  have:=H.a1
  have:=H.b1
  unfold hN
  have h1:1<=a.toNat+1:=by omega
  have h2:1<=b.toNat+1:=by omega
  cases m with
  | false=>have:=AT (AT (Aa 8) h1) h2; simp; omega
  | true=>have:=AT (AT (Aa 16) h1) h2; simp; omega
 obtain⟨r3,v,S3,e3,g3,hv,d3,_⟩:=Gac (m:=2) (xs:=[.int (hN m a b),.int 2000]) d2 (by decide) rfl (by simp) (by simp)
 obtain⟨r4,l4,S4,e4,g4,hl4,d4,_⟩:=Gac (m:=4) (xs:=[.int 0,.int 0,.int ((hN m a b:Int)-1),v]) d3 (by decide) rfl (by simp) (by simp)
 obtain⟨lim,rfl,hlim⟩:∃ lim:Int,l4=.int lim/\(lim=0\/1<=lim):=by
  simp only[Ad,AF,or_false] at hl4 hv
  rcases hl4 with rfl | rfl | rfl | rfl
  ·exact⟨0,rfl,.inl rfl⟩
  ·exact⟨0,rfl,.inl rfl⟩
  ·exact⟨_,rfl,.inr (by omega)⟩
  ·rcases hv with rfl | rfl
   ·exact⟨_,rfl,.inr (by omega)⟩
   ·exact⟨_,rfl,.inr (by decide)⟩
 obtain⟨r5,w5,S5,e5,g5,hw5,d5,_⟩:=Gac (m:=2) (xs:=[.str "met",.str "jam"]) d4 (by decide) rfl (by decide) (by decide)
 obtain⟨c,rfl⟩:∃ c,w5=cwd c:=by
  simp only[Ad,AF,or_false] at hw5
  rcases hw5 with rfl | rfl
  ·exact⟨false,rfl⟩
  ·exact⟨true,rfl⟩
 obtain⟨S6,h6⟩:=Gsd (q:=q) (t:=t) (w:=w) (c:=c) (S:=S5) (lim:=lim) H V hN1 hN0 hlim
 refine⟨S6,?_⟩
 unfold Gcw
 rw[Gq]
 simp only[Gn0]
 refine(Gm (ρ':=[some (.lst q),some (.lst t),none,none,none,none,none,none]) (S':=S1) (by simp[f1])).trans ?_
 refine(Gm (ρ':=rL q t (cD (hP m a b i j) (hU m w)) (stE (hS m x)) (hN m a b) none none none) (S':=S2) ?_).trans ?_
 ·generalize cD (hP m a b i j) (hU m w)=cd at *
  generalize stE (hS m x)=sd at *
  simp[f2]
 refine(Gm (ρ':=rL q t (cD (hP m a b i j) (hU m w)) (stE (hS m x)) (hN m a b) (some (.int lim)) none none) (S':=S4) ?_).trans ?_
 ·generalize cD (hP m a b i j) (hU m w)=cd at *
  generalize stE (hS m x)=sd at *
  generalize (hN m a b:Int)=N at *
  simp[e3,g3,e4,g4]
 refine(Gm (ρ':=rL q t (cD (hP m a b i j) (hU m w)) (stE (hS m x)) (hN m a b) (some (.int lim)) (some (cwd c)) none) (S':=S5) ?_).trans ?_
 ·generalize cD (hP m a b i j) (hU m w)=cd at *
  generalize stE (hS m x)=sd at *
  generalize cwd c=cw at *
  simp[e5,g5]
 exact h6
theorem Ghv{K:PySem.W.Frag}{mp:List Addr}{H:Hp}:∀ ns:List Int,RepL K mp H (ns.map D.int) (ns.map V.int)
 | []=>RepL.nil
 | a::r=>RepL.cons rfl (Ghv r)
theorem hsp(K:PySem.W.Frag)(H:Hp)(a:Addr)(ns:List Int)(hl:ns.length<=63)(hO:Only H)(hS:SqL K H a (ns.map V.int)):spD K 1 Gcw [.ref a] H (fun v _=>v=.bl true) fun _ _ _=>False:=by
 have hF:SqF K H a (ns.map V.int):=by
  rcases hS with(h | h) | h
  ·rcases hO a with z | ⟨o,xs,z⟩
   ·rw[z] at h; cases h
   ·rw[z] at h; cases h
  ·exact .inl h
  ·exact .inr h
 obtain⟨S',e⟩:=Gxl (S:=[⟨true,ns.map D.int⟩]) (q:=0) (fz:=true) (ns:=ns) rfl
 refine⟨[a],[.lst 0],[⟨true,ns.map D.int⟩],⟨rfl,fun i b c h1 h2=>?_,fun i j b ci cj h1 h2 h3 h4 h5 h6=>?_⟩,RepL.cons ⟨a,rfl,rfl,fun⟨u,du,z⟩=>by rcases hO a with y | ⟨o,xs,y⟩<;>rcases z with z | ⟨_,z⟩<;>rw[y] at z<;>cases z<;>cases du⟩ RepL.nil,rfl,?_⟩
 ·cases i with
  | zero=>
   cases (Ac h1)
   cases (Ac h2)
   exact .inl ⟨ns.map V.int,Ghv ns,(if_pos rfl).mpr hF⟩
  | succ i=>simp at h1
 ·cases i with
  | zero=>cases (Ac h3); cases h5
  | succ i=>simp at h1
 ·show Gsl K [a] H (Gcw [.lst 0] [⟨true,ns.map D.int⟩]) _
  rw[e]
  exact fun mp' H' v _ _ h=>h
end Law
def PySem.W.Fast.tw12067242431686958786:Nat:=0
def PySem.W.Fast.tw5550288737824813641:Nat:=0
def PySem.W.Fast.tw8782448998749466863:Nat:=0
def PySem.W.Fast.tw2820512479019852755:Nat:=0
def PySem.W.Fast.tw6018880235248257630:Nat:=0
def PySem.W.Fast.tw4496549203731403683:Nat:=0
def PySem.W.Fast.tw4812126834777082409:Nat:=0
def PySem.W.Fast.tw10141486249855485994:Nat:=0
def PySem.W.Fast.tw8338741515392201776:Nat:=0
def PySem.W.Fast.tw16406202637521089792:Nat:=0
def PySem.W.Fast.tw4489905780246293231:Nat:=0
def PySem.W.Fast.tw4194193238909067386:Nat:=0
def PySem.W.Fast.tw3353112746545778150:Nat:=0
def PySem.W.Fast.tw12728178122924243918:Nat:=0
def PySem.W.Fast.tw18437195777065121211:Nat:=0
def PySem.W.Fast.tw16256300522115987615:Nat:=0
def PySem.W.Fast.tw10921899822795305631:Nat:=0
def PySem.W.Fast.tw16264791029111136778:Nat:=0
def PySem.W.Fast.tw16424503872502443270:Nat:=0
def PySem.W.Fast.tw12162313055485296997:Nat:=0
def PySem.W.Fast.tw1482270290802729595:Nat:=0
def PySem.W.Fast.tw6613956459884718803:Nat:=0
def PySem.W.Fast.tw13791298331445409523:Nat:=0
def PySem.W.Fast.tw18101747062197824664:Nat:=0
def PySem.W.Fast.tw9229269204003686891:Nat:=0
def PySem.W.Fast.tw16401522586216168656:Nat:=0
def PySem.W.Fast.tw16978421731132357253:Nat:=0
def PySem.W.Fast.tw570907390421405961:Nat:=0
def PySem.W.Fast.tw12219812556089591286:Nat:=0
def PySem.W.Fast.tw9375304530184076310:Nat:=0
def PySem.W.Fast.tw18047633085322645179:Nat:=0
def PySem.W.Fast.tw5516085699031363620:Nat:=0
def PySem.W.Fast.tw2969574112977578514:Nat:=0
def PySem.W.Fast.tw1360592488504794550:Nat:=0
def PySem.W.Fast.tw7603069436737238775:Nat:=0
def PySem.W.Fast.tw3039155881872793371:Nat:=0
def PySem.W.Fast.tw3792177285123513052:Nat:=0
def PySem.W.Fast.tw8111474974010890627:Nat:=0
def PySem.W.Fast.tw11184499807748924515:Nat:=0
def PySem.W.Fast.tw1774009763391572115:Nat:=0
def PySem.W.Fast.tw2042780517025454013:Nat:=0
def PySem.W.Fast.tw12055567906622901309:Nat:=0
def PySem.W.Fast.tw9940961220461315554:Nat:=0
def PySem.W.Fast.tw1094453835181528615:Nat:=0
def PySem.W.Fast.tw15507055122523501099:Nat:=0
def PySem.W.Fast.tw9578666405928299151:Nat:=0
def PySem.W.Fast.tw6864626297430816691:Nat:=0
def PySem.W.Fast.tw15369208757060953576:Nat:=0
def PySem.W.Fast.tw7086238323149690214:Nat:=0
def PySem.W.Fast.tw7771151674133162310:Nat:=0
def PySem.W.Fast.tw15387512215558733017:Nat:=0
def PySem.W.Fast.tw12501458720697887532:Nat:=0
def PySem.W.Fast.tw1542804632262378187:Nat:=0
def PySem.W.Fast.tw3896314721448923683:Nat:=0
def PySem.W.Fast.tw9214209459291287452:Nat:=0
def PySem.W.Fast.tw1798905909402476212:Nat:=0
def PySem.W.Fast.tw9473226174231841885:Nat:=0
def PySem.W.Fast.tw16760687158248897485:Nat:=0
def PySem.W.Fast.tw6450828353035806590:Nat:=0
def PySem.W.Fast.tw2566340928454333311:Nat:=0
def PySem.W.Fast.tw7764708403251962370:Nat:=0
def PySem.W.Fast.tw12014025484213916779:Nat:=0
def PySem.W.Fast.tw1806724407279240692:Nat:=0
def PySem.W.Fast.tw6567357591805686385:Nat:=0
def PySem.W.Fast.tw940303111003611267:Nat:=0
def PySem.W.Fast.tw1577930529438518408:Nat:=0
def PySem.W.Fast.tw16369300993640287086:Nat:=0
def PySem.W.Fast.tw6197453128416620042:Nat:=0
def PySem.W.Fast.tw11310267742170756813:Nat:=0
def PySem.W.Fast.tw6365955469508464147:Nat:=0
def PySem.W.Fast.tw2759220109224185109:Nat:=0
def PySem.W.Fast.tw12421687434338740724:Nat:=0
def PySem.W.Fast.tw17072408208818547383:Nat:=0
def PySem.W.Fast.tw12629609248610770953:Nat:=0
def PySem.W.Fast.tw11248239283977997257:Nat:=0
def PySem.W.Fast.tw13562399550446155773:Nat:=0
def PySem.W.Fast.tw11264093564581087586:Nat:=0
def PySem.W.Fast.tw18040778168164221374:Nat:=0
def PySem.W.Fast.tw11941466702279764927:Nat:=0
def PySem.W.Fast.tw10445152163729518681:Nat:=0
def PySem.W.Fast.tw1262481645811751915:Nat:=0
def PySem.W.Fast.tw12466461497654698266:Nat:=0
def PySem.W.Fast.tw5818322528148283672:Nat:=0
def PySem.W.Fast.tw5030574629663451468:Nat:=0
def PySem.W.Fast.tw796128240208406995:Nat:=0
def PySem.W.Fast.tw7241995146474687052:Nat:=0
def PySem.W.Fast.tw455381608015116992:Nat:=0
def PySem.W.Fast.tw7735529711761923623:Nat:=0
def PySem.W.Fast.tw2776720890043766786:Nat:=0
def PySem.W.Fast.tw4920921717511136003:Nat:=0
def PySem.W.Fast.tw15444437907135749080:Nat:=0
def PySem.W.Fast.tw4644872068900246264:Nat:=0
def PySem.W.Fast.tw10164844276434145030:Nat:=0
def PySem.W.Fast.tw11738456558519828792:Nat:=0
def PySem.W.Fast.tw1224165853186466064:Nat:=0
def PySem.W.Fast.tw17799142480914809106:Nat:=0
def PySem.W.Fast.tw5753909188458146019:Nat:=0
def PySem.W.Fast.tw5852873589822096372:Nat:=0
def PySem.W.Fast.tw11848373371382418442:Nat:=0
def PySem.W.Fast.tw17931098803913732565:Nat:=0
def PySem.W.Fast.tw8146010924181119421:Nat:=0
def PySem.W.Fast.tw886233491858377015:Nat:=0
def PySem.W.Fast.tw17105650225431784235:Nat:=0
def PySem.W.Fast.tw16165617016871110507:Nat:=0
def PySem.W.Fast.tw13525143996604077344:Nat:=0
def PySem.W.Fast.tw4577985648753662736:Nat:=0
def PySem.W.Fast.tw9097564031536862117:Nat:=0
def PySem.W.Fast.tw15776923161119078999:Nat:=0
def PySem.W.Fast.tw15712301698029968680:Nat:=0
def PySem.W.Fast.tw12381972149654790212:Nat:=0
def PySem.W.Fast.tw14350496997236273204:Nat:=0
def PySem.W.Fast.tw1148077968966423946:Nat:=0
def PySem.W.Fast.tw208156806097089254:Nat:=0
def PySem.W.Fast.tw6829179371346014776:Nat:=0
def PySem.W.Fast.tw9600347231815215955:Nat:=0
def PySem.W.Fast.tw6701982015604483245:Nat:=0
def PySem.W.Fast.tw12637026522674551854:Nat:=0
def PySem.W.Fast.tw11114692716191102132:Nat:=0
def PySem.W.Fast.tw1531560100508142825:Nat:=0
def PySem.W.Fast.tw7884682818806834047:Nat:=0
def PySem.W.Fast.tw7349588812066694660:Nat:=0
def PySem.W.Fast.tw96635202295237919:Nat:=0
def PySem.W.Fast.tw12742596539589176071:Nat:=0
def PySem.W.Fast.tw7657502142137494525:Nat:=0
def PySem.W.Fast.tw14871675066125469571:Nat:=0
def PySem.W.Fast.tw17601086521487823807:Nat:=0
def PySem.W.Fast.tw15643568438602890934:Nat:=0
def PySem.W.Fast.tw13154446267231748904:Nat:=0
def PySem.W.Fast.tw2902217470345482396:Nat:=0
def PySem.W.Fast.tw17044318092367548070:Nat:=0
def PySem.W.Fast.tw12774898731173675141:Nat:=0
def PySem.W.Fast.tw480925109288948246:Nat:=0
def PySem.W.Fast.tw1089853576465362763:Nat:=0
def PySem.W.Fast.tw9673063880480090963:Nat:=0
def PySem.W.Fast.tw16009464395537126062:Nat:=0
def PySem.W.Fast.tw16082109009358181922:Nat:=0
def PySem.W.Fast.tw11807633491519685672:Nat:=0
def PySem.W.Fast.tw7393589719075267759:Nat:=0
def PySem.W.Fast.tw13324850219436761811:Nat:=0
def PySem.W.Fast.tw12708564296963672982:Nat:=0
def PySem.W.Fast.tw11359028920340360554:Nat:=0
def PySem.W.Fast.tw3797976538920537724:Nat:=0
def PySem.W.Fast.tw14694321664808749885:Nat:=0
def PySem.W.Fast.tw5165484519601833532:Nat:=0
def PySem.W.Fast.tw3696461359437521462:Nat:=0
def PySem.W.Fast.tw9214269779329393917:Nat:=0
def PySem.W.Fast.tw10139846227643796971:Nat:=0
def PySem.W.Fast.tw9784409541436697211:Nat:=0
def PySem.W.Fast.tw4624233112418730023:Nat:=0
def PySem.W.Fast.tw11388584747263370598:Nat:=0
def PySem.W.Fast.tw17443228850434118995:Nat:=0
def PySem.W.Fast.tw4960466837158680734:Nat:=0
def PySem.W.Fast.tw12437120162485289738:Nat:=0
def PySem.W.Fast.tw7541552222614914391:Nat:=0
def PySem.W.Fast.tw16271051324005168322:Nat:=0
def PySem.W.Fast.tw4084520929170859842:Nat:=0
def PySem.W.Fast.tw2669871363186291133:Nat:=0
def PySem.W.Fast.tw9144291116319359193:Nat:=0
def PySem.W.Fast.tw9526531073102530466:Nat:=0
def PySem.W.Fast.tw16076238069749846980:Nat:=0
def PySem.W.Fast.tw17254831222041117430:Nat:=0
def PySem.W.Fast.tw16295107632146482186:Nat:=0
def PySem.W.Fast.tw9062100681225244660:Nat:=0
def PySem.W.Fast.tw4713382794848143547:Nat:=0
def PySem.W.Fast.tw6807529057961989040:Nat:=0
def PySem.W.Fast.tw6915248658922732981:Nat:=0
def PySem.W.Fast.tw3793719665372343304:Nat:=0
def PySem.W.Fast.tw12009979520354986571:Nat:=0
def PySem.W.Fast.tw4388567810547087691:Nat:=0
def PySem.W.Fast.tw15636839404956603497:Nat:=0
def PySem.W.Fast.tw3983631156346358905:Nat:=0
def PySem.W.Fast.tw4873010581289757321:Nat:=0
def PySem.W.Fast.tw9030454895321214665:Nat:=0
def PySem.W.Fast.tw6452290748252829402:Nat:=0
def PySem.W.Fast.tw5206774347756891224:Nat:=0
def PySem.W.Fast.tw7411992204088242116:Nat:=0
def PySem.W.Fast.tw15409309780655921122:Nat:=0
def PySem.W.Fast.tw3124516933540544567:Nat:=0
def PySem.W.Fast.tw20949043479441946:Nat:=0
def PySem.W.Fast.tw14443558078913964231:Nat:=0
def PySem.W.Fast.tw9827150547627985604:Nat:=0
def PySem.W.Fast.tw2948924939661568459:Nat:=0
def PySem.W.Fast.tw9070268083347959299:Nat:=0
def PySem.W.Fast.tw16802466423998512762:Nat:=0
def PySem.W.Fast.tw13786962522350756761:Nat:=0
def PySem.W.Fast.tw8271201414395940949:Nat:=0
def PySem.W.Fast.tw16514954857928731497:Nat:=0
def PySem.W.Fast.tw11262207055917503190:Nat:=0
def PySem.W.Fast.tw12558650141190282268:Nat:=0
def PySem.W.Fast.tw533431596687202643:Nat:=0
def PySem.W.Fast.tw6482594845771528907:Nat:=0
def PySem.W.Fast.tw9310864279049411169:Nat:=0
def PySem.W.Fast.tw7345900760109907150:Nat:=0
def PySem.W.Fast.tw2166196218553408791:Nat:=0
def PySem.W.Fast.tw16239374743829861453:Nat:=0
def PySem.W.Fast.tw11198321969783001587:Nat:=0
def PySem.W.Fast.tw15558837875133377945:Nat:=0
def PySem.W.Fast.tw10936514272824600170:Nat:=0
def PySem.W.Fast.tw15406444041225787637:Nat:=0
def PySem.W.Fast.tw13873496673293419804:Nat:=0
def PySem.W.Fast.tw6845235524588508904:Nat:=0
def PySem.W.Fast.tw1874398275274192778:Nat:=0
def PySem.W.Fast.tw17345183880967870512:Nat:=0
def PySem.W.Fast.tw6646291761157597462:Nat:=0
def PySem.W.Fast.tw18425078195404195817:Nat:=0
def PySem.W.Fast.tw11880351068890393668:Nat:=0
def PySem.W.Fast.tw5189347053733809154:Nat:=0
def PySem.W.Fast.tw3538127171167423910:Nat:=0
def PySem.W.Fast.tw1200493694585590189:Nat:=0
def PySem.W.Fast.tw5211055856632559598:Nat:=0
def PySem.W.Fast.tw4100925655728081143:Nat:=0
def PySem.W.Fast.tw16832396288410935299:Nat:=0
def PySem.W.Fast.tw2189039099653706224:Nat:=0
def PySem.W.Fast.tw11957049402998679226:Nat:=0
def PySem.W.Fast.tw17986965306659240429:Nat:=0
def PySem.W.Fast.tw2729415466786534584:Nat:=0
def PySem.W.Fast.tw4329355653447067283:Nat:=0
def PySem.W.Fast.tw7850184172223346582:Nat:=0
def PySem.W.Fast.tw5581161895477635252:Nat:=0
def PySem.W.Fast.tw5916601678072456900:Nat:=0
def PySem.W.Fast.tw12731109814366077768:Nat:=0
def PySem.W.Fast.tw9259373857632422183:Nat:=0
def PySem.W.Fast.tw14156832294635848832:Nat:=0
def PySem.W.Fast.tw10024804828918101309:Nat:=0
def PySem.W.Fast.tw18244410451336997754:Nat:=0
def PySem.W.Fast.tw4807639340853019228:Nat:=0
def PySem.W.Fast.tw13950892650921085489:Nat:=0
def PySem.W.Fast.tw234720723500217472:Nat:=0
def PySem.W.Fast.tw10212359425669199176:Nat:=0
def PySem.W.Fast.tw11096216245835746358:Nat:=0
def PySem.W.Fast.tw2284594342219982048:Nat:=0
def PySem.W.Fast.tw8209956467224176635:Nat:=0
def PySem.W.Fast.tw18112967750617313220:Nat:=0
def PySem.W.Fast.tw536244983215424334:Nat:=0
def PySem.W.Fast.tw2981833580902960686:Nat:=0
def PySem.W.Fast.tw15652256421257266612:Nat:=0
def PySem.W.Fast.tw6249476517520124906:Nat:=0
def PySem.W.Fast.tw965468726839447472:Nat:=0
def PySem.W.Fast.tw10908561023628900139:Nat:=0
def PySem.W.Fast.tw11018897750576226482:Nat:=0
def PySem.W.Fast.tw1430174240773762130:Nat:=0
def PySem.W.Fast.tw16868315896145277226:Nat:=0
def PySem.W.Fast.tw5464015575836782126:Nat:=0
def PySem.W.Fast.tw15623378214261854507:Nat:=0
def PySem.W.Fast.tw16395814158009543874:Nat:=0
def PySem.W.Fast.tw11195697647937478162:Nat:=0
def PySem.W.Fast.tw12263699391844703702:Nat:=0
def PySem.W.Fast.tw6324601027141461783:Nat:=0
def PySem.W.Fast.tw17615265737848347599:Nat:=0
def PySem.W.Fast.tw15309007230513837702:Nat:=0
def PySem.W.Fast.tw14446818093244743397:Nat:=0
def PySem.W.Fast.tw8974969404824994941:Nat:=0
def PySem.W.Fast.tw3530789716700158155:Nat:=0
def PySem.W.Fast.tw3921625920458416939:Nat:=0
def PySem.W.Fast.tw16159528976515038045:Nat:=0
def PySem.W.Fast.tw18168993217600082556:Nat:=0
def PySem.W.Fast.tw6840628993916496028:Nat:=0
def PySem.W.Fast.tw17697511125769098864:Nat:=0
def PySem.W.Fast.tw5143106972593189069:Nat:=0
def PySem.W.Fast.tw9332364256071164921:Nat:=0
def PySem.W.Fast.tw4413485820667813485:Nat:=0
def PySem.W.Fast.tw9177190079808261777:Nat:=0
def PySem.W.Fast.tw9276340524691380606:Nat:=0
def PySem.W.Fast.tw17120490965875663531:Nat:=0
def PySem.W.Fast.tw1046297456986054360:Nat:=0
def PySem.W.Fast.tw15430238615035128672:Nat:=0
def PySem.W.Fast.tw8048067414004878300:Nat:=0
def PySem.W.Fast.tw5386899752504958933:Nat:=0
def PySem.W.Fast.tw16910852933356397516:Nat:=0
def PySem.W.Fast.tw16878501201074244093:Nat:=0
def PySem.W.Fast.tw1339574708564975932:Nat:=0
def PySem.W.Fast.tw12180658102306212600:Nat:=0
def PySem.W.Fast.tw15401959226090284363:Nat:=0
def PySem.W.Fast.tw2162185906467489724:Nat:=0
def PySem.W.Fast.tw17754159089572047237:Nat:=0
def PySem.W.Fast.tw7364433630191772261:Nat:=0
def PySem.W.Fast.tw207826617099845237:Nat:=0
def PySem.W.Fast.tw4352236729922928755:Nat:=0
def PySem.W.Fast.tw17682359260066647971:Nat:=0
def PySem.W.Fast.tw2428720295837326002:Nat:=0
def PySem.W.Fast.tw8501752182766785251:Nat:=0
def PySem.W.Fast.tw18088722240704108858:Nat:=0
def PySem.W.Fast.tw15892155121187287297:Nat:=0
def PySem.W.Fast.tw16086864503450495532:Nat:=0
def PySem.W.Fast.tw1093366176305421003:Nat:=0
def PySem.W.Fast.tw11149859543036026513:Nat:=0
def PySem.W.Fast.tw4799947753509356635:Nat:=0
def PySem.W.Fast.tw12256124083072333057:Nat:=0
def PySem.W.Fast.tw8368137935888829402:Nat:=0
def PySem.W.Fast.tw11419026657937530965:Nat:=0
def PySem.W.Fast.tw9849160722559677979:Nat:=0
def PySem.W.Fast.tw2070994423889514744:Nat:=0
def PySem.W.Fast.tw928375014368166454:Nat:=0
def PySem.W.Fast.tw13149791964358178991:Nat:=0
def PySem.W.Fast.tw6830101662232051625:Nat:=0
def PySem.W.Fast.tw10097844282718450265:Nat:=0
def PySem.W.Fast.tw3163892366429508707:Nat:=0
def PySem.W.Fast.tw13080738275415401693:Nat:=0
def PySem.W.Fast.tw10090401341877924001:Nat:=0
def PySem.W.Fast.tw17297472349871911704:Nat:=0
def PySem.W.Fast.tw6984464764985386089:Nat:=0
def PySem.W.Fast.tw14688545665752539953:Nat:=0
def PySem.W.Fast.tw925689069753108576:Nat:=0
def PySem.W.Fast.tw14604195163294529867:Nat:=0
def PySem.W.Fast.tw15056996406796743098:Nat:=0
def PySem.W.Fast.tw6730008883077648673:Nat:=0
def PySem.W.Fast.tw11683845811451901387:Nat:=0
def PySem.W.Fast.tw13720811859852954432:Nat:=0
def PySem.W.Fast.tw10070888482375327031:Nat:=0
def PySem.W.Fast.tw15271659436775125800:Nat:=0
def PySem.W.Fast.tw2904485715300560954:Nat:=0
def PySem.W.Fast.tw2672457523163617530:Nat:=0
def PySem.W.Fast.tw286637713554656896:Nat:=0
def PySem.W.Fast.tw12920627058958696338:Nat:=0
def PySem.W.Fast.tw12269912929541140045:Nat:=0
def PySem.W.Fast.tw9827512641068220056:Nat:=0
def PySem.W.Fast.tw5080377394695344586:Nat:=0
def PySem.W.Fast.tw13288034887203122051:Nat:=0
def PySem.W.Fast.tw2813268365302039410:Nat:=0
def PySem.W.Fast.tw13525989366374523988:Nat:=0
def PySem.W.Fast.tw5470013882564423383:Nat:=0
def PySem.W.Fast.tw4005154845788065427:Nat:=0
def PySem.W.Fast.tw9543244693065195972:Nat:=0
def PySem.W.Fast.tw6248910786113344437:Nat:=0
def PySem.W.Fast.tw830898997422724875:Nat:=0
def PySem.W.Fast.tw16961706853846811833:Nat:=0
def PySem.W.Fast.tw6738951385706787620:Nat:=0
def PySem.W.Fast.tw2416500668391845323:Nat:=0
def PySem.W.Fast.tw13778547124199006048:Nat:=0
def PySem.W.Fast.tw5293849888082940384:Nat:=0
def PySem.W.Fast.tw3336444975568847803:Nat:=0
def PySem.W.Fast.tw15852371008620873544:Nat:=0
def PySem.W.Fast.tw12790383407379189037:Nat:=0
def PySem.W.Fast.tw8608328128874179525:Nat:=0
def PySem.W.Fast.tw5688590278107933310:Nat:=0
def PySem.W.Fast.tw14274310987948322587:Nat:=0
def PySem.W.Fast.tw11244018682620747400:Nat:=0
def PySem.W.Fast.tw12264866143997814981:Nat:=0
def PySem.W.Fast.tw8882984996898299666:Nat:=0
def PySem.W.Fast.tw16992623246189433238:Nat:=0
def PySem.W.Fast.tw12605497406726140212:Nat:=0
def PySem.W.Fast.tw9374524164940222886:Nat:=0
def PySem.W.Fast.tw12642874107903861142:Nat:=0
def PySem.W.Fast.tw12852752954848174134:Nat:=0
def PySem.W.Fast.tw10939523085603710962:Nat:=0
def PySem.W.Fast.tw11436948191392755638:Nat:=0
def PySem.W.Fast.tw1899832493375092325:Nat:=0
def PySem.W.Fast.tw457649642423938253:Nat:=0
def PySem.W.Fast.tw3807540008797806179:Nat:=0
def PySem.W.Fast.tw11904298061488418092:Nat:=0
def PySem.W.Fast.tw11088057084916593362:Nat:=0
def PySem.W.Fast.tw2481496056629263583:Nat:=0
def PySem.W.Fast.tw12830705061286588893:Nat:=0
def PySem.W.Fast.tw14166770860038798814:Nat:=0
def PySem.W.Fast.tw8142401018631342893:Nat:=0
def PySem.W.Fast.tw3279198463006276557:Nat:=0
def PySem.W.Fast.tw18042697653296598720:Nat:=0
def PySem.W.Fast.tw13013842813359424832:Nat:=0
def PySem.W.Fast.tw13795174112150595730:Nat:=0
def PySem.W.Fast.tw17450734580400637321:Nat:=0
def PySem.W.Fast.tw178157838445580353:Nat:=0
def PySem.W.Fast.tw17625625711984186431:Nat:=0
def PySem.W.Fast.tw12938319519780958224:Nat:=0
def PySem.W.Fast.tw14134943598231105836:Nat:=0
def PySem.W.Fast.tw8458695883635678681:Nat:=0
def PySem.W.Fast.tw10815355261848404649:Nat:=0
def PySem.W.Fast.tw869830597056078422:Nat:=0
def PySem.W.Fast.tw9980444117932947708:Nat:=0
def PySem.W.Fast.tw13670792380152582756:Nat:=0
def PySem.W.Fast.tw10605188945355965196:Nat:=0
def PySem.W.Fast.tw5809560571052792971:Nat:=0
def PySem.W.Fast.tw15368391939444673512:Nat:=0
def PySem.W.Fast.tw8165411712219073599:Nat:=0
def PySem.W.Fast.tw5936696768583891479:Nat:=0
def PySem.W.Fast.tw10352691152445802927:Nat:=0
def PySem.W.Fast.tw8462341681943469769:Nat:=0
def PySem.W.Fast.tw9613957268728931476:Nat:=0
def PySem.W.Fast.tw15016725096960722039:Nat:=0
def PySem.W.Fast.tw11062916123969765106:Nat:=0
def PySem.W.Fast.tw13671089306783761263:Nat:=0
def PySem.W.Fast.tw10861826580628305854:Nat:=0
def PySem.W.Fast.tw9046553464975090854:Nat:=0
def PySem.W.Fast.tw1312278333886807875:Nat:=0
def PySem.W.Fast.tw11796484510175395048:Nat:=0
def PySem.W.Fast.tw16519877086650277029:Nat:=0
def PySem.W.Fast.tw3240463432353618675:Nat:=0
def PySem.W.Fast.tw17126557426613585092:Nat:=0
def PySem.W.Fast.tw3883745133454236503:Nat:=0
def PySem.W.Fast.tw9037238414773479899:Nat:=0
def PySem.W.Fast.tw13232326559198528693:Nat:=0
def PySem.W.Fast.tw14151390635601455893:Nat:=0
def PySem.W.Fast.tw18107896945966621041:Nat:=0
def PySem.W.Fast.tw6751768697235347726:Nat:=0
def PySem.W.Fast.tw10384735301316025902:Nat:=0
def PySem.W.Fast.tw2910436060347899459:Nat:=0
def PySem.W.Fast.tw9203624072444956587:Nat:=0
def PySem.W.Fast.tw11307257640928522759:Nat:=0
def PySem.W.Fast.tw17543113262721973028:Nat:=0
def PySem.W.Fast.tw16670695910274929179:Nat:=0
open PySem PySem.W PyProof.Rows
set_option maxHeartbeats 0 in
theorem PySem.Challenge.cw_summitwater_k25_limits_left_out_holds : PySem.Challenge.rw_summitwater_k25_limits_left_out.Holds := by
 w_on; o_law; k_head; (case hw=>w_witness2)
 k_fill
 refine L2.Gme (l:=PySem.Challenge.rw_summitwater_k25_limits_left_out) (n:=63) (k:=12) (x:="_law_script") (CX:=L2.CX0) (sp:=fun K=>DL.spD K 1 Law.Gcw) rfl (by decide) rfl ⟨rfl,by decide,by decide,rfl⟩ (fun w h Y=>PySem.W.kIn_of Y) ?F Law.hsp (fun _ _ _ _ z=>z)
 case F=>
  intro w mg fa h KX G hmg
  refine' Law.Gwm KX G hmg ?HS ?x0 ?x1 ?x2 ?x3 ?x4 ?x5 ?x6 ?x7 ?x8 ?x9 ?x10 ?x11 ?x12 ?x13 ?x14 ?x15 ?x16 ?x17 ?x18 ?x19 ?x20 ?x21 ?x22 ?x23 ?x24 ?x25 ?x26 ?x27 ?x28 ?x29 ?x30 ?x31 ?x32
  (case HS=>constructor<;>first | (refine' DL.Gv5 ?a ?l ?c ?k ?t; (case a=>k_is); (case l=>k_is); (case c=>k_is); (case k=>k_is); (case t=>k_is)) | (refine' DL.Gyy ?a ?l ?c ?k; (case a=>k_is); (case l=>k_is); (case c=>k_is); (case k=>k_is)) | k_is)
  (case x0=>k_is)
  (case x1=>k_is)
  (case x2=>k_is)
  (case x3=>k_is)
  (case x4=>k_is)
  (case x5=>k_is)
  (case x6=>k_is)
  (case x7=>k_is)
  (case x8=>k_is)
  (case x9=>k_is)
  (case x10=>k_is)
  (case x11=>k_is)
  (case x12=>k_is)
  (case x13=>k_is)
  (case x14=>k_is)
  (case x15=>k_is)
  (case x16=>k_is)
  (case x17=>k_is)
  (case x18=>k_is)
  (case x19=>kernel_rfl!)
  (case x20=>k_is)
  (case x21=>k_is)
  (case x22=>k_is)
  (case x23=>k_is)
  (case x24=>kernel_rfl!)
  (case x25=>kernel_rfl!)
  (case x26=>kernel_rfl!)
  (case x27=>kernel_rfl!)
  (case x28=>kernel_rfl!)
  (case x29=>kernel_rfl!)
  (case x30=>kernel_rfl!)
  (case x31=>kernel_rfl!)
  (case x32=>kernel_rfl!)
