import PyProof.Rows.All
import Wide.All
import OpenK.AllK
import Wide.FinOn
import Lean
import PyProof.EqAt
import PyProof.EqKinds
import PyProof.TupleCall
import PyProof.FactsAll.tuple_2
import PyProof.ListMulRoad
import PyProof.ZipIter
import PyProof.EnumFor
import PyProof.Rows.StrJoin2
import PyProof.FString
import PyProof.StrBlockH
import PyProof.StrWalks
import PyProof.EnumMake
import KE.KIntText
import PyProof.CallStr
import PyProof.StrLawsTight
import PyProof.StrLawsChain
import PyProof.StrLawsIn
import PyProof.StrLawsOccR
import PySem.Challenge.RW_summitwater_k03_canals_written_and_read
set_option Elab.async false
set_option linter.all false
set_option maxRecDepth 100000
namespace L2
open PySem PySem.Spec PyProof.Rows
abbrev Key := Sum Int Str
def keyIs : Key → Value → Bool
  | .inl k, v => Value.isInt k v
  | .inr x, v => Value.isStrOf x v
def keyH (w : World) : Key → Int
  | .inl k => hashInt k
  | .inr x => hashStr w x
theorem keyIs_shape : ∀ {k : Key} {v : Value}, keyIs k v = true → (∃ i t, k = Sum.inl i ∧ v = Value.int i t) ∨ (∃ x t, k = Sum.inr x ∧ v = Value.str x t)
  | .inl i, v, h => by
    obtain ⟨t, e⟩ := Value.isInt_shape (k := i) (v := v) h
    exact .inl ⟨i, t, rfl, e⟩
  | .inr x, v, h => by
    obtain ⟨t, e⟩ := Value.isStrOf_shape (x := x) (v := v) h
    exact .inr ⟨x, t, rfl, e⟩
theorem key_ll (a b : Int) : decide ((Sum.inl a : Key) = Sum.inl b) = (a == b) := by
  by_cases e : a = b
  · subst e; simp
  · have h : ¬ (Sum.inl a : Key) = Sum.inl b := fun q => e (Sum.inl.inj q)
    rw [decide_eq_false h]
    exact (beq_eq_false_iff_ne.mpr e).symm
theorem key_rr (a b : Str) : decide ((Sum.inr a : Key) = Sum.inr b) = decide (a = b) := by
  by_cases e : a = b
  · subst e; simp
  · have h : ¬ (Sum.inr a : Key) = Sum.inr b := fun q => e (Sum.inr.inj q)
    rw [decide_eq_false h, decide_eq_false e]
theorem key_lr (a : Int) (b : Str) : decide ((Sum.inl a : Key) = Sum.inr b) = false := decide_eq_false (fun q => nomatch q)
theorem key_rl (a : Str) (b : Int) : decide ((Sum.inr a : Key) = Sum.inl b) = false := decide_eq_false (fun q => nomatch q)
def mixKind (prog : Program) (w : World) : PySem.KeyKind prog w Key where
  is := keyIs
  hash := keyH w
  inj := fun v a b ha hb => by
    rcases keyIs_shape ha with ⟨i, t, rfl, rfl⟩ | ⟨x, t, rfl, rfl⟩
    · rcases keyIs_shape hb with ⟨j, u, rfl, e⟩ | ⟨y, u, rfl, e⟩
      · injection e with e1 _; rw [e1]
      · exact nomatch e
    · rcases keyIs_shape hb with ⟨j, u, rfl, e⟩ | ⟨y, u, rfl, e⟩
      · exact nomatch e
      · injection e with e1 _; rw [e1]
  byValue := fun k v h => by
    rcases keyIs_shape h with ⟨i, t, rfl, rfl⟩ | ⟨x, t, rfl, rfl⟩ <;> rfl
  pyHash := fun hv h => by
    rcases keyIs_shape hv with ⟨i, t, rfl, rfl⟩ | ⟨x, t, rfl, rfl⟩
    · exact wpAny_pyHash_int h
    · exact wpAny_pyHash_str h
  eqBool := fun hu hv h => by
    rcases keyIs_shape hu with ⟨i, t, rfl, rfl⟩ | ⟨x, t, rfl, rfl⟩
    · rcases keyIs_shape hv with ⟨j, u, rfl, rfl⟩ | ⟨y, u, rfl, rfl⟩
      · rw [key_ll] at h; exact wpAny_eqBool_int h
      · rw [key_lr] at h; exact SeqAt.EqAt.int_str i t y u _ _ _ _ h
    · rcases keyIs_shape hv with ⟨j, u, rfl, rfl⟩ | ⟨y, u, rfl, rfl⟩
      · rw [key_rl] at h; exact SeqAt.EqAt.str_int x t j u _ _ _ _ h
      · rw [key_rr] at h; exact wpAny_eqBool_str h
  «strs» := fun k x t v h => by
    rcases keyIs_shape h with ⟨i, u, rfl, e⟩ | ⟨y, u, rfl, e⟩
    · exact nomatch e
    · injection e with e1 _
      subst e1
      cases v <;> rfl
end L2
namespace L2
open PySem PySem.Spec PyProof.Rows
inductive V where
  | non | bl (b : Bool) | int (i : Int) | str (x : Str) | byt (b : Array UInt8) | flt (b : UInt64) | ref (a : Addr) | ty (n : String)
  deriving DecidableEq
def RelV : V → Value → Prop
  | .non, u => u = Value.none
  | .bl b, u => u = Value.bool b
  | .int i, u => ∃ t, u = Value.int i t
  | .str x, u => ∃ t, u = Value.str x t
  | .byt b, u => ∃ t, u = Value.bytes b t
  | .flt b, u => ∃ t, u = Value.float b t
  | .ref a, u => u = Value.ref a
  | .ty n, u => u = Value.type n
abbrev Vals : List V → List Value → Prop := Paired RelV
theorem Vals.length {xs : List V} {us : List Value} (r : Vals xs us) : xs.length = us.length := Paired.length r
theorem Vals.get : ∀ {xs : List V} {us : List Value} {i : Nat} {x : V}, Vals xs us → xs[i]? = some x → ∃ u, us[i]? = some u ∧ RelV x u
  | _, _, _, _, .nil, e => by simp at e
  | _, _, 0, _, .cons r _, e => by simp at e; subst e; exact ⟨_, rfl, r⟩
  | _, _, i + 1, x, .cons _ t, e => by
    obtain ⟨u, h1, h2⟩ := Vals.get (i := i) (x := x) t (by simpa using e)
    exact ⟨u, by simpa using h1, h2⟩
theorem Vals.set {x : V} {u : Value} (r : RelV x u) : ∀ {xs : List V} {us : List Value} (i : Nat), Vals xs us → Vals (xs.set i x) (us.set i u)
  | _, _, _, .nil => .nil
  | _, _, 0, .cons _ t => .cons r t
  | _, _, i + 1, .cons q t => .cons q (Vals.set r i t)
theorem Vals.append : ∀ {xs ys : List V} {us ws : List Value}, Vals xs us → Vals ys ws → Vals (xs ++ ys) (us ++ ws)
  | _, _, _, _, .nil, s => s
  | _, _, _, _, .cons r t, s => .cons r (Vals.append t s)
theorem Vals.take : ∀ {xs : List V} {us : List Value} (n : Nat), Vals xs us → Vals (xs.take n) (us.take n)
  | _, _, 0, _ => .nil
  | _, _, _ + 1, .nil => .nil
  | _, _, n + 1, .cons r t => .cons r (Vals.take n t)
theorem Vals.drop : ∀ {xs : List V} {us : List Value} (n : Nat), Vals xs us → Vals (xs.drop n) (us.drop n)
  | _, _, 0, r => r
  | _, _, _ + 1, .nil => .nil
  | _, _, n + 1, .cons _ t => Vals.drop n t
def RelO : Option V → Option Value → Prop
  | some v, some u => RelV v u
  | none, none => True
  | _, _ => False
def KV {κ : Type} : List (κ × V) → List (κ × Value) → Prop := Paired fun (p : κ × V) (q : κ × Value) => p.1 = q.1 ∧ RelV p.2 q.2
def kV : Key → V
  | .inl i => .int i
  | .inr x => .str x
inductive HO where
  /-- a list -/
  | lst (xs : List V)
  /-- a tuple (never changes) -/
  | tup (xs : List V)
  /-- a dict whose keys are ints and texts; one whose keys are tuples of ints and texts (the empty one is both) -/
  | dK (kvs : List (Key × V)) | dT (kvs : List (List Key × V))
  /-- a set of ints: its members, its size -/
  | set (S : Int → Bool) (n : Nat)
  /-- an instance of the class at C, its dict at dx, its attributes -/
  | ins (C dx : Addr) (fs : List (Str × V))
  /-- the dict of the instance at x -/
  | own (x : Addr)
  /-- the dict of an exception -/
  | xd (fs : List (Str × V))
  /-- a bound method, f of x -/
  | met (f x : Addr)
  /-- a range object lo, lo + 1, .. below hi -/
  | rng (lo hi : Int)
  /-- a thing that is known to the object (the script; a dict while a loop walks it): read, never written while it is so -/
  | frz (o : Obj) (u : HO)
  /-- a code object's table -/
  | tbl (ps : Array Value)
  /-- any other thing, by what is true of its one object (a def of one's own: SetO a S n := HO.ext fun h => ..) -/
  | ext (φ : Heap → Prop)
abbrev Hp := Addr → Option HO
def upd (H : Hp) (a : Addr) (o : HO) : Hp := fun b => if b = a then some o else H b
theorem upd_same {H : Hp} {a : Addr} {o : HO} : upd H a o a = some o := by unfold upd; rw [if_pos rfl]
theorem upd_ne {H : Hp} {a b : Addr} {o : HO} (h : b ≠ a) : upd H a o b = H b := by unfold upd; rw [if_neg h]
theorem ne_of {H : Hp} {a b : Addr} {o u : HO} (h : H a = some o) (h' : H b = some u) (d : o ≠ u) : a ≠ b := by
  intro e; subst e; rw [h] at h'; exact d (Option.some.inj h')
theorem ne_of_none {H : Hp} {a b : Addr} {o : HO} (h : H a = some o) (h' : H b = none) : a ≠ b := by
  intro e; subst e; rw [h] at h'; cases h'
section
variable (P : Program) (w : World)
def ObjOk (H : Hp) (h : Heap) (a : Addr) : HO → Prop
  | .lst xs => xs.length ≤ sizeLine ∧ ∃ (its : List Value) (n : Nat), Vals xs its ∧ h.get? a = some { cls := .type "list", data := .seq its.toArray n }
  | .tup xs => xs.length ≤ sizeLine ∧ ∃ its : List Value, Vals xs its ∧ IsTup h a its.toArray
  | .dK kvs => kvs.length ≤ sizeLine ∧ (a == sysModules) = false ∧ ∃ vs, KV kvs vs ∧ h.DictOf (mixKind P w) a vs
  | .dT kvs => kvs.length ≤ sizeLine ∧ (a == sysModules) = false ∧ ∃ xs : List (List Key × Addr × Value),
      Paired (fun (p : List Key × V) (q : List Key × Addr × Value) => p.1 = q.1 ∧ H q.2.1 = some (.tup (p.1.map kV)) ∧ RelV p.2 q.2.2) kvs xs ∧
      ∃ o es ep, h.get? a = some o ∧ o.ExactDict ∧ o.data = .dict es ep ∧ es.toList = xs.map (entryOfKey (tupleKind (mixKind P w))) ∧ (xs.map (·.1)).Nodup
  | .set S n => h.SetOf (intKind P w) a S n
  | .ins C dx fs => H dx = some (.own a) ∧ fs.length ≤ 1000 ∧ dx ≠ a ∧ h.get? a = some (PySem.W.instObj C dx) ∧
      ∃ mA, h.Ns1 dx mA ∧ (∀ f, RelO (fs.lookup f) (mA f)) ∧ PySem.Within mA (fs.map (·.1))
  | .own _ => ∃ o, h.get? a = some o
  | .xd fs => ∃ mA, h.Ns1 a mA ∧ ∀ f, RelO (fs.lookup f) (mA f)
  | .rng lo hi => ∃ t u v, h.get? a = some { cls := .type "range", data := .fields #[.int lo t, .int hi u, .int 1 v] }
  | .frz o u => h.get? a = some o ∧ ObjOk H h a u
  | .tbl ps => h.get? a = some { cls := .none, data := .fields ps }
  | .met f x => h.get? a = some (PySem.W.methodObj (.ref f) (.ref x))
  | .ext φ => φ h ∧ (∃ o, h.get? a = some o) ∧ ∀ h1 h2 : Heap, φ h1 → (∀ o, h1.get? a = some o → h2.get? a = some o) → φ h2
def HOk (H : Hp) (h : Heap) : Prop := ∀ a o, H a = some o → ObjOk P w H h a o
end
section
variable {P : Program} {w : World} {H H' : Hp} {h h' : Heap} {a : Addr} {o : HO}
theorem ObjOk.lt (x : ObjOk P w H h a o) : a < h.objs.size := by
  cases o with
  | lst xs => obtain ⟨_, _, _, _, e⟩ := x; exact Heap.lt_size e
  | tup xs => obtain ⟨_, _, _, p⟩ := x; exact p.lt
  | dK kvs => obtain ⟨_, _, _, _, o, _, _, e, _⟩ := x; exact Heap.lt_size e
  | dT kvs => obtain ⟨_, _, _, _, o, _, _, e, _⟩ := x; exact Heap.lt_size e
  | set S n => obtain ⟨o, _, _, _, e, _⟩ := x; exact Heap.lt_size e
  | ins C dx fs => obtain ⟨_, _, _, e, _⟩ := x; exact Heap.lt_size e
  | own y => obtain ⟨_, e⟩ := x; exact Heap.lt_size e
  | xd fs => obtain ⟨_, ⟨_, _, _, e, _⟩, _⟩ := x; exact Heap.lt_size e
  | rng lo hi => obtain ⟨_, _, _, e⟩ := x; exact Heap.lt_size e
  | frz ob u => obtain ⟨e, _⟩ := x; exact Heap.lt_size e
  | tbl ps => exact Heap.lt_size (show h.get? a = some _ from x)
  | met f y => exact Heap.lt_size (show h.get? a = some _ from x)
  | ext φ => obtain ⟨_, ⟨_, e⟩, _⟩ := x; exact Heap.lt_size e
theorem Paired.mapP {α β : Type} {F G : α → β → Prop} : ∀ {l₁ : List α} {l₂ : List β}, Paired F l₁ l₂ → (∀ a b, F a b → G a b) → Paired G l₁ l₂
  | _, _, .nil, _ => .nil
  | _, _, .cons r t, f => .cons (f _ _ r) (Paired.mapP t f)
theorem ObjOk.stay (x : ObjOk P w H h a o) (k : ∀ b u, (b = a ∨ H b = some (.own a)) → h.get? b = some u → h'.get? b = some u)
    (ho : ∀ b, H b = some (.own a) → H' b = some (.own a)) (ht : ∀ b xs, H b = some (.tup xs) → H' b = some (.tup xs)) : ObjOk P w H' h' a o := by
  induction o with
  | lst xs => obtain ⟨z, its, n, r, e⟩ := x; exact ⟨z, its, n, r, k _ _ (.inl rfl) e⟩
  | tup xs => obtain ⟨z, its, r, ob, e, c⟩ := x; exact ⟨z, its, r, ob, k _ _ (.inl rfl) e, c⟩
  | dK kvs => obtain ⟨z, y, vs, r, ob, es, ep, e, c⟩ := x; exact ⟨z, y, vs, r, ob, es, ep, k _ _ (.inl rfl) e, c⟩
  | dT kvs =>
    obtain ⟨z, y, xs, r, ob, es, ep, e, c⟩ := x
    exact ⟨z, y, xs, Paired.mapP r fun p q z => ⟨z.1, ht _ _ z.2.1, z.2.2⟩, ob, es, ep, k _ _ (.inl rfl) e, c⟩
  | set S n => obtain ⟨ob, es, ep, t, e, c⟩ := x; exact ⟨ob, es, ep, t, k _ _ (.inl rfl) e, c⟩
  | ins C dx fs =>
    obtain ⟨d, z, ne, e, mA, ⟨od, es, ep, e2, c⟩, r⟩ := x
    exact ⟨ho _ d, z, ne, k _ _ (.inl rfl) e, mA, ⟨od, es, ep, k _ _ (.inr d) e2, c⟩, r⟩
  | own y => obtain ⟨ob, e⟩ := x; exact ⟨ob, k _ _ (.inl rfl) e⟩
  | xd fs => obtain ⟨mA, ⟨od, es, ep, e, c⟩, r⟩ := x; exact ⟨mA, ⟨od, es, ep, k _ _ (.inl rfl) e, c⟩, r⟩
  | rng lo hi => obtain ⟨t, u, v, e⟩ := x; exact ⟨t, u, v, k _ _ (.inl rfl) e⟩
  | frz ob u ih => obtain ⟨e, q⟩ := x; exact ⟨k _ _ (.inl rfl) e, ih q⟩
  | tbl ps =>
    have e : h.get? a = some { cls := .none, data := .fields ps } := x
    show h'.get? a = some { cls := .none, data := .fields ps }
    exact k a _ (.inl rfl) e
  | met f y =>
    have e : h.get? a = some (PySem.W.methodObj (.ref f) (.ref y)) := x
    show h'.get? a = some (PySem.W.methodObj (.ref f) (.ref y))
    exact k a _ (.inl rfl) e
  | ext φ => obtain ⟨p, ⟨o, e⟩, st⟩ := x; exact ⟨st _ _ p fun o q => k _ _ (.inl rfl) q, ⟨o, k _ _ (.inl rfl) e⟩, st⟩
theorem HOk.lt (x : HOk P w H h) (e : H a = some o) : a < h.objs.size := (x a o e).lt
theorem HOk.fresh (x : HOk P w H h) (e : h.objs.size ≤ a) : H a = none := by
  cases q : H a with
  | none => rfl
  | some u => exact absurd (Nat.lt_of_lt_of_le (x.lt q) e) (Nat.lt_irrefl _)
theorem HOk.kept (x : HOk P w H h) (k : ∀ b u, h.get? b = some u → h'.get? b = some u) : HOk P w H h' := fun a o e =>
  (x a o e).stay (fun b u _ q => k b u q) (fun _ q => q) fun _ _ q => q
theorem HOk.laid (x : HOk P w H h) (k : ∀ b u, h.get? b = some u → h'.get? b = some u) (hp : h.objs.size ≤ a) (new : ObjOk P w (upd H a o) h' a o) : HOk P w (upd H a o) h' := fun b u e => by
  have hn := x.fresh hp
  by_cases hb : b = a
  · subst hb; rw [upd_same] at e; cases e; exact new
  · rw [upd_ne hb] at e
    exact (x b u e).stay (fun c v _ q => k c v q) (fun c q => by rw [upd_ne (ne_of_none q hn)]; exact q) fun c xs q => by rw [upd_ne (ne_of_none q hn)]; exact q
end
def Rd (H : Hp) (a : Addr) (u : HO) : Prop := H a = some u ∨ ∃ o, H a = some (.frz o u)
theorem Rd.of {H : Hp} {a : Addr} {u : HO} (h : H a = some u) : Rd H a u := .inl h
theorem Rd.ok {P : Program} {w : World} {H : Hp} {h : Heap} {a : Addr} {u : HO} (r : Rd H a u) (x : HOk P w H h) : ObjOk P w H h a u := by
  rcases r with r | ⟨o, r⟩
  · exact x a u r
  · obtain ⟨_, q⟩ := x a _ r
    exact q
def Mut : Option HO → Prop
  | some (.lst _) => True
  | some (.dK _) => True
  | some (.dT _) => True
  | some (.set _ _) => True
  | some (.ins _ _ _) => True
  | some (.ext _) => True
  | _ => False
section
variable {P : Program} {w : World} {H : Hp} {h h' : Heap} {x e : Addr} {o' : HO}
theorem HOk.write (ok : HOk P w H h) (mu : Mut (H x)) (he : e = x ∨ H e = some (.own x)) (k : ∀ b u, b ≠ e → h.get? b = some u → h'.get? b = some u) (heo : ∃ u, h'.get? e = some u)
    (new : ObjOk P w (upd H x o') h' x o') : HOk P w (upd H x o') h' := fun b u q => by
  have nown : ∀ c y, H c = some (.own y) → c ≠ x := fun c y r z => by subst z; rw [r] at mu; exact mu
  have ntup : ∀ c xs, H c = some (.tup xs) → c ≠ x := fun c xs r z => by subst z; rw [r] at mu; exact mu
  by_cases hb : b = x
  · subst hb; rw [upd_same] at q; cases q; exact new
  · rw [upd_ne hb] at q
    by_cases hbe : b = e
    · have q' : H b = some (.own x) := by
        rcases he with z | z
        · exact absurd (hbe.trans z) hb
        · rw [hbe]; exact z
      rw [q] at q'; cases q'
      obtain ⟨v, hv⟩ := heo
      exact ⟨v, by rw [hbe]; exact hv⟩
    · refine (ok b u q).stay (fun c v hc r => k c v ?_ r) (fun c r => by rw [upd_ne (nown c b r)]; exact r) fun c xs r => by rw [upd_ne (ntup c xs r)]; exact r
      rcases hc with rfl | hc
      · exact hbe
      · rintro rfl
        rcases he with z | z
        · exact nown c b hc z
        · rw [hc] at z; cases z; exact hb rfl
end
structure Un (fs ex : List Addr) (H H' : Hp) (h h' : Heap) : Prop where
  keep : ∀ b o, h.get? b = some o → H b = none → b ∉ fs → b ∉ ex → h'.get? b = some o
  slot : ∀ b o, h.get? b = some o → H b = none → b ∈ fs → b ∉ ex → ∃ sl, h'.get? b = some { o with slots := sl }
  free : ∀ b o, h.get? b = some o → H b = none → b ∉ ex → H' b = none
  there : ∀ b o, h.get? b = some o → b ∉ ex → ∃ o', h'.get? b = some o'
  tups : ∀ b xs, H b = some (.tup xs) → H' b = some (.tup xs)
  frzs : ∀ b o u, H b = some (.frz o u) → H' b = some (.frz o u)
  tbls : ∀ b ps, H b = some (.tbl ps) → ∃ more, H' b = some (.tbl (ps ++ more))
section
variable {fs fs' ex ex' : List Addr} {H H1 H2 : Hp} {h h1 h2 h' : Heap} {a x e : Addr} {o : HO}
theorem Un.any (u : Un fs ex H H1 h h1) {b : Addr} {ob : Obj} (q : h.get? b = some ob) (n : H b = none) (hx : b ∉ ex) : ∃ sl, h1.get? b = some { ob with slots := sl } := by
  by_cases hb : b ∈ fs
  · exact u.slot b ob q n hb hx
  · exact ⟨ob.slots, u.keep b ob q n hb hx⟩
theorem Un.trans (a : Un fs ex H H1 h h1) (b : Un fs ex H1 H2 h1 h2) : Un fs ex H H2 h h2 where
  keep := fun c ob q n hc hx => b.keep c ob (a.keep c ob q n hc hx) (a.free c ob q n hx) hc hx
  slot := fun c ob q n hc hx => by
    obtain ⟨sl, e1⟩ := a.slot c ob q n hc hx
    obtain ⟨sl', e2⟩ := b.slot c _ e1 (a.free c ob q n hx) hc hx
    exact ⟨sl', e2⟩
  free := fun c ob q n hx => by
    obtain ⟨o', e1⟩ := a.there c ob q hx
    exact b.free c o' e1 (a.free c ob q n hx) hx
  there := fun c ob q hx => by
    obtain ⟨o', e1⟩ := a.there c ob q hx
    exact b.there c o' e1 hx
  tups := fun c xs q => b.tups c xs (a.tups c xs q)
  frzs := fun c ob xs q => b.frzs c ob xs (a.frzs c ob xs q)
  tbls := fun c ps q => by
    obtain ⟨m1, e1⟩ := a.tbls c ps q
    obtain ⟨m2, e2⟩ := b.tbls c _ e1
    exact ⟨m1 ++ m2, by rw [e2, Array.append_assoc]⟩
theorem Un.kept (k : ∀ b u, h.get? b = some u → h'.get? b = some u) : Un fs ex H H h h' :=
  ⟨fun b ob q _ _ _ => k b ob q, fun b ob q _ _ _ => ⟨ob.slots, k b ob q⟩, fun _ _ _ n _ => n, fun b ob q _ => ⟨ob, k b ob q⟩, fun _ _ q => q, fun _ _ _ q => q, fun _ ps q => ⟨#[], by rw [q]; simp⟩⟩
theorem Un.refl : Un fs ex H H h h := Un.kept fun _ _ q => q
theorem Un.laid (k : ∀ b u, h.get? b = some u → h'.get? b = some u) (hp : h.objs.size ≤ a) (hn : H a = none) : Un fs ex H (upd H a o) h h' where
  keep := fun b u q _ _ _ => k b u q
  slot := fun b u q _ _ _ => ⟨u.slots, k b u q⟩
  free := fun b u q n _ => by rw [upd_ne (Nat.ne_of_lt (Nat.lt_of_lt_of_le (Heap.lt_size q) hp))]; exact n
  there := fun b u q _ => ⟨u, k b u q⟩
  tups := fun b xs q => by rw [upd_ne (ne_of_none q hn)]; exact q
  frzs := fun b u xs q => by rw [upd_ne (ne_of_none q hn)]; exact q
  tbls := fun b ps q => ⟨#[], by rw [upd_ne (ne_of_none q hn), q]; simp⟩
theorem Un.write (mu : Mut (H x)) (he : e = x ∨ H e = some (.own x)) (k : ∀ b u, b ≠ e → h.get? b = some u → h'.get? b = some u) (heo : ∃ u, h'.get? e = some u) : Un fs ex H (upd H x o) h h' := by
  have hx : ∀ b, H b = none → b ≠ x := fun b n z => by subst z; rw [n] at mu; exact mu
  have hb : ∀ b, H b = none → b ≠ e := fun b n z => by
    subst z
    rcases he with r | r
    · exact hx b n r
    · rw [n] at r; cases r
  have hm : ∀ b u, H b = some u → ¬ Mut (some u) → b ≠ x := fun b u q nm z => by subst z; rw [q] at mu; exact nm mu
  refine ⟨fun b u q n _ _ => k b u (hb b n) q, fun b u q n _ _ => ⟨u.slots, k b u (hb b n) q⟩, fun b u q n _ => by rw [upd_ne (hx b n)]; exact n, fun b u q _ => ?_,
    fun b xs q => by rw [upd_ne (hm b _ q fun z => z)]; exact q, fun b u xs q => by rw [upd_ne (hm b _ q fun z => z)]; exact q, fun b ps q => ⟨#[], by rw [upd_ne (hm b _ q fun z => z), q]; simp⟩⟩
  by_cases hbe : b = e
  · subst hbe; exact heo
  · exact ⟨u, k b u hbe q⟩
theorem Un.mono (u : Un fs ex H H1 h h1) (hs : ∀ b ∈ fs, b ∈ fs') (hx : ∀ b ∈ ex, b ∈ ex') : Un fs' ex' H H1 h h1 :=
  ⟨fun b ob q n hb he => u.keep b ob q n (fun z => hb (hs b z)) fun z => he (hx b z), fun _ _ q n _ he => u.any q n fun z => he (hx _ z), fun b ob q n he => u.free b ob q n fun z => he (hx b z), fun b ob q he => u.there b ob q fun z => he (hx b z), u.tups, u.frzs, u.tbls⟩
end
def trk (h : Heap) (H : Hp) : List Addr := (List.range h.objs.size).filter fun a => (H a).isSome
def hidT (h : Heap) (H : Hp) : Heap := PySem.W.hideAll h (trk h H)
theorem hidT_size (h : Heap) (H : Hp) : (hidT h H).objs.size = h.objs.size := PySem.W.hideAll_size _ _
theorem hidT_get {h : Heap} {H : Hp} {b : Addr} {o : Obj} (e : h.get? b = some o) (n : H b = none) : (hidT h H).get? b = some o :=
  PySem.W.hideAll_get _ e fun hm => by
    have q : (H b).isSome = true := (List.mem_filter.mp hm).2
    rw [n] at q; simp at q
theorem of_hidT {h : Heap} {H : Hp} {b : Addr} {o : Obj} (e : (hidT h H).get? b = some o) : h.get? b = some o ∧ H b = none := by
  have e' : h.get? b = some o := PySem.W.of_hideAll (trk h H) e
  refine ⟨e', ?_⟩
  cases q : H b with
  | none => rfl
  | some x =>
    have hm : b ∈ trk h H := List.mem_filter.mpr ⟨List.mem_range.mpr (Heap.lt_size e'), by simp [q]⟩
    have z : (hidT h H).get? b = none := PySem.W.hideAll_none (trk h H) hm
    rw [z] at e; cases e
def allNews (g h : Heap) (L : Addr) : List (Addr × Obj) := (List.range h.objs.size).filterMap fun a => if a = L ∨ (g.get? a).isSome = true then none else (h.get? a).map fun o => (a, o)
def rest (g h : Heap) (L d : Addr) : List (Addr × Obj) := (allNews g h L).filter fun p => decide (p.1 ≠ d)
end L2
namespace L2
open PySem PySem.Spec PyProof.Rows
structure Mod (K : PySem.W.Frag) (mg : Str → Option Value) (base : Heap) : Prop where
  kin : K.In base
  glob : base.Ns mainGlobals mg
  blt : ∃ mb, base.Ns builtinsNs mb ∧ ∀ x : Str, x ≠ "__name__" → mb x = bootBuiltins x
  nolimit : base.NoLimit
structure Cx where
  prog : Program
  w : World
  K : PySem.W.Frag
  mg : Str → Option Value
  base : Heap
  A : Around
  N : List Str
  s₀ : Shared
  H₀ : Hp
  env : Env
  outer : List Env
  stack : List Env
  ex : List Addr
  fn : Str → Bool
  calm : Bool
  pn : List (Addr × Obj)
  xe : Value → Shared → Prop
def frs (l : List Env) : List Addr := l.filterMap (·.frame)
abbrev Cx.fs (X : Cx) : List Addr := frs X.outer
def Vis (sc : Scope) (x : Str) : Prop := sc.names.lookup x = some .local ∨ sc.names.lookup x = some .cell ∨ sc.names.lookup x = some .free
def Loc (sc : Scope) (x : Str) : Prop := sc.names.lookup x = some .local ∨ sc.names.lookup x = some .cell
def Look (env : Env) (h : Heap) (m : Str → Option Value) (x : Str) (u : Value) : Prop :=
  (env.kindOf x = some .local ∧ m x = some u) ∨ ((env.kindOf x = some .cell ∨ env.kindOf x = some .free) ∧ ∃ c, env.cells.lookup x = some c ∧ h.IsCell c (some u))
structure Cx.Ok (X : Cx) : Prop where
  mod : Mod X.K X.mg X.base
  kind : X.env.scope.kind = .function
  glob : X.env.globals = mainGlobals
  blt : X.env.builtins = builtinsNs
  above : X.s₀.heap.objs.size ≤ X.env.locals
  inj : ∀ x y c, X.env.cells.lookup x = some c → X.env.cells.lookup y = some c → x = y
  has : ∀ x, (X.env.kindOf x = some .cell ∨ X.env.kindOf x = some .free) → ∃ c, X.env.cells.lookup x = some c
  cab : ∀ x c, X.fn x = true → X.env.cells.lookup x = some c → X.s₀.heap.objs.size ≤ c
  hd : X.calm = true → X.A.handled = none
  frames : X.A.frames = some X.stack
  stk : X.stack = X.outer ∨ (X.stack = X.env :: X.outer ∧ X.env.frame = some X.env.locals)
  exf : ∀ b ∈ X.ex, b ≠ X.env.locals ∧ ∀ x c, X.env.cells.lookup x = some c → c ≠ b
  bs : ∀ b o, X.base.get? b = some o → X.s₀.heap.get? b = some o ∧ X.H₀ b = none
  bsz : X.base.objs.size ≤ X.s₀.heap.objs.size
  noex : ∀ b o, X.base.get? b = some o → b ∉ X.ex
  exfs : ∀ b ∈ X.ex, b ∉ X.fs
  funs : X.s₀.heap.FunFrames X.base X.outer
  frf : ∀ b ∈ X.fs, X.H₀ b = none
structure Inv (X : Cx) (pins : List (Addr × Obj)) (σ : List (Option V)) (H : Hp) (s : Shared) : Prop where
  ok : X.Ok
  os : s.os = X.s₀.os
  bare : AllBare s.gens
  base : Un X.fs X.ex X.H₀ H X.s₀.heap s.heap
  loc : ∃ m, s.heap.Ns X.env.locals m ∧ ∀ (i : Nat) (x : Str) (v : V), X.N[i]? = some x → σ[i]? = some (some v) → Vis X.env.scope x → ∃ u, RelV v u ∧ Look X.env s.heap m x u
  cell : ∀ x c, X.env.cells.lookup x = some c → ∃ v, s.heap.IsCell c v
  free : H X.env.locals = none
  freeC : ∀ x c, X.env.cells.lookup x = some c → H c = none
  pin : ∀ p ∈ X.pn ++ pins, s.heap.get? p.1 = some p.2 ∧ H p.1 = none ∧ p.1 ≠ X.env.locals ∧ p.1 ∉ X.fs ∧ ∀ v, p.2.data ≠ .cell v
  hok : HOk X.prog X.w H s.heap
  len : σ.length = X.N.length
section
variable {X : Cx} {pins : List (Addr × Obj)} {σ : List (Option V)} {H H' : Hp} {s : Shared} {h' : Heap}
theorem Cx.Ok.nofr (ok : X.Ok) {b : Addr} {o : Obj} (e : X.base.get? b = some o) : b ∉ X.fs := fun hb => by
  have := (ok.funs.mem hb).1
  rw [e] at this; cases this
theorem Inv.bs (I : Inv X pins σ H s) : ∀ b o, X.base.get? b = some o → s.heap.get? b = some o ∧ H b = none := fun b o e =>
  ⟨I.base.keep b o (I.ok.bs b o e).1 (I.ok.bs b o e).2 (I.ok.nofr e) (I.ok.noex b o e), I.base.free b o (I.ok.bs b o e).1 (I.ok.bs b o e).2 (I.ok.noex b o e)⟩
theorem Inv.bk (I : Inv X pins σ H s) : ∀ b o, X.base.get? b = some o → s.heap.get? b = some o := fun b o e => (I.bs b o e).1
theorem Inv.mod (I : Inv X pins σ H s) : Mod X.K X.mg X.base := I.ok.mod
theorem Inv.kIn (I : Inv X pins σ H s) : X.K.In s.heap := I.ok.mod.kin.keeps I.bk
theorem Inv.nolimit (I : Inv X pins σ H s) : s.heap.NoLimit := I.ok.mod.nolimit.keeps I.bk
theorem Inv.lt (I : Inv X pins σ H s) : X.env.locals < s.heap.objs.size := let ⟨_, hn, _⟩ := I.loc; hn.lt
theorem Inv.sz (I : Inv X pins σ H s) : X.s₀.heap.objs.size ≤ s.heap.objs.size := Nat.le_trans I.ok.above (Nat.le_of_lt I.lt)
theorem Inv.nofs (I : Inv X pins σ H s) {a : Addr} (h : s.heap.objs.size ≤ a) : a ∉ X.fs := fun hb => by
  obtain ⟨_, o, ho, _⟩ := I.ok.funs.mem hb
  exact absurd (Nat.lt_of_lt_of_le (Heap.lt_size ho) (Nat.le_trans I.sz h)) (Nat.lt_irrefl _)
theorem Inv.cne (I : Inv X pins σ H s) : ∀ x c, X.env.cells.lookup x = some c → c ≠ X.env.locals := fun x c e z => by
  obtain ⟨v, o, ho, hd⟩ := I.cell x c e
  obtain ⟨m, ⟨o', es, ep, ho', hd', _⟩, _⟩ := I.loc
  rw [z, ho'] at ho; cases ho; rw [hd'] at hd; cases hd
theorem Inv.funs (I : Inv X pins σ H s) : s.heap.FunFrames X.base X.outer := by
  have all : ∀ (l : List Env), (∀ b ∈ frs l, b ∈ X.fs) → X.s₀.heap.FunFrames X.base l → s.heap.FunFrames X.base l := by
    intro l
    induction l with
    | nil => intro _ _; trivial
    | cons env r ih =>
      intro hs hl
      obtain ⟨hk, ⟨L, o, hf, hn, ho, hd⟩, hr⟩ := hl
      have hL : L ∈ X.fs := hs L (by unfold frs; rw [List.filterMap_cons, hf]; exact List.mem_cons_self)
      obtain ⟨sl, e⟩ := I.base.slot L o ho (I.ok.frf L hL) hL fun z => I.ok.exfs L z hL
      exact ⟨hk, ⟨L, _, hf, hn, e, hd⟩, ih (fun b hb => hs b (by unfold frs; rw [List.filterMap_cons, hf]; exact List.mem_cons_of_mem _ hb)) hr⟩
  exact all X.outer (fun _ hb => hb) I.ok.funs
theorem Inv.stack (I : Inv X pins σ H s) : s.heap.FunFrames X.base X.stack := by
  rcases I.ok.stk with e | ⟨e, hf⟩
  · rw [e]; exact I.funs
  · rw [e]
    obtain ⟨m, hn, _⟩ := I.loc
    refine .cons (by rw [I.ok.kind]; decide) hf hn ?_ I.funs
    exact Heap.get?_none_of_le (Nat.le_trans I.ok.bsz I.ok.above)
theorem Inv.stkSub (I : Inv X pins σ H s) : ∀ b ∈ frs X.stack, b ∈ X.env.locals :: X.fs := fun b hb => by
  rcases I.ok.stk with e | ⟨e, hf⟩
  · rw [e] at hb; exact List.mem_cons_of_mem _ hb
  · rw [e] at hb
    unfold frs at hb
    rw [List.filterMap_cons, hf] at hb
    exact hb
theorem Inv.stkFree (I : Inv X pins σ H s) : ∀ b ∈ frs X.stack, H b = none := fun b hb => by
  rcases List.mem_cons.mp (I.stkSub b hb) with e | hb
  · rw [e]; exact I.free
  · obtain ⟨_, o, ho, _⟩ := I.ok.funs.mem hb
    exact I.base.free b o ho (I.ok.frf b hb) fun z => I.ok.exfs b z hb
theorem Inv.step {g' : Array GenState} {t' : Nat} {d' : Drawn} {ch : List Addr} (I : Inv X pins σ H s)
    (hch : ∀ b ∈ ch, (b ∈ X.ex ∨ X.s₀.heap.objs.size ≤ b) ∧ b ≠ X.env.locals ∧ (∀ x c, X.env.cells.lookup x = some c → c ≠ b) ∧ ∀ p ∈ X.pn ++ pins, p.1 ≠ b)
    (keep : ∀ b o, b ≠ X.env.locals → b ∉ X.fs → b ∉ ch → s.heap.get? b = some o → H b = none → h'.get? b = some o)
    (slot : ∀ b o, b ≠ X.env.locals → b ∈ X.fs → b ∉ ch → s.heap.get? b = some o → H b = none → ∃ sl, h'.get? b = some { o with slots := sl }) (free : ∀ b o, b ∉ ch → s.heap.get? b = some o → H b = none → H' b = none)
    (there : ∀ b o, b ∉ ch → s.heap.get? b = some o → ∃ o', h'.get? b = some o')
    (tups : ∀ b xs, H b = some (.tup xs) → H' b = some (.tup xs)) (frzs : ∀ b o u, H b = some (.frz o u) → H' b = some (.frz o u)) (tbls : ∀ b ps, H b = some (.tbl ps) → ∃ more, H' b = some (.tbl (ps ++ more)))
    (ns : ∀ m, s.heap.Ns X.env.locals m → h'.Ns X.env.locals m) (hok : HOk X.prog X.w H' h') (hg : AllBare g') :
    Inv X pins σ H' { s with heap := h', gens := g', drawn := d', toks := t' } := by
  have neL : ∀ b o, X.s₀.heap.get? b = some o → b ≠ X.env.locals := fun b o e => Nat.ne_of_lt (Nat.lt_of_lt_of_le (Heap.lt_size e) I.ok.above)
  have neC : ∀ b o, X.s₀.heap.get? b = some o → b ∉ X.ex → b ∉ ch := fun b o e hx hb => by
    rcases (hch b hb).1 with z | z
    · exact hx z
    · exact absurd (Nat.lt_of_lt_of_le (Heap.lt_size e) z) (Nat.lt_irrefl _)
  have cellK : ∀ x c, X.env.cells.lookup x = some c → ∀ v, s.heap.IsCell c v → h'.IsCell c v := fun x c e v ⟨o, ho, hd⟩ => by
    have nch : c ∉ ch := fun z => (hch c z).2.2.1 x c e rfl
    by_cases hc : c ∈ X.fs
    · obtain ⟨sl, q⟩ := slot c o (I.cne x c e) hc nch ho (I.freeC x c e)
      exact ⟨_, q, hd⟩
    · exact ⟨o, keep c o (I.cne x c e) hc nch ho (I.freeC x c e), hd⟩
  refine ⟨I.ok, I.os, hg, ⟨fun b o e n hb hx => ?_, fun b o e n hb hx => ?_, fun b o e n hx => ?_, fun b o e hx => ?_, fun b xs e => tups b xs (I.base.tups b xs e), fun b o xs e => frzs b o xs (I.base.frzs b o xs e), fun b ps e => ?_⟩, ?_, fun x c e => ?_, ?_, fun x c e => ?_, fun p hp => ?_, hok, I.len⟩
  · exact keep b o (neL b o e) hb (neC b o e hx) (I.base.keep b o e n hb hx) (I.base.free b o e n hx)
  · obtain ⟨sl, e1⟩ := I.base.slot b o e n hb hx
    obtain ⟨sl', e2⟩ := slot b _ (neL b o e) hb (neC b o e hx) e1 (I.base.free b o e n hx)
    exact ⟨sl', e2⟩
  · obtain ⟨o', e1⟩ := I.base.there b o e hx
    exact free b o' (neC b o e hx) e1 (I.base.free b o e n hx)
  · obtain ⟨o', e1⟩ := I.base.there b o e hx
    exact there b o' (neC b o e hx) e1
  · obtain ⟨m1, e1⟩ := I.base.tbls b ps e
    obtain ⟨m2, e2⟩ := tbls b _ e1
    exact ⟨m1 ++ m2, by rw [e2, Array.append_assoc]⟩
  · obtain ⟨m, hn, hl⟩ := I.loc
    refine ⟨m, ns m hn, fun i x v e1 e2 e3 => ?_⟩
    obtain ⟨u, r, l⟩ := hl i x v e1 e2 e3
    refine ⟨u, r, ?_⟩
    rcases l with l | ⟨k, c, e, z⟩
    · exact .inl l
    · exact .inr ⟨k, c, e, cellK x c e _ z⟩
  · obtain ⟨v, z⟩ := I.cell x c e
    exact ⟨v, cellK x c e v z⟩
  · obtain ⟨m, ⟨o, _, _, ho, _⟩, _⟩ := I.loc
    exact free _ o (fun z => (hch _ z).2.1 rfl) ho I.free
  · obtain ⟨v, o, ho, hd⟩ := I.cell x c e
    exact free c o (fun z => (hch c z).2.2.1 x c e rfl) ho (I.freeC x c e)
  · obtain ⟨e, n, ne, nf, d⟩ := I.pin p hp
    have nch : p.1 ∉ ch := fun z => (hch p.1 z).2.2.2 p hp rfl
    exact ⟨keep p.1 p.2 ne nf nch e n, free p.1 p.2 nch e n, ne, nf, d⟩
theorem Inv.un {t' : Nat} (I : Inv X pins σ H s) (u : Un X.fs [] H H' s.heap h') (hok : HOk X.prog X.w H' h') : Inv X pins σ H' { s with heap := h', toks := t' } := by
  obtain ⟨m, ⟨o, es, ep, ho, r⟩, _⟩ := id I.loc
  obtain ⟨sl, hL⟩ := u.any ho I.free (by simp)
  exact I.step (g' := s.gens) (d' := s.drawn) (ch := []) (fun _ z => nomatch z) (fun b o _ hb _ e n => u.keep b o e n hb (by simp)) (fun b o _ hb _ e n => u.slot b o e n hb (by simp)) (fun b o _ e n => u.free b o e n (by simp)) (fun b o _ e => u.there b o e (by simp)) u.tups u.frzs u.tbls (fun m' hm => by
    obtain ⟨o', es', ep', ho', r'⟩ := hm
    rw [ho] at ho'; cases ho'
    exact ⟨_, es', ep', hL, r'⟩) hok I.bare
theorem Inv.call {g' : Array GenState} {t' : Nat} {d' : Drawn} {ch : List Addr} (I : Inv X pins σ H s) (u : Un (frs X.stack) ch H H' s.heap h') (hok : HOk X.prog X.w H' h') (hg : AllBare g')
    (hch : ∀ b ∈ ch, (b ∈ X.ex ∨ X.s₀.heap.objs.size ≤ b) ∧ b ≠ X.env.locals ∧ (∀ x c, X.env.cells.lookup x = some c → c ≠ b) ∧ ∀ p ∈ X.pn ++ pins, p.1 ≠ b) :
    Inv X pins σ H' { s with heap := h', gens := g', drawn := d', toks := t' } := by
  obtain ⟨m, ⟨o, es, ep, ho, r⟩, _⟩ := id I.loc
  obtain ⟨sl, hL⟩ := u.any ho I.free fun z => (hch _ z).2.1 rfl
  exact I.step (ch := ch) hch (fun b o hL hb hc e n => u.keep b o e n (fun z => (List.mem_cons.mp (I.stkSub b z)).elim hL hb) hc) (fun b o _ _ hc e n => u.any e n hc) (fun b o hc e n => u.free b o e n hc) (fun b o hc e => u.there b o e hc) u.tups u.frzs u.tbls (fun m' hm => by
    obtain ⟨o', es', ep', ho', r'⟩ := hm
    rw [ho] at ho'; cases ho'
    exact ⟨_, es', ep', hL, r'⟩) hok hg
theorem Inv.turned {t' : Nat} {it : Addr} (I : Inv X pins σ H s) (k : ∀ b o, b ≠ it → s.heap.get? b = some o → h'.get? b = some o) (hn : H it = none) (hL : it ≠ X.env.locals)
    (h1 : it ∈ X.ex ∨ X.s₀.heap.objs.size ≤ it) (h2 : ∀ x c, X.env.cells.lookup x = some c → c ≠ it) (h3 : ∀ p ∈ X.pn ++ pins, p.1 ≠ it) : Inv X pins σ H { s with heap := h', toks := t' } := by
  have nit : ∀ b u, H b = some u → b ≠ it := fun b u e z => by rw [z, hn] at e; cases e
  refine I.step (g' := s.gens) (d' := s.drawn) (ch := [it]) (fun b hb => ?_) (fun b o _ _ hc e _ => k b o (fun z => hc (by simp [z])) e) (fun b o _ _ hc e _ => ⟨o.slots, k b o (fun z => hc (by simp [z])) e⟩) (fun _ _ _ _ n => n)
    (fun b o hc e => ⟨o, k b o (fun z => hc (by simp [z])) e⟩) (fun _ _ e => e) (fun _ _ _ e => e) (fun b ps e => ⟨#[], by rw [e]; simp⟩) (fun m hm => ?_) (fun b u e => ?_) I.bare
  · have e : b = it := by simpa using hb
    subst e
    exact ⟨h1, hL, h2, h3⟩
  · obtain ⟨o, es, ep, ho, r⟩ := hm
    exact ⟨o, es, ep, k _ o (Ne.symm hL) ho, r⟩
  · refine (I.hok b u e).stay (fun c v hc q => k c v ?_ q) (fun _ q => q) fun _ _ q => q
    rcases hc with z | z
    · rw [z]; exact nit b u e
    · exact nit c _ z
theorem Inv.tok (I : Inv X pins σ H s) (t : Nat) : Inv X pins σ H { s with toks := t } := I.un (h' := s.heap) (t' := t) Un.refl I.hok
theorem Inv.kept {t' : Nat} (I : Inv X pins σ H s) (k : ∀ b u, s.heap.get? b = some u → h'.get? b = some u) : Inv X pins σ H { s with heap := h', toks := t' } := I.un (Un.kept k) (I.hok.kept k)
theorem Inv.laid {a : Addr} {o : HO} {t' : Nat} (I : Inv X pins σ H s) (k : ∀ b u, s.heap.get? b = some u → h'.get? b = some u) (hp : s.heap.objs.size ≤ a) (new : ObjOk X.prog X.w (upd H a o) h' a o) :
    Inv X pins σ (upd H a o) { s with heap := h', toks := t' } := I.un (Un.laid k hp (I.hok.fresh hp)) (I.hok.laid k hp new)
theorem Inv.write {x e : Addr} {o : HO} {t' : Nat} (I : Inv X pins σ H s) (mu : Mut (H x)) (he : e = x ∨ H e = some (.own x)) (k : ∀ b u, b ≠ e → s.heap.get? b = some u → h'.get? b = some u) (heo : ∃ u, h'.get? e = some u)
    (new : ObjOk X.prog X.w (upd H x o) h' x o) : Inv X pins σ (upd H x o) { s with heap := h', toks := t' } := I.un (Un.write mu he k heo) (I.hok.write mu he k heo new)
theorem Inv.pins_of {pins' : List (Addr × Obj)} (I : Inv X pins σ H s) (h : ∀ p ∈ pins', s.heap.get? p.1 = some p.2 ∧ H p.1 = none ∧ p.1 ≠ X.env.locals ∧ p.1 ∉ X.fs ∧ ∀ v, p.2.data ≠ .cell v) : Inv X pins' σ H s :=
  ⟨I.ok, I.os, I.bare, I.base, I.loc, I.cell, I.free, I.freeC, fun p hp => (List.mem_append.mp hp).elim (fun z => I.pin p (List.mem_append_left _ z)) (h p), I.hok, I.len⟩
theorem nodup_ix {N : List Str} (hN : N.Nodup) {i j : Nat} {x : Str} (a : N[i]? = some x) (b : N[j]? = some x) : i = j := by
  obtain ⟨h1, e1⟩ := List.getElem?_eq_some_iff.mp a
  obtain ⟨h2, e2⟩ := List.getElem?_eq_some_iff.mp b
  exact (List.getElem_inj hN).mp (e1.trans e2.symm)
theorem store_ok2 {M : Model} {A : Around} {E : Value → Shared → Prop} {i : Nat} {x : Str} {v : V} {u : Value} {Q : Unit → Shared → Prop} (I : Inv X pins σ H s) (hN : X.N.Nodup) (hi : X.N[i]? = some x) (hx : Loc X.env.scope x) (r : RelV v u)
    (h : ∀ s', Inv X pins (σ.set i (some v)) H s' → (∃ a, Heap.SameBut a s.heap s'.heap ∧ (a = X.env.locals ∨ X.env.cells.lookup x = some a)) → Q () s') (hf : X.fn x = true ∨ X.env.scope.names.lookup x = some .local := by first | exact .inl rfl | exact .inr rfl | assumption) : wpAny M A (storeName X.env x u) Q E s := by
  obtain ⟨m, hn, hl⟩ := id I.loc
  have hcls : (X.env.scope.kind == .class || (X.env.scope.kind == .module && X.env.locals != X.env.globals)) = false := by rw [I.ok.kind]; rfl
  have hiσ : i < σ.length := by rw [I.len]; exact (List.getElem?_eq_some_iff.mp hi).1
  have cne := I.cne
  have tracked : ∀ {a : Addr} {h' : Heap}, (∃ o, s.heap.get? a = some o ∧ H a = none) → Heap.SameBut a s.heap h' → HOk X.prog X.w H h' := fun {a h'} ha hs b ob e => by
    obtain ⟨_, _, hfree⟩ := ha
    refine (I.hok b ob e).stay (fun c w' hc q => (hs.2 c ?_).trans q) (fun _ q => q) fun _ _ q => q
    rintro rfl
    rcases hc with rfl | hc
    · rw [hfree] at e; cases e
    · rw [hfree] at hc; cases hc
  rcases hx with hk | hk
  · refine wpAny_storeName_local hk hn (fun h' hn' hs => ?_) hcls
    obtain ⟨oL, _, _, hoL, _⟩ := id hn
    refine h _ ⟨I.ok, I.os, I.bare, ⟨fun b o e n hb hx => ?_, fun b o e n hb hx => ?_, I.base.free, fun b o e hx => ?_, I.base.tups, I.base.frzs, I.base.tbls⟩, ⟨_, hn', fun j y v' e1 e2 e3 => ?_⟩, fun y c e => ?_, I.free, I.freeC, fun p hp => ?_, tracked ⟨oL, hoL, I.free⟩ hs, by simpa using I.len⟩ ⟨_, hs, .inl rfl⟩
    · exact (hs.2 b (Nat.ne_of_lt (Nat.lt_of_lt_of_le (Heap.lt_size e) I.ok.above))).trans (I.base.keep b o e n hb hx)
    · obtain ⟨sl, e1⟩ := I.base.slot b o e n hb hx
      exact ⟨sl, (hs.2 b (Nat.ne_of_lt (Nat.lt_of_lt_of_le (Heap.lt_size e) I.ok.above))).trans e1⟩
    · obtain ⟨o', e1⟩ := I.base.there b o e hx
      exact ⟨o', (hs.2 b (Nat.ne_of_lt (Nat.lt_of_lt_of_le (Heap.lt_size e) I.ok.above))).trans e1⟩
    · by_cases hj : j = i
      · subst hj
        rw [hi] at e1; cases e1
        rw [List.getElem?_set_self hiσ] at e2
        cases e2
        exact ⟨u, r, .inl ⟨hk, by simp⟩⟩
      · rw [List.getElem?_set_ne (Ne.symm hj)] at e2
        obtain ⟨u', r', q⟩ := hl j y v' e1 e2 e3
        refine ⟨u', r', ?_⟩
        rcases q with ⟨k, e⟩ | ⟨k, c, e, z⟩
        · refine .inl ⟨k, ?_⟩
          have : y ≠ x := fun e => hj (nodup_ix hN e1 (e ▸ hi))
          simp [this, e]
        · exact .inr ⟨k, c, e, z.sameBut hs (cne y c e)⟩
    · obtain ⟨w', z⟩ := I.cell y c e
      exact ⟨w', z.sameBut hs (cne y c e)⟩
    · obtain ⟨e, n, ne, nf, d⟩ := I.pin p hp
      exact ⟨(hs.2 p.1 ne).trans e, n, ne, nf, d⟩
  · have hfn : X.fn x = true := by
      rcases hf with z | z
      · exact z
      · rw [z] at hk; cases hk
    obtain ⟨c, hc⟩ := I.ok.has x (.inl hk)
    obtain ⟨w', z⟩ := I.cell x c hc
    refine wpAny_storeName_cell I.ok.kind hk hc z (fun h' hc' hs => ?_)
    obtain ⟨oc, hoc, hocd⟩ := id z
    refine h { s with heap := h' } ⟨I.ok, I.os, I.bare, ⟨fun b o e n hb hx => ?_, fun b o e n hb hx => ?_, I.base.free, fun b o e hx => ?_, I.base.tups, I.base.frzs, I.base.tbls⟩, ⟨m, hn.sameBut hs (Ne.symm (cne x c hc)), fun j y v' e1 e2 e3 => ?_⟩, fun y c' e => ?_, I.free, I.freeC, fun p hp => ?_, tracked ⟨oc, hoc, I.freeC x c hc⟩ hs, by simpa using I.len⟩ ⟨c, hs, .inr hc⟩
    · exact (hs.2 b (Nat.ne_of_lt (Nat.lt_of_lt_of_le (Heap.lt_size e) (I.ok.cab x c hfn hc)))).trans (I.base.keep b o e n hb hx)
    · obtain ⟨sl, e1⟩ := I.base.slot b o e n hb hx
      exact ⟨sl, (hs.2 b (Nat.ne_of_lt (Nat.lt_of_lt_of_le (Heap.lt_size e) (I.ok.cab x c hfn hc)))).trans e1⟩
    · obtain ⟨o', e1⟩ := I.base.there b o e hx
      exact ⟨o', (hs.2 b (Nat.ne_of_lt (Nat.lt_of_lt_of_le (Heap.lt_size e) (I.ok.cab x c hfn hc)))).trans e1⟩
    · by_cases hj : j = i
      · subst hj
        rw [hi] at e1; cases e1
        rw [List.getElem?_set_self hiσ] at e2
        cases e2
        exact ⟨u, r, .inr ⟨.inl hk, c, hc, hc'⟩⟩
      · rw [List.getElem?_set_ne (Ne.symm hj)] at e2
        obtain ⟨u', r', q⟩ := hl j y v' e1 e2 e3
        refine ⟨u', r', ?_⟩
        rcases q with q | ⟨k, c', e, z'⟩
        · exact .inl q
        · refine .inr ⟨k, c', e, z'.sameBut hs ?_⟩
          rintro rfl
          exact hj (nodup_ix hN e1 (I.ok.inj _ _ _ e hc ▸ hi))
    · by_cases hcc : c' = c
      · subst hcc; exact ⟨_, hc'⟩
      · obtain ⟨w2, z2⟩ := I.cell y c' e
        exact ⟨w2, z2.sameBut hs hcc⟩
    · obtain ⟨e, n, ne, nf, d⟩ := I.pin p hp
      refine ⟨(hs.2 p.1 ?_).trans e, n, ne, nf, d⟩
      intro q
      rw [q, hoc] at e
      have q' : oc = p.2 := Option.some.inj e
      exact d w' (by rw [← q']; exact hocd)
theorem store_ok {M : Model} {A : Around} {E : Value → Shared → Prop} {i : Nat} {x : Str} {v : V} {u : Value} {Q : Unit → Shared → Prop} (I : Inv X pins σ H s) (hN : X.N.Nodup) (hi : X.N[i]? = some x) (hx : Loc X.env.scope x) (r : RelV v u)
    (h : ∀ s', Inv X pins (σ.set i (some v)) H s' → Q () s') (hf : X.fn x = true ∨ X.env.scope.names.lookup x = some .local := by first | exact .inl rfl | exact .inr rfl | assumption) : wpAny M A (storeName X.env x u) Q E s :=
  store_ok2 I hN hi hx r (fun s' I' _ => h s' I') hf
theorem Inv.call' {s' : Shared} {ch : List Addr} (I : Inv X pins σ H s) (ho : s'.os = s.os) (u : Un (frs X.stack) ch H H' s.heap s'.heap) (hok : HOk X.prog X.w H' s'.heap) (hg : AllBare s'.gens)
    (hch : ∀ b ∈ ch, (b ∈ X.ex ∨ X.s₀.heap.objs.size ≤ b) ∧ b ≠ X.env.locals ∧ (∀ x c, X.env.cells.lookup x = some c → c ≠ b) ∧ ∀ p ∈ X.pn ++ pins, p.1 ≠ b) : Inv X pins σ H' s' := by
  obtain ⟨h', g', d', t', o'⟩ := s'
  have e : o' = s.os := ho
  subst e
  exact I.call (g' := g') (t' := t') (d' := d') u hok hg hch
end
abbrev XK := Value → Option Addr → Hp → Prop
abbrev St := List (Option V)
abbrev VK := V → Hp → Prop
abbrev TE := St → Hp → VK → Prop
abbrev TT := St → Hp → (Bool → Hp → Prop) → Prop
abbrev TA := St → Hp → (List V → Hp → Prop) → Prop
structure Ends where
  nx : St → Hp → Prop
  rt : VK
  bk : St → Hp → Prop := fun _ _ => False
  ct : St → Hp → Prop := fun _ _ => False
abbrev TS := Ends → St → Hp → Prop
def EP (X : Cx) (pins : List (Addr × Obj)) (σ : St) (Q : VK) (u : Value) (s' : Shared) : Prop := ∃ v H', Inv X pins σ H' s' ∧ RelV v u ∧ Q v H'
def TP (X : Cx) (pins : List (Addr × Obj)) (σ : St) (Q : Bool → Hp → Prop) (b : Bool) (s' : Shared) : Prop := ∃ H', Inv X pins σ H' s' ∧ Q b H'
def AP (X : Cx) (pins : List (Addr × Obj)) (σ : St) (Q : List V → Hp → Prop) (us : List Value) (s' : Shared) : Prop := ∃ vs H', Inv X pins σ H' s' ∧ Vals vs us ∧ Q vs H'
def SP (X : Cx) (pins : List (Addr × Obj)) (D : Ends) (f : Flow) (s' : Shared) : Prop :=
  match f with
  | .next => ∃ σ' H', Inv X pins σ' H' s' ∧ D.nx σ' H'
  | .brk => ∃ σ' H', Inv X pins σ' H' s' ∧ D.bk σ' H'
  | .cont => ∃ σ' H', Inv X pins σ' H' s' ∧ D.ct σ' H'
  | .ret u => ∃ v σ' H', Inv X pins σ' H' s' ∧ RelV v u ∧ D.rt v H'
def PE (X : Cx) (e : Expr) (t : TE) : Prop :=
  ∀ (pins : List (Addr × Obj)) (s : Shared) (σ : St) (H : Hp) (Q : VK), Inv X pins σ H s → t σ H Q → wpAny (model X.prog X.w) X.A (eval e X.env) (EP X pins σ Q) X.xe s
def PT (X : Cx) (e : Expr) (t : TT) : Prop :=
  ∀ (pins : List (Addr × Obj)) (s : Shared) (σ : St) (H : Hp) (Q : Bool → Hp → Prop), Inv X pins σ H s → t σ H Q → wpAny (model X.prog X.w) X.A (isTrue e X.env (eval e X.env)) (TP X pins σ Q) X.xe s
def PW (X : Cx) (e : Expr) (t : TT) : Prop :=
  ∀ (whole : Sem Value) (pins : List (Addr × Obj)) (s : Shared) (σ : St) (H : Hp) (Q : Bool → Hp → Prop), Inv X pins σ H s → t σ H Q → wpAny (model X.prog X.w) X.A (isTrue e X.env whole) (TP X pins σ Q) X.xe s
theorem PW.pt {X : Cx} {e : Expr} {t : TT} (h : PW X e t) : PT X e t := h _
def PA (X : Cx) (es : List Expr) (t : TA) : Prop :=
  ∀ (pos : Pos) (pins : List (Addr × Obj)) (s : Shared) (σ : St) (H : Hp) (Q : List V → Hp → Prop), Inv X pins σ H s → t σ H Q → wpAny (model X.prog X.w) X.A (spliced (backTo pos (starEach es X.env))) (AP X pins σ Q) X.xe s
def PS (X : Cx) (st : Stmt) (t : TS) : Prop :=
  ∀ (pins : List (Addr × Obj)) (s : Shared) (σ : St) (H : Hp) (D : Ends), Inv X pins σ H s → t D σ H → wpAny (model X.prog X.w) X.A (exec st X.env) (SP X pins D) X.xe s
def PSs (X : Cx) (st : List Stmt) (t : TS) : Prop :=
  ∀ (pins : List (Addr × Obj)) (s : Shared) (σ : St) (H : Hp) (D : Ends), Inv X pins σ H s → t D σ H → wpAny (model X.prog X.w) X.A (execs st X.env) (SP X pins D) X.xe s
theorem thn {α : Type} {t : Sem α} {Q Q' : α → Shared → Prop} {M : Model} {A : Around} {E : Value → Shared → Prop} {s : Shared} (h : wpAny M A t Q E s) (hQ : ∀ a s, Q a s → Q' a s) : wpAny M A t Q' E s := wpAny_mono h hQ fun _ _ x => x
end L2
namespace L2
open PySem PySem.Spec PyProof.Rows
section
variable {X : Cx}
def tVar (i : Nat) : TE := fun σ H Q => ∃ v, σ[i]? = some (some v) ∧ Q v H
def tC (v : V) : TE := fun _ H Q => Q v H
theorem pe_var {i : Nat} {x : Str} {pos : Pos} (hN : X.N[i]? = some x) (hv : Vis X.env.scope x) (hd : (x == ("__debug__" : Str)) = false := by decide) (hcd : (x == ("__classdict__" : Str)) = false := by decide) : PE X (.Name x pos) (tVar i) := by
  intro pins s σ H Q I h
  obtain ⟨v, e, h⟩ := h
  obtain ⟨m, hn, hl⟩ := I.loc
  obtain ⟨u, r, l⟩ := hl i x v hN e hv
  have fin : EP X pins σ Q u s := ⟨v, H, I, r, h⟩
  rcases l with ⟨hk, hm⟩ | ⟨hk, c, hc, hcell⟩
  · exact wpAny_Name (wpAny_loadName_local I.ok.kind hk hn hm fin) hd
  · rcases hk with hk | hk
    · exact wpAny_Name (wpAny_loadName_cell I.ok.kind hk hc hcell fin) hd
    · exact wpAny_Name (wpAny_loadName_free I.ok.kind hk hc hcell fin hcd) hd
theorem pe_int {i j pos} : PE X (.Constant (.int i) j pos) (tC (.int i)) := fun _ _ _ H _ I h => wpAny_Constant_int ⟨.int i, H, I.tok _, ⟨_, rfl⟩, h⟩
theorem pe_bl {b j pos} : PE X (.Constant (.bool b) j pos) (tC (.bl b)) := fun _ _ _ H _ I h => Constant_bool ⟨.bl b, H, I, rfl, h⟩
theorem pe_non {j pos} : PE X (.Constant .none j pos) (tC .non) := fun _ _ _ H _ I h => Constant_none ⟨.non, H, I, rfl, h⟩
theorem pe_str {x j pos} : PE X (.Constant (.str x) j pos) (tC (.str x)) := fun _ _ _ H _ I h => Calls.Constant_str ⟨.str x, H, I.tok _, ⟨_, rfl⟩, h⟩
def Gl (X : Cx) (x : Str) : Prop := X.env.kindOf x = some .globalImplicit
theorem ld_glob {E : Value → Shared → Prop} {pins : List (Addr × Obj)} {s : Shared} {σ : St} {H : Hp} {x : Str} {u : Value} {pos : Pos} {Q : Value → Shared → Prop} (I : Inv X pins σ H s) (hg : Gl X x) (hm : X.mg x = some u) (h : Q u s)
    (hd : (x == ("__debug__" : Str)) = false := by decide) : wpAny (model X.prog X.w) X.A (eval (.Name x pos) X.env) Q E s :=
  Calls.Name_function_global I.ok.kind hg (Calls.loadGlobal_global (by rw [I.ok.glob]; exact I.mod.glob.keeps I.bk) hm h) hd
theorem ld_blt {E : Value → Shared → Prop} {pins : List (Addr × Obj)} {s : Shared} {σ : St} {H : Hp} {x : Str} {u : Value} {pos : Pos} {Q : Value → Shared → Prop} (I : Inv X pins σ H s) (hg : Gl X x) (hm : X.mg x = none) (hv : bootBuiltins x = some u) (h : Q u s)
    (hn : x ≠ "__name__" := by decide) (hd : (x == ("__debug__" : Str)) = false := by decide) : wpAny (model X.prog X.w) X.A (eval (.Name x pos) X.env) Q E s := by
  obtain ⟨mb, h1, h2⟩ := I.mod.blt
  exact Calls.Name_function_global I.ok.kind hg (Calls.loadGlobal_builtin (by rw [I.ok.glob]; exact I.mod.glob.keeps I.bk) hm (by rw [I.ok.blt]; exact h1.keeps I.bk) ((h2 x hn).trans hv) h) hd
theorem pe_glob {x : Str} {v : V} {u : Value} {pos : Pos} (hg : Gl X x) (hm : X.mg x = some u) (r : RelV v u) (hd : (x == ("__debug__" : Str)) = false := by decide) : PE X (.Name x pos) (tC v) :=
  fun _ _ _ H _ I h => ld_glob I hg hm ⟨v, H, I, r, h⟩ hd
theorem pe_bltn {x : Str} {v : V} {u : Value} {pos : Pos} (hg : Gl X x) (hm : X.mg x = none) (hv : bootBuiltins x = some u) (r : RelV v u) (hn : x ≠ "__name__" := by decide) (hd : (x == ("__debug__" : Str)) = false := by decide) : PE X (.Name x pos) (tC v) :=
  fun _ _ _ H _ I h => ld_blt I hg hm hv ⟨v, H, I, r, h⟩ hn hd
variable {a b : Expr} {ta tb : TE} {pos : Pos}
variable {tA tB' : TT} {rest : List Expr}
def tAnd (t u : TT) : TT := fun σ H Q => t σ H fun c H1 => if c = true then u σ H1 Q else Q false H1
def tOr (t u : TT) : TT := fun σ H Q => t σ H fun c H1 => if c = true then Q true H1 else u σ H1 Q
def tNot (t : TT) : TT := fun σ H Q => t σ H fun c H1 => Q (!c) H1
theorem pw_and1 (ha : PT X a tA) : PW X (.BoolOp .And [a] pos) tA := by
  intro wh pins s σ H Q I h
  refine isTrue_and (thn (ha pins s σ H Q I h) fun c s1 e => ?_)
  cases c with
  | true => exact isTrue_and_nil e
  | false => exact e
theorem pw_or1 (ha : PT X a tA) : PW X (.BoolOp .Or [a] pos) tA := by
  intro wh pins s σ H Q I h
  refine isTrue_or (thn (ha pins s σ H Q I h) fun c s1 e => ?_)
  cases c with
  | false => exact isTrue_or_nil e
  | true => exact e
theorem pw_and (ha : PT X a tA) (hb : PW X (.BoolOp .And (b :: rest) pos) tB') : PW X (.BoolOp .And (a :: b :: rest) pos) (tAnd tA tB') := by
  intro wh pins s σ H Q I h
  refine isTrue_and (thn (ha pins s σ H _ I h) fun c s1 ⟨H1, I1, q1⟩ => ?_)
  cases c with
  | true => exact hb wh pins s1 σ H1 Q I1 q1
  | false => exact ⟨H1, I1, q1⟩
theorem pw_or (ha : PT X a tA) (hb : PW X (.BoolOp .Or (b :: rest) pos) tB') : PW X (.BoolOp .Or (a :: b :: rest) pos) (tOr tA tB') := by
  intro wh pins s σ H Q I h
  refine isTrue_or (thn (ha pins s σ H _ I h) fun c s1 ⟨H1, I1, q1⟩ => ?_)
  cases c with
  | true => exact ⟨H1, I1, q1⟩
  | false => exact hb wh pins s1 σ H1 Q I1 q1
theorem pt_not (ha : PT X a tA) : PT X (.UnaryOp .Not a pos) (tNot tA) := by
  intro pins s σ H Q I h
  exact isTrue_not (ha pins s σ H (fun c H1 => Q (!c) H1) I h)
def tAndV (ta tb : TE) : TE := fun σ H Q => ta σ H fun x H1 => ∃ c, x = .bl c ∧ if c = true then tb σ H1 Q else Q (.bl false) H1
def tOrV (ta tb : TE) : TE := fun σ H Q => ta σ H fun x H1 => ∃ c, x = .bl c ∧ if c = true then Q (.bl true) H1 else tb σ H1 Q
theorem pe_one {op} {t : TE} (h : PE X a t) : PE X (.BoolOp op [a] pos) t := fun pins s σ H Q I hw => BoolOp_one (h pins s σ H Q I hw)
theorem pe_and (ha : PE X a ta) (hb : PE X (.BoolOp .And (b :: rest) pos) tb) : PE X (.BoolOp .And (a :: b :: rest) pos) (tAndV ta tb) := by
  intro pins s σ H Q I h
  refine BoolOp_and (thn (ha pins s σ H _ I h) fun v s1 ⟨x, H1, I1, r1, q1⟩ => ?_)
  obtain ⟨c, rfl, q1⟩ := q1
  cases r1
  refine wpAny_truthy_bool ?_
  cases c with
  | true => exact hb pins s1 σ H1 Q I1 q1
  | false => exact ⟨.bl false, H1, I1, rfl, q1⟩
theorem pe_or (ha : PE X a ta) (hb : PE X (.BoolOp .Or (b :: rest) pos) tb) : PE X (.BoolOp .Or (a :: b :: rest) pos) (tOrV ta tb) := by
  intro pins s σ H Q I h
  refine BoolOp_or (thn (ha pins s σ H _ I h) fun v s1 ⟨x, H1, I1, r1, q1⟩ => ?_)
  obtain ⟨c, rfl, q1⟩ := q1
  cases r1
  refine wpAny_truthy_bool ?_
  cases c with
  | false => exact hb pins s1 σ H1 Q I1 q1
  | true => exact ⟨.bl true, H1, I1, rfl, q1⟩
end
end L2
namespace L2
open PySem PySem.Spec PyProof.Rows
def SqL (K : PySem.W.Frag) (H : Hp) (a : Addr) (xs : List V) : Prop :=
  Rd H a (.lst xs) ∨
    ∃ (o : Obj) (its : Array Value) (n : Nat), K.lookup a = some o ∧ o.cls = .type "list" ∧ o.dict = none ∧ o.data = .seq its n ∧ its.size ≤ sizeLine ∧ Vals xs its.toList
def SqT (K : PySem.W.Frag) (H : Hp) (a : Addr) (xs : List V) : Prop :=
  Rd H a (.tup xs) ∨
    ∃ (o : Obj) (its : Array Value) (n : Nat), K.lookup a = some o ∧ o.cls = .type "tuple" ∧ o.data = .seq its n ∧ its.size ≤ sizeLine ∧ Vals xs its.toList
def absV : Value → Option V
  | .none => some .non
  | .bool b => some (.bl b)
  | .int i _ => some (.int i)
  | .str x _ => some (.str x)
  | .bytes b _ => some (.byt b)
  | .float b _ => some (.flt b)
  | .ref a => some (.ref a)
  | .type n => some (.ty n)
  | _ => none
theorem RelV.abs {x : V} {u : Value} (r : RelV x u) : absV u = some x := by
  cases x with
  | non => cases r; rfl
  | bl _ => cases r; rfl
  | int _ => obtain ⟨t, rfl⟩ := r; rfl
  | str _ => obtain ⟨t, rfl⟩ := r; rfl
  | byt _ => obtain ⟨t, rfl⟩ := r; rfl
  | flt _ => obtain ⟨t, rfl⟩ := r; rfl
  | ref _ => cases r; rfl
  | ty _ => cases r; rfl
theorem RelV.inj {x y : V} {u : Value} (r : RelV x u) (q : RelV y u) : x = y := Option.some.inj (r.abs.symm.trans q.abs)
theorem Vals.inj : ∀ {xs ys : List V} {us : List Value}, Vals xs us → Vals ys us → xs = ys
  | _, _, _, .nil, .nil => rfl
  | _, _, _, .cons r t, .cons r' t' => by rw [r.inj r', Vals.inj t t']
section
variable {X : Cx} {pins : List (Addr × Obj)} {σ : St} {H : Hp} {s : Shared} {a : Addr} {xs ys : List V}
theorem SqL.of {K : PySem.W.Frag} (h : H a = some (.lst xs)) : SqL K H a xs := .inl (.inl h)
theorem SqT.of {K : PySem.W.Frag} (h : H a = some (.tup xs)) : SqT K H a xs := .inl (.inl h)
theorem Inv.list (I : Inv X pins σ H s) (h : SqL X.K H a xs) : ∃ its : List Value, Vals xs its ∧ PlainL s.heap a its.toArray ∧ xs.length ≤ sizeLine := by
  rcases h with h | ⟨o, its, n, hk, hc, hd, hs, hz, r⟩
  · obtain ⟨z, its, n, r, e⟩ := h.ok I.hok
    exact ⟨its, r, ⟨_, n, e, rfl, rfl, rfl⟩, z⟩
  · refine ⟨its.toList, r, ⟨o, n, I.kIn a o hk, hc, hd, by simpa using hs⟩, ?_⟩
    have e := r.length
    simp only [Array.length_toList] at e
    omega
theorem Inv.tuple (I : Inv X pins σ H s) (h : SqT X.K H a xs) : ∃ its : List Value, Vals xs its ∧ IsTup s.heap a its.toArray ∧ xs.length ≤ sizeLine := by
  rcases h with h | ⟨o, its, n, hk, hc, hs, hz, r⟩
  · obtain ⟨z, its, r, p⟩ := h.ok I.hok
    exact ⟨its, r, p, z⟩
  · refine ⟨its.toList, r, ⟨o, I.kIn a o hk, hc, n, by simpa using hs⟩, ?_⟩
    have e := r.length
    simp only [Array.length_toList] at e
    omega
theorem Inv.list_inj (I : Inv X pins σ H s) (h : SqL X.K H a xs) (h' : SqL X.K H a ys) : xs = ys := by
  obtain ⟨its, r, ⟨o, n, e, _, _, d⟩, _⟩ := I.list h
  obtain ⟨its', r', ⟨o', n', e', _, _, d'⟩, _⟩ := I.list h'
  rw [e] at e'; cases e'
  rw [d] at d'
  injection d' with d1 _
  have : its = its' := by simpa using congrArg Array.toList d1
  subst this
  exact r.inj r'
theorem Inv.tuple_inj (I : Inv X pins σ H s) (h : SqT X.K H a xs) (h' : SqT X.K H a ys) : xs = ys := by
  obtain ⟨its, r, ⟨o, e, _, n, d⟩, _⟩ := I.tuple h
  obtain ⟨its', r', ⟨o', e', _, n', d'⟩, _⟩ := I.tuple h'
  rw [e] at e'; cases e'
  rw [d] at d'
  injection d' with d1 _
  have : its = its' := by simpa using congrArg Array.toList d1
  subst this
  exact r.inj r'
end
abbrev Cx.wish (X : Cx) (E : Value → Shared → Prop) : Cx := { X with xe := E }
abbrev Cx.nox (X : Cx) : Cx := X.wish fun _ _ => False
theorem Cx.Ok.wish {X : Cx} (ok : X.Ok) (E : Value → Shared → Prop) : (X.wish E).Ok :=
  ⟨ok.mod, ok.kind, ok.glob, ok.blt, ok.above, ok.inj, ok.has, ok.cab, ok.hd, ok.frames, ok.stk, ok.exf, ok.bs, ok.bsz, ok.noex, ok.exfs, ok.funs, ok.frf⟩
theorem Cx.Ok.unwish {X : Cx} {E : Value → Shared → Prop} (ok : (X.wish E).Ok) : X.Ok :=
  ⟨ok.mod, ok.kind, ok.glob, ok.blt, ok.above, ok.inj, ok.has, ok.cab, ok.hd, ok.frames, ok.stk, ok.exf, ok.bs, ok.bsz, ok.noex, ok.exfs, ok.funs, ok.frf⟩
section
variable {X : Cx} {pins : List (Addr × Obj)} {σ : St} {H : Hp} {s : Shared} {E : Value → Shared → Prop}
theorem Inv.wish (I : Inv X pins σ H s) (E : Value → Shared → Prop) : Inv (X.wish E) pins σ H s := ⟨I.ok.wish E, I.os, I.bare, I.base, I.loc, I.cell, I.free, I.freeC, I.pin, I.hok, I.len⟩
theorem Inv.unwish (I : Inv (X.wish E) pins σ H s) : Inv X pins σ H s := ⟨I.ok.unwish, I.os, I.bare, I.base, I.loc, I.cell, I.free, I.freeC, I.pin, I.hok, I.len⟩
theorem SP.unwish {D : Ends} {f : Flow} {s' : Shared} (h : SP (X.wish E) pins D f s') : SP X pins D f s' := by
  cases f with
  | next => obtain ⟨σ', H', I, q⟩ := h; exact ⟨σ', H', I.unwish, q⟩
  | brk => obtain ⟨σ', H', I, q⟩ := h; exact ⟨σ', H', I.unwish, q⟩
  | cont => obtain ⟨σ', H', I, q⟩ := h; exact ⟨σ', H', I.unwish, q⟩
  | ret u => obtain ⟨v, σ', H', I, r, q⟩ := h; exact ⟨v, σ', H', I.unwish, r, q⟩
theorem PE.nox {e : Expr} {t : TE} (h : PE X.nox e t) : PE X e t := fun pins s σ H Q I hw =>
  wpAny_mono (h pins s σ H Q (I.wish _) hw) (fun _ _ ⟨v, H', I', r, q⟩ => ⟨v, H', I'.unwish, r, q⟩) fun _ _ z => False.elim z
theorem PT.nox {e : Expr} {t : TT} (h : PT X.nox e t) : PT X e t := fun pins s σ H Q I hw =>
  wpAny_mono (h pins s σ H Q (I.wish _) hw) (fun _ _ ⟨H', I', q⟩ => ⟨H', I'.unwish, q⟩) fun _ _ z => False.elim z
theorem PSs.nox {st : List Stmt} {t : TS} (h : PSs X.nox st t) : PSs X st t := fun pins s σ H D I hw =>
  wpAny_mono (h pins s σ H D (I.wish _) hw) (fun _ _ q => q.unwish) fun _ _ z => False.elim z
end
section
variable {X : Cx} {st : Stmt} {rest : List Stmt} {t u : TS} {e : Expr} {te : TE} {pos : Pos}
def tNext : TS := fun D σ H => D.nx σ H
def tSeq (t u : TS) : TS := fun D σ H => t { D with nx := u D } σ H
theorem pss_nil : PSs X [] tNext := fun _ _ σ H _ I h => wpAny_execs_nil ⟨σ, H, I, h⟩
theorem pss_cons (h1 : PS X st t) (h2 : PSs X rest u) : PSs X (st :: rest) (tSeq t u) := by
  intro pins s σ H D I h
  refine wpAny_execs_cons (thn (h1 pins s σ H { D with nx := u D } I h) fun f s1 q => ?_)
  cases f with
  | next =>
    obtain ⟨σ', H', I', q⟩ := q
    exact h2 pins s1 σ' H' D I' q
  | ret v => exact q
  | brk => exact q
  | cont => exact q
theorem pss_one (h1 : PS X st t) : PSs X [st] t := by
  intro pins s σ H D I h
  refine wpAny_execs_cons (thn (h1 pins s σ H D I h) fun f s1 q => ?_)
  cases f with
  | next => exact wpAny_execs_nil q
  | ret v => exact q
  | brk => exact q
  | cont => exact q
theorem Inv.quiet {pins : List (Addr × Obj)} {σ : St} {H : Hp} {s : Shared} (I : Inv X pins σ H s) : interactive X.env = false := by simp [interactive, I.ok.kind]
def tDrop (te : TE) : TS := fun D σ H => te σ H fun _ H1 => D.nx σ H1
theorem ps_expr (he : PE X e te) (hs : swapsWith e none pos.line X.env = pure false := by rfl) : PS X (.Expr e pos) (tDrop te) := by
  intro pins s σ H D I h
  exact wpAny_Expr_any (thn (he pins s σ H _ I h) fun v s1 ⟨x, H1, I1, r1, q1⟩ => ⟨σ, H1, I1, q1⟩) I.quiet hs
def tRet (te : TE) : TS := fun D σ H => te σ H D.rt
theorem ps_ret (he : PE X e te) : PS X (.Return (some e) pos) (tRet te) := by
  intro pins s σ H D I h
  exact wpAny_Return_some (thn (he pins s σ H _ I h) fun v s1 ⟨x, H1, I1, r1, q1⟩ => ⟨x, σ, H1, I1, r1, q1⟩)
def tIfS (c : TT) (t u : TS) : TS := fun D σ H => c σ H fun b H1 => if b = true then t D σ H1 else u D σ H1
theorem ps_if {c : Expr} {a b : List Stmt} {tc : TT} (hc : PT X c tc) (ha : PSs X a t) (hb : PSs X b u) : PS X (.If c a b pos) (tIfS tc t u) := by
  intro pins s σ H D I h
  refine wpAny_If (thn (hc pins s σ H _ I h) fun d s1 ⟨H1, I1, q1⟩ => ?_)
  cases d with
  | true => exact ha pins s1 σ H1 D I1 q1
  | false => exact hb pins s1 σ H1 D I1 q1
end
abbrev TG := V → St → Hp → (St → Hp → Prop) → Prop
abbrev TGs := List V → St → Hp → (St → Hp → Prop) → Prop
def PG (X : Cx) (target : Expr) (t : TG) : Prop :=
  ∀ (pins : List (Addr × Obj)) (s : Shared) (σ : St) (H : Hp) (v : V) (u : Value) (Q : St → Hp → Prop), Inv X pins σ H s → RelV v u → t v σ H Q →
    wpAny (model X.prog X.w) X.A (assign target X.env u) (fun _ s' => ∃ σ' H', Inv X pins σ' H' s' ∧ Q σ' H') X.xe s
def PGs (X : Cx) (ts : List Expr) (t : TGs) : Prop :=
  ∀ (pins : List (Addr × Obj)) (s : Shared) (σ : St) (H : Hp) (vs : List V) (us : List Value) (Q : St → Hp → Prop), Inv X pins σ H s → Vals vs us → t vs σ H Q →
    wpAny (model X.prog X.w) X.A (assignInOrder ((assignEach ts X.env).map (·.2)) us) (fun _ s' => ∃ σ' H', Inv X pins σ' H' s' ∧ Q σ' H') X.xe s
abbrev TSet := V → V → V → Hp → (Hp → Prop) → Prop
def PSet (X : Cx) (t : TSet) : Prop :=
  ∀ (pins : List (Addr × Obj)) (s : Shared) (σ : St) (H : Hp) (o i v : V) (ov iv u : Value) (Q : Hp → Prop), Inv X pins σ H s → RelV o ov → RelV i iv → RelV v u → t o i v H Q →
    wpAny (model X.prog X.w) X.A (setItem ov iv u) (fun _ s' => ∃ H', Inv X pins σ H' s' ∧ Q H') X.xe s
abbrev TIp := V → V → Hp → VK → Prop
def PIp (X : Cx) (op : Operator) (t : TIp) : Prop :=
  ∀ (pins : List (Addr × Obj)) (s : Shared) (σ : St) (H : Hp) (x y : V) (v u : Value) (Q : VK), Inv X pins σ H s → RelV x v → RelV y u → t x y H Q →
    wpAny (model X.prog X.w) X.A (inplaceOp op v u) (EP X pins σ Q) X.xe s
section
variable {X : Cx} {pos : Pos}
def gName (i : Nat) : TG := fun v σ H Q => Q (σ.set i (some v)) H
theorem pg_name {i : Nat} {x : Str} (hN : X.N.Nodup) (hi : X.N[i]? = some x) (hx : Loc X.env.scope x) (hf : X.fn x = true ∨ X.env.scope.names.lookup x = some .local := by first | exact .inl rfl | exact .inr rfl | assumption) : PG X (.Name x pos) (gName i) := by
  intro pins s σ H v u Q I r h
  exact wpAny_assign_Name (store_ok I hN hi hx r (fun s' I' => ⟨_, H, I', h⟩) hf)
def gNil : TGs := fun vs σ H Q => vs = [] ∧ Q σ H
def gCons (t : TG) (u : TGs) : TGs := fun vs σ H Q => ∃ v r, vs = v :: r ∧ t v σ H fun σ' H' => u r σ' H' Q
theorem pgs_nil : PGs X [] gNil := by
  intro pins s σ H vs us Q I r h
  obtain ⟨e, h⟩ := h
  subst e
  cases r
  exact assignInOrder_nil ⟨σ, H, I, h⟩
theorem pgs_cons {e : Expr} {es : List Expr} {t : TG} {u : TGs} (h1 : PG X e t) (h2 : PGs X es u)
    (hs : (assignEach (e :: es) X.env).map (·.2) = assign e X.env :: (assignEach es X.env).map (·.2) := by rfl) : PGs X (e :: es) (gCons t u) := by
  intro pins s σ H vs us Q I r h
  obtain ⟨v, vr, e1, h⟩ := h
  subst e1
  cases r with
  | cons r rr =>
    rw [hs]
    refine assignInOrder_cons (thn (h1 pins s σ H _ _ _ I r h) fun _ s1 ⟨σ1, H1, I1, q1⟩ => ?_)
    exact h2 pins s1 σ1 H1 _ _ Q I1 rr q1
def gTup (K : PySem.W.Frag) (n : Nat) (t : TGs) : TG := fun v σ H Q => ∃ a xs, v = .ref a ∧ SqT K H a xs ∧ xs.length = n ∧ t xs σ H Q
theorem pg_tup {es : List Expr} {k : Nat} {t : TGs} {n : Nat} (hc : X.calm = true) (h : PGs X es t)
    (hn : (assignEach es X.env).length = n := by rfl) (hst : (assignEach es X.env).findIdx? (·.1) = none := by rfl) : PG X (.Tuple es k pos) (gTup X.K n t) := by
  intro pins s σ H v u Q I r hw
  obtain ⟨a, xs, e1, hq, hl, hw⟩ := hw
  subst e1
  cases r
  obtain ⟨its, rv, ht, hz⟩ := I.tuple hq
  refine assign_Tuple_tuple (I.ok.hd hc) ht (by simp [hn, ← hl, rv.length]) hst fun h' hx => ?_
  have I1 : Inv X pins σ H { s with heap := h' } := I.kept (t' := s.toks) fun b o e => hx b o (Nat.ne_of_lt (Heap.lt_size e)) e
  exact h pins _ σ H xs _ Q I1 (by simpa using rv) hw
def gSub (to ti : TE) (t : TSet) : TG := fun v σ H Q => to σ H fun o H1 => ti σ H1 fun i H2 => t o i v H2 fun H3 => Q σ H3
theorem pg_sub {o i : Expr} {to ti : TE} {t : TSet} (ho : PE X o to) (hi : PE X i ti) (hs : PSet X t)
    (ha : ∀ v, assign (.Subscript o i pos) X.env v = (do
      let ov ← holding [v] (eval o X.env)
      let iv ← holding [v, ov] (eval i X.env)
      standAt pos
      holding [v, ov, iv] (setItem ov iv v)
      release [v, ov, iv] []) := by intro _; rfl) : PG X (.Subscript o i pos) (gSub to ti t) := by
  intro pins s σ H v u Q I r h
  rw [ha]
  refine wpAny_bind (wpAny_holding (thn (ho pins s σ H _ I h) fun ov s1 ⟨x, H1, I1, r1, q1⟩ => ?_))
  refine wpAny_bind (wpAny_holding (thn (hi pins s1 σ H1 _ I1 q1) fun iv s2 ⟨y, H2, I2, r2, q2⟩ => ?_))
  refine wpAny_bind (wpAny_standAt (wpAny_bind (wpAny_holding (thn (hs pins s2 σ H2 x y v ov iv u _ I2 r1 r2 r q2) fun _ s3 ⟨H3, I3, q3⟩ => ?_))))
  exact wpAny_release ⟨σ, H3, I3, q3⟩
def tAsg (te : TE) (g : TG) : TS := fun D σ H => te σ H fun x H1 => g x σ H1 D.nx
theorem ps_asg {tg e : Expr} {te : TE} {g : TG} (he : PE X e te) (hg : PG X tg g) (hs : swapsWithSole [tg] e pos.line X.env = pure false := by rfl) (hw : swappedStores [tg] e X.env = pure none := by rfl)
    (h1 : (assignEach [tg] X.env).map (·.2) = [assign tg X.env] := by rfl) : PS X (.Assign [tg] e pos) (tAsg te g) := by
  intro pins s σ H D I h
  refine wpAny_Assign_stores (thn (he pins s σ H _ I h) fun v s1 ⟨x, H1, I1, r1, q1⟩ => ?_) hs hw
  rw [h1]
  exact thn (hg pins s1 σ H1 x v _ I1 r1 q1) fun _ s2 q => q
theorem ps_set {i : Nat} {x : Str} {e : Expr} {te : TE} {pos' : Pos} (hN : X.N.Nodup) (hi : X.N[i]? = some x) (hx : Loc X.env.scope x) (he : PE X e te) (hs : swapsWith e (some (.Name x pos')) pos.line X.env = pure false := by rfl) (hf : X.fn x = true ∨ X.env.scope.names.lookup x = some .local := by first | exact .inl rfl | exact .inr rfl | assumption) :
    PS X (.Assign [.Name x pos'] e pos) (tAsg te (gName i)) := by
  intro pins s σ H D I h
  refine wpAny_Assign_Name (thn (he pins s σ H _ I h) fun v s1 ⟨y, H1, I1, r1, q1⟩ => ?_) hs
  exact store_ok I1 hN hi hx r1 (fun s2 I2 => ⟨_, H1, I2, q1⟩) hf
def tAug (i : Nat) (te : TE) (ti : TIp) : TS := fun D σ H => ∃ x, σ[i]? = some (some x) ∧ te σ H fun y H1 => ti x y H1 fun z H2 => D.nx (σ.set i (some z)) H2
theorem ps_aug {i : Nat} {x : Str} {e : Expr} {te : TE} {op : Operator} {ti : TIp} {pos' : Pos} (hN : X.N.Nodup) (hi : X.N[i]? = some x) (hx : Loc X.env.scope x) (he : PE X e te) (ho : PIp X op ti) (hf : X.fn x = true ∨ X.env.scope.names.lookup x = some .local := by first | exact .inl rfl | exact .inr rfl | assumption) :
    PS X (.AugAssign (.Name x pos') op e pos) (tAug i te ti) := by
  intro pins s σ H D I h
  obtain ⟨v, e1, h⟩ := h
  obtain ⟨m, hn, hl⟩ := I.loc
  have vis : Vis X.env.scope x := by rcases hx with k | k; exact .inl k; exact .inr (.inl k)
  obtain ⟨u, r, l⟩ := hl i x v hi e1 vis
  refine wpAny_AugAssign_Name ?_
  have go : wpAny (model X.prog X.w) X.A (eval e X.env) (fun w s₂ => wpAny (model X.prog X.w) X.A (inplaceOp op u w) (fun r s₃ => wpAny (model X.prog X.w) X.A (storeName X.env x r) (fun _ => SP X pins D .next) X.xe s₃) X.xe s₂) X.xe s := by
    refine thn (he pins s σ H _ I h) fun w s1 ⟨y, H1, I1, r1, q1⟩ => ?_
    refine thn (ho pins s1 σ H1 v y u w _ I1 r r1 q1) fun z s2 ⟨zv, H2, I2, r2, q2⟩ => ?_
    exact store_ok I2 hN hi hx r2 (fun s3 I3 => ⟨_, H2, I3, q2⟩) hf
  rcases l with ⟨hk, hm⟩ | ⟨hk, c, hc, hcell⟩
  · exact wpAny_loadName_local I.ok.kind hk hn hm go
  · rcases hk with hk | hk
    · exact wpAny_loadName_cell I.ok.kind hk hc hcell go
    · rcases hx with k | k
      · have : X.env.scope.names.lookup x = some .free := hk
        rw [k] at this; cases this
      · have : X.env.scope.names.lookup x = some .free := hk
        rw [k] at this; cases this
def ipI (f : Int → Int → Int) : TIp := fun x y H Q => ∃ i j, x = .int i ∧ y = .int j ∧ Q (.int (f i j)) H
theorem ip_add : PIp X .Add (ipI fun i j => i + j) := by
  intro pins s σ H x y v u Q I r1 r2 h
  obtain ⟨i, j, e1, e2, q⟩ := h
  subst e1; subst e2
  obtain ⟨t, rfl⟩ := r1
  obtain ⟨t', rfl⟩ := r2
  exact iadd_int ⟨.int _, H, I.tok _, ⟨_, rfl⟩, q⟩
end
section
variable {X : Cx} {pos : Pos}
def tWhile (c : TT) (tb : TS) : TS := fun D σ H => ∃ W : Nat → St → Hp → Prop, (∃ m, W m σ H) ∧ ∀ m σ H, W m σ H →
  c σ H fun b H1 => if b = true then ∃ N : St → Hp → Prop, (∀ σ' H', N σ' H' → ∃ m', m' < m ∧ W m' σ' H') ∧ tb { D with nx := N, ct := N, bk := D.nx } σ H1 else D.nx σ H1
theorem ps_while {c : Expr} {body : List Stmt} {tc : TT} {tb : TS} (hp : PassesOwn (model X.prog X.w) X.A X.env X.xe) (hc : PT X c tc) (hb : PSs X body tb) : PS X (.While c body [] pos) (tWhile tc tb) := by
  intro pins s σ H D I h
  obtain ⟨W, ⟨m0, w0⟩, turn⟩ := h
  refine wpAny_While (codeAny_whileLoop (fun n s' => ∃ σ' H', Inv X pins σ' H' s' ∧ W n σ' H') ?_ m0 ⟨σ, H, I, w0⟩)
  rintro n s1 ⟨σ1, H1, I1, w1⟩
  refine wpAny_passesOwn hp (thn (hc pins s1 σ1 H1 _ I1 (turn n σ1 H1 w1)) fun b s2 ⟨H2, I2, q2⟩ => ?_)
  cases b with
  | true =>
    obtain ⟨N, hN, q2⟩ := q2
    rw [if_pos rfl]
    refine wpAny_passesOwn hp (thn (hb pins s2 σ1 H2 _ I2 q2) fun f s3 q3 => ?_)
    cases f with
    | next =>
      obtain ⟨σ3, H3, I3, n3⟩ := q3
      obtain ⟨m', hm, w3⟩ := hN σ3 H3 n3
      exact ⟨m', hm, σ3, H3, I3, w3⟩
    | cont =>
      obtain ⟨σ3, H3, I3, n3⟩ := q3
      obtain ⟨m', hm, w3⟩ := hN σ3 H3 n3
      exact ⟨m', hm, σ3, H3, I3, w3⟩
    | brk => exact q3
    | ret v => exact q3
  | false =>
    rw [if_neg Bool.false_ne_true]
    exact wpAny_execs_nil ⟨σ1, H2, I2, q2⟩
end
structure It where
  go : Nat → Hp → Prop
  yld : Nat → Hp → V → Hp → Prop
  stop : Nat → Hp → Prop
def FpOk (X : Cx) (pins : List (Addr × Obj)) (H : Hp) (b : Addr) : Prop :=
  H b = none ∧ b ≠ X.env.locals ∧ b ∉ X.fs ∧ (b ∈ X.ex ∨ X.s₀.heap.objs.size ≤ b) ∧ (∀ x c, X.env.cells.lookup x = some c → c ≠ b) ∧ ∀ p ∈ X.pn ++ pins, p.1 ≠ b
theorem Inv.fpOk {X : Cx} {pins : List (Addr × Obj)} {σ : St} {H H' : Hp} {s : Shared} {b : Addr} (I : Inv X pins σ H s) (hb : s.heap.objs.size ≤ b) (hn : H' b = none) : FpOk X pins H' b := by
  refine ⟨hn, Nat.ne_of_gt (Nat.lt_of_lt_of_le I.lt hb), I.nofs hb, .inr (Nat.le_trans I.sz hb), fun x c e z => ?_, fun p hp z => ?_⟩
  · obtain ⟨v, q⟩ := I.cell x c e
    exact absurd (Nat.lt_of_lt_of_le q.lt (by rw [z]; exact hb)) (Nat.lt_irrefl _)
  · exact absurd (Nat.lt_of_lt_of_le (Heap.lt_size (I.pin p hp).1) (by rw [z]; exact hb)) (Nat.lt_irrefl _)
structure Turn (P : Program) (w : World) (K : PySem.W.Frag) (tg : Expr) (J : It) (fp : List Addr) (it : Addr) (tn : Nat → Heap → Prop) : Prop where
  mem : it ∈ fp
  obj : ∀ i h, tn i h → ∀ b ∈ fp, ∃ o, h.get? b = some o ∧ ∀ v, o.data ≠ .cell v
  keep : ∀ i h h', tn i h → (∀ b ∈ fp, ∀ o, h.get? b = some o → h'.get? b = some o) → tn i h'
  item : ∀ (X : Cx), X.prog = P → X.w = w → X.K = K → X.calm = true → ∀ (i : Nat) (pins : List (Addr × Obj)) (s : Shared) (σ : St) (H : Hp) (E : Value → Shared → Prop), Inv X pins σ H s → (∀ b ∈ fp, FpOk X pins H b) → tn i s.heap → J.go i H →
    wpAny (model P w) X.A (pyNext (.ref it)) (fun r s1 => ∃ u, r = some u ∧
      wpAny (model P w) X.A (letOwnedTupleGo tg (.ref it) u) (fun _ s2 => ∃ x H', Inv X pins σ H' s2 ∧ RelV x u ∧ J.yld i H x H' ∧ tn (i + 1) s2.heap ∧ ∀ b ∈ fp, H' b = none) E s1) E s
  done : ∀ (X : Cx), X.prog = P → X.w = w → X.K = K → X.calm = true → ∀ (i : Nat) (pins : List (Addr × Obj)) (s : Shared) (σ : St) (H : Hp) (E : Value → Shared → Prop), Inv X pins σ H s → (∀ b ∈ fp, FpOk X pins H b) → tn i s.heap → J.stop i H →
    wpAny (model P w) X.A (pyNext (.ref it)) (fun r s1 => r = none ∧ Inv X pins σ H s1) E s
  self : ∀ (A : Around) (i : Nat) (s : Shared) (Q : Value → Shared → Prop) (E : Value → Shared → Prop), tn i s.heap → Q (.ref it) s → wpAny (model P w) A (pyIter (.ref it)) Q E s
abbrev TI := St → Hp → (It → Hp → Prop) → Prop
def PIE (X : Cx) (pins : List (Addr × Obj)) (σ : St) (tg : Expr) (R : It → Hp → Prop) (itv : Value) (s2 : Shared) : Prop :=
  ∃ (it : Addr) (fp : List Addr) (tn : Nat → Heap → Prop) (J : It) (H' : Hp), itv = .ref it ∧ Inv X pins σ H' s2 ∧ Turn X.prog X.w X.K tg J fp it tn ∧ tn 0 s2.heap ∧ (∀ b ∈ fp, FpOk X pins H' b) ∧ R J H'
def PI (X : Cx) (tg iter : Expr) (wi : TI) : Prop :=
  ∀ (pins : List (Addr × Obj)) (s : Shared) (σ : St) (H : Hp) (R : It → Hp → Prop), Inv X pins σ H s → wi σ H R →
    wpAny (model X.prog X.w) X.A (eval iter X.env) (fun v s1 => wpAny (model X.prog X.w) X.A (pyIter v) (PIE X pins σ tg R) X.xe s1) X.xe s
theorem go_of {M : Model} {A : Around} {E : Value → Shared → Prop} {s : Shared} {tg : Expr} {it : Addr} {u : Value} {o : Obj} {n : String} {vs : Array Value} {Q : Unit → Shared → Prop} (ho : s.heap.get? it = some o) (hc : o.cls = .type n) (hd : o.data = .fields vs)
    (hn : ["enumerate", "zip", "dict_itemiterator", "dict_reverseitemiterator", "odict_iterator", "itertools.zip_longest", "itertools.pairwise"].contains n = false) (hQ : Q () s) : wpAny M A (letOwnedTupleGo tg (.ref it) u) Q E s := by
  unfold letOwnedTupleGo
  cases tg <;> first
    | exact wpAny_pure hQ
    | (cases u <;> first
        | exact wpAny_pure hQ
        | (refine wpAny_bind (wpAny_load ho ?_)
           rw [hc, hd]
           show wpAny M A (if (["enumerate", "zip", "dict_itemiterator", "dict_reverseitemiterator", "odict_iterator", "itertools.zip_longest", "itertools.pairwise"].contains n && vs[0]? == some (rawInt _)) = true then _ else _) Q E s
           rw [if_neg (by intro h; rw [hn, Bool.false_and] at h; cases h)]
           exact wpAny_pure hQ))
def Itl (K : PySem.W.Frag) (a : Addr) : It :=
  ⟨fun i H => ∃ xs x, SqL K H a xs ∧ xs[i]? = some x, fun i H x H' => H' = H ∧ ∀ xs, SqL K H a xs → xs[i]? = some x, fun i H => ∃ xs, SqL K H a xs ∧ xs.length ≤ i⟩
def Itt (K : PySem.W.Frag) (a : Addr) : It :=
  ⟨fun i H => ∃ xs x, SqT K H a xs ∧ xs[i]? = some x, fun i H x H' => H' = H ∧ ∀ xs, SqT K H a xs → xs[i]? = some x, fun i H => ∃ xs, SqT K H a xs ∧ xs.length ≤ i⟩
def Itr (lo : Int) (n : Nat) : It := ⟨fun i _ => i < n, fun i H x H' => H' = H ∧ x = .int (lo + i), fun i _ => n ≤ i⟩
theorem turn_list {P : Program} {w : World} {K : PySem.W.Frag} {tg : Expr} (a it : Addr) : Turn P w K tg (Itl K a) [it] it (fun i h => h.IsListIter it a i) where
  mem := by simp
  obj := fun i h st b hb => by
    have e : b = it := by simpa using hb
    subst e
    obtain ⟨o, e, c, d⟩ := st
    exact ⟨o, e, fun v z => by rw [d] at z; cases z⟩
  keep := fun i h h' st k => st.at fun o e => k it (by simp) o e
  item := by
    intro X hP hw hK hc i pins s σ H E I hf st hg
    subst hP hw hK
    obtain ⟨xs, x, hq, hx⟩ := hg
    obtain ⟨its, rv, p, hz⟩ := I.list hq
    obtain ⟨u, hu, ru⟩ := rv.get hx
    obtain ⟨f0, f1, f2, f3, f4, f5⟩ := hf it (by simp)
    refine wpAny_pyNext_list_item st p.isList (x := u) (by simpa using hu) fun h' st' sb => ?_
    have I1 : Inv X pins σ H { s with heap := h' } := I.turned (t' := s.toks) (fun b o hb e => (sb.2 b hb).trans e) f0 f1 f3 f4 f5
    obtain ⟨o, e, c, d⟩ := id st'
    exact ⟨u, rfl, go_of (s := { s with heap := h' }) e c d (by decide) ⟨x, H, I1, ru, ⟨rfl, fun ys hy => by rw [I.list_inj hy hq]; exact hx⟩, st', fun b hb => (hf b hb).1⟩⟩
  done := by
    intro X hP hw hK hc i pins s σ H E I hf st hg
    subst hP hw hK
    obtain ⟨xs, hq, hx⟩ := hg
    obtain ⟨its, rv, p, hz⟩ := I.list hq
    obtain ⟨f0, f1, f2, f3, f4, f5⟩ := hf it (by simp)
    have hl := rv.length
    exact wpAny_pyNext_list_end (I.ok.hd hc) st p.isList (by simp; omega) fun h' eb => ⟨rfl, I.turned (t' := s.toks) (fun b o hb e => eb b o hb e) f0 f1 f3 f4 f5⟩
  self := fun _ _ _ _ _ st h => wpAny_pyIter_listiter st h
theorem turn_tuple {P : Program} {w : World} {K : PySem.W.Frag} {tg : Expr} (a it : Addr) : Turn P w K tg (Itt K a) [it] it (fun i h => h.IsTupleIter it a i) where
  mem := by simp
  obj := fun i h st b hb => by
    have e : b = it := by simpa using hb
    subst e
    obtain ⟨o, e, c, d⟩ := st
    exact ⟨o, e, fun v z => by rw [d] at z; cases z⟩
  keep := fun i h h' st k => st.at fun o e => k it (by simp) o e
  item := by
    intro X hP hw hK hc i pins s σ H E I hf st hg
    subst hP hw hK
    obtain ⟨xs, x, hq, hx⟩ := hg
    obtain ⟨its, rv, p, hz⟩ := I.tuple hq
    obtain ⟨u, hu, ru⟩ := rv.get hx
    obtain ⟨f0, f1, f2, f3, f4, f5⟩ := hf it (by simp)
    refine wpAny_pyNext_tuple_item st (show s.heap.IsTuple a its.toArray from p) (x := u) (by simpa using hu) fun h' st' sb => ?_
    have I1 : Inv X pins σ H { s with heap := h' } := I.turned (t' := s.toks) (fun b o hb e => (sb.2 b hb).trans e) f0 f1 f3 f4 f5
    obtain ⟨o, e, c, d⟩ := id st'
    exact ⟨u, rfl, go_of (s := { s with heap := h' }) e c d (by decide) ⟨x, H, I1, ru, ⟨rfl, fun ys hy => by rw [I.tuple_inj hy hq]; exact hx⟩, st', fun b hb => (hf b hb).1⟩⟩
  done := by
    intro X hP hw hK hc i pins s σ H E I hf st hg
    subst hP hw hK
    obtain ⟨xs, hq, hx⟩ := hg
    obtain ⟨its, rv, p, hz⟩ := I.tuple hq
    obtain ⟨f0, f1, f2, f3, f4, f5⟩ := hf it (by simp)
    have hl := rv.length
    exact wpAny_pyNext_tuple_end (I.ok.hd hc) st (show s.heap.IsTuple a its.toArray from p) (by simp; omega) fun h' eb => ⟨rfl, I.turned (t' := s.toks) (fun b o hb e => eb b o hb e) f0 f1 f3 f4 f5⟩
  self := fun _ _ _ _ _ st h => wpAny_pyIter_tupleiter st h
theorem turn_range {P : Program} {w : World} {K : PySem.W.Frag} {tg : Expr} (it : Addr) (lo : Int) (n : Nat) : Turn P w K tg (Itr lo n) [it] it (fun i h => IsRangeIter h it (lo + (i : Nat) * 1) ((n : Int) - (i : Nat)) 1) where
  mem := by simp
  obj := fun i h st b hb => by
    have e : b = it := by simpa using hb
    subst e
    exact ⟨_, st, fun v z => by
      have z' : Data.fields _ = Data.cell v := z
      cases z'⟩
  keep := fun i h h' st k => k it (by simp) _ st
  item := by
    intro X hP hw hK hc i pins s σ H E I hf st hg
    subst hP hw hK
    obtain ⟨f0, f1, f2, f3, f4, f5⟩ := hf it (by simp)
    have W := Walks.range (prog := X.prog) (w := X.w) (I.ok.hd hc) it lo 1 n
    refine W.item i s _ _ hg st fun v h' tk hv st' kk => ?_
    obtain ⟨t, rfl⟩ := hv
    have I1 : Inv X pins σ H { s with heap := h', toks := tk } := I.turned (fun b o hb e => kk b o (by simpa using hb) e) f0 f1 f3 f4 f5
    refine ⟨_, rfl, go_of (s := { s with heap := h', toks := tk }) (n := "range_iterator") st' rfl rfl (by decide) ⟨.int (lo + i), H, I1, ⟨t, ?_⟩, ⟨rfl, rfl⟩, st', fun b hb => (hf b hb).1⟩⟩
    rw [Int.mul_one]
  done := by
    intro X hP hw hK hc i pins s σ H E I hf st hg
    subst hP hw hK
    obtain ⟨f0, f1, f2, f3, f4, f5⟩ := hf it (by simp)
    exact wpAny_pyNext_range_end (I.ok.hd hc) st (by have : n ≤ i := hg; omega) fun h' eb => ⟨rfl, I.turned (t' := s.toks) (fun b o hb e => eb b o hb e) f0 f1 f3 f4 f5⟩
  self := fun _ _ _ _ _ st h => wpAny_pyIter_rangeiter st h
end L2
namespace L2
open PySem PySem.Spec PyProof.Rows
section
variable {X : Cx} {tg : Expr}
theorem range_it {pins : List (Addr × Obj)} {σ : St} {H : Hp} {s : Shared} {R : It → Hp → Prop} {E : Value → Shared → Prop} {lo hi : Int} {t u v : Tok} {tk : Nat} (I : Inv X pins σ H s) (h1 : -(2 ^ 62) ≤ lo) (h2 : lo < 2 ^ 62) (h3 : -(2 ^ 62) ≤ hi) (h4 : hi < 2 ^ 62)
    (q : R (Itr lo (hi - lo).toNat) H) : wpAny (model X.prog X.w) X.A (pyIter (.ref s.heap.objs.size)) (PIE X pins σ tg R) E { s with heap := s.heap.push { cls := .type "range", data := .fields #[.int lo t, .int hi u, .int 1 v] }, toks := tk } := by
  refine wpAny_pyIter_range (IsRange.new ..) (small_one h1 h2 h3 h4) ?_
  have I1 : Inv X pins σ H { s with heap := s.heap.push { cls := .type "range", data := .fields #[.int lo t, .int hi u, .int 1 v] }, toks := tk } := I.kept fun b o e => Heap.get?_push_of_some _ e
  refine ⟨(s.heap.push { cls := .type "range", data := .fields #[.int lo t, .int hi u, .int 1 v] }).objs.size, [(s.heap.push { cls := .type "range", data := .fields #[.int lo t, .int hi u, .int 1 v] }).objs.size], _, _, H, rfl,
    I1.kept (t' := tk) fun b o e => Heap.get?_push_of_some _ e, turn_range _ lo (hi - lo).toNat, ?_, fun b hb => ?_, q⟩
  · have e1 : lo + ((0 : Nat) : Int) * 1 = lo := by simp
    have e2 : (((hi - lo).toNat : Nat) : Int) - ((0 : Nat) : Int) = Builtin.Range.rangeSize lo hi 1 := by rw [rangeSize_one]; split <;> omega
    show IsRangeIter _ _ (lo + ((0 : Nat) : Int) * 1) ((((hi - lo).toNat : Nat) : Int) - ((0 : Nat) : Int)) 1
    rw [e1, e2]
    exact Heap.get?_push_size _ rfl
  · have e : b = (s.heap.push { cls := .type "range", data := .fields #[.int lo t, .int hi u, .int 1 v] }).objs.size := by simpa using hb
    subst e
    exact I1.fpOk (Nat.le_refl _) (I1.hok.fresh (Nat.le_refl _))
def iRng1 (ta : TA) : TI := fun σ H R => ta σ H fun vs H1 => ∃ j : Int, vs = [.int j] ∧ -(2 ^ 62) ≤ j ∧ j < 2 ^ 62 ∧ R (Itr 0 j.toNat) H1
theorem pi_range1 {a : Expr} {ta : TA} {p pos : Pos} (hg : Gl X "range") (hm : X.mg "range" = none) (ha : PA X [a] ta) (hs : starEach [a] X.env = [(false, eval a X.env)] := by rfl) : PI X tg (.Call (.Name "range" p) [a] [] pos) (iRng1 ta) := by
  intro pins s σ H R I h
  refine Call_ (ld_blt I hg hm boot_range (PyProof.Rows.callWith_type1 (thn (ha pos pins s σ H _ I h) fun us s1 ⟨vs, H1, I1, r1, q1⟩ => ?_) hs rfl))
  obtain ⟨j, e, q1, q2, q⟩ := q1
  subst e
  cases r1 with
  | cons r rr =>
    cases rr
    obtain ⟨t, rfl⟩ := r
    exact call_range_1 (range_it I1 (by omega) (by omega) q1 q2 (by simpa using q))
def tFor (wi : TI) (g : TG) (tb : TS) : TS := fun D σ H => wi σ H fun J H1 => ∃ W : Nat → Nat → St → Hp → Prop, (∃ m, W 0 m σ H1) ∧ ∀ i m σ H, W i m σ H →
  (J.stop i H ∧ D.nx σ H) ∨ (J.go i H ∧ ∃ N : St → Hp → Prop, (∀ σ' H', N σ' H' → ∃ m', m' < m ∧ W (i + 1) m' σ' H') ∧ ∀ x H', J.yld i H x H' → g x σ H' fun σ2 H2 => tb { D with nx := N, ct := N, bk := D.nx } σ2 H2)
def pinsAt (fp : List Addr) (h : Heap) : List (Addr × Obj) := fp.filterMap fun b => (h.get? b).map fun o => (b, o)
theorem mem_pinsAt {fp : List Addr} {h : Heap} {b : Addr} {o : Obj} (hb : b ∈ fp) (e : h.get? b = some o) : (b, o) ∈ pinsAt fp h := List.mem_filterMap.mpr ⟨b, hb, by rw [e]; rfl⟩
theorem of_pinsAt {fp : List Addr} {h : Heap} {p : Addr × Obj} (hp : p ∈ pinsAt fp h) : p.1 ∈ fp ∧ h.get? p.1 = some p.2 := by
  obtain ⟨b, hb, e⟩ := List.mem_filterMap.mp hp
  cases q : h.get? b with
  | none => rw [q] at e; cases e
  | some o =>
    rw [q] at e
    have e' : (b, o) = p := Option.some.inj e
    subst e'
    exact ⟨hb, q⟩
theorem Inv.pinned {pins : List (Addr × Obj)} {σ : St} {H : Hp} {s : Shared} {fp : List Addr} (I : Inv X pins σ H s) (hf : ∀ b ∈ fp, FpOk X pins H b) (ho : ∀ b ∈ fp, ∃ o, s.heap.get? b = some o ∧ ∀ v, o.data ≠ .cell v) : Inv X (pins ++ pinsAt fp s.heap) σ H s :=
  I.pins_of fun p hp => (List.mem_append.mp hp).elim (fun z => I.pin p (List.mem_append_right _ z)) fun z => by
    obtain ⟨hb, e⟩ := of_pinsAt z
    obtain ⟨f0, f1, f2, _⟩ := hf p.1 hb
    obtain ⟨o, e', d⟩ := ho p.1 hb
    rw [e] at e'; cases e'
    exact ⟨e, f0, f1, f2, d⟩
theorem Inv.unpinned {pins pl : List (Addr × Obj)} {σ : St} {H : Hp} {s : Shared} (I : Inv X (pins ++ pl) σ H s) : Inv X pins σ H s := I.pins_of fun p hp => I.pin p (List.mem_append_right _ (List.mem_append_left _ hp))
theorem ps_for {iter : Expr} {body : List Stmt} {wi : TI} {g : TG} {tb : TS} {pos : Pos} (hp : PassesOwn (model X.prog X.w) X.A X.env X.xe) (hc : X.calm = true) (hi : PI X tg iter wi) (hg : PG X tg g) (hb : PSs X body tb)
    (hs : ∀ x, foldedSetIterable iter X.env x = pure x := by intro _; rfl) : PS X (.For tg iter body [] pos) (tFor wi g tb) := by
  intro pins s σ H D I h
  refine wpAny_For (thn (hi pins s σ H _ I h) fun v s1 h1 => thn h1 fun itv s2 h2 => ?_) hs
  obtain ⟨it, fp, tn, J, H2, e, I2, T, st2, f2, W, ⟨m0, w0⟩, turn⟩ := h2
  subst e
  -- what stays true of the iterator's objects through the loop
  have stat : ∀ {H' : Hp}, (∀ b ∈ fp, H' b = none) → ∀ b ∈ fp, FpOk X pins H' b := fun hn b hb => ⟨hn b hb, (f2 b hb).2⟩
  refine codeAny_forLoop_any (fun n s' => ∃ i σ' H', Inv X pins σ' H' s' ∧ tn i s'.heap ∧ (∀ b ∈ fp, H' b = none) ∧ W i n σ' H') ?_ m0 ⟨0, σ, H2, I2, st2, fun b hb => (f2 b hb).1, w0⟩
  rintro n s3 ⟨i, σ3, H3, I3, st3, fr3, w3⟩
  rcases turn i n σ3 H3 w3 with ⟨stop, qn⟩ | ⟨go, N, hN, step⟩
  · refine wpAny_passesOwn hp (thn (T.done X rfl rfl rfl hc i pins s3 σ3 H3 X.xe I3 (stat fr3) st3 stop) fun r s4 ⟨hr, I4⟩ => ?_)
    subst hr
    exact wpAny_execs_nil ⟨σ3, H3, I4, qn⟩
  · refine wpAny_passesOwn hp (thn (T.item X rfl rfl rfl hc i pins s3 σ3 H3 X.xe I3 (stat fr3) st3 go) fun r s4 ⟨u, hr, h4⟩ => ?_)
    subst hr
    refine wpAny_passesOwn hp (thn h4 fun _ s5 ⟨x, H5, I5, r5, y5, st5, fr5⟩ => ?_)
    have I5' := I5.pinned (stat fr5) (T.obj _ _ st5)
    refine wpAny_passesOwn hp (thn (hg _ s5 σ3 H5 x u _ I5' r5 (step x H5 y5)) fun _ s6 ⟨σ6, H6, I6, q6⟩ => ?_)
    refine wpAny_passesOwn hp (thn (hb _ s6 σ6 H6 _ I6 q6) fun f s7 q7 => ?_)
    have again : ∀ {σ7 : St} {H7 : Hp}, Inv X (pins ++ pinsAt fp s5.heap) σ7 H7 s7 → N σ7 H7 → ∃ m, m < n ∧ ∃ i σ' H', Inv X pins σ' H' s7 ∧ tn i s7.heap ∧ (∀ b ∈ fp, H' b = none) ∧ W i m σ' H' := fun {σ7 H7} I7 n7 => by
      obtain ⟨m', hm, w7⟩ := hN σ7 H7 n7
      refine ⟨m', hm, i + 1, σ7, H7, I7.unpinned, T.keep _ _ _ st5 fun b hb o e => (I7.pin (b, o) (List.mem_append_right _ (List.mem_append_right _ (mem_pinsAt hb e)))).1, fun b hb => ?_, w7⟩
      obtain ⟨o, e, d⟩ := T.obj _ _ st5 b hb
      exact (I7.pin (b, o) (List.mem_append_right _ (List.mem_append_right _ (mem_pinsAt hb e)))).2.1
    cases f with
    | next => obtain ⟨σ7, H7, I7, n7⟩ := q7; exact again I7 n7
    | cont => obtain ⟨σ7, H7, I7, n7⟩ := q7; exact again I7 n7
    | brk => obtain ⟨σ7, H7, I7, q7⟩ := q7; exact ⟨σ7, H7, I7.unpinned, q7⟩
    | ret v => obtain ⟨x7, σ7, H7, I7, r7, q7⟩ := q7; exact ⟨x7, σ7, H7, I7.unpinned, r7, q7⟩
end
end L2
namespace L2
open PySem PySem.Spec PyProof.Rows
abbrev R2 := V → V → Hp → VK → Prop
def OpR (X : Cx) (f : Value → Value → Sem Value) (r : R2) : Prop :=
  ∀ (pins : List (Addr × Obj)) (s : Shared) (σ : St) (H : Hp) (x y : V) (v u : Value) (Q : VK), Inv X pins σ H s → RelV x v → RelV y u → r x y H Q →
    wpAny (model X.prog X.w) X.A (f v u) (EP X pins σ Q) X.xe s
def UnR (X : Cx) (f : Value → Sem Value) (r : V → Hp → VK → Prop) : Prop :=
  ∀ (pins : List (Addr × Obj)) (s : Shared) (σ : St) (H : Hp) (x : V) (v : Value) (Q : VK), Inv X pins σ H s → RelV x v → r x H Q →
    wpAny (model X.prog X.w) X.A (f v) (EP X pins σ Q) X.xe s
def CallR (X : Cx) (f : Value) (r : List V → Hp → VK → Prop) : Prop :=
  ∀ (pins : List (Addr × Obj)) (s : Shared) (σ : St) (H : Hp) (xs : List V) (us : List Value) (Q : VK), Inv X pins σ H s → Vals xs us → r xs H Q →
    wpAny (model X.prog X.w) X.A (call f us) (EP X pins σ Q) X.xe s
def TruR (X : Cx) (r : V → Hp → (Bool → Hp → Prop) → Prop) : Prop :=
  ∀ (pins : List (Addr × Obj)) (s : Shared) (σ : St) (H : Hp) (x : V) (v : Value) (Q : Bool → Hp → Prop), Inv X pins σ H s → RelV x v → r x H Q →
    wpAny (model X.prog X.w) X.A (truthy v) (TP X pins σ Q) X.xe s
def tOp (r : R2) (ta tb : TE) : TE := fun σ H Q => ta σ H fun x H1 => tb σ H1 fun y H2 => r x y H2 Q
def tUn (r : V → Hp → VK → Prop) (ta : TE) : TE := fun σ H Q => ta σ H fun x H1 => r x H1 Q
def rI (C : Int → Int → Prop) (g : Int → Int → V) : R2 := fun x y H Q => ∃ i j, x = .int i ∧ y = .int j ∧ C i j ∧ Q (g i j) H
def rI0 (g : Int → Int → V) : R2 := fun x y H Q => ∃ i j, x = .int i ∧ y = .int j ∧ Q (g i j) H
def rU (g : Int → V) : V → Hp → VK → Prop := fun x H Q => ∃ i, x = .int i ∧ Q (g i) H
section
variable {X : Cx} {a b c : Expr} {ta tb tc : TE} {pos : Pos}
theorem binT (ha : PE X a ta) (hb : PE X b tb) {pins : List (Addr × Obj)} {s : Shared} {σ : St} {H : Hp} {R : V → V → Hp → Prop} (I : Inv X pins σ H s)
    (h : ta σ H fun x H1 => tb σ H1 fun y H2 => R x y H2) {Q : Value → Shared → Prop} {f : Value → Value → Sem Value}
    (hf : ∀ v u s2 x y H2, Inv X pins σ H2 s2 → RelV x v → RelV y u → R x y H2 → wpAny (model X.prog X.w) X.A (f v u) Q X.xe s2) :
    wpAny (model X.prog X.w) X.A (eval a X.env) (fun v s₁ => wpAny (model X.prog X.w) X.A (eval b X.env) (fun u s₂ => wpAny (model X.prog X.w) X.A (f v u) Q X.xe s₂) X.xe s₁) X.xe s := by
  refine thn (ha pins s σ H _ I h) fun v s1 ⟨x, H1, I1, r1, q1⟩ => ?_
  refine thn (hb pins s1 σ H1 _ I1 q1) fun u s2 ⟨y, H2, I2, r2, q2⟩ => ?_
  exact hf v u s2 x y H2 I2 r1 r2 q2
theorem pe_op {op : Operator} {r : R2} (ho : OpR X (binaryOp op) r) (ha : PE X a ta) (hb : PE X b tb) : PE X (.BinOp a op b pos) (tOp r ta tb) := by
  intro pins s σ H Q I h
  exact wpAny_BinOp (binT ha hb I h fun v u s2 x y H2 I2 rx ry q => ho pins s2 σ H2 x y v u Q I2 rx ry q)
theorem pe_un {op : UnaryOp} {r : V → Hp → VK → Prop} (ho : UnR X (unaryOp op) r) (ha : PE X a ta) : PE X (.UnaryOp op a pos) (tUn r ta) := by
  intro pins s σ H Q I h
  exact UnaryOp_ (thn (ha pins s σ H _ I h) fun v s1 ⟨x, H1, I1, r1, q1⟩ => ho pins s1 σ H1 x v Q I1 r1 q1)
theorem opI {f : Value → Value → Sem Value} {C : Int → Int → Prop} {g : Int → Int → Int}
    (rule : ∀ (i j : Int) (t u : Tok) (s : Shared) (Q : Value → Shared → Prop) (E : Value → Shared → Prop), C i j → Q (.int (g i j) s.toks) { s with toks := s.toks + 1 } → wpAny (model X.prog X.w) X.A (f (.int i t) (.int j u)) Q E s) :
    OpR X f (rI C fun i j => .int (g i j)) := by
  intro pins s σ H x y v u Q I rx ry h
  obtain ⟨i, j, rfl, rfl, hc, q⟩ := h
  obtain ⟨t, rfl⟩ := rx
  obtain ⟨t', rfl⟩ := ry
  exact rule i j t t' s _ _ hc ⟨.int (g i j), H, I.tok _, ⟨_, rfl⟩, q⟩
theorem opI0 {f : Value → Value → Sem Value} {g : Int → Int → Int}
    (rule : ∀ (i j : Int) (t u : Tok) (s : Shared) (Q : Value → Shared → Prop) (E : Value → Shared → Prop), Q (.int (g i j) s.toks) { s with toks := s.toks + 1 } → wpAny (model X.prog X.w) X.A (f (.int i t) (.int j u)) Q E s) :
    OpR X f (rI0 fun i j => .int (g i j)) := by
  intro pins s σ H x y v u Q I rx ry h
  obtain ⟨i, j, rfl, rfl, q⟩ := h
  obtain ⟨t, rfl⟩ := rx
  obtain ⟨t', rfl⟩ := ry
  exact rule i j t t' s _ _ ⟨.int (g i j), H, I.tok _, ⟨_, rfl⟩, q⟩
theorem opB0 {f : Value → Value → Sem Value} {g : Int → Int → Bool}
    (rule : ∀ (i j : Int) (t u : Tok) (s : Shared) (Q : Value → Shared → Prop) (E : Value → Shared → Prop), Q (.bool (g i j)) s → wpAny (model X.prog X.w) X.A (f (.int i t) (.int j u)) Q E s) :
    OpR X f (rI0 fun i j => .bl (g i j)) := by
  intro pins s σ H x y v u Q I rx ry h
  obtain ⟨i, j, rfl, rfl, q⟩ := h
  obtain ⟨t, rfl⟩ := rx
  obtain ⟨t', rfl⟩ := ry
  exact rule i j t t' s _ _ ⟨.bl (g i j), H, I, rfl, q⟩
def CPow (i j : Int) : Prop := 0 ≤ j ∧ j ≤ 1000000 ∧ i.natAbs < 2 ^ 64
def CMul (i j : Int) : Prop := (-(2 ^ 64) < i ∧ i < 2 ^ 64) ∨ (-(2 ^ 64) < j ∧ j < 2 ^ 64)
theorem CMul.ok {i j : Int} (h : CMul i j) : IntMulOk i j := by
  rcases h with ⟨h1, h2⟩ | ⟨h1, h2⟩
  · exact .of_left (intBits_le_64 h1 h2)
  · exact .of_right (intBits_le_64 h1 h2)
theorem op_add : OpR X (binaryOp .Add) (rI0 fun i j => .int (i + j)) := opI0 fun _ _ _ _ _ _ _ q => add_int q
theorem op_sub : OpR X (binaryOp .Sub) (rI0 fun i j => .int (i - j)) := opI0 fun _ _ _ _ _ _ _ q => sub_int q
theorem op_mul : OpR X (binaryOp .Mult) (rI CMul fun i j => .int (i * j)) := opI fun _ _ _ _ _ _ _ hc q => mul_int q hc.ok
theorem op_mod : OpR X (binaryOp .Mod) (rI (fun _ j => 0 < j) fun i j => .int (i % j)) := opI fun i j _ _ _ _ _ hc q => by
  have h1 : (0 : Int) < j := hc
  exact mod_int' (by omega) (by rw [Int.fmod_eq_emod_of_nonneg i (by omega)]; exact q)
theorem op_pow : OpR X (binaryOp .Pow) (rI CPow fun i j => .int (i ^ j.toNat)) := opI fun _ _ _ _ _ _ _ hc q => pow_int_small hc.1 hc.2.1 hc.2.2 q
theorem unI {f : Value → Sem Value} {g : Int → Int}
    (rule : ∀ (i : Int) (t : Tok) (s : Shared) (Q : Value → Shared → Prop) (E : Value → Shared → Prop), Q (.int (g i) s.toks) { s with toks := s.toks + 1 } → wpAny (model X.prog X.w) X.A (f (.int i t)) Q E s) :
    UnR X f (rU fun i => .int (g i)) := by
  intro pins s σ H x v Q I rx h
  obtain ⟨i, rfl, q⟩ := h
  obtain ⟨t, rfl⟩ := rx
  exact rule i t s _ _ ⟨.int (g i), H, I.tok _, ⟨_, rfl⟩, q⟩
theorem un_neg : UnR X (unaryOp .USub) (rU fun i => .int (-i)) := unI fun _ _ _ _ _ q => neg_int q
end
section
variable {X : Cx} {a b c : Expr} {ta tb tc : TE} {pos : Pos}
theorem fin_bl {pins : List (Addr × Obj)} {σ : St} {H : Hp} {s : Shared} {Q : VK} {k k' : Bool} (I : Inv X pins σ H s) (q : Q (.bl k) H) (e : k = k') : EP X pins σ Q (.bool k') s := by
  subst e
  exact ⟨.bl k, H, I, rfl, q⟩
theorem op_lt : OpR X (compareOp .Lt) (rI0 fun i j => .bl (decide (i < j))) := opB0 fun _ _ _ _ _ _ _ q => lt_int q
theorem op_le : OpR X (compareOp .LtE) (rI0 fun i j => .bl (decide (i ≤ j))) := opB0 fun _ _ _ _ _ _ _ q => le_int q
theorem op_gt : OpR X (compareOp .Gt) (rI0 fun i j => .bl (decide (j < i))) := opB0 fun _ _ _ _ _ _ _ q => gt_int q
theorem op_ge : OpR X (compareOp .GtE) (rI0 fun i j => .bl (decide (j ≤ i))) := opB0 fun _ _ _ _ _ _ _ q => ge_int q
theorem op_in_str : OpR X (compareOp .In) (fun x y H Q => ∃ i j, x = .str i ∧ y = .str j ∧ Q (.bl (!(Builtin.Str.occurrences j i 0 j.length 1).isEmpty)) H) := by
  intro pins s σ H x y v u Q I rx ry h
  obtain ⟨i, j, rfl, rfl, q⟩ := h
  obtain ⟨t, rfl⟩ := rx
  obtain ⟨t', rfl⟩ := ry
  exact in_str (fin_bl I q rfl)
theorem op_isN : OpR X (compareOp .Is) (fun x y H Q => y = .non ∧ Q (.bl (decide (x = .non))) H) := by
  intro pins s σ H x y v u Q I rx ry h
  obtain ⟨rfl, q⟩ := h
  cases ry
  refine is_none_gen (fin_bl I q ?_)
  cases x <;> first
    | (cases rx; rfl)
    | (obtain ⟨t, rfl⟩ := rx; rfl)
theorem op_notN : OpR X (compareOp .IsNot) (fun x y H Q => y = .non ∧ Q (.bl (!decide (x = .non))) H) := by
  intro pins s σ H x y v u Q I rx ry h
  obtain ⟨rfl, q⟩ := h
  cases ry
  refine isnot_none_gen (fin_bl I q ?_)
  cases x <;> first
    | (cases rx; rfl)
    | (obtain ⟨t, rfl⟩ := rx; rfl)
theorem OpR.or {f : Value → Value → Sem Value} {r r' : R2} (h : OpR X f r) (h' : OpR X f r') : OpR X f (fun x y H Q => r x y H Q ∨ r' x y H Q) := by
  intro pins s σ H x y v u Q I rx ry q
  rcases q with q | q
  · exact h pins s σ H x y v u Q I rx ry q
  · exact h' pins s σ H x y v u Q I rx ry q
theorem nomark (b : Expr) {op : CmpOp} (h : op ≠ .In := by decide) (h2 : op ≠ .NotIn := by decide) : behindInMarks op b = false := by
  have e1 : (op == CmpOp.In) = false := by cases op <;> first | rfl | exact absurd rfl h
  have e2 : (op == CmpOp.NotIn) = false := by cases op <;> first | rfl | exact absurd rfl h2
  cases b <;> simp [behindInMarks, e1, e2]
theorem pe_cmpR {op : CmpOp} {r : R2} (ho : OpR X (compareOp op) r) (ha : PE X a ta) (hb : PE X b tb) (hm : behindInMarks op b = false) : PE X (.Compare a [op] [b] pos) (tOp r ta tb) := by
  intro pins s σ H Q I h
  exact wpAny_Compare1 (binT ha hb I h fun v u s2 x y H2 I2 rx ry q => ho pins s2 σ H2 x y v u Q I2 rx ry q) hm
def tTest (t : TE) : TT := fun σ H Q => t σ H fun x H' => ∃ k, x = .bl k ∧ Q k H'
theorem pt_cmpR {op : CmpOp} {r : R2} (ho : OpR X (compareOp op) r) (ha : PE X a ta) (hb : PE X b tb) (hm : behindInMarks op b = false) : PT X (.Compare a [op] [b] pos) (tTest (tOp r ta tb)) := by
  intro pins s σ H Q I h
  refine wpAny_isTrue_Compare1 (thn (ha pins s σ H _ I h) fun v s1 ⟨x, H1, I1, r1, q1⟩ => thn (hb pins s1 σ H1 _ I1 q1) fun u s2 ⟨y, H2, I2, r2, q2⟩ =>
    thn (ho pins s2 σ H2 x y v u _ I2 r1 r2 q2) fun c s3 ⟨z, H3, I3, r3, k, e, q3⟩ => ?_) hm
  subst e
  cases r3
  exact wpAny_truthy_bool ⟨H3, I3, q3⟩
def tChain (r r' : R2) (ta tb tc : TE) : TE := fun σ H Q => ta σ H fun x H1 => tb σ H1 fun y H2 => r x y H2 fun z H3 => ∃ k, z = .bl k ∧
  (if k = true then tc σ H3 fun w' H4 => r' y w' H4 Q else Q (.bl false) H3)
theorem pt_chain {op op' : CmpOp} {r r' : R2} (ho : OpR X (compareOp op) r) (ho' : OpR X (compareOp op') r') (ha : PE X a ta) (hb : PE X b tb) (hc : PE X c tc)
    (hm : lastMarks [op, op'] [b, c] = false := by with_unfolding_all rfl) : PT X (.Compare a [op, op'] [b, c] pos) (tTest (tChain r r' ta tb tc)) := by
  intro pins s σ H Q I h
  refine isTrue_chain (thn (ha pins s σ H _ I h) fun v s1 ⟨x, H1, I1, r1, q1⟩ => test_link (thn (hb pins s1 σ H1 _ I1 q1) fun u s2 ⟨y, H2, I2, r2, q2⟩ =>
    thn (ho pins s2 σ H2 x y v u _ I2 r1 r2 q2) fun d s3 ⟨z, H3, I3, r3, k, e, q3⟩ => ?_)) hm
  subst e
  cases r3
  refine wpAny_truthy_bool ?_
  cases k with
  | false =>
    obtain ⟨k', e', q'⟩ := q3
    cases e'
    exact ite_ff ⟨H3, I3, q'⟩
  | true =>
    refine ite_tt (test_last (thn (hc pins s3 σ H3 _ I3 q3) fun w' s4 ⟨z', H4, I4, r4, q4⟩ => thn (ho' pins s4 σ H4 y z' u w' _ I4 r2 r4 q4) fun d' s5 ⟨z2, H5, I5, r5, k2, e2, q5⟩ => ?_))
    subst e2
    cases r5
    exact wpAny_truthy_bool ⟨H5, I5, q5⟩
def TruV (K : PySem.W.Frag) (x : V) (H : Hp) (k : Bool) : Prop :=
  match x with
  | .non => k = false
  | .bl b => k = b
  | .int i => k = (i != 0)
  | .str y => y.length ≤ sizeLine ∧ k = ((y.length : Int) != 0)
  | .byt y => y.size ≤ sizeLine ∧ k = ((y.size : Int) != 0)
  | .ref p => (∃ xs, SqL K H p xs ∧ k = !xs.isEmpty) ∨ (∃ xs, SqT K H p xs ∧ k = !xs.isEmpty) ∨ ∃ kvs, H p = some (.dK kvs) ∧ k = !kvs.isEmpty
  | _ => False
theorem isEmpty_kv {κ : Type} {kvs : List (κ × V)} {vs : List (κ × Value)} (r : KV kvs vs) : (!vs.isEmpty) = !kvs.isEmpty := by
  cases r <;> rfl
theorem isEmpty_of {xs : List V} {its : List Value} (r : Vals xs its) : (!its.toArray.isEmpty) = !xs.isEmpty := by
  cases r <;> simp
theorem line63 : (sizeLine : Nat) < 2 ^ 63 := by rw [sizeLine_eq]; decide
theorem tru_ok : TruR X (fun x H Q => ∃ k, TruV X.K x H k ∧ Q k H) := by
  intro pins s σ H x v Q I rx h
  obtain ⟨k, e, q⟩ := h
  have hl := line63
  have hs : sizeLine = 16777216 := sizeLine_eq
  cases x with
  | non =>
    cases rx
    have e' : k = false := e
    subst e'
    exact truthy_none ⟨H, I, q⟩
  | bl b =>
    cases rx
    have e' : k = b := e
    subst e'
    exact wpAny_truthy_bool ⟨H, I, q⟩
  | int i =>
    obtain ⟨t, rfl⟩ := rx
    have e' : k = (i != 0) := e
    subst e'
    exact PySem.P.truthy_int ⟨H, I, q⟩
  | str y =>
    obtain ⟨t, rfl⟩ := rx
    obtain ⟨hy, e'⟩ : y.length ≤ sizeLine ∧ k = ((y.length : Int) != 0) := e
    subst e'
    exact PySem.P.truthy_str (by omega) ⟨H, I.tok _, q⟩
  | byt y =>
    obtain ⟨t, rfl⟩ := rx
    obtain ⟨hy, e'⟩ : y.size ≤ sizeLine ∧ k = ((y.size : Int) != 0) := e
    subst e'
    exact PySem.W.truthy_bytes (by omega) ⟨H, I.tok _, q⟩
  | ref p =>
    cases rx
    have e' : (∃ xs, SqL X.K H p xs ∧ k = !xs.isEmpty) ∨ (∃ xs, SqT X.K H p xs ∧ k = !xs.isEmpty) ∨ ∃ kvs, H p = some (.dK kvs) ∧ k = !kvs.isEmpty := e
    rcases e' with ⟨xs, hx, e'⟩ | ⟨xs, hx, e'⟩ | ⟨kvs, hx, e'⟩
    · subst e'
      obtain ⟨its, r, pl, hz⟩ := I.list hx
      have hlen := r.length
      exact wpAny_truthy_list pl.isList (by simp only [List.size_toArray]; omega) ⟨H, I.tok _, by rw [isEmpty_of r]; exact q⟩
    · subst e'
      obtain ⟨its, r, pl, hz⟩ := I.tuple hx
      have hlen := r.length
      exact truthy_tuple pl (by simp only [List.size_toArray]; omega) ⟨H, I.tok _, by rw [isEmpty_of r]; exact q⟩
    · subst e'
      obtain ⟨hz, hS, vs, r, m⟩ : kvs.length ≤ sizeLine ∧ (p == sysModules) = false ∧ ∃ vs, KV kvs vs ∧ s.heap.DictOf (mixKind X.prog X.w) p vs := I.hok p _ hx
      have hlen : kvs.length = vs.length := Paired.length r
      exact wpAny_truthy_dict hS m (by omega) ⟨H, I.tok _, by rw [isEmpty_kv r]; exact q⟩
  | _ => exact (show False from e).elim
theorem pt_truth (ha : PE X a ta) (he : ∀ whole, isTrue a X.env whole = (do let v ← whole; standAt a.pos; holding [v] (truthy v))) :
    PT X a (fun σ H Q => ta σ H fun x H' => ∃ k, TruV X.K x H' k ∧ Q k H') := by
  intro pins s σ H Q I h
  exact isTrue_plain (thn (ha pins s σ H _ I h) fun v s1 ⟨x, H1, I1, r1, q1⟩ => tru_ok pins s1 σ H1 x v Q I1 r1 q1) (he _)
theorem op_add_str : OpR X (binaryOp .Add) (fun x y H Q => ∃ i j, x = .str i ∧ y = .str j ∧ i.length + j.length ≤ sizeLine ∧ Q (.str (i ++ j)) H) := by
  intro pins s σ H x y v u Q I rx ry h
  obtain ⟨i, j, rfl, rfl, hz, q⟩ := h
  obtain ⟨t, rfl⟩ := rx
  obtain ⟨t', rfl⟩ := ry
  exact add_str (fun t' tk => ⟨.str (i ++ j), H, I.tok _, ⟨_, rfl⟩, q⟩) hz
theorem vals1 {x : V} {us : List Value} (r : Vals [x] us) : ∃ u, us = [u] ∧ RelV x u := by
  cases r with
  | cons r1 r2 => cases r2; exact ⟨_, rfl, r1⟩
theorem vals2 {x y : V} {us : List Value} (r : Vals [x, y] us) : ∃ u w', us = [u, w'] ∧ RelV x u ∧ RelV y w' := by
  cases r with
  | cons r1 r2 =>
    cases r2 with
    | cons r3 r4 => cases r4; exact ⟨_, _, rfl, r1, r3⟩
theorem call_min2 (hc : X.calm = true) : CallR X (.builtin "min") (fun xs H Q => ∃ i j, xs = [.int i, .int j] ∧ Q (.int (if j < i then j else i)) H) := by
  intro pins s σ H xs us Q I r h
  obtain ⟨i, j, rfl, q⟩ := h
  obtain ⟨u, w', rfl, ⟨t, rfl⟩, ⟨t', rfl⟩⟩ := vals2 r
  refine min_two_ints (I.ok.hd hc) fun h' tk k => ⟨_, H, I.kept k, ?_, q⟩
  by_cases hj : j < i
  · rw [if_pos hj, if_pos hj]; exact ⟨_, rfl⟩
  · rw [if_neg hj, if_neg hj]; exact ⟨_, rfl⟩
theorem call_str_int : CallR X (.type "str") (fun xs H Q => ∃ i, xs = [.int i] ∧ i.natAbs.log2 < 1920 ∧ Q (.str (toString i)) H) := by
  intro pins s σ H xs us Q I r h
  obtain ⟨i, rfl, hz, q⟩ := h
  obtain ⟨u, rfl, t, rfl⟩ := vals1 r
  exact PySem.P.str_of_int hz ⟨.str _, H, I.tok _, ⟨_, rfl⟩, q⟩
def LenV (K : PySem.W.Frag) (x : V) (H : Hp) (n : Nat) : Prop :=
  match x with
  | .str y => y.length ≤ sizeLine ∧ n = y.length
  | .byt y => y.size ≤ sizeLine ∧ n = y.size
  | .ref p => (∃ xs, SqL K H p xs ∧ n = xs.length) ∨ ∃ xs, SqT K H p xs ∧ n = xs.length
  | _ => False
theorem call_len : CallR X (.builtin "len") (fun xs H Q => ∃ x n, xs = [x] ∧ LenV X.K x H n ∧ Q (.int n) H) := by
  intro pins s σ H xs us Q I r h
  obtain ⟨x, n, rfl, e, q⟩ := h
  obtain ⟨u, rfl, rx⟩ := vals1 r
  have hl := line63
  have hs : sizeLine = 16777216 := sizeLine_eq
  cases x with
  | str y =>
    obtain ⟨t, rfl⟩ := rx
    obtain ⟨hy, e'⟩ : y.length ≤ sizeLine ∧ n = y.length := e
    subst e'
    exact len_str (by omega) ⟨.int _, H, I.tok _, ⟨_, rfl⟩, q⟩
  | byt y =>
    obtain ⟨t, rfl⟩ := rx
    obtain ⟨hy, e'⟩ : y.size ≤ sizeLine ∧ n = y.size := e
    subst e'
    exact PySem.W.len_bytes (by omega) ⟨.int _, H, I.tok _, ⟨_, rfl⟩, q⟩
  | ref p =>
    cases rx
    have e' : (∃ xs, SqL X.K H p xs ∧ n = xs.length) ∨ ∃ xs, SqT X.K H p xs ∧ n = xs.length := e
    rcases e' with ⟨xs, hx, e'⟩ | ⟨xs, hx, e'⟩
    · subst e'
      obtain ⟨its, r', pl, hz⟩ := I.list hx
      have hlen := r'.length
      exact Calls.call_len_list pl.isList (by simp only [List.size_toArray]; omega) ⟨.int xs.length, H, I.tok _, ⟨_, by simp only [List.size_toArray]; rw [hlen]⟩, q⟩
    · subst e'
      obtain ⟨its, r', pl, hz⟩ := I.tuple hx
      have hlen := r'.length
      exact len_tuple pl (by simp only [List.size_toArray]; omega) ⟨.int xs.length, H, I.tok _, ⟨_, by simp only [List.size_toArray]; rw [hlen]⟩, q⟩
  | _ => exact (show False from e).elim
end
end L2
namespace L2
open PySem PySem.Spec PyProof.Rows
structure ObjM (h : Heap) (x dx C : Addr) (mA : Str → Option Value) : Prop where
  obj : h.get? x = some (PySem.W.instObj C dx)
  ns : h.Ns1 dx mA
  ne : dx ≠ x
theorem lookIn_ns {h : Heap} {dx : Addr} {mA : Str → Option Value} (n : h.Ns1 dx mA) : ∃ od, h.get? dx = some od ∧ ∀ name, PySem.W.lookIn name od = some (mA name) := by
  obtain ⟨o, es, ep, ho, hd, hk, _, hm⟩ := n
  refine ⟨o, ho, fun name => ?_⟩
  have e := hm name
  unfold nsFind findBy at e
  rw [← Array.find?_toList] at e
  unfold PySem.W.lookIn
  rw [hd]
  dsimp only
  split
  · rename_i y q
    rw [q] at e
    exact congrArg some e
  · rename_i q
    rw [q] at e
    have a : es.toList.any (·.refKey) = false := by
      rw [List.any_eq_false]
      intro y hy
      obtain ⟨z, t, hkey⟩ := hk y (Array.mem_toList_iff.mp hy)
      simp [DictEntry.refKey, hkey]
    have a' : ¬ es.toList.any (·.refKey) = true := by rw [a]; exact Bool.false_ne_true
    rw [if_neg a']
    exact congrArg some e
theorem ObjM.look {h : Heap} {x dx C : Addr} {mA : Str → Option Value} (I : ObjM h x dx C mA) : ∃ od, PySem.W.InstAt h x (PySem.W.instObj C dx) C (some od) ∧ ∀ name, PySem.W.lookIn name od = some (mA name) :=
  let ⟨od, ho, hl⟩ := lookIn_ns I.ns
  ⟨od, ⟨I.obj, rfl, rfl, ho⟩, hl⟩
section
variable {prog : Program} {w : World} {A : Around} {E : Value → Shared → Prop} {s : Shared} {K : PySem.W.Frag} {x dx C f : Addr} {mA : Str → Option Value} {name : Str} {v : Value}
end
section
variable {P : Program} {w : World} {H H' : Hp} {h h' : Heap} {a C dx : Addr} {fs fs' : List (Str × V)}
end
structure Cls (K : PySem.W.Frag) (C : Addr) : Prop where
  pg : PySem.W.plainGet K C Str.empty = true
  hd : PySem.W.hasDictIn K C = true
  po : PySem.W.plainOver K C = true
  sa : PySem.W.findIn K (.ref C) "__setattr__" = some (some (.builtin "object.__setattr__"))
theorem Cls.get {K : PySem.W.Frag} {C : Addr} (c : Cls K C) (f : Str) : PySem.W.plainGet K C f = true := c.pg
structure Con (K : PySem.W.Frag) (C : Addr) (f : Str) (v : V) (u : Value) : Prop where
  at_ : PySem.W.findIn K (.ref C) f = some (some u)
  rel : RelV v u
  get : PySem.W.specialIn K u "__get__" = some none
  cp : PySem.W.copiedNames.contains f = false
structure Meth (K : PySem.W.Frag) (C : Addr) (m : Str) (f : Addr) : Prop where
  at_ : PySem.W.findIn K (.ref C) m = some (some (.ref f))
  fn : PySem.W.isFn K (.ref f) = true
  kp : PySem.W.keepIn K (.ref f) = true
section
variable {X : Cx} {pins : List (Addr × Obj)} {σ : St} {H : Hp} {s : Shared} {a C dx : Addr} {fs : List (Str × V)} {f : Str} {v : V} {A : Around} {E : Value → Shared → Prop}
end
section
variable {X : Cx} {o e value : Expr} {f : Str} {pos pos' tpos : Pos} {ta tv : TE}
end
section
variable {X : Cx} {pins : List (Addr × Obj)} {σ : St} {H : Hp} {s : Shared} {A : Around} {E : Value → Shared → Prop} {Q : Value → Shared → Prop} {c : Value} {b : Bool}
inductive TyOf (K : PySem.W.Frag) (H : Hp) : V → Value → Prop where
  | non : TyOf K H .non (.type "NoneType")
  | bl (x : Bool) : TyOf K H (.bl x) (.type "bool")
  | int (i : Int) : TyOf K H (.int i) (.type "int")
  | str (x : Str) : TyOf K H (.str x) (.type "str")
  | flt (x : UInt64) : TyOf K H (.flt x) (.type "float")
  | lst {a : Addr} {xs : List V} (e : H a = some (.lst xs)) : TyOf K H (.ref a) (.type "list")
  | frz {a : Addr} {o : Obj} {xs : List V} (e : H a = some (.frz o (.lst xs))) : TyOf K H (.ref a) (.type "list")
  | tup {a : Addr} {xs : List V} (e : H a = some (.tup xs)) : TyOf K H (.ref a) (.type "tuple")
  | dK {a : Addr} {kvs : List (Key × V)} (e : H a = some (.dK kvs)) : TyOf K H (.ref a) (.type "dict")
  | dT {a : Addr} {kvs : List (List Key × V)} (e : H a = some (.dT kvs)) : TyOf K H (.ref a) (.type "dict")
  | ins {a C dx : Addr} {fs : List (Str × V)} (e : H a = some (.ins C dx fs)) (cl : Cls K C) (ha : PySem.W.findIn K (.ref C) "__class__" = some (some (.builtin "object.__class__")))
      (hn : PySem.W.specialIn K (.builtin "object.__class__") "__get__" = some (some (.builtin "getset_descriptor.__get__"))) (htk : PySem.W.takesIn K (.builtin "object.__class__") = some true)
      (hm : PySem.W.mroIn K C (.type "object") = some true) : TyOf K H (.ref a) (.ref C)
end
end L2
namespace L2
open PySem PySem.Spec PyProof.Rows
structure Room (k : Nat) (A : Around) : Prop where
  hd : A.handled = none
  dp : A.depth + 3 * k + 5 < recursionLimit
  un : A.units + 16 * k + 200 < cLine
  gd : A.guards = some []
theorem Room.mono {j k : Nat} {A : Around} (r : Room k A) (h : j ≤ k) : Room j A := ⟨r.hd, by have := r.dp; omega, by have := r.un; omega, r.gd⟩
theorem Room.deeper {k : Nat} {A : Around} (r : Room (k + 1) A) (env : Env) : Room k (A.deeper env) :=
  ⟨r.hd, by have := r.dp; show A.depth + 1 + 3 * k + 5 < _; omega, by have := r.un; show A.units + 3 + 16 * k + 200 < _; omega, by first | exact r.gd | (simpa [Around.deeper] using r.gd)⟩
theorem Room.in1 {k : Nat} {A : Around} (r : Room (k + 1) A) : Room k A.in1 :=
  ⟨r.hd, by have := r.dp; show A.depth + 3 * k + 5 < _; omega, by have := r.un; show A.units + 1 + 16 * k + 200 < _; omega, r.gd⟩
theorem Room.depth {k : Nat} {A : Around} (r : Room k A) : A.depth < recursionLimit := by have := r.dp; omega
theorem Room.units {k : Nat} {A : Around} (r : Room k A) : A.units + 64 < cLine := by have := r.un; omega
def tNil : TA := fun _ H Q => Q [] H
def tCons (ta : TE) (tr : TA) : TA := fun σ H Q => ta σ H fun x H1 => tr σ H1 fun xs H2 => Q (x :: xs) H2
section
variable {X : Cx} {e : Expr} {es : List Expr} {te : TE} {t : TA} {pos : Pos}
theorem pa_nil : PA X [] tNil := fun _ _ _ _ H Q I h => Calls.spliced_nil ⟨[], H, I, .nil, h⟩
theorem pa_cons (ha : PE X e te) (hr : PA X es t) (hs : starEach (e :: es) X.env = (false, eval e X.env) :: starEach es X.env := by rfl) : PA X (e :: es) (tCons te t) := by
  intro pos pins s σ H Q I h
  rw [hs]
  show wpAny _ _ (spliced ((false, eval e X.env) :: backTo pos (starEach es X.env))) _ _ s
  refine Calls.spliced_cons (thn (ha pins s σ H _ I h) fun u s1 ⟨x, H1, I1, r1, q1⟩ => ?_)
  exact thn (hr pos pins s1 σ H1 _ I1 q1) fun us s2 ⟨xs, H2, I2, r2, q2⟩ => ⟨x :: xs, H2, I2, .cons r1 r2, q2⟩
def tTup (t : TA) : TE := fun σ H Q => t σ H fun xs H1 => xs.length ≤ sizeLine ∧ ∀ p, H1 p = none → Q (.ref p) (upd H1 p (.tup xs))
def tLst (t : TA) : TE := fun σ H Q => t σ H fun xs H1 => xs.length ≤ sizeLine ∧ ∀ p, H1 p = none → Q (.ref p) (upd H1 p (.lst xs))
theorem pe_tup {x1} (h : PA X es t) : PE X (.Tuple es x1 pos) (tTup t) := by
  intro pins s σ H Q I hq
  refine wpAny_Tuple_spliced (thn (h pos pins s σ H _ I hq) fun us s1 ⟨xs, H1, I1, r, z, q⟩ => ⟨by rw [← r.length]; exact z, ?_⟩)
  have hf : H1 s1.heap.objs.size = none := I1.hok.fresh (Nat.le_refl _)
  refine ⟨.ref s1.heap.objs.size, upd H1 s1.heap.objs.size (.tup xs), I1.laid (t' := s1.toks) (fun b u e => Heap.get?_push_of_some _ e) (Nat.le_refl _) ?_, rfl, q _ hf⟩
  exact ⟨z, us, r, ⟨_, Heap.get?_push_size _ rfl, rfl, _, rfl⟩⟩
theorem pe_lst (h : PA X es t) : PE X (.List es pos) (tLst t) := by
  intro pins s σ H Q I hq
  refine wpAny_List_spliced (thn (h pos pins s σ H _ I hq) fun us s1 ⟨xs, H1, I1, r, z, q⟩ => ⟨by rw [← r.length]; exact z, ?_⟩)
  have hf : H1 s1.heap.objs.size = none := I1.hok.fresh (Nat.le_refl _)
  refine ⟨.ref s1.heap.objs.size, upd H1 s1.heap.objs.size (.lst xs), I1.laid (t' := s1.toks) (fun b u e => Heap.get?_push_of_some _ e) (Nat.le_refl _) ?_, rfl, q _ hf⟩
  exact ⟨z, us, 0, r, Heap.get?_push_size _ rfl⟩
end
abbrev Sp := List V → Hp → VK → XK → Prop
abbrev CXT := List Env → Hp → Shared → XK → Value → Shared → Prop
structure Env0 (P : Program) (w : World) (K : PySem.W.Frag) (mg : Str → Option Value) (base : Heap) (A : Around) (outer : List Env) (s : Shared) (H : Hp) : Prop where
  frames : A.frames = some outer
  mod : Mod K mg base
  bs : ∀ b o, base.get? b = some o → s.heap.get? b = some o ∧ H b = none
  bsz : base.objs.size ≤ s.heap.objs.size
  funs : s.heap.FunFrames base outer
  frf : ∀ b ∈ frs outer, H b = none
  hok : HOk P w H s.heap
  bare : AllBare s.gens
def CE (outer : List Env) (P : Program) (w : World) (H : Hp) (s : Shared) (Q : VK) (u : Value) (s' : Shared) : Prop :=
  ∃ v H', s'.os = s.os ∧ AllBare s'.gens ∧ Un (frs outer) [] H H' s.heap s'.heap ∧ HOk P w H' s'.heap ∧ RelV v u ∧ Q v H'
def CR (CX : CXT) (outer : List Env) (P : Program) (w : World) (H : Hp) (s : Shared) (Q : VK) (E : XK) (r : Result) (s' : Shared) : Prop :=
  match r with
  | .ok (.ret u) => CE outer P w H s Q u s'
  | .ok _ => False
  | .error e => CX outer H s E e s'
structure FnOk (P : Program) (w : World) (K : PySem.W.Frag) (mg : Str → Option Value) (base : Heap) (CX : CXT) (k : Nat) (f : Addr) (fd : FuncData) (ps : List Str) (sp : Sp) : Prop where
  len : ∀ vs H Q E, sp vs H Q E → vs.length = ps.length
  run : ∀ (A : Around) (outer : List Env) (s : Shared) (H : Hp) (args : Args) (us : List Value) (vs : List V) (Q : VK) (E : XK), Room k A → Env0 P w K mg base A outer s H → BindsTo s fd args (ps.zip us) → Vals vs us → sp vs H Q E →
    codeAny (model P w) A (.call (.ref f) args) (CR CX outer P w H s Q E) s
theorem FnOk.mono {P : Program} {w : World} {K : PySem.W.Frag} {mg : Str → Option Value} {base : Heap} {CX : CXT} {j k : Nat} {f : Addr} {fd : FuncData} {ps : List Str} {sp : Sp} (F : FnOk P w K mg base CX j f fd ps sp) (h : j ≤ k) :
    FnOk P w K mg base CX k f fd ps sp := ⟨F.len, fun A outer s H args us vs Q E hr => F.run A outer s H args us vs Q E (hr.mono h)⟩
theorem FnOk.imp {P : Program} {w : World} {K : PySem.W.Frag} {mg : Str → Option Value} {base : Heap} {CX : CXT} {k : Nat} {f : Addr} {fd : FuncData} {ps : List Str} {sp sp' : Sp} (F : FnOk P w K mg base CX k f fd ps sp)
    (h : ∀ vs H Q E, sp' vs H Q E → sp vs H Q E) : FnOk P w K mg base CX k f fd ps sp' :=
  ⟨fun vs H Q E q => F.len vs H Q E (h _ _ _ _ q), fun A outer s H args us vs Q E hr he hb hv hs => F.run A outer s H args us vs Q E hr he hb hv (h _ _ _ _ hs)⟩
theorem Env0.in1 {P : Program} {w : World} {K : PySem.W.Frag} {mg : Str → Option Value} {base : Heap} {A : Around} {outer : List Env} {s : Shared} {H : Hp} (e : Env0 P w K mg base A outer s H) :
    Env0 P w K mg base A.in1 outer s H := ⟨e.frames, e.mod, e.bs, e.bsz, e.funs, e.frf, e.hok, e.bare⟩
section
variable {X : Cx} {pins : List (Addr × Obj)} {σ : St} {H : Hp} {s s' : Shared}
theorem Inv.env0 (I : Inv X pins σ H s) : Env0 X.prog X.w X.K X.mg X.base X.A X.stack s H :=
  ⟨I.ok.frames, I.ok.mod, I.bs, Nat.le_trans I.ok.bsz I.sz, I.stack, I.stkFree, I.hok, I.bare⟩
theorem Inv.after {Q : VK} {u : Value} (I : Inv X pins σ H s) (h : CE X.stack X.prog X.w H s Q u s') : EP X pins σ Q u s' := by
  obtain ⟨v, H', os, bare, un, hok, r, q⟩ := h
  obtain ⟨hh, g, d, t, os'⟩ := s'
  obtain rfl : os' = s.os := os
  exact ⟨v, H', I.call (h' := hh) (g' := g) (d' := d) (t' := t) (ch := []) un hok bare (fun b z => absurd z (by simp)), r, q⟩
end
def tCall (sp : Sp) (dvs : List V) (E : XK) (t : TA) : TE := fun σ H Q => t σ H fun vs H1 => sp (vs ++ dvs) H1 Q E
def Binds (K : PySem.W.Frag) (fd : FuncData) (ps : List Str) (ds : List Value) : Prop :=
  ∀ (s : Shared) (us : List Value), K.In s.heap → (us ++ ds).length = ps.length → BindsTo s fd ⟨us, []⟩ (ps.zip (us ++ ds))
theorem Binds.all {K : PySem.W.Frag} {fd : FuncData} {ps : List Str} (h : ∀ us : List Value, us.length = ps.length → bindArgs fd ⟨us, []⟩ = pure (ps.zip us)) : Binds K fd ps [] := fun s us _ hl => by
  rw [List.append_nil] at hl ⊢
  exact .of_eq (h us hl)
def Passes (CX : CXT) (X : Cx) (E : XK) : Prop := ∀ (pins : List (Addr × Obj)) (σ : St) (H : Hp) (s : Shared) (e : Value) (s' : Shared), Inv X pins σ H s → CX X.stack H s E e s' → X.xe e s'
section
variable {X : Cx} {CX : CXT} {k : Nat} {f C : Addr} {fd : FuncData} {ps : List Str} {sp : Sp} {dvs : List V} {ds : List Value} {E : XK} {x m : Str} {p pos apos : Pos} {e o : Expr} {es : List Expr} {ta : TE} {t : TA}
theorem run_fn {pins : List (Addr × Obj)} {σ : St} {H : Hp} {s : Shared} {Q : VK} {us : List Value} {vs : List V} (F : FnOk X.prog X.w X.K X.mg X.base CX k f fd ps sp) (hr : Room k X.A) (hb : Binds X.K fd ps ds) (hd : Vals dvs ds) (hx : Passes CX X E)
    (I : Inv X pins σ H s) (r : Vals vs us) (h : sp (vs ++ dvs) H Q E) : wpAny (model X.prog X.w) X.A (call (.ref f) us) (EP X pins σ Q) X.xe s := by
  have r2 : Vals (vs ++ dvs) (us ++ ds) := r.append hd
  have hl : (us ++ ds).length = ps.length := by rw [← r2.length]; exact F.len _ _ _ _ h
  refine wpAny_call (codeAny_mono (F.run X.A X.stack s H ⟨us, []⟩ (us ++ ds) (vs ++ dvs) Q E hr I.env0 (hb s us I.kIn hl) r2 h) fun r s' hq => ?_)
  cases r with
  | error e => exact hx pins σ H s e s' I hq
  | ok fl =>
    cases fl with
    | ret u => exact I.after hq
    | next => exact False.elim hq
    | brk => exact False.elim hq
    | cont => exact False.elim hq
theorem pe_call (F : FnOk X.prog X.w X.K X.mg X.base CX k f fd ps sp) (hr : Room k X.A) (hg : Gl X x) (hm : X.mg x = some (.ref f)) (hk : PySem.W.keepIn X.K (.ref f) = true) (hb : Binds X.K fd ps ds) (hd : Vals dvs ds) (hx : Passes CX X E)
    (ha : PA X (e :: es) t) (hdb : (x == ("__debug__" : Str)) = false := by decide) (he : starEach (e :: es) X.env = (false, eval e X.env) :: starEach es X.env := by rfl) (hpl : (backTo pos (starEach es X.env)).any (·.1) = false := by rfl) :
    PE X (.Call (.Name x p) (e :: es) [] pos) (tCall sp dvs E t) := by
  intro pins s σ H Q I h
  refine wpAny_Call_Name_kw (ld_glob I hg hm ?_ hdb)
  refine PySem.W.callWith_K (h₀ := X.base) I.ok.mod.kin hk (thn (ha pos pins s σ H _ I h) fun us s1 ⟨vs, H1, I1, r, q⟩ => ⟨I1.kIn, ?_⟩) he hpl
  exact run_fn F hr hb hd hx I1 r q
structure Mk (K : PySem.W.Frag) (C f : Addr) : Prop where
  makes : PySem.W.makesIn K C = true
  init : PySem.W.findIn K (.ref C) "__init__" = some (some (.ref f))
  fn : PySem.W.isFn K (.ref f) = true
  kp : PySem.W.keepIn K (.ref C) = true
end
section
variable {X : Cx} {CX : CXT} {k : Nat} {f C : Addr} {fd : FuncData} {ps ks : List Str} {sp : Sp} {E : XK} {x m : Str} {p pos apos kpos : Pos} {e o : Expr} {es : List Expr} {kws : List Keyword} {te ta : TE} {t tk : TA} {nm : Option Str}
structure KBinds (K : PySem.W.Frag) (fd : FuncData) (ps ks : List Str) (g : List Value → List Value → List Value) (gV : List V → List V → List V) : Prop where
  to : ∀ (s : Shared) (us ws : List Value), K.In s.heap → (g us ws).length = ps.length → BindsTo s fd ⟨us, ks.zip ws⟩ (ps.zip (g us ws))
  rel : ∀ {vs : List V} {us : List Value} {zs : List V} {ws : List Value}, Vals vs us → Vals zs ws → Vals (gV vs zs) (g us ws)
variable {g : List Value → List Value → List Value} {gV : List V → List V → List V}
end
structure FnScope (N P : List Str) (sc : Scope) : Prop where
  kind : sc.kind = .function
  co : sc.isCoroutine = false
  gen : sc.isGenerator = false
  nd : N.Nodup
  pre : N.take P.length = P
  par : ∀ x ∈ P, sc.names.lookup x = some .local ∨ sc.names.lookup x = some .cell
  nofree : ∀ y ∈ sc.names, y.2 ≠ .free
theorem bindL_out {kindOf : Str → Option NameKind} {x : Str} : ∀ {binds : List (Str × Value)} {m : Str → Option Value}, (∀ v, (x, v) ∉ binds) → bindL kindOf binds m x = m x
  | [], _, _ => rfl
  | (n, v) :: r, m, h => by
    unfold bindL
    rw [bindL_out fun w hw => h w (List.mem_cons_of_mem _ hw)]
    split
    · have : x ≠ n := by rintro rfl; exact h v List.mem_cons_self
      simp [this]
    · rfl
theorem bindC_out {kindOf : Str → Option NameKind} {x : Str} : ∀ {binds : List (Str × Value)} {m : Str → Option Value}, (∀ v, (x, v) ∉ binds) → bindC kindOf binds m x = m x
  | [], _, _ => rfl
  | (n, v) :: r, m, h => by
    unfold bindC
    rw [bindC_out fun w hw => h w (List.mem_cons_of_mem _ hw)]
    split
    · rfl
    · have : x ≠ n := by rintro rfl; exact h v List.mem_cons_self
      simp [this]
theorem bindL_get {kindOf : Str → Option NameKind} {x : Str} {v : Value} : ∀ {P : List Str} {vs : List Value} {i : Nat} {m : Str → Option Value}, P.Nodup → P[i]? = some x → vs[i]? = some v → kindOf x = some .local →
    bindL kindOf (P.zip vs) m x = some v
  | [], _, _, _, _, h, _, _ => by simp at h
  | _ :: _, [], _, _, _, _, h, _ => by simp at h
  | p :: P, w :: vs, 0, m, nd, h1, h2, hk => by
    simp at h1 h2; subst h1; subst h2
    show bindL kindOf ((p, w) :: P.zip vs) m p = _
    unfold bindL
    rw [bindL_out fun v hv => (List.nodup_cons.mp nd).1 (List.of_mem_zip hv).1, if_pos hk]
    simp
  | p :: P, w :: vs, i + 1, m, nd, h1, h2, hk => by
    show bindL kindOf ((p, w) :: P.zip vs) m x = _
    unfold bindL
    exact bindL_get (i := i) (List.nodup_cons.mp nd).2 (by simpa using h1) (by simpa using h2) hk
theorem bindC_get {kindOf : Str → Option NameKind} {x : Str} {v : Value} : ∀ {P : List Str} {vs : List Value} {i : Nat} {m : Str → Option Value}, P.Nodup → P[i]? = some x → vs[i]? = some v → kindOf x ≠ some .local →
    bindC kindOf (P.zip vs) m x = some v
  | [], _, _, _, _, h, _, _ => by simp at h
  | _ :: _, [], _, _, _, _, h, _ => by simp at h
  | p :: P, w :: vs, 0, m, nd, h1, h2, hk => by
    simp at h1 h2; subst h1; subst h2
    show bindC kindOf ((p, w) :: P.zip vs) m p = _
    unfold bindC
    rw [bindC_out fun v hv => (List.nodup_cons.mp nd).1 (List.of_mem_zip hv).1, if_neg hk]
    simp
  | p :: P, w :: vs, i + 1, m, nd, h1, h2, hk => by
    show bindC kindOf ((p, w) :: P.zip vs) m x = _
    unfold bindC
    exact bindC_get (i := i) (List.nodup_cons.mp nd).2 (by simpa using h1) (by simpa using h2) hk
def start (N : List Str) (vs : List V) : St := vs.map some ++ List.replicate (N.length - vs.length) none
def cxOf (CX : CXT) (P : Program) (w : World) (K : PySem.W.Frag) (mg : Str → Option Value) (base : Heap) (N : List Str) (qual : Str) (scope : Scope) (f : Addr) (cd : Value) (A : Around) (outer : List Env) (s : Shared) (H : Hp) (E : XK) : Cx where
  prog := P
  w := w
  K := K
  mg := mg
  base := base
  A := A.deeper (envOfC qual scope s.heap.objs.size f cd)
  N := N
  s₀ := s
  H₀ := H
  env := envOfC qual scope s.heap.objs.size f cd
  outer := outer
  stack := envOfC qual scope s.heap.objs.size f cd :: outer
  ex := []
  calm := true
  fn := fun _ => true
  pn := []
  xe := fun e s' => wpAny (model P w) (A.deeper (envOfC qual scope s.heap.objs.size f cd)) (leaving (envOfC qual scope s.heap.objs.size f cd) e) (fun _ s'' => CX outer H s E e s'') (fun e' s'' => CX outer H s E e' s'') s'
theorem cell_has {sc : Scope} {n : Nat} {x : Str} (h : sc.names.lookup x = some .cell) : ∃ c, (cellsFrom n sc.names []).lookup x = some c := by
  have q := PySem.W.cellsFrom_some sc.names n [] (.inl h)
  exact Option.isSome_iff_exists.mp q
theorem inv_start {CX : CXT} {P : Program} {w : World} {K : PySem.W.Frag} {mg : Str → Option Value} {base : Heap} {N ps : List Str} {qual : Str} {scope : Scope} {f : Addr} {cd : Value} {A : Around} {outer : List Env} {s s1 : Shared} {H : Hp} {E : XK} {us : List Value} {vs : List V}
    (S : FnScope N ps scope) (hd : A.handled = none) (e0 : Env0 P w K mg base A outer s H) (hl : vs.length = ps.length) (r : Vals vs us)
    (x : InCallC s s.heap.objs.size (bindL (envOfC qual scope s.heap.objs.size f cd).kindOf (ps.zip us) fun _ => none) (cellsFrom (s.heap.objs.size + 1) scope.names []) (bindC (envOfC qual scope s.heap.objs.size f cd).kindOf (ps.zip us) fun _ => none) s1) :
    Inv (cxOf CX P w K mg base N qual scope f cd A outer s H E) [] (start N vs) H s1 := by
  have hpl : ps.length ≤ N.length := by have := congrArg List.length S.pre; rw [List.length_take] at this; omega
  obtain ⟨h1, tk, rfl, hk⟩ := x.done
  have noA : ∀ b : Addr, b ∉ (cxOf CX P w K mg base N qual scope f cd A outer s H E).ex := fun b z => absurd (show b ∈ ([] : List Addr) from z) (by simp)
  refine ⟨⟨e0.mod, S.kind, rfl, rfl, Nat.le_refl _, fun y z c h1 h2 => ?_, fun y hy => ?_, fun y c _ h => ?_, fun _ => hd, Around.frames_deeper e0.frames, .inr ⟨rfl, rfl⟩, fun b z => absurd z (noA b), e0.bs, e0.bsz, fun b _ _ => noA b, fun b z => absurd z (noA b), e0.funs, e0.frf⟩,
    rfl, e0.bare, Un.kept hk, ⟨_, x.toInCall.ns, fun i y v h1 h2 h3 => ?_⟩, fun y c h => ⟨_, x.cell y c h⟩, e0.hok.fresh (Nat.le_refl _), fun y c h => ?_, fun p hp => absurd (show p ∈ ([] : List (Addr × Obj)) from hp) (by simp), e0.hok.kept hk, ?_⟩
  · exact name_of_addr x.apart (PySem.mem_of_lookup h1) (PySem.mem_of_lookup h2)
  · have hy : scope.names.lookup y = some .cell ∨ scope.names.lookup y = some .free := hy
    rcases hy with hy | hy
    · exact cell_has hy
    · exact absurd rfl (S.nofree _ (PySem.mem_of_lookup hy))
  · exact Nat.le_of_lt (x.above y c (PySem.mem_of_lookup h))
  · have hi : i < vs.length := by
      unfold start at h2
      by_cases hi : i < vs.length
      · exact hi
      · rw [List.getElem?_append_right (by simpa using hi)] at h2
        rw [List.getElem?_replicate] at h2
        split at h2 <;> cases h2
    have ha : vs[i]? = some v := by
      unfold start at h2
      rw [List.getElem?_append_left (by simpa using hi), List.getElem?_map] at h2
      cases e : vs[i]? with
      | none => rw [e] at h2; cases h2
      | some a => rw [e] at h2; cases h2; rfl
    obtain ⟨u, hu, rv⟩ := r.get ha
    have hp : ps[i]? = some y := by
      rw [← S.pre, List.getElem?_take_of_lt (by omega)]; exact h1
    have ndP : ps.Nodup := by rw [← S.pre]; exact S.nd.sublist (List.take_sublist _ _)
    refine ⟨u, rv, ?_⟩
    rcases S.par y (List.mem_of_getElem? hp) with k | k
    · exact .inl ⟨k, bindL_get ndP hp hu k⟩
    · obtain ⟨c, e⟩ := cell_has (n := s.heap.objs.size + 1) k
      refine .inr ⟨.inl k, c, e, ?_⟩
      have q := x.cell y c e
      rw [bindC_get ndP hp hu (by show scope.names.lookup y ≠ _; rw [k]; decide)] at q
      exact q
  · exact e0.hok.fresh (Nat.le_of_lt (x.above y c (PySem.mem_of_lookup h)))
  · unfold start
    show _ = N.length
    rw [List.length_append, List.length_map, List.length_replicate]
    omega
theorem fn_of {CX : CXT} {P : Program} {w : World} {K : PySem.W.Frag} {mg : Str → Option Value} {base : Heap} {k : Nat} {f : Addr} {name qual : Str} {params : Arguments} {body : List Stmt} {scope : Scope} {dV kV doc pm cdv ct oc : Value} {an od : Option Addr}
    {osl : Array (Option Value)} {N ps : List Str} {sp : Sp} (lk : K.lookup f = some ⟨oc, od, .func (PySem.W.fnOf name qual params body scope dV kV doc pm an cdv ct), osl⟩) (hcd : PySem.W.codeIn K cdv qual = true) (S : FnScope N ps scope)
    (len : ∀ vs H Q E, sp vs H Q E → vs.length = ps.length)
    (hbody : ∀ (A : Around) (outer : List Env) (s : Shared) (H : Hp) (vs : List V) (Q : VK) (E : XK), Room k (A.deeper (envOfC qual scope s.heap.objs.size f cdv)) → sp vs H Q E →
      ∃ t, PSs (cxOf CX P w K mg base N qual scope f cdv A outer s H E) body t ∧ t { nx := fun _ H' => Q .non H', rt := Q } (start N vs) H) :
    FnOk P w K mg base CX (k + 1) f (PySem.W.fnOf name qual params body scope dV kV doc pm an cdv ct) ps sp := by
  refine ⟨len, fun A outer s H args us vs Q E hr e0 hb r hsp => ?_⟩
  have hl := len _ _ _ _ hsp
  have KX : K.In s.heap := e0.mod.kin.keeps fun b o e => (e0.bs b o e).1
  have lim : s.heap.NoLimit := e0.mod.nolimit.keeps fun b o e => (e0.bs b o e).1
  have hkind : ∀ y ∈ ps.zip us, scope.names.lookup y.1 = some .local ∨ (scope.names.lookup y.1 = some .cell ∧ ((cellsFrom (s.heap.objs.size + 1) scope.names []).lookup y.1).isSome = true) := fun ⟨n, v⟩ hy => by
    rcases S.par n (List.of_mem_zip hy).1 with q | q
    · exact .inl q
    · exact .inr ⟨q, PySem.W.cellsFrom_some _ _ _ (.inl q)⟩
  refine codeAny_call_function hr.depth (KX _ _ lk) rfl S.co S.gen rfl (PySem.W.codeRec_of KX hcd) (hb _ _ _ _ ?_)
  refine wpAny_newFunctionEnv_cells S.kind hkind fun env he s1 x => ?_
  subst he
  refine ⟨lim.keeps x.toInCall.keep, codeAny_func ?_⟩
  obtain ⟨t, ht, hq⟩ := hbody A outer s H vs Q E (hr.deeper _) hsp
  have I : Inv (cxOf CX P w K mg base N qual scope f cdv A outer s H E) [] (start N vs) H s1 := inv_start S hr.hd e0 hl r x
  refine wpAny_mono (ht [] s1 (start N vs) H _ I hq) (fun fl s' hs => ?_) fun e s' hs => hs
  have fin : ∀ {σ' : St} {H' : Hp} {v : V} {u : Value}, Inv (cxOf CX P w K mg base N qual scope f cdv A outer s H E) [] σ' H' s' → RelV v u → Q v H' → CE outer P w H s Q u s' :=
    fun {σ' H' v u} J rv q => ⟨v, H', J.os, J.bare, J.base, J.hok, rv, q⟩
  cases fl with
  | ret u =>
    obtain ⟨v, σ', H', J, rv, q⟩ := hs
    exact fin J rv q
  | next =>
    obtain ⟨σ', H', J, q⟩ := hs
    exact fin (v := V.non) (u := Value.none) J rfl q
  | brk =>
    obtain ⟨_, _, _, q⟩ := hs
    exact False.elim q
  | cont =>
    obtain ⟨_, _, _, q⟩ := hs
    exact False.elim q
end L2
namespace L2
open PySem PySem.Spec PyProof.Rows
section
variable {X : Cx} {x : Str} {p pos : Pos} {e : Expr} {es : List Expr} {t : TA} {id T : String} {r : List V → Hp → VK → Prop}
def tCB (r : List V → Hp → VK → Prop) (t : TA) : TE := fun σ H Q => t σ H fun vs H1 => r vs H1 Q
theorem pe_callB (hc : CallR X (.builtin id) r) (hg : Gl X x) (hm : X.mg x = none) (hv : bootBuiltins x = some (.builtin id)) (ha : PA X (e :: es) t) (hn : x ≠ "__name__" := by decide) (hdb : (x == ("__debug__" : Str)) = false := by decide)
    (he : starEach (e :: es) X.env = (false, eval e X.env) :: starEach es X.env := by rfl) (hpl : (backTo pos (starEach es X.env)).any (·.1) = false := by rfl) : PE X (.Call (.Name x p) (e :: es) [] pos) (tCB r t) := by
  intro pins s σ H Q I h
  refine wpAny_Call_Name_kw (ld_blt I hg hm hv ?_ hn hdb)
  exact PyProof.Rows.callWith_builtin1 (thn (ha pos pins s σ H _ I h) fun us s1 ⟨vs, H1, I1, r1, q1⟩ => hc pins s1 σ H1 vs us Q I1 r1 q1) he hpl
theorem pe_callTy (hc : CallR X (.type T) r) (hg : Gl X x) (hm : X.mg x = none) (hv : bootBuiltins x = some (.type T)) (ha : PA X (e :: es) t) (hn : x ≠ "__name__" := by decide) (hdb : (x == ("__debug__" : Str)) = false := by decide)
    (he : starEach (e :: es) X.env = (false, eval e X.env) :: starEach es X.env := by rfl) (hpl : (backTo pos (starEach es X.env)).any (·.1) = false := by rfl) : PE X (.Call (.Name x p) (e :: es) [] pos) (tCB r t) := by
  intro pins s σ H Q I h
  refine wpAny_Call_Name_kw (ld_blt I hg hm hv ?_ hn hdb)
  exact PyProof.Rows.callWith_type1 (thn (ha pos pins s σ H _ I h) fun us s1 ⟨vs, H1, I1, r1, q1⟩ => hc pins s1 σ H1 vs us Q I1 r1 q1) he hpl
end
end L2
namespace HT
open PySem PyProof.Rows
section
open PySem.SeqAt
open PySem.AutoSeq1 (wpAny_loadPart')
open PySem.MeetsSeq PySem.MeetsSeq2 PySem.MeetsSeq3
end
section
variable {prog : Program} {w : World} {A : Around} {E : Value → Shared → Prop} {s : Shared}
theorem cat_tup {t b : Addr} {vs ws : List Value} {Q : Value → Shared → Prop} (ht : IsTup s.heap t vs.toArray) (hb : IsTup s.heap b ws.toArray) (hv : vs ≠ [])
    (h1 : ws = [] → Q (.ref t) s) (h2 : ws ≠ [] → Q (.ref s.heap.objs.size) { s with heap := s.heap.push { cls := .type "tuple", data := .seq (vs ++ ws).toArray } })
    (hsz : vs.length + ws.length ≤ sizeLine) : wpAny (model prog w) A (binaryOp .Add (.ref t) (.ref b)) Q E s := by
  obtain ⟨⟨cls, dd, data, sl⟩, ho, hc, n, hd⟩ := id ht
  obtain ⟨⟨cls2, dd2, data2, sl2⟩, ho2, hc2, n2, hd2⟩ := id hb
  simp only at hc hd hc2 hd2
  subst hc hd hc2 hd2
  have e : vs.toArray ++ ws.toArray = (vs ++ ws).toArray := by simp
  by_cases hw : ws = []
  · exact concat_meets ⟨_, ho, rfl⟩ ⟨_, ho2, rfl⟩ noFill_tuple_add seq_tuple_add PySem.F.slot_tuple_add PySem.F.entry_tuple_add (PySem.F.args_tuple_add_2 _ _)
      (tuple_addW1 t b vs.toArray ws.toArray n n2 dd dd2 sl sl2 (by simpa using hv) (by simp [hw])) ⟨ho, ho2, h1 hw⟩
  · refine concat_meets ⟨_, ho, rfl⟩ ⟨_, ho2, rfl⟩ noFill_tuple_add seq_tuple_add PySem.F.slot_tuple_add PySem.F.entry_tuple_add (PySem.F.args_tuple_add_2 _ _)
      (tuple_addW2 t b vs.toArray ws.toArray n n2 dd dd2 sl sl2 (by simpa using hv) (by simpa using hw) (by rw [List.size_toArray, List.size_toArray]; exact hsz)) ⟨ho, ho2, ?_⟩
    rw [e]
    exact h2 hw
def sIx (n d : Nat) : Option Int → Nat
  | none => d
  | some v => if v < 0 then (v + (n : Int)).toNat else min v.toNat n
theorem sIx_none (n d : Nat) : sIx n d none = d := rfl
theorem sIx_nat (n d k : Nat) : sIx n d (some (k : Int)) = min k n := by
  show (if (k : Int) < 0 then ((k : Int) + (n : Int)).toNat else min (k : Int).toNat n) = min k n
  rw [if_neg (by omega), Int.toNat_natCast]
theorem sIx_le (n d : Nat) (hd : d ≤ n) (o : Option Int) : sIx n d o ≤ n := by
  cases o with
  | none => exact hd
  | some v =>
    show (if v < 0 then (v + (n : Int)).toNat else min v.toNat n) ≤ n
    by_cases hv : v < 0
    · rw [if_pos hv]; omega
    · rw [if_neg hv]; exact Nat.min_le_right _ _
theorem clip_eq (v : Int) (n d : Nat) : (if v < 0 then max (v + (n : Int)) 0 else min v (n : Int)) = ((sIx n d (some v) : Nat) : Int) := by
  show (if v < 0 then max (v + (n : Int)) 0 else min v (n : Int)) = (((if v < 0 then (v + (n : Int)).toNat else min v.toNat n) : Nat) : Int)
  by_cases hv : v < 0
  · simp only [if_pos hv]; omega
  · simp only [if_neg hv]; omega
theorem adjust_gen (lo hi : Option Int) (n : Nat) : Builtin.Slice.sliceAdjust lo hi 1 (n : Int) = (((sIx n 0 lo : Nat) : Int), ((sIx n n hi : Nat) : Int)) := by
  have h1 : ¬ ((1 : Int) < 0) := by omega
  unfold Builtin.Slice.sliceAdjust
  simp only [h1, if_false]
  refine Prod.ext ?_ ?_
  · cases lo with
    | none => rfl
    | some v => exact clip_eq v n 0
  · cases hi with
    | none => rfl
    | some v => exact clip_eq v n n
theorem places_gen (i j : Nat) : Builtin.Slice.slicePlaces (i : Int) (j : Int) 1 = j - i := by
  unfold Builtin.Slice.slicePlaces
  have h1 : (1 : Int) > 0 := by omega
  simp only [h1, if_true, Int.ediv_one]
  split <;> omega
theorem slicePart_ {v : Value} {o : Option Int} {Q : Option Int → Shared → Prop} (p : IsPart v o) (h : Q o s) : wpAny (model prog w) A (Builtin.Slice.slicePartIndex v) Q E s := by
  cases p with
  | none => exact slicePart_none h
  | int i t => exact slicePart_int h
theorem sliceApplied_gen {sl : Addr} {vl vu : Value} {lo hi : Option Int} {n : Nat} {Q : Int × Int × Nat → Shared → Prop} (hs : s.heap.IsSliceOf sl vl vu .none) (pl : IsPart vl lo) (pu : IsPart vu hi)
    (h : Q (((sIx n 0 lo : Nat) : Int), 1, sIx n n hi - sIx n 0 lo) s) : wpAny (model prog w) A (Builtin.Slice.sliceApplied (.ref sl) (pure (n : Int))) Q E s := by
  obtain ⟨os, hos, hcs, hds⟩ := id hs
  unfold Builtin.Slice.sliceApplied Builtin.Slice.sliceFields
  refine wpAny_bind (wpAny_bind (wpAny_field hos hds (x := vl) rfl (wpAny_bind (wpAny_field hos hds (x := vu) rfl (wpAny_bind (wpAny_field hos hds (x := .none) rfl (wpAny_pure ?_)))))))
  refine wpAny_bind (slicePart_none ?_)
  show wpAny _ _ (if ((1 : Int) == 0) = true then _ else _) _ _ s
  rw [if_neg (by decide)]
  refine wpAny_bind (slicePart_ pl (wpAny_bind (slicePart_ pu (wpAny_bind (wpAny_pure ?_)))))
  show wpAny _ _ (match Builtin.Slice.sliceAdjust lo hi 1 (n : Int) with | (lo, hi) => pure (lo, (1 : Int), Builtin.Slice.slicePlaces lo hi 1)) _ _ s
  rw [adjust_gen lo hi n]
  show wpAny _ _ (pure (((sIx n 0 lo : Nat) : Int), (1 : Int), Builtin.Slice.slicePlaces ((sIx n 0 lo : Nat) : Int) ((sIx n n hi : Nat) : Int) 1)) _ _ s
  rw [places_gen]
  exact wpAny_pure h
theorem pick_gen (xs : Array Value) (i k : Nat) : ((List.range k).filterMap fun (m : Nat) => xs[((i : Int) + (m : Int) * 1).toNat]?).toArray = ((xs.toList.drop i).take k).toArray := by
  have e : (fun (m : Nat) => xs[((i : Int) + (m : Int) * 1).toNat]?) = fun m => xs[i + m]? := by
    funext m
    have : ((i : Int) + (m : Int) * 1).toNat = i + m := by omega
    rw [this]
  rw [e]
  have := pick_run xs i k
  rw [List.filterMap_map] at this
  have e2 : ((fun x => xs[x]?) ∘ fun x => i + x) = fun m => xs[i + m]? := rfl
  rw [e2] at this
  rw [this]
theorem getItem_tuple_cut {t sl : Addr} {items : Array Value} {vl vu : Value} {lo hi : Option Int} {Q : Value → Shared → Prop} (ht : IsTup s.heap t items) (hs : s.heap.IsSliceOf sl vl vu .none) (pl : IsPart vl lo) (pu : IsPart vu hi)
    (hw : ¬ (sIx items.size 0 lo = 0 ∧ sIx items.size items.size hi = items.size))
    (h : Q (.ref s.heap.objs.size) { s with heap := s.heap.push { cls := .type "tuple", data := .seq ((items.toList.drop (sIx items.size 0 lo)).take (sIx items.size items.size hi - sIx items.size 0 lo)).toArray } })
    (hsz : items.size ≤ sizeLine) : wpAny (model prog w) A (getItem (.ref t) (.ref sl)) Q E s := by
  have htake : sizeOk (.seq ((items.toList.drop (sIx items.size 0 lo)).take (sIx items.size items.size hi - sIx items.size 0 lo)).toArray) := by
    show ((items.toList.drop (sIx items.size 0 lo)).take (sIx items.size items.size hi - sIx items.size 0 lo)).toArray.size ≤ sizeLine
    rw [List.size_toArray, List.length_take, List.length_drop, Array.length_toList]
    omega
  have hj : sIx items.size items.size hi ≤ items.size := sIx_le _ _ (Nat.le_refl _) hi
  obtain ⟨os, hos, hcs, hds⟩ := id hs
  have hTs : s.TypeIs (.ref sl) "slice" := ⟨os, hos, hcs⟩
  unfold getItem
  try with_reducible refine wpAny_holding ?_
  first | refine wpAny_bind (wpAny_pure ?_) | skip
  refine wpAny_bind (wpAny_sequenceKey ht.typeIs (by decide) ?_)
  refine wpAny_bind (wpAny_callSpecial?_slot (name := Str.ofString "__getitem__") ht.typeIs PyProof.Rows.slot_tuple_getitem
    (wpAny_call_entry PyProof.Rows.slot_tuple_getitem ht.typeIs entry_tuple_getitem ?_ (args_tuple_getitem _ _)))
  show wpAny _ _ (Builtin.Tuple.tupleItemsOf (.ref t) >>= _) _ _ s
  refine wpAny_bind (tupleItemsOf_ ht ?_)
  refine wpAny_bind (wpAny_typeOf hTs ?_)
  rw [if_pos (by decide)]
  refine wpAny_bind (sliceApplied_gen hs pl pu ?_)
  have hno : ¬ ((((sIx items.size 0 lo : Nat) : Int) == 0 && (1 : Int) == 1 && (sIx items.size items.size hi - sIx items.size 0 lo) == items.size) = true) := by
    intro q
    rw [Bool.and_eq_true, Bool.and_eq_true] at q
    have q1 : ((sIx items.size 0 lo : Nat) : Int) = 0 := eq_of_beq q.1.1
    have q2 : sIx items.size items.size hi - sIx items.size 0 lo = items.size := eq_of_beq q.2
    exact hw ⟨by omega, by omega⟩
  show wpAny _ _ (if (((sIx items.size 0 lo : Nat) : Int) == 0 && (1 : Int) == 1 && (sIx items.size items.size hi - sIx items.size 0 lo) == items.size) = true then _ else _) _ _ s
  rw [if_neg hno, pick_gen]
  first
    | exact wpAny_bind (m := Builtin.Tuple.tupleExact _) (wpAny_newObj_type (wpAny_pure ⟨_, rfl, wpAny_pure h⟩) htake)
    | exact wpAny_bind (m := Builtin.Tuple.tupleExact _) (wpAny_newObj_type (wpAny_bind (wpAny_pure (wpAny_pure ⟨_, rfl, wpAny_pure h⟩))) htake)
    | exact wpAny_bind (wpAny_bind (m := Builtin.Tuple.tupleExact _) (wpAny_newObj_type (wpAny_pure (wpAny_pure ⟨_, rfl, wpAny_pure h⟩)) htake))
    | exact wpAny_bind (wpAny_bind (m := Builtin.Tuple.tupleExact _) (wpAny_newObj_type (wpAny_pure ⟨_, rfl, wpAny_pure h⟩) htake))
end
end HT
namespace L2
open PySem PySem.Spec PyProof.Rows
abbrev TO := St → Hp → (Option Int → Hp → Prop) → Prop
def PO (X : Cx) (e : Option Expr) (t : TO) : Prop :=
  ∀ (pins : List (Addr × Obj)) (s : Shared) (σ : St) (H : Hp) (Q : Option Int → Hp → Prop), Inv X pins σ H s → t σ H Q →
    wpAny (model X.prog X.w) X.A (evalPart e X.env) (fun u s' => ∃ o H', Inv X pins σ H' s' ∧ IsPart u o ∧ Q o H') X.xe s
def tNoPart : TO := fun _ H Q => Q none H
def tPart (t : TE) : TO := fun σ H Q => t σ H fun x H1 => ∃ i, x = .int i ∧ Q (some i) H1
section
variable {X : Cx} {e : Expr} {te : TE} {lo hi : Option Expr} {tl th : TO} {pos p2 : Pos}
theorem po_none : PO X none tNoPart := by
  intro pins s σ H Q I h
  rw [evalPart_none]
  exact wpAny_pure ⟨none, H, I, .none, h⟩
theorem po_some (h : PE X e te) : PO X (some e) (tPart te) := by
  intro pins s σ H Q I hw
  rw [evalPart_some]
  refine thn (h pins s σ H _ I hw) fun u s1 ⟨x, H1, I1, r1, q1⟩ => ?_
  obtain ⟨i, rfl, q⟩ := q1
  obtain ⟨t, rfl⟩ := r1
  exact ⟨some i, H1, I1, .int i t, q⟩
def SlR (X : Cx) (r : V → Option Int → Option Int → Hp → VK → Prop) : Prop :=
  ∀ (pins : List (Addr × Obj)) (s : Shared) (σ : St) (H : Hp) (x : V) (v vl vu : Value) (lo hi : Option Int) (sl : Addr) (Q : VK), Inv X pins σ H s → RelV x v → s.heap.IsSliceOf sl vl vu .none → IsPart vl lo → IsPart vu hi → r x lo hi H Q →
    ∃ T id, typeLookup (.type T) "__getitem__" = pure (some (.builtin id)) ∧ s.TypeIs v T ∧ wpAny (model X.prog X.w) X.A (getItem v (.ref sl)) (EP X pins σ Q) X.xe s
theorem SlR.or {r r' : V → Option Int → Option Int → Hp → VK → Prop} (h : SlR X r) (h' : SlR X r') : SlR X (fun x lo hi H Q => r x lo hi H Q ∨ r' x lo hi H Q) := by
  intro pins s σ H x v vl vu lo hi sl Q I rx hs pl pu q
  rcases q with q | q
  · exact h pins s σ H x v vl vu lo hi sl Q I rx hs pl pu q
  · exact h' pins s σ H x v vl vu lo hi sl Q I rx hs pl pu q
def tSl (r : V → Option Int → Option Int → Hp → VK → Prop) (te : TE) (tl th : TO) : TE := fun σ H Q => te σ H fun x H1 => tl σ H1 fun l H2 => th σ H2 fun u H3 => r x l u H3 Q
theorem pe_slice {r : V → Option Int → Option Int → Hp → VK → Prop} (hr : SlR X r) (he : PE X e te) (hl : PO X lo tl) (hu : PO X hi th) : PE X (.Subscript e (.Slice lo hi none p2) pos) (tSl r te tl th) := by
  intro pins s σ H Q I h
  refine Subscript_ (thn (he pins s σ H _ I h) fun v s1 ⟨x, H1, I1, r1, q1⟩ => ?_)
  refine wpAny_Slice (thn (hl pins s1 σ H1 _ I1 q1) fun vl s2 ⟨l, H2, I2, pl, q2⟩ => thn (hu pins s2 σ H2 _ I2 q2) fun vu s3 ⟨u, H3, I3, pu, q3⟩ => ?_)
  rw [evalPart_none]
  refine wpAny_pure ?_
  have I4 : Inv X pins σ H3 { s3 with heap := s3.heap.push { cls := .type "slice", data := .fields #[vl, vu, .none] } } := I3.kept (t' := s3.toks) fun b ob q => Heap.get?_push_of_some _ q
  obtain ⟨T, id, hT, ht, hg⟩ := hr pins { s3 with heap := s3.heap.push { cls := .type "slice", data := .fields #[vl, vu, .none] } } σ H3 x v vl vu l u s3.heap.objs.size Q I4 r1 (Heap.IsSliceOf.new ..) pl pu q3
  show wpAny (model X.prog X.w) X.A (subscriptTail e (.Slice lo hi none p2) v (.ref s3.heap.objs.size)) (EP X pins σ Q) X.xe { s3 with heap := s3.heap.push { cls := .type "slice", data := .fields #[vl, vu, .none] } }
  exact tail_any (ops := [.ref s3.heap.objs.size, v]) ht hT hg (by with_unfolding_all rfl)
def cutV (xs : List V) (lo hi : Option Int) : List V := (xs.drop (HT.sIx xs.length 0 lo)).take (HT.sIx xs.length xs.length hi - HT.sIx xs.length 0 lo)
theorem cutV_length (xs : List V) (lo hi : Option Int) : (cutV xs lo hi).length ≤ xs.length := by
  unfold cutV
  rw [List.length_take, List.length_drop]
  omega
def rSlT (K : PySem.W.Frag) : V → Option Int → Option Int → Hp → VK → Prop := fun x lo hi H Q => ∃ a xs, x = .ref a ∧ SqT K H a xs ∧
  ¬ (HT.sIx xs.length 0 lo = 0 ∧ HT.sIx xs.length xs.length hi = xs.length) ∧ ∀ p, H p = none → Q (.ref p) (upd H p (.tup (cutV xs lo hi)))
theorem sl_tup : SlR X (rSlT X.K) := by
  intro pins s σ H x v vl vu lo hi sl Q I rx hs pl pu h
  obtain ⟨a, xs, rfl, hx, hw, q⟩ := h
  cases rx
  obtain ⟨its, r, ht, hz⟩ := I.tuple hx
  have hlen : its.toArray.size = xs.length := by rw [List.size_toArray]; exact r.length.symm
  refine ⟨"tuple", _, PyProof.Rows.slot_tuple_getitem.lookup, ht.typeIs, ?_⟩
  refine HT.getItem_tuple_cut ht hs pl pu (by rw [hlen]; exact hw) ?_ (by rw [hlen]; exact hz)
  rw [hlen]
  refine ⟨.ref s.heap.objs.size, _, I.laid (t' := s.toks) (o := .tup (cutV xs lo hi)) (fun b ob q => Heap.get?_push_of_some _ q) (Nat.le_refl _) ?_, rfl, q _ (I.hok.fresh (Nat.le_refl _))⟩
  exact ⟨Nat.le_trans (cutV_length xs lo hi) hz, _, (r.drop (HT.sIx xs.length 0 lo)).take (HT.sIx xs.length xs.length hi - HT.sIx xs.length 0 lo), IsTup.new _ _⟩
def rCatT (K : PySem.W.Frag) : R2 := fun x y H Q => ∃ a b xs ys, x = .ref a ∧ y = .ref b ∧ SqT K H a xs ∧ SqT K H b ys ∧ xs ≠ [] ∧ xs.length + ys.length ≤ sizeLine ∧
  (ys = [] → Q (.ref a) H) ∧ (ys ≠ [] → ∀ p, H p = none → Q (.ref p) (upd H p (.tup (xs ++ ys))))
theorem Vals.nil_iff {xs : List V} {us : List Value} (r : Vals xs us) : us = [] ↔ xs = [] := by
  cases r with
  | nil => simp
  | cons _ _ => simp
theorem op_catT : OpR X (binaryOp .Add) (rCatT X.K) := by
  intro pins s σ H x y v u Q I rx ry h
  obtain ⟨a, b, xs, ys, rfl, rfl, ha, hb, hx, hz, q1, q2⟩ := h
  cases rx
  cases ry
  obtain ⟨its, r1, p1, _⟩ := I.tuple ha
  obtain ⟨its2, r2, p2, _⟩ := I.tuple hb
  refine HT.cat_tup p1 p2 (fun z => hx (r1.nil_iff.mp z)) (fun z => ⟨.ref a, H, I, rfl, q1 (r2.nil_iff.mp z)⟩) (fun z => ?_) (by rw [← r1.length, ← r2.length]; exact hz)
  refine ⟨.ref s.heap.objs.size, _, I.laid (t' := s.toks) (o := .tup (xs ++ ys)) (fun b ob q => Heap.get?_push_of_some _ q) (Nat.le_refl _) ?_, rfl, q2 (fun w => z (r2.nil_iff.mpr w)) _ (I.hok.fresh (Nat.le_refl _))⟩
  exact ⟨by rw [List.length_append]; exact hz, _, r1.append r2, IsTup.new _ _⟩
end
end L2
namespace L2
open PySem PySem.Spec PyProof.Rows
def ixN (n : Nat) (i : Int) : Option Nat := if 0 ≤ i then (if i < n then some i.toNat else none) else if -(n : Int) ≤ i then some (i + n).toNat else none
def atI {α : Type} (xs : List α) (i : Int) : Option α := (ixN xs.length i).bind fun j => xs[j]?
theorem ixN_seq {n : Nat} {i : Int} {j : Nat} (h : ixN n i = some j) : seqIndex? i n = some j ∧ j < n ∧ -(n : Int) ≤ i ∧ i < n := by
  unfold ixN at h
  by_cases h0 : 0 ≤ i
  · rw [if_pos h0] at h
    by_cases h1 : i < n
    · rw [if_pos h1] at h
      have e : i.toNat = j := Option.some.inj h
      exact ⟨by rw [seqIndex_of h0 h1, e], by omega, by omega, h1⟩
    · rw [if_neg h1] at h; cases h
  · rw [if_neg h0] at h
    by_cases h1 : -(n : Int) ≤ i
    · rw [if_pos h1] at h
      have e : (i + n).toNat = j := Option.some.inj h
      exact ⟨by rw [seqIndex_neg (by omega) h1, e], by omega, h1, by omega⟩
    · rw [if_neg h1] at h; cases h
theorem atI_get {α : Type} {xs : List α} {i : Int} {v : α} (h : atI xs i = some v) : ∃ j, seqIndex? i xs.length = some j ∧ xs[j]? = some v ∧ j < xs.length ∧ -(xs.length : Int) ≤ i ∧ i < xs.length := by
  unfold atI at h
  cases e : ixN xs.length i with
  | none => rw [e] at h; cases h
  | some j =>
    rw [e] at h
    obtain ⟨h1, h2, h3, h4⟩ := ixN_seq e
    exact ⟨j, h1, h, h2, h3, h4⟩
def PlainIx (b : Expr) : Prop := ∀ o i, subscripted b false o i = operate [o, i] (getItem o i)
def IxR (X : Cx) (r : R2) : Prop :=
  ∀ (value slice : Expr) (pins : List (Addr × Obj)) (s : Shared) (σ : St) (H : Hp) (x y : V) (v u : Value) (Q : VK), Inv X pins σ H s → RelV x v → RelV y u → r x y H Q →
    subscripted slice false v u = operate [v, u] (getItem v u) → wpAny (model X.prog X.w) X.A (subscriptTail value slice v u) (EP X pins σ Q) X.xe s
def MtR (X : Cx) (id : String) (r : V → List V → Hp → VK → Prop) : Prop :=
  ∀ (pins : List (Addr × Obj)) (s : Shared) (σ : St) (H : Hp) (x : V) (xs : List V) (v : Value) (us : List Value) (Q : VK), Inv X pins σ H s → RelV x v → Vals xs us → r x xs H Q →
    wpAny (model X.prog X.w) X.A (call (.builtin id) (v :: us)) (EP X pins σ Q) X.xe s
section
variable {X : Cx} {a b : Expr} {ta tb : TE} {pos : Pos}
theorem IxR.or {r r' : R2} (h : IxR X r) (h' : IxR X r') : IxR X (fun x y H Q => r x y H Q ∨ r' x y H Q) := by
  intro value slice pins s σ H x y v u Q I rx ry q hs
  rcases q with q | q
  · exact h value slice pins s σ H x y v u Q I rx ry q hs
  · exact h' value slice pins s σ H x y v u Q I rx ry q hs
theorem MtR.or {id : String} {r r' : V → List V → Hp → VK → Prop} (h : MtR X id r) (h' : MtR X id r') : MtR X id (fun x xs H Q => r x xs H Q ∨ r' x xs H Q) := by
  intro pins s σ H x xs v us Q I rx rs q
  rcases q with q | q
  · exact h pins s σ H x xs v us Q I rx rs q
  · exact h' pins s σ H x xs v us Q I rx rs q
theorem pe_ix {r : R2} (hr : IxR X r) (ha : PE X a ta) (hb : PE X b tb) (hs : PlainIx b) : PE X (.Subscript a b pos) (tOp r ta tb) := by
  intro pins s σ H Q I h
  exact Subscript_ (binT ha hb I h fun v u s2 x y H2 I2 rx ry q => hr a b pins s2 σ H2 x y v u Q I2 rx ry q (hs _ _))
def rIxL (K : PySem.W.Frag) : R2 := fun x y H Q => ∃ p xs i v, x = .ref p ∧ y = .int i ∧ SqL K H p xs ∧ atI xs i = some v ∧ Q v H
def rIxT (K : PySem.W.Frag) : R2 := fun x y H Q => ∃ p xs i v, x = .ref p ∧ y = .int i ∧ SqT K H p xs ∧ atI xs i = some v ∧ Q v H
def rIxS : R2 := fun x y H Q => ∃ z i c, x = .str z ∧ y = .int i ∧ z.length ≤ sizeLine ∧ atI z.cps.toList i = some c ∧ Q (.str ⟨#[c]⟩) H
theorem ix_list : IxR X (rIxL X.K) := by
  intro value slice pins s σ H x y v u Q I rx ry h hs
  obtain ⟨p, xs, i, z, rfl, rfl, hq, he, q⟩ := h
  cases rx
  obtain ⟨t, rfl⟩ := ry
  obtain ⟨its, r, pl, hz⟩ := I.list hq
  obtain ⟨j, h1, h2, h3, h4, h5⟩ := atI_get he
  obtain ⟨w, ew, rw'⟩ := r.get h2
  have hl := r.length
  have hn := line63
  have fin : EP X pins σ Q w s := ⟨z, H, I, rw', q⟩
  by_cases h0 : 0 ≤ i
  · have hj : i.toNat = j := by
      rw [seqIndex_of h0 h5] at h1
      exact Option.some.inj h1
    exact item_listR pl.isList h0 (by omega) (by rw [hj]; simpa using ew) fin hs
  · have hj : (i + (its.toArray.size : Int)).toNat = j := by
      rw [seqIndex_neg (by omega) h4] at h1
      rw [List.size_toArray, ← hl]
      exact Option.some.inj h1
    exact subscriptTail_builtinR (x := w) pl.isList.typeIs slot_list_getitem.lookup
      (wpAny_getItem_list_neg (Q := fun r s' => r = w ∧ EP X pins σ Q r s') pl.isList (by omega) (by rw [List.size_toArray] <;> omega) (by omega) (by rw [hj]; simpa using ew) ⟨rfl, fin⟩) hs
theorem ix_tup : IxR X (rIxT X.K) := by
  intro value slice pins s σ H x y v u Q I rx ry h hs
  obtain ⟨p, xs, i, z, rfl, rfl, hq, he, q⟩ := h
  cases rx
  obtain ⟨t, rfl⟩ := ry
  obtain ⟨its, r, pl, hz⟩ := I.tuple hq
  obtain ⟨j, h1, h2, h3, h4, h5⟩ := atI_get he
  obtain ⟨w, ew, rw'⟩ := r.get h2
  have hl := r.length
  have hn := line63
  have fin : EP X pins σ Q w s := ⟨z, H, I, rw', q⟩
  exact subscriptTail_builtinR (x := w) pl.typeIs slot_tuple_getitem.lookup
    (getItem_tuple (j := j) (Q := fun r s' => r = w ∧ EP X pins σ Q r s') pl (by omega) (by omega) (by rw [List.size_toArray, ← hl]; exact h1) (by simpa using ew) ⟨rfl, fin⟩) hs
theorem ix_str : IxR X rIxS := by
  intro value slice pins s σ H x y v u Q I rx ry h hs
  obtain ⟨z, i, c, rfl, rfl, hz, he, q⟩ := h
  obtain ⟨t, rfl⟩ := rx
  obtain ⟨t', rfl⟩ := ry
  obtain ⟨j, h1, h2, h3, h4, h5⟩ := atI_get he
  have hl : z.cps.toList.length = z.length := by simp [Str.length]
  rw [hl] at h1 h4 h5
  have hn := line63
  exact tail_any (typeIs_str s z t) slot_str_getitem.lookup (getItem_str (c := c) (by
    have e1 : decide (i < -(2 ^ 63 : Int)) = false := decide_eq_false (by omega)
    have e2 : decide (i ≥ 2 ^ 63) = false := decide_eq_false (by omega)
    rw [e1, e2, Bool.or_false]) (by rw [h1]; simpa using h2) ⟨.str ⟨#[c]⟩, H, I.tok _, ⟨_, rfl⟩, q⟩) hs
def rIx (K : PySem.W.Frag) : R2 := fun x y H Q => rIxL K x y H Q ∨ rIxT K x y H Q ∨ rIxS x y H Q
theorem ix_seq : IxR X (rIx X.K) := ix_list.or (ix_tup.or ix_str)
theorem mapSeq_set (its : List Value) (n j : Nat) (u : Value) : Obj.mapSeq (·.setIfInBounds j u) { cls := .type "list", data := .seq its.toArray n } = { cls := .type "list", data := .seq (its.set j u).toArray n } := by
  simp [Obj.mapSeq]
theorem Inv.lst {pins : List (Addr × Obj)} {σ : St} {H : Hp} {s : Shared} {p : Addr} {xs : List V} (I : Inv X pins σ H s) (h : H p = some (.lst xs)) :
    ∃ (its : List Value) (n : Nat), Vals xs its ∧ s.heap.get? p = some { cls := .type "list", data := .seq its.toArray n } ∧ xs.length ≤ sizeLine := by
  obtain ⟨z, its, n, r, e⟩ := I.hok p _ h
  exact ⟨its, n, r, e, z⟩
theorem Inv.lstUpd {pins : List (Addr × Obj)} {σ : St} {H : Hp} {s : Shared} {p : Addr} {xs ys : List V} {its its' : List Value} {n n' : Nat} {f : Obj → Obj} (I : Inv X pins σ H s) (h : H p = some (.lst xs))
    (ho : s.heap.get? p = some { cls := .type "list", data := .seq its.toArray n }) (hf : f { cls := .type "list", data := .seq its.toArray n } = { cls := .type "list", data := .seq its'.toArray n' }) (r : Vals ys its') (hz : ys.length ≤ sizeLine) (t : Nat) :
    Inv X pins σ (upd H p (.lst ys)) { s with heap := s.heap.update p f, toks := t } := by
  have e : (s.heap.update p f).get? p = some { cls := .type "list", data := .seq its'.toArray n' } := by
    rw [Heap.get?_update_self f ho (by rw [hf] <;> rfl), hf]
  refine I.write (x := p) (e := p) (by rw [h]; trivial) (.inl rfl) (fun b u hb q => (Heap.get?_update_other _ _ (Ne.symm hb)).trans q) ⟨_, e⟩ ?_
  exact ⟨hz, its', n', r, e⟩
def rSetL : V → V → V → Hp → (Hp → Prop) → Prop := fun o i v H Q => ∃ p xs k j, o = .ref p ∧ i = .int k ∧ H p = some (.lst xs) ∧ ixN xs.length k = some j ∧ Q (upd H p (.lst (xs.set j v)))
theorem set_list : PSet X rSetL := by
  intro pins s σ H o i v ov iv u Q I ro ri rv h
  obtain ⟨p, xs, k, j, rfl, rfl, hp, hj, q⟩ := h
  cases ro
  obtain ⟨t, rfl⟩ := ri
  obtain ⟨its, n, r, ho, hz⟩ := I.lst hp
  obtain ⟨h1, h2, h3, h4⟩ := ixN_seq hj
  have hl := r.length
  have hn := line63
  have I' : Inv X pins σ (upd H p (.lst (xs.set j v))) { s with heap := s.heap.update p (Obj.mapSeq (·.setIfInBounds j u)) } :=
    I.lstUpd hp ho (mapSeq_set its n j u) (r.set rv j) (by rw [List.length_set]; exact hz) s.toks
  by_cases h0 : 0 ≤ k
  · have hk : k.toNat = j := by
      rw [seqIndex_of h0 h4] at h1
      exact Option.some.inj h1
    exact PySem.W.ki_setAt ho h0 (by omega) (by rw [List.size_toArray, ← hl]; exact h4) (by rw [hk]; exact ⟨_, I', q⟩)
  · have hk : (k + (its.toArray.size : Int)).toNat = j := by
      rw [seqIndex_neg (by omega) h3] at h1
      rw [List.size_toArray, ← hl]
      exact Option.some.inj h1
    exact PySem.W.ki_setBack ho (by omega) (by rw [List.size_toArray, ← hl]; exact h3) (by omega) (by rw [hk]; exact ⟨_, I', q⟩)
theorem slice_bounds (lo hi : Option Int) (n : Nat) : (sliceBounds lo hi none n).1 = ((HT.sIx n 0 lo : Nat) : Int) ∧ (sliceBounds lo hi none n).2.1 = ((HT.sIx n n hi : Nat) : Int) ∧ (sliceBounds lo hi none n).2.2 = 1 := by
  refine ⟨?_, ?_, rfl⟩
  · cases lo with
    | none => simp [sliceBounds, HT.sIx]
    | some i =>
      simp only [sliceBounds, HT.sIx, Option.getD_none, show (1 : Int) > 0 by decide, if_true]
      by_cases h : i < 0
      · simp only [h, if_true] <;> omega
      · simp only [h, if_false] <;> omega
  · cases hi with
    | none => simp [sliceBounds, HT.sIx]
    | some i =>
      simp only [sliceBounds, HT.sIx, Option.getD_none, show (1 : Int) > 0 by decide, if_true]
      by_cases h : i < 0
      · simp only [h, if_true] <;> omega
      · simp only [h, if_false] <;> omega
theorem slicePick_cut (its : List Value) (lo hi : Option Int) : slicePick its.toArray lo hi none = ((its.drop (HT.sIx its.length 0 lo)).take (HT.sIx its.length its.length hi - HT.sIx its.length 0 lo)).toArray := by
  obtain ⟨h1, h2, h3⟩ := slice_bounds lo hi its.toArray.size
  unfold slicePick
  rw [h1, h2, h3]
  simp only [sliceRange_one, pick_run, List.size_toArray] <;> rfl
def rSlL (K : PySem.W.Frag) : V → Option Int → Option Int → Hp → VK → Prop := fun x lo hi H Q => ∃ a xs, x = .ref a ∧ SqL K H a xs ∧ ∀ p, H p = none → Q (.ref p) (upd H p (.lst (cutV xs lo hi)))
theorem sl_list : SlR X (rSlL X.K) := by
  intro pins s σ H x v vl vu lo hi sl Q I rx hs pl pu h
  obtain ⟨a, xs, rfl, hx, q⟩ := h
  cases rx
  obtain ⟨its, r, ht, hz⟩ := I.list hx
  have hlen := r.length
  refine ⟨"list", _, slot_list_getitem.lookup, ht.isList.typeIs, ?_⟩
  refine wpAny_getItem_list_slice ht.isList hs pl pu .none (by simp) ?_ (by rw [List.size_toArray] <;> omega)
  rw [slicePick_cut, ← hlen]
  refine ⟨.ref s.heap.objs.size, _, I.laid (t' := s.toks) (o := .lst (cutV xs lo hi)) (fun b ob q => Heap.get?_push_of_some _ q) (Nat.le_refl _) ?_, rfl, q _ (I.hok.fresh (Nat.le_refl _))⟩
  exact ⟨Nat.le_trans (cutV_length xs lo hi) hz, _, 0, (r.drop (HT.sIx xs.length 0 lo)).take (HT.sIx xs.length xs.length hi - HT.sIx xs.length 0 lo), Heap.get?_push_size _ rfl⟩
theorem CallR.or {f : Value} {r r' : List V → Hp → VK → Prop} (h : CallR X f r) (h' : CallR X f r') : CallR X f (fun xs H Q => r xs H Q ∨ r' xs H Q) := by
  intro pins s σ H xs us Q I rs q
  rcases q with q | q
  · exact h pins s σ H xs us Q I rs q
  · exact h' pins s σ H xs us Q I rs q
theorem call_list_of : CallR X (.type "list") (fun xs H Q => ∃ p ys, xs = [.ref p] ∧ (SqL X.K H p ys ∨ SqT X.K H p ys) ∧ ∀ l, H l = none → Q (.ref l) (upd H l (.lst ys))) := by
  intro pins s σ H xs us Q I r h
  obtain ⟨p, ys, rfl, hq, q⟩ := h
  obtain ⟨u, rfl, rx⟩ := vals1 r
  cases rx
  have fin : ∀ (its : List Value), Vals ys its → ys.length ≤ sizeLine → ∀ (h' : Heap) (c' : Nat), (∀ b o', s.heap.get? b = some o' → h'.get? b = some o') →
      h'.get? s.heap.objs.size = some { cls := .type "list", dict := none, data := .seq its.toArray c', slots := #[] } → EP X pins σ Q (.ref s.heap.objs.size) { s with heap := h' } := fun its r' hz h' c' kp e =>
    ⟨.ref s.heap.objs.size, _, I.laid (t' := s.toks) kp (Nat.le_refl _) (show ObjOk X.prog X.w _ h' _ (.lst ys) from ⟨hz, its, c', r', e⟩), rfl, q _ (I.hok.fresh (Nat.le_refl _))⟩
  rcases hq with hq | hq
  · obtain ⟨its, r', pl, hz⟩ := I.list hq
    have hlen := r'.length
    obtain ⟨o, ho, hc, n, hd⟩ := pl.isList
    exact call_list_seq p (.inl rfl) ho hc hd (fun h' c' kp e => fin its r' hz h' c' kp e) (by simp only [List.size_toArray] <;> omega)
  · obtain ⟨its, r', pl, hz⟩ := I.tuple hq
    have hlen := r'.length
    obtain ⟨o, ho, hc, n, hd⟩ := pl
    exact call_list_seq p (.inr rfl) ho hc hd (fun h' c' kp e => fin its r' hz h' c' kp e) (by simp only [List.size_toArray] <;> omega)
theorem call_tuple_of : CallR X (.type "tuple") (fun xs H Q => ∃ p ys, xs = [.ref p] ∧ ((SqL X.K H p ys ∧ ∀ l, H l = none → Q (.ref l) (upd H l (.tup ys))) ∨ (SqT X.K H p ys ∧ Q (.ref p) H))) := by
  intro pins s σ H xs us Q I r h
  obtain ⟨p, ys, rfl, h⟩ := h
  obtain ⟨u, rfl, rx⟩ := vals1 r
  cases rx
  rcases h with ⟨hq, q⟩ | ⟨hq, q⟩
  · obtain ⟨its, r', pl, hz⟩ := I.list hq
    have hlen := r'.length
    refine call_tuple_list pl.isList (fun h' kp => ?_) (by simp only [List.size_toArray] <;> omega)
    have I1 : Inv X pins σ H { s with heap := h' } := I.kept (t' := s.toks) kp
    have I2 : Inv X pins σ (upd H h'.objs.size (.tup ys)) { s with heap := h'.push { cls := .type "tuple", data := .seq its.toArray } } :=
      I1.laid (t' := s.toks) (fun b o e => Heap.get?_push_of_some _ e) (Nat.le_refl _) (show ObjOk X.prog X.w _ _ _ (.tup ys) from ⟨hz, its, r', IsTup.new _ _⟩)
    exact ⟨.ref h'.objs.size, _, I2, rfl, q _ (I1.hok.fresh (Nat.le_refl _))⟩
  · obtain ⟨its, r', pl, hz⟩ := I.tuple hq
    exact call_tuple_same pl ⟨.ref p, H, I, rfl, q⟩
def tyV (K : PySem.W.Frag) (T : String) (x : V) (H : Hp) : Prop := match x with
  | .str _ => T = "str"
  | .int _ => T = "int"
  | .ref p => (T = "list" ∧ ∃ xs, SqL K H p xs) ∨ (T = "tuple" ∧ ∃ o, K.lookup p = some o ∧ o.cls = .type "tuple" ∧ o.dict = none) ∨
      (T = "dict" ∧ ((∃ kvs, H p = some (.dK kvs)) ∨ ∃ kvs, H p = some (.dT kvs))) ∨ (T = "set" ∧ ∃ S n, H p = some (.set S n))
  | _ => False
theorem tyV_is {pins : List (Addr × Obj)} {σ : St} {H : Hp} {s : Shared} {T : String} {x : V} {v : Value} (I : Inv X pins σ H s) (r : RelV x v) (ty : tyV X.K T x H) :
    s.TypeIs v T ∧ ∀ a, v = .ref a → ∃ ob, s.heap.get? a = some ob ∧ ob.dict = none := by
  cases x with
  | str z =>
    obtain ⟨t, rfl⟩ := r
    cases (show T = "str" from ty)
    exact ⟨typeIs_str s z t, fun _ e => nomatch e⟩
  | int i =>
    obtain ⟨t, rfl⟩ := r
    cases (show T = "int" from ty)
    exact ⟨typeIs_int s i t, fun _ e => nomatch e⟩
  | ref p =>
    cases r
    rcases ty with ⟨rfl, xs, hq⟩ | ⟨rfl, o, hk, hc, hd⟩ | ⟨rfl, hk⟩ | ⟨rfl, S, n, hk⟩
    · obtain ⟨its, _, pl, _⟩ := I.list hq
      refine ⟨pl.isList.typeIs, fun a e => ?_⟩
      cases e
      obtain ⟨o, n, e, c, hd, _⟩ := pl
      exact ⟨o, e, hd⟩
    · refine ⟨⟨o, I.kIn p o hk, hc⟩, fun a e => ?_⟩
      cases e
      exact ⟨o, I.kIn _ o hk, hd⟩
    · have z : ∃ o, s.heap.get? p = some o ∧ o.ExactDict := by
        rcases hk with ⟨kvs, hk⟩ | ⟨kvs, hk⟩
        · obtain ⟨_, _, _, _, o, _, _, e, ex, _⟩ := I.hok p _ hk
          exact ⟨o, e, ex⟩
        · obtain ⟨_, _, _, _, o, _, _, e, ex, _⟩ := I.hok p _ hk
          exact ⟨o, e, ex⟩
      obtain ⟨o, e, ex⟩ := z
      refine ⟨⟨o, e, ex.1⟩, fun a e2 => ?_⟩
      cases e2
      exact ⟨o, e, ex.2.1⟩
    · obtain ⟨o, _, _, _, e, ex, _⟩ := I.hok p _ hk
      refine ⟨⟨o, e, ex.1⟩, fun a e2 => ?_⟩
      cases e2
      exact ⟨o, e, ex.2.1⟩
  | _ => exact False.elim ty
def tBM (K : PySem.W.Frag) (T : String) (r : V → List V → Hp → VK → Prop) (to : TE) (t : TA) : TE := fun σ H Q => to σ H fun x H1 => tyV K T x H1 ∧ t σ H1 fun xs H2 => r x xs H2 Q
variable {o e : Expr} {es : List Expr} {to : TE} {t : TA} {name : Str} {apos cpos : Pos} {T id : String} {r : V → List V → Hp → VK → Prop}
theorem pe_bm (pa : PlainAttrs T) (slot : Slot T name id) (hty : typeOf (.builtin id) = pure (.type "method_descriptor")) (hm : MtR X id r) (ho : PE X o to) (ha : PA X (e :: es) t)
    (hbase : attributeBase o name X.env (eval o X.env) = eval o X.env := by rfl)
    (hfew : ((backTo cpos (starEach (e :: es) X.env)).all (fun x => !x.1) && (backToKw cpos (keywordEach [] X.env)).all (fun x => x.1.isSome)
      && decide ((e :: es).length + ([] : List Keyword).length + (if ([] : List Keyword).isEmpty then 0 else 1) < 30)) = true := by rfl)
    (hline : (apos.endLine == cpos.line) = true := by rfl) (hs : starEach (e :: es) X.env = (false, eval e X.env) :: starEach es X.env := by rfl) (hplain : (backTo cpos (starEach es X.env)).any (·.1) = false := by rfl) :
    PE X (.Call (.Attribute o name apos) (e :: es) [] cpos) (tBM X.K T r to t) := by
  intro pins s σ H Q I h
  refine wpAny_Call_method_late hbase hfew hline rfl (thn (ho pins s σ H _ I h) fun v s1 ⟨x, H1, I1, r1, ty, q1⟩ => ?_)
  obtain ⟨h1, h2⟩ := tyV_is I1 r1 ty
  refine ⟨T, id, pa, slot, hty, h1, h2, ?_⟩
  have hA := ha cpos pins s1 σ H1 _ I1 q1
  rw [hs] at hA ⊢
  refine Calls.callWith_builtin (by show (false || (backTo cpos (starEach es X.env)).any (·.1)) = false; rw [hplain] <;> rfl) (Calls.evalArgs_plain ?_)
  exact thn hA fun us s2 ⟨vs, H2, I2, r2, q2⟩ => hm pins s2 σ H2 x vs v us Q I2 r1 r2 q2
end
end L2
namespace L2
open PySem PySem.Spec PyProof.Rows
def MtM (X : Cx) (id : String) (r : V → List V → Hp → VK → Prop) : Prop :=
  ∀ (pins : List (Addr × Obj)) (s : Shared) (σ : St) (H : Hp) (x : V) (xs : List V) (v : Value) (us : List Value) (Q : VK), Inv X pins σ H s → RelV x v → Vals xs us → r x xs H Q →
    wpAny (model X.prog X.w) X.A (call (.builtin id) (v :: us)) (EP X pins σ Q) X.xe s
theorem Vals.one : ∀ {x : V} {us : List Value}, Vals [x] us → ∃ u, us = [u] ∧ RelV x u
  | _, _, .cons r .nil => ⟨_, rfl, r⟩
theorem Vals.two : ∀ {x y : V} {us : List Value}, Vals [x, y] us → ∃ u v, us = [u, v] ∧ RelV x u ∧ RelV y v
  | _, _, _, .cons r (.cons q .nil) => ⟨_, _, rfl, r, q⟩
theorem Vals.zero : ∀ {us : List Value}, Vals [] us → us = []
  | _, .nil => rfl
theorem Vals.reverse {xs : List V} {us : List Value} (h : Vals xs us) : Vals xs.reverse us.reverse := by
  induction h with
  | nil => exact .nil
  | cons r t ih => rw [List.reverse_cons, List.reverse_cons]; exact Vals.append ih (.cons r .nil)
theorem Vals.rep {xs : List V} {us : List Value} (h : Vals xs us) : ∀ k : Nat, Vals (List.replicate k xs).flatten (List.replicate k us).flatten
  | 0 => .nil
  | k + 1 => by
    rw [List.replicate_succ, List.replicate_succ, List.flatten_cons, List.flatten_cons]
    exact Vals.append h (Vals.rep h k)
theorem foldl_rep (its : List Value) : ∀ (k : Nat) (acc : List Value),
    List.foldl (fun x1 x2 => x1 ++ x2) acc.toArray (List.replicate k its.toArray) = (acc ++ (List.replicate k its).flatten).toArray
  | 0, acc => by simp
  | k + 1, acc => by
    have e : acc.toArray ++ its.toArray = (acc ++ its).toArray := by simp
    have e2 : (acc ++ its) ++ (List.replicate k its).flatten = acc ++ (List.replicate (k + 1) its).flatten := by
      rw [List.replicate_succ, List.flatten_cons, List.append_assoc]
    rw [← e2, ← foldl_rep its k (acc ++ its), ← e, List.replicate_succ, List.foldl_cons]
section
variable {X : Cx} {pins : List (Addr × Obj)} {σ : St} {H : Hp} {s : Shared} {l b : Addr} {xs ys zs : List V}
theorem Inv.lset {its its' : List Value} {n : Nat} {f : Array Value → Array Value} {t' : Nat} (I : Inv X pins σ H s) (hH : H l = some (.lst xs))
    (e : s.heap.get? l = some { cls := .type "list", data := .seq its.toArray n }) (hf : f its.toArray = its'.toArray) (hv : Vals ys its') (hz : ys.length ≤ sizeLine) :
    Inv X pins σ (upd H l (.lst ys)) { s with heap := s.heap.update l (Obj.mapSeq f), toks := t' } := by
  have q := PySem.IsL.update e f
  rw [hf] at q
  refine I.write (x := l) (e := l) (by rw [hH]; exact trivial) (.inl rfl) (fun b' u hb hu => (Heap.get?_update_other s.heap (Obj.mapSeq f) (Ne.symm hb)).trans hu) ⟨_, q⟩ ?_
  exact ⟨hz, its', _, hv, q⟩
theorem Inv.lnew {its : List Value} {t' : Nat} (I : Inv X pins σ H s) (hv : Vals ys its) (hz : ys.length ≤ sizeLine) :
    Inv X pins σ (upd H s.heap.objs.size (.lst ys)) { s with heap := s.heap.push { cls := .type "list", data := .seq its.toArray }, toks := t' } :=
  I.laid (fun _ _ q => Heap.get?_push_of_some _ q) (Nat.le_refl _) ⟨hz, its, 0, hv, Heap.get?_push_size _ rfl⟩
theorem Inv.fresh (I : Inv X pins σ H s) : H s.heap.objs.size = none := I.hok.fresh (Nat.le_refl _)
theorem Inv.lstM (I : Inv X pins σ H s) (hH : H l = some (.lst xs)) : xs.length ≤ sizeLine ∧ ∃ (its : List Value) (n : Nat), Vals xs its ∧ xs.length = its.length ∧ s.heap.get? l = some { cls := .type "list", data := .seq its.toArray n } := by
  obtain ⟨z, its, n, r, e⟩ := I.hok l _ hH
  exact ⟨z, its, n, r, r.length, e⟩
theorem notLongL {n : Nat} (h : n ≤ sizeLine) : Builtin.List.listTooLong n = false := by
  unfold Builtin.List.listTooLong
  exact decide_eq_false (by omega)
end
section
variable {X : Cx}
def rAppend : V → List V → Hp → VK → Prop := fun x vs H Q => ∃ l xs y, x = .ref l ∧ vs = [y] ∧ H l = some (.lst xs) ∧ xs.length < sizeLine ∧ Q .non (upd H l (.lst (xs ++ [y])))
theorem mt_append : MtM X "list.append" rAppend := by
  intro pins s σ H x vs v us Q I rx rv h
  obtain ⟨l, xs, y, rfl, rfl, hH, hz, q⟩ := h
  cases rx
  obtain ⟨u, rfl, ru⟩ := rv.one
  obtain ⟨z, its, n, r, hl, e⟩ := I.lstM hH
  refine call_meets F.slot_list_append ⟨_, e, rfl⟩ F.entry_list_append (F.args_list_append_2 _ _) (PySem.list_append l its.toArray n u (by rw [List.size_toArray]; omega)) ⟨e, ?_⟩
  refine ⟨.non, _, I.lset (its' := its ++ [u]) hH e (by simp) (r.append (.cons ru .nil)) ?_, rfl, q⟩
  rw [List.length_append, List.length_singleton]
  omega
def rExtend : V → List V → Hp → VK → Prop := fun x vs H Q => ∃ l b xs zs, x = .ref l ∧ vs = [.ref b] ∧ H l = some (.lst xs) ∧ H b = some (.lst zs) ∧ xs.length + zs.length ≤ sizeLine ∧ Q .non (upd H l (.lst (xs ++ zs)))
theorem mt_extend : MtM X "list.extend" rExtend := by
  intro pins s σ H x vs v us Q I rx rv h
  obtain ⟨l, b, xs, zs, rfl, rfl, hH, hB, hz, q⟩ := h
  cases rx
  obtain ⟨u, rfl, ru⟩ := rv.one
  cases ru
  obtain ⟨z, its, n, r, hl, e⟩ := I.lstM hH
  obtain ⟨z2, its2, n2, r2, hl2, e2⟩ := I.lstM hB
  have hsz : its.toArray.size + its2.toArray.size ≤ sizeLine := by rw [List.size_toArray, List.size_toArray]; omega
  have hlong : ¬ (!its.toArray.isEmpty && Builtin.List.listTooLong (its.toArray.size + its2.toArray.size)) = true := by
    rw [notLongL hsz, Bool.and_false]
    exact Bool.false_ne_true
  refine call_meets F.slot_list_extend ⟨_, e, rfl⟩ F.entry_list_extend (F.args_list_extend_2 _ _)
    (AutoSeq1.list_extend_list_list_0 l its.toArray n b its2.toArray n2 hlong (by rw [List.size_toArray]; omega) (by omega)) ⟨e, e2, ?_⟩
  refine ⟨.non, _, I.lset (its' := its ++ its2) hH e (by simp) (r.append r2) ?_, rfl, q⟩
  rw [List.length_append]
  omega
def rCat : R2 := fun x y H Q => ∃ l b xs zs, x = .ref l ∧ y = .ref b ∧ H l = some (.lst xs) ∧ H b = some (.lst zs) ∧ xs.length + zs.length ≤ sizeLine ∧ ∀ p, H p = none → Q (.ref p) (upd H p (.lst (xs ++ zs)))
theorem op_cat : OpR X (binaryOp .Add) rCat := by
  intro pins s σ H x y v u Q I rx ry h
  obtain ⟨l, b, xs, zs, rfl, rfl, hH, hB, hz, q⟩ := h
  cases rx
  cases ry
  obtain ⟨z, its, n, r, hl, e⟩ := I.lstM hH
  obtain ⟨z2, its2, n2, r2, hl2, e2⟩ := I.lstM hB
  refine PySem.P.add_list e e2 ?_ (by rw [List.size_toArray, List.size_toArray]; omega)
  have ea : its.toArray ++ its2.toArray = (its ++ its2).toArray := by simp
  rw [ea]
  exact ⟨.ref _, _, I.lnew (t' := s.toks) (r.append r2) (by rw [List.length_append]; omega), rfl, q _ I.fresh⟩
def rRep : R2 := fun x y H Q => ∃ l k xs, x = .ref l ∧ y = .int k ∧ H l = some (.lst xs) ∧ -(2 ^ 63) ≤ k ∧ k < 2 ^ 63 ∧ xs.length * k.toNat ≤ sizeLine ∧
  ∀ p, H p = none → Q (.ref p) (upd H p (.lst (List.replicate k.toNat xs).flatten))
theorem len_rep {α : Type} (xs : List α) (k : Nat) : (List.replicate k xs).flatten.length = k * xs.length := by
  induction k with
  | zero => simp
  | succ k ih => rw [List.replicate_succ, List.flatten_cons, List.length_append, ih, Nat.succ_mul, Nat.add_comm]
theorem op_rep : OpR X (binaryOp .Mult) rRep := by
  intro pins s σ H x y v u Q I rx ry h
  obtain ⟨l, k, xs, rfl, rfl, hH, h1, h2, hz, q⟩ := h
  cases rx
  obtain ⟨t, rfl⟩ := ry
  obtain ⟨z, its, n, r, hl, e⟩ := I.lstM hH
  have hlen : its.toArray.size * k.toNat ≤ sizeLine := by rw [List.size_toArray, ← hl]; exact hz
  have hcap : ¬ its.toArray.size * k.toNat > (2 ^ 63 - 1) / 8 := by
    have : (sizeLine : Nat) ≤ (2 ^ 63 - 1) / 8 := by decide
    omega
  have hfit : ¬ (!Builtin.List.listFitsIndex k) = true := by
    rw [fitsIndex_both h1 h2]
    exact Bool.false_ne_true
  have hlong : ¬ Builtin.List.listTooLong (its.toArray.size * k.toNat) = true := by
    rw [notLongL hlen]
    exact Bool.false_ne_true
  have hnew : List.foldl (fun x1 x2 => x1 ++ x2) #[] (List.replicate (if its.toArray.isEmpty = true then 0 else k.toNat) its.toArray) = (List.replicate k.toNat its).flatten.toArray := by
    have f0 : ∀ m : Nat, List.foldl (fun x1 x2 => x1 ++ x2) #[] (List.replicate m its.toArray) = (List.replicate m its).flatten.toArray := fun m => by
      have := foldl_rep its m []
      rw [List.nil_append] at this
      exact this
    rw [f0]
    cases its with
    | nil => simp
    | cons a r' => rw [if_neg (by simp)]
  refine wpAny_binaryOp_repeat_ref (T := "list") (U := "int") (by decide) ⟨_, e, rfl⟩ (fun s' => typeIs_int s' k t) noFill_list_mul F.fills_int_mul F.slot_int_rmul repeat_list F.slot_int_index.lookup
    (call_meets F.slot_int_rmul (typeIs_int s k t) F.entry_int_rmul (F.args_int_rmul_2 _ _) (int___rmul___int_list k t l its.toArray n)
      ⟨e, rfl, ⟨_, e, rfl⟩, call_meets F.slot_list_mul ⟨_, e, rfl⟩ F.entry_list_mul (F.args_list_mul_2 _ _) (AutoListH.list___mul___list_int_3 l its.toArray n k t hfit hcap hlong) ⟨e, ?_⟩⟩)
  rw [hnew]
  exact ⟨.ref _, _, I.lnew (t' := s.toks) (r.rep k.toNat) (by rw [len_rep, Nat.mul_comm]; exact hz), rfl, q _ I.fresh⟩
end
section
variable {prog : Program} {w : World} {A : Around} {E : Value → Shared → Prop} {s : Shared}
end
section
variable {X : Cx}
end
end L2
namespace Att
open PySem PySem.W PySem.Calls PyProof.Rows
theorem ints_of_wellAll {P : Params} {h : Heap} : ∀ (ns : List Int) (vs : List Value), WellAll P h vs (ns.map WData.int) → IntsAre vs ns := by
  intro ns
  induction ns with
  | nil =>
    intro vs w
    rw [List.map_nil] at w
    cases w
    exact .nil
  | cons n ns ih =>
    intro vs w
    rw [List.map_cons] at w
    cases w with
    | cons a b =>
      cases a
      exact .cons _ _ (ih _ b)
theorem script_of {l : OpenLaw} {n : Nat} (hn : l.most = some n) {P : Params} {h : Heap} {args : List WData} {vals : List Value}
    (hpre : l.row.toRowW.claim.pre args = true) (hwl : WellAll P h vals args) :
    ∃ a vs ns, vals = [Value.ref a] ∧ args = [WData.list (ns.map WData.int)] ∧ h.get? a = some { cls := .type "list", data := .seq vs.toArray } ∧ IntsAre vs ns ∧ ns.length ≤ n := by
  have hsh : WShape.hasAll [] args [.list .int] = true := (pre_splitW hpre).1
  have hc : l.pre.holds [] { args := args } = true := (pre_splitW hpre).2
  obtain ⟨d, r, rfl, h1, h2⟩ := hasAllW_cons hsh
  obtain rfl := hasAllW_nil h2
  obtain ⟨xs, rfl, h3⟩ := hasW_list h1
  obtain ⟨ns, rfl⟩ := items_int h3
  have hlen : ns.length ≤ n := by
    unfold OpenLaw.pre at hc
    have h4 : (WTm.not (.lt (.lit (.int (n : Int))) (.len (.arg 0)))).holds [] { args := [.list (ns.map .int)] } = true := by
      have h4 := (holds_andW hc).1
      rw [hn] at h4
      exact h4
    have h5 := condW_of h4 (w_not (w_lt w_lit (w_len_list (w_arg rfl))))
    rw [List.length_map] at h5
    refine Nat.le_of_not_lt fun q => ?_
    have q' : (n : Int) < ((ns.length : Nat) : Int) := by omega
    first
      | (rw [decide_eq_true q'] at h5; exact absurd h5 (by decide))
      | (simp at h5; omega)
  cases hwl with
  | cons w1 w2 =>
    cases w2
    cases w1 with
    | list ho hall => exact ⟨_, _, ns, rfl, rfl, ho, ints_of_wellAll ns _ hall, hlen⟩
theorem post_true (l : OpenLaw) (args : List WData) : l.row.toRowW.claim.post args (.bool true) args = true :=
  postW_of (r := l.row.toRowW) (X := (true == true))
    (show WShape.has [] (.bool true) .bool = true by first | rfl | decide | simp [WShape.has, WShape.arms, WShape.armsAll])
    (show (WTm.eq .res (.lit (.bool true))).value [] { args := args, res := some (.bool true), after := args } = some (.bool (true == true)) from w_eq_bool (w_res rfl) w_lit) rfl
theorem attach_call {l : OpenLaw} {n : Nat} {q : Program} {loose : List Str} {XP : (Str → Option Value) → Heap → Prop} {YP : World → Heap → Prop} {d : DefRec}
    (hn : l.most = some n) (hdf : d.params.defaults = [])
    (call : ∀ (w : World) (s₀ s₁ : Shared) (mg mb : Str → Option Value) (fa : Addr) (o : Obj) (pm cd doc : Value) (a : Addr) (vs : List Value) (ns : List Int),
      Ground q loose [] XP w s₀ mg mb s₁.heap → YP w s₁.heap →
      s₁.heap.get? fa = some o → o.data = .func (docDef d.name d.params d.body d.scope pm cd doc) → s₁.heap.CodeRec cd d.name → mg d.name = some (.ref fa) →
      s₁.heap.get? a = some { cls := .type "list", data := .seq vs.toArray } → IntsAre vs ns → ns.length ≤ n → s₁.gens = #[] →
      codeAny (model l.prog w) callerA (.call (.ref fa) ⟨[.ref a], []⟩) (fun r s' => r = .ok (.ret (.bool true)) ∧ OldK s₁.heap s'.heap ∧ s'.os = s₁.os ∧ AllBare s'.gens) s₁) :
    WalkO q loose XP YP l.row.toRowW d [] (fun f vs => PySem.call f vs) := by
  intro w s₀ s₁ mg mb G Y fa o pm cd doc dV kV ho hd hcd hD hmg hg args vals as hpre hlay hrd hwl hlo
  obtain rfl : dV = .none := Dflts.none hD hdf
  obtain rfl : kV = .none := Dflts.noKw hD
  obtain ⟨a, vs, ns, rfl, rfl, hobj, hints, hlen⟩ := script_of hn hpre hwl
  refine enter_call (codeAny_mono (call w s₀ s₁ mg mb fa o pm cd doc a vs ns G Y ho (fd_plain hd) hcd hmg hobj hints hlen hg) fun r s' hq => ?_)
  obtain ⟨rfl, h2, h3, h4⟩ := hq
  exact ⟨.inl ⟨.bool true, .bool true, [], rfl, fun _ => rfl, .bool true, post_true l _, fun _ => ⟨List.Pairwise.nil, fun _ hm => (nomatch hm)⟩⟩, h2, h3, h4⟩
section
variable {prog : Program} {w : World} {A : Around} {E : Value → Shared → Prop} {s : Shared} {K : Frag}
end
end Att
namespace L2
open PySem PySem.Spec PyProof.Rows
theorem vals_ints : ∀ {vs : List Value} {ns : List Int}, IntsAre vs ns → Vals (ns.map V.int) vs
  | _, _, .nil => .nil
  | _, _, .cons n t h => .cons ⟨t, rfl⟩ (vals_ints h)
def Only (H : Hp) : Prop := ∀ b, H b = none ∨ ∃ o xs, H b = some (.frz o (.lst xs))
theorem law_call {P : Program} {w : World} {K : PySem.W.Frag} {mg mb : Str → Option Value} {CX : CXT} {k : Nat} {fa a : Addr} {fd : FuncData} {x : Str} {sp : Sp} {s₁ : Shared} {vs : List Value} {ns : List Int}
    (KX : K.In s₁.heap) (hns : s₁.heap.Ns mainGlobals mg) (hb : s₁.heap.Ns builtinsNs mb) (hbb : ∀ x : Str, x ≠ "__name__" → mb x = bootBuiltins x) (hlim : s₁.heap.NoLimit) (hg : s₁.gens = #[])
    (ha : s₁.heap.get? a = some { cls := .type "list", data := .seq vs.toArray }) (hi : IntsAre vs ns) (hl : ns.length ≤ sizeLine) (hr : Room k callerA)
    (F : ∀ base : Heap, K.In base → base.Ns mainGlobals mg → FnOk P w K mg base CX k fa fd [x] sp) (hbind : ∀ (s : Shared) (u : Value), BindsTo s fd ⟨[u], []⟩ [(x, u)])
    (hsp : ∀ H : Hp, Only H → SqL K H a (ns.map V.int) → sp [.ref a] H (fun v _ => v = .bl true) fun _ _ _ => False)
    (hCX : ∀ H e s', CX [] H s₁ (fun _ _ _ => False) e s' → False) :
    codeAny (model P w) callerA (.call (.ref fa) ⟨[.ref a], []⟩) (fun r s' => r = .ok (.ret (.bool true)) ∧ OldK s₁.heap s'.heap ∧ s'.os = s₁.os ∧ AllBare s'.gens) s₁ := by
  have rv := vals_ints hi
  have lenV := hi.length
  -- from an abstract heap in which nothing but the script may be tracked
  have core : ∀ H : Hp, Only H → SqL K H a (ns.map V.int) → HOk P w H s₁.heap → (∀ b, H b ≠ none → b = a) → (H a ≠ none → K.lookup a = none) →
      codeAny (model P w) callerA (.call (.ref fa) ⟨[.ref a], []⟩) (fun r s' => r = .ok (.ret (.bool true)) ∧ OldK s₁.heap s'.heap ∧ s'.os = s₁.os ∧ AllBare s'.gens) s₁ := by
    intro H hO hS hok hA hK
    have base_of : ∀ {b : Addr} {o : Obj}, s₁.heap.get? b = some o → H b = none → (hidT s₁.heap H).get? b = some o := fun e n => hidT_get e n
    have noA : ∀ {b : Addr} {o : Obj} {es : Array DictEntry} {ep : Nat}, s₁.heap.get? b = some o → o.data = .dict es ep → H b = none := fun {b o es ep} e d => by
      cases q : H b with
      | none => rfl
      | some u =>
        have e' : b = a := hA b (by rw [q]; simp)
        subst e'
        rw [ha] at e; cases e
        have d' : Data.seq vs.toArray _ = Data.dict es ep := d
        cases d'
    have nsK : ∀ {b : Addr} {m : Str → Option Value}, s₁.heap.Ns b m → (hidT s₁.heap H).Ns b m := fun {b m} ⟨o, es, ep, e, d, r⟩ => ⟨o, es, ep, base_of e (noA e d), d, r⟩
    have hKb : K.In (hidT s₁.heap H) := fun b o e => base_of (KX b o e) (by
      cases q : H b with
      | none => rfl
      | some u =>
        have e' : b = a := hA b (by rw [q]; simp)
        subst e'
        rw [hK (by rw [q]; simp)] at e; cases e)
    have hM : Mod K mg (hidT s₁.heap H) := ⟨hKb, nsK hns, ⟨mb, nsK hb, hbb⟩, let ⟨mc, h1, h2⟩ := hlim; ⟨mc, nsK h1, h2⟩⟩
    have e0 : Env0 P w K mg (hidT s₁.heap H) callerA [] s₁ H := ⟨rfl, hM, fun b o e => of_hidT e, Nat.le_of_eq (hidT_size _ _), trivial, fun b hb => absurd (show b ∈ ([] : List Addr) from hb) (by simp), hok, .of_eq hg⟩
    refine codeAny_mono ((F _ hKb (nsK hns)).run callerA [] s₁ H ⟨[.ref a], []⟩ [.ref a] [.ref a] _ _ hr e0 (hbind s₁ (.ref a)) (.cons rfl .nil) (hsp H hO hS)) fun r s' h => ?_
    cases r with
    | error e => exact (hCX H e s' h).elim
    | ok fl =>
      cases fl with
      | next => exact False.elim h
      | brk => exact False.elim h
      | cont => exact False.elim h
      | ret u =>
        obtain ⟨v, H', os, bare, un, hok', r', q⟩ := h
        have q' : v = .bl true := q
        subst q'
        obtain rfl : u = Value.bool true := r'
        refine ⟨rfl, OldK.of_keep fun b o e => ?_, os, bare⟩
        cases q : H b with
        | none => exact un.keep b o e q (by intro z; exact absurd (show b ∈ ([] : List Addr) from z) (by simp)) (by simp)
        | some u =>
          rcases hO b with z | ⟨ob, xs, z⟩
          · rw [q] at z; cases z
          · have z2 := un.frzs b ob _ z
            obtain ⟨e1, _⟩ := hok b _ z
            obtain ⟨e2, _⟩ := hok' b _ z2
            rw [e] at e1; cases e1
            exact e2
  cases hk : K.lookup a with
  | some o =>
    -- the script is one of the module's own objects
    have e := KX a o hk
    rw [ha] at e
    cases e
    refine core (fun _ => none) (fun _ => .inl rfl) (.inr ⟨_, vs.toArray, _, hk, rfl, rfl, rfl, by rw [List.size_toArray, lenV]; exact hl, by simpa using rv⟩) (fun b u z => by have z' : (none : Option HO) = some u := z; cases z') (fun b z => absurd rfl z) fun z => absurd rfl z
  | none =>
    refine core (fun b => if b = a then some (.frz { cls := .type "list", data := .seq vs.toArray } (.lst (ns.map V.int))) else none) (fun b => ?_) (.inl (.inr ⟨{ cls := .type "list", data := .seq vs.toArray }, if_pos rfl⟩)) (fun b u z => ?_) (fun b z => ?_) fun _ => hk
    · by_cases hb : b = a
      · exact .inr ⟨_, _, if_pos hb⟩
      · exact .inl (if_neg hb)
    · by_cases hb : b = a
      · have z' := (if_pos hb).symm.trans z
        cases z'
        subst hb
        exact ⟨ha, by rw [List.length_map]; exact hl, vs, _, rv, ha⟩
      · have z' := (if_neg hb).symm.trans z
        cases z'
    · by_cases hb : b = a
      · exact hb
      · exact absurd (if_neg hb) z
end L2
namespace L2
open PySem PySem.Spec PyProof.Rows
theorem walk_of {l : PySem.W.OpenLaw} {n k : Nat} {q : Program} {loose : List Str} {XP : (Str → Option Value) → Heap → Prop} {YP : World → Heap → Prop} {d : DefRec} {K : Params → PySem.W.Frag} {CX : World → CXT} {sp : World → Sp} {x : Str}
    (hn : l.most = some n) (hn2 : n ≤ sizeLine) (hdf : d.params.defaults = []) (hr : Room k callerA)
    (hY : ∀ (w : World) (h : Heap), YP w h → (K w.params).In h)
    (F : ∀ (w : World) (mg : Str → Option Value) (fa : Addr) (h : Heap), (K w.params).In h → h.Ns mainGlobals mg → mg d.name = some (.ref fa) →
      ∃ fd : FuncData, (∀ (s : Shared) (u : Value), BindsTo s fd ⟨[u], []⟩ [(x, u)]) ∧
        ∀ base : Heap, (K w.params).In base → base.Ns mainGlobals mg → FnOk l.prog w (K w.params) mg base (CX w) k fa fd [x] (sp w))
    (hsp : ∀ (w : World) (H : Hp) (a : Addr) (ns : List Int), ns.length ≤ n → Only H → SqL (K w.params) H a (ns.map V.int) → sp w [.ref a] H (fun v _ => v = .bl true) fun _ _ _ => False)
    (hCX : ∀ (w : World) (H : Hp) (s : Shared) (e : Value) (s' : Shared), CX w [] H s (fun _ _ _ => False) e s' → False) :
    PySem.W.WalkO q loose XP YP l.row.toRowW d [] (fun f vs => PySem.call f vs) := by
  refine Att.attach_call hn hdf fun w s₀ s₁ mg mb fa o pm cd doc a vs ns G Y ho hd hcd hmg hobj hints hlen hg => ?_
  have KX := hY w _ Y
  obtain ⟨fd, hb, hF⟩ := F w mg fa _ KX G.T.g hmg
  exact law_call KX G.T.g G.T.b G.T.builtins G.T.nolimit hg hobj hints (Nat.le_trans hlen hn2) hr hF hb (fun H hO hS => hsp w H a ns hlen hO hS) fun H e s' => hCX w H s₁ e s'
theorem walk_ofK {l : PySem.W.OpenLaw} {n k : Nat} {q : Program} {loose : List Str} {XP : (Str → Option Value) → Heap → Prop} {YP : World → Heap → Prop} {d : DefRec} {K : Params → PySem.W.Frag} {CX : CXT} {sp : PySem.W.Frag → Sp} {x : Str}
    (hn : l.most = some n) (hn2 : n ≤ sizeLine) (hdf : d.params.defaults = []) (hr : Room k callerA)
    (hY : ∀ (w : World) (h : Heap), YP w h → (K w.params).In h)
    (F : ∀ (w : World) (mg : Str → Option Value) (fa : Addr) (h : Heap), (K w.params).In h → h.Ns mainGlobals mg → mg d.name = some (.ref fa) →
      ∃ fd : FuncData, (∀ (s : Shared) (u : Value), BindsTo s fd ⟨[u], []⟩ [(x, u)]) ∧
        ∀ base : Heap, (K w.params).In base → base.Ns mainGlobals mg → FnOk l.prog w (K w.params) mg base CX k fa fd [x] (sp (K w.params)))
    (hsp : ∀ (K : PySem.W.Frag) (H : Hp) (a : Addr) (ns : List Int), ns.length ≤ n → Only H → SqL K H a (ns.map V.int) → sp K [.ref a] H (fun v _ => v = .bl true) fun _ _ _ => False)
    (hCX : ∀ (H : Hp) (s : Shared) (e : Value) (s' : Shared), CX [] H s (fun _ _ _ => False) e s' → False) :
    PySem.W.WalkO q loose XP YP l.row.toRowW d [] (fun f vs => PySem.call f vs) :=
  walk_of (K := K) (CX := fun _ => CX) (sp := fun w => sp (K w.params)) hn hn2 hdf hr hY F (fun w H a ns h1 h2 h3 => hsp (K w.params) H a ns h1 h2 h3) fun _ H s e s' => hCX H s e s'
end L2
namespace L2
open PySem PySem.Spec PyProof.Rows
def defArgs (s : Stmt) : Arguments := match s with
  | .FunctionDef _ a _ _ _ _ _ _ _ _ => a
  | _ => { posonlyargs := [], args := [], vararg := none, kwonlyargs := [], kw_defaults := [], kwarg := none, defaults := [] }
def defBody (s : Stmt) : List Stmt := match s with
  | .FunctionDef _ _ b _ _ _ _ _ _ _ => b
  | _ => []
def defScope (s : Stmt) : Scope := match s with
  | .FunctionDef _ _ _ _ _ _ sc _ _ _ => sc
  | _ => { kind := .function, names := [], isGenerator := false, isCoroutine := false }
abbrev CX0 : CXT := fun _ _ _ _ _ _ => False
abbrev E0 : XK := fun _ _ _ => False
theorem pass0 {X : Cx} : Passes CX0 X E0 := fun _ _ _ _ _ _ _ h => h.elim
structure Fun (K : PySem.W.Frag) (x qual : Str) (st : Stmt) (f : Addr) (fd : FuncData) : Prop where
  ex : ∃ (oc : Value) (od : Option Addr) (kV doc pm : Value) (an : Option Addr) (cdv ct : Value) (osl : Array (Option Value)),
    fd = PySem.W.fnOf x qual (defArgs st) (defBody st) (defScope st) .none kV doc pm an cdv ct ∧ K.lookup f = some ⟨oc, od, .func fd, osl⟩ ∧ PySem.W.codeIn K cdv qual = true
  kp : PySem.W.keepIn K (.ref f) = true
section
variable {P : Program} {w : World} {K : PySem.W.Frag} {mg : Str → Option Value} {base : Heap}
theorem Fun.ok {x qual : Str} {st : Stmt} {f : Addr} {fd : FuncData} {N ps : List Str} {k : Nat} {sp : Sp} (F : Fun K x qual st f fd) (S : FnScope N ps (defScope st)) (len : ∀ vs H Q E, sp vs H Q E → vs.length = ps.length)
    (hbody : ∀ (cdv : Value) (A : Around) (outer : List Env) (s : Shared) (H : Hp) (vs : List V) (Q : VK) (E : XK), Room k (A.deeper (envOfC qual (defScope st) s.heap.objs.size f cdv)) → sp vs H Q E →
      ∃ t, PSs (cxOf CX0 P w K mg base N qual (defScope st) f cdv A outer s H E).nox (defBody st) t ∧ t { nx := fun _ H' => Q .non H', rt := Q } (start N vs) H) : FnOk P w K mg base CX0 (k + 1) f fd ps sp := by
  obtain ⟨oc, od, kV, doc, pm, an, cdv, ct, osl, rfl, lk, hcd⟩ := F.ex
  refine fn_of lk hcd S len fun A outer s H vs Q E hr hsp => ?_
  obtain ⟨t, h, q⟩ := hbody cdv A outer s H vs Q E hr hsp
  exact ⟨t, h.nox, q⟩
theorem Fun.binds {x qual : Str} {st : Stmt} {f : Addr} {fd : FuncData} {ps : List Str} (F : Fun K x qual st f fd)
    (h : ∀ (kV doc pm : Value) (an : Option Addr) (cdv ct : Value) (us : List Value), us.length = ps.length → bindArgs (PySem.W.fnOf x qual (defArgs st) (defBody st) (defScope st) .none kV doc pm an cdv ct) ⟨us, []⟩ = pure (ps.zip us)) : Binds K fd ps [] := by
  obtain ⟨oc, od, kV, doc, pm, an, cdv, ct, osl, rfl, lk, hcd⟩ := F.ex
  exact .all (h kV doc pm an cdv ct)
theorem fun_mk {x qual : Str} {st : Stmt} {f : Addr} {oc : Value} {od an : Option Addr} {osl : Array (Option Value)} {kV doc pm cdv ct : Value} (l : K.lookup f = some ⟨oc, od, .func (PySem.W.fnOf x qual (defArgs st) (defBody st) (defScope st) .none kV doc pm an cdv ct), osl⟩)
    (c : PySem.W.codeIn K cdv qual = true) (k : PySem.W.keepIn K (.ref f) = true) : Fun K x qual st f (PySem.W.fnOf x qual (defArgs st) (defBody st) (defScope st) .none kV doc pm an cdv ct) := ⟨⟨oc, od, kV, doc, pm, an, cdv, ct, osl, rfl, l, c⟩, k⟩
end
section
variable {X : Cx}
theorem pv (i : Nat) {x : Str} {pos : Pos} (hN : X.N[i]? = some x := by rfl) (hv : Vis X.env.scope x := by first | exact Or.inl rfl | exact Or.inr (Or.inl rfl) | exact Or.inr (Or.inr rfl)) (hd : (x == ("__debug__" : Str)) = false := by decide)
    (hcd : (x == ("__classdict__" : Str)) = false := by decide) : PE X (.Name x pos) (tVar i) := pe_var hN hv hd hcd
end
def Same (H H' : Hp) : Prop := ∀ b o, H b = some o → H' b = some o
theorem Same.refl (H : Hp) : Same H H := fun _ _ h => h
theorem Same.trans {H H1 H2 : Hp} (a : Same H H1) (b : Same H1 H2) : Same H H2 := fun c o h => b c o (a c o h)
theorem Same.free {H H' : Hp} (e : Same H H') {l : Addr} (h : H' l = Option.none) : H l = Option.none := by
  cases q : H l with
  | none => rfl
  | some o =>
    rw [e l o q] at h
    cases h
theorem Same.seq {K : PySem.W.Frag} {H H' : Hp} {a : Addr} {xs : List V} (e : Same H H') (h : SqL K H a xs) : SqL K H' a xs := by
  rcases h with (h | ⟨o, h⟩) | h
  · exact .inl (.inl (e _ _ h))
  · exact .inl (.inr ⟨o, e _ _ h⟩)
  · exact .inr h
end L2
set_option Elab.async false
set_option linter.all false
set_option maxRecDepth 100000
namespace DL
open PySem PySem.Spec PyProof.Rows L2
inductive D where
  | non | bl (b : Bool) | int (i : Int) | str (x : Str) | tup (l : List D) | lst (i : Nat)
structure Cell where
  fz : Bool
  xs : List D
abbrev Sto := List Cell
abbrev Lc := List (Option D)
structure XD where
  cls : Nat
  fld : Option D
inductive Out (α : Type) where
  | ok (a : α) (S : Sto)
  | exc (x : XD) (S : Sto)
  | bad
def Out.bind {α β : Type} (o : Out α) (g : α → Sto → Out β) : Out β :=
  match o with
  | .ok a S => g a S
  | .exc x S => .exc x S
  | .bad => .bad
mutual
def Rep (K : PySem.W.Frag) (mp : List Addr) (H : Hp) : D → V → Prop
  | .non, v => v = .non
  | .bl b, v => v = .bl b
  | .int i, v => v = .int i
  | .str x, v => v = .str x
  | .tup l, v => ∃ a xs, v = .ref a ∧ SqT K H a xs ∧ RepL K mp H l xs
  | .lst i, v => ∃ a, v = .ref a ∧ mp[i]? = some a
def RepL (K : PySem.W.Frag) (mp : List Addr) (H : Hp) : List D → List V → Prop
  | [], vs => vs = []
  | d :: l, vs => ∃ v r, vs = v :: r ∧ Rep K mp H d v ∧ RepL K mp H l r
end
structure Aft (K : PySem.W.Frag) (mp : List Addr) (H : Hp) (mp' : List Addr) (H' : Hp) : Prop where
  pre : ∀ (i : Nat) (a : Addr), mp[i]? = some a → mp'[i]? = some a
  tup : ∀ a xs, SqT K H a xs → SqT K H' a xs
theorem Aft.refl {K : PySem.W.Frag} {mp : List Addr} {H : Hp} : Aft K mp H mp H := ⟨fun _ _ h => h, fun _ _ h => h⟩
theorem Aft.trans {K : PySem.W.Frag} {mp mp1 mp2 : List Addr} {H H1 H2 : Hp} (a : Aft K mp H mp1 H1) (b : Aft K mp1 H1 mp2 H2) : Aft K mp H mp2 H2 :=
  ⟨fun i x h => b.pre i x (a.pre i x h), fun x xs h => b.tup x xs (a.tup x xs h)⟩
mutual
theorem Rep.aft {K : PySem.W.Frag} {mp mp' : List Addr} {H H' : Hp} (a : Aft K mp H mp' H') : ∀ (d : D) (v : V), Rep K mp H d v → Rep K mp' H' d v
  | .non, v, h => h
  | .bl _, v, h => h
  | .int _, v, h => h
  | .str _, v, h => h
  | .tup l, v, h => by
    obtain ⟨p, xs, e, s, r⟩ := (show ∃ a xs, v = .ref a ∧ SqT K H a xs ∧ RepL K mp H l xs from h)
    exact ⟨p, xs, e, a.tup _ _ s, RepL.aft a l xs r⟩
  | .lst i, v, h => by
    obtain ⟨p, e, s⟩ := (show ∃ a, v = .ref a ∧ mp[i]? = some a from h)
    exact ⟨p, e, a.pre _ _ s⟩
theorem RepL.aft {K : PySem.W.Frag} {mp mp' : List Addr} {H H' : Hp} (a : Aft K mp H mp' H') : ∀ (l : List D) (vs : List V), RepL K mp H l vs → RepL K mp' H' l vs
  | [], vs, h => h
  | d :: l, vs, h => by
    obtain ⟨v, r, e, h1, h2⟩ := (show ∃ v r, vs = v :: r ∧ Rep K mp H d v ∧ RepL K mp H l r from h)
    exact ⟨v, r, e, Rep.aft a d v h1, RepL.aft a l r h2⟩
end
section
variable {K : PySem.W.Frag} {mp : List Addr} {H : Hp}
theorem RepL.nil : RepL K mp H [] [] := rfl
theorem RepL.cons {d : D} {v : V} {l : List D} {r : List V} (h : Rep K mp H d v) (t : RepL K mp H l r) : RepL K mp H (d :: l) (v :: r) := ⟨v, r, rfl, h, t⟩
theorem RepL.len : ∀ {l : List D} {vs : List V}, RepL K mp H l vs → vs.length = l.length
  | [], vs, h => by cases (show vs = [] from h); rfl
  | d :: l, vs, h => by
    obtain ⟨v, r, e, h1, h2⟩ := h
    subst e
    simp [RepL.len h2]
theorem RepL.get : ∀ {l : List D} {vs : List V} {i : Nat} {d : D}, RepL K mp H l vs → l[i]? = some d → ∃ v, vs[i]? = some v ∧ Rep K mp H d v
  | [], _, _, _, _, e => by simp at e
  | d :: l, vs, 0, _, h, e => by
    obtain ⟨v, r, q, h1, h2⟩ := h
    subst q
    simp at e
    subst e
    exact ⟨v, rfl, h1⟩
  | d :: l, vs, i + 1, x, h, e => by
    obtain ⟨v, r, q, h1, h2⟩ := h
    subst q
    obtain ⟨v', a, b⟩ := RepL.get (i := i) (d := x) h2 (by simpa using e)
    exact ⟨v', by simpa using a, b⟩
theorem RepL.append : ∀ {l m : List D} {vs ws : List V}, RepL K mp H l vs → RepL K mp H m ws → RepL K mp H (l ++ m) (vs ++ ws)
  | [], m, vs, ws, h, g => by cases (show vs = [] from h); exact g
  | d :: l, m, vs, ws, h, g => by
    obtain ⟨v, r, q, h1, h2⟩ := h
    subst q
    exact ⟨v, r ++ ws, rfl, h1, RepL.append h2 g⟩
theorem RepL.take : ∀ {l : List D} {vs : List V} (n : Nat), RepL K mp H l vs → RepL K mp H (l.take n) (vs.take n)
  | [], vs, n, h => by cases (show vs = [] from h); simp; exact RepL.nil
  | d :: l, vs, 0, h => by simp; exact RepL.nil
  | d :: l, vs, n + 1, h => by
    obtain ⟨v, r, q, h1, h2⟩ := h
    subst q
    simpa using RepL.cons h1 (RepL.take n h2)
theorem RepL.drop : ∀ {l : List D} {vs : List V} (n : Nat), RepL K mp H l vs → RepL K mp H (l.drop n) (vs.drop n)
  | [], vs, n, h => by cases (show vs = [] from h); simp; exact RepL.nil
  | d :: l, vs, 0, h => by simpa using h
  | d :: l, vs, n + 1, h => by
    obtain ⟨v, r, q, h1, h2⟩ := h
    subst q
    simpa using RepL.drop n h2
theorem RepL.set : ∀ {l : List D} {vs : List V} {d : D} {v : V} (n : Nat), RepL K mp H l vs → Rep K mp H d v → RepL K mp H (l.set n d) (vs.set n v)
  | [], vs, d, v, n, h, g => by cases (show vs = [] from h); simp; exact RepL.nil
  | x :: l, vs, d, v, 0, h, g => by
    obtain ⟨v', r, q, h1, h2⟩ := h
    subst q
    simpa using RepL.cons g h2
  | x :: l, vs, d, v, n + 1, h, g => by
    obtain ⟨v', r, q, h1, h2⟩ := h
    subst q
    simpa using RepL.cons h1 (RepL.set n h2 g)
theorem RepL.rep {d : D} {v : V} (h : Rep K mp H d v) : ∀ n : Nat, RepL K mp H (List.replicate n d) (List.replicate n v)
  | 0 => RepL.nil
  | n + 1 => RepL.cons h (RepL.rep h n)
end
def SqF (K : PySem.W.Frag) (H : Hp) (a : Addr) (xs : List V) : Prop :=
  (∃ o, H a = some (.frz o (.lst xs))) ∨
    ∃ (o : Obj) (its : Array Value) (n : Nat), K.lookup a = some o ∧ o.cls = .type "list" ∧ o.dict = none ∧ o.data = .seq its n ∧ its.size ≤ sizeLine ∧ Vals xs its.toList
theorem SqF.sq {K : PySem.W.Frag} {H : Hp} {a : Addr} {xs : List V} (h : SqF K H a xs) : SqL K H a xs := by
  rcases h with h | h
  · exact .inl (.inr h)
  · exact .inr h
def CellOk (K : PySem.W.Frag) (mp : List Addr) (H : Hp) (a : Addr) (c : Cell) : Prop :=
  ∃ xs, RepL K mp H c.xs xs ∧ (if c.fz = true then SqF K H a xs else H a = some (.lst xs))
structure RS (K : PySem.W.Frag) (mp : List Addr) (H : Hp) (S : Sto) : Prop where
  len : mp.length = S.length
  cell : ∀ (i : Nat) (a : Addr) (c : Cell), mp[i]? = some a → S[i]? = some c → CellOk K mp H a c
  inj : ∀ (i j : Nat) (a : Addr) (ci cj : Cell), mp[i]? = some a → mp[j]? = some a → S[i]? = some ci → S[j]? = some cj → ci.fz = false → cj.fz = false → i = j
structure Gd (K : PySem.W.Frag) (mp : List Addr) (H : Hp) (σ : L2.St) (ρ : Lc) (S : Sto) : Prop where
  rs : RS K mp H S
  len : σ.length = ρ.length
  loc : ∀ (i : Nat) (d : D), ρ[i]? = some (some d) → ∃ v, σ[i]? = some (some v) ∧ Rep K mp H d v
theorem Gd.aft {K : PySem.W.Frag} {mp mp' : List Addr} {H H' : Hp} {σ : L2.St} {ρ : Lc} {S S' : Sto} (g : Gd K mp H σ ρ S) (a : Aft K mp H mp' H') (r : RS K mp' H' S') : Gd K mp' H' σ ρ S' :=
  ⟨r, g.len, fun i d h => let ⟨v, e, q⟩ := g.loc i d h; ⟨v, e, q.aft a⟩⟩
abbrev XW := XD → List Addr → Hp → L2.St → Lc → Sto → Prop
abbrev RL (α β : Type) := List Addr → Hp → α → β → Prop
def PostG {α β : Type} (K : PySem.W.Frag) (R : RL α β) (XQ : XW) (σ : L2.St) (ρ : Lc) (mp : List Addr) (H : Hp) (o : Out α) (Q : β → Hp → Prop) : Prop :=
  match o with
  | .ok d S => ∀ mp' H' v, Aft K mp H mp' H' → RS K mp' H' S → R mp' H' d v → Q v H'
  | .exc x S => ∀ mp' H', Aft K mp H mp' H' → Gd K mp' H' σ ρ S → XQ x mp' H' σ ρ S
  | .bad => False
theorem PostG.aft {α β : Type} {K : PySem.W.Frag} {R : RL α β} {XQ : XW} {σ : L2.St} {ρ : Lc} {mp mp' : List Addr} {H H' : Hp} {o : Out α} {Q : β → Hp → Prop} (p : PostG K R XQ σ ρ mp H o Q) (a : Aft K mp H mp' H') : PostG K R XQ σ ρ mp' H' o Q := by
  cases o with
  | ok d S => exact fun m h v b => p m h v (a.trans b)
  | exc x S => exact fun m h b => p m h (a.trans b)
  | bad => exact p
theorem PostG.ok {α β : Type} {K : PySem.W.Frag} {R : RL α β} {XQ : XW} {σ : L2.St} {ρ : Lc} {mp : List Addr} {H : Hp} {d : α} {S : Sto} {v : β} {Q : β → Hp → Prop} (p : PostG K R XQ σ ρ mp H (.ok d S) Q) (r : RS K mp H S) (h : R mp H d v) : Q v H := p mp H v .refl r h
abbrev Post (K : PySem.W.Frag) (XQ : XW) := PostG (β := V) K (Rep K) XQ
abbrev Ev (α : Type) := Lc → Sto → Out α
def rdG {α β : Type} (K : PySem.W.Frag) (R : RL α β) (XQ : XW) (f : Ev α) : L2.St → Hp → (β → Hp → Prop) → Prop := fun σ H Q => ∃ mp ρ S, Gd K mp H σ ρ S ∧ PostG K R XQ σ ρ mp H (f ρ S) Q
def kB : RL Bool Bool := fun _ _ a b => b = a
def kO : RL (Option Int) (Option Int) := fun _ _ a b => b = a
abbrev rdE (K : PySem.W.Frag) (XQ : XW) (f : Ev D) : TE := rdG K (Rep K) XQ f
abbrev rdA (K : PySem.W.Frag) (XQ : XW) (f : Ev (List D)) : TA := rdG K (RepL K) XQ f
abbrev rdT (K : PySem.W.Frag) (XQ : XW) (f : Ev Bool) : TT := rdG K kB XQ f
abbrev rdO (K : PySem.W.Frag) (XQ : XW) (f : Ev (Option Int)) : TO := rdG K kO XQ f
def JE (X : Cx) (XQ : XW) (e : Expr) (f : Ev D) : Prop := PE X e (rdE X.K XQ f)
def JA (X : Cx) (XQ : XW) (es : List Expr) (f : Ev (List D)) : Prop := PA X es (rdA X.K XQ f)
def JT (X : Cx) (XQ : XW) (e : Expr) (f : Ev Bool) : Prop := PT X e (rdT X.K XQ f)
def JW (X : Cx) (XQ : XW) (e : Expr) (f : Ev Bool) : Prop := PW X e (rdT X.K XQ f)
def JO (X : Cx) (XQ : XW) (e : Option Expr) (f : Ev (Option Int)) : Prop := PO X e (rdO X.K XQ f)
theorem PE.mono {X : Cx} {e : Expr} {t t' : TE} (h : PE X e t) (m : ∀ σ H Q, t' σ H Q → t σ H Q) : PE X e t' := fun pins s σ H Q I q => h pins s σ H Q I (m σ H Q q)
theorem PT.mono {X : Cx} {e : Expr} {t t' : TT} (h : PT X e t) (m : ∀ σ H Q, t' σ H Q → t σ H Q) : PT X e t' := fun pins s σ H Q I q => h pins s σ H Q I (m σ H Q q)
theorem PW.mono {X : Cx} {e : Expr} {t t' : TT} (h : PW X e t) (m : ∀ σ H Q, t' σ H Q → t σ H Q) : PW X e t' := fun wh pins s σ H Q I q => h wh pins s σ H Q I (m σ H Q q)
theorem PO.mono {X : Cx} {e : Option Expr} {t t' : TO} (h : PO X e t) (m : ∀ σ H Q, t' σ H Q → t σ H Q) : PO X e t' := fun pins s σ H Q I q => h pins s σ H Q I (m σ H Q q)
theorem PA.mono {X : Cx} {e : List Expr} {t t' : TA} (h : PA X e t) (m : ∀ σ H Q, t' σ H Q → t σ H Q) : PA X e t' := fun pos pins s σ H Q I q => h pos pins s σ H Q I (m σ H Q q)
theorem PS.mono {X : Cx} {e : Stmt} {t t' : TS} (h : PS X e t) (m : ∀ D σ H, t' D σ H → t D σ H) : PS X e t' := fun pins s σ H D I q => h pins s σ H D I (m D σ H q)
theorem PSs.mono {X : Cx} {e : List Stmt} {t t' : TS} (h : PSs X e t) (m : ∀ D σ H, t' D σ H → t D σ H) : PSs X e t' := fun pins s σ H D I q => h pins s σ H D I (m D σ H q)
theorem bindP {α β γ δ : Type} {K : PySem.W.Frag} {R : RL α β} {R' : RL γ δ} {XQ : XW} {mp : List Addr} {H : Hp} {σ : L2.St} {ρ : Lc} {S : Sto} {f : Ev α} {g : α → Sto → Out γ} {Q : δ → Hp → Prop} {Q1 : β → Hp → Prop} (G : Gd K mp H σ ρ S) (p : PostG K R' XQ σ ρ mp H ((f ρ S).bind g) Q)
    (k : ∀ mp1 H1 d S1 v, Aft K mp H mp1 H1 → Gd K mp1 H1 σ ρ S1 → R mp1 H1 d v → PostG K R' XQ σ ρ mp1 H1 (g d S1) Q → Q1 v H1) : rdG K R XQ f σ H Q1 := by
  refine ⟨mp, ρ, S, G, ?_⟩
  cases e : f ρ S with
  | ok d S1 =>
    rw [e] at p
    exact fun mp1 H1 v a rs r => k mp1 H1 d S1 v a (G.aft a rs) r (PostG.aft p a)
  | exc x S1 => rw [e] at p; exact p
  | bad => rw [e] at p; exact p
def vr (i : Nat) : Ev D := fun ρ S => match ρ[i]? with
  | some (some d) => .ok d S
  | _ => .bad
def cn (d : D) : Ev D := fun _ S => .ok d S
section
variable {X : Cx} {XQ : XW}
theorem je_var (i : Nat) {x : Str} {pos : Pos} (hN : X.N[i]? = some x := by rfl) (hv : Vis X.env.scope x := by first | exact Or.inl rfl | exact Or.inr (Or.inl rfl) | exact Or.inr (Or.inr rfl)) (hd : (x == ("__debug__" : Str)) = false := by decide)
    (hcd : (x == ("__classdict__" : Str)) = false := by decide) : JE X XQ (.Name x pos) (vr i) := by
  refine PE.mono (pe_var hN hv hd hcd) fun σ H Q ⟨mp, ρ, S, G, p⟩ => ?_
  unfold vr at p
  cases e : ρ[i]? with
  | none => rw [e] at p; exact p.elim
  | some o =>
    rw [e] at p
    cases o with
    | none => exact p.elim
    | some d =>
      obtain ⟨v, h1, h2⟩ := G.loc i d e
      exact ⟨v, h1, PostG.ok p G.rs h2⟩
theorem je_const {e : Expr} {d : D} {v : V} (h : PE X e (tC v)) (r : ∀ mp H, Rep X.K mp H d v) : JE X XQ e (cn d) :=
  PE.mono h fun σ H Q ⟨mp, ρ, S, G, p⟩ => PostG.ok p G.rs (r mp H)
theorem je_int {i : Int} {j pos} : JE X XQ (.Constant (.int i) j pos) (cn (.int i)) := je_const pe_int fun _ _ => rfl
theorem je_bl {b : Bool} {j pos} : JE X XQ (.Constant (.bool b) j pos) (cn (.bl b)) := je_const pe_bl fun _ _ => rfl
theorem je_non {j pos} : JE X XQ (.Constant .none j pos) (cn .non) := je_const pe_non fun _ _ => rfl
theorem je_str {x : Str} {j pos} : JE X XQ (.Constant (.str x) j pos) (cn (.str x)) := je_const pe_str fun _ _ => rfl
def an : Ev (List D) := fun _ S => .ok [] S
def ac (f : Ev D) (g : Ev (List D)) : Ev (List D) := fun ρ S => (f ρ S).bind fun x S1 => (g ρ S1).bind fun xs S2 => .ok (x :: xs) S2
theorem ja_nil : JA X XQ [] an := PA.mono pa_nil fun σ H Q ⟨mp, ρ, S, G, p⟩ => PostG.ok p G.rs RepL.nil
theorem ja_cons {e : Expr} {es : List Expr} {f : Ev D} {g : Ev (List D)} (ha : JE X XQ e f) (hr : JA X XQ es g) (hs : starEach (e :: es) X.env = (false, eval e X.env) :: starEach es X.env := by rfl) : JA X XQ (e :: es) (ac f g) := by
  refine PA.mono (pa_cons ha hr hs) fun σ H Q ⟨mp, ρ, S, G, p⟩ => ?_
  refine bindP G p fun mp1 H1 x S1 v a1 G1 r1 p1 => ?_
  refine bindP G1 p1 fun mp2 H2 xs S2 vs a2 G2 r2 p2 => ?_
  exact PostG.ok p2 G2.rs (RepL.cons (Rep.aft a2 _ _ r1) r2)
theorem aft_new {K : PySem.W.Frag} {mp : List Addr} {H : Hp} {p : Addr} {o : HO} (h : H p = none) : Aft K mp H mp (upd H p o) := by
  refine ⟨fun _ _ e => e, fun a xs s => ?_⟩
  rcases s with (s | ⟨ob, s⟩) | s
  · exact .inl (.inl (by rw [upd_ne (ne_of_none s h)]; exact s))
  · exact .inl (.inr ⟨ob, by rw [upd_ne (ne_of_none s h)]; exact s⟩)
  · exact .inr s
theorem sqF_new {K : PySem.W.Frag} {H : Hp} {p a : Addr} {o : HO} {xs : List V} (h : H p = none) (s : SqF K H a xs) : SqF K (upd H p o) a xs := by
  rcases s with ⟨ob, s⟩ | s
  · exact .inl ⟨ob, by rw [upd_ne (ne_of_none s h)]; exact s⟩
  · exact .inr s
theorem CellOk.new {K : PySem.W.Frag} {mp mp' : List Addr} {H : Hp} {p a : Addr} {o : HO} {c : Cell} (h : H p = none) (af : Aft K mp H mp' (upd H p o)) (q : CellOk K mp H a c) : CellOk K mp' (upd H p o) a c := by
  obtain ⟨xs, r, e⟩ := q
  refine ⟨xs, RepL.aft af _ _ r, ?_⟩
  cases z : c.fz with
  | true => rw [z] at e; exact (if_pos rfl).mpr (sqF_new h ((if_pos rfl).mp e))
  | false =>
    rw [z, if_neg Bool.false_ne_true] at e
    rw [if_neg Bool.false_ne_true, upd_ne (ne_of_none e h)]
    exact e
theorem RS.new {K : PySem.W.Frag} {mp : List Addr} {H : Hp} {S : Sto} {p : Addr} {o : HO} (r : RS K mp H S) (h : H p = none) : RS K mp (upd H p o) S :=
  ⟨r.len, fun i a c e1 e2 => (r.cell i a c e1 e2).new h (aft_new h), r.inj⟩
theorem RS.newL {K : PySem.W.Frag} {mp : List Addr} {H : Hp} {S : Sto} {p : Addr} {ds : List D} {vs : List V} (r : RS K mp H S) (h : H p = none) (q : RepL K mp H ds vs) :
    Aft K mp H (mp ++ [p]) (upd H p (.lst vs)) ∧ RS K (mp ++ [p]) (upd H p (.lst vs)) (S ++ [⟨false, ds⟩]) ∧ (mp ++ [p])[S.length]? = some p := by
  have af : Aft K mp H (mp ++ [p]) (upd H p (.lst vs)) := ⟨fun i a e => by rw [List.getElem?_append_left (List.getElem?_eq_some_iff.mp e).1]; exact e, (aft_new (mp := mp) h).tup⟩
  have hl := r.len
  have lastp : (mp ++ [p])[S.length]? = some p := by rw [← hl]; simp
  refine ⟨af, ⟨by simp [hl], fun i a c e1 e2 => ?_, fun i j a ci cj e1 e2 e3 e4 f1 f2 => ?_⟩, lastp⟩
  · by_cases hi : i < S.length
    · rw [List.getElem?_append_left (by omega)] at e1
      rw [List.getElem?_append_left hi] at e2
      exact (r.cell i a c e1 e2).new h af
    · have hi' : i = S.length := by
        have := (List.getElem?_eq_some_iff.mp e2).1
        simp at this
        omega
      subst hi'
      rw [lastp] at e1
      cases e1
      simp at e2
      subst e2
      exact ⟨vs, RepL.aft af _ _ q, by simp [upd_same]⟩
  · have old : ∀ (i : Nat) (a : Addr) (c : Cell), i < S.length → (mp ++ [p])[i]? = some a → (S ++ [⟨false, ds⟩])[i]? = some c → c.fz = false → mp[i]? = some a ∧ S[i]? = some c ∧ a ≠ p := fun i a c hi e1 e2 f => by
      rw [List.getElem?_append_left (by omega)] at e1
      rw [List.getElem?_append_left hi] at e2
      refine ⟨e1, e2, ?_⟩
      obtain ⟨xs, _, e⟩ := r.cell i a c e1 e2
      rw [f, if_neg Bool.false_ne_true] at e
      exact ne_of_none e h
    have hi := (List.getElem?_eq_some_iff.mp e3).1
    have hj := (List.getElem?_eq_some_iff.mp e4).1
    simp at hi hj
    by_cases hi' : i < S.length
    · obtain ⟨o1, o2, o3⟩ := old i a ci hi' e1 e3 f1
      by_cases hj' : j < S.length
      · obtain ⟨u1, u2, u3⟩ := old j a cj hj' e2 e4 f2
        exact r.inj i j a ci cj o1 u1 o2 u2 f1 f2
      · have : j = S.length := by omega
        subst this
        rw [lastp] at e2
        cases e2
        exact absurd rfl o3
    · have : i = S.length := by omega
      subst this
      rw [lastp] at e1
      cases e1
      by_cases hj' : j < S.length
      · obtain ⟨u1, u2, u3⟩ := old j _ cj hj' e2 e4 f2
        exact absurd rfl u3
      · omega
theorem RS.setL {K : PySem.W.Frag} {mp : List Addr} {H : Hp} {S : Sto} {i : Nat} {a : Addr} {c : Cell} {xs vs : List V} {ds : List D} (r : RS K mp H S) (hi : mp[i]? = some a) (hc : S[i]? = some c) (hf : c.fz = false) (ha : H a = some (.lst xs)) (q : RepL K mp H ds vs) :
    Aft K mp H mp (upd H a (.lst vs)) ∧ RS K mp (upd H a (.lst vs)) (S.set i ⟨false, ds⟩) := by
  have af : Aft K mp H mp (upd H a (.lst vs)) := by
    refine ⟨fun _ _ e => e, fun b ys s => ?_⟩
    rcases s with (s | ⟨ob, s⟩) | s
    · exact .inl (.inl (by rw [upd_ne (ne_of s ha (by intro z; cases z))]; exact s))
    · exact .inl (.inr ⟨ob, by rw [upd_ne (ne_of s ha (by intro z; cases z))]; exact s⟩)
    · exact .inr s
  refine ⟨af, ⟨by simp [r.len], fun j b cj e1 e2 => ?_, fun j k b cj ck e1 e2 e3 e4 f1 f2 => ?_⟩⟩
  · by_cases hj : j = i
    · subst hj
      rw [hi] at e1
      cases e1
      rw [List.getElem?_set_self (List.getElem?_eq_some_iff.mp hc).1] at e2
      cases e2
      exact ⟨vs, RepL.aft af _ _ q, by simp [upd_same]⟩
    · rw [List.getElem?_set_ne (Ne.symm hj)] at e2
      obtain ⟨ys, h1, h2⟩ := r.cell j b cj e1 e2
      refine ⟨ys, RepL.aft af _ _ h1, ?_⟩
      cases z : cj.fz with
      | true =>
        rw [z] at h2
        have h2 : SqF K H b ys := (if_pos rfl).mp h2
        refine (if_pos rfl).mpr ?_
        rcases h2 with ⟨ob, s⟩ | s
        · exact .inl ⟨ob, by rw [upd_ne (ne_of s ha (by intro z; cases z))]; exact s⟩
        · exact .inr s
      | false =>
        rw [z, if_neg Bool.false_ne_true] at h2
        rw [if_neg Bool.false_ne_true]
        have hb : b ≠ a := fun hb => by
          subst hb
          exact hj (r.inj j i b cj c e1 hi e2 hc z hf)
        rw [upd_ne hb]
        exact h2
  · have fz : ∀ (j : Nat) (cj : Cell), (S.set i ⟨false, ds⟩)[j]? = some cj → cj.fz = false → ∃ c', S[j]? = some c' ∧ c'.fz = false := fun j cj e f => by
      by_cases hj : j = i
      · subst hj
        exact ⟨c, hc, hf⟩
      · rw [List.getElem?_set_ne (Ne.symm hj)] at e
        exact ⟨cj, e, f⟩
    obtain ⟨c1, g1, g2⟩ := fz j cj e3 f1
    obtain ⟨c2, g3, g4⟩ := fz k ck e4 f2
    exact r.inj j k b c1 c2 e1 e2 g1 g3 g2 g4
theorem RS.items {K : PySem.W.Frag} {mp : List Addr} {H : Hp} {S : Sto} {i : Nat} {c : Cell} {v : V} (r : RS K mp H S) (h : Rep K mp H (.lst i) v) (e : S[i]? = some c) : ∃ a xs, v = .ref a ∧ mp[i]? = some a ∧ SqL K H a xs ∧ RepL K mp H c.xs xs ∧ (c.fz = false → H a = some (.lst xs)) := by
  obtain ⟨a, ev, ea⟩ := (show ∃ a, v = .ref a ∧ mp[i]? = some a from h)
  obtain ⟨xs, q, z⟩ := r.cell i a c ea e
  cases f : c.fz with
  | true => rw [f] at z; exact ⟨a, xs, ev, ea, ((if_pos rfl).mp z : SqF K H a xs).sq, q, fun w => nomatch w⟩
  | false => rw [f, if_neg Bool.false_ne_true] at z; exact ⟨a, xs, ev, ea, SqL.of z, q, fun _ => z⟩
theorem Rep.tup {K : PySem.W.Frag} {mp : List Addr} {H : Hp} {l : List D} {v : V} (h : Rep K mp H (.tup l) v) : ∃ a xs, v = .ref a ∧ SqT K H a xs ∧ RepL K mp H l xs := h
def OpD (K : PySem.W.Frag) (r : R2) (o : D → D → Sto → Out D) : Prop :=
  ∀ (XQ : XW) (σ : L2.St) (ρ : Lc) (mp : List Addr) (H : Hp) (S : Sto) (x y : D) (v u : V) (Q : VK), RS K mp H S → Rep K mp H x v → Rep K mp H y u → Post K XQ σ ρ mp H (o x y S) Q → r v u H Q
def o2 (o : D → D → Sto → Out D) (fa fb : Ev D) : Ev D := fun ρ S => (fa ρ S).bind fun x S1 => (fb ρ S1).bind fun y S2 => o x y S2
theorem opR2 {r : R2} {o : D → D → Sto → Out D} {fa fb : Ev D} (hd : OpD X.K r o) : ∀ σ H Q, rdE X.K XQ (o2 o fa fb) σ H Q → tOp r (rdE X.K XQ fa) (rdE X.K XQ fb) σ H Q := by
  intro σ H Q ⟨mp, ρ, S, G, p⟩
  refine bindP G p fun mp1 H1 x S1 v a1 G1 r1 p1 => ?_
  refine bindP G1 p1 fun mp2 H2 y S2 u a2 G2 r2 p2 => ?_
  exact hd XQ σ ρ mp2 H2 S2 x y v u Q G2.rs (Rep.aft a2 _ _ r1) r2 p2
theorem je_op {a b : Expr} {fa fb : Ev D} {op : Operator} {r : R2} {o : D → D → Sto → Out D} {pos : Pos} (ho : OpR X (binaryOp op) r) (hd : OpD X.K r o) (ha : JE X XQ a fa) (hb : JE X XQ b fb) : JE X XQ (.BinOp a op b pos) (o2 o fa fb) :=
  PE.mono (pe_op ho ha hb) (opR2 hd)
theorem je_cmp {a b : Expr} {fa fb : Ev D} {op : CmpOp} {r : R2} {o : D → D → Sto → Out D} {pos : Pos} (ho : OpR X (compareOp op) r) (hd : OpD X.K r o) (ha : JE X XQ a fa) (hb : JE X XQ b fb) (hm : behindInMarks op b = false) : JE X XQ (.Compare a [op] [b] pos) (o2 o fa fb) :=
  PE.mono (pe_cmpR ho ha hb hm) (opR2 hd)
theorem je_ix {a b : Expr} {fa fb : Ev D} {r : R2} {o : D → D → Sto → Out D} {pos : Pos} (hr : IxR X r) (hd : OpD X.K r o) (ha : JE X XQ a fa) (hb : JE X XQ b fb) (hs : PlainIx b) : JE X XQ (.Subscript a b pos) (o2 o fa fb) :=
  PE.mono (pe_ix hr ha hb hs) (opR2 hd)
def UnD (K : PySem.W.Frag) (r : V → Hp → VK → Prop) (o : D → Sto → Out D) : Prop :=
  ∀ (XQ : XW) (σ : L2.St) (ρ : Lc) (mp : List Addr) (H : Hp) (S : Sto) (x : D) (v : V) (Q : VK), RS K mp H S → Rep K mp H x v → Post K XQ σ ρ mp H (o x S) Q → r v H Q
def o1 (o : D → Sto → Out D) (fa : Ev D) : Ev D := fun ρ S => (fa ρ S).bind fun x S1 => o x S1
theorem je_un {a : Expr} {fa : Ev D} {op : UnaryOp} {r : V → Hp → VK → Prop} {o : D → Sto → Out D} {pos : Pos} (ho : UnR X (unaryOp op) r) (hd : UnD X.K r o) (ha : JE X XQ a fa) : JE X XQ (.UnaryOp op a pos) (o1 o fa) := by
  refine PE.mono (pe_un ho ha) fun σ H Q ⟨mp, ρ, S, G, p⟩ => ?_
  exact bindP G p fun mp1 H1 x S1 v a1 G1 r1 p1 => hd XQ σ ρ mp1 H1 S1 x v Q G1.rs r1 p1
def tp (f : Ev (List D)) : Ev D := fun ρ S => (f ρ S).bind fun xs S1 => if xs.length ≤ 1000000 then .ok (.tup xs) S1 else .bad
def ls (f : Ev (List D)) : Ev D := fun ρ S => (f ρ S).bind fun xs S1 => if xs.length ≤ 1000000 then .ok (.lst S1.length) (S1 ++ [⟨false, xs⟩]) else .bad
theorem line_le {n : Nat} (h : n ≤ 1000000) : n ≤ sizeLine := Nat.le_trans h (by decide)
theorem post_tup {K : PySem.W.Frag} {σ : L2.St} {ρ : Lc} {mp : List Addr} {H : Hp} {S : Sto} {ds : List D} {vs : List V} {Q : VK} {p : Addr} (po : Post K XQ σ ρ mp H (.ok (.tup ds) S) Q) (r : RS K mp H S) (q : RepL K mp H ds vs) (h : H p = none) : Q (.ref p) (upd H p (.tup vs)) := by
  have af : Aft K mp H mp (upd H p (.tup vs)) := aft_new h
  exact po mp _ _ af (r.new h) ⟨p, vs, rfl, SqT.of upd_same, RepL.aft af _ _ q⟩
theorem post_lst {K : PySem.W.Frag} {σ : L2.St} {ρ : Lc} {mp : List Addr} {H : Hp} {S : Sto} {ds : List D} {vs : List V} {Q : VK} {p : Addr} (po : Post K XQ σ ρ mp H (.ok (.lst S.length) (S ++ [⟨false, ds⟩])) Q) (r : RS K mp H S) (q : RepL K mp H ds vs) (h : H p = none) : Q (.ref p) (upd H p (.lst vs)) := by
  obtain ⟨af, rs, e⟩ := r.newL h q
  exact po _ _ _ af rs ⟨p, rfl, e⟩
theorem je_tup {es : List Expr} {f : Ev (List D)} {x1} {pos : Pos} (h : JA X XQ es f) : JE X XQ (.Tuple es x1 pos) (tp f) := by
  refine PE.mono (pe_tup h) fun σ H Q ⟨mp, ρ, S, G, p⟩ => ?_
  refine bindP G p fun mp1 H1 xs S1 vs a1 G1 r1 p1 => ?_
  by_cases hl : xs.length ≤ 1000000
  · rw [if_pos hl] at p1
    exact ⟨by rw [r1.len]; exact line_le hl, fun q hq => post_tup p1 G1.rs r1 hq⟩
  · rw [if_neg hl] at p1; exact p1.elim
theorem je_lst {es : List Expr} {f : Ev (List D)} {pos : Pos} (h : JA X XQ es f) : JE X XQ (.List es pos) (ls f) := by
  refine PE.mono (pe_lst h) fun σ H Q ⟨mp, ρ, S, G, p⟩ => ?_
  refine bindP G p fun mp1 H1 xs S1 vs a1 G1 r1 p1 => ?_
  by_cases hl : xs.length ≤ 1000000
  · rw [if_pos hl] at p1
    exact ⟨by rw [r1.len]; exact line_le hl, fun q hq => post_lst p1 G1.rs r1 hq⟩
  · rw [if_neg hl] at p1; exact p1.elim
def truD : D → Sto → Option Bool
  | .non, _ => some false
  | .bl b, _ => some b
  | .int i, _ => some (i != 0)
  | .str y, _ => if y.length ≤ 1000000 then some ((y.length : Int) != 0) else none
  | .tup l, _ => some (!l.isEmpty)
  | .lst i, S => match S[i]? with
    | some c => some (!c.xs.isEmpty)
    | none => none
def tt (f : Ev D) : Ev Bool := fun ρ S => (f ρ S).bind fun x S1 => match truD x S1 with
  | some b => .ok b S1
  | none => .bad
theorem RepL.empty {K : PySem.W.Frag} {mp : List Addr} {H : Hp} {l : List D} {vs : List V} (h : RepL K mp H l vs) : (!l.isEmpty) = !vs.isEmpty := by
  have e := h.len
  cases l <;> cases vs <;> simp_all
theorem truV_of {K : PySem.W.Frag} {mp : List Addr} {H : Hp} {S : Sto} {x : D} {v : V} {b : Bool} (r : RS K mp H S) (h : Rep K mp H x v) (e : truD x S = some b) : TruV K v H b := by
  cases x with
  | non => cases (show v = .non from h); exact (Option.some.inj e).symm
  | bl c => cases (show v = .bl c from h); exact (Option.some.inj e).symm
  | int i => cases (show v = .int i from h); exact (Option.some.inj e).symm
  | str y =>
    cases (show v = .str y from h)
    have e : (if y.length ≤ 1000000 then some ((y.length : Int) != 0) else none) = some b := e
    by_cases hl : y.length ≤ 1000000
    · rw [if_pos hl] at e; exact ⟨line_le hl, (Option.some.inj e).symm⟩
    · rw [if_neg hl] at e; cases e
  | tup l =>
    obtain ⟨a, xs, rfl, s, q⟩ := Rep.tup h
    exact .inr (.inl ⟨xs, s, by rw [← q.empty]; exact (Option.some.inj e).symm⟩)
  | lst i =>
    have e : (match S[i]? with | some c => some (!c.xs.isEmpty) | none => none) = some b := e
    cases z : S[i]? with
    | none => rw [z] at e; cases e
    | some c =>
      rw [z] at e
      obtain ⟨a, xs, rfl, _, s, q, _⟩ := r.items h z
      exact .inl ⟨xs, s, by rw [← q.empty]; exact (Option.some.inj e).symm⟩
theorem jt_val {e : Expr} {f : Ev D} (h : JE X XQ e f) (he : ∀ whole, isTrue e X.env whole = (do let v ← whole; standAt e.pos; holding [v] (truthy v)) := by intro _; rfl) : JT X XQ e (tt f) := by
  refine PT.mono (pt_truth h he) fun σ H Q ⟨mp, ρ, S, G, p⟩ => ?_
  refine bindP G p fun mp1 H1 x S1 v a1 G1 r1 p1 => ?_
  cases z : truD x S1 with
  | none => rw [z] at p1; exact p1.elim
  | some b =>
    rw [z] at p1
    exact ⟨b, truV_of G1.rs r1 z, PostG.ok p1 G1.rs rfl⟩
def tb (f : Ev D) : Ev Bool := fun ρ S => (f ρ S).bind fun x S1 => match x with
  | .bl b => .ok b S1
  | _ => .bad
theorem tb_of {K : PySem.W.Frag} {f : Ev D} {σ : L2.St} {H : Hp} {Q : Bool → Hp → Prop} (h : rdT K XQ (tb f) σ H Q) : rdE K XQ f σ H fun x H1 => ∃ k, x = .bl k ∧ Q k H1 := by
  obtain ⟨mp, ρ, S, G, p⟩ := h
  refine bindP G p fun mp1 H1 x S1 v a1 G1 r1 p1 => ?_
  cases x with
  | bl b => exact ⟨b, r1, PostG.ok p1 G1.rs rfl⟩
  | _ => exact p1.elim
theorem jt_cmp {a b : Expr} {fa fb : Ev D} {op : CmpOp} {r : R2} {o : D → D → Sto → Out D} {pos : Pos} (ho : OpR X (compareOp op) r) (hd : OpD X.K r o) (ha : JE X XQ a fa) (hb : JE X XQ b fb) (hm : behindInMarks op b = false) : JT X XQ (.Compare a [op] [b] pos) (tb (o2 o fa fb)) :=
  PT.mono (pt_cmpR ho ha hb hm) fun σ H Q h => opR2 hd σ H _ (tb_of h)
def tn (f : Ev Bool) : Ev Bool := fun ρ S => (f ρ S).bind fun b S1 => .ok (!b) S1
def ta (f g : Ev Bool) : Ev Bool := fun ρ S => (f ρ S).bind fun b S1 => if b = true then g ρ S1 else .ok false S1
def to (f g : Ev Bool) : Ev Bool := fun ρ S => (f ρ S).bind fun b S1 => if b = true then .ok true S1 else g ρ S1
theorem jt_not {a : Expr} {f : Ev Bool} {pos : Pos} (h : JT X XQ a f) : JT X XQ (.UnaryOp .Not a pos) (tn f) :=
  PT.mono (pt_not h) fun σ H Q ⟨mp, ρ, S, G, p⟩ => bindP G p fun mp1 H1 b S1 c a1 G1 r1 p1 => by
    cases (show c = b from r1)
    exact PostG.ok p1 G1.rs rfl
theorem jw_and1 {a : Expr} {f : Ev Bool} {pos : Pos} (h : JT X XQ a f) : JW X XQ (.BoolOp .And [a] pos) f := pw_and1 h
theorem jw_or1 {a : Expr} {f : Ev Bool} {pos : Pos} (h : JT X XQ a f) : JW X XQ (.BoolOp .Or [a] pos) f := pw_or1 h
theorem jw_and {a b : Expr} {rest : List Expr} {f g : Ev Bool} {pos : Pos} (h : JT X XQ a f) (hb : JW X XQ (.BoolOp .And (b :: rest) pos) g) : JW X XQ (.BoolOp .And (a :: b :: rest) pos) (ta f g) :=
  PW.mono (pw_and h hb) fun σ H Q ⟨mp, ρ, S, G, p⟩ => bindP G p fun mp1 H1 b S1 c a1 G1 r1 p1 => by
    cases (show c = b from r1)
    cases b with
    | true => exact (if_pos rfl).mpr ⟨mp1, ρ, S1, G1, by simpa using p1⟩
    | false => exact (if_neg Bool.false_ne_true).mpr (PostG.ok (R := kB) (d := false) (S := S1) (by simpa using p1) G1.rs rfl)
theorem jw_or {a b : Expr} {rest : List Expr} {f g : Ev Bool} {pos : Pos} (h : JT X XQ a f) (hb : JW X XQ (.BoolOp .Or (b :: rest) pos) g) : JW X XQ (.BoolOp .Or (a :: b :: rest) pos) (to f g) :=
  PW.mono (pw_or h hb) fun σ H Q ⟨mp, ρ, S, G, p⟩ => bindP G p fun mp1 H1 b S1 c a1 G1 r1 p1 => by
    cases (show c = b from r1)
    cases b with
    | false => exact (if_neg Bool.false_ne_true).mpr ⟨mp1, ρ, S1, G1, by simpa using p1⟩
    | true => exact (if_pos rfl).mpr (PostG.ok (R := kB) (d := true) (S := S1) (by simpa using p1) G1.rs rfl)
theorem JW.jt {e : Expr} {f : Ev Bool} (h : JW X XQ e f) : JT X XQ e f := PW.pt h
def va (f g : Ev D) : Ev D := fun ρ S => (f ρ S).bind fun x S1 => match x with
  | .bl b => if b = true then g ρ S1 else .ok (.bl false) S1
  | _ => .bad
def vo (f g : Ev D) : Ev D := fun ρ S => (f ρ S).bind fun x S1 => match x with
  | .bl b => if b = true then .ok (.bl true) S1 else g ρ S1
  | _ => .bad
def vn (f : Ev D) : Ev D := fun ρ S => (f ρ S).bind fun x S1 => match x with
  | .bl b => .ok (.bl (!b)) S1
  | _ => .bad
theorem je_one {a : Expr} {op} {f : Ev D} {pos : Pos} (h : JE X XQ a f) : JE X XQ (.BoolOp op [a] pos) f := pe_one h
theorem je_and {a b : Expr} {rest : List Expr} {f g : Ev D} {pos : Pos} (ha : JE X XQ a f) (hb : JE X XQ (.BoolOp .And (b :: rest) pos) g) : JE X XQ (.BoolOp .And (a :: b :: rest) pos) (va f g) :=
  PE.mono (pe_and ha hb) fun σ H Q ⟨mp, ρ, S, G, p⟩ => bindP G p fun mp1 H1 x S1 v a1 G1 r1 p1 => by
    cases x with
    | bl b =>
      refine ⟨b, r1, ?_⟩
      cases b with
      | true => exact (if_pos rfl).mpr ⟨mp1, ρ, S1, G1, by simpa using p1⟩
      | false => exact (if_neg Bool.false_ne_true).mpr (PostG.ok (R := Rep X.K) (d := .bl false) (S := S1) (by simpa using p1) G1.rs rfl)
    | _ => exact p1.elim
theorem je_or {a b : Expr} {rest : List Expr} {f g : Ev D} {pos : Pos} (ha : JE X XQ a f) (hb : JE X XQ (.BoolOp .Or (b :: rest) pos) g) : JE X XQ (.BoolOp .Or (a :: b :: rest) pos) (vo f g) :=
  PE.mono (pe_or ha hb) fun σ H Q ⟨mp, ρ, S, G, p⟩ => bindP G p fun mp1 H1 x S1 v a1 G1 r1 p1 => by
    cases x with
    | bl b =>
      refine ⟨b, r1, ?_⟩
      cases b with
      | false => exact (if_neg Bool.false_ne_true).mpr ⟨mp1, ρ, S1, G1, by simpa using p1⟩
      | true => exact (if_pos rfl).mpr (PostG.ok (R := Rep X.K) (d := .bl true) (S := S1) (by simpa using p1) G1.rs rfl)
    | _ => exact p1.elim
def ie (c : Ev Bool) (f g : Ev D) : Ev D := fun ρ S => (c ρ S).bind fun b S1 => if b = true then f ρ S1 else g ρ S1
end
end DL
set_option Elab.async false
set_option linter.all false
set_option maxRecDepth 100000
namespace DL
open PySem PySem.Spec PyProof.Rows L2
inductive OS where
  | nx (ρ : Lc) (S : Sto) | rt (d : D) (S : Sto) | bk (ρ : Lc) (S : Sto) | ct (ρ : Lc) (S : Sto) | exc (x : XD) (ρ : Lc) (S : Sto) | bad
abbrev Sv := Lc → Sto → OS
def PostS (K : PySem.W.Frag) (XQ : XW) (mp : List Addr) (H : Hp) (o : OS) (E : Ends) : Prop :=
  match o with
  | .nx ρ S => ∀ mp' H' σ', Aft K mp H mp' H' → Gd K mp' H' σ' ρ S → E.nx σ' H'
  | .rt d S => ∀ mp' H' v, Aft K mp H mp' H' → RS K mp' H' S → Rep K mp' H' d v → E.rt v H'
  | .bk ρ S => ∀ mp' H' σ', Aft K mp H mp' H' → Gd K mp' H' σ' ρ S → E.bk σ' H'
  | .ct ρ S => ∀ mp' H' σ', Aft K mp H mp' H' → Gd K mp' H' σ' ρ S → E.ct σ' H'
  | .exc x ρ S => ∀ mp' H' σ', Aft K mp H mp' H' → Gd K mp' H' σ' ρ S → XQ x mp' H' σ' ρ S
  | .bad => False
theorem PostS.aft {K : PySem.W.Frag} {XQ : XW} {mp mp' : List Addr} {H H' : Hp} {o : OS} {E : Ends} (p : PostS K XQ mp H o E) (a : Aft K mp H mp' H') : PostS K XQ mp' H' o E := by
  cases o with
  | nx ρ S => exact fun m h v b => p m h v (a.trans b)
  | rt d S => exact fun m h v b => p m h v (a.trans b)
  | bk ρ S => exact fun m h v b => p m h v (a.trans b)
  | ct ρ S => exact fun m h v b => p m h v (a.trans b)
  | exc x ρ S => exact fun m h v b => p m h v (a.trans b)
  | bad => exact p
def rdS (K : PySem.W.Frag) (XQ : XW) (f : Sv) : TS := fun E σ H => ∃ mp ρ S, Gd K mp H σ ρ S ∧ PostS K XQ mp H (f ρ S) E
def JS (X : Cx) (XQ : XW) (st : Stmt) (f : Sv) : Prop := PS X st (rdS X.K XQ f)
def JSs (X : Cx) (XQ : XW) (st : List Stmt) (f : Sv) : Prop := PSs X st (rdS X.K XQ f)
def bindS {α : Type} (o : Out α) (ρ : Lc) (k : α → Sto → OS) : OS :=
  match o with
  | .ok a S => k a S
  | .exc x S => .exc x ρ S
  | .bad => .bad
theorem bindSP {α β : Type} {K : PySem.W.Frag} {R : RL α β} {XQ : XW} {mp : List Addr} {H : Hp} {σ : L2.St} {ρ : Lc} {S : Sto} {f : Ev α} {g : α → Sto → OS} {E : Ends} {Q1 : β → Hp → Prop} (G : Gd K mp H σ ρ S) (p : PostS K XQ mp H (bindS (f ρ S) ρ g) E)
    (k : ∀ mp1 H1 d S1 v, Aft K mp H mp1 H1 → Gd K mp1 H1 σ ρ S1 → R mp1 H1 d v → PostS K XQ mp1 H1 (g d S1) E → Q1 v H1) : rdG K R XQ f σ H Q1 := by
  refine ⟨mp, ρ, S, G, ?_⟩
  cases e : f ρ S with
  | ok d S1 =>
    rw [e] at p
    exact fun mp1 H1 v a rs r => k mp1 H1 d S1 v a (G.aft a rs) r (PostS.aft p a)
  | exc x S1 => rw [e] at p; exact fun m h b c => p m h σ b c
  | bad => rw [e] at p; exact p
def skip : Sv := fun ρ S => .nx ρ S
def sq (f g : Sv) : Sv := fun ρ S => match f ρ S with
  | .nx ρ' S' => g ρ' S'
  | .rt d S' => .rt d S'
  | .bk ρ' S' => .bk ρ' S'
  | .ct ρ' S' => .ct ρ' S'
  | .exc x ρ' S' => .exc x ρ' S'
  | .bad => .bad
section
variable {X : Cx} {XQ : XW}
theorem PostS.nx {K : PySem.W.Frag} {mp : List Addr} {H : Hp} {σ : L2.St} {ρ : Lc} {S : Sto} {E : Ends} (p : PostS K XQ mp H (.nx ρ S) E) (G : Gd K mp H σ ρ S) : E.nx σ H := p mp H σ .refl G
theorem PostS.rt {K : PySem.W.Frag} {mp : List Addr} {H : Hp} {d : D} {v : V} {S : Sto} {E : Ends} (p : PostS K XQ mp H (.rt d S) E) (r : RS K mp H S) (h : Rep K mp H d v) : E.rt v H := p mp H v .refl r h
theorem jss_nil : JSs X XQ [] skip := PSs.mono pss_nil fun E σ H ⟨mp, ρ, S, G, p⟩ => PostS.nx p G
theorem jss_cons {st : Stmt} {rest : List Stmt} {f g : Sv} (h1 : JS X XQ st f) (h2 : JSs X XQ rest g) : JSs X XQ (st :: rest) (sq f g) := by
  refine PSs.mono (pss_cons h1 h2) fun E σ H ⟨mp, ρ, S, G, p⟩ => ⟨mp, ρ, S, G, ?_⟩
  unfold sq at p
  cases e : f ρ S with
  | nx ρ' S' => rw [e] at p; exact fun m h v a G' => ⟨m, ρ', S', G', PostS.aft p a⟩
  | rt d S' => rw [e] at p; exact p
  | bk ρ' S' => rw [e] at p; exact p
  | ct ρ' S' => rw [e] at p; exact p
  | exc x ρ' S' => rw [e] at p; exact p
  | bad => rw [e] at p; exact p
theorem jss_one {st : Stmt} {f : Sv} (h1 : JS X XQ st f) : JSs X XQ [st] f := pss_one h1
def sx (f : Ev D) : Sv := fun ρ S => bindS (f ρ S) ρ fun _ S1 => .nx ρ S1
theorem js_expr {e : Expr} {f : Ev D} {pos : Pos} (he : JE X XQ e f) (hs : swapsWith e none pos.line X.env = pure false := by rfl) : JS X XQ (.Expr e pos) (sx f) :=
  PS.mono (ps_expr he hs) fun E σ H ⟨mp, ρ, S, G, p⟩ => bindSP G p fun mp1 H1 d S1 v a1 G1 r1 p1 => PostS.nx p1 G1
def sret (f : Ev D) : Sv := fun ρ S => bindS (f ρ S) ρ fun d S1 => .rt d S1
theorem js_ret {e : Expr} {f : Ev D} {pos : Pos} (he : JE X XQ e f) : JS X XQ (.Return (some e) pos) (sret f) :=
  PS.mono (ps_ret he) fun E σ H ⟨mp, ρ, S, G, p⟩ => bindSP G p fun mp1 H1 d S1 v a1 G1 r1 p1 => PostS.rt p1 G1.rs r1
def sif (c : Ev Bool) (f g : Sv) : Sv := fun ρ S => bindS (c ρ S) ρ fun b S1 => if b = true then f ρ S1 else g ρ S1
theorem js_if {c : Expr} {a b : List Stmt} {fc : Ev Bool} {f g : Sv} {pos : Pos} (hc : JT X XQ c fc) (ha : JSs X XQ a f) (hb : JSs X XQ b g) : JS X XQ (.If c a b pos) (sif fc f g) :=
  PS.mono (ps_if hc ha hb) fun E σ H ⟨mp, ρ, S, G, p⟩ => bindSP G p fun mp1 H1 b S1 c a1 G1 r1 p1 => by
    cases (show c = b from r1)
    cases b with
    | true => exact (if_pos rfl).mpr ⟨mp1, ρ, S1, G1, by simpa using p1⟩
    | false => exact (if_neg Bool.false_ne_true).mpr ⟨mp1, ρ, S1, G1, by simpa using p1⟩
theorem Gd.set {K : PySem.W.Frag} {mp : List Addr} {H : Hp} {σ : L2.St} {ρ : Lc} {S : Sto} {d : D} {v : V} (G : Gd K mp H σ ρ S) (i : Nat) (r : Rep K mp H d v) : Gd K mp H (σ.set i (some v)) (ρ.set i (some d)) S := by
  refine ⟨G.rs, by simp [G.len], fun j e h => ?_⟩
  by_cases hj : j = i
  · subst hj
    have hl : j < ρ.length := by
      have := (List.getElem?_eq_some_iff.mp h).1
      simpa using this
    rw [List.getElem?_set_self hl] at h
    cases h
    exact ⟨v, by rw [List.getElem?_set_self (by rw [G.len]; exact hl)], r⟩
  · rw [List.getElem?_set_ne (Ne.symm hj)] at h ⊢
    exact G.loc j e h
abbrev Tg := D → Lc → Option Lc
def rdG1 (K : PySem.W.Frag) (g : Tg) : TG := fun v σ H Q => ∃ mp ρ S d ρ', Gd K mp H σ ρ S ∧ Rep K mp H d v ∧ g d ρ = some ρ' ∧ ∀ σ', Gd K mp H σ' ρ' S → Q σ' H
def JG (X : Cx) (tg : Expr) (g : Tg) : Prop := PG X tg (rdG1 X.K g)
theorem PG.mono {X : Cx} {e : Expr} {t t' : TG} (h : PG X e t) (m : ∀ v σ H Q, t' v σ H Q → t v σ H Q) : PG X e t' := fun pins s σ H v u Q I r q => h pins s σ H v u Q I r (m v σ H Q q)
def gn (i : Nat) : Tg := fun d ρ => some (ρ.set i (some d))
theorem jg_name (i : Nat) {x : Str} {pos : Pos} (hN : X.N.Nodup) (hi : X.N[i]? = some x := by rfl) (hx : Loc X.env.scope x := by first | exact Or.inl rfl | exact Or.inr rfl) (hf : X.fn x = true ∨ X.env.scope.names.lookup x = some .local := by first | exact .inl rfl | exact .inr rfl | assumption) : JG X (.Name x pos) (gn i) :=
  PG.mono (pg_name hN hi hx hf) fun v σ H Q ⟨mp, ρ, S, d, ρ', G, r, e, k⟩ => by
    cases (Option.some.inj e)
    exact k _ (G.set i r)
abbrev Tgs := List D → Lc → Option Lc
def rdGs (K : PySem.W.Frag) (g : Tgs) : TGs := fun vs σ H Q => ∃ mp ρ S ds ρ', Gd K mp H σ ρ S ∧ RepL K mp H ds vs ∧ g ds ρ = some ρ' ∧ ∀ σ', Gd K mp H σ' ρ' S → Q σ' H
def JGs (X : Cx) (ts : List Expr) (g : Tgs) : Prop := PGs X ts (rdGs X.K g)
theorem PGs.mono {X : Cx} {e : List Expr} {t t' : TGs} (h : PGs X e t) (m : ∀ v σ H Q, t' v σ H Q → t v σ H Q) : PGs X e t' := fun pins s σ H v u Q I r q => h pins s σ H v u Q I r (m v σ H Q q)
def gnil : Tgs := fun ds ρ => match ds with
  | [] => some ρ
  | _ :: _ => none
def gcons (g : Tg) (k : Tgs) : Tgs := fun ds ρ => match ds with
  | [] => none
  | d :: r => (g d ρ).bind fun ρ' => k r ρ'
theorem jgs_nil : JGs X [] gnil := PGs.mono pgs_nil fun vs σ H Q ⟨mp, ρ, S, ds, ρ', G, r, e, k⟩ => by
  cases ds with
  | nil =>
    cases (show some ρ = some ρ' from e)
    exact ⟨r, k _ G⟩
  | cons _ _ => cases (show (none : Option Lc) = some ρ' from e)
theorem jgs_cons {e : Expr} {es : List Expr} {g : Tg} {k : Tgs} (h1 : JG X e g) (h2 : JGs X es k)
    (hs : (assignEach (e :: es) X.env).map (·.2) = assign e X.env :: (assignEach es X.env).map (·.2) := by rfl) : JGs X (e :: es) (gcons g k) :=
  PGs.mono (pgs_cons h1 h2 hs) fun vs σ H Q ⟨mp, ρ, S, ds, ρ', G, r, e, q⟩ => by
    cases ds with
    | nil => cases (show (none : Option Lc) = some ρ' from e)
    | cons d ds =>
      have e : (g d ρ).bind (fun ρ' => k ds ρ') = some ρ' := e
      obtain ⟨v, vr, ev, h3, h4⟩ := (show ∃ v r, vs = v :: r ∧ Rep X.K mp H d v ∧ RepL X.K mp H ds r from r)
      cases z : g d ρ with
      | none => rw [z] at e; cases e
      | some ρ1 =>
        rw [z] at e
        exact ⟨v, vr, ev, mp, ρ, S, d, ρ1, G, h3, z, fun σ1 G1 => ⟨mp, ρ1, S, ds, ρ', G1, h4, e, q⟩⟩
def gt (k : Tgs) (n : Nat) : Tg := fun d ρ => match d with
  | .tup ds => if ds.length = n then k ds ρ else none
  | _ => none
theorem jg_tup {es : List Expr} {m : Nat} {k : Tgs} {n : Nat} {pos : Pos} (hc : X.calm = true) (h : JGs X es k)
    (hn : (assignEach es X.env).length = n := by rfl) (hst : (assignEach es X.env).findIdx? (·.1) = none := by rfl) : JG X (.Tuple es m pos) (gt k n) :=
  PG.mono (pg_tup hc h hn hst) fun v σ H Q ⟨mp, ρ, S, d, ρ', G, r, e, q⟩ => by
    cases d with
    | tup ds =>
      have e : (if ds.length = n then k ds ρ else none) = some ρ' := e
      obtain ⟨a, xs, ev, sq, rl⟩ := Rep.tup r
      by_cases hl : ds.length = n
      · rw [if_pos hl] at e
        exact ⟨a, xs, ev, sq, by rw [rl.len]; exact hl, mp, ρ, S, ds, ρ', G, rl, e, q⟩
      · rw [if_neg hl] at e; cases e
    | _ => cases (show (none : Option Lc) = some ρ' from e)
def sa (f : Ev D) (g : Tg) : Sv := fun ρ S => bindS (f ρ S) ρ fun d S1 => match g d ρ with
  | some ρ' => .nx ρ' S1
  | none => .bad
theorem asgP {K : PySem.W.Frag} {f : Ev D} {g : Tg} (E : Ends) (σ : L2.St) (H : Hp) (h : rdS K XQ (sa f g) E σ H) : tAsg (rdE K XQ f) (rdG1 K g) E σ H := by
  obtain ⟨mp, ρ, S, G, p⟩ := h
  refine bindSP G p fun mp1 H1 d S1 v a1 G1 r1 p1 => ?_
  cases z : g d ρ with
  | none => rw [z] at p1; exact p1.elim
  | some ρ' =>
    rw [z] at p1
    exact ⟨mp1, ρ, S1, d, ρ', G1, r1, z, fun σ' G' => PostS.nx p1 G'⟩
theorem js_asg {tg e : Expr} {f : Ev D} {g : Tg} {pos : Pos} (he : JE X XQ e f) (hg : JG X tg g) (hs : swapsWithSole [tg] e pos.line X.env = pure false := by rfl) (hw : swappedStores [tg] e X.env = pure none := by rfl)
    (h1 : (assignEach [tg] X.env).map (·.2) = [assign tg X.env] := by rfl) : JS X XQ (.Assign [tg] e pos) (sa f g) :=
  PS.mono (ps_asg he hg hs hw h1) asgP
theorem js_set (i : Nat) {x : Str} {e : Expr} {f : Ev D} {pos pos' : Pos} (hN : X.N.Nodup) (he : JE X XQ e f) (hi : X.N[i]? = some x := by rfl) (hx : Loc X.env.scope x := by first | exact Or.inl rfl | exact Or.inr rfl) (hs : swapsWith e (some (.Name x pos')) pos.line X.env = pure false := by rfl)
    (hf : X.fn x = true ∨ X.env.scope.names.lookup x = some .local := by first | exact .inl rfl | exact .inr rfl | assumption) : JS X XQ (.Assign [.Name x pos'] e pos) (sa f (gn i)) :=
  PS.mono (ps_set hN hi hx he hs hf) fun E σ H ⟨mp, ρ, S, G, p⟩ => bindSP G p fun mp1 H1 d S1 v a1 G1 r1 p1 => PostS.nx p1 (G1.set i r1)
def SetD (t : TSet) (K : PySem.W.Frag) (o : D → D → D → Sto → Option Sto) : Prop :=
  ∀ (mp : List Addr) (H : Hp) (S S' : Sto) (x y z : D) (v u w : V) (Q : Hp → Prop), RS K mp H S → Rep K mp H x v → Rep K mp H y u → Rep K mp H z w → o x y z S = some S' → (∀ H', Aft K mp H mp H' → RS K mp H' S' → Q H') → t v u w H Q
def ss (f fo fi : Ev D) (o : D → D → D → Sto → Option Sto) : Sv := fun ρ S => bindS (f ρ S) ρ fun d S1 => bindS (fo ρ S1) ρ fun x S2 => bindS (fi ρ S2) ρ fun y S3 => match o x y d S3 with
  | some S4 => .nx ρ S4
  | none => .bad
theorem js_sub {ob ix e : Expr} {f fo fi : Ev D} {t : TSet} {o : D → D → D → Sto → Option Sto} {pos p2 : Pos} (hset : PSet X t) (ho : SetD t X.K o) (he : JE X XQ e f) (hob : JE X XQ ob fo) (hix : JE X XQ ix fi)
    (hs : swapsWithSole [.Subscript ob ix p2] e pos.line X.env = pure false := by rfl) (hw : swappedStores [.Subscript ob ix p2] e X.env = pure none := by rfl)
    (h1 : (assignEach [.Subscript ob ix p2] X.env).map (·.2) = [assign (.Subscript ob ix p2) X.env] := by rfl) (ha : ∀ v, assign (.Subscript ob ix p2) X.env v = (do
      let ov ← holding [v] (eval ob X.env)
      let iv ← holding [v, ov] (eval ix X.env)
      standAt p2
      holding [v, ov, iv] (setItem ov iv v)
      release [v, ov, iv] []) := by intro _; rfl) : JS X XQ (.Assign [.Subscript ob ix p2] e pos) (ss f fo fi o) := by
  refine PS.mono (ps_asg he (pg_sub hob hix hset ha) hs hw h1) fun E σ H ⟨mp, ρ, S, G, p⟩ => ?_
  refine bindSP G p fun mp1 H1 d S1 v a1 G1 r1 p1 => ?_
  refine bindSP G1 p1 fun mp2 H2 x S2 vx a2 G2 r2 p2 => ?_
  refine bindSP G2 p2 fun mp3 H3 y S3 vy a3 G3 r3 p3 => ?_
  cases z : o x y d S3 with
  | none => rw [z] at p3; exact p3.elim
  | some S4 =>
    rw [z] at p3
    exact ho mp3 H3 S3 S4 x y d vx vy v _ G3.rs (Rep.aft a3 _ _ r2) r3 (Rep.aft (a2.trans a3) _ _ r1) z fun H' af rs => p3 mp3 H' σ af (G3.aft af rs)
structure Src where
  nxt : Nat → Sto → Option D
  fuel : Nat
def ItOk (K : PySem.W.Frag) (mp0 : List Addr) (H0 : Hp) (J : It) (nxt : Nat → Sto → Option D) : Prop :=
  ∀ (mp : List Addr) (H : Hp) (S : Sto), Aft K mp0 H0 mp H → RS K mp H S → ∀ k, match nxt k S with
    | some d => J.go k H ∧ ∀ x H', J.yld k H x H' → Aft K mp H mp H' ∧ RS K mp H' S ∧ Rep K mp H' d x
    | none => J.stop k H
def kI (K : PySem.W.Frag) : RL Src It := fun mp H s J => ItOk K mp H J s.nxt
abbrev rdI (K : PySem.W.Frag) (XQ : XW) (f : Ev Src) : TI := rdG K (kI K) XQ f
def JI (X : Cx) (XQ : XW) (tg iter : Expr) (f : Ev Src) : Prop := PI X tg iter (rdI X.K XQ f)
theorem PI.mono {X : Cx} {tg e : Expr} {t t' : TI} (h : PI X tg e t) (m : ∀ σ H Q, t' σ H Q → t σ H Q) : PI X tg e t' := fun pins s σ H Q I q => h pins s σ H Q I (m σ H Q q)
def forN (nxt : Nat → Sto → Option D) (g : Tg) (b : Sv) : Nat → Nat → Sv
  | 0, _, _, _ => .bad
  | n + 1, k, ρ, S => match nxt k S with
    | none => .nx ρ S
    | some d => match g d ρ with
      | none => .bad
      | some ρ1 => match b ρ1 S with
        | .nx ρ2 S2 => forN nxt g b n (k + 1) ρ2 S2
        | .ct ρ2 S2 => forN nxt g b n (k + 1) ρ2 S2
        | .bk ρ2 S2 => .nx ρ2 S2
        | .rt d S2 => .rt d S2
        | .exc x ρ2 S2 => .exc x ρ2 S2
        | .bad => .bad
def sfor (f : Ev Src) (g : Tg) (b : Sv) : Sv := fun ρ S => bindS (f ρ S) ρ fun s S1 => forN s.nxt g b s.fuel 0 ρ S1
theorem js_for {tg iter : Expr} {body : List Stmt} {f : Ev Src} {g : Tg} {b : Sv} {pos : Pos} (hp : PassesOwn (model X.prog X.w) X.A X.env X.xe) (hc : X.calm = true) (hi : JI X XQ tg iter f) (hg : JG X tg g) (hb : JSs X XQ body b)
    (hs : ∀ x, foldedSetIterable iter X.env x = pure x := by intro _; rfl) : JS X XQ (.For tg iter body [] pos) (sfor f g b) := by
  refine PS.mono (ps_for hp hc hi hg hb hs) fun E σ H ⟨mp, ρ, S, G, p⟩ => ?_
  refine bindSP G p fun mp1 H1 s S1 J a1 G1 j1 p1 => ?_
  refine ⟨fun i m σ' H' => ∃ mp' ρ' S', Aft X.K mp1 H1 mp' H' ∧ Gd X.K mp' H' σ' ρ' S' ∧ PostS X.K XQ mp' H' (forN s.nxt g b m i ρ' S') E, ⟨s.fuel, mp1, ρ, S1, .refl, G1, p1⟩, ?_⟩
  rintro i m σ' H' ⟨mp', ρ', S', a', G', p'⟩
  cases m with
  | zero => exact (show False from p').elim
  | succ n =>
    have j := j1 mp' H' S' a' G'.rs i
    unfold forN at p'
    cases z : s.nxt i S' with
    | none =>
      rw [z] at j p'
      exact .inl ⟨j, PostS.nx p' G'⟩
    | some d =>
      rw [z] at j p'
      obtain ⟨j1, j2⟩ := j
      refine .inr ⟨j1, fun σ2 H2 => ∃ mp2 ρ2 S2, Aft X.K mp1 H1 mp2 H2 ∧ Gd X.K mp2 H2 σ2 ρ2 S2 ∧ PostS X.K XQ mp2 H2 (forN s.nxt g b n (i + 1) ρ2 S2) E, fun σ2 H2 q => ⟨n, Nat.lt_succ_self n, q⟩, fun x H2 y => ?_⟩
      obtain ⟨a2, r2, x2⟩ := j2 x H2 y
      have G2 := G'.aft a2 r2
      cases zg : g d ρ' with
      | none => simp only [zg] at p'; exact p'.elim
      | some ρ1 =>
        simp only [zg] at p'
        refine ⟨mp', ρ', S', d, ρ1, G2, x2, zg, fun σ3 G3 => ⟨mp', ρ1, S', G3, ?_⟩⟩
        have p2 := PostS.aft p' a2
        cases zb : b ρ1 S' with
        | nx ρ2 S2 => simp only [zb] at p2; exact fun m h v af G4 => ⟨m, ρ2, S2, (a'.trans a2).trans af, G4, PostS.aft p2 af⟩
        | ct ρ2 S2 => simp only [zb] at p2; exact fun m h v af G4 => ⟨m, ρ2, S2, (a'.trans a2).trans af, G4, PostS.aft p2 af⟩
        | bk ρ2 S2 => simp only [zb] at p2; exact p2
        | rt d S2 => simp only [zb] at p2; exact p2
        | exc x ρ2 S2 => simp only [zb] at p2; exact p2
        | bad => simp only [zb] at p2; exact p2
def srcOf : D → Sto → Out Src
  | .tup l, S => .ok ⟨fun k _ => l[k]?, l.length + 1⟩ S
  | .lst i, S => match S[i]? with
    | some c => .ok ⟨fun k S => (S[i]?).bind fun c => c.xs[k]?, c.xs.length + 1⟩ S
    | none => .bad
  | _, _ => .bad
end
end DL
set_option Elab.async false
set_option linter.all false
set_option maxRecDepth 100000
namespace DL
open PySem PySem.Spec PyProof.Rows L2
section
variable {X : Cx} {XQ : XW}
def iSeq (K : PySem.W.Frag) (tl : TE) : TI := fun σ H R => tl σ H fun x H1 => ∃ a, x = .ref a ∧ (((∃ xs, SqL K H1 a xs) ∧ R (Itl K a) H1) ∨ ((∃ xs, SqT K H1 a xs) ∧ R (Itt K a) H1))
theorem pi_seq {tg l : Expr} {tl : TE} (hl : PE X l tl) : PI X tg l (iSeq X.K tl) := by
  intro pins s σ H R I h
  refine thn (hl pins s σ H _ I h) fun v s1 ⟨x, H1, I1, r1, q1⟩ => ?_
  obtain ⟨a, e, q⟩ := q1
  subst e
  cases r1
  rcases q with ⟨⟨xs, hq⟩, q⟩ | ⟨⟨xs, hq⟩, q⟩
  · obtain ⟨its, rv, p, hz⟩ := I1.list hq
    refine wpAny_pyIter_list p.isList ?_
    refine ⟨s1.heap.objs.size, [s1.heap.objs.size], _, _, H1, rfl, I1.kept (t' := s1.toks) fun b o e => Heap.get?_push_of_some _ e, turn_list a _, ⟨_, Heap.get?_push_size _ rfl, rfl, rfl⟩, fun b hb => ?_, q⟩
    have e : b = s1.heap.objs.size := by simpa using hb
    subst e
    exact I1.fpOk (Nat.le_refl _) (I1.hok.fresh (Nat.le_refl _))
  · obtain ⟨its, rv, p, hz⟩ := I1.tuple hq
    refine wpAny_pyIter_tuple (show s1.heap.IsTuple a its.toArray from p) ?_
    refine ⟨s1.heap.objs.size, [s1.heap.objs.size], _, _, H1, rfl, I1.kept (t' := s1.toks) fun b o e => Heap.get?_push_of_some _ e, turn_tuple a _, ⟨_, Heap.get?_push_size _ rfl, rfl, rfl⟩, fun b hb => ?_, q⟩
    have e : b = s1.heap.objs.size := by simpa using hb
    subst e
    exact I1.fpOk (Nat.le_refl _) (I1.hok.fresh (Nat.le_refl _))
def isrc (f : Ev D) : Ev Src := fun ρ S => (f ρ S).bind srcOf
theorem itt_ok {K : PySem.W.Frag} {mp : List Addr} {H : Hp} {a : Addr} {xs : List V} {l : List D} (s : SqT K H a xs) (r : RepL K mp H l xs) : ItOk K mp H (Itt K a) (fun k _ => l[k]?) := by
  intro mp' H' S' af rs k
  show match l[k]? with
    | some d => (Itt K a).go k H' ∧ ∀ x H2, (Itt K a).yld k H' x H2 → Aft K mp' H' mp' H2 ∧ RS K mp' H2 S' ∧ Rep K mp' H2 d x
    | none => (Itt K a).stop k H'
  cases z : l[k]? with
  | none =>
    refine ⟨xs, af.tup _ _ s, ?_⟩
    rw [r.len]
    exact List.getElem?_eq_none_iff.mp z
  | some d =>
    have r' := RepL.aft af _ _ r
    obtain ⟨v, e, q⟩ := r'.get z
    refine ⟨⟨xs, v, af.tup _ _ s, e⟩, fun x H2 ⟨h1, h2⟩ => ?_⟩
    subst h1
    have e2 := h2 xs (af.tup _ _ s)
    rw [e] at e2
    cases e2
    exact ⟨.refl, rs, q⟩
theorem itl_ok {K : PySem.W.Frag} {mp : List Addr} {H : Hp} {a : Addr} {i : Nat} (hi : mp[i]? = some a) : ItOk K mp H (Itl K a) (fun k S => (S[i]?).bind fun c => c.xs[k]?) := by
  intro mp' H' S' af rs k
  have hi' := af.pre i a hi
  have hl : i < S'.length := by rw [← rs.len]; exact (List.getElem?_eq_some_iff.mp hi').1
  have hc : S'[i]? = some S'[i] := List.getElem?_eq_getElem hl
  obtain ⟨a2, xs, e1, e2, sq, r, _⟩ := rs.items (v := .ref a) ⟨a, rfl, hi'⟩ hc
  cases e1
  simp only [hc, Option.bind_some]
  cases z : (S'[i]).xs[k]? with
  | none =>
    refine ⟨xs, sq, ?_⟩
    rw [r.len]
    exact List.getElem?_eq_none_iff.mp z
  | some d =>
    obtain ⟨v, e, q⟩ := r.get z
    refine ⟨⟨xs, v, sq, e⟩, fun x H2 ⟨h1, h2⟩ => ?_⟩
    subst h1
    have e2 := h2 xs sq
    rw [e] at e2
    cases e2
    exact ⟨.refl, rs, q⟩
theorem ji_seq {tg l : Expr} {f : Ev D} (hl : JE X XQ l f) : JI X XQ tg l (isrc f) := by
  refine PI.mono (pi_seq hl) fun σ H R ⟨mp, ρ, S, G, p⟩ => ?_
  refine bindP G p fun mp1 H1 d S1 v a1 G1 r1 p1 => ?_
  cases d with
  | tup ds =>
    obtain ⟨a, xs, rfl, s, q⟩ := Rep.tup r1
    exact ⟨a, rfl, .inr ⟨⟨xs, s⟩, PostG.ok (R := kI X.K) (d := ⟨fun k _ => ds[k]?, ds.length + 1⟩) (S := S1) p1 G1.rs (itt_ok s q)⟩⟩
  | lst i =>
    have p1 : PostG X.K (kI X.K) XQ σ ρ mp1 H1 (match S1[i]? with | some c => .ok ⟨fun k S => (S[i]?).bind fun c => c.xs[k]?, c.xs.length + 1⟩ S1 | none => .bad) R := p1
    cases z : S1[i]? with
    | none => rw [z] at p1; exact p1.elim
    | some c =>
      rw [z] at p1
      obtain ⟨a, xs, rfl, ha, s, q, _⟩ := G1.rs.items r1 z
      exact ⟨a, rfl, .inl ⟨⟨xs, s⟩, PostG.ok (R := kI X.K) (d := ⟨fun k S => (S[i]?).bind fun c => c.xs[k]?, c.xs.length + 1⟩) (S := S1) p1 G1.rs (itl_ok ha)⟩⟩
  | _ => exact (show False from p1).elim
def rsrc (lo : Int) (n : Nat) : Src := ⟨fun k _ => if k < n then some (.int (lo + k)) else none, n + 1⟩
theorem itr_ok {K : PySem.W.Frag} {mp : List Addr} {H : Hp} {lo : Int} {n : Nat} : ItOk K mp H (Itr lo n) (rsrc lo n).nxt := by
  intro mp' H' S' af rs k
  show match (if k < n then some (D.int (lo + k)) else none) with
    | some d => (Itr lo n).go k H' ∧ ∀ x H2, (Itr lo n).yld k H' x H2 → Aft K mp' H' mp' H2 ∧ RS K mp' H2 S' ∧ Rep K mp' H2 d x
    | none => (Itr lo n).stop k H'
  by_cases h : k < n
  · rw [if_pos h]
    refine ⟨h, fun x H2 ⟨h1, h2⟩ => ?_⟩
    subst h1 h2
    exact ⟨.refl, rs, rfl⟩
  · rw [if_neg h]
    exact Nat.not_lt.mp h
def ir1 (f : Ev (List D)) : Ev Src := fun ρ S => (f ρ S).bind fun ds S1 => match ds with
  | [.int j] => if -1000000000000 ≤ j ∧ j ≤ 1000000000000 then .ok (rsrc 0 j.toNat) S1 else .bad
  | _ => .bad
theorem RepL.one {K : PySem.W.Frag} {mp : List Addr} {H : Hp} {d : D} {vs : List V} (h : RepL K mp H [d] vs) : ∃ v, vs = [v] ∧ Rep K mp H d v := by
  obtain ⟨v, r, rfl, h1, h2⟩ := h
  cases (show r = [] from h2)
  exact ⟨v, rfl, h1⟩
theorem RepL.two {K : PySem.W.Frag} {mp : List Addr} {H : Hp} {d e : D} {vs : List V} (h : RepL K mp H [d, e] vs) : ∃ v w, vs = [v, w] ∧ Rep K mp H d v ∧ Rep K mp H e w := by
  obtain ⟨v, r, rfl, h1, h2⟩ := h
  obtain ⟨w, rfl, h3⟩ := RepL.one h2
  exact ⟨v, w, rfl, h1, h3⟩
theorem ji_range1 {tg a : Expr} {f : Ev (List D)} {p pos : Pos} (hg : Gl X "range") (hm : X.mg "range" = none) (ha : JA X XQ [a] f) (hs : starEach [a] X.env = [(false, eval a X.env)] := by rfl) : JI X XQ tg (.Call (.Name "range" p) [a] [] pos) (ir1 f) := by
  refine PI.mono (pi_range1 hg hm ha hs) fun σ H R ⟨mp, ρ, S, G, p⟩ => ?_
  refine bindP G p fun mp1 H1 ds S1 vs a1 G1 r1 p1 => ?_
  split at p1
  · rename_i j
    by_cases hb : -1000000000000 ≤ j ∧ j ≤ 1000000000000
    · rw [if_pos hb] at p1
      obtain ⟨v, rfl, h1⟩ := RepL.one r1
      cases (show v = .int j from h1)
      refine ⟨j, rfl, by omega, by omega, PostG.ok (R := kI X.K) (d := rsrc 0 j.toNat) (S := S1) p1 G1.rs itr_ok⟩
    · rw [if_neg hb] at p1; exact p1.elim
  · exact p1.elim
def whN (c : Ev Bool) (b : Sv) : Nat → Sv
  | 0, _, _ => .bad
  | n + 1, ρ, S => bindS (c ρ S) ρ fun t S1 => if t = true then (match b ρ S1 with
        | .nx ρ2 S2 => whN c b n ρ2 S2
        | .ct ρ2 S2 => whN c b n ρ2 S2
        | .bk ρ2 S2 => .nx ρ2 S2
        | .rt d S2 => .rt d S2
        | .exc x ρ2 S2 => .exc x ρ2 S2
        | .bad => .bad) else .nx ρ S1
theorem js_while (fuel : Nat) {c : Expr} {body : List Stmt} {fc : Ev Bool} {b : Sv} {pos : Pos} (hp : PassesOwn (model X.prog X.w) X.A X.env X.xe) (hc : JT X XQ c fc) (hb : JSs X XQ body b) : JS X XQ (.While c body [] pos) (whN fc b fuel) := by
  refine PS.mono (ps_while hp hc hb) fun E σ H ⟨mp, ρ, S, G, p⟩ => ?_
  refine ⟨fun m σ' H' => ∃ mp' ρ' S', Gd X.K mp' H' σ' ρ' S' ∧ PostS X.K XQ mp' H' (whN fc b m ρ' S') E, ⟨fuel, mp, ρ, S, G, p⟩, ?_⟩
  rintro m σ' H' ⟨mp', ρ', S', G', p'⟩
  cases m with
  | zero => exact (show False from p').elim
  | succ n =>
    refine bindSP G' p' fun mp1 H1 t S1 t' a1 G1 r1 p1 => ?_
    cases (show t' = t from r1)
    cases t with
    | false => exact (if_neg Bool.false_ne_true).mpr (PostS.nx (by simpa using p1) G1)
    | true =>
      refine (if_pos rfl).mpr ⟨fun σ2 H2 => ∃ mp2 ρ2 S2, Gd X.K mp2 H2 σ2 ρ2 S2 ∧ PostS X.K XQ mp2 H2 (whN fc b n ρ2 S2) E, fun σ2 H2 q => ⟨n, Nat.lt_succ_self n, q⟩, ⟨mp1, ρ', S1, G1, ?_⟩⟩
      simp only [if_true] at p1
      cases zb : b ρ' S1 with
      | nx ρ2 S2 => simp only [zb] at p1; exact fun m h v af G4 => ⟨m, ρ2, S2, G4, PostS.aft p1 af⟩
      | ct ρ2 S2 => simp only [zb] at p1; exact fun m h v af G4 => ⟨m, ρ2, S2, G4, PostS.aft p1 af⟩
      | bk ρ2 S2 => simp only [zb] at p1; exact p1
      | rt d S2 => simp only [zb] at p1; exact p1
      | exc x ρ2 S2 => simp only [zb] at p1; exact p1
      | bad => simp only [zb] at p1; exact p1
end
abbrev Fn := List D → Sto → Out D
def PostF (K : PySem.W.Frag) (mp : List Addr) (H : Hp) (o : Out D) (Q : VK) : Prop :=
  match o with
  | .ok d S => ∀ mp' H' v, Aft K mp H mp' H' → RS K mp' H' S → Rep K mp' H' d v → Q v H'
  | _ => False
def spD (K : PySem.W.Frag) (n : Nat) (fn : Fn) : Sp := fun vs H Q _ => ∃ mp ds S, RS K mp H S ∧ RepL K mp H ds vs ∧ ds.length = n ∧ PostF K mp H (fn ds S) Q
def fnB (m : Nat) (b : Sv) : Fn := fun ds S => match b (ds.map some ++ List.replicate (m - ds.length) none) S with
  | .rt d S' => .ok d S'
  | .nx _ S' => .ok .non S'
  | .exc x _ S' => .exc x S'
  | _ => .bad
theorem start_ok {K : PySem.W.Frag} {mp : List Addr} {H : Hp} {S : Sto} {N : List Str} {ds : List D} {vs : List V} (r : RS K mp H S) (h : RepL K mp H ds vs) : Gd K mp H (start N vs) (ds.map some ++ List.replicate (N.length - ds.length) none) S := by
  have hl := h.len
  refine ⟨r, by simp [L2.start, hl], fun i d e => ?_⟩
  by_cases hi : i < ds.length
  · rw [List.getElem?_append_left (by simpa using hi), List.getElem?_map] at e
    cases z : ds[i]? with
    | none => rw [z] at e; cases e
    | some d' =>
      rw [z] at e
      cases e
      obtain ⟨v, e1, q⟩ := h.get z
      refine ⟨v, ?_, q⟩
      unfold L2.start
      rw [List.getElem?_append_left (by simp [hl]; exact hi), List.getElem?_map, e1]
      rfl
  · rw [List.getElem?_append_right (by simpa using hi), List.getElem?_replicate] at e
    split at e
    · cases e
    · cases e
section
variable {P : Program} {w : World} {K : PySem.W.Frag} {mg : Str → Option Value} {base : Heap}
theorem fn_ok {x qual : Str} {st : Stmt} {f : Addr} {fd : FuncData} {N ps : List Str} {k : Nat} {b : Sv} (F : Fun K x qual st f fd) (Sc : FnScope N ps (defScope st))
    (hb : ∀ (cdv : Value) (A : Around) (outer : List PySem.Env) (s : Shared) (H : Hp) (E : XK), Room k (A.deeper (envOfC qual (defScope st) s.heap.objs.size f cdv)) →
      JSs (cxOf CX0 P w K mg base N qual (defScope st) f cdv A outer s H E).nox (fun _ _ _ _ _ _ => False) (defBody st) b) : FnOk P w K mg base CX0 (k + 1) f fd ps (spD K ps.length (fnB N.length b)) := by
  refine F.ok Sc (fun vs H Q E ⟨mp, ds, S, rs, r, hl, _⟩ => by rw [r.len]; exact hl) fun cdv A outer s H vs Q E hr ⟨mp, ds, S, rs, r, hl, p⟩ => ?_
  refine ⟨_, hb cdv A outer s H E hr, mp, _, S, start_ok rs r, ?_⟩
  unfold fnB at p
  show PostS K _ mp H (b (ds.map some ++ List.replicate (N.length - ds.length) none) S) _
  cases z : b (ds.map some ++ List.replicate (N.length - ds.length) none) S with
  | rt d S' => rw [z] at p; exact p
  | nx ρ' S' => rw [z] at p; exact fun m h v af G => p m h .non af G.rs rfl
  | bk ρ' S' => rw [z] at p; exact p.elim
  | ct ρ' S' => rw [z] at p; exact p.elim
  | exc x ρ' S' => rw [z] at p; exact p.elim
  | bad => rw [z] at p; exact p.elim
end
section
variable {X : Cx} {XQ : XW} {k : Nat} {f : Addr} {fd : FuncData} {ps : List Str} {fn : Fn} {x : Str} {p pos : Pos} {e : Expr} {es : List Expr} {t : Ev (List D)}
def cl (n : Nat) (fn : Fn) (t : Ev (List D)) : Ev D := fun ρ S => (t ρ S).bind fun ds S1 => if ds.length = n then fn ds S1 else .bad
def noExc (fn : Fn) : Fn := fun ds S => match fn ds S with
  | .ok d S' => .ok d S'
  | _ => .bad
theorem je_call {j : Nat} (F : FnOk X.prog X.w X.K X.mg X.base CX0 j f fd ps (spD X.K ps.length fn)) (hr : Room k X.A) (hj : j ≤ k) (hg : Gl X x) (hm : X.mg x = some (.ref f)) (hk : PySem.W.keepIn X.K (.ref f) = true) (hb : Binds X.K fd ps [])
    (ha : JA X XQ (e :: es) t) (hdb : (x == ("__debug__" : Str)) = false := by decide) (he : starEach (e :: es) X.env = (false, eval e X.env) :: starEach es X.env := by rfl) (hpl : (backTo pos (starEach es X.env)).any (·.1) = false := by rfl) :
    JE X XQ (.Call (.Name x p) (e :: es) [] pos) (cl ps.length (noExc fn) t) := by
  refine PE.mono (pe_call (F.mono hj) hr hg hm hk hb .nil (pass0) ha hdb he hpl) fun σ H Q ⟨mp, ρ, S, G, p⟩ => ?_
  refine bindP G p fun mp1 H1 ds S1 vs a1 G1 r1 p1 => ?_
  by_cases hl : ds.length = ps.length
  · rw [if_pos hl] at p1
    refine ⟨mp1, ds, S1, G1.rs, by rw [List.append_nil]; exact r1, hl, ?_⟩
    unfold noExc at p1
    cases z : fn ds S1 with
    | ok d S' => rw [z] at p1; exact p1
    | exc x S' => rw [z] at p1; exact p1.elim
    | bad => rw [z] at p1; exact p1.elim
  · rw [if_neg hl] at p1; exact p1.elim
end
end DL
set_option Elab.async false
set_option linter.all false
set_option maxRecDepth 100000
namespace DL
open PySem PySem.Spec PyProof.Rows L2
section
variable {prog : Program} {w : World} {A : Around} {E : Value → Shared → Prop} {R : Result → Shared → Prop} {s : Shared}
theorem compLoop_any {elt target iter : Expr} {ifs : List Expr} {scope : Scope} {pos : Pos} {it acc : Value} {env : PySem.Env} (I : Nat → Shared → Prop)
    (turn : ∀ n s, I n s → wpAny (model prog w) A (pyNext it) (fun r s₁ => match r with
      | none => R (.ok .next) s₁
      | some v => wpAny (model prog w) A (letOwnedTupleGo target it v) (fun _ s₁ => wpAny (model prog w) A (assign target env v) (fun _ s₂ =>
          wpAny (model prog w) A (forIn ifs true fun c r => if r = true then do let ok ← isTrue c env (eval c env); pure (ForInStep.yield ok) else pure (ForInStep.yield r)) (fun ok s₃ =>
            if ok = true then wpAny (model prog w) A (eval elt env) (fun x s₄ =>
              wpAny (model prog w) A (call (.builtin "list.append") [acc, x]) (fun _ s₅ => ∃ m, m < n ∧ I m s₅) (fun _ _ => False) s₄) (fun _ _ => False) s₃
            else ∃ m, m < n ∧ I m s₃) (fun _ _ => False) s₂) (fun _ _ => False) s₁) (fun _ _ => False) s₁) (fun _ _ => False) s)
    (n : Nat) (h : I n s) :
    codeAny (model prog w) A (.compLoop (.ListComp elt [⟨target, iter, ifs, 0⟩] scope pos) 0 it acc env) R s := by
  have noE : ∀ {α : Type} {m : Sem α} {Q : α → Shared → Prop} {E' : Value → Shared → Prop} {s : Shared}, wpAny (model prog w) A m Q (fun _ _ => False) s → wpAny (model prog w) A m Q E' s := fun h => wpAny_mono h (fun _ _ q => q) fun _ _ z => z.elim
  refine codeAny_loop rfl I (fun n s hI => ?_) n h
  show wpAny _ A ((compTurn (.ListComp elt [⟨target, iter, ifs, 0⟩] scope pos) 0 it acc env).onRaise (fun x => do noteFrame x env; theTreesLotGoes x)) _ _ s
  refine wpAny_noted ?_
  rw [compTurn_list]
  refine wpAny_bind (wpAny_standAt (wpAny_bind (noE (wpAny_mono (turn n s hI) (fun r s₁ h₁ => ?_) fun _ _ z => z))))
  cases r with
  | none => exact wpAny_pure h₁
  | some v =>
    refine wpAny_bind (noE (wpAny_mono h₁ (fun _ s₁ h₁ => ?_) fun _ _ z => z))
    refine wpAny_bind (noE (wpAny_mono h₁ (fun _ s₂ h₂ => wpAny_bind (noE (wpAny_mono h₂ (fun ok s₃ h₃ => ?_) fun _ _ z => z))) fun _ _ z => z))
    cases ok with
    | false => exact wpAny_pure ⟨rfl, h₃⟩
    | true =>
      exact wpAny_bind (wpAny_bind (noE (wpAny_mono h₃ (fun x s₄ h₄ => wpAny_bind (noE (wpAny_mono h₄ (fun _ s₅ h₅ => wpAny_pure (wpAny_pure ⟨rfl, h₅⟩)) fun _ _ z => z))) fun _ _ z => z)))
end
def blk (X : Cx) (s2 : Shared) (H2 : Hp) (C : Addr) (scope : Scope) (cl : List (Str × Addr)) (N' : List Str) (fp : List Addr) : Cx :=
  { X with N := N', s₀ := s2, H₀ := H2, env := compEnvC scope cl C X.env, outer := X.stack, ex := fp, fn := fun x => scope.names.lookup x == some NameKind.cell, pn := [], xe := fun _ _ => False }
structure CompSc (X : Cx) (scope : Scope) (cl : List (Str × Addr)) (N' : List Str) (pk : List (Option Nat)) : Prop where
  kind : scope.kind = .function
  cell : ∀ y ∈ scope.names, y.2 = .cell → scope.names.lookup y.1 = some .cell
  names : ∀ y ∈ scope.names, y.2 = .local → scope.names.lookup y.1 = some .local
  clos : closureFor scope X.env = pure cl
  sub : ∀ x c, cl.lookup x = some c → X.env.cells.lookup x = some c
  has : ∀ x, ((relabel scope X.env).names.lookup x = some .cell ∨ (relabel scope X.env).names.lookup x = some .free) → (x, NameKind.cell) ∈ scope.names ∨ ∃ c, cl.lookup x = some c
  len : pk.length = N'.length
  take : ∀ (i j : Nat) (x : Str), pk[i]? = some (some j) → N'[i]? = some x → X.N[j]? = some x ∧ (X.env.kindOf x = some .cell ∨ X.env.kindOf x = some .free) ∧ ((relabel scope X.env).names.lookup x = some .cell ∨ (relabel scope X.env).names.lookup x = some .free) ∧ scope.names.lookup x = some .free
def pkS {α : Type} (pk : List (Option Nat)) (σ : List (Option α)) : List (Option α) := pk.map fun o => o.bind fun j => (σ[j]?).bind id
def PTs (Y : Cx) (ifs : List Expr) (t : TT) : Prop :=
  ∀ (pins : List (Addr × Obj)) (s : Shared) (σ : L2.St) (H : Hp) (Q : Bool → Hp → Prop), Inv Y pins σ H s → t σ H Q →
    wpAny (model Y.prog Y.w) Y.A (forIn ifs true fun c r => if r = true then do let ok ← isTrue c Y.env (eval c Y.env); pure (ForInStep.yield ok) else pure (ForInStep.yield r)) (TP Y pins σ Q) Y.xe s
theorem pts_nil {Y : Cx} : PTs Y [] (fun _ H Q => Q true H) := fun _ _ _ H _ I h => wpAny_tests_nil ⟨H, I, h⟩
theorem pts_one {Y : Cx} {c : Expr} {t : TT} (h : PT Y c t) : PTs Y [c] t := fun pins s σ H Q I q => wpAny_tests_one (h pins s σ H Q I q)
def tComp (wi : TI) (pk : List (Option Nat)) (g : TG) (tt : TT) (te : TE) : TE := fun σ H Q => wi σ H fun J H1 => ∀ a, H1 a = none → ∃ W : Nat → Nat → L2.St → Hp → Prop, (∃ m, W 0 m (pkS pk σ) (upd H1 a (.lst []))) ∧ ∀ i m σ' H', W i m σ' H' →
  (J.stop i H' ∧ Q (.ref a) H') ∨ (J.go i H' ∧ ∀ x H2, J.yld i H' x H2 → g x σ' H2 fun σ3 H3 => tt σ3 H3 fun b H4 => if b = true then te σ3 H4 fun v H5 => ∃ xs, H5 a = some (.lst xs) ∧ xs.length < sizeLine ∧ ∃ m', m' < m ∧ W (i + 1) m' σ3 (upd H5 a (.lst (xs ++ [v])))
    else ∃ m', m' < m ∧ W (i + 1) m' σ3 H4)
theorem hok_same {P : Program} {w : World} {H : Hp} {h h' : Heap} {C : Addr} (k : HOk P w H h) (hn : H C = none) (hs : Heap.SameBut C h h') : HOk P w H h' := fun b ob e => by
  refine (k b ob e).stay (fun c w' hc q => (hs.2 c ?_).trans q) (fun _ q => q) fun _ _ q => q
  rintro rfl
  rcases hc with rfl | hc
  · rw [hn] at e; cases e
  · rw [hn] at hc; cases hc
theorem cellsFrom_app : ∀ (names : List (Str × NameKind)) (n : Nat) (acc : List (Str × Addr)), cellsFrom n names acc = cellsFrom n names [] ++ acc
  | [], _, _ => rfl
  | (x, k) :: r, n, acc => by
    unfold cellsFrom
    by_cases hk : (k == NameKind.cell) = true
    · rw [if_pos hk, if_pos hk, cellsFrom_app r (n + 1) ((x, n) :: acc), cellsFrom_app r (n + 1) [(x, n)], List.append_assoc]
      rfl
    · rw [if_neg hk, if_neg hk, cellsFrom_app r n acc]
theorem cellsFrom_mem : ∀ (names : List (Str × NameKind)) (n : Nat) (x : Str) (c : Addr), (x, c) ∈ cellsFrom n names [] → (x, NameKind.cell) ∈ names
  | [], _, _, _, h => by simp [cellsFrom] at h
  | (y, k) :: r, n, x, c, h => by
    unfold cellsFrom at h
    by_cases hk : (k == NameKind.cell) = true
    · rw [if_pos hk, cellsFrom_app] at h
      rcases List.mem_append.mp h with h | h
      · exact List.mem_cons_of_mem _ (cellsFrom_mem r (n + 1) x c h)
      · have : x = y := by simpa using (List.mem_singleton.mp h ▸ rfl : (x, c).1 = (y, n).1)
        have hk : k = .cell := by simpa using hk
        subst this hk
        exact List.mem_cons_self
    · rw [if_neg hk] at h
      exact List.mem_cons_of_mem _ (cellsFrom_mem r n x c h)
theorem lookup_app {x : Str} : ∀ (a b : List (Str × Addr)), (a ++ b).lookup x = match a.lookup x with
    | some c => some c
    | none => b.lookup x
  | [], _ => rfl
  | (y, c) :: r, b => by
    rw [List.cons_append, List.lookup_cons, List.lookup_cons]
    cases h : x == y with
    | true => rfl
    | false => exact lookup_app r b
theorem cellsFrom_has : ∀ (names : List (Str × NameKind)) (n : Nat) (x : Str), (x, NameKind.cell) ∈ names → ∃ c, (cellsFrom n names []).lookup x = some c
  | [], _, _, h => by simp at h
  | (y, k) :: r, n, x, h => by
    unfold cellsFrom
    by_cases hx : (x, NameKind.cell) ∈ r
    · by_cases hk : (k == NameKind.cell) = true
      · rw [if_pos hk, cellsFrom_app, lookup_app]
        obtain ⟨c, hc⟩ := cellsFrom_has r (n + 1) x hx
        rw [hc]; exact ⟨c, rfl⟩
      · rw [if_neg hk]
        exact cellsFrom_has r n x hx
    · rcases List.mem_cons.mp h with h | h
      · cases h
        rw [if_pos (by rfl), cellsFrom_app, lookup_app]
        cases e : (cellsFrom (n + 1) r []).lookup y with
        | some c => exact ⟨c, rfl⟩
        | none => exact ⟨n, by simp [List.lookup_cons]⟩
      · exact absurd h hx
theorem wpAny_newEnv_cl {M : Model} {A : Around} {E : Value → Shared → Prop} {s : Shared} {scope : Scope} {globals : Addr} {cl : List (Str × Addr)} {qual : Str} {env : PySem.Env} {Q : PySem.Env → Shared → Prop}
    (hQ : ∀ h', h' = pushCells (s.heap.push { cls := .type "dict", data := .dict #[] }) scope.names →
      Q { scope := scope, locals := s.heap.objs.size, globals := globals, cells := cellsFrom (s.heap.objs.size + 1) scope.names cl, qual := qual, func := none, code := env.code, frame := env.frame, builtins := env.builtins } { s with heap := h' }) :
    wpAny M A (newFunctionEnv scope globals cl [] qual none .none (some env)) Q E s := by
  simp only [newFunctionEnv, Option.isSome_some, if_true]
  refine wpAny_bind (wpAny_alloc ?_)
  refine wpAny_bind (wpAny_layCells _ (fun name kind cells => by cases hkc : kind == NameKind.cell <;> simp [hkc]) _ _ _ _ ?_)
  rw [show ({ s with heap := s.heap.push { cls := .type "dict", data := .dict #[] } } : Shared).heap.objs.size = s.heap.objs.size + 1 from Heap.size_push ..]
  rw [List.forIn_nil]
  exact wpAny_bind (wpAny_pure (wpAny_pure (hQ _ rfl)))
section
variable {X : Cx}
theorem comp_block {elt tg iter : Expr} {ifs : List Expr} {scope : Scope} {pos : Pos} {cl : List (Str × Addr)} {N' : List Str} {pk : List (Option Nat)} {g : TG} {tt : TT} {te : TE} (cs : CompSc X scope cl N' pk) (hcm : X.calm = true)
    (hg : ∀ cl s2 H2 C fp, PG (blk X s2 H2 C scope cl N' fp) tg g) (ht : ∀ cl s2 H2 C fp, PTs (blk X s2 H2 C scope cl N' fp) ifs tt) (he : ∀ cl s2 H2 C fp, PE (blk X s2 H2 C scope cl N' fp) elt te)
    {pins : List (Addr × Obj)} {σ : L2.St} {H2 : Hp} {s2 : Shared} {it : Addr} {fp : List Addr} {tn : Nat → Heap → Prop} {J : It} (I2 : Inv X pins σ H2 s2) (T : Turn X.prog X.w X.K tg J fp it tn) (st2 : tn 0 s2.heap) (f2 : ∀ b ∈ fp, FpOk X pins H2 b)
    {Q : VK} (hQ : ∀ a, H2 a = none → ∃ W : Nat → Nat → L2.St → Hp → Prop, (∃ m, W 0 m (pkS pk σ) (upd H2 a (.lst []))) ∧ ∀ i m σ' H', W i m σ' H' →
      (J.stop i H' ∧ Q (.ref a) H') ∨ (J.go i H' ∧ ∀ x H3, J.yld i H' x H3 → g x σ' H3 fun σ3 H3 => tt σ3 H3 fun b H4 => if b = true then te σ3 H4 fun v H5 => ∃ xs, H5 a = some (.lst xs) ∧ xs.length < sizeLine ∧ ∃ m', m' < m ∧ W (i + 1) m' σ3 (upd H5 a (.lst (xs ++ [v])))
        else ∃ m', m' < m ∧ W (i + 1) m' σ3 H4)) {E : Value → Shared → Prop} {RR : Value → Addr → Result → Shared → Prop}
    (hRR : ∀ D C s' (H' : Hp), Q (.ref D) H' → (∃ m, s'.heap.Ns C m) → Inv X pins σ H' s' → H' C = none → s2.heap.objs.size ≤ C → RR (.ref D) C (.ok .next) s') :
    wpAny (model X.prog X.w) X.A (newList []) (fun acc s₃ => wpAny (model X.prog X.w) X.A (newFunctionEnv scope X.env.globals cl [] X.env.qual none .none (some X.env)) (fun cenv s₄ =>
      codeAny (model X.prog X.w) X.A (.compStart (.ListComp elt [⟨tg, iter, ifs, 0⟩] scope pos) 0 (.ref it) acc { cenv with scope := relabel scope X.env }) (RR acc cenv.locals) s₄) E s₃) E s2 := by
  have hD : H2 s2.heap.objs.size = none := I2.hok.fresh (Nat.le_refl _)
  obtain ⟨W, ⟨m0, w0⟩, turn⟩ := hQ s2.heap.objs.size hD
  refine wpAny_newObj_type (wpAny_newEnv_cl (fun h₁ hh₁ => ?_))
  dsimp only at hh₁ ⊢
  generalize hHh : s2.heap.push { cls := .type "list", dict := none, data := .seq ([] : List Value).toArray } = Hh at hh₁ ⊢
  have hC : Hh.objs.size = s2.heap.objs.size + 1 := by rw [← hHh, Heap.size_push]
  have hDC : s2.heap.objs.size ≠ Hh.objs.size := by rw [hC]; exact Nat.ne_of_lt (Nat.lt_succ_self _)
  have hCle : s2.heap.objs.size ≤ Hh.objs.size := by rw [hC]; exact Nat.le_succ _
  have below : ∀ b, b < s2.heap.objs.size → b ≠ Hh.objs.size ∧ b ≠ s2.heap.objs.size := fun b hb => ⟨by rw [hC]; exact Nat.ne_of_lt (Nat.lt_succ_of_lt hb), Nat.ne_of_lt hb⟩
  have hns₁ : h₁.Ns Hh.objs.size (fun _ => none) := by rw [hh₁]; exact (Heap.Ns.new Hh (.type "dict")).keeps (pushCells_keeps _ _)
  have old0 : ∀ b o, Hh.get? b = some o → h₁.get? b = some o := fun b o e => by rw [hh₁]; exact pushCells_keeps _ _ b o (Heap.get?_push_of_some _ e)
  have old : ∀ b o, s2.heap.get? b = some o → h₁.get? b = some o := fun b o e => old0 b o (by rw [← hHh]; exact Heap.get?_push_of_some _ e)
  have hacc : h₁.get? s2.heap.objs.size = some { cls := .type "list", dict := none, data := .seq ([] : List Value).toArray } := old0 _ _ (by rw [← hHh]; exact Heap.get?_push_size _ rfl)
  have own := cellsFrom_ok scope.names (Hh.push { cls := .type "dict", data := .dict #[] }) (Hh.objs.size + 1) [] ⟨fun _ _ hm => (nomatch hm), List.Pairwise.nil⟩ (by rw [Heap.size_push]; exact Nat.le_refl _)
  rw [Heap.size_push, ← hh₁] at own
  generalize hcs : cellsFrom (Hh.objs.size + 1) scope.names cl = cs' at *
  have csl : ∀ x c, cs'.lookup x = some c → ((x, c) ∈ cellsFrom (Hh.objs.size + 1) scope.names [] ∧ h₁.IsCell c none ∧ Hh.objs.size + 1 ≤ c ∧ scope.names.lookup x = some .cell) ∨ ((x, NameKind.cell) ∉ scope.names ∧ X.env.cells.lookup x = some c) := fun x c h => by
    rw [← hcs, cellsFrom_app, lookup_app] at h
    cases e : (cellsFrom (Hh.objs.size + 1) scope.names []).lookup x with
    | some c' =>
      rw [e] at h
      cases h
      have m := mem_of_lookup e
      exact .inl ⟨m, (own.empty x c m).1, (own.empty x c m).2, cs.cell (x, .cell) (cellsFrom_mem _ _ _ _ m) rfl⟩
    | none =>
      rw [e] at h
      refine .inr ⟨fun hm => ?_, cs.sub x c h⟩
      obtain ⟨c', q⟩ := cellsFrom_has scope.names (Hh.objs.size + 1) x hm
      rw [e] at q; cases q
  have cshas : ∀ x, ((relabel scope X.env).names.lookup x = some .cell ∨ (relabel scope X.env).names.lookup x = some .free) → ∃ c, cs'.lookup x = some c := fun x h => by
    rw [← hcs, cellsFrom_app, lookup_app]
    cases e : (cellsFrom (Hh.objs.size + 1) scope.names []).lookup x with
    | some c => exact ⟨c, rfl⟩
    | none =>
      rcases cs.has x h with hm | hm
      · obtain ⟨c', q⟩ := cellsFrom_has scope.names (Hh.objs.size + 1) x hm
        rw [e] at q; cases q
      · exact hm
  have lts : ∀ x c, X.env.cells.lookup x = some c → c < s2.heap.objs.size := fun x c h => by
    obtain ⟨v, o, ho, hd⟩ := I2.cell x c h
    exact Heap.lt_size ho
  let Y := blk X s2 H2 Hh.objs.size scope cs' N' fp
  have fpLt : ∀ b ∈ fp, b < s2.heap.objs.size := fun b hb => by
    obtain ⟨o, e, _⟩ := T.obj _ _ st2 b hb
    exact Heap.lt_size e
  have okY : Y.Ok := by
    refine ⟨I2.ok.mod, (by show (relabel scope X.env).kind = .function; exact cs.kind), I2.ok.glob, I2.ok.blt, hCle, fun x y c h1 h2 => ?_, cshas, (fun x c z h => by
      rcases csl x c h with ⟨_, _, q, _⟩ | ⟨q, _⟩
      · show s2.heap.objs.size ≤ c
        rw [hC] at q; omega
      · have z : scope.names.lookup x = some .cell := by simpa [Y, blk] using z
        exact absurd (mem_of_lookup z) q), I2.ok.hd, I2.ok.frames, .inl rfl, fun b hb => ⟨Nat.ne_of_lt (by rw [show Y.env.locals = Hh.objs.size from rfl, hC]; exact Nat.lt_succ_of_lt (fpLt b hb)), fun x c h => by
      rcases csl x c h with ⟨_, _, q, _⟩ | ⟨_, q⟩
      · exact fun z => absurd (Nat.lt_of_lt_of_le (fpLt b hb) (Nat.le_trans (by rw [hC]; omega) (z ▸ q))) (Nat.lt_irrefl _)
      · exact (f2 b hb).2.2.2.2.1 x c q⟩, I2.bs, Nat.le_trans I2.ok.bsz I2.sz, fun b o e hb => ?_, fun b hb hs => ?_, I2.stack, I2.stkFree⟩
    · rcases csl x c h1 with ⟨m1, _, q1, _⟩ | ⟨_, q1⟩ <;> rcases csl y c h2 with ⟨m2, _, q2, _⟩ | ⟨_, q2⟩
      · exact name_of_addr own.apart m1 m2
      · exact absurd (Nat.lt_of_lt_of_le (lts y c q2) (Nat.le_trans (by rw [hC]; omega) q1)) (Nat.lt_irrefl _)
      · exact absurd (Nat.lt_of_lt_of_le (lts x c q1) (Nat.le_trans (by rw [hC]; omega) q2)) (Nat.lt_irrefl _)
      · exact I2.ok.inj x y c q1 q2
    · rcases (f2 b hb).2.2.2.1 with z | z
      · exact I2.ok.noex b o e z
      · exact absurd (Nat.lt_of_lt_of_le (Heap.lt_size e) (Nat.le_trans I2.ok.bsz z)) (Nat.lt_irrefl _)
    · rcases List.mem_cons.mp (I2.stkSub b hs) with z | z
      · exact (f2 b hb).2.1 z
      · exact (f2 b hb).2.2.1 z
  have hokY : HOk X.prog X.w (upd H2 s2.heap.objs.size (.lst [])) h₁ := I2.hok.laid old (Nat.le_refl _) ⟨by decide, [], 0, .nil, hacc⟩
  have IY : ∀ tk, Inv Y [] (pkS pk σ) (upd H2 s2.heap.objs.size (.lst [])) { s2 with heap := h₁, toks := tk } := fun tk => by
    refine ⟨okY, rfl, I2.bare, ?_, ⟨_, hns₁, fun i x v h1 h2 h3 => ?_⟩, fun x c h => ?_, ?_, fun x c h => ?_, fun p hp => absurd (show p ∈ ([] : List (Addr × Obj)) from hp) (by simp), hokY, by show (pkS pk σ).length = N'.length; rw [← cs.len]; simp [pkS]⟩
    · exact Un.laid old (Nat.le_refl _) hD
    · unfold pkS at h2
      rw [List.getElem?_map] at h2
      cases e : pk[i]? with
      | none => rw [e] at h2; cases h2
      | some o =>
        rw [e] at h2
        cases o with
        | none => cases h2
        | some j =>
          have h2 : (σ[j]?).bind id = some v := Option.some.inj h2
          have h2 : σ[j]? = some (some v) := by
            cases z : σ[j]? with
            | none => rw [z] at h2; cases h2
            | some q =>
              rw [z] at h2
              have h2 : q = some v := h2
              rw [h2]
          obtain ⟨n1, n2, n3, n4⟩ := cs.take i j x e h1
          obtain ⟨m, _, hl⟩ := I2.loc
          have vis : Vis X.env.scope x := by
            rcases n2 with n2 | n2
            · exact .inr (.inl n2)
            · exact .inr (.inr n2)
          obtain ⟨u, r, l⟩ := hl j x v n1 h2 vis
          refine ⟨u, r, .inr ⟨n3, ?_⟩⟩
          rcases l with ⟨k, _⟩ | ⟨_, c, hc, ⟨o, ho, hd⟩⟩
          · rcases n2 with n2 | n2 <;> rw [k] at n2 <;> cases n2
          · obtain ⟨c', hc'⟩ := cshas x n3
            rcases csl x c' hc' with ⟨_, _, _, q⟩ | ⟨_, e2⟩
            · rw [n4] at q; cases q
            rw [hc] at e2
            cases e2
            exact ⟨c, hc', o, old c o ho, hd⟩
    · rcases csl x c h with ⟨_, q, _, _⟩ | ⟨_, q⟩
      · exact ⟨none, q⟩
      obtain ⟨v, o, ho, hd⟩ := I2.cell x c q
      exact ⟨v, o, old c o ho, hd⟩
    · show upd H2 s2.heap.objs.size (.lst []) Hh.objs.size = none
      rw [upd_ne (Ne.symm hDC)]
      exact I2.hok.fresh hCle
    · rcases csl x c h with ⟨_, _, z, _⟩ | ⟨_, z⟩
      · show upd H2 s2.heap.objs.size (.lst []) c = none
        have z : s2.heap.objs.size + 2 ≤ c := by rw [hC] at z; exact z
        rw [upd_ne (Nat.ne_of_gt (by omega : s2.heap.objs.size < c))]
        exact I2.hok.fresh (by omega)
      have q := I2.freeC x c z
      obtain ⟨v, o, ho, hd⟩ := I2.cell x c z
      show upd H2 s2.heap.objs.size (.lst []) c = none
      rw [upd_ne (below c (Heap.lt_size ho)).2]
      exact q
  have stat : ∀ {H' : Hp}, (∀ b ∈ fp, H' b = none) → ∀ b ∈ fp, FpOk Y [] H' b := fun hn b hb =>
    ⟨hn b hb, (okY.exf b hb).1, okY.exfs b hb, .inl hb, (okY.exf b hb).2, fun p hp => absurd (show p ∈ ([] : List (Addr × Obj)) from hp) (by simp)⟩
  have fin : ∀ (H' : Hp) (σ' : L2.St) (s' : Shared), Inv Y [] σ' H' s' → ∀ h', Heap.SameBut Hh.objs.size s'.heap h' → Inv X pins σ H' { s' with heap := h' } := fun H' σ' s' I' h' hs => by
    have sub : ∀ b o, s2.heap.get? b = some o → b ≠ Hh.objs.size := fun b o e => (below b (Heap.lt_size e)).1
    have un : Un (frs X.stack) fp H2 H' s2.heap s'.heap := I'.base
    refine I2.call' (ch := fp) I'.os ⟨fun b o e n hb hx => (hs.2 b (sub b o e)).trans (un.keep b o e n hb hx), fun b o e n hb hx => ?_, un.free, fun b o e hx => ?_, un.tups, un.frzs, un.tbls⟩ (hok_same I'.hok I'.free hs) I'.bare fun b hb => ⟨(f2 b hb).2.2.2.1, (f2 b hb).2.1, (f2 b hb).2.2.2.2.1, (f2 b hb).2.2.2.2.2⟩
    · obtain ⟨sl, q⟩ := un.slot b o e n hb hx
      exact ⟨sl, (hs.2 b (sub b o e)).trans q⟩
    · obtain ⟨o', q⟩ := un.there b o e hx
      exact ⟨o', (hs.2 b (sub b o e)).trans q⟩
  have loop : ∀ s3 : Shared, (∃ tk, s3 = { s2 with heap := h₁, toks := tk }) →
      codeAny (model X.prog X.w) X.A (.compLoop (.ListComp elt [⟨tg, iter, ifs, 0⟩] scope pos) 0 (.ref it) (.ref s2.heap.objs.size) (compEnvC scope cs' Hh.objs.size X.env)) (RR (.ref s2.heap.objs.size) Hh.objs.size) s3 := by
    rintro s3 ⟨tk, rfl⟩
    refine compLoop_any (fun n s' => ∃ i σ' H', Inv Y [] σ' H' s' ∧ tn i s'.heap ∧ (∀ b ∈ fp, H' b = none) ∧ W i n σ' H') ?_ m0 ⟨0, _, _, IY tk, T.keep _ _ _ st2 (fun b _ o e => old b o e), fun b hb => by rw [upd_ne (below b (fpLt b hb)).2]; exact (f2 b hb).1, w0⟩
    rintro n s4 ⟨i, σ4, H4, I4, st4, fr4, w4⟩
    rcases turn i n σ4 H4 w4 with ⟨stop, qn⟩ | ⟨go, step⟩
    · refine wpAny_mono (T.done Y rfl rfl rfl hcm i [] s4 σ4 H4 (fun _ _ => False) I4 (stat fr4) st4 stop) (fun r s5 ⟨hr, I5⟩ => ?_) fun _ _ z => z
      subst hr
      obtain ⟨m, hn, _⟩ := I5.loc
      exact hRR _ _ s5 H4 qn ⟨m, hn⟩ (fin H4 σ4 s5 I5 s5.heap (.refl ..)) I5.free hCle
    · refine wpAny_mono (T.item Y rfl rfl rfl hcm i [] s4 σ4 H4 (fun _ _ => False) I4 (stat fr4) st4 go) (fun r s5 ⟨u, hr, h5⟩ => ?_) fun _ _ z => z
      subst hr
      refine wpAny_mono h5 (fun _ s6 ⟨x, H6, I6, r6, y6, st6, fr6⟩ => ?_) fun _ _ z => z
      have I6' := I6.pinned (stat fr6) (T.obj _ _ st6)
      refine wpAny_mono (hg cs' s2 H2 Hh.objs.size fp _ s6 σ4 H6 x u _ I6' r6 (step x H6 y6)) (fun _ s7 ⟨σ7, H7, I7, q7⟩ => ?_) fun _ _ z => z
      refine wpAny_mono (ht cs' s2 H2 Hh.objs.size fp _ s7 σ7 H7 _ I7 q7) (fun ok s8 ⟨H8, I8, q8⟩ => ?_) fun _ _ z => z
      have back : ∀ {σ9 : L2.St} {H9 : Hp} {s9 : Shared}, Inv Y ([] ++ pinsAt fp s6.heap) σ9 H9 s9 → Inv Y [] σ9 H9 s9 ∧ tn (i + 1) s9.heap ∧ ∀ b ∈ fp, H9 b = none := fun {σ9 H9 s9} I9 =>
        ⟨I9.unpinned, T.keep _ _ _ st6 fun b hb o e => (I9.pin (b, o) (List.mem_append_right _ (List.mem_append_right _ (mem_pinsAt hb e)))).1, fun b hb => by
          obtain ⟨o, e, d⟩ := T.obj _ _ st6 b hb
          exact (I9.pin (b, o) (List.mem_append_right _ (List.mem_append_right _ (mem_pinsAt hb e)))).2.1⟩
      cases ok with
      | false =>
        obtain ⟨m', hm, w'⟩ := (if_neg Bool.false_ne_true).mp q8
        obtain ⟨b1, b2, b3⟩ := back I8
        exact (if_neg Bool.false_ne_true).mpr ⟨m', hm, i + 1, σ7, H8, b1, b2, b3, w'⟩
      | true =>
        refine (if_pos rfl).mpr ?_
        refine wpAny_mono (he cs' s2 H2 Hh.objs.size fp _ s8 σ7 H8 _ I8 ((if_pos rfl).mp q8)) (fun ux s9 ⟨v, H9, I9, r9, xs, ex, hx, m', hm, w'⟩ => ?_) fun _ _ z => z
        refine wpAny_mono (mt_append (X := Y) _ s9 σ7 H9 (.ref s2.heap.objs.size) [v] (.ref s2.heap.objs.size) [ux] (fun _ H' => H' = upd H9 s2.heap.objs.size (.lst (xs ++ [v]))) I9 rfl (.cons r9 .nil) ⟨_, xs, v, rfl, rfl, ex, hx, rfl⟩) (fun _ s10 ⟨_, H10, I10, _, e10⟩ => ?_) fun _ _ z => z
        subst e10
        obtain ⟨b1, b2, b3⟩ := back I10
        exact ⟨m', hm, i + 1, σ7, _, b1, b2, b3, w'⟩
  exact codeAny_compStart_list (loop _ ⟨_, rfl⟩) (T.self _ 0 _ _ _ (T.keep _ _ _ st2 fun b _ o e => old b o e) (loop _ ⟨_, rfl⟩))
theorem inv_let {pins : List (Addr × Obj)} {σ σ2 : L2.St} {H2 H' : Hp} {s2 s' : Shared} {C : Addr} {h' : Heap} (I2 : Inv X pins σ2 H2 s2) (I : Inv X pins σ H' s') (hn : H' C = none) (hC : s2.heap.objs.size ≤ C) (hs : Heap.SameBut C s'.heap h') : Inv X pins σ H' { s' with heap := h' } := by
  refine I.turned (t' := s'.toks) (it := C) (fun b o hb e => (hs.2 b hb).trans e) hn (fun z => ?_) (.inr (Nat.le_trans I2.sz hC)) (fun x c h z => ?_) fun p hp z => ?_
  · exact absurd (Nat.lt_of_lt_of_le I2.lt (by rw [← z]; exact hC)) (Nat.lt_irrefl _)
  · obtain ⟨v, q⟩ := I2.cell x c h
    exact absurd (Nat.lt_of_lt_of_le q.lt (by rw [z]; exact hC)) (Nat.lt_irrefl _)
  · exact absurd (Nat.lt_of_lt_of_le (Heap.lt_size (I2.pin p hp).1) (by rw [z]; exact hC)) (Nat.lt_irrefl _)
theorem closure_of {env : PySem.Env} : ∀ (names : List (Str × NameKind)) (acc : List (Str × Addr)), (∀ x ∈ names, x.2 = .free → ∃ c, env.cells.lookup x.1 = some c) → (∀ x c, acc.lookup x = some c → env.cells.lookup x = some c) →
    ∃ cl, (forIn names acc fun x cs => (if (x.2 == NameKind.free) = true then do let c ← cellOf env x.1; pure (ForInStep.yield ((x.1, c) :: cs)) else pure (ForInStep.yield cs) : Sem _)) = pure cl ∧ (∀ x c, cl.lookup x = some c → env.cells.lookup x = some c) ∧
      (∀ x, (∃ c, acc.lookup x = some c) ∨ (x, NameKind.free) ∈ names → ∃ c, cl.lookup x = some c)
  | [], acc, _, ha => ⟨acc, rfl, ha, fun x h => by
      rcases h with h | h
      · exact h
      · simp at h⟩
  | (n, k) :: r, acc, hn, ha => by
    have hr : ∀ x ∈ r, x.2 = .free → ∃ c, env.cells.lookup x.1 = some c := fun x hx => hn x (List.mem_cons_of_mem _ hx)
    by_cases hk : k = .free
    · subst hk
      obtain ⟨c, hc⟩ := hn (n, .free) List.mem_cons_self rfl
      obtain ⟨cl, e, h1, h2⟩ := closure_of r ((n, c) :: acc) hr (fun x c' h => by
        rw [List.lookup_cons] at h
        by_cases hx : (x == n) = true
        · rw [hx] at h
          cases h
          have : x = n := by simpa using hx
          rw [this]; exact hc
        · have hx : (x == n) = false := by simpa using hx
          rw [hx] at h
          exact ha x c' h)
      refine ⟨cl, ?_, h1, fun x h => h2 x ?_⟩
      · rw [List.forIn_cons]
        simp only [beq_self_eq_true, if_true]
        have q : cellOf env n = pure c := by unfold cellOf; rw [hc]
        rw [q]
        exact e
      · rcases h with ⟨c', h⟩ | h
        · left
          rw [List.lookup_cons]
          by_cases hx : (x == n) = true
          · rw [hx]; exact ⟨c, rfl⟩
          · have hx : (x == n) = false := by simpa using hx
            rw [hx]; exact ⟨c', h⟩
        · rcases List.mem_cons.mp h with h | h
          · left
            cases h
            exact ⟨c, by rw [List.lookup_cons, beq_self_eq_true]⟩
          · exact .inr h
    · have hb : (k == NameKind.free) = false := by simpa using hk
      obtain ⟨cl, e, h1, h2⟩ := closure_of r acc hr ha
      refine ⟨cl, ?_, h1, fun x h => h2 x ?_⟩
      · rw [List.forIn_cons]
        simp only [hb, Bool.false_eq_true, if_false]
        exact e
      · rcases h with h | h
        · exact .inl h
        · rcases List.mem_cons.mp h with h | h
          · cases h; exact absurd rfl hk
          · exact .inr h
theorem closure_ok {env : PySem.Env} {scope : Scope} (hn : ∀ x ∈ scope.names, x.2 = .free → ∃ c, env.cells.lookup x.1 = some c) : ∃ cl, closureFor scope env = pure cl ∧ (∀ x c, cl.lookup x = some c → env.cells.lookup x = some c) ∧ (∀ x, (x, NameKind.free) ∈ scope.names → ∃ c, cl.lookup x = some c) := by
  obtain ⟨cl, e, h1, h2⟩ := closure_of (env := env) scope.names [] hn (fun x c h => by simp at h)
  refine ⟨cl, ?_, h1, fun x h => h2 x (.inr h)⟩
  unfold closureFor
  have e2 : (forIn scope.names ([] : List (Str × Addr)) fun x r => (match x with
      | (name, kind) => if (kind == NameKind.free) = true then do let c ← cellOf env name; pure (ForInStep.yield ((name, c) :: r)) else pure (ForInStep.yield r) : Sem _)) = pure cl := e
  first
    | exact congrArg (fun m => m >>= fun cs => pure cs) e2
    | (show (do let cs ← forIn scope.names ([] : List (Str × Addr)) fun x r => _; pure cs) = _; rw [e2]; rfl)
structure CompTab (sc scope : Scope) (N N' : List Str) (pk : List (Option Nat)) : Prop where
  kind : scope.kind = .function
  cell : ∀ y ∈ scope.names, y.2 = .cell → scope.names.lookup y.1 = some .cell
  names : ∀ y ∈ scope.names, y.2 = .local → scope.names.lookup y.1 = some .local
  free : ∀ y ∈ scope.names, y.2 = .free → sc.names.lookup y.1 = some .cell ∨ sc.names.lookup y.1 = some .free
  len : pk.length = N'.length
  take : ((List.range N'.length).all fun i => match pk[i]? with
    | some (some j) => match N[j]?, N'[i]? with
      | some x, some y => (x == y) && ((sc.names.lookup y == some NameKind.cell) || (sc.names.lookup y == some NameKind.free)) && (scope.names.lookup y == some NameKind.free)
      | _, _ => false
    | _ => true) = true
theorem relabel_lookup {scope : Scope} {env : PySem.Env} {x : Str} : ∀ (names : List (Str × NameKind)), ((names.map fun (n, k) => if (k == NameKind.free && env.scope.kind == .function && env.kindOf n == some .cell) = true then (n, NameKind.cell) else (n, k)).lookup x = some .cell ∨
      (names.map fun (n, k) => if (k == NameKind.free && env.scope.kind == .function && env.kindOf n == some .cell) = true then (n, NameKind.cell) else (n, k)).lookup x = some .free) → (x, NameKind.cell) ∈ names ∨ (x, NameKind.free) ∈ names
  | [], h => by simp at h
  | (n, k) :: r, h => by
    rw [List.map_cons] at h
    by_cases hx : (x == n) = true
    · have e : x = n := by simpa using hx
      subst e
      by_cases hq : (k == NameKind.free && env.scope.kind == .function && env.kindOf x == some .cell) = true
      · have : k = .free := by
          rw [Bool.and_eq_true, Bool.and_eq_true] at hq
          simpa using hq.1.1
        subst this
        exact .inr List.mem_cons_self
      · simp only [hq, Bool.false_eq_true, if_false, List.lookup_cons, beq_self_eq_true] at h
        rcases h with h | h
        · have : k = .cell := by simpa using h
          subst this
          exact .inl List.mem_cons_self
        · have : k = .free := by simpa using h
          subst this
          exact .inr List.mem_cons_self
    · have hx : (x == n) = false := by simpa using hx
      refine (relabel_lookup (scope := scope) (env := env) r ?_).imp (List.mem_cons_of_mem _) (List.mem_cons_of_mem _)
      by_cases hq : (k == NameKind.free && env.scope.kind == .function && env.kindOf n == some .cell) = true
      · simpa only [hq, if_true, List.lookup_cons, hx] using h
      · simpa only [hq, Bool.false_eq_true, if_false, List.lookup_cons, hx] using h
theorem lookup_relabel_free {scope : Scope} {env : PySem.Env} {x : Str} : ∀ (names : List (Str × NameKind)), names.lookup x = some .free → ((names.map fun (n, k) => if (k == NameKind.free && env.scope.kind == .function && env.kindOf n == some .cell) = true then (n, NameKind.cell) else (n, k)).lookup x = some .cell ∨
      (names.map fun (n, k) => if (k == NameKind.free && env.scope.kind == .function && env.kindOf n == some .cell) = true then (n, NameKind.cell) else (n, k)).lookup x = some .free)
  | [], h => by simp at h
  | (n, k) :: r, h => by
    rw [List.map_cons]
    by_cases hx : (x == n) = true
    · rw [List.lookup_cons, hx] at h
      have : k = .free := by simpa using h
      subst this
      by_cases hq : (NameKind.free == NameKind.free && env.scope.kind == .function && env.kindOf n == some .cell) = true
      · left; simp only [hq, if_true, List.lookup_cons, hx]
      · right; simp only [hq, Bool.false_eq_true, if_false, List.lookup_cons, hx]
    · have hx : (x == n) = false := by simpa using hx
      rw [List.lookup_cons, hx] at h
      have := lookup_relabel_free (scope := scope) (env := env) r h
      by_cases hq : (k == NameKind.free && env.scope.kind == .function && env.kindOf n == some .cell) = true
      · simpa only [hq, if_true, List.lookup_cons, hx] using this
      · simpa only [hq, Bool.false_eq_true, if_false, List.lookup_cons, hx] using this
theorem CompTab.sc {scope : Scope} {N' : List Str} {pk : List (Option Nat)} (t : CompTab X.env.scope scope X.N N' pk) (ok : X.Ok) : ∃ cl, CompSc X scope cl N' pk := by
  obtain ⟨cl, e, h1, h2⟩ := closure_ok (env := X.env) (scope := scope) fun x hx hf => ok.has x.1 (t.free x hx hf)
  refine ⟨cl, t.kind, t.cell, t.names, e, h1, fun x h => (relabel_lookup (scope := scope) (env := X.env) scope.names h).imp id (h2 x), t.len, fun i j x hp hn => ?_⟩
  have hi : i < N'.length := (List.getElem?_eq_some_iff.mp hn).1
  have q := List.all_eq_true.mp t.take i (List.mem_range.mpr hi)
  simp only [hp, hn] at q
  cases hj : X.N[j]? with
  | none => simp [hj] at q
  | some y =>
    simp only [hj, Bool.and_eq_true, Bool.or_eq_true, beq_iff_eq] at q
    obtain ⟨⟨e1, e2⟩, e3⟩ := q
    subst e1
    exact ⟨rfl, e2, lookup_relabel_free (scope := scope) (env := X.env) scope.names e3, e3⟩
theorem pe_comp {elt tg iter : Expr} {ifs : List Expr} {scope : Scope} {pos : Pos} {N' : List Str} {pk : List (Option Nat)} {wi : TI} {g : TG} {tt : TT} {te : TE} (ct : CompTab X.env.scope scope X.N N' pk) (hcm : X.calm = true) (hi : PI X tg iter wi)
    (hg : ∀ cl s2 H2 C fp, PG (blk X s2 H2 C scope cl N' fp) tg g) (ht : ∀ cl s2 H2 C fp, PTs (blk X s2 H2 C scope cl N' fp) ifs tt) (he : ∀ cl s2 H2 C fp, PE (blk X s2 H2 C scope cl N' fp) elt te)
    (hs : ∀ x, foldedSetIterable iter X.env x = pure x := by intro _; rfl) : PE X (.ListComp elt [⟨tg, iter, ifs, 0⟩] scope pos) (tComp wi pk g tt te) := by
  intro pins s σ H Q I h
  obtain ⟨cl, cs⟩ := ct.sc I.ok
  rw [eval_ListComp]
  refine wpAny_comprehension_free (use := none) rfl hs cs.clos cs.kind cs.names (thn (hi pins s σ H _ I h) fun x s1 h1 => thn h1 fun itv s2 h2 => ?_)
  obtain ⟨it, fp, tn, J, H2, e, I2, T, st2, f2, hQ⟩ := h2
  subst e
  refine comp_block cs hcm hg ht he I2 T st2 f2 hQ (RR := fun acc C => compPost (model X.prog X.w) X.A X.xe none (EP X pins σ Q) acc C) fun D C s' H' q hn inv hf hC => ?_
  obtain ⟨m, hn⟩ := hn
  exact ⟨m, hn, fun h' hs' => ⟨.ref D, H', inv_let I2 inv hf hC hs', rfl, q⟩⟩
theorem ps_setComp {i : Nat} {y : Str} {py spos : Pos} {elt tg iter : Expr} {ifs : List Expr} {scope : Scope} {pos : Pos} {N' : List Str} {pk : List (Option Nat)} {wi : TI} {g : TG} {tt : TT} {te : TE} (ct : CompTab X.env.scope scope X.N N' pk) (hcm : X.calm = true) (hi : PI X tg iter wi)
    (hg : ∀ cl s2 H2 C fp, PG (blk X s2 H2 C scope cl N' fp) tg g) (ht : ∀ cl s2 H2 C fp, PTs (blk X s2 H2 C scope cl N' fp) ifs tt) (he : ∀ cl s2 H2 C fp, PE (blk X s2 H2 C scope cl N' fp) elt te)
    (hN : X.N.Nodup) (hy : X.N[i]? = some y) (hx : Loc X.env.scope y) (hsw : swapsWith (.ListComp elt [⟨tg, iter, ifs, 0⟩] scope pos) (some (.Name y py)) spos.line X.env = pure true)
    (hs : ∀ x, foldedSetIterable iter X.env x = pure x := by intro _; rfl) (hf : X.fn y = true ∨ X.env.scope.names.lookup y = some .local := by first | exact .inl rfl | exact .inr rfl | assumption) :
    PS X (.Assign [.Name y py] (.ListComp elt [⟨tg, iter, ifs, 0⟩] scope pos) spos) (tAsg (tComp wi pk g tt te) (gName i)) := by
  intro pins s σ H E I h
  obtain ⟨cl, cs⟩ := ct.sc I.ok
  rw [exec_Assign_Name_used _ _ _ _ hsw]
  refine wpAny_bind (wpAny_standAt (wpAny_bind ?_))
  show wpAny _ X.A (do let _ ← comprehension (.ListComp elt [⟨tg, iter, ifs, 0⟩] scope pos) scope X.env _ (newList []) false (eval iter X.env) (some (assign (.Name y py) X.env))) _ _ s
  refine wpAny_bind (wpAny_mono (wpAny_comprehension_free (use := some (assign (.Name y py) X.env)) (Q := fun _ s' => SP X pins E .next s') rfl hs cs.clos cs.kind cs.names
    (thn (hi pins s σ H _ I h) fun x s1 h1 => thn h1 fun itv s2 h2 => ?_)) (fun _ s' hq => wpAny_pure (wpAny_pure hq)) fun _ _ e => e)
  obtain ⟨it, fp, tn, J, H2, e, I2, T, st2, f2, hQ⟩ := h2
  subst e
  refine comp_block cs hcm hg ht he I2 T st2 f2 (Q := fun x H1 => gName i x σ H1 E.nx) hQ (RR := fun acc C => compPost (model X.prog X.w) X.A X.xe (some (assign (.Name y py) X.env)) (fun _ s' => SP X pins E .next s') acc C) fun D C s' H' q hn inv hfr hC => ?_
  obtain ⟨m, hn⟩ := hn
  show wpAny _ X.A (assign (.Name y py) X.env (.ref D)) _ _ _
  refine wpAny_assign_Name (store_ok2 inv hN hy hx (v := .ref D) rfl (fun s'' I'' hch => ?_) hf)
  obtain ⟨a, hsb, ha⟩ := hch
  have hCa : C ≠ a := by
    rcases ha with ha | ha
    · rintro rfl
      exact absurd (Nat.lt_of_lt_of_le I2.lt (by rw [← ha]; exact hC)) (Nat.lt_irrefl _)
    · rintro rfl
      obtain ⟨v, z⟩ := I2.cell y _ ha
      exact absurd (Nat.lt_of_lt_of_le z.lt hC) (Nat.lt_irrefl _)
  exact ⟨m, hn.sameBut hsb hCa, fun h' hs' => ⟨_, H', inv_let I2 I'' hfr hC hs', q⟩⟩
abbrev XN : XW := fun _ _ _ _ _ _ => False
def cbody (a : Nat) (t : Ev Bool) (e : Ev D) : Sv := fun ρ S => bindS (t ρ S) ρ fun b S1 => if b = true then bindS (e ρ S1) ρ fun d S2 => (match S2[a]? with
    | some c => if c.fz = false ∧ c.xs.length < 1000000 then .nx ρ (S2.set a ⟨false, c.xs ++ [d]⟩) else .bad
    | none => .bad) else .nx ρ S1
def cmp (f : Ev Src) (pk : List (Option Nat)) (g : Tg) (t : Ev Bool) (e : Ev D) : Ev D := fun ρ S => (f ρ S).bind fun src S1 => match forN src.nxt g (cbody S1.length t e) src.fuel 0 (pkS pk ρ) (S1 ++ [⟨false, []⟩]) with
  | .nx _ S' => .ok (.lst S1.length) S'
  | _ => .bad
def PostC (K : PySem.W.Frag) (XQ : XW) (σ : L2.St) (ρ : Lc) (a : Nat) (mp : List Addr) (H : Hp) (o : OS) (Q : VK) : Prop := match o with
  | .nx _ S => Post K XQ σ ρ mp H (.ok (.lst a) S) Q
  | _ => False
theorem PostC.aft {K : PySem.W.Frag} {XQ : XW} {σ : L2.St} {ρ : Lc} {a : Nat} {mp mp' : List Addr} {H H' : Hp} {o : OS} {Q : VK} (p : PostC K XQ σ ρ a mp H o Q) (af : Aft K mp H mp' H') : PostC K XQ σ ρ a mp' H' o Q := by
  cases o with
  | nx r S => exact PostG.aft (show Post K XQ σ ρ mp H (.ok (.lst a) S) Q from p) af
  | _ => exact p
theorem Gd.pick {K : PySem.W.Frag} {mp : List Addr} {H : Hp} {σ : L2.St} {ρ : Lc} {S : Sto} (G : Gd K mp H σ ρ S) (pk : List (Option Nat)) : Gd K mp H (pkS pk σ) (pkS pk ρ) S := by
  refine ⟨G.rs, by simp [pkS], fun i d h => ?_⟩
  unfold pkS at h ⊢
  rw [List.getElem?_map] at h ⊢
  cases e : pk[i]? with
  | none => rw [e] at h; cases h
  | some o =>
    rw [e] at h
    cases o with
    | none => cases h
    | some j =>
      have h : (ρ[j]?).bind id = some d := Option.some.inj h
      have h : ρ[j]? = some (some d) := by
        cases z : ρ[j]? with
        | none => rw [z] at h; cases h
        | some q =>
          rw [z] at h
          have h : q = some d := h
          rw [h]
      obtain ⟨v, e1, r⟩ := G.loc j d h
      refine ⟨v, ?_, r⟩
      show some ((σ[j]?).bind id) = some (some v)
      rw [e1]
      rfl
def JTs (Y : Cx) (XQ : XW) (ifs : List Expr) (t : Ev Bool) : Prop := PTs Y ifs (rdT Y.K XQ t)
def ttrue : Ev Bool := fun _ S => .ok true S
theorem jts_nil {Y : Cx} {XQ : XW} : JTs Y XQ [] ttrue := fun pins s σ H Q I ⟨mp, ρ, S, G, p⟩ => pts_nil pins s σ H Q I (PostG.ok (show PostG Y.K kB XQ σ ρ mp H (.ok true S) Q from p) G.rs rfl)
theorem jts_one {Y : Cx} {XQ : XW} {c : Expr} {t : Ev Bool} (h : JT Y XQ c t) : JTs Y XQ [c] t := pts_one h
theorem compP {K : PySem.W.Frag} {XQ : XW} {f : Ev Src} {pk : List (Option Nat)} {g : Tg} {t : Ev Bool} {e : Ev D} (σ : L2.St) (H : Hp) (Q : VK) (h : rdE K XQ (cmp f pk g t e) σ H Q) : tComp (rdI K XQ f) pk (rdG1 K g) (rdT K XN t) (rdE K XN e) σ H Q := by
  obtain ⟨mp, ρ, S, G, p⟩ := h
  refine bindP G p fun mp1 H1 src S1 J a1 G1 j1 p1 => ?_
  intro a ha
  obtain ⟨af, rs, la⟩ := G1.rs.newL ha (RepL.nil : RepL K mp1 H1 [] [])
  have p1 : PostC K XQ σ ρ S1.length (mp1 ++ [a]) (upd H1 a (.lst [])) (forN src.nxt g (cbody S1.length t e) src.fuel 0 (pkS pk ρ) (S1 ++ [⟨false, []⟩])) Q := by
    cases z : forN src.nxt g (cbody S1.length t e) src.fuel 0 (pkS pk ρ) (S1 ++ [⟨false, []⟩]) with
    | nx r S' => rw [z] at p1; exact PostG.aft p1 af
    | rt d S' => rw [z] at p1; exact p1
    | bk r S' => rw [z] at p1; exact p1
    | ct r S' => rw [z] at p1; exact p1
    | exc x r S' => rw [z] at p1; exact p1
    | bad => rw [z] at p1; exact p1
  refine ⟨fun i m σ' H' => ∃ mp' ρ' S', Aft K mp1 H1 mp' H' ∧ Gd K mp' H' σ' ρ' S' ∧ mp'[S1.length]? = some a ∧ PostC K XQ σ ρ S1.length mp' H' (forN src.nxt g (cbody S1.length t e) m i ρ' S') Q, ⟨src.fuel, _, _, _, af, (G1.pick pk).aft af rs, la, p1⟩, ?_⟩
  rintro i m σ' H' ⟨mp', ρ', S', a', G', la', p'⟩
  cases m with
  | zero => exact (show False from p').elim
  | succ n =>
    have j := j1 mp' H' S' a' G'.rs i
    unfold forN at p'
    cases z : src.nxt i S' with
    | none =>
      rw [z] at j p'
      exact .inl ⟨j, PostG.ok (show Post K XQ σ ρ mp' H' (.ok (.lst S1.length) S') Q from p') G'.rs ⟨a, rfl, la'⟩⟩
    | some d =>
      rw [z] at j p'
      obtain ⟨j1, j2⟩ := j
      refine .inr ⟨j1, fun x H2 y => ?_⟩
      obtain ⟨a2, r2, x2⟩ := j2 x H2 y
      have G2 := G'.aft a2 r2
      cases zg : g d ρ' with
      | none => simp only [zg] at p'; exact p'.elim
      | some ρ1 =>
        simp only [zg] at p'
        refine ⟨mp', ρ', S', d, ρ1, G2, x2, zg, fun σ3 G3 => ⟨mp', ρ1, S', G3, ?_⟩⟩
        have p2 := PostC.aft p' a2
        unfold cbody at p2
        cases zt : t ρ1 S' with
        | exc x S2 => simp only [zt, bindS] at p2; exact p2.elim
        | bad => simp only [zt, bindS] at p2; exact p2.elim
        | ok b S2 =>
          simp only [zt, bindS] at p2
          intro mp3 H3 b' a3 rs3 e3
          cases (show b' = b from e3)
          have G4 := G3.aft a3 rs3
          cases b with
          | false =>
            simp only [Bool.false_eq_true, if_false] at p2
            exact (if_neg Bool.false_ne_true).mpr ⟨n, Nat.lt_succ_self n, mp3, ρ1, S2, (a'.trans a2).trans a3, G4, a3.pre _ _ la', PostC.aft p2 a3⟩
          | true =>
            simp only [if_true] at p2
            refine (if_pos rfl).mpr ⟨mp3, ρ1, S2, G4, ?_⟩
            cases ze : e ρ1 S2 with
            | exc x S3 => simp only [ze] at p2; exact p2.elim
            | bad => simp only [ze] at p2; exact p2.elim
            | ok d2 S3 =>
              simp only [ze] at p2
              intro mp4 H4 v a4 rs4 r4
              have la4 := a4.pre _ _ (a3.pre _ _ la')
              have G5 := G4.aft a4 rs4
              cases zc : S3[S1.length]? with
              | none => simp only [zc] at p2; exact p2.elim
              | some c =>
                simp only [zc] at p2
                by_cases hc : c.fz = false ∧ c.xs.length < 1000000
                · rw [if_pos hc] at p2
                  obtain ⟨a5, xs, e5, h5, s5, r5, f5⟩ := rs4.items (v := .ref a) ⟨a, rfl, la4⟩ zc
                  cases e5
                  have h5 := f5 hc.1
                  obtain ⟨af6, rs6⟩ := rs4.setL la4 zc hc.1 h5 (RepL.append r5 (RepL.cons r4 RepL.nil))
                  refine ⟨xs, h5, ?_, n, Nat.lt_succ_self n, mp4, ρ1, _, (((a'.trans a2).trans a3).trans a4).trans af6, G5.aft af6 rs6, la4, PostC.aft p2 ((a3.trans a4).trans af6)⟩
                  rw [r5.len]
                  exact Nat.lt_of_lt_of_le hc.2 (by decide)
                · rw [if_neg hc] at p2; exact p2.elim
variable {XQ : XW}
theorem je_comp {elt tg iter : Expr} {ifs : List Expr} {scope : Scope} {pos : Pos} {N' : List Str} {pk : List (Option Nat)} {f : Ev Src} {g : Tg} {t : Ev Bool} {e : Ev D} (ct : CompTab X.env.scope scope X.N N' pk) (hcm : X.calm = true) (hi : JI X XQ tg iter f)
    (hg : ∀ cl s2 H2 C fp, JG (blk X s2 H2 C scope cl N' fp) tg g) (ht : ∀ cl s2 H2 C fp, JTs (blk X s2 H2 C scope cl N' fp) XN ifs t) (he : ∀ cl s2 H2 C fp, JE (blk X s2 H2 C scope cl N' fp) XN elt e)
    (hs : ∀ x, foldedSetIterable iter X.env x = pure x := by intro _; rfl) : JE X XQ (.ListComp elt [⟨tg, iter, ifs, 0⟩] scope pos) (cmp f pk g t e) :=
  PE.mono (pe_comp (g := rdG1 X.K g) (tt := rdT X.K XN t) (te := rdE X.K XN e) ct hcm hi hg ht he hs) compP
theorem js_setComp (i : Nat) {y : Str} {py spos : Pos} {elt tg iter : Expr} {ifs : List Expr} {scope : Scope} {pos : Pos} {N' : List Str} {pk : List (Option Nat)} {f : Ev Src} {g : Tg} {t : Ev Bool} {e : Ev D} (ct : CompTab X.env.scope scope X.N N' pk) (hcm : X.calm = true) (hi : JI X XQ tg iter f)
    (hg : ∀ cl s2 H2 C fp, JG (blk X s2 H2 C scope cl N' fp) tg g) (ht : ∀ cl s2 H2 C fp, JTs (blk X s2 H2 C scope cl N' fp) XN ifs t) (he : ∀ cl s2 H2 C fp, JE (blk X s2 H2 C scope cl N' fp) XN elt e)
    (hN : X.N.Nodup) (hy : X.N[i]? = some y := by rfl) (hx : Loc X.env.scope y := by first | exact Or.inl rfl | exact Or.inr rfl) (hsw : swapsWith (.ListComp elt [⟨tg, iter, ifs, 0⟩] scope pos) (some (.Name y py)) spos.line X.env = pure true := by rfl)
    (hs : ∀ x, foldedSetIterable iter X.env x = pure x := by intro _; rfl) (hf : X.fn y = true ∨ X.env.scope.names.lookup y = some .local := by first | exact .inl rfl | exact .inr rfl | assumption) :
    JS X XQ (.Assign [.Name y py] (.ListComp elt [⟨tg, iter, ifs, 0⟩] scope pos) spos) (sa (cmp f pk g t e) (gn i)) := by
  refine PS.mono (ps_setComp (g := rdG1 X.K g) (tt := rdT X.K XN t) (te := rdE X.K XN e) ct hcm hi hg ht he hN hy hx hsw hs hf) fun E σ H ⟨mp, ρ, S, G, p⟩ => compP σ H _ ?_
  exact bindSP G p fun mp1 H1 d S1 v a1 G1 r1 p1 => PostS.nx p1 (G1.set i r1)
end
end DL
set_option Elab.async false
set_option linter.all false
set_option maxRecDepth 100000
namespace DL
open PySem PySem.Spec PyProof.Rows L2
theorem tm_nofill : fillsNumberSlot (.type "tuple") "mul" = pure false :=
  PySem.fillsNumberSlot_seq (id := "tuple.__mul__") (r := some (.builtin "tuple.__rmul__")) F.slot_tuple_mul.lookup (by decide +kernel) F.slot_tuple_rmul.lookup (by decide +kernel)
theorem tm_repeats : seqRepeat? (.type "tuple") = pure (some (.builtin "tuple.__mul__")) := by
  unfold seqRepeat?
  rw [PySem.seqSlot_of (T := "tuple") (name := "__mul__") (id := "tuple.__mul__") F.slot_tuple_mul.lookup (by decide +kernel), PySem.seqSlot_of (T := "tuple") (name := "__rmul__") (id := "tuple.__rmul__") F.slot_tuple_rmul.lookup (by decide +kernel)]
  rfl
theorem tm_int (x : Int) (t : Tok) (l : Addr) (xs : Array Value) (n : Nat) (d : Option Addr) (sl : Array (Option Value)) :
    Meets (Builtin.«int.__rmul__» ⟨[.int x t, .ref l], []⟩) (fun _ R s => s.heap.get? l = some { cls := .type "tuple", dict := d, data := .seq xs n, slots := sl } ∧ R (.ok (.ret Value.notImplemented)) s) :=
  .of_wp fun prog w A R s h => by obtain ⟨hp, g, d, tk, os⟩ := s; obtain ⟨hl, h⟩ := h; wp_walk; exact ⟨_, rfl, h⟩
theorem tm_tup (x : Int) (t : Tok) (l : Addr) (xs : Array Value) (n : Nat) (d : Option Addr) (sl : Array (Option Value)) (c0 : ¬ (decide (x < -2 ^ 63) || decide (x ≥ 2 ^ 63)) = true) (c1 : ¬ (xs.isEmpty || x == 1) = true) (c2 : ¬ (decide (x ≤ 0) || xs.isEmpty) = true) (c3 : ¬ (xs.size : Int) * x > (2 ^ 63 - 1) / 8) (c4 : ¬ Builtin.Tuple.tupleTooMany ((xs.size : Int) * x) = true) (c5 : (List.foldl (fun x1 x2 => x1 ++ x2) #[] (List.replicate x.toNat xs)).size ≤ sizeLine) :
    Meets (Builtin.«tuple.__mul__» ⟨[.ref l, .int x t], []⟩) (fun _ R s => s.heap.get? l = some { cls := .type "tuple", dict := d, data := .seq xs n, slots := sl } ∧ R (.ok (.ret (Value.ref s.heap.objs.size))) { s with heap := s.heap.push { cls := Value.type "tuple", data := Data.seq (List.foldl (fun x1 x2 => x1 ++ x2) #[] (List.replicate x.toNat xs)) }, toks := s.toks }) :=
  .of_wp fun prog w A R s h => by
    obtain ⟨hp, g, d, tk, os⟩ := s; obtain ⟨hl, h⟩ := h
    wp_walk
    refine wpAny_ite_false (decide_eq_false c0) ?_
    wp_walk using wpAny_loadPart' hl
    refine wpAny_ite_false (decide_eq_false c3) ?_
    wp_walk
    exact ⟨_, rfl, h⟩
section
variable {X : Cx}
def rRepT (K : PySem.W.Frag) : R2 := fun x y H Q => ∃ a k xs, x = .ref a ∧ y = .int k ∧ SqT K H a xs ∧ xs ≠ [] ∧ 2 ≤ k ∧ k ≤ 1000000 ∧ xs.length * k.toNat ≤ sizeLine ∧ ∀ p, H p = none → Q (.ref p) (upd H p (.tup (List.replicate k.toNat xs).flatten))
theorem op_repT : OpR X (binaryOp .Mult) (rRepT X.K) := by
  intro pins s σ H x y v u Q I rx ry ⟨a, k, xs, e1, e2, ha, hne, k2, k3, hz, q⟩
  subst e1 e2
  cases rx
  obtain ⟨t, rfl⟩ := ry
  obtain ⟨its, r1, p1, _⟩ := I.tuple ha
  obtain ⟨⟨cls, dd, data, sl⟩, ho, hc, n, hd⟩ := id p1
  simp only at hc hd
  subst hc hd
  have hl : xs.length = its.length := r1.length
  have hne' : its ≠ [] := fun z => hne (r1.nil_iff.mp z)
  have hie : its.toArray.isEmpty = false := by
    cases its with
    | nil => exact absurd rfl hne'
    | cons _ _ => rfl
  have hnew : List.foldl (fun x1 x2 => x1 ++ x2) #[] (List.replicate k.toNat its.toArray) = (List.replicate k.toNat its).flatten.toArray := by
    have := foldl_rep its k.toNat []
    rw [List.nil_append] at this
    exact this
  have hsz : (its.toArray.size : Int) * k ≤ (sizeLine : Int) := by
    rw [List.size_toArray, ← hl]
    have h1 : ((xs.length * k.toNat : Nat) : Int) ≤ (sizeLine : Int) := by exact_mod_cast hz
    rw [Int.natCast_mul, Int.toNat_of_nonneg (by omega)] at h1
    exact h1
  have hsl : (sizeLine : Int) ≤ (2 ^ 63 - 1) / 8 := by decide
  refine wpAny_binaryOp_repeat_ref (T := "tuple") (U := "int") (by decide) ⟨_, ho, rfl⟩ (fun s' => typeIs_int s' k t) tm_nofill F.fills_int_mul F.slot_int_rmul tm_repeats F.slot_int_index.lookup
    (call_meets F.slot_int_rmul (typeIs_int s k t) F.entry_int_rmul (F.args_int_rmul_2 _ _) (tm_int k t a its.toArray n dd sl)
      ⟨ho, rfl, ⟨_, ho, rfl⟩, call_meets F.slot_tuple_mul ⟨_, ho, rfl⟩ F.entry_tuple_mul (F.args_tuple_mul_2 _ _) (tm_tup k t a its.toArray n dd sl ?c0 ?c1 ?c2 ?c3 ?c4 ?c5) ⟨ho, ?_⟩⟩)
  case c0 => simp; omega
  case c1 => rw [hie]; simp; omega
  case c2 => rw [hie]; simp; omega
  case c3 => omega
  case c4 => unfold Builtin.Tuple.tupleTooMany; simp; omega
  case c5 => rw [hnew, List.size_toArray, len_rep, ← hl, Nat.mul_comm]; exact hz
  rw [hnew]
  refine ⟨.ref s.heap.objs.size, _, I.laid (t' := s.toks) (o := .tup (List.replicate k.toNat xs).flatten) (fun b ob q => Heap.get?_push_of_some _ q) (Nat.le_refl _) ?_, rfl, q _ (I.hok.fresh (Nat.le_refl _))⟩
  exact ⟨by rw [len_rep, Nat.mul_comm]; exact hz, _, r1.rep k.toNat, IsTup.new _ _⟩
end
end DL
set_option Elab.async false
set_option linter.all false
set_option maxRecDepth 100000
namespace DL
open PySem PySem.Spec PyProof.Rows L2
def mapO {α β : Type} (f : α → Option β) : List α → Option (List β)
  | [] => some []
  | x :: l => match f x, mapO f l with
    | some y, some ys => some (y :: ys)
    | _, _ => none
def toP (S : Sto) : Nat → D → Option PyData
  | 0, _ => none
  | n + 1, d => match d with
    | .non => some .none
    | .bl b => some (.bool b)
    | .int i => some (.int i)
    | .str x => some (.str x)
    | .tup l => (mapO (toP S n) l).map .tuple
    | .lst i => match S[i]? with
      | some c => (mapO (toP S n) c.xs).map .list
      | none => none
section
variable {X : Cx} {pins : List (Addr × Obj)} {σ : L2.St} {H : Hp} {s : Shared} {mp : List Addr} {S : Sto}
theorem readsPs {f : D → Option PyData} {K : PySem.W.Frag} (hf : ∀ (d : D) (v : V) (u : Value) (p : PyData), Rep K mp H d v → RelV v u → f d = some p → ∃ as, Reads s.heap u p as) : ∀ (l : List D) (vs : List V) (us : List Value) (ps : List PyData), RepL K mp H l vs → Vals vs us → mapO f l = some ps → ∃ as, ReadsAll s.heap us ps as
  | [], vs, us, ps, h, r, e => by
    cases (show vs = [] from h); cases r
    cases (Option.some.inj e)
    exact ⟨_, .nil⟩
  | d :: l, vs, us, ps, h, r, e => by
    obtain ⟨v, vr, rfl, h1, h2⟩ := (show ∃ v r, vs = v :: r ∧ Rep K mp H d v ∧ RepL K mp H l r from h)
    cases r with
    | cons r1 r2 =>
      cases z1 : f d with
      | none => simp only [mapO, z1] at e; cases e
      | some p =>
        cases z2 : mapO f l with
        | none => simp only [mapO, z1, z2] at e; cases e
        | some qs =>
          simp only [mapO, z1, z2] at e
          cases (Option.some.inj e)
          obtain ⟨as, ra⟩ := hf d v _ p h1 r1 z1
          obtain ⟨bs, rb⟩ := readsPs hf l vr _ qs h2 r2 z2
          exact ⟨_, .cons ra rb⟩
theorem readsP (I : Inv X pins σ H s) (rs : RS X.K mp H S) : ∀ (n : Nat) (d : D) (v : V) (u : Value) (p : PyData), Rep X.K mp H d v → RelV v u → toP S n d = some p → ∃ as, Reads s.heap u p as := by
  intro n
  induction n with
  | zero => intro d v u p h r e; cases e
  | succ n ih =>
    intro d v u p h r e
    cases d with
    | non =>
      cases (show v = .non from h); cases (show u = Value.none from r)
      cases (Option.some.inj e)
      exact ⟨_, .none⟩
    | bl b =>
      cases (show v = .bl b from h); cases (show u = Value.bool b from r)
      cases (Option.some.inj e)
      exact ⟨_, .bool b⟩
    | int i =>
      cases (show v = .int i from h); obtain ⟨t, rfl⟩ := (show ∃ t, u = Value.int i t from r)
      cases (Option.some.inj e)
      exact ⟨_, .int i t⟩
    | str x =>
      cases (show v = .str x from h); obtain ⟨t, rfl⟩ := (show ∃ t, u = Value.str x t from r)
      cases (Option.some.inj e)
      exact ⟨_, .str x t⟩
    | tup l =>
      obtain ⟨a, xs, rfl, sq, q⟩ := Rep.tup h
      cases (show u = Value.ref a from r)
      obtain ⟨its, rv, ⟨o, ho, hc, k, hd⟩, _⟩ := I.tuple sq
      have e : (mapO (toP S n) l).map PyData.tuple = some p := e
      cases z : mapO (toP S n) l with
      | none => rw [z] at e; cases e
      | some ps =>
        rw [z] at e
        cases (Option.some.inj e)
        obtain ⟨as, ra⟩ := readsPs ih l xs its ps q rv z
        exact ⟨as, .tuple ho hc hd (by simpa using ra)⟩
    | lst i =>
      have e : (match S[i]? with | some c => (mapO (toP S n) c.xs).map PyData.list | none => none) = some p := e
      cases zc : S[i]? with
      | none => rw [zc] at e; cases e
      | some c =>
        rw [zc] at e
        obtain ⟨a, xs, rfl, _, sq, q, _⟩ := rs.items h zc
        cases (show u = Value.ref a from r)
        obtain ⟨its, rv, ⟨o, k, ho, hc, _, hd⟩, _⟩ := I.list sq
        have e : (mapO (toP S n) c.xs).map PyData.list = some p := e
        cases z : mapO (toP S n) c.xs with
        | none => rw [z] at e; cases e
        | some ps =>
          rw [z] at e
          cases (Option.some.inj e)
          obtain ⟨as, ra⟩ := readsPs ih c.xs xs its ps q rv z
          exact ⟨_, .list ho hc hd (by simpa using ra)⟩
end
def eqD (x y : D) (S : Sto) : Out D := match toP S 40 x, toP S 40 y with
  | some p, some q => if (SeqAt.shaped p && SeqAt.shaped q) = true then .ok (.bl (PyData.eqv p q)) S else .bad
  | _, _ => .bad
def neD (x y : D) (S : Sto) : Out D := match toP S 40 x, toP S 40 y with
  | some p, some q => if (SeqAt.shaped p && SeqAt.shaped q) = true then .ok (.bl (!PyData.eqv p q)) S else .bad
  | _, _ => .bad
section
variable {X : Cx} {XQ : XW}
def OpX (X : Cx) (f : Value → Value → Sem Value) (o : D → D → Sto → Out D) : Prop :=
  ∀ (pins : List (Addr × Obj)) (s : Shared) (σ : L2.St) (ρ : Lc) (XQ : XW) (mp : List Addr) (H : Hp) (S : Sto) (x y : D) (v u : V) (vv uv : Value) (Q : VK), Inv X pins σ H s → RS X.K mp H S → Rep X.K mp H x v → Rep X.K mp H y u → RelV v vv → RelV u uv → Post X.K XQ σ ρ mp H (o x y S) Q →
    (∀ (e : XD) (S' : Sto), o x y S ≠ .exc e S') → wpAny (model X.prog X.w) X.A (f vv uv) (EP X pins σ Q) X.xe s
theorem pe_opX {a b : Expr} {op : CmpOp} {fa fb : Ev D} {o : D → D → Sto → Out D} {pos : Pos} (ho : OpX X (compareOp op) o) (hno : ∀ x y S e S', o x y S ≠ .exc e S') (ha : JE X XQ a fa) (hb : JE X XQ b fb) (hm : behindInMarks op b = false) : JE X XQ (.Compare a [op] [b] pos) (o2 o fa fb) := by
  intro pins s σ H Q I ⟨mp, ρ, S, G, p⟩
  refine wpAny_Compare1 (thn (ha pins s σ H _ I (bindP G p fun mp1 H1 x S1 v a1 G1 r1 p1 => (⟨mp1, ρ, S1, x, G1, r1, p1⟩ : ∃ mp1 ρ S1 x, Gd X.K mp1 H1 σ ρ S1 ∧ Rep X.K mp1 H1 x v ∧ Post X.K XQ σ ρ mp1 H1 ((fb ρ S1).bind fun y S2 => o x y S2) Q))) fun vv s1 ⟨v, H1, I1, rv, mp1, ρ1, S1, x, G1, r1, p1⟩ => ?_) hm
  refine thn (hb pins s1 σ H1 _ I1 (bindP G1 p1 fun mp2 H2 y S2 u a2 G2 r2 p2 => (⟨mp2, ρ1, S2, x, y, v, G2, Rep.aft a2 _ _ r1, r2, rfl, p2⟩ : ∃ mp2 ρ S2 x y v', Gd X.K mp2 H2 σ ρ S2 ∧ Rep X.K mp2 H2 x v' ∧ Rep X.K mp2 H2 y u ∧ v' = v ∧ Post X.K XQ σ ρ mp2 H2 (o x y S2) Q))) fun uv s2 ⟨u, H2, I2, ru, mp2, ρ2, S2, x2, y, v', G2, rx, ry, ev, p2⟩ => ?_
  subst ev
  exact ho pins s2 σ ρ2 XQ mp2 H2 S2 x2 y _ u vv uv Q I2 G2.rs rx ry rv ru p2 (hno _ _ _)
theorem pt_opX {a b : Expr} {op : CmpOp} {fa fb : Ev D} {o : D → D → Sto → Out D} {pos : Pos} (ho : OpX X (compareOp op) o) (hno : ∀ x y S e S', o x y S ≠ .exc e S') (ha : JE X XQ a fa) (hb : JE X XQ b fb) (hm : behindInMarks op b = false) : JT X XQ (.Compare a [op] [b] pos) (tb (o2 o fa fb)) := by
  intro pins s σ H Q I h
  obtain ⟨mp, ρ, S, G, p⟩ := tb_of h
  refine wpAny_isTrue_Compare1 (thn (ha pins s σ H _ I (bindP G p fun mp1 H1 x S1 v a1 G1 r1 p1 => (⟨mp1, ρ, S1, x, G1, r1, p1⟩ : ∃ mp1 ρ S1 x, Gd X.K mp1 H1 σ ρ S1 ∧ Rep X.K mp1 H1 x v ∧ Post X.K XQ σ ρ mp1 H1 ((fb ρ S1).bind fun y S2 => o x y S2) (fun x H1 => ∃ k, x = .bl k ∧ Q k H1)))) fun vv s1 ⟨v, H1, I1, rv, mp1, ρ1, S1, x, G1, r1, p1⟩ => ?_) hm
  refine thn (hb pins s1 σ H1 _ I1 (bindP G1 p1 fun mp2 H2 y S2 u a2 G2 r2 p2 => (⟨mp2, ρ1, S2, x, y, v, G2, Rep.aft a2 _ _ r1, r2, rfl, p2⟩ : ∃ mp2 ρ S2 x y v', Gd X.K mp2 H2 σ ρ S2 ∧ Rep X.K mp2 H2 x v' ∧ Rep X.K mp2 H2 y u ∧ v' = v ∧ Post X.K XQ σ ρ mp2 H2 (o x y S2) (fun x H1 => ∃ k, x = .bl k ∧ Q k H1)))) fun uv s2 ⟨u, H2, I2, ru, mp2, ρ2, S2, x2, y, v', G2, rx, ry, ev, p2⟩ => ?_
  subst ev
  refine thn (ho pins s2 σ ρ2 XQ mp2 H2 S2 x2 y _ u vv uv _ I2 G2.rs rx ry rv ru p2 (hno _ _ _)) fun c s3 ⟨z, H3, I3, r3, k, e, q3⟩ => ?_
  subst e
  cases r3
  exact wpAny_truthy_bool ⟨H3, I3, q3⟩
theorem eq_ok (hu : X.A.units + 64 < cLine) : OpX X (compareOp .Eq) eqD := by
  intro pins s σ ρ XQ mp H S x y v u vv uv Q I rs rx ry rv ru p _
  unfold eqD at p
  cases z1 : toP S 40 x with
  | none => simp only [z1] at p; exact p.elim
  | some a =>
    cases z2 : toP S 40 y with
    | none => simp only [z1, z2] at p; exact p.elim
    | some b =>
      simp only [z1, z2] at p
      by_cases hs : (SeqAt.shaped a && SeqAt.shaped b) = true
      · rw [if_pos hs] at p
        obtain ⟨as, ra⟩ := readsP I rs 40 x v vv a rx rv z1
        obtain ⟨bs, rb⟩ := readsP I rs 40 y u uv b ry ru z2
        rw [Bool.and_eq_true] at hs
        exact SeqAt.compareEq_shaped ra rb hs.1 hs.2 hu ⟨.bl _, H, I, rfl, PostG.ok (R := Rep X.K) p rs rfl⟩
      · rw [if_neg hs] at p; exact p.elim
theorem ne_ok (hu : X.A.units + 64 < cLine) : OpX X (compareOp .NotEq) neD := by
  intro pins s σ ρ XQ mp H S x y v u vv uv Q I rs rx ry rv ru p _
  unfold neD at p
  cases z1 : toP S 40 x with
  | none => simp only [z1] at p; exact p.elim
  | some a =>
    cases z2 : toP S 40 y with
    | none => simp only [z1, z2] at p; exact p.elim
    | some b =>
      simp only [z1, z2] at p
      by_cases hs : (SeqAt.shaped a && SeqAt.shaped b) = true
      · rw [if_pos hs] at p
        obtain ⟨as, ra⟩ := readsP I rs 40 x v vv a rx rv z1
        obtain ⟨bs, rb⟩ := readsP I rs 40 y u uv b ry ru z2
        rw [Bool.and_eq_true] at hs
        exact SeqAt.compareNe_shaped ra rb hs.1 hs.2 hu ⟨.bl _, H, I, rfl, PostG.ok (R := Rep X.K) p rs rfl⟩
      · rw [if_neg hs] at p; exact p.elim
theorem eq_no (x y : D) (S : Sto) (e : XD) (S' : Sto) : eqD x y S ≠ .exc e S' := by
  unfold eqD
  split
  · split <;> exact fun z => nomatch z
  · exact fun z => nomatch z
theorem ne_no (x y : D) (S : Sto) (e : XD) (S' : Sto) : neD x y S ≠ .exc e S' := by
  unfold neD
  split
  · split <;> exact fun z => nomatch z
  · exact fun z => nomatch z
theorem je_eq {a b : Expr} {fa fb : Ev D} {pos : Pos} (hu : X.A.units + 64 < cLine) (ha : JE X XQ a fa) (hb : JE X XQ b fb) : JE X XQ (.Compare a [.Eq] [b] pos) (o2 eqD fa fb) := pe_opX (eq_ok hu) eq_no ha hb (nomark _)
theorem jt_eq {a b : Expr} {fa fb : Ev D} {pos : Pos} (hu : X.A.units + 64 < cLine) (ha : JE X XQ a fa) (hb : JE X XQ b fb) : JT X XQ (.Compare a [.Eq] [b] pos) (tb (o2 eqD fa fb)) := pt_opX (eq_ok hu) eq_no ha hb (nomark _)
theorem je_ne {a b : Expr} {fa fb : Ev D} {pos : Pos} (hu : X.A.units + 64 < cLine) (ha : JE X XQ a fa) (hb : JE X XQ b fb) : JE X XQ (.Compare a [.NotEq] [b] pos) (o2 neD fa fb) := pe_opX (ne_ok hu) ne_no ha hb (nomark _)
theorem jt_ne {a b : Expr} {fa fb : Ev D} {pos : Pos} (hu : X.A.units + 64 < cLine) (ha : JE X XQ a fa) (hb : JE X XQ b fb) : JT X XQ (.Compare a [.NotEq] [b] pos) (tb (o2 neD fa fb)) := pt_opX (ne_ok hu) ne_no ha hb (nomark _)
def i2 (C : Int → Int → Bool) (g : Int → Int → D) : D → D → Sto → Out D := fun x y S => match x, y with
  | .int i, .int j => if C i j = true then .ok (g i j) S else .bad
  | _, _ => .bad
theorem od_int {K : PySem.W.Frag} {C : Int → Int → Prop} {c : Int → Int → Bool} {g : Int → Int → V} {gd : Int → Int → D} (hc : ∀ i j, c i j = true → C i j) (hg : ∀ mp H i j, Rep K mp H (gd i j) (g i j)) : OpD K (rI C g) (i2 c gd) := by
  intro XQ σ ρ mp H S x y v u Q rs rx ry p
  cases x with
  | int i =>
    cases y with
    | int j =>
      have p : Post K XQ σ ρ mp H (if c i j = true then .ok (gd i j) S else .bad) Q := p
      by_cases h : c i j = true
      · rw [if_pos h] at p
        exact ⟨i, j, rx, ry, hc i j h, PostG.ok (R := Rep K) p rs (hg mp H i j)⟩
      · rw [if_neg h] at p; exact p.elim
    | _ => exact (show False from p).elim
  | _ => exact (show False from p).elim
theorem od_int0 {K : PySem.W.Frag} {g : Int → Int → V} {gd : Int → Int → D} (hg : ∀ mp H i j, Rep K mp H (gd i j) (g i j)) : OpD K (rI0 g) (i2 (fun _ _ => true) gd) := by
  intro XQ σ ρ mp H S x y v u Q rs rx ry p
  obtain ⟨i, j, h1, h2, _, h3⟩ := od_int (C := fun _ _ => True) (c := fun _ _ => true) (fun _ _ _ => trivial) hg XQ σ ρ mp H S x y v u Q rs rx ry p
  exact ⟨i, j, h1, h2, h3⟩
abbrev subD := i2 (fun _ _ => true) fun i j => .int (i - j)
abbrev modD := i2 (fun _ j => decide (0 < j)) fun i j => .int (i % j)
abbrev powD := i2 (fun i j => decide (0 ≤ j ∧ j ≤ 1000000 ∧ i.natAbs < 2 ^ 64)) fun i j => .int (i ^ j.toNat)
abbrev ltD := i2 (fun _ _ => true) fun i j => .bl (decide (i < j))
abbrev leD := i2 (fun _ _ => true) fun i j => .bl (decide (i ≤ j))
abbrev gtD := i2 (fun _ _ => true) fun i j => .bl (decide (j < i))
abbrev geD := i2 (fun _ _ => true) fun i j => .bl (decide (j ≤ i))
section
variable {a b : Expr} {fa fb : Ev D} {pos : Pos}
theorem je_sub (ha : JE X XQ a fa) (hb : JE X XQ b fb) : JE X XQ (.BinOp a .Sub b pos) (o2 subD fa fb) := je_op op_sub (od_int0 fun _ _ _ _ => rfl) ha hb
theorem je_mod (ha : JE X XQ a fa) (hb : JE X XQ b fb) : JE X XQ (.BinOp a .Mod b pos) (o2 modD fa fb) := je_op op_mod (od_int (fun _ _ h => of_decide_eq_true h) fun _ _ _ _ => rfl) ha hb
theorem je_pow (ha : JE X XQ a fa) (hb : JE X XQ b fb) : JE X XQ (.BinOp a .Pow b pos) (o2 powD fa fb) := je_op op_pow (od_int (fun i j h => (of_decide_eq_true h : 0 ≤ j ∧ j ≤ 1000000 ∧ i.natAbs < 2 ^ 64)) fun _ _ _ _ => rfl) ha hb
theorem je_lt (ha : JE X XQ a fa) (hb : JE X XQ b fb) : JE X XQ (.Compare a [.Lt] [b] pos) (o2 ltD fa fb) := je_cmp op_lt (od_int0 fun _ _ _ _ => rfl) ha hb (nomark _)
theorem jt_lt (ha : JE X XQ a fa) (hb : JE X XQ b fb) : JT X XQ (.Compare a [.Lt] [b] pos) (tb (o2 ltD fa fb)) := jt_cmp op_lt (od_int0 fun _ _ _ _ => rfl) ha hb (nomark _)
theorem jt_gt (ha : JE X XQ a fa) (hb : JE X XQ b fb) : JT X XQ (.Compare a [.Gt] [b] pos) (tb (o2 gtD fa fb)) := jt_cmp op_gt (od_int0 fun _ _ _ _ => rfl) ha hb (nomark _)
theorem jt_ge (ha : JE X XQ a fa) (hb : JE X XQ b fb) : JT X XQ (.Compare a [.GtE] [b] pos) (tb (o2 geD fa fb)) := jt_cmp op_ge (od_int0 fun _ _ _ _ => rfl) ha hb (nomark _)
end
def addD (x y : D) (S : Sto) : Out D := match x, y with
  | .int i, .int j => .ok (.int (i + j)) S
  | .str a, .str b => if a.length + b.length ≤ 1000000 then .ok (.str (a ++ b)) S else .bad
  | .lst i, .lst j => match S[i]?, S[j]? with
    | some c, some e => if (c.fz = false ∧ e.fz = false) ∧ c.xs.length + e.xs.length ≤ 1000000 then .ok (.lst S.length) (S ++ [⟨false, c.xs ++ e.xs⟩]) else .bad
    | _, _ => .bad
  | .tup a, .tup b => if a.length + b.length ≤ 1000000 then .ok (.tup (a ++ b)) S else .bad
  | _, _ => .bad
def rCatE (K : PySem.W.Frag) : R2 := fun x y H Q => ∃ a b ys, x = .ref a ∧ y = .ref b ∧ SqT K H a [] ∧ SqT K H b ys ∧ Q (.ref b) H
theorem op_catE : OpR X (binaryOp .Add) (rCatE X.K) := by
  intro pins s σ H x y v u Q I rx ry ⟨a, b, ys, e1, e2, ha, hb, q⟩
  subst e1 e2
  cases rx; cases ry
  obtain ⟨its, r1, p1, _⟩ := I.tuple ha
  obtain ⟨its2, r2, p2, _⟩ := I.tuple hb
  have ei := r1.nil_iff.mpr rfl
  subst ei
  obtain ⟨⟨cls, dd, data, sl⟩, ho, hc, n, hd⟩ := id p1
  obtain ⟨⟨cls2, dd2, data2, sl2⟩, ho2, hc2, n2, hd2⟩ := id p2
  simp only at hc hd hc2 hd2
  subst hc hd hc2 hd2
  exact concat_meets ⟨_, ho, rfl⟩ ⟨_, ho2, rfl⟩ noFill_tuple_add seq_tuple_add PySem.F.slot_tuple_add PySem.F.entry_tuple_add (PySem.F.args_tuple_add_2 _ _)
    (tuple_addW0 a b [].toArray its2.toArray n n2 dd dd2 sl sl2 (by rfl)) ⟨ho, ho2, ⟨.ref b, H, I, rfl, q⟩⟩
def rAddA (K : PySem.W.Frag) : R2 := fun x y H Q => rI0 (fun i j => .int (i + j)) x y H Q ∨ (∃ i j, x = .str i ∧ y = .str j ∧ i.length + j.length ≤ sizeLine ∧ Q (.str (i ++ j)) H) ∨ rCat x y H Q ∨ rCatT K x y H Q ∨ rCatE K x y H Q
theorem op_addA : OpR X (binaryOp .Add) (rAddA X.K) := op_add.or (op_add_str.or (op_cat.or (op_catT.or op_catE)))
theorem od_add {K : PySem.W.Frag} : OpD K (rAddA K) addD := by
  intro XQ σ ρ mp H S x y v u Q rs rx ry p
  unfold addD at p
  split at p
  · exact .inl ⟨_, _, rx, ry, PostG.ok (R := Rep K) p rs rfl⟩
  · rename_i a b
    by_cases h : a.length + b.length ≤ 1000000
    · rw [if_pos h] at p
      exact .inr (.inl ⟨_, _, rx, ry, line_le h, PostG.ok (R := Rep K) p rs rfl⟩)
    · rw [if_neg h] at p; exact p.elim
  · rename_i i j
    split at p
    · rename_i c e zc ze
      by_cases h : (c.fz = false ∧ e.fz = false) ∧ c.xs.length + e.xs.length ≤ 1000000
      · rw [if_pos h] at p
        obtain ⟨a1, xs, rfl, _, _, q1, f1⟩ := rs.items rx zc
        obtain ⟨a2, ys, rfl, _, _, q2, f2⟩ := rs.items ry ze
        refine .inr (.inr (.inl ⟨a1, a2, xs, ys, rfl, rfl, f1 h.1.1, f2 h.1.2, by rw [q1.len, q2.len]; exact line_le h.2, fun q hq => post_lst p rs (q1.append q2) hq⟩))
      · rw [if_neg h] at p; exact p.elim
    · exact p.elim
  · rename_i a b
    by_cases h : a.length + b.length ≤ 1000000
    · rw [if_pos h] at p
      obtain ⟨a1, xs, rfl, s1, q1⟩ := Rep.tup rx
      obtain ⟨a2, ys, rfl, s2, q2⟩ := Rep.tup ry
      have l1 := q1.len
      have l2 := q2.len
      by_cases he : xs = []
      · subst he
        have ea : a = [] := by cases a with | nil => rfl | cons _ _ => simp at l1
        subst ea
        exact .inr (.inr (.inr (.inr ⟨a1, a2, ys, rfl, rfl, s1, s2, PostG.ok (R := Rep K) p rs ry⟩)))
      · refine .inr (.inr (.inr (.inl ⟨a1, a2, xs, ys, rfl, rfl, s1, s2, he, by rw [l1, l2]; exact line_le h, fun z => ?_, fun _ q hq => post_tup p rs (q1.append q2) hq⟩)))
        subst z
        have eb : b = [] := by cases b with | nil => rfl | cons _ _ => simp at l2
        subst eb
        rw [List.append_nil] at p
        exact PostG.ok (R := Rep K) p rs rx
    · rw [if_neg h] at p; exact p.elim
  · exact p.elim
theorem je_add {a b : Expr} {fa fb : Ev D} {pos : Pos} (ha : JE X XQ a fa) (hb : JE X XQ b fb) : JE X XQ (.BinOp a .Add b pos) (o2 addD fa fb) := je_op op_addA od_add ha hb
def mulD (x y : D) (S : Sto) : Out D := match x, y with
  | .int i, .int j => if (-(2 ^ 64) < i ∧ i < 2 ^ 64) ∨ (-(2 ^ 64) < j ∧ j < 2 ^ 64) then .ok (.int (i * j)) S else .bad
  | .lst i, .int k => match S[i]? with
    | some c => if c.fz = false ∧ (-1000000 ≤ k ∧ k ≤ 1000000) ∧ c.xs.length * k.toNat ≤ 1000000 then .ok (.lst S.length) (S ++ [⟨false, (List.replicate k.toNat c.xs).flatten⟩]) else .bad
    | none => .bad
  | .tup l, .int k => if 0 < l.length ∧ (2 ≤ k ∧ k ≤ 1000000) ∧ l.length * k.toNat ≤ 1000000 then .ok (.tup (List.replicate k.toNat l).flatten) S else .bad
  | _, _ => .bad
def rMulA (K : PySem.W.Frag) : R2 := fun x y H Q => rI CMul (fun i j => .int (i * j)) x y H Q ∨ rRep x y H Q ∨ rRepT K x y H Q
theorem op_mulA : OpR X (binaryOp .Mult) (rMulA X.K) := op_mul.or (op_rep.or op_repT)
theorem RepL.flat {K : PySem.W.Frag} {mp : List Addr} {H : Hp} {l : List D} {vs : List V} (h : RepL K mp H l vs) : ∀ k : Nat, RepL K mp H (List.replicate k l).flatten (List.replicate k vs).flatten
  | 0 => RepL.nil
  | k + 1 => by
    rw [List.replicate_succ, List.replicate_succ, List.flatten_cons, List.flatten_cons]
    exact RepL.append h (RepL.flat h k)
theorem od_mul {K : PySem.W.Frag} : OpD K (rMulA K) mulD := by
  intro XQ σ ρ mp H S x y v u Q rs rx ry p
  unfold mulD at p
  split at p
  · rename_i i j
    by_cases h : (-(2 ^ 64) < i ∧ i < 2 ^ 64) ∨ (-(2 ^ 64) < j ∧ j < 2 ^ 64)
    · rw [if_pos h] at p
      exact .inl ⟨_, _, rx, ry, h, PostG.ok (R := Rep K) p rs rfl⟩
    · rw [if_neg h] at p; exact p.elim
  · rename_i i k
    split at p
    · rename_i c zc
      by_cases h : c.fz = false ∧ (-1000000 ≤ k ∧ k ≤ 1000000) ∧ c.xs.length * k.toNat ≤ 1000000
      · rw [if_pos h] at p
        obtain ⟨a1, xs, rfl, _, _, q1, f1⟩ := rs.items rx zc
        exact .inr (.inl ⟨a1, k, xs, rfl, ry, f1 h.1, by omega, by omega, by rw [q1.len]; exact line_le h.2.2, fun q hq => post_lst p rs (q1.flat _) hq⟩)
      · rw [if_neg h] at p; exact p.elim
    · exact p.elim
  · rename_i l k
    by_cases h : 0 < l.length ∧ (2 ≤ k ∧ k ≤ 1000000) ∧ l.length * k.toNat ≤ 1000000
    · rw [if_pos h] at p
      obtain ⟨a1, xs, rfl, s1, q1⟩ := Rep.tup rx
      have hl := q1.len
      exact .inr (.inr ⟨a1, k, xs, rfl, ry, s1, fun z => by rw [z] at hl; simp at hl; omega, h.2.1.1, h.2.1.2, by rw [q1.len]; exact line_le h.2.2, fun q hq => post_tup p rs (q1.flat _) hq⟩)
    · rw [if_neg h] at p; exact p.elim
  · exact p.elim
theorem je_mul {a b : Expr} {fa fb : Ev D} {pos : Pos} (ha : JE X XQ a fa) (hb : JE X XQ b fb) : JE X XQ (.BinOp a .Mult b pos) (o2 mulD fa fb) := je_op op_mulA od_mul ha hb
def negD (x : D) (S : Sto) : Out D := match x with
  | .int i => .ok (.int (-i)) S
  | _ => .bad
def getD (x y : D) (S : Sto) : Out D := match x, y with
  | .tup l, .int i => match atI l i with
    | some d => .ok d S
    | none => .bad
  | .lst k, .int i => match S[k]? with
    | some c => match atI c.xs i with
      | some d => .ok d S
      | none => .bad
    | none => .bad
  | .str z, .int i => if z.length ≤ 1000000 then (match atI z.cps.toList i with
    | some c => .ok (.str ⟨#[c]⟩) S
    | none => .bad) else .bad
  | _, _ => .bad
theorem RepL.atI {K : PySem.W.Frag} {mp : List Addr} {H : Hp} {l : List D} {vs : List V} {i : Int} {d : D} (h : RepL K mp H l vs) (e : L2.atI l i = some d) : ∃ v, L2.atI vs i = some v ∧ Rep K mp H d v := by
  unfold L2.atI at e ⊢
  rw [h.len]
  cases z : ixN l.length i with
  | none => rw [z] at e; cases e
  | some j =>
    rw [z] at e
    exact h.get e
theorem od_get {K : PySem.W.Frag} : OpD K (rIx K) getD := by
  intro XQ σ ρ mp H S x y v u Q rs rx ry p
  unfold getD at p
  split at p
  · rename_i l i
    split at p
    · rename_i d zd
      obtain ⟨a, xs, rfl, sq, q⟩ := Rep.tup rx
      obtain ⟨w, hw, rw'⟩ := q.atI zd
      exact .inr (.inl ⟨a, xs, i, w, rfl, ry, sq, hw, PostG.ok (R := Rep K) p rs rw'⟩)
    · exact p.elim
  · rename_i k i
    split at p
    · rename_i c zc
      split at p
      · rename_i d zd
        obtain ⟨a, xs, rfl, _, sq, q, _⟩ := rs.items rx zc
        obtain ⟨w, hw, rw'⟩ := q.atI zd
        exact .inl ⟨a, xs, i, w, rfl, ry, sq, hw, PostG.ok (R := Rep K) p rs rw'⟩
      · exact p.elim
    · exact p.elim
  · rename_i z i
    by_cases h : z.length ≤ 1000000
    · rw [if_pos h] at p
      split at p
      · rename_i c zc
        exact .inr (.inr ⟨z, i, c, rx, ry, line_le h, zc, PostG.ok (R := Rep K) p rs rfl⟩)
      · exact p.elim
    · rw [if_neg h] at p; exact p.elim
  · exact p.elim
theorem je_get {a b : Expr} {fa fb : Ev D} {pos : Pos} (ha : JE X XQ a fa) (hb : JE X XQ b fb) (hs : PlainIx b := by intro _ _; rfl) : JE X XQ (.Subscript a b pos) (o2 getD fa fb) := je_ix ix_seq od_get ha hb hs
def setD (x y z : D) (S : Sto) : Option Sto := match x, y with
  | .lst k, .int i => match S[k]? with
    | some c => match ixN c.xs.length i with
      | some j => if c.fz = false then some (S.set k ⟨false, c.xs.set j z⟩) else none
      | none => none
    | none => none
  | _, _ => none
theorem sd_set {K : PySem.W.Frag} : SetD rSetL K setD := by
  intro mp H S S' x y z v u w Q rs rx ry rz e k
  unfold setD at e
  split at e
  · rename_i kk i
    split at e
    · rename_i c zc
      split at e
      · rename_i j zj
        by_cases hf : c.fz = false
        · rw [if_pos hf] at e
          cases (Option.some.inj e)
          obtain ⟨a, xs, rfl, ha, sq, q, f⟩ := rs.items rx zc
          have hH := f hf
          obtain ⟨af, rs'⟩ := rs.setL ha zc hf hH (q.set j rz)
          exact ⟨a, xs, i, j, rfl, ry, hH, by rw [q.len]; exact zj, k _ af rs'⟩
        · rw [if_neg hf] at e; cases e
      · cases e
    · cases e
  · cases e
theorem js_setix {ob ix e : Expr} {f fo fi : Ev D} {pos p2 : Pos} (he : JE X XQ e f) (hob : JE X XQ ob fo) (hix : JE X XQ ix fi)
    (hs : swapsWithSole [.Subscript ob ix p2] e pos.line X.env = pure false := by rfl) (hw : swappedStores [.Subscript ob ix p2] e X.env = pure none := by rfl)
    (h1 : (assignEach [.Subscript ob ix p2] X.env).map (·.2) = [assign (.Subscript ob ix p2) X.env] := by rfl) (ha : ∀ v, assign (.Subscript ob ix p2) X.env v = (do
      let ov ← holding [v] (eval ob X.env)
      let iv ← holding [v, ov] (eval ix X.env)
      standAt p2
      holding [v, ov, iv] (setItem ov iv v)
      release [v, ov, iv] []) := by intro _; rfl) : JS X XQ (.Assign [.Subscript ob ix p2] e pos) (ss f fo fi setD) := js_sub set_list sd_set he hob hix hs hw h1 ha
end
end DL
set_option Elab.async false
set_option linter.all false
set_option maxRecDepth 100000
namespace DL
open PySem PySem.Spec PyProof.Rows L2
section
variable {X : Cx} {XQ : XW}
def BlD (K : PySem.W.Frag) (r : List V → Hp → VK → Prop) (o : List D → Sto → Out D) : Prop :=
  ∀ (XQ : XW) (σ : L2.St) (ρ : Lc) (mp : List Addr) (H : Hp) (S : Sto) (xs : List D) (vs : List V) (Q : VK), RS K mp H S → RepL K mp H xs vs → Post K XQ σ ρ mp H (o xs S) Q → r vs H Q
def b1 (o : List D → Sto → Out D) (f : Ev (List D)) : Ev D := fun ρ S => (f ρ S).bind o
theorem cbR {r : List V → Hp → VK → Prop} {o : List D → Sto → Out D} {f : Ev (List D)} (hd : BlD X.K r o) (σ : L2.St) (H : Hp) (Q : VK) (h : rdE X.K XQ (b1 o f) σ H Q) : tCB r (rdA X.K XQ f) σ H Q := by
  obtain ⟨mp, ρ, S, G, p⟩ := h
  exact bindP G p fun mp1 H1 xs S1 vs a1 G1 r1 p1 => hd XQ σ ρ mp1 H1 S1 xs vs Q G1.rs r1 p1
theorem je_blt {id : String} {x : Str} {p pos : Pos} {e : Expr} {es : List Expr} {r : List V → Hp → VK → Prop} {o : List D → Sto → Out D} {f : Ev (List D)} (hc : CallR X (.builtin id) r) (hd : BlD X.K r o) (hg : Gl X x) (hm : X.mg x = none) (hv : bootBuiltins x = some (.builtin id)) (ha : JA X XQ (e :: es) f) (hn : x ≠ "__name__" := by decide) (hdb : (x == ("__debug__" : Str)) = false := by decide)
    (he : starEach (e :: es) X.env = (false, eval e X.env) :: starEach es X.env := by rfl) (hpl : (backTo pos (starEach es X.env)).any (·.1) = false := by rfl) : JE X XQ (.Call (.Name x p) (e :: es) [] pos) (b1 o f) :=
  PE.mono (pe_callB hc hg hm hv ha hn hdb he hpl) (cbR hd)
theorem je_ty {T : String} {x : Str} {p pos : Pos} {e : Expr} {es : List Expr} {r : List V → Hp → VK → Prop} {o : List D → Sto → Out D} {f : Ev (List D)} (hc : CallR X (.type T) r) (hd : BlD X.K r o) (hg : Gl X x) (hm : X.mg x = none) (hv : bootBuiltins x = some (.type T)) (ha : JA X XQ (e :: es) f) (hn : x ≠ "__name__" := by decide) (hdb : (x == ("__debug__" : Str)) = false := by decide)
    (he : starEach (e :: es) X.env = (false, eval e X.env) :: starEach es X.env := by rfl) (hpl : (backTo pos (starEach es X.env)).any (·.1) = false := by rfl) : JE X XQ (.Call (.Name x p) (e :: es) [] pos) (b1 o f) :=
  PE.mono (pe_callTy hc hg hm hv ha hn hdb he hpl) (cbR hd)
def lenD (xs : List D) (S : Sto) : Out D := match xs with
  | [.str z] => if z.length ≤ 1000000 then .ok (.int z.length) S else .bad
  | [.tup l] => .ok (.int l.length) S
  | [.lst i] => match S[i]? with
    | some c => .ok (.int c.xs.length) S
    | none => .bad
  | _ => .bad
theorem bd_len {K : PySem.W.Frag} : BlD K (fun xs H Q => ∃ x n, xs = [x] ∧ LenV K x H n ∧ Q (.int n) H) lenD := by
  intro XQ σ ρ mp H S xs vs Q rs r p
  unfold lenD at p
  split at p
  · rename_i z
    obtain ⟨v, rfl, h⟩ := RepL.one r
    cases (show v = .str z from h)
    by_cases hz : z.length ≤ 1000000
    · rw [if_pos hz] at p
      exact ⟨_, _, rfl, ⟨line_le hz, rfl⟩, PostG.ok (R := Rep K) p rs rfl⟩
    · rw [if_neg hz] at p; exact p.elim
  · rename_i l
    obtain ⟨v, rfl, h⟩ := RepL.one r
    obtain ⟨a, xs, rfl, sq, q⟩ := Rep.tup h
    exact ⟨_, xs.length, rfl, .inr ⟨xs, sq, rfl⟩, PostG.ok (R := Rep K) p rs (by rw [q.len]; rfl)⟩
  · rename_i i
    obtain ⟨v, rfl, h⟩ := RepL.one r
    split at p
    · rename_i c zc
      obtain ⟨a, xs, rfl, _, sq, q, _⟩ := rs.items h zc
      exact ⟨_, xs.length, rfl, .inl ⟨xs, sq, rfl⟩, PostG.ok (R := Rep K) p rs (by rw [q.len]; rfl)⟩
    · exact p.elim
  · exact p.elim
theorem je_len {p pos : Pos} {e : Expr} {f : Ev (List D)} (hg : Gl X "len") (hm : X.mg "len" = none) (ha : JA X XQ [e] f) (he : starEach [e] X.env = (false, eval e X.env) :: starEach [] X.env := by rfl) : JE X XQ (.Call (.Name "len" p) [e] [] pos) (b1 lenD f) := je_blt call_len bd_len hg hm PySem.boot_len ha (he := he)
def listD (xs : List D) (S : Sto) : Out D := match xs with
  | [.tup l] => .ok (.lst S.length) (S ++ [⟨false, l⟩])
  | [.lst i] => match S[i]? with
    | some c => .ok (.lst S.length) (S ++ [⟨false, c.xs⟩])
    | none => .bad
  | _ => .bad
theorem bd_list {K : PySem.W.Frag} : BlD K (fun xs H Q => ∃ p ys, xs = [.ref p] ∧ (SqL K H p ys ∨ SqT K H p ys) ∧ ∀ l, H l = none → Q (.ref l) (upd H l (.lst ys))) listD := by
  intro XQ σ ρ mp H S xs vs Q rs r p
  unfold listD at p
  split at p
  · obtain ⟨v, rfl, h⟩ := RepL.one r
    obtain ⟨a, xs, rfl, sq, q⟩ := Rep.tup h
    exact ⟨a, xs, rfl, .inr sq, fun l hl => post_lst p rs q hl⟩
  · obtain ⟨v, rfl, h⟩ := RepL.one r
    split at p
    · rename_i c zc
      obtain ⟨a, xs, rfl, _, sq, q, _⟩ := rs.items h zc
      exact ⟨a, xs, rfl, .inl sq, fun l hl => post_lst p rs q hl⟩
    · exact p.elim
  · exact p.elim
def tupD (xs : List D) (S : Sto) : Out D := match xs with
  | [.tup l] => .ok (.tup l) S
  | [.lst i] => match S[i]? with
    | some c => .ok (.tup c.xs) S
    | none => .bad
  | _ => .bad
theorem bd_tuple {K : PySem.W.Frag} : BlD K (fun xs H Q => ∃ p ys, xs = [.ref p] ∧ ((SqL K H p ys ∧ ∀ l, H l = none → Q (.ref l) (upd H l (.tup ys))) ∨ (SqT K H p ys ∧ Q (.ref p) H))) tupD := by
  intro XQ σ ρ mp H S xs vs Q rs r p
  unfold tupD at p
  split at p
  · obtain ⟨v, rfl, h⟩ := RepL.one r
    obtain ⟨a, xs, rfl, sq, q⟩ := Rep.tup h
    exact ⟨a, xs, rfl, .inr ⟨sq, PostG.ok (R := Rep K) p rs h⟩⟩
  · obtain ⟨v, rfl, h⟩ := RepL.one r
    split at p
    · rename_i c zc
      obtain ⟨a, xs, rfl, _, sq, q, _⟩ := rs.items h zc
      exact ⟨a, xs, rfl, .inl ⟨sq, fun l hl => post_tup p rs q hl⟩⟩
    · exact p.elim
  · exact p.elim
theorem je_list {p pos : Pos} {e : Expr} {f : Ev (List D)} (hg : Gl X "list") (hm : X.mg "list" = none) (ha : JA X XQ [e] f) (he : starEach [e] X.env = (false, eval e X.env) :: starEach [] X.env := by rfl) : JE X XQ (.Call (.Name "list" p) [e] [] pos) (b1 listD f) := je_ty call_list_of bd_list hg hm (by rfl) ha (he := he)
theorem je_tuple {p pos : Pos} {e : Expr} {f : Ev (List D)} (hg : Gl X "tuple") (hm : X.mg "tuple" = none) (ha : JA X XQ [e] f) (he : starEach [e] X.env = (false, eval e X.env) :: starEach [] X.env := by rfl) : JE X XQ (.Call (.Name "tuple" p) [e] [] pos) (b1 tupD f) := je_ty call_tuple_of bd_tuple hg hm (by rfl) ha (he := he)
def minD (xs : List D) (S : Sto) : Out D := match xs with
  | [.int i, .int j] => .ok (.int (if j < i then j else i)) S
  | _ => .bad
theorem bd_min {K : PySem.W.Frag} : BlD K (fun xs H Q => ∃ i j, xs = [.int i, .int j] ∧ Q (.int (if j < i then j else i)) H) minD := by
  intro XQ σ ρ mp H S xs vs Q rs r p
  unfold minD at p
  split at p
  · rename_i i j
    obtain ⟨v, w, rfl, h1, h2⟩ := RepL.two r
    cases (show v = .int i from h1); cases (show w = .int j from h2)
    exact ⟨i, j, rfl, PostG.ok (R := Rep K) p rs rfl⟩
  · exact p.elim
theorem je_min {p pos : Pos} {e e' : Expr} {f : Ev (List D)} (hc : X.calm = true) (hg : Gl X "min") (hm : X.mg "min" = none) (ha : JA X XQ [e, e'] f) (he : starEach [e, e'] X.env = (false, eval e X.env) :: starEach [e'] X.env := by rfl) (hpl : (backTo pos (starEach [e'] X.env)).any (·.1) = false := by rfl) : JE X XQ (.Call (.Name "min" p) [e, e'] [] pos) (b1 minD f) := je_blt (call_min2 hc) bd_min hg hm (by rfl) ha (he := he) (hpl := hpl)
def isnD (x y : D) (S : Sto) : Out D := match x, y with
  | .non, .non => .ok (.bl true) S
  | .bl _, .non => .ok (.bl false) S
  | .int _, .non => .ok (.bl false) S
  | .str _, .non => .ok (.bl false) S
  | .tup _, .non => .ok (.bl false) S
  | .lst _, .non => .ok (.bl false) S
  | _, _ => .bad
def notnD (x y : D) (S : Sto) : Out D := match x, y with
  | .non, .non => .ok (.bl false) S
  | .bl _, .non => .ok (.bl true) S
  | .int _, .non => .ok (.bl true) S
  | .str _, .non => .ok (.bl true) S
  | .tup _, .non => .ok (.bl true) S
  | .lst _, .non => .ok (.bl true) S
  | _, _ => .bad
theorem od_isn {K : PySem.W.Frag} : OpD K (fun x y H Q => y = .non ∧ Q (.bl (decide (x = .non))) H) isnD := by
  intro XQ σ ρ mp H S x y v u Q rs rx ry p
  cases y with
  | non =>
    refine ⟨ry, ?_⟩
    cases x with
    | non => cases (show v = .non from rx); exact PostG.ok (R := Rep K) p rs (by rfl)
    | bl b => cases (show v = .bl b from rx); exact PostG.ok (R := Rep K) p rs (by rfl)
    | int b => cases (show v = .int b from rx); exact PostG.ok (R := Rep K) p rs (by rfl)
    | str b => cases (show v = .str b from rx); exact PostG.ok (R := Rep K) p rs (by rfl)
    | tup l => obtain ⟨a, xs, rfl, _⟩ := Rep.tup rx; exact PostG.ok (R := Rep K) p rs (by rfl)
    | lst i => obtain ⟨a, rfl, _⟩ := (show ∃ a, v = .ref a ∧ mp[i]? = some a from rx); exact PostG.ok (R := Rep K) p rs (by rfl)
  | _ => cases x <;> exact (show False from p).elim
theorem od_notn {K : PySem.W.Frag} : OpD K (fun x y H Q => y = .non ∧ Q (.bl (!decide (x = .non))) H) notnD := by
  intro XQ σ ρ mp H S x y v u Q rs rx ry p
  cases y with
  | non =>
    refine ⟨ry, ?_⟩
    cases x with
    | non => cases (show v = .non from rx); exact PostG.ok (R := Rep K) p rs (by rfl)
    | bl b => cases (show v = .bl b from rx); exact PostG.ok (R := Rep K) p rs (by rfl)
    | int b => cases (show v = .int b from rx); exact PostG.ok (R := Rep K) p rs (by rfl)
    | str b => cases (show v = .str b from rx); exact PostG.ok (R := Rep K) p rs (by rfl)
    | tup l => obtain ⟨a, xs, rfl, _⟩ := Rep.tup rx; exact PostG.ok (R := Rep K) p rs (by rfl)
    | lst i => obtain ⟨a, rfl, _⟩ := (show ∃ a, v = .ref a ∧ mp[i]? = some a from rx); exact PostG.ok (R := Rep K) p rs (by rfl)
  | _ => cases x <;> exact (show False from p).elim
section
variable {a b : Expr} {fa fb : Ev D} {pos : Pos}
theorem jt_isn (ha : JE X XQ a fa) (hb : JE X XQ b fb) : JT X XQ (.Compare a [.Is] [b] pos) (tb (o2 isnD fa fb)) := jt_cmp op_isN od_isn ha hb (nomark _)
theorem jt_notn (ha : JE X XQ a fa) (hb : JE X XQ b fb) : JT X XQ (.Compare a [.IsNot] [b] pos) (tb (o2 notnD fa fb)) := jt_cmp op_notN od_notn ha hb (nomark _)
end
def cutD (xs : List D) (lo hi : Option Int) : List D := (xs.drop (HT.sIx xs.length 0 lo)).take (HT.sIx xs.length xs.length hi - HT.sIx xs.length 0 lo)
theorem RepL.cut {K : PySem.W.Frag} {mp : List Addr} {H : Hp} {l : List D} {vs : List V} (h : RepL K mp H l vs) (lo hi : Option Int) : RepL K mp H (cutD l lo hi) (cutV vs lo hi) := by
  unfold cutD cutV
  rw [h.len]
  exact (h.drop _).take _
def slD (x : D) (lo hi : Option Int) (S : Sto) : Out D := match x with
  | .tup l => if HT.sIx l.length 0 lo = 0 ∧ HT.sIx l.length l.length hi = l.length then .bad else .ok (.tup (cutD l lo hi)) S
  | .lst i => match S[i]? with
    | some c => .ok (.lst S.length) (S ++ [⟨false, cutD c.xs lo hi⟩])
    | none => .bad
  | _ => .bad
def sl (fe : Ev D) (fl fh : Ev (Option Int)) : Ev D := fun ρ S => (fe ρ S).bind fun x S1 => (fl ρ S1).bind fun l S2 => (fh ρ S2).bind fun u S3 => slD x l u S3
def onone : Ev (Option Int) := fun _ S => .ok none S
def osome (f : Ev D) : Ev (Option Int) := fun ρ S => (f ρ S).bind fun x S1 => match x with
  | .int i => .ok (some i) S1
  | _ => .bad
theorem jo_none : JO X XQ none onone := PO.mono po_none fun σ H Q ⟨mp, ρ, S, G, p⟩ => PostG.ok (R := kO) (show PostG X.K kO XQ σ ρ mp H (.ok none S) Q from p) G.rs rfl
theorem jo_some {e : Expr} {f : Ev D} (h : JE X XQ e f) : JO X XQ (some e) (osome f) := PO.mono (po_some h) fun σ H Q ⟨mp, ρ, S, G, p⟩ => bindP G p fun mp1 H1 x S1 v a1 G1 r1 p1 => by
  cases x with
  | int i => exact ⟨i, r1, PostG.ok (R := kO) p1 G1.rs rfl⟩
  | _ => exact (show False from p1).elim
def MeD (K : PySem.W.Frag) (r : V → List V → Hp → VK → Prop) (o : D → List D → Sto → Out D) : Prop :=
  ∀ (XQ : XW) (σ : L2.St) (ρ : Lc) (mp : List Addr) (H : Hp) (S : Sto) (x : D) (xs : List D) (v : V) (vs : List V) (Q : VK), RS K mp H S → Rep K mp H x v → RepL K mp H xs vs → Post K XQ σ ρ mp H (o x xs S) Q → r v vs H Q
def isLst (x : D) (S : Sto) : Bool := match x with
  | .lst i => match S[i]? with
    | some _ => true
    | none => false
  | _ => false
def mt (o : D → List D → Sto → Out D) (fo : Ev D) (f : Ev (List D)) : Ev D := fun ρ S => (fo ρ S).bind fun x S1 => if isLst x S1 = true then (f ρ S1).bind fun xs S2 => o x xs S2 else .bad
theorem je_meth {id : String} {name : Str} {o e : Expr} {es : List Expr} {apos cpos : Pos} {r : V → List V → Hp → VK → Prop} {od : D → List D → Sto → Out D} {fo : Ev D} {f : Ev (List D)} (slot : Slot "list" name id) (hty : typeOf (.builtin id) = pure (.type "method_descriptor")) (hm : MtM X id r) (hd : MeD X.K r od) (ho : JE X XQ o fo) (ha : JA X XQ (e :: es) f)
    (hbase : attributeBase o name X.env (eval o X.env) = eval o X.env := by rfl)
    (hfew : ((backTo cpos (starEach (e :: es) X.env)).all (fun x => !x.1) && (backToKw cpos (keywordEach [] X.env)).all (fun x => x.1.isSome)
      && decide ((e :: es).length + ([] : List Keyword).length + (if ([] : List Keyword).isEmpty then 0 else 1) < 30)) = true := by rfl)
    (hline : (apos.endLine == cpos.line) = true := by rfl) (hs : starEach (e :: es) X.env = (false, eval e X.env) :: starEach es X.env := by rfl) (hplain : (backTo cpos (starEach es X.env)).any (·.1) = false := by rfl) :
    JE X XQ (.Call (.Attribute o name apos) (e :: es) [] cpos) (mt od fo f) := by
  refine PE.mono (pe_bm PySem.F.plainAttrs_list slot hty hm ho ha hbase hfew hline hs hplain) fun σ H Q ⟨mp, ρ, S, G, p⟩ => ?_
  refine bindP G p fun mp1 H1 x S1 v a1 G1 r1 p1 => ?_
  by_cases hl : isLst x S1 = true
  · rw [if_pos hl] at p1
    have ty : tyV X.K "list" v H1 := by
      cases x with
      | lst i =>
        cases zc : S1[i]? with
        | none => simp [isLst, zc] at hl
        | some c =>
          obtain ⟨a, xs, rfl, _, sq, _⟩ := G1.rs.items r1 zc
          exact .inl ⟨rfl, xs, sq⟩
      | _ => simp [isLst] at hl
    exact ⟨ty, bindP G1 p1 fun mp2 H2 xs S2 vs a2 G2 r2 p2 => hd XQ σ ρ mp2 H2 S2 x xs v vs Q G2.rs (Rep.aft a2 _ _ r1) r2 p2⟩
  · rw [if_neg hl] at p1; exact p1.elim
def appD (x : D) (xs : List D) (S : Sto) : Out D := match x, xs with
  | .lst i, [d] => match S[i]? with
    | some c => if c.fz = false ∧ c.xs.length < 1000000 then .ok .non (S.set i ⟨false, c.xs ++ [d]⟩) else .bad
    | none => .bad
  | _, _ => .bad
theorem md_app {K : PySem.W.Frag} : MeD K rAppend appD := by
  intro XQ σ ρ mp H S x xs v vs Q rs rx r p
  unfold appD at p
  split at p
  · rename_i i d
    split at p
    · rename_i c zc
      by_cases hc : c.fz = false ∧ c.xs.length < 1000000
      · rw [if_pos hc] at p
        obtain ⟨w, rfl, hw⟩ := RepL.one r
        obtain ⟨a, ys, rfl, ha, sq, q, f⟩ := rs.items rx zc
        have hH := f hc.1
        obtain ⟨af, rs'⟩ := rs.setL ha zc hc.1 hH (RepL.append q (RepL.cons hw RepL.nil))
        exact ⟨a, ys, w, rfl, rfl, hH, by rw [q.len]; exact Nat.lt_of_lt_of_le hc.2 (by decide), p mp _ _ af rs' rfl⟩
      · rw [if_neg hc] at p; exact p.elim
    · exact p.elim
  · exact p.elim
theorem je_append {o e : Expr} {apos cpos : Pos} {fo : Ev D} {f : Ev (List D)} (ho : JE X XQ o fo) (ha : JA X XQ [e] f) (hbase : attributeBase o "append" X.env (eval o X.env) = eval o X.env := by rfl)
    (hfew : ((backTo cpos (starEach [e] X.env)).all (fun x => !x.1) && (backToKw cpos (keywordEach [] X.env)).all (fun x => x.1.isSome)
      && decide ([e].length + ([] : List Keyword).length + (if ([] : List Keyword).isEmpty then 0 else 1) < 30)) = true := by rfl)
    (hline : (apos.endLine == cpos.line) = true := by rfl) (hs : starEach [e] X.env = (false, eval e X.env) :: starEach [] X.env := by rfl) :
    JE X XQ (.Call (.Attribute o "append" apos) [e] [] cpos) (mt appD fo f) := je_meth PySem.F.slot_list_append PySem.F.type_list_append mt_append md_app ho ha hbase hfew hline hs rfl
end
end DL
set_option Elab.async false
set_option linter.all false
set_option maxRecDepth 100000
namespace DL
open PySem PySem.Spec PyProof.Rows L2
section
variable {X : Cx} {XQ : XW}
theorem ud_neg {K : PySem.W.Frag} : UnD K (rU fun i => .int (-i)) negD := by
  intro XQ σ ρ mp H S x v Q rs rx p
  cases x with
  | int i => exact ⟨i, rx, PostG.ok (R := Rep K) (show Post K XQ σ ρ mp H (.ok (.int (-i)) S) Q from p) rs rfl⟩
  | _ => exact (show False from p).elim
theorem je_neg {a : Expr} {fa : Ev D} {pos : Pos} (ha : JE X XQ a fa) : JE X XQ (.UnaryOp .USub a pos) (o1 negD fa) := je_un un_neg ud_neg ha
def ch (o o' : D → D → Sto → Out D) (fa fb fc : Ev D) : Ev D := fun ρ S => (fa ρ S).bind fun x S1 => (fb ρ S1).bind fun y S2 => (o x y S2).bind fun z S3 => match z with
  | .bl k => if k = true then (fc ρ S3).bind fun w S4 => o' y w S4 else .ok (.bl false) S3
  | _ => .bad
theorem chainP {K : PySem.W.Frag} {r r' : R2} {o o' : D → D → Sto → Out D} {fa fb fc : Ev D} (hd : OpD K r o) (hd' : OpD K r' o') (σ : L2.St) (H : Hp) (Q : VK) (h : rdE K XQ (ch o o' fa fb fc) σ H Q) : tChain r r' (rdE K XQ fa) (rdE K XQ fb) (rdE K XQ fc) σ H Q := by
  obtain ⟨mp, ρ, S, G, p⟩ := h
  refine bindP G p fun mp1 H1 x S1 v a1 G1 r1 p1 => ?_
  refine bindP G1 p1 fun mp2 H2 y S2 u a2 G2 r2 p2 => ?_
  refine hd XQ σ ρ mp2 H2 S2 x y v u _ G2.rs (Rep.aft a2 _ _ r1) r2 ?_
  cases z : o x y S2 with
  | bad => rw [z] at p2; exact p2
  | exc e S3 => rw [z] at p2; exact p2
  | ok d S3 =>
    rw [z] at p2
    intro mp3 H3 zv a3 rs3 r3
    have p3 := PostG.aft p2 a3
    have G3 := G2.aft a3 rs3
    cases d with
    | bl k =>
      refine ⟨k, r3, ?_⟩
      cases k with
      | true => exact (if_pos rfl).mpr (bindP (f := fc) G3 (by simpa [Out.bind] using p3) fun mp4 H4 w S4 wv a4 G4 r4 p4 => hd' XQ σ ρ mp4 H4 S4 y w u wv Q G4.rs (Rep.aft (a3.trans a4) _ _ r2) r4 p4)
      | false => exact (if_neg Bool.false_ne_true).mpr (PostG.ok (R := Rep K) (d := .bl false) (S := S3) (by simpa [Out.bind] using p3) G3.rs rfl)
    | _ => exact (show False from p3).elim
theorem jt_chain {a b c : Expr} {op op' : CmpOp} {r r' : R2} {o o' : D → D → Sto → Out D} {fa fb fc : Ev D} {pos : Pos} (ho : OpR X (compareOp op) r) (hd : OpD X.K r o) (ho' : OpR X (compareOp op') r') (hd' : OpD X.K r' o') (ha : JE X XQ a fa) (hb : JE X XQ b fb) (hc : JE X XQ c fc)
    (hm : lastMarks [op, op'] [b, c] = false := by with_unfolding_all rfl) : JT X XQ (.Compare a [op, op'] [b, c] pos) (tb (ch o o' fa fb fc)) := PT.mono (pt_chain ho ho' ha hb hc hm) fun σ H Q h => chainP hd hd' σ H _ (tb_of h)
theorem od_le {K : PySem.W.Frag} : OpD K (rI0 fun i j => .bl (decide (i ≤ j))) leD := od_int0 fun _ _ _ _ => rfl
section
variable {a b : Expr} {fa fb : Ev D} {pos : Pos}
end
end
end DL
set_option Elab.async false
set_option linter.all false
set_option maxRecDepth 100000
namespace DL
open PySem PySem.Spec PyProof.Rows L2
def tyN : D → String
  | .non => "NoneType"
  | .bl _ => "bool"
  | .int _ => "int"
  | .str _ => "str"
  | .tup _ => "tuple"
  | .lst _ => "list"
def isT (T t : String) : Bool := t == T || (T == "int" && t == "bool")
def isD (T : String) (x : D) (S : Sto) : Out D := .ok (.bl (isT T (tyN x))) S
def Kit (K : PySem.W.Frag) (T : String) : Prop := ∀ t ∈ ["NoneType", "bool", "int", "str", "tuple", "list"], PySem.W.kitOne K (.type t) (.type T) = some (isT T t)
theorem kit_str {K : PySem.W.Frag} : Kit K "str" := by intro t h; simp only [List.mem_cons, List.mem_nil_iff, or_false] at h; rcases h with rfl | rfl | rfl | rfl | rfl | rfl <;> first | rfl | decide +kernel | (with_unfolding_all rfl)
section
variable {X : Cx} {XQ : XW}
def rIsi (K : PySem.W.Frag) (T : String) : List V → Hp → VK → Prop := fun vs H Q => ∃ x t, vs = [x, .ty T] ∧ (match x with
  | .non => t = "NoneType" | .bl _ => t = "bool" | .int _ => t = "int" | .str _ => t = "str"
  | .ref a => (t = "tuple" ∧ ∃ xs, SqT K H a xs) ∨ (t = "list" ∧ ∃ xs, SqL K H a xs)
  | _ => False) ∧ Q (.bl (isT T t)) H
theorem call_isi {T : String} (k : Kit X.K T) : CallR X (.builtin "isinstance") (rIsi X.K T) := by
  intro pins s σ H xs us Q I r ⟨x, t, e, h, q⟩
  subst e
  obtain ⟨u, w, rfl, ru, rw'⟩ := Vals.two r
  cases (show w = Value.type T from rw')
  have fin : ∀ tk, EP X pins σ Q (.bool (isT T t)) { s with toks := tk } := fun tk => ⟨.bl _, H, I.tok tk, rfl, q⟩
  cases x with
  | non => cases (show u = Value.none from ru); cases (show t = "NoneType" from h); exact PySem.W.kia_one PySem.W.kitx_none I.kIn True.intro (k _ (by decide)) (fun z => nomatch z) fin
  | bl y => cases (show u = Value.bool y from ru); cases (show t = "bool" from h); exact PySem.W.kia_one PySem.W.kitx_bool I.kIn True.intro (k _ (by decide)) (fun z => nomatch z) fin
  | int i => obtain ⟨tk, e⟩ := (show ∃ t, u = Value.int i t from ru); cases e; cases (show t = "int" from h); exact PySem.W.kia_one PySem.W.kitx_int I.kIn True.intro (k _ (by decide)) (fun z => nomatch z) fin
  | str y => obtain ⟨tk, e⟩ := (show ∃ t, u = Value.str y t from ru); cases e; cases (show t = "str" from h); exact PySem.W.kia_one PySem.W.kitx_str I.kIn True.intro (k _ (by decide)) (fun z => nomatch z) fin
  | ref a =>
    cases (show u = Value.ref a from ru)
    rcases h with ⟨rfl, xs, sq⟩ | ⟨rfl, xs, sq⟩
    · obtain ⟨its, _, ⟨o, h1, h2, _⟩, _⟩ := I.tuple sq
      exact PySem.W.kia_one PySem.W.kitx_tuple I.kIn ⟨o, h1, h2⟩ (k _ (by decide)) (fun z => nomatch z) fin
    · obtain ⟨its, _, ⟨o, n, h1, h2, _⟩, _⟩ := I.list sq
      exact PySem.W.kia_one PySem.W.kitx_list I.kIn ⟨o, h1, h2⟩ (k _ (by decide)) (fun z => nomatch z) fin
  | _ => exact h.elim
theorem je_isi {T : String} {x : Str} {e : Expr} {f : Ev D} {p p2 pos : Pos} (k : Kit X.K T) (hv : bootBuiltins x = some (.type T)) (hnx : x ≠ "__name__") (hdx : (x == ("__debug__" : Str)) = false) (hg : Gl X "isinstance") (hm : X.mg "isinstance" = none) (hgt : Gl X x) (hmt : X.mg x = none) (he : JE X XQ e f)
    (hs : starEach [e, .Name x p2] X.env = (false, eval e X.env) :: starEach [.Name x p2] X.env) (hpl : (backTo pos (starEach [.Name x p2] X.env)).any (·.1) = false) (hs2 : starEach [.Name x p2] X.env = (false, eval (.Name x p2) X.env) :: starEach [] X.env) :
    JE X XQ (.Call (.Name "isinstance" p) [e, .Name x p2] [] pos) (o1 (isD T) f) := by
  refine PE.mono (pe_callB (call_isi k) hg hm (by rfl) (pa_cons he (pa_cons (pe_bltn hgt hmt hv (v := .ty T) rfl hnx hdx) pa_nil hs2) hs) (by decide) (by decide) hs hpl) fun σ H Q ⟨mp, ρ, S, G, q⟩ => ?_
  refine bindP G q fun mp1 H1 d S1 v a1 G1 r1 p1 => ?_
  refine ⟨v, tyN d, rfl, ?_, PostG.ok (R := Rep X.K) (show Post X.K XQ σ ρ mp1 H1 (.ok (.bl (isT T (tyN d))) S1) Q from p1) G1.rs rfl⟩
  cases d with
  | non => cases (show v = .non from r1); exact rfl
  | bl b => cases (show v = .bl b from r1); exact rfl
  | int b => cases (show v = .int b from r1); exact rfl
  | str b => cases (show v = .str b from r1); exact rfl
  | tup l => obtain ⟨a, xs, rfl, sq, _⟩ := Rep.tup r1; exact .inl ⟨rfl, xs, sq⟩
  | lst i =>
    obtain ⟨a, rfl, ha⟩ := (show ∃ a, v = .ref a ∧ mp1[i]? = some a from r1)
    have hl : i < S1.length := by rw [← G1.rs.len]; exact (List.getElem?_eq_some_iff.mp ha).1
    obtain ⟨a2, xs, e2, _, sq, _⟩ := G1.rs.items r1 (List.getElem?_eq_getElem hl)
    cases e2
    exact .inr ⟨rfl, xs, sq⟩
end
end DL
set_option Elab.async false
set_option linter.all false
set_option maxRecDepth 100000
namespace DL
open PySem PySem.Spec PyProof.Rows L2
section
variable {X : Cx} {XQ : XW}
def blsOf : List D → Option (List Bool)
  | [] => some []
  | .bl b :: l => match blsOf l with
    | some r => some (b :: r)
    | none => none
  | _ :: _ => none
def allD (xs : List D) (S : Sto) : Out D := match xs with
  | [.lst i] => match S[i]? with
    | some c => match blsOf c.xs with
      | some bs => .ok (.bl (bs.all id)) S
      | none => .bad
    | none => .bad
  | _ => .bad
theorem bls_rep {K : PySem.W.Frag} {mp : List Addr} {H : Hp} : ∀ {l : List D} {vs : List V} {bs : List Bool}, RepL K mp H l vs → blsOf l = some bs → vs = bs.map V.bl
  | [], vs, bs, h, e => by cases (show vs = [] from h); cases (Option.some.inj e); rfl
  | .bl b :: l, vs, bs, h, e => by
    obtain ⟨v, r, rfl, h1, h2⟩ := (show ∃ v r, vs = v :: r ∧ Rep K mp H (.bl b) v ∧ RepL K mp H l r from h)
    cases (show v = .bl b from h1)
    cases z : blsOf l with
    | none => simp [blsOf, z] at e
    | some q =>
      simp only [blsOf, z] at e
      cases (Option.some.inj e)
      rw [bls_rep h2 z]
      rfl
  | .non :: l, vs, bs, h, e => by cases e
  | .int _ :: l, vs, bs, h, e => by cases e
  | .str _ :: l, vs, bs, h, e => by cases e
  | .tup _ :: l, vs, bs, h, e => by cases e
  | .lst _ :: l, vs, bs, h, e => by cases e
theorem vals_bls : ∀ {bs : List Bool} {us : List Value}, Vals (bs.map V.bl) us → us = bs.map Value.bool
  | [], us, h => by cases h; rfl
  | b :: r, us, h => by
    cases h with
    | cons h1 h2 =>
      cases (show _ = Value.bool b from h1)
      rw [vals_bls h2]
      rfl
theorem all_range (bs : List Bool) : ((List.range bs.length).all fun i => bs.getD i true) = bs.all id := by
  rw [Bool.eq_iff_iff, List.all_eq_true, List.all_eq_true]
  constructor
  · intro h b hb
    obtain ⟨i, hi, e⟩ := List.getElem_of_mem hb
    have := h i (List.mem_range.mpr hi)
    rw [List.getD_eq_getElem?_getD, List.getElem?_eq_getElem hi] at this
    simpa [e] using this
  · intro h i hi
    have hi := List.mem_range.mp hi
    rw [List.getD_eq_getElem?_getD, List.getElem?_eq_getElem hi]
    exact h _ (List.getElem_mem hi)
theorem call_all_bls (hc : X.calm = true) : CallR X (.builtin "all") (fun xs H Q => ∃ (p : Addr) (bs : List Bool), xs = [.ref p] ∧ SqL X.K H p (bs.map V.bl) ∧ Q (.bl (bs.all id)) H) := by
  intro pins s σ H xs us Q I r ⟨p, bs, e, sq, q⟩
  subst e
  obtain ⟨u, rfl, ru⟩ := r.one
  cases (show u = Value.ref p from ru)
  obtain ⟨its, rv, pl, hz⟩ := I.list sq
  have ei := vals_bls rv
  subst ei
  have hl := pl.isList
  refine call_all_walk (wpAny_pyIter_list hl ?_)
  have hne : p ≠ s.heap.objs.size := by
    obtain ⟨o, n, ho, _⟩ := pl
    exact Nat.ne_of_lt (Heap.lt_size ho)
  refine ⟨s.heap.objs.size, [s.heap.objs.size, p], [s.heap.objs.size], _, _, _, fun i => bs.getD i true, rfl, Walks.list (by exact I.ok.hd hc) s.heap.objs.size p hne (bs.map Value.bool).toArray, ⟨⟨_, Heap.get?_push_size _ rfl, rfl, rfl⟩, hl.push _⟩, fun i v s' Q' E' hP hQ' => ?_, fun h' tk hk => ?_⟩
  · have hP : (bs.map Value.bool)[i]? = some v := by simpa using hP
    rw [List.getElem?_map] at hP
    cases z : bs[i]? with
    | none => rw [z] at hP; cases hP
    | some b =>
      rw [z] at hP
      cases (Option.some.inj hP)
      refine wpAny_truthy_bool ?_
      have e : bs.getD i true = b := by rw [List.getD_eq_getElem?_getD, z]; rfl
      have hQ2 : Q' (bs.getD i true) s' := hQ'
      rw [e] at hQ2
      exact hQ2
  · have hs : ((List.range (bs.map Value.bool).toArray.size).all fun i => bs.getD i true) = bs.all id := by simpa using all_range bs
    rw [hs]
    refine ⟨.bl _, H, I.kept (h' := h') (t' := tk) fun b o e => hk b o (fun z => absurd (Heap.lt_size e) (by rw [show b = s.heap.objs.size from List.mem_singleton.mp z]; exact Nat.lt_irrefl _)) (Heap.get?_push_of_some _ e), rfl, q⟩
theorem bd_all {K : PySem.W.Frag} : BlD K (fun xs H Q => ∃ (p : Addr) (bs : List Bool), xs = [.ref p] ∧ SqL K H p (bs.map V.bl) ∧ Q (.bl (bs.all id)) H) allD := by
  intro XQ σ ρ mp H S xs vs Q rs r p
  unfold allD at p
  split at p
  · obtain ⟨v, rfl, h⟩ := RepL.one r
    split at p
    · rename_i c zc
      split at p
      · rename_i bs zb
        obtain ⟨a, xs, rfl, _, sq, q, _⟩ := rs.items h zc
        rw [bls_rep q zb] at sq
        exact ⟨a, bs, rfl, sq, PostG.ok (R := Rep K) p rs rfl⟩
      · exact p.elim
    · exact p.elim
  · exact p.elim
theorem je_all {p pos : Pos} {e : Expr} {f : Ev (List D)} (hc : X.calm = true) (hg : Gl X "all") (hm : X.mg "all" = none) (ha : JA X XQ [e] f) (he : starEach [e] X.env = (false, eval e X.env) :: starEach [] X.env := by rfl) : JE X XQ (.Call (.Name "all" p) [e] [] pos) (b1 allD f) := je_blt (call_all_bls hc) bd_all hg hm (by rfl) ha (he := he)
end
end DL
set_option Elab.async false
set_option linter.all false
set_option maxRecDepth 100000
namespace DL
open PySem PySem.Spec PyProof.Rows L2
section
variable {X : Cx} {XQ : XW}
def CallX (X : Cx) (id : String) (o : List D → Sto → Out D) : Prop :=
  ∀ (pins : List (Addr × Obj)) (s : Shared) (σ : L2.St) (ρ : Lc) (XQ : XW) (mp : List Addr) (H : Hp) (S : Sto) (ds : List D) (vs : List V) (us : List Value) (Q : VK), Inv X pins σ H s → RS X.K mp H S → RepL X.K mp H ds vs → Vals vs us → Post X.K XQ σ ρ mp H (o ds S) Q →
    (∀ (e : XD) (S' : Sto), o ds S ≠ .exc e S') → wpAny (model X.prog X.w) X.A (call (.builtin id) us) (EP X pins σ Q) X.xe s
theorem je_bltX {id : String} {x : Str} {p pos : Pos} {e : Expr} {es : List Expr} {o : List D → Sto → Out D} {f : Ev (List D)} (hc : CallX X id o) (hno : ∀ ds S e S', o ds S ≠ .exc e S') (hg : Gl X x) (hm : X.mg x = none) (hv : bootBuiltins x = some (.builtin id)) (ha : JA X XQ (e :: es) f) (hn : x ≠ "__name__" := by decide) (hdb : (x == ("__debug__" : Str)) = false := by decide)
    (he : starEach (e :: es) X.env = (false, eval e X.env) :: starEach es X.env := by rfl) (hpl : (backTo pos (starEach es X.env)).any (·.1) = false := by rfl) : JE X XQ (.Call (.Name x p) (e :: es) [] pos) (b1 o f) := by
  intro pins s σ H Q I ⟨mp, ρ, S, G, q⟩
  refine wpAny_Call_Name_kw (ld_blt I hg hm hv ?_ hn hdb)
  refine PyProof.Rows.callWith_builtin1 (thn (ha pos pins s σ H _ I (bindP G q fun mp1 H1 ds S1 vs a1 G1 r1 p1 => (⟨mp1, ρ, S1, ds, G1, r1, p1⟩ : ∃ mp1 ρ S1 ds, Gd X.K mp1 H1 σ ρ S1 ∧ RepL X.K mp1 H1 ds vs ∧ Post X.K XQ σ ρ mp1 H1 (o ds S1) Q))) fun us s1 ⟨vs, H1, I1, rv, mp1, ρ1, S1, ds, G1, r1, p1⟩ => ?_) he hpl
  exact hc pins s1 σ ρ1 XQ mp1 H1 S1 ds vs us Q I1 G1.rs r1 rv p1 (hno _ _)
def reprD (xs : List D) (S : Sto) : Out D := match xs with
  | [.non] => .ok (.str "None") S
  | [.bl b] => .ok (.str (if b then "True" else "False")) S
  | [.int i] => if i.natAbs.log2 < 1920 then .ok (.str (toString i)) S else .bad
  | [.str x] => if (reprText x).length ≤ 1000000 then .ok (.str (reprText x)) S else .bad
  | [d] => match toP S 40 d with
    | some p => if (p.showable && !p.hasDict && decide (p.depth ≤ 60)) = true ∧ p.shown.length ≤ 1000000 then .ok (.str p.shown) S else .bad
    | none => .bad
  | _ => .bad
theorem repr_no (ds : List D) (S : Sto) (e : XD) (S' : Sto) : reprD ds S ≠ .exc e S' := by
  unfold reprD
  split <;> (try split) <;> (try split) <;> exact fun z => nomatch z
theorem repr_ok {k : Nat} (hr : Room k X.A) : CallX X "repr" reprD := by
  intro pins s σ ρ XQ mp H S ds vs us Q I rs r rv p hno
  clear hno
  have big : ∀ (d : D) (v : V) (a : Addr) (u : Value), Rep X.K mp H d v → v = .ref a → RelV v u → Post X.K XQ σ ρ mp H (match toP S 40 d with
      | some p => if (p.showable && !p.hasDict && decide (p.depth ≤ 60)) = true ∧ p.shown.length ≤ 1000000 then .ok (.str p.shown) S else .bad
      | none => .bad) Q → wpAny (model X.prog X.w) X.A (call (.builtin "repr") [u]) (EP X pins σ Q) X.xe s := by
    intro d v a u rd ev ru p
    subst ev
    cases z : toP S 40 d with
    | none => rw [z] at p; exact p.elim
    | some q =>
      rw [z] at p
      by_cases h : (q.showable && !q.hasDict && decide (q.depth ≤ 60)) = true ∧ q.shown.length ≤ 1000000
      · have p : Post X.K XQ σ ρ mp H (.ok (.str q.shown) S) Q := by simpa only [if_pos h] using p
        obtain ⟨as, ra⟩ := readsP I rs 40 d _ u q rd ru z
        cases (show u = Value.ref a from ru)
        have h1 := h.1
        rw [Bool.and_eq_true, Bool.and_eq_true] at h1
        have hd : q.depth ≤ 60 := of_decide_eq_true h1.2
        have hu := hr.units
        refine repr_of_reads' ra h1.1.1 (fun z => by rw [z] at h1; simp at h1) hr.gd (by omega) (fun _ _ e => e) (fun h' u' tk hk => ?_) (line_le h.2)
        exact ⟨.str q.shown, H, I.kept (h' := h') (t' := tk) hk, ⟨_, rfl⟩, PostG.ok p rs rfl⟩
      · simp only [if_neg h] at p; exact p.elim
  unfold reprD at p
  split at p
  · obtain ⟨v, rfl, h⟩ := RepL.one r
    obtain ⟨u, rfl, ru⟩ := Vals.one rv
    cases (show v = .non from h); cases (show u = Value.none from ru)
    exact PySem.P.repr_of_none ⟨.str "None", H, I.tok _, ⟨_, rfl⟩, PostG.ok (R := Rep X.K) p rs rfl⟩
  · rename_i b
    obtain ⟨v, rfl, h⟩ := RepL.one r
    obtain ⟨u, rfl, ru⟩ := Vals.one rv
    cases (show v = .bl b from h); cases (show u = Value.bool b from ru)
    exact PySem.P.repr_of_bool ⟨.str _, H, I.tok _, ⟨_, rfl⟩, PostG.ok (R := Rep X.K) p rs (by cases b <;> rfl)⟩
  · rename_i i
    obtain ⟨v, rfl, h⟩ := RepL.one r
    obtain ⟨u, rfl, ru⟩ := Vals.one rv
    cases (show v = .int i from h); obtain ⟨t, rfl⟩ := (show ∃ t, u = Value.int i t from ru)
    by_cases hi : i.natAbs.log2 < 1920
    · rw [if_pos hi] at p
      exact PySem.P.repr_of_int hi ⟨.str _, H, I.tok _, ⟨_, rfl⟩, PostG.ok (R := Rep X.K) p rs rfl⟩
    · rw [if_neg hi] at p; exact p.elim
  · rename_i x
    obtain ⟨v, rfl, h⟩ := RepL.one r
    obtain ⟨u, rfl, ru⟩ := Vals.one rv
    cases (show v = .str x from h); obtain ⟨t, rfl⟩ := (show ∃ t, u = Value.str x t from ru)
    by_cases hi : (reprText x).length ≤ 1000000
    · rw [if_pos hi] at p
      exact PySem.P.repr_of_str ⟨.str _, H, I.tok _, ⟨_, rfl⟩, PostG.ok (R := Rep X.K) p rs rfl⟩ (line_le hi)
    · rw [if_neg hi] at p; exact p.elim
  · rename_i d n1 n2 n3 n4
    obtain ⟨v, rfl, h⟩ := RepL.one r
    obtain ⟨u, rfl, ru⟩ := Vals.one rv
    cases d with
    | non => exact absurd rfl n1
    | bl b => exact absurd rfl (n2 b)
    | int i => exact absurd rfl (n3 i)
    | str x => exact absurd rfl (n4 x)
    | tup l => obtain ⟨a, xs, ev, _⟩ := Rep.tup h; exact big _ v a u h ev ru p
    | lst i => obtain ⟨a, ev, _⟩ := (show ∃ a, v = .ref a ∧ mp[i]? = some a from h); exact big _ v a u h ev ru p
  · exact p.elim
theorem je_repr {k : Nat} {p pos : Pos} {e : Expr} {f : Ev (List D)} (hr : Room k X.A) (hg : Gl X "repr") (hm : X.mg "repr" = none) (ha : JA X XQ [e] f) (he : starEach [e] X.env = (false, eval e X.env) :: starEach [] X.env := by rfl) : JE X XQ (.Call (.Name "repr" p) [e] [] pos) (b1 reprD f) := je_bltX (repr_ok hr) repr_no hg hm (by rfl) ha (he := he)
end
end DL
set_option Elab.async false
set_option linter.all false
set_option maxRecDepth 100000
namespace DL
open PySem PySem.Spec PyProof.Rows L2
section
variable {X : Cx} {XQ : XW}
end
end DL
set_option Elab.async false
set_option linter.all false
namespace DL
open PySem
theorem se_Constant {c j p} {es : List Expr} {env : PySem.Env} : starEach (.Constant c j p :: es) env = (false, eval (.Constant c j p) env) :: starEach es env := rfl
theorem se_Name {x p} {es : List Expr} {env : PySem.Env} : starEach (.Name x p :: es) env = (false, eval (.Name x p) env) :: starEach es env := rfl
theorem se_Tuple {a b p} {es : List Expr} {env : PySem.Env} : starEach (.Tuple a b p :: es) env = (false, eval (.Tuple a b p) env) :: starEach es env := rfl
theorem se_List {a p} {es : List Expr} {env : PySem.Env} : starEach (.List a p :: es) env = (false, eval (.List a p) env) :: starEach es env := rfl
theorem se_Call {f a k p} {es : List Expr} {env : PySem.Env} : starEach (.Call f a k p :: es) env = (false, eval (.Call f a k p) env) :: starEach es env := rfl
theorem se_Subscript {a b p} {es : List Expr} {env : PySem.Env} : starEach (.Subscript a b p :: es) env = (false, eval (.Subscript a b p) env) :: starEach es env := rfl
theorem se_BinOp {a o b p} {es : List Expr} {env : PySem.Env} : starEach (.BinOp a o b p :: es) env = (false, eval (.BinOp a o b p) env) :: starEach es env := rfl
theorem se_ListComp {a b c p} {es : List Expr} {env : PySem.Env} : starEach (.ListComp a b c p :: es) env = (false, eval (.ListComp a b c p) env) :: starEach es env := rfl
end DL
set_option Elab.async false
set_option linter.all false
set_option maxRecDepth 100000
namespace DL
open PySem PySem.Spec PyProof.Rows L2
structure Cal (P : Program) (w : World) (K : PySem.W.Frag) (mg : Str → Option Value) (base : Heap) (x : Str) (ps : List Str) (fn : Fn) (j : Nat) : Prop where
  ex : ∃ f fd, FnOk P w K mg base CX0 j f fd ps (spD K ps.length fn) ∧ mg x = some (.ref f) ∧ PySem.W.keepIn K (.ref f) = true ∧ Binds K fd ps []
structure Dn (K : PySem.W.Frag) (mg : Str → Option Value) (x : Str) (st : Stmt) (ps : List Str) : Prop where
  ex : ∃ f fd, Fun K x x st f fd ∧ mg x = some (.ref f) ∧ Binds K fd ps []
section
variable {P : Program} {w : World} {K : PySem.W.Frag} {mg : Str → Option Value} {base : Heap}
theorem dn_mk {h : Heap} {x : Str} {st : Stmt} {ps : List Str} {f : Addr} {oc : Value} {od an : Option Addr} {osl : Array (Option Value)} {kV doc pm cdv ct : Value} (X : K.In h) (G : h.Ns mainGlobals mg) (a : PySem.W.nsIn K mainGlobals x = some (some (.ref f)))
    (l : K.lookup f = some ⟨oc, od, .func (PySem.W.fnOf x x (defArgs st) (defBody st) (defScope st) .none kV doc pm an cdv ct), osl⟩) (c : PySem.W.codeIn K cdv x = true) (k : PySem.W.keepIn K (.ref f) = true)
    (hb : ∀ (kV doc pm : Value) (an : Option Addr) (cdv ct : Value) (us : List Value), us.length = ps.length → bindArgs (PySem.W.fnOf x x (defArgs st) (defBody st) (defScope st) .none kV doc pm an cdv ct) ⟨us, []⟩ = pure (ps.zip us)) : Dn K mg x st ps :=
  ⟨f, _, fun_mk l c k, PySem.W.mg_of X G a, (fun_mk (st := st) l c k).binds hb⟩
theorem cal_of {x : Str} {st : Stmt} {ps : List Str} {fn : Fn} (N : List Str) (k : Nat) (b : Sv) (hfn : fn = fnB N.length b) (d : Dn K mg x st ps) (Sc : FnScope N ps (defScope st))
    (hb : ∀ (f : Addr) (cdv : Value) (A : Around) (outer : List PySem.Env) (s : Shared) (H : Hp) (E : XK), Room k (A.deeper (envOfC x (defScope st) s.heap.objs.size f cdv)) →
      JSs (cxOf CX0 P w K mg base N x (defScope st) f cdv A outer s H E).nox XN (defBody st) b) : Cal P w K mg base x ps fn (k + 1) := by
  subst hfn
  obtain ⟨f, fd, F, hm, hbi⟩ := d.ex
  exact ⟨f, fd, fn_ok F Sc (hb f), hm, F.kp, hbi⟩
end
section
variable {X : Cx} {XQ : XW}
theorem je_own {x : Str} {ps : List Str} {fn : Fn} {j k n : Nat} {p pos : Pos} {e : Expr} {es : List Expr} {t : Ev (List D)} (C : Cal X.prog X.w X.K X.mg X.base x ps fn j) (hr : Room k X.A) (ha : JA X XQ (e :: es) t) (hn : ps.length = n) (hj : j ≤ k := by decide) (hg : Gl X x := by rfl)
    (hdb : (x == ("__debug__" : Str)) = false := by decide) (he : starEach (e :: es) X.env = (false, eval e X.env) :: starEach es X.env := by rfl) (hpl : (backTo pos (starEach es X.env)).any (·.1) = false := by rfl) :
    JE X XQ (.Call (.Name x p) (e :: es) [] pos) (cl n (noExc fn) t) := by
  subst hn
  obtain ⟨f, fd, F, hm, hk, hb⟩ := C.ex
  exact je_call F hr hj hg hm hk hb ha hdb he hpl
theorem je_cst {x : Str} {v : V} {u : Value} {d : D} {pos : Pos} (hm : X.mg x = some u) (r : RelV v u) (rep : ∀ mp H, Rep X.K mp H d v) (hg : Gl X x) (hd : (x == ("__debug__" : Str)) = false) : JE X XQ (.Name x pos) (cn d) := je_const (pe_glob hg hm r hd) rep
def plainN (x : Str) : Bool := !(x == ("__debug__" : Str)) && !(x == ("__classdict__" : Str))
def okV (sc : Scope) (x : Str) : Bool := (match sc.names.lookup x with
  | some .local => true
  | some .cell => true
  | some .free => true
  | _ => false) && plainN x
def okL (sc : Scope) (x : Str) : Bool := match sc.names.lookup x with
  | some .local => true
  | some .cell => true
  | _ => false
def okG (sc : Scope) (x : Str) : Bool := (match sc.names.lookup x with
  | some .globalImplicit => true
  | _ => false) && plainN x
theorem plainN.of {x : Str} (h : plainN x = true) : (x == ("__debug__" : Str)) = false ∧ (x == ("__classdict__" : Str)) = false := by
  unfold plainN at h
  rw [Bool.and_eq_true] at h
  exact ⟨by simpa using h.1, by simpa using h.2⟩
theorem okV.vis {sc : Scope} {x : Str} (h : okV sc x = true) : Vis sc x ∧ plainN x = true := by
  unfold okV at h
  rw [Bool.and_eq_true] at h
  refine ⟨?_, h.2⟩
  have h := h.1
  split at h
  · rename_i e; exact .inl e
  · rename_i e; exact .inr (.inl e)
  · rename_i e; exact .inr (.inr e)
  · cases h
theorem okL.loc {sc : Scope} {x : Str} (h : okL sc x = true) : Loc sc x := by
  unfold okL at h
  split at h
  · rename_i e; exact .inl e
  · rename_i e; exact .inr e
  · cases h
theorem okG.gl {sc : Scope} {x : Str} (h : okG sc x = true) : sc.names.lookup x = some .globalImplicit ∧ plainN x = true := by
  unfold okG at h
  rw [Bool.and_eq_true] at h
  refine ⟨?_, h.2⟩
  have h := h.1
  split at h
  · rename_i e; exact e
  · cases h
structure OkV (sc : Scope) (x : Str) : Prop where
  h : okV sc x = true
structure OkL (sc : Scope) (x : Str) : Prop where
  h : okL sc x = true
structure OkC (sc : Scope) (x : Str) : Prop where
  h : sc.names.lookup x = some .local
structure OkG (sc : Scope) (x : Str) : Prop where
  h : okG sc x = true
theorem jv (i : Nat) {x : Str} {pos : Pos} (h : OkV X.env.scope x) (hN : X.N[i]? = some x := by rfl) : JE X XQ (.Name x pos) (vr i) := je_var i hN (okV.vis h.h).1 (plainN.of (okV.vis h.h).2).1 (plainN.of (okV.vis h.h).2).2
theorem gl {x : Str} (h : OkG X.env.scope x) : Gl X x := (okG.gl h.h).1
theorem jgn (i : Nat) {x : Str} {pos : Pos} (hN : X.N.Nodup) (h : OkL X.env.scope x) (hi : X.N[i]? = some x := by rfl) (hf : X.fn x = true := by rfl) : JG X (.Name x pos) (gn i) := jg_name i hN hi (okL.loc h.h) (.inl hf)
theorem jset (i : Nat) {x : Str} {e : Expr} {f : Ev D} {pos pos' : Pos} (hN : X.N.Nodup) (h : OkL X.env.scope x) (he : JE X XQ e f) (hi : X.N[i]? = some x := by rfl) (hs : swapsWith e (some (.Name x pos')) pos.line X.env = pure false := by rfl) (hf : X.fn x = true := by rfl) :
    JS X XQ (.Assign [.Name x pos'] e pos) (sa f (gn i)) := js_set i hN he hi (okL.loc h.h) hs (.inl hf)
theorem jown {x : Str} {ps : List Str} {fn : Fn} {j k n : Nat} {p pos : Pos} {e : Expr} {es : List Expr} {t : Ev (List D)} (C : Cal X.prog X.w X.K X.mg X.base x ps fn j) (hr : Room k X.A) (hg : Gl X x) (hp : plainN x = true) (ha : JA X XQ (e :: es) t) (hn : ps.length = n := by rfl) (hj : j ≤ k := by decide)
    (he : starEach (e :: es) X.env = (false, eval e X.env) :: starEach es X.env := by rfl) (hpl : (backTo pos (starEach es X.env)).any (·.1) = false := by rfl) :
    JE X XQ (.Call (.Name x p) (e :: es) [] pos) (cl n (noExc fn) t) := je_own C hr ha hn hj hg (plainN.of hp).1 he hpl
def okVC (sc : Scope) (x : Str) : Bool := (match sc.names.lookup x with
  | some .local => true
  | some .cell => true
  | some .free => true
  | _ => false) && plainN x
theorem lookup_relabel_other {scope : Scope} {env : PySem.Env} {x : Str} {k : NameKind} (hk : k ≠ .free) : ∀ (names : List (Str × NameKind)), names.lookup x = some k → (names.map fun (n, k) => if (k == NameKind.free && env.scope.kind == .function && env.kindOf n == some .cell) = true then (n, NameKind.cell) else (n, k)).lookup x = some k
  | [], h => by simp at h
  | (n, k') :: r, h => by
    rw [List.map_cons]
    by_cases hx : (x == n) = true
    · rw [List.lookup_cons, hx] at h
      have : k' = k := by simpa using h
      subst this
      have hb : (k' == NameKind.free) = false := by simpa using hk
      simp only [hb, Bool.false_and, Bool.false_eq_true, if_false, List.lookup_cons, hx]
    · have hx : (x == n) = false := by simpa using hx
      rw [List.lookup_cons, hx] at h
      have := lookup_relabel_other (scope := scope) (env := env) hk r h
      by_cases hq : (k' == NameKind.free && env.scope.kind == .function && env.kindOf n == some .cell) = true
      · simpa only [hq, if_true, List.lookup_cons, hx] using this
      · simpa only [hq, Bool.false_eq_true, if_false, List.lookup_cons, hx] using this
theorem blk_vis {s2 : Shared} {H2 : Hp} {C : Addr} {scope : Scope} {c : List (Str × Addr)} {N' : List Str} {fp : List Addr} {x : Str} (h : okVC scope x = true) : Vis (blk X s2 H2 C scope c N' fp).env.scope x ∧ plainN x = true := by
  unfold okVC at h
  rw [Bool.and_eq_true] at h
  refine ⟨?_, h.2⟩
  have h := h.1
  split at h
  · rename_i e; exact .inl (lookup_relabel_local e)
  · rename_i e; exact .inr (.inl (lookup_relabel_other (scope := scope) (env := X.env) (by decide) scope.names e))
  · rename_i e; exact .inr (lookup_relabel_free (scope := scope) (env := X.env) scope.names e)
  · cases h
theorem jvB (i : Nat) {s2 : Shared} {H2 : Hp} {C : Addr} {scope : Scope} {c : List (Str × Addr)} {N' : List Str} {fp : List Addr} {x : Str} {pos : Pos} (h : okVC scope x = true) (hN : N'[i]? = some x := by rfl) : JE (blk X s2 H2 C scope c N' fp) XQ (.Name x pos) (vr i) :=
  je_var i hN (blk_vis h).1 (plainN.of (blk_vis (X := X) (s2 := s2) (H2 := H2) (C := C) (c := c) (N' := N') (fp := fp) h).2).1 (plainN.of (blk_vis (X := X) (s2 := s2) (H2 := H2) (C := C) (c := c) (N' := N') (fp := fp) h).2).2
theorem glB {s2 : Shared} {H2 : Hp} {C : Addr} {scope : Scope} {c : List (Str × Addr)} {N' : List Str} {fp : List Addr} {x : Str} (h : okG scope x = true) : Gl (blk X s2 H2 C scope c N' fp) x :=
  lookup_relabel_other (scope := scope) (env := X.env) (by decide) scope.names (okG.gl h).1
def okLC (sc : Scope) (x : Str) : Bool := match sc.names.lookup x with
  | some .local => true
  | some .cell => true
  | _ => false
theorem jgnB (i : Nat) {s2 : Shared} {H2 : Hp} {C : Addr} {scope : Scope} {c : List (Str × Addr)} {N' : List Str} {fp : List Addr} {x : Str} {pos : Pos} (hN : N'.Nodup) (h : okLC scope x = true) (hi : N'[i]? = some x := by rfl) : JG (blk X s2 H2 C scope c N' fp) (.Name x pos) (gn i) := by
  unfold okLC at h
  split at h
  · rename_i e
    exact jg_name i hN hi (.inl (lookup_relabel_local e)) (.inr (lookup_relabel_local e))
  · rename_i e
    exact jg_name i hN hi (.inr (lookup_relabel_other (scope := scope) (env := X.env) (by decide) scope.names e)) (.inl (by show (scope.names.lookup x == some NameKind.cell) = true; rw [e]; rfl))
  · cases h
theorem jcomp {sc : Scope} {N : List Str} {elt tg iter : Expr} {ifs : List Expr} {scope : Scope} {pos : Pos} {N' : List Str} {pk : List (Option Nat)} {f : Ev Src} {g : Tg} {t : Ev Bool} {e : Ev D} (hsc : X.env.scope = sc) (hNN : X.N = N) (ct : CompTab sc scope N N' pk) (hcm : X.calm = true) (hi : JI X XQ tg iter f)
    (hg : ∀ cl s2 H2 C fp, JG (blk X s2 H2 C scope cl N' fp) tg g) (ht : ∀ cl s2 H2 C fp, JTs (blk X s2 H2 C scope cl N' fp) XN ifs t) (he : ∀ cl s2 H2 C fp, JE (blk X s2 H2 C scope cl N' fp) XN elt e)
    (hs : ∀ x, foldedSetIterable iter X.env x = pure x := by intro _; rfl) : JE X XQ (.ListComp elt [⟨tg, iter, ifs, 0⟩] scope pos) (cmp f pk g t e) := by
  subst hsc hNN
  exact je_comp ct hcm hi hg ht he hs
theorem CompTab.up {sc scope : Scope} {N N' : List Str} {pk : List (Option Nat)} (env : PySem.Env) (t : CompTab sc scope N N' pk) : CompTab (relabel sc env) scope N N' pk := by
  have up : ∀ x, sc.names.lookup x = some .cell ∨ sc.names.lookup x = some .free → (relabel sc env).names.lookup x = some .cell ∨ (relabel sc env).names.lookup x = some .free := fun x h => by
    rcases h with h | h
    · exact .inl (lookup_relabel_other (scope := sc) (env := env) (by decide) sc.names h)
    · exact lookup_relabel_free (scope := sc) (env := env) sc.names h
  refine ⟨t.kind, t.cell, t.names, fun y hy hf => up _ (t.free y hy hf), t.len, ?_⟩
  have q := t.take
  rw [List.all_eq_true] at q ⊢
  intro i hi
  have q := q i hi
  cases hp : pk[i]? with
  | none => rfl
  | some o =>
    cases o with
    | none => rfl
    | some j =>
      simp only [hp] at q ⊢
      cases h1 : N[j]? with
      | none => simp only [h1] at q; cases q
      | some x =>
        cases h2 : N'[i]? with
        | none => simp only [h1, h2] at q; cases q
        | some y =>
          simp only [h1, h2, Bool.and_eq_true, Bool.or_eq_true, beq_iff_eq] at q ⊢
          exact ⟨⟨q.1.1, up y q.1.2⟩, q.2⟩
theorem jsetComp (i : Nat) {sc : Scope} {N : List Str} {y : Str} {py spos : Pos} {elt tg iter : Expr} {ifs : List Expr} {scope : Scope} {pos : Pos} {N' : List Str} {pk : List (Option Nat)} {f : Ev Src} {g : Tg} {t : Ev Bool} {e : Ev D} (hsc : X.env.scope = sc) (hNN : X.N = N) (ct : CompTab sc scope N N' pk) (hcm : X.calm = true) (hi : JI X XQ tg iter f)
    (hg : ∀ cl s2 H2 C fp, JG (blk X s2 H2 C scope cl N' fp) tg g) (ht : ∀ cl s2 H2 C fp, JTs (blk X s2 H2 C scope cl N' fp) XN ifs t) (he : ∀ cl s2 H2 C fp, JE (blk X s2 H2 C scope cl N' fp) XN elt e)
    (hN : X.N.Nodup) (hl : OkL X.env.scope y) (hsw : swapsWith (.ListComp elt [⟨tg, iter, ifs, 0⟩] scope pos) (some (.Name y py)) spos.line X.env = pure true) (hy : X.N[i]? = some y := by rfl)
    (hs : ∀ x, foldedSetIterable iter X.env x = pure x := by intro _; rfl) (hf : X.fn y = true := by rfl) :
    JS X XQ (.Assign [.Name y py] (.ListComp elt [⟨tg, iter, ifs, 0⟩] scope pos) spos) (sa (cmp f pk g t e) (gn i)) := by
  subst hsc hNN
  exact js_setComp i ct hcm hi hg ht he hN hy (okL.loc hl.h) hsw hs (.inl hf)
end
end DL
set_option Elab.async false
set_option linter.all false
set_option maxRecDepth 100000
namespace DL
open PySem PySem.Spec PyProof.Rows L2
section
variable {X : Cx} {XQ : XW}
theorem log_of {j : Int} (h1 : 0 < j) (h2 : j < 2 ^ 200) : j.natAbs.log2 < 9000 := by
  have h3 : j.natAbs < 2 ^ 200 := by omega
  exact Nat.lt_of_lt_of_le ((Nat.log2_lt (by omega)).mpr h3) (by decide)
theorem op_fdiv2 : OpR X (binaryOp .FloorDiv) (rI (fun _ j => 0 < j ∧ j < 2 ^ 200) fun i j => .int (i / j)) := opI fun i j _ _ _ _ _ hc q => by
  have h1 : (0 : Int) < j := hc.1
  have h2 : j < 2 ^ 200 := hc.2
  exact floordiv_int (by omega) (by rw [Int.fdiv_eq_ediv_of_nonneg i (by omega)]; exact q) (.inl (PyProof.noPylong_of_log2 (log_of h1 h2)))
abbrev divD2 := i2 (fun _ j => decide (0 < j ∧ j < 2 ^ 200)) fun i j => .int (i / j)
theorem je_div2 {a b : Expr} {fa fb : Ev D} {pos : Pos} (ha : JE X XQ a fa) (hb : JE X XQ b fb) : JE X XQ (.BinOp a .FloorDiv b pos) (o2 divD2 fa fb) := je_op op_fdiv2 (od_int (fun _ j h => (of_decide_eq_true h : 0 < j ∧ j < 2 ^ 200)) fun _ _ _ _ => rfl) ha hb
def intsOf : List D → Option (List Int)
  | [] => some []
  | .int i :: r => (intsOf r).map (i :: ·)
  | _ :: _ => none
theorem RepL.ints {K : PySem.W.Frag} {mp : List Addr} {H : Hp} : ∀ {l : List D} {vs : List V} {ns : List Int}, RepL K mp H l vs → intsOf l = some ns → vs = ns.map V.int
  | [], vs, ns, h, e => by
    cases (show vs = [] from h)
    cases (Option.some.inj (show some [] = some ns from e))
    rfl
  | d :: l, vs, ns, h, e => by
    obtain ⟨v, r, rfl, h1, h2⟩ := h
    cases d with
    | int i =>
      have e : (intsOf l).map (i :: ·) = some ns := e
      cases z : intsOf l with
      | none => rw [z] at e; cases e
      | some ms =>
        rw [z] at e
        cases (Option.some.inj e)
        cases (show v = .int i from h1)
        rw [RepL.ints h2 z]
        rfl
    | _ => cases (show (none : Option (List Int)) = some ns from e)
def seqOf (x : D) (S : Sto) : Option (List D) := match x with
  | .tup l => some l
  | .lst i => (S[i]?).map (·.xs)
  | _ => none
def sumD (xs : List D) (S : Sto) : Out D := match xs with
  | [x] => match (seqOf x S).bind intsOf with
    | some ns => .ok (.int ns.sum) S
    | none => .bad
  | _ => .bad
def maxD (xs : List D) (S : Sto) : Out D := match xs with
  | [.int i, .int j] => .ok (.int (if j > i then j else i)) S
  | _ => .bad
def sag (i : Nat) (g : Int → Int → Int) (f : Ev D) : Sv := fun ρ S => match ρ[i]? with
  | some (some (.int a)) => bindS (f ρ S) ρ fun d S1 => match d with
    | .int b => .nx (ρ.set i (some (.int (g a b)))) S1
    | _ => .bad
  | _ => .bad
theorem augP {K : PySem.W.Frag} {i : Nat} {g : Int → Int → Int} {f : Ev D} (E : Ends) (σ : L2.St) (H : Hp) (h : rdS K XQ (sag i g f) E σ H) : tAug i (rdE K XQ f) (ipI g) E σ H := by
  obtain ⟨mp, ρ, S, G, p⟩ := h
  unfold sag at p
  split at p
  · rename_i a z
    obtain ⟨v, e1, r⟩ := G.loc i _ z
    cases (show v = .int a from r)
    refine ⟨_, e1, bindSP G p fun mp1 H1 d S1 v a1 G1 r1 p1 => ?_⟩
    cases d with
    | int b =>
      cases (show v = .int b from r1)
      exact ⟨a, b, rfl, rfl, PostS.nx p1 (G1.set i rfl)⟩
    | _ => exact (show False from p1).elim
  · exact p.elim
theorem js_inc (i : Nat) {x : Str} {e : Expr} {f : Ev D} {pos pos' : Pos} (hN : X.N.Nodup) (h : OkL X.env.scope x) (he : JE X XQ e f) (hi : X.N[i]? = some x := by rfl) (hf : X.fn x = true := by rfl) : JS X XQ (.AugAssign (.Name x pos') .Add e pos) (sag i (fun a b => a + b) f) :=
  PS.mono (ps_aug hN hi (okL.loc h.h) he ip_add (.inl hf)) augP
end
section
variable {prog : Program} {w : World} {A : Around} {E : Value → Shared → Prop} {s : Shared}
theorem getItem_tuple_all {t sl : Addr} {items : Array Value} {vl vu : Value} {lo hi : Option Int} {Q : Value → Shared → Prop} (ht : IsTup s.heap t items) (hs : s.heap.IsSliceOf sl vl vu .none) (pl : IsPart vl lo) (pu : IsPart vu hi)
    (hw : HT.sIx items.size 0 lo = 0 ∧ HT.sIx items.size items.size hi = items.size)
    (h : Q (.ref t) s) : wpAny (model prog w) A (getItem (.ref t) (.ref sl)) Q E s := by
  obtain ⟨os, hos, hcs, hds⟩ := id hs
  have hTs : s.TypeIs (.ref sl) "slice" := ⟨os, hos, hcs⟩
  unfold getItem
  try with_reducible refine wpAny_holding ?_
  first | refine wpAny_bind (wpAny_pure ?_) | skip
  refine wpAny_bind (wpAny_sequenceKey ht.typeIs (by decide) ?_)
  refine wpAny_bind (wpAny_callSpecial?_slot (name := Str.ofString "__getitem__") ht.typeIs PyProof.Rows.slot_tuple_getitem
    (wpAny_call_entry PyProof.Rows.slot_tuple_getitem ht.typeIs entry_tuple_getitem ?_ (args_tuple_getitem _ _)))
  show wpAny _ _ (Builtin.Tuple.tupleItemsOf (.ref t) >>= _) _ _ s
  refine wpAny_bind (tupleItemsOf_ ht ?_)
  refine wpAny_bind (wpAny_typeOf hTs ?_)
  rw [if_pos (by decide)]
  refine wpAny_bind (HT.sliceApplied_gen hs pl pu ?_)
  show wpAny _ _ (if (((HT.sIx items.size 0 lo : Nat) : Int) == 0 && (1 : Int) == 1 && (HT.sIx items.size items.size hi - HT.sIx items.size 0 lo) == items.size) = true then _ else _) _ _ s
  rw [if_pos (by rw [hw.1, hw.2]; simp)]
  unfold Builtin.Tuple.tupleIsExact
  refine wpAny_bind (wpAny_bind (wpAny_typeOf ht.typeIs (wpAny_pure ?_)))
  rw [if_pos (by decide)]
  exact wpAny_bind (wpAny_rule (wpAny_pure ⟨_, rfl, wpAny_pure h⟩))
end
section
variable {X : Cx} {XQ : XW}
def rSlA (K : PySem.W.Frag) : V → Option Int → Option Int → Hp → VK → Prop := fun x lo hi H Q => ∃ a xs, x = .ref a ∧ SqT K H a xs ∧ (HT.sIx xs.length 0 lo = 0 ∧ HT.sIx xs.length xs.length hi = xs.length) ∧ Q (.ref a) H
theorem sl_all : SlR X (rSlA X.K) := by
  intro pins s σ H x v vl vu lo hi sl Q I rx hs pl pu h
  obtain ⟨a, xs, rfl, hx, hw, q⟩ := h
  cases rx
  obtain ⟨its, r, ht, hz⟩ := I.tuple hx
  have hlen : its.toArray.size = xs.length := by rw [List.size_toArray]; exact r.length.symm
  refine ⟨"tuple", _, PyProof.Rows.slot_tuple_getitem.lookup, ht.typeIs, ?_⟩
  exact getItem_tuple_all ht hs pl pu (by rw [hlen]; exact hw) ⟨.ref a, H, I, rfl, q⟩
def slD2 (x : D) (lo hi : Option Int) (S : Sto) : Out D := match x with
  | .tup l => if HT.sIx l.length 0 lo = 0 ∧ HT.sIx l.length l.length hi = l.length then .ok (.tup l) S else .ok (.tup (cutD l lo hi)) S
  | .lst i => match S[i]? with
    | some c => .ok (.lst S.length) (S ++ [⟨false, cutD c.xs lo hi⟩])
    | none => .bad
  | _ => .bad
def sl2 (fe : Ev D) (fl fh : Ev (Option Int)) : Ev D := fun ρ S => (fe ρ S).bind fun x S1 => (fl ρ S1).bind fun l S2 => (fh ρ S2).bind fun u S3 => slD2 x l u S3
theorem je_slice2 {e : Expr} {lo hi : Option Expr} {fe : Ev D} {fl fh : Ev (Option Int)} {pos p2 : Pos} (he : JE X XQ e fe) (hl : JO X XQ lo fl) (hh : JO X XQ hi fh) : JE X XQ (.Subscript e (.Slice lo hi none p2) pos) (sl2 fe fl fh) := by
  refine PE.mono (pe_slice ((sl_list.or sl_tup).or sl_all) he hl hh) fun σ H Q ⟨mp, ρ, S, G, p⟩ => ?_
  refine bindP G p fun mp1 H1 x S1 v a1 G1 r1 p1 => ?_
  refine bindP G1 p1 fun mp2 H2 l S2 l' a2 G2 r2 p2 => ?_
  refine bindP G2 p2 fun mp3 H3 u S3 u' a3 G3 r3 p3 => ?_
  cases (show l' = l from r2)
  cases (show u' = u from r3)
  have r1 := Rep.aft (a2.trans a3) _ _ r1
  cases x with
  | tup ds =>
    have p3 : Post X.K XQ σ ρ mp3 H3 (if HT.sIx ds.length 0 l = 0 ∧ HT.sIx ds.length ds.length u = ds.length then .ok (.tup ds) S3 else .ok (.tup (cutD ds l u)) S3) Q := p3
    obtain ⟨a, xs, rfl, sq, q⟩ := Rep.tup r1
    by_cases hw : HT.sIx ds.length 0 l = 0 ∧ HT.sIx ds.length ds.length u = ds.length
    · rw [if_pos hw] at p3
      exact .inr ⟨a, xs, rfl, sq, by rw [q.len]; exact hw, PostG.ok (R := Rep X.K) p3 G3.rs r1⟩
    · rw [if_neg hw] at p3
      exact .inl (.inr ⟨a, xs, rfl, sq, by rw [q.len]; exact hw, fun t ht => post_tup p3 G3.rs (q.cut l u) ht⟩)
  | lst i =>
    have p3 : Post X.K XQ σ ρ mp3 H3 (match S3[i]? with | some c => .ok (.lst S3.length) (S3 ++ [⟨false, cutD c.xs l u⟩]) | none => .bad) Q := p3
    cases zc : S3[i]? with
    | none => rw [zc] at p3; exact p3.elim
    | some c =>
      rw [zc] at p3
      obtain ⟨a, xs, rfl, _, sq, q, _⟩ := G3.rs.items r1 zc
      exact .inl (.inl ⟨a, xs, rfl, sq, fun t ht => post_lst p3 G3.rs (q.cut l u) ht⟩)
  | _ => exact (show False from p3).elim
end
end DL
set_option Elab.async false
set_option linter.all false
set_option maxRecDepth 100000
namespace DL
open PySem PySem.Spec PyProof.Rows L2
section
variable {X : Cx} {XQ : XW}
def sbad : Sv := fun _ _ => .bad
theorem js_bad {st : Stmt} : JS X XQ st sbad := fun pins s σ H E I ⟨mp, ρ, S, G, p⟩ => (show False from p).elim
end
end DL
set_option Elab.async false
set_option linter.all false
set_option maxRecDepth 100000
namespace DL
open PySem PySem.Spec PyProof.Rows L2
theorem turnedL {X : Cx} {pins : List (Addr × Obj)} {σ : L2.St} {H : Hp} {s : Shared} {g : Heap} {tk : Nat} {ch : List Addr} (I : Inv X pins σ H s) (k : ∀ b o, b ∉ ch → s.heap.get? b = some o → g.get? b = some o) (hf : ∀ b ∈ ch, FpOk X pins H b) : Inv X pins σ H { s with heap := g, toks := tk } := by
  have nit : ∀ b u, H b = some u → b ∉ ch := fun b u e z => by have := (hf b z).1; rw [this] at e; cases e
  refine I.step (g' := s.gens) (d' := s.drawn) (ch := ch) (fun b hb => ?_) (fun b o _ _ hc e _ => k b o hc e) (fun b o _ _ hc e _ => ⟨o.slots, k b o hc e⟩) (fun _ _ _ _ n => n)
    (fun b o hc e => ⟨o, k b o hc e⟩) (fun _ _ e => e) (fun _ _ _ e => e) (fun b ps e => ⟨#[], by rw [e]; simp⟩) (fun m hm => ?_) (fun b u e => ?_) I.bare
  · obtain ⟨f0, f1, f2, f3, f4, f5⟩ := hf b hb
    exact ⟨f3, f1, f4, f5⟩
  · obtain ⟨o, es, ep, ho, r⟩ := hm
    exact ⟨o, es, ep, k _ o (fun z => (hf _ z).2.1 rfl) ho, r⟩
  · refine (I.hok b u e).stay (fun c v hc q => k c v ?_ q) (fun _ q => q) fun _ _ q => q
    rcases hc with z | z
    · rw [z]; exact nit b u e
    · exact nit c _ z
section
variable {prog : Program} {w : World} {A : Around} {E : Value → Shared → Prop} {s : Shared}
theorem nt_item {j t : Addr} {k : Nat} {vs : Array Value} {y : Value} {Q : Value → Shared → Prop} (pit : s.heap.IsTupleIter j t k) (pt : s.heap.IsTuple t vs) (py : vs[k]? = some y)
    (fin : ∀ g, g.IsTupleIter j t (k + 1) → Heap.SameBut j s.heap g → Q y { s with heap := g }) : wpAny (model prog w) A (Builtin.SmallTypes.nextOf (.ref j)) Q E s := by
  obtain ⟨u, pu, pc, pd⟩ := id pit
  obtain ⟨v, pv, _, m, pe⟩ := pt
  unfold Builtin.SmallTypes.nextOf
  refine wpAny_bind (wpAny_callSpecial?_slot (name := Str.ofString "__next__") pit.typeIs F.slot_tuple_iterator_next (wpAny_call_entry F.slot_tuple_iterator_next pit.typeIs F.entry_tuple_iterator_next ?_ (F.args_tuple_iterator_next_1 _)))
  show wpAny _ _ (field (.ref j) 0 >>= _) _ _ s
  refine wpAny_bind (wpAny_field pu pd (x := .ref t) rfl ?_)
  show wpAny _ _ (if (Value.ref t == Value.none) = true then _ else _) _ _ _
  rw [if_neg (by exact Bool.false_ne_true)]
  show wpAny _ _ (field (.ref j) 1 >>= _) _ _ s
  refine wpAny_bind (wpAny_field pu pd (x := .int k 0) rfl ?_)
  show wpAny _ _ (seqItems? (.ref t) >>= _) _ _ _
  refine wpAny_bind (wpAny_seqItems pv pe ?_)
  simp only [Int.toNat_natCast, py]
  refine wpAny_bind (wpAny_setField pu pd (by simp) (wpAny_pure ⟨y, rfl, wpAny_pure (fin _ ?_ (Heap.SameBut.update ..))⟩))
  exact ⟨_, Heap.get?_update_self _ pu (Obj.isFreed_of_fields (Obj.data_mapFields pd _)), (Obj.cls_mapFields ..).trans pc, by rw [Obj.data_mapFields pd]; simp [rawInt]⟩
theorem nt_end {j t : Addr} {k : Nat} {vs : Array Value} {Q : Value → Shared → Prop} (no : A.handled = none) (pit : s.heap.IsTupleIter j t k) (pt : s.heap.IsTuple t vs) (py : vs[k]? = none)
    (fin : ∀ g e, Heap.ExtBut j s.heap g → (∃ o, g.get? e = some o ∧ o.cls = .type "StopIteration") → E (.ref e) { s with heap := g }) : wpAny (model prog w) A (Builtin.SmallTypes.nextOf (.ref j)) Q E s := by
  obtain ⟨u, pu, pc, pd⟩ := id pit
  obtain ⟨v, pv, _, m, pe⟩ := pt
  unfold Builtin.SmallTypes.nextOf
  refine wpAny_bind (wpAny_callSpecial?_slot (name := Str.ofString "__next__") pit.typeIs F.slot_tuple_iterator_next (wpAny_call_entry F.slot_tuple_iterator_next pit.typeIs F.entry_tuple_iterator_next ?_ (F.args_tuple_iterator_next_1 _)))
  show wpAny _ _ (field (.ref j) 0 >>= _) _ _ s
  refine wpAny_bind (wpAny_field pu pd (x := .ref t) rfl ?_)
  show wpAny _ _ (if (Value.ref t == Value.none) = true then _ else _) _ _ _
  rw [if_neg (by exact Bool.false_ne_true)]
  show wpAny _ _ (field (.ref j) 1 >>= _) _ _ s
  refine wpAny_bind (wpAny_field pu pd (x := .int k 0) rfl ?_)
  show wpAny _ _ (seqItems? (.ref t) >>= _) _ _ _
  refine wpAny_bind (wpAny_seqItems pv pe ?_)
  simp only [Int.toNat_natCast, py]
  refine wpAny_bind (wpAny_rule (wpAny_bind (wpAny_setField pu pd (by simp) ?_)))
  show wpAny _ _ (newExc (.type "StopIteration") [] >>= _) _ _ (_ : Shared)
  refine wpAny_bind ?_
  simp only [newExc, newTuple]
  refine wpAny_bind (wpAny_newObj_type ?_ (by size_fits))
  refine wpAny_bind (m := firstArgMember _ _) (wpAny_of_eq (a := Value.none) (by (first | rfl | (simp only [firstArgMember]; rfl))) ?_)
  refine wpAny_newObj_type ?_ (by size_fits)
  simp only [raiseNew]
  refine wpAny_bind (wpAny_handled ?_)
  first
    | rw [show A.in1.handled = none from no]
    | rw [no]
  refine wpAny_bind (wpAny_pure (wpAny_throw ?_))
  exact fin _ _ (((Heap.SameBut.update ..).extBut.push _).push _) ⟨_, Heap.get?_push_size _ rfl, rfl⟩
theorem en_item {e j t : Addr} {k : Nat} {vs : Array Value} {y old : Value} {Q : Option Value → Shared → Prop} (pe : IsEnum s.heap e j k old) (pit : s.heap.IsTupleIter j t k) (pt : s.heap.IsTuple t vs) (py : vs[k]? = some y) (ne : e ≠ j)
    (fin : ∀ g, IsEnumOut g e j ((k : Int) + 1) y s.heap.objs.size → g.IsTupleIter j t (k + 1) → g.get? s.heap.objs.size = some { cls := .type "tuple", data := .seq #[.int k s.toks, y] } →
      (∀ b o, b ≠ e → b ≠ j → s.heap.get? b = some o → g.get? b = some o) → Q (some (.ref s.heap.objs.size)) { s with heap := g, toks := s.toks + 1 }) : wpAny (model prog w) A (pyNext (.ref e)) Q E s := by
  have ty : s.TypeIs (.ref e) "enumerate" := ⟨_, pe, rfl⟩
  unfold pyNext
  refine wpAny_bind (wpAny_attempt (wpAny_callSpecial?_slot (name := Str.ofString "__next__") ty F.slot_enumerate_next (wpAny_call_entry F.slot_enumerate_next ty F.entry_enumerate_next ?_ (F.args_enumerate_next_1 _))))
  obtain ⟨hp, gs, dr, tk, os⟩ := s
  show wpAny _ _ (field (.ref e) 2 >>= _) _ _ (_ : Shared)
  refine wpAny_bind (wpAny_field pe rfl (x := .ref j) rfl ?_)
  refine wpAny_bind (nt_item pit pt py fun g1 i1 b1 => ?_)
  replace b1 : Heap.SameBut j hp g1 := b1
  have q1 : IsEnum g1 e j k old := (b1.2 e ne).trans pe
  show wpAny _ _ (field (.ref e) 3 >>= _) _ _ ⟨g1, gs, dr, tk, os⟩
  refine wpAny_bind (wpAny_field q1 rfl (x := rawInt k) rfl ?_)
  show wpAny _ _ (field (.ref e) 4 >>= _) _ _ ⟨g1, gs, dr, tk, os⟩
  refine wpAny_bind (wpAny_field q1 rfl (x := .none) rfl ?_)
  show wpAny _ _ (mkInt k >>= _) _ _ ⟨g1, gs, dr, tk, os⟩
  refine wpAny_bind (wpAny_mkInt ?_)
  show wpAny _ _ (setField (.ref e) 3 (rawInt ((k : Int) + 1)) >>= _) _ _ ⟨g1, gs, dr, tk + 1, os⟩
  refine wpAny_bind (wpAny_setField_rec q1 (by simp) fun g2 q2 b2 => ?_)
  replace b2 : Heap.SameBut e g1 g2 := b2
  replace q2 : IsEnum g2 e j ((k : Int) + 1) old := q2
  show wpAny _ _ (setField (.ref e) 4 .none >>= _) _ _ ⟨g2, gs, dr, tk + 1, os⟩
  refine wpAny_bind (wpAny_setField_rec q2 (by simp) fun g3 q3 b3 => ?_)
  replace b3 : Heap.SameBut e g2 g3 := b3
  replace q3 : IsEnum g3 e j ((k : Int) + 1) old := q3
  show wpAny _ _ (newTuple [.int k tk, y] >>= _) _ _ ⟨g3, gs, dr, tk + 1, os⟩
  refine wpAny_bind (wpAny_newTuple ?_)
  have q4 : IsEnum (g3.push { cls := .type "tuple", data := .seq #[.int k tk, y] }) e j ((k : Int) + 1) old := Heap.get?_push_of_some _ q3
  have sz : g3.objs.size = hp.objs.size := by rw [b3.1, b2.1, b1.1]
  have el : e < hp.objs.size := Heap.lt_size pe
  have t4 : (g3.push { cls := .type "tuple", data := .seq #[.int k tk, y] }).get? hp.objs.size = some { cls := .type "tuple", data := .seq #[.int k tk, y] } := by rw [← sz]; exact Heap.get?_push_size _ rfl
  have k4 : ∀ b o, b ≠ e → b ≠ j → hp.get? b = some o → (g3.push { cls := .type "tuple", data := .seq #[.int k tk, y] }).get? b = some o := fun b o z1 z2 z3 =>
    Heap.get?_push_of_some _ (b3.extBut b o z1 (b2.extBut b o z1 (b1.extBut b o z2 z3)))
  have i4 : (g3.push { cls := .type "tuple", data := .seq #[.int k tk, y] }).IsTupleIter j t (k + 1) := by
    obtain ⟨o, ho, r⟩ := (i1.extBut b2.extBut (Ne.symm ne)).extBut b3.extBut (Ne.symm ne)
    exact ⟨o, Heap.get?_push_of_some _ ho, r⟩
  generalize g3.push { cls := .type "tuple", data := .seq #[.int k tk, y] } = g4 at *
  rw [sz]
  show wpAny _ _ (Builtin.SmallTypes.ownedTupleIsFree (.ref e) >>= _) _ _ ⟨g4, gs, dr, tk + 1, os⟩
  refine wpAny_bind ?_
  unfold Builtin.SmallTypes.ownedTupleIsFree
  refine wpAny_bind (wpAny_field q4 rfl (x := .none) rfl (wpAny_pure ?_))
  simp only [if_true]
  refine wpAny_bind (wpAny_rule ?_)
  refine wpAny_bind (wpAny_field q4 rfl (x := old) rfl ?_)
  refine wpAny_bind (wpAny_setField_rec q4 (by simp) fun g5 q5 b5 => ?_)
  replace b5 : Heap.SameBut e g4 g5 := b5
  replace q5 : IsEnum g5 e j ((k : Int) + 1) y := q5
  show wpAny _ _ (Builtin.SmallTypes.ownedTupleHandOut (.ref e) (.ref hp.objs.size) >>= _) _ _ ⟨g5, gs, dr, tk + 1, os⟩
  refine wpAny_bind ?_
  unfold Builtin.SmallTypes.ownedTupleHandOut
  refine wpAny_bind (wpAny_setField_rec q5 (by simp) fun g6 q6 b6 => ?_)
  replace b6 : Heap.SameBut e g5 g6 := b6
  replace q6 : IsEnumOut g6 e j ((k : Int) + 1) y hp.objs.size := q6
  refine wpAny_setField_rec q6 (by simp) fun g7 q7 b7 => ?_
  replace b7 : Heap.SameBut e g6 g7 := b7
  replace q7 : IsEnumOut g7 e j ((k : Int) + 1) y hp.objs.size := q7
  refine wpAny_bind (wpAny_letGo (wpAny_pure ⟨_, rfl, wpAny_pure (fin g7 q7 ?_ ?_ ?_)⟩))
  · exact ((i4.extBut b5.extBut (Ne.symm ne)).extBut b6.extBut (Ne.symm ne)).extBut b7.extBut (Ne.symm ne)
  · exact b7.extBut _ _ (Nat.ne_of_gt el) (b6.extBut _ _ (Nat.ne_of_gt el) (b5.extBut _ _ (Nat.ne_of_gt el) t4))
  · exact fun b o z1 z2 z3 => b7.extBut b o z1 (b6.extBut b o z1 (b5.extBut b o z1 (k4 b o z1 z2 z3)))
theorem en_end {e j t : Addr} {k : Nat} {vs : Array Value} {old : Value} {Q : Option Value → Shared → Prop} (no : A.handled = none) (pe : IsEnum s.heap e j k old) (pit : s.heap.IsTupleIter j t k) (pt : s.heap.IsTuple t vs) (py : vs[k]? = none)
    (fin : ∀ g, Heap.ExtBut j s.heap g → Q none { s with heap := g }) : wpAny (model prog w) A (pyNext (.ref e)) Q E s := by
  have ty : s.TypeIs (.ref e) "enumerate" := ⟨_, pe, rfl⟩
  unfold pyNext
  refine wpAny_bind (wpAny_attempt (wpAny_callSpecial?_slot (name := Str.ofString "__next__") ty F.slot_enumerate_next (wpAny_call_entry F.slot_enumerate_next ty F.entry_enumerate_next ?_ (F.args_enumerate_next_1 _))))
  show wpAny _ _ (field (.ref e) 2 >>= _) _ _ (_ : Shared)
  refine wpAny_bind (wpAny_field pe rfl (x := .ref j) rfl ?_)
  refine wpAny_bind (nt_end no pit pt py fun g x b1 ⟨o, ho, hc⟩ => ?_)
  refine wpAny_bind (wpAny_isInstance (T := "StopIteration") (b := true) ⟨o, ho, hc⟩ isSubtype_stop ?_)
  exact wpAny_pure (fin _ b1)
abbrev enG (g : Heap) (t : Addr) : Heap := g.push { cls := .type "tuple_iterator", data := .fields #[.ref t, .int 0 0] }
theorem meets_en (t : Addr) (vs : Array Value) (n : Nat) (dd : Option Addr) (sl : Array (Option Value)) :
    Meets (Builtin.«enumerate.__new__» ⟨[.type "enumerate", .ref t], []⟩) (fun _ R s => s.heap.get? t = some { cls := .type "tuple", dict := dd, data := .seq vs n, slots := sl } ∧
      R (.ok (.ret (.ref (enG s.heap t).objs.size))) { s with heap := (enG s.heap t).push { cls := .type "enumerate", data := .fields #[.none, .bool false, .ref s.heap.objs.size, rawInt 0, .none, .none] } }) :=
  .of_wp fun prog w A R s h => by
    obtain ⟨hp, g, d, tk, os⟩ := s; obtain ⟨hl, h⟩ := h
    have hsub := sub_enumerate
    have hT : Heap.IsTuple (Shared.heap ⟨hp, g, d, tk, os⟩) t vs := ⟨_, hl, rfl, n, rfl⟩
    wp_walk using AutoSeq1.wpAny_loadPart' hl
    refine wpAny_stack_any fun st => wpAny_pure ?_
    split
    · rename_i c _ _ _ _ _
      cases (c == Value.type "enumerate")
      · wp_walk using AutoSeq1.wpAny_loadPart' hl, wpAny_pyIter_tuple hT
        exact ⟨_, rfl, h⟩
      · wp_walk using AutoSeq1.wpAny_loadPart' hl, wpAny_pyIter_tuple hT
        exact ⟨_, rfl, h⟩
    · wp_walk using AutoSeq1.wpAny_loadPart' hl, wpAny_pyIter_tuple hT
      exact ⟨_, rfl, h⟩
theorem call_en {t : Addr} {vs : Array Value} {Q : Value → Shared → Prop} (pt : s.heap.IsTuple t vs)
    (fin : ∀ g, IsEnum g (s.heap.objs.size + 1) s.heap.objs.size 0 .none → g.IsTupleIter s.heap.objs.size t 0 → (∀ b o, s.heap.get? b = some o → g.get? b = some o) → Q (.ref (s.heap.objs.size + 1)) { s with heap := g }) :
    wpAny (model prog w) A (call (.type "enumerate") [.ref t]) Q E s := by
  obtain ⟨⟨oc, od, odt, osl⟩, ho, hc, n, hd⟩ := pt
  cases (show oc = .type "tuple" from hc)
  cases (show odt = .seq vs n from hd)
  refine callType_new F.called_enumerate (by decide) (F.typeCall_enumerate_1 _) (F.newCall_enumerate_1 _) (fun obj => F.args_object_init_2 obj _) F.entry_enumerate_new (meets_en t vs n od osl) ⟨ho, ?_⟩
  have hz : (enG s.heap t).objs.size = s.heap.objs.size + 1 := Heap.size_push ..
  have he : IsEnum ((enG s.heap t).push { cls := .type "enumerate", data := .fields #[.none, .bool false, .ref s.heap.objs.size, rawInt 0, .none, .none] }) (s.heap.objs.size + 1) s.heap.objs.size 0 .none := by
    have := Heap.get?_push_size (enG s.heap t) (o := { cls := .type "enumerate", data := .fields #[.none, .bool false, .ref s.heap.objs.size, rawInt 0, .none, .none] }) rfl
    rw [hz] at this
    exact this
  show _ ∧ _
  rw [hz]
  exact ⟨⟨_, he, rfl⟩, fin _ he ⟨_, Heap.get?_push_of_some _ (Heap.get?_push_size _ rfl), rfl, rfl⟩ fun b o x => Heap.get?_push_of_some _ (Heap.get?_push_of_some _ x)⟩
end
end DL
set_option Elab.async false
set_option linter.all false
set_option maxRecDepth 100000
namespace DL
open PySem PySem.Spec PyProof.Rows L2
theorem laid_turned {X : Cx} {pins : List (Addr × Obj)} {σ : L2.St} {H : Hp} {s : Shared} {g : Heap} {tk : Nat} {ch : List Addr} {vs : List V} {us : List Value} (I : Inv X pins σ H s) (hn : H s.heap.objs.size = none) (hz : vs.length ≤ sizeLine) (rv : Vals vs us)
    (tt : g.get? s.heap.objs.size = some { cls := .type "tuple", data := .seq us.toArray }) (k : ∀ b o, b ∉ ch → s.heap.get? b = some o → g.get? b = some o) (hf : ∀ b ∈ ch, FpOk X pins H b) (ltf : ∀ b ∈ ch, b ≠ s.heap.objs.size) :
    Inv X pins σ (upd H s.heap.objs.size (.tup vs)) { s with heap := g, toks := tk } := by
  have I1 : Inv X pins σ (upd H s.heap.objs.size (.tup vs)) { s with heap := s.heap.push { cls := .type "tuple", data := .seq us.toArray } } :=
    I.laid (t' := s.toks) (fun b o e => Heap.get?_push_of_some _ e) (Nat.le_refl _) (show ObjOk X.prog X.w _ _ _ (.tup vs) from ⟨hz, us, rv, IsTup.new _ _⟩)
  refine turnedL (ch := ch) (s := { s with heap := s.heap.push { cls := .type "tuple", data := .seq us.toArray } }) I1 (fun b o hb e => ?_) fun b hb => ?_
  · by_cases hs : b = s.heap.objs.size
    · subst hs
      rw [Heap.get?_push_size _ rfl] at e
      cases e
      exact tt
    · have : s.heap.get? b = some o := by
        rcases Heap.get?_push_cases e with ⟨z, _⟩ | z
        · exact absurd z hs
        · exact z
      exact k b o hb this
  · obtain ⟨f0, f⟩ := hf b hb
    exact ⟨by rw [upd_ne (ltf b hb)]; exact f0, f⟩
def Ite (K : PySem.W.Frag) (a : Addr) : It :=
  ⟨fun i H => ∃ xs x, SqT K H a xs ∧ xs[i]? = some x, fun i H x H' => ∃ y p, (∀ xs, SqT K H a xs → xs[i]? = some y) ∧ H p = none ∧ x = .ref p ∧ H' = upd H p (.tup [.int i, y]), fun i H => ∃ xs, SqT K H a xs ∧ xs.length ≤ i⟩
theorem turn_enum {P : Program} {w : World} {K : PySem.W.Frag} {es : List Expr} {x1} {pos : Pos} (a it e : Addr) (ne : e ≠ it) :
    Turn P w K (.Tuple es x1 pos) (Ite K a) [e, it] e (fun i h => (∃ old, IsEnum h e it i old) ∧ h.IsTupleIter it a i) where
  mem := by simp
  obj := fun i h ⟨⟨old, st⟩, o, e1, c, d⟩ b hb => by
    rcases List.mem_cons.mp hb with rfl | hb
    · exact ⟨_, st, fun v z => by
        have z' : Data.fields _ = Data.cell v := z
        cases z'⟩
    · have eb : b = it := by simpa using hb
      subst eb
      exact ⟨o, e1, fun v z => by rw [d] at z; cases z⟩
  keep := fun i h h' ⟨⟨old, st⟩, ti⟩ k => ⟨⟨old, k e (by simp) _ st⟩, ti.at fun o e1 => k it (by simp) o e1⟩
  item := by
    intro X hP hw hK hc i pins s σ H E I hf ⟨⟨old, st⟩, ti⟩ hg
    subst hP hw hK
    obtain ⟨xs, x, hq, hx⟩ := hg
    obtain ⟨its, rv, p, hz⟩ := I.tuple hq
    obtain ⟨u, hu, ru⟩ := rv.get hx
    have hn : H s.heap.objs.size = none := I.hok.fresh (Nat.le_refl _)
    refine en_item st ti (show s.heap.IsTuple a its.toArray from p) (y := u) (by simpa using hu) ne fun g oe ti' tt kk => ?_
    refine ⟨_, rfl, wpAny_letOwnedTupleGo_enum oe fun g2 e2 b2 => ?_⟩
    have kk2 : ∀ b o, b ∉ [e, it] → s.heap.get? b = some o → g2.get? b = some o := fun b o hb h1 =>
      b2.extBut b o (fun z => hb (by simp [z])) (kk b o (fun z => hb (by simp [z])) (fun z => hb (by simp [z])) h1)
    have el : s.heap.objs.size ≠ e := Nat.ne_of_gt (Heap.lt_size st)
    have tt2 : g2.get? s.heap.objs.size = some { cls := .type "tuple", data := .seq #[.int i s.toks, u] } := b2.extBut _ _ el tt
    have ltf : ∀ b ∈ [e, it], b ≠ s.heap.objs.size := fun b hb => by
      rcases List.mem_cons.mp hb with rfl | hb
      · exact Ne.symm el
      · have eb : b = it := by simpa using hb
        subst eb
        obtain ⟨o, e1, _⟩ := ti
        exact Nat.ne_of_lt (Heap.lt_size e1)
    have I2 : Inv X pins σ (upd H s.heap.objs.size (.tup [.int i, x])) { s with heap := g2, toks := s.toks + 1 } :=
      laid_turned I hn (by rw [sizeLine_eq]; simp only [List.length_cons, List.length_nil]; decide) (.cons ⟨s.toks, rfl⟩ (.cons ru .nil)) tt2 kk2 hf ltf
    exact ⟨.ref s.heap.objs.size, _, I2, rfl, ⟨x, _, fun ys hy => by rw [I.tuple_inj hy hq]; exact hx, hn, rfl, rfl⟩, ⟨⟨u, e2⟩, ti'.extBut b2.extBut (Ne.symm ne)⟩, fun b hb => by
      rw [upd_ne (ltf b hb)]
      exact (hf b hb).1⟩
  done := by
    intro X hP hw hK hc i pins s σ H E I hf ⟨⟨old, st⟩, ti⟩ hg
    subst hP hw hK
    obtain ⟨xs, hq, hx⟩ := hg
    obtain ⟨its, rv, p, hz⟩ := I.tuple hq
    have hl := rv.length
    exact en_end (I.ok.hd hc) st ti (show s.heap.IsTuple a its.toArray from p) (by simp; omega) fun g eb => ⟨rfl, turnedL I (fun b o hb e1 => eb b o (fun z => hb (by simp [z])) e1) hf⟩
  self := fun _ _ _ _ _ ⟨⟨_, st⟩, _⟩ h => wpAny_pyIter_enum st h
section
variable {X : Cx} {XQ : XW}
def iEnu (K : PySem.W.Frag) (ta : TA) : TI := fun σ H R => ta σ H fun xs H1 => ∃ a, xs = [.ref a] ∧ (∃ ys, SqT K H1 a ys) ∧ R (Ite K a) H1
theorem pi_enum {es : List Expr} {x1} {tp : Pos} {a : Expr} {ta : TA} {p pos : Pos} (hg : Gl X "enumerate") (hm : X.mg "enumerate" = none) (ha : PA X [a] ta) (hs : starEach [a] X.env = [(false, eval a X.env)] := by rfl) :
    PI X (.Tuple es x1 tp) (.Call (.Name "enumerate" p) [a] [] pos) (iEnu X.K ta) := by
  intro pins s σ H R I h
  refine wpAny_Call_Name_kw (ld_blt I hg hm (by rfl) ?_ (by decide) (by decide))
  refine PyProof.Rows.callWith_type1 (thn (ha pos pins s σ H _ I h) fun us s1 ⟨vs, H1, I1, r1, q1⟩ => ?_) hs rfl
  obtain ⟨c, e, ⟨ys, hq⟩, q⟩ := q1
  subst e
  obtain ⟨u, rfl, rx⟩ := vals1 r1
  cases rx
  obtain ⟨its, rv, pt, hz⟩ := I1.tuple hq
  refine call_en (show s1.heap.IsTuple c its.toArray from pt) fun g e1 i1 kk => ?_
  refine wpAny_pyIter_enum e1 ?_
  have I2 : Inv X pins σ H1 { s1 with heap := g } := I1.kept (t' := s1.toks) kk
  refine ⟨s1.heap.objs.size + 1, [s1.heap.objs.size + 1, s1.heap.objs.size], _, _, H1, rfl, I2, turn_enum c s1.heap.objs.size (s1.heap.objs.size + 1) (Nat.succ_ne_self _), ⟨⟨.none, e1⟩, i1⟩, fun b hb => ?_, q⟩
  have hb' : s1.heap.objs.size ≤ b := by
    rcases List.mem_cons.mp hb with rfl | hb
    · exact Nat.le_succ _
    · have eb : b = s1.heap.objs.size := by simpa using hb
      exact Nat.le_of_eq eb.symm
  exact I1.fpOk hb' (I1.hok.fresh hb')
def ienumerate (f : Ev (List D)) : Ev Src := fun ρ S => (f ρ S).bind fun ds S1 => match ds with
  | [.tup l] => .ok ⟨fun k _ => (l[k]?).map fun d => .tup [.int k, d], l.length + 1⟩ S1
  | _ => .bad
theorem ite_ok {K : PySem.W.Frag} {mp : List Addr} {H : Hp} {a : Addr} {xs : List V} {l : List D} (s : SqT K H a xs) (r : RepL K mp H l xs) : ItOk K mp H (Ite K a) (fun k _ => (l[k]?).map fun d => .tup [.int k, d]) := by
  intro mp' H' S' af rs k
  have s' := af.tup _ _ s
  have r' := RepL.aft af _ _ r
  show match (l[k]?).map (fun d => D.tup [.int k, d]) with
    | some d => (Ite K a).go k H' ∧ ∀ x H2, (Ite K a).yld k H' x H2 → Aft K mp' H' mp' H2 ∧ RS K mp' H2 S' ∧ Rep K mp' H2 d x
    | none => (Ite K a).stop k H'
  cases z : l[k]? with
  | none =>
    refine ⟨xs, s', ?_⟩
    rw [r.len]
    exact List.getElem?_eq_none_iff.mp z
  | some d =>
    obtain ⟨v, e, q⟩ := r'.get z
    refine ⟨⟨xs, v, s', e⟩, fun x H2 ⟨y, p, h2, h3, h4, h5⟩ => ?_⟩
    have h2 := h2 xs s'
    rw [e] at h2
    cases h2
    subst h4 h5
    have af2 : Aft K mp' H' mp' (upd H' p (.tup [.int k, v])) := aft_new h3
    exact ⟨af2, rs.new h3, p, _, rfl, SqT.of upd_same, RepL.cons rfl (RepL.cons (Rep.aft af2 _ _ q) RepL.nil)⟩
theorem ji_enumerate {es : List Expr} {x1} {tp : Pos} {a : Expr} {f : Ev (List D)} {p pos : Pos} (hg : Gl X "enumerate") (hm : X.mg "enumerate" = none) (ha : JA X XQ [a] f) (hs : starEach [a] X.env = [(false, eval a X.env)] := by rfl) :
    JI X XQ (.Tuple es x1 tp) (.Call (.Name "enumerate" p) [a] [] pos) (ienumerate f) := by
  refine PI.mono (pi_enum hg hm ha hs) fun σ H R ⟨mp, ρ, S, G, p⟩ => ?_
  refine bindP G p fun mp1 H1 ds S1 vs a1 G1 r1 p1 => ?_
  split at p1
  · rename_i l
    obtain ⟨v, rfl, h1⟩ := RepL.one r1
    obtain ⟨c, xs, rfl, s, q⟩ := Rep.tup h1
    exact ⟨c, rfl, ⟨xs, s⟩, PostG.ok (R := kI X.K) (d := ⟨fun k _ => (l[k]?).map fun d => .tup [.int k, d], l.length + 1⟩) (S := S1) p1 G1.rs (ite_ok s q)⟩
  · exact p1.elim
end
end DL
set_option Elab.async false
set_option linter.all false
set_option maxRecDepth 100000
namespace DL
open PySem PySem.Spec PyProof.Rows L2
structure Za (z ti to' i j a b : Addr) : Prop where
  q1 : ti ≠ z
  q2 : to' ≠ z
  q3 : i ≠ z
  q4 : j ≠ z
  q5 : ti ≠ to'
  q6 : ti ≠ i
  q7 : ti ≠ j
  q8 : to' ≠ i
  q9 : to' ≠ j
  q10 : i ≠ j
  q11 : a ≠ z
  q12 : a ≠ to'
  q13 : a ≠ i
  q14 : a ≠ j
  q15 : b ≠ z
  q16 : b ≠ to'
  q17 : b ≠ i
  q18 : b ≠ j
section
variable {prog : Program} {w : World} {A : Around} {E : Value → Shared → Prop} {s : Shared}
theorem zp_item {z ti to' i j a b : Addr} {k : Nat} {xs ys : Array Value} {x y c d : Value} {Q : Option Value → Shared → Prop} (D : Za z ti to' i j a b)
    (pz : IsZip s.heap z ti to' .none) (pti : IsPair s.heap ti (.ref i) (.ref j)) (pto : IsPair s.heap to' c d) (pi' : s.heap.IsTupleIter i a k) (pj : s.heap.IsTupleIter j b k) (pa : s.heap.IsTuple a xs) (pb : s.heap.IsTuple b ys) (px : xs[k]? = some x) (py : ys[k]? = some y)
    (fin : ∀ g, IsZip g z ti to' (rawInt s.heap.objs.size) → IsPair g to' x y → g.IsTupleIter i a (k + 1) → g.IsTupleIter j b (k + 1) → IsPair g s.heap.objs.size x y →
      (∀ b o, b ≠ z → b ≠ to' → b ≠ i → b ≠ j → s.heap.get? b = some o → g.get? b = some o) → Q (some (.ref s.heap.objs.size)) { s with heap := g }) : wpAny (model prog w) A (pyNext (.ref z)) Q E s := by
  have ty : s.TypeIs (.ref z) "zip" := ⟨_, pz, rfl⟩
  unfold pyNext
  refine wpAny_bind (wpAny_attempt (wpAny_callSpecial?_slot (name := Str.ofString "__next__") ty F.slot_zip_next (wpAny_call_entry F.slot_zip_next ty F.entry_zip_next ?_ (F.args_zip_next_1 _))))
  show wpAny _ _ (field (.ref z) 2 >>= _) _ _ (_ : Shared)
  refine wpAny_bind (wpAny_field pz rfl (x := .bool false) rfl ?_)
  show wpAny _ _ (field (.ref z) 3 >>= _) _ _ (_ : Shared)
  refine wpAny_bind (wpAny_field pz rfl (x := .ref ti) rfl ?_)
  refine wpAny_bind (wpAny_seqItems pti rfl ?_)
  show wpAny _ _ (Builtin.SmallTypes.ownedTupleIsFree (.ref z) >>= _) _ _ (_ : Shared)
  refine wpAny_bind ?_
  unfold Builtin.SmallTypes.ownedTupleIsFree
  refine wpAny_bind (wpAny_field pz rfl (x := .none) rfl (wpAny_pure ?_))
  simp only [if_true]
  refine wpAny_bind (wpAny_rule ?_)
  refine wpAny_bind (wpAny_field pz rfl (x := .ref to') rfl ?_)
  refine wpAny_bind (wpAny_setField_rec pz (by simp) fun g1 z1 b1 => ?_)
  replace z1 : IsZip g1 z ti to' .ellipsis := z1
  refine wpAny_bind ?_
  simp only [List.zipIdx_cons, List.zipIdx_nil, List.forIn_cons, List.forIn_nil]
  refine wpAny_bind (wpAny_bind (wpAny_onRaise ?_))
  show wpAny _ _ (Builtin.SmallTypes.nextOf (.ref i) >>= _) _ _ (_ : Shared)
  refine wpAny_bind (nt_item (pi'.extBut b1.extBut D.q3) (pa.extBut b1.extBut D.q11) px fun g2 i2 b2 => wpAny_pure ?_)
  have o2 : IsPair g2 to' c d := b2.extBut _ _ D.q8 (b1.extBut _ _ D.q2 pto)
  refine wpAny_bind (wpAny_seqItems o2 rfl ?_)
  refine wpAny_bind (wpAny_updateSeq_pair o2 fun g3 o3 b3 => ?_)
  replace o3 : IsPair g3 to' x d := o3
  refine wpAny_bind (wpAny_letGo (wpAny_pure ?_))
  refine wpAny_bind (wpAny_bind (wpAny_onRaise ?_))
  show wpAny _ _ (Builtin.SmallTypes.nextOf (.ref j) >>= _) _ _ (_ : Shared)
  refine wpAny_bind (nt_item (((pj.extBut b1.extBut D.q4).extBut b2.extBut D.q10.symm).extBut b3.extBut D.q9.symm) (((pb.extBut b1.extBut D.q15).extBut b2.extBut D.q17).extBut b3.extBut D.q16) py fun g4 j4 b4 => wpAny_pure ?_)
  have o4 : IsPair g4 to' x d := b4.extBut _ _ D.q9 o3
  refine wpAny_bind (wpAny_seqItems o4 rfl ?_)
  refine wpAny_bind (wpAny_updateSeq_pair o4 fun g5 o5 b5 => ?_)
  replace o5 : IsPair g5 to' x y := o5
  refine wpAny_bind (wpAny_letGo (wpAny_pure (wpAny_pure ?_)))
  refine wpAny_bind (wpAny_seqItems o5 rfl ?_)
  refine wpAny_bind (wpAny_newTuple ?_)
  have sz : g5.objs.size = s.heap.objs.size := by rw [b5.1, b4.1, b3.1, b2.1, b1.1]
  have z5 : IsZip g5 z ti to' .ellipsis := b5.extBut _ _ D.q2.symm (b4.extBut _ _ D.q4.symm (b3.extBut _ _ D.q2.symm (b2.extBut _ _ D.q3.symm z1)))
  have k5 : ∀ b o, b ≠ z → b ≠ to' → b ≠ i → b ≠ j → s.heap.get? b = some o → g5.get? b = some o := fun b o c1 c2 c3 c4 e =>
    b5.extBut _ _ c2 (b4.extBut _ _ c4 (b3.extBut _ _ c2 (b2.extBut _ _ c3 (b1.extBut _ _ c1 e))))
  have i5 : g5.IsTupleIter i a (k + 1) := ((i2.extBut b3.extBut D.q8.symm).extBut b4.extBut D.q10).extBut b5.extBut D.q8.symm
  have j5 : g5.IsTupleIter j b (k + 1) := j4.extBut b5.extBut D.q9.symm
  have zl : z < g5.objs.size := Heap.lt_size z5
  show wpAny _ _ (Builtin.SmallTypes.ownedTupleHandOut (.ref z) (.ref g5.objs.size) >>= _) _ _ (_ : Shared)
  refine wpAny_bind ?_
  unfold Builtin.SmallTypes.ownedTupleHandOut
  have z6 : IsZip (g5.push { cls := .type "tuple", data := .seq #[x, y] }) z ti to' .ellipsis := Heap.get?_push_of_some _ z5
  refine wpAny_bind (wpAny_setField_rec z6 (by simp) fun g7 z7 b7 => ?_)
  replace z7 : IsZip g7 z ti to' (rawInt g5.objs.size) := z7
  refine wpAny_setField_rec z7 (by simp) fun g8 z8 b8 => ?_
  replace z8 : IsZip g8 z ti to' (rawInt g5.objs.size) := z8
  have up : ∀ b o, b ≠ z → g5.get? b = some o → g8.get? b = some o := fun b o c1 e => b8.extBut _ _ c1 (b7.extBut _ _ c1 (Heap.get?_push_of_some _ e))
  have t8 : IsPair g8 g5.objs.size x y := b8.extBut _ _ (Nat.ne_of_gt zl) (b7.extBut _ _ (Nat.ne_of_gt zl) (Heap.get?_push_size _ rfl))
  rw [sz] at z8 t8
  refine wpAny_pure ⟨_, rfl, wpAny_pure ?_⟩
  show Q (some (.ref g5.objs.size)) _
  rw [sz]
  exact fin g8 z8 (up _ _ D.q2 o5) (i5.at fun o e => up _ o D.q3 e) (j5.at fun o e => up _ o D.q4 e) t8 fun b o c1 c2 c3 c4 e => up b o c1 (k5 b o c1 c2 c3 c4 e)
theorem zp_end {z ti to' i j a b : Addr} {k : Nat} {xs ys : Array Value} {c d : Value} {Q : Option Value → Shared → Prop} (no : A.handled = none) (D : Za z ti to' i j a b)
    (pz : IsZip s.heap z ti to' .none) (pti : IsPair s.heap ti (.ref i) (.ref j)) (pto : IsPair s.heap to' c d) (pi' : s.heap.IsTupleIter i a k) (pj : s.heap.IsTupleIter j b k) (pa : s.heap.IsTuple a xs) (pb : s.heap.IsTuple b ys) (pe : xs[k]? = none ∨ ys[k]? = none)
    (fin : ∀ g, (∀ b o, b ≠ z → b ≠ to' → b ≠ i → b ≠ j → s.heap.get? b = some o → g.get? b = some o) → Q none { s with heap := g }) : wpAny (model prog w) A (pyNext (.ref z)) Q E s := by
  have ty : s.TypeIs (.ref z) "zip" := ⟨_, pz, rfl⟩
  have stop : ∀ (g : Heap) (e : Addr), (∀ b o, b ≠ z → b ≠ to' → b ≠ i → b ≠ j → s.heap.get? b = some o → g.get? b = some o) → (∃ o, g.get? e = some o ∧ o.cls = .type "StopIteration") →
      wpAny (model prog w) A (do if ← isInstance (.ref e) (.type "StopIteration") then pure none else throw (.ref e)) Q E { s with heap := g } := fun g e h1 ⟨o, ho, hc⟩ => by
    refine wpAny_bind (wpAny_isInstance (T := "StopIteration") (b := true) ⟨o, ho, hc⟩ isSubtype_stop ?_)
    exact wpAny_pure (fin _ h1)
  unfold pyNext
  refine wpAny_bind (wpAny_attempt (wpAny_callSpecial?_slot (name := Str.ofString "__next__") ty F.slot_zip_next (wpAny_call_entry F.slot_zip_next ty F.entry_zip_next ?_ (F.args_zip_next_1 _))))
  show wpAny _ _ (field (.ref z) 2 >>= _) _ _ (_ : Shared)
  refine wpAny_bind (wpAny_field pz rfl (x := .bool false) rfl ?_)
  show wpAny _ _ (field (.ref z) 3 >>= _) _ _ (_ : Shared)
  refine wpAny_bind (wpAny_field pz rfl (x := .ref ti) rfl ?_)
  refine wpAny_bind (wpAny_seqItems pti rfl ?_)
  show wpAny _ _ (Builtin.SmallTypes.ownedTupleIsFree (.ref z) >>= _) _ _ (_ : Shared)
  refine wpAny_bind ?_
  unfold Builtin.SmallTypes.ownedTupleIsFree
  refine wpAny_bind (wpAny_field pz rfl (x := .none) rfl (wpAny_pure ?_))
  simp only [if_true]
  refine wpAny_bind (wpAny_rule ?_)
  refine wpAny_bind (wpAny_field pz rfl (x := .ref to') rfl ?_)
  refine wpAny_bind (wpAny_setField_rec pz (by simp) fun g1 z1 b1 => ?_)
  replace z1 : IsZip g1 z ti to' .ellipsis := z1
  refine wpAny_bind ?_
  simp only [List.zipIdx_cons, List.zipIdx_nil, List.forIn_cons, List.forIn_nil]
  refine wpAny_bind (wpAny_bind (wpAny_onRaise ?_))
  show wpAny _ _ (Builtin.SmallTypes.nextOf (.ref i) >>= _) _ _ (_ : Shared)
  cases hx : xs[k]? with
  | none =>
    refine wpAny_bind (nt_end no (pi'.extBut b1.extBut D.q3) (pa.extBut b1.extBut D.q11) hx fun g2 e b2 he => ?_)
    obtain ⟨oe, hoe, hce⟩ := he
    have z2 : IsZip g2 z ti to' .ellipsis := b2 _ _ D.q3.symm z1
    have ez : e ≠ z := fun x => by subst x; rw [z2] at hoe; cases hoe; simp at hce
    refine wpAny_setField_rec z2 (by simp) fun g3 _ b3 => ?_
    exact stop g3 e (fun b o c1 _ c3 _ x => b3.extBut _ _ c1 (b2 _ _ c3 (b1.extBut _ _ c1 x))) ⟨oe, b3.extBut _ _ ez hoe, hce⟩
  | some x =>
    have hy : ys[k]? = none := by
      rcases pe with h | h
      · rw [hx] at h; cases h
      · exact h
    refine wpAny_bind (nt_item (pi'.extBut b1.extBut D.q3) (pa.extBut b1.extBut D.q11) hx fun g2 i2 b2 => wpAny_pure ?_)
    have o2 : IsPair g2 to' c d := b2.extBut _ _ D.q8 (b1.extBut _ _ D.q2 pto)
    refine wpAny_bind (wpAny_seqItems o2 rfl ?_)
    refine wpAny_bind (wpAny_updateSeq_pair o2 fun g3 o3 b3 => ?_)
    refine wpAny_bind (wpAny_letGo (wpAny_pure ?_))
    refine wpAny_bind (wpAny_bind (wpAny_onRaise ?_))
    show wpAny _ _ (Builtin.SmallTypes.nextOf (.ref j) >>= _) _ _ (_ : Shared)
    refine wpAny_bind (nt_end no (((pj.extBut b1.extBut D.q4).extBut b2.extBut D.q10.symm).extBut b3.extBut D.q9.symm) (((pb.extBut b1.extBut D.q15).extBut b2.extBut D.q17).extBut b3.extBut D.q16) hy fun g4 e b4 he => ?_)
    obtain ⟨oe, hoe, hce⟩ := he
    have z4 : IsZip g4 z ti to' .ellipsis := b4 _ _ D.q4.symm (b3.extBut _ _ D.q2.symm (b2.extBut _ _ D.q3.symm z1))
    have ez : e ≠ z := fun x => by subst x; rw [z4] at hoe; cases hoe; simp at hce
    refine wpAny_setField_rec z4 (by simp) fun g5 _ b5 => ?_
    exact stop g5 e (fun b o c1 c2 c3 c4 x => b5.extBut _ _ c1 (b4 _ _ c4 (b3.extBut _ _ c2 (b2.extBut _ _ c3 (b1.extBut _ _ c1 x))))) ⟨oe, b5.extBut _ _ ez hoe, hce⟩
abbrev zg1 (g : Heap) (a : Addr) : Heap := g.push { cls := .type "tuple_iterator", data := .fields #[.ref a, .int 0 0] }
abbrev zg2 (g : Heap) (a b : Addr) : Heap := (zg1 g a).push { cls := .type "tuple_iterator", data := .fields #[.ref b, .int 0 0] }
abbrev zg3 (g : Heap) (a b : Addr) : Heap := (zg2 g a b).push { cls := .type "tuple", data := .seq #[.ref g.objs.size, .ref (zg1 g a).objs.size] }
abbrev zg4 (g : Heap) (a b : Addr) : Heap := (zg3 g a b).push { cls := .type "tuple", data := .seq #[.none, .none] }
abbrev zg5 (g : Heap) (a b : Addr) : Heap := (zg4 g a b).push { cls := .type "zip", data := .fields #[.none, .bool false, .bool false, .ref (zg2 g a b).objs.size, .ref (zg3 g a b).objs.size] }
theorem meets_zp (a b : Addr) (xs ys : Array Value) :
    Meets (Builtin.«zip.__new__» ⟨[.type "zip", .ref a, .ref b], []⟩) (fun _ R s => s.heap.IsTuple a xs ∧ s.heap.IsTuple b ys ∧ R (.ok (.ret (.ref (zg4 s.heap a b).objs.size))) { s with heap := zg5 s.heap a b }) :=
  .of_wp fun prog w A R s h => by
    obtain ⟨hp, g, d, tk, os⟩ := s; obtain ⟨ha, hb, h⟩ := h
    have hsub := sub_zip
    have h1 : Heap.IsTuple (Shared.heap ⟨hp, g, d, tk, os⟩) a xs := ha
    have h2 : Heap.IsTuple (Shared.heap ⟨zg1 hp a, g, d, tk, os⟩) b ys := Heap.IsTuple.push hb _
    wp_walk using wpAny_pyIter_tuple h1, wpAny_pyIter_tuple h2
    exact ⟨_, rfl, h⟩
theorem call_zp {a b : Addr} {xs ys : Array Value} {Q : Value → Shared → Prop} (pa : s.heap.IsTuple a xs) (pb : s.heap.IsTuple b ys)
    (fin : ∀ g, IsZip g (s.heap.objs.size + 4) (s.heap.objs.size + 2) (s.heap.objs.size + 3) .none → IsPair g (s.heap.objs.size + 2) (.ref s.heap.objs.size) (.ref (s.heap.objs.size + 1)) → IsPair g (s.heap.objs.size + 3) .none .none →
      g.IsTupleIter s.heap.objs.size a 0 → g.IsTupleIter (s.heap.objs.size + 1) b 0 → (∀ c o, s.heap.get? c = some o → g.get? c = some o) → Q (.ref (s.heap.objs.size + 4)) { s with heap := g }) :
    wpAny (model prog w) A (call (.type "zip") [.ref a, .ref b]) Q E s := by
  refine callType_new F.called_zip (by decide) (F.typeCall_zip_2 _ _) (F.newCall_zip_2 _ _) (fun obj => F.args_object_init_3 obj _ _) F.entry_zip_new (meets_zp a b xs ys) ⟨pa, pb, ?_⟩
  have n1 : (zg1 s.heap a).objs.size = s.heap.objs.size + 1 := Heap.size_push ..
  have n2 : (zg2 s.heap a b).objs.size = s.heap.objs.size + 2 := by rw [Heap.size_push, n1]
  have n3 : (zg3 s.heap a b).objs.size = s.heap.objs.size + 3 := by rw [Heap.size_push, n2]
  have n4 : (zg4 s.heap a b).objs.size = s.heap.objs.size + 4 := by rw [Heap.size_push, n3]
  have g5 : (zg5 s.heap a b).get? (zg4 s.heap a b).objs.size = some _ := Heap.get?_push_size _ rfl
  have g4 : (zg5 s.heap a b).get? (zg3 s.heap a b).objs.size = some _ := Heap.get?_push_of_some _ (Heap.get?_push_size _ rfl)
  have g3 : (zg5 s.heap a b).get? (zg2 s.heap a b).objs.size = some _ := Heap.get?_push_of_some _ (Heap.get?_push_of_some _ (Heap.get?_push_size _ rfl))
  have g2 : (zg5 s.heap a b).get? (zg1 s.heap a).objs.size = some _ := Heap.get?_push_of_some _ (Heap.get?_push_of_some _ (Heap.get?_push_of_some _ (Heap.get?_push_size _ rfl)))
  have g1 : (zg5 s.heap a b).get? s.heap.objs.size = some _ := Heap.get?_push_of_some _ (Heap.get?_push_of_some _ (Heap.get?_push_of_some _ (Heap.get?_push_of_some _ (Heap.get?_push_size _ rfl))))
  show _ ∧ _
  rw [n2, n3, n4] at g5
  rw [n1, n2] at g3
  rw [n3] at g4
  rw [n1] at g2
  rw [n4]
  exact ⟨⟨_, g5, rfl⟩, fin _ g5 g3 g4 ⟨_, g1, rfl, rfl⟩ ⟨_, g2, rfl, rfl⟩ fun c o x => Heap.get?_push_of_some _ (Heap.get?_push_of_some _ (Heap.get?_push_of_some _ (Heap.get?_push_of_some _ (Heap.get?_push_of_some _ x))))⟩
end
end DL
set_option Elab.async false
set_option linter.all false
set_option maxRecDepth 100000
namespace DL
open PySem PySem.Spec PyProof.Rows L2
def Itz (K : PySem.W.Frag) (a b : Addr) : It :=
  ⟨fun k H => ∃ xs ys x y, SqT K H a xs ∧ SqT K H b ys ∧ xs[k]? = some x ∧ ys[k]? = some y,
   fun k H v H' => ∃ x y p, (∀ xs, SqT K H a xs → xs[k]? = some x) ∧ (∀ ys, SqT K H b ys → ys[k]? = some y) ∧ H p = none ∧ v = .ref p ∧ H' = upd H p (.tup [x, y]),
   fun k H => ∃ xs ys, SqT K H a xs ∧ SqT K H b ys ∧ (xs.length ≤ k ∨ ys.length ≤ k)⟩
def tnZ (z ti to' i j a b : Addr) (k : Nat) (h : Heap) : Prop := IsZip h z ti to' .none ∧ IsPair h ti (.ref i) (.ref j) ∧ (∃ c d, IsPair h to' c d) ∧ h.IsTupleIter i a k ∧ h.IsTupleIter j b k
theorem turn_zip {P : Program} {w : World} {K : PySem.W.Frag} {es : List Expr} {x1} {pos : Pos} (z ti to' i j a b : Addr) (D : Za z ti to' i j a b) :
    Turn P w K (.Tuple es x1 pos) (Itz K a b) [z, ti, to', i, j] z (tnZ z ti to' i j a b) where
  mem := by simp
  obj := fun k h ⟨s1, s2, ⟨c, d, s3⟩, ⟨o4, e4, c4, d4⟩, o5, e5, c5, d5⟩ q hq => by
    simp only [List.mem_cons, List.mem_nil_iff, or_false] at hq
    rcases hq with rfl | rfl | rfl | rfl | rfl
    · exact ⟨_, s1, fun v y => nomatch (show Data.fields _ = Data.cell v from y)⟩
    · exact ⟨_, s2, fun v y => nomatch (show Data.seq _ _ = Data.cell v from y)⟩
    · exact ⟨_, s3, fun v y => nomatch (show Data.seq _ _ = Data.cell v from y)⟩
    · exact ⟨o4, e4, fun v y => by rw [d4] at y; cases y⟩
    · exact ⟨o5, e5, fun v y => by rw [d5] at y; cases y⟩
  keep := fun k h h' ⟨s1, s2, ⟨c, d, s3⟩, s4, s5⟩ kk => ⟨kk z (by simp) _ s1, kk ti (by simp) _ s2, ⟨c, d, kk to' (by simp) _ s3⟩, s4.at fun o e => kk i (by simp) o e, s5.at fun o e => kk j (by simp) o e⟩
  item := by
    intro X hP hw hK hc k pins s σ H E I hf ⟨s1, s2, ⟨c, d, s3⟩, s4, s5⟩ hg
    subst hP hw hK
    obtain ⟨xs, ys, x, y, hqa, hqb, hx, hy⟩ := hg
    obtain ⟨ita, rva, pa, _⟩ := I.tuple hqa
    obtain ⟨itb, rvb, pb, _⟩ := I.tuple hqb
    obtain ⟨u, hu, ru⟩ := rva.get hx
    obtain ⟨v, hv, rv⟩ := rvb.get hy
    have hn : H s.heap.objs.size = none := I.hok.fresh (Nat.le_refl _)
    refine zp_item D s1 s2 s3 s4 s5 (show s.heap.IsTuple a ita.toArray from pa) (show s.heap.IsTuple b itb.toArray from pb) (x := u) (y := v) (by simpa using hu) (by simpa using hv) fun g t1 t2 t3 t4 t5 kk => ?_
    refine ⟨_, rfl, wpAny_letOwnedTupleGo_zip t1 fun g2 e2 b2 => ?_⟩
    have kk2 : ∀ q o, q ∉ [z, ti, to', i, j] → s.heap.get? q = some o → g2.get? q = some o := fun q o hq h1 =>
      b2.extBut q o (fun y => hq (by simp [y])) (kk q o (fun y => hq (by simp [y])) (fun y => hq (by simp [y])) (fun y => hq (by simp [y])) (fun y => hq (by simp [y])) h1)
    have zl : s.heap.objs.size ≠ z := Nat.ne_of_gt (Heap.lt_size s1)
    have tt2 : g2.get? s.heap.objs.size = some { cls := .type "tuple", data := .seq [u, v].toArray } := b2.extBut _ _ zl t5
    have ltf : ∀ q ∈ [z, ti, to', i, j], q ≠ s.heap.objs.size := fun q hq => by
      simp only [List.mem_cons, List.mem_nil_iff, or_false] at hq
      rcases hq with rfl | rfl | rfl | rfl | rfl
      · exact Ne.symm zl
      · exact Nat.ne_of_lt (Heap.lt_size s2)
      · exact Nat.ne_of_lt (Heap.lt_size s3)
      · obtain ⟨o, e1, _⟩ := s4; exact Nat.ne_of_lt (Heap.lt_size e1)
      · obtain ⟨o, e1, _⟩ := s5; exact Nat.ne_of_lt (Heap.lt_size e1)
    have I2 : Inv X pins σ (upd H s.heap.objs.size (.tup [x, y])) { s with heap := g2 } :=
      laid_turned (tk := s.toks) I hn (by rw [sizeLine_eq]; simp only [List.length_cons, List.length_nil]; decide) (.cons ru (.cons rv .nil)) tt2 kk2 hf ltf
    have p2 : IsPair g2 ti (.ref i) (.ref j) := b2.extBut _ _ D.q1 (kk ti _ D.q1 D.q5 D.q6 D.q7 s2)
    exact ⟨.ref s.heap.objs.size, _, I2, rfl, ⟨x, y, _, fun zs hz => by rw [I.tuple_inj hz hqa]; exact hx, fun zs hz => by rw [I.tuple_inj hz hqb]; exact hy, hn, rfl, rfl⟩,
      ⟨e2, p2, ⟨_, _, b2.extBut _ _ D.q2 t2⟩, t3.extBut b2.extBut D.q3, t4.extBut b2.extBut D.q4⟩, fun q hq => by
        rw [upd_ne (ltf q hq)]
        exact (hf q hq).1⟩
  done := by
    intro X hP hw hK hc k pins s σ H E I hf ⟨s1, s2, ⟨c, d, s3⟩, s4, s5⟩ hg
    subst hP hw hK
    obtain ⟨xs, ys, hqa, hqb, hx⟩ := hg
    obtain ⟨ita, rva, pa, _⟩ := I.tuple hqa
    obtain ⟨itb, rvb, pb, _⟩ := I.tuple hqb
    have la := rva.length
    have lb := rvb.length
    refine zp_end (I.ok.hd hc) D s1 s2 s3 s4 s5 (show s.heap.IsTuple a ita.toArray from pa) (show s.heap.IsTuple b itb.toArray from pb) ?_ fun g kk => ⟨rfl, turnedL I (fun q o hq e1 => kk q o (fun y => hq (by simp [y])) (fun y => hq (by simp [y])) (fun y => hq (by simp [y])) (fun y => hq (by simp [y])) e1) hf⟩
    rcases hx with h | h
    · exact .inl (by simp; omega)
    · exact .inr (by simp; omega)
  self := fun _ _ _ _ _ ⟨st, _⟩ h => wpAny_pyIter_zip st h
section
variable {X : Cx} {XQ : XW}
def iZip (K : PySem.W.Frag) (ta : TA) : TI := fun σ H R => ta σ H fun xs H1 => ∃ a b, xs = [.ref a, .ref b] ∧ (∃ ys, SqT K H1 a ys) ∧ (∃ ys, SqT K H1 b ys) ∧ R (Itz K a b) H1
theorem pi_zip {es : List Expr} {x1} {tp : Pos} {a b : Expr} {ta : TA} {p pos : Pos} (hg : Gl X "zip") (hm : X.mg "zip" = none) (ha : PA X [a, b] ta) (hs : starEach [a, b] X.env = (false, eval a X.env) :: starEach [b] X.env := by rfl) (hpl : (backTo pos (starEach [b] X.env)).any (·.1) = false := by rfl) :
    PI X (.Tuple es x1 tp) (.Call (.Name "zip" p) [a, b] [] pos) (iZip X.K ta) := by
  intro pins s σ H R I h
  refine wpAny_Call_Name_kw (ld_blt I hg hm (by rfl) ?_ (by decide) (by decide))
  refine PyProof.Rows.callWith_type1 (thn (ha pos pins s σ H _ I h) fun us s1 ⟨vs, H1, I1, r1, q1⟩ => ?_) hs hpl
  obtain ⟨c, d, e, ⟨ys, hqa⟩, ⟨zs, hqb⟩, q⟩ := q1
  subst e
  obtain ⟨u, u', rfl, rx, ry⟩ := vals2 r1
  cases rx
  cases ry
  obtain ⟨ita, _, pa, _⟩ := I1.tuple hqa
  obtain ⟨itb, _, pb, _⟩ := I1.tuple hqb
  have ca : c < s1.heap.objs.size := by obtain ⟨o, e1, _⟩ := (show s1.heap.IsTuple c ita.toArray from pa); exact Heap.lt_size e1
  have cb : d < s1.heap.objs.size := by obtain ⟨o, e1, _⟩ := (show s1.heap.IsTuple d itb.toArray from pb); exact Heap.lt_size e1
  refine call_zp (show s1.heap.IsTuple c ita.toArray from pa) (show s1.heap.IsTuple d itb.toArray from pb) fun g t1 t2 t3 t4 t5 kk => ?_
  refine wpAny_pyIter_zip t1 ?_
  have I2 : Inv X pins σ H1 { s1 with heap := g } := I1.kept (t' := s1.toks) kk
  have far : ∀ m n : Nat, m ≠ n → s1.heap.objs.size + m ≠ s1.heap.objs.size + n := fun m n h z => h (Nat.add_left_cancel z)
  have up : ∀ (e : Addr) (n : Nat), e < s1.heap.objs.size → e ≠ s1.heap.objs.size + n := fun e n h => Nat.ne_of_lt (Nat.lt_of_lt_of_le h (Nat.le_add_right _ _))
  have D : Za (s1.heap.objs.size + 4) (s1.heap.objs.size + 2) (s1.heap.objs.size + 3) s1.heap.objs.size (s1.heap.objs.size + 1) c d :=
    ⟨far 2 4 (by decide), far 3 4 (by decide), far 0 4 (by decide), far 1 4 (by decide), far 2 3 (by decide), far 2 0 (by decide), far 2 1 (by decide), far 3 0 (by decide), far 3 1 (by decide), far 0 1 (by decide), up c 4 ca, up c 3 ca, up c 0 ca, up c 1 ca, up d 4 cb, up d 3 cb, up d 0 cb, up d 1 cb⟩
  refine ⟨s1.heap.objs.size + 4, [s1.heap.objs.size + 4, s1.heap.objs.size + 2, s1.heap.objs.size + 3, s1.heap.objs.size, s1.heap.objs.size + 1], _, _, H1, rfl, I2, turn_zip _ _ _ _ _ c d D, ⟨t1, t2, ⟨_, _, t3⟩, t4, t5⟩, fun q hq => ?_, q⟩
  have hb' : s1.heap.objs.size ≤ q := by
    simp only [List.mem_cons, List.mem_nil_iff, or_false] at hq
    rcases hq with rfl | rfl | rfl | rfl | rfl
    · exact Nat.le_add_right _ _
    · exact Nat.le_add_right _ _
    · exact Nat.le_add_right _ _
    · exact Nat.le_refl _
    · exact Nat.le_add_right _ _
  exact I1.fpOk hb' (I1.hok.fresh hb')
def zipAt (l m : List D) (k : Nat) : Option D := match l[k]?, m[k]? with
  | some x, some y => some (.tup [x, y])
  | _, _ => none
def izip (f : Ev (List D)) : Ev Src := fun ρ S => (f ρ S).bind fun ds S1 => match ds with
  | [.tup l, .tup m] => .ok ⟨fun k _ => zipAt l m k, l.length + 1⟩ S1
  | _ => .bad
theorem itz_ok {K : PySem.W.Frag} {mp : List Addr} {H : Hp} {a b : Addr} {xs ys : List V} {l m : List D} (s : SqT K H a xs) (r : RepL K mp H l xs) (s2 : SqT K H b ys) (r2 : RepL K mp H m ys) : ItOk K mp H (Itz K a b) (fun k _ => zipAt l m k) := by
  intro mp' H' S' af rs k
  have s' := af.tup _ _ s
  have r' := RepL.aft af _ _ r
  have s2' := af.tup _ _ s2
  have r2' := RepL.aft af _ _ r2
  show match zipAt l m k with
    | some d => (Itz K a b).go k H' ∧ ∀ x H2, (Itz K a b).yld k H' x H2 → Aft K mp' H' mp' H2 ∧ RS K mp' H2 S' ∧ Rep K mp' H2 d x
    | none => (Itz K a b).stop k H'
  unfold zipAt
  cases z : l[k]? with
  | none =>
    refine ⟨xs, ys, s', s2', .inl ?_⟩
    rw [r.len]
    exact List.getElem?_eq_none_iff.mp z
  | some d =>
    cases z2 : m[k]? with
    | none =>
      refine ⟨xs, ys, s', s2', .inr ?_⟩
      rw [r2.len]
      exact List.getElem?_eq_none_iff.mp z2
    | some d2 =>
      obtain ⟨v, e, q⟩ := r'.get z
      obtain ⟨v2, e2, q2⟩ := r2'.get z2
      refine ⟨⟨xs, ys, v, v2, s', s2', e, e2⟩, fun x H2 ⟨y, y2, p, h1, h2, h3, h4, h5⟩ => ?_⟩
      have h1 := h1 xs s'
      have h2 := h2 ys s2'
      rw [e] at h1
      rw [e2] at h2
      cases h1
      cases h2
      subst h4 h5
      have af2 : Aft K mp' H' mp' (upd H' p (.tup [v, v2])) := aft_new h3
      exact ⟨af2, rs.new h3, p, _, rfl, SqT.of upd_same, RepL.cons (Rep.aft af2 _ _ q) (RepL.cons (Rep.aft af2 _ _ q2) RepL.nil)⟩
theorem ji_zip {es : List Expr} {x1} {tp : Pos} {a b : Expr} {f : Ev (List D)} {p pos : Pos} (hg : Gl X "zip") (hm : X.mg "zip" = none) (ha : JA X XQ [a, b] f) (hs : starEach [a, b] X.env = (false, eval a X.env) :: starEach [b] X.env := by rfl) (hpl : (backTo pos (starEach [b] X.env)).any (·.1) = false := by rfl) :
    JI X XQ (.Tuple es x1 tp) (.Call (.Name "zip" p) [a, b] [] pos) (izip f) := by
  refine PI.mono (pi_zip hg hm ha hs hpl) fun σ H R ⟨mp, ρ, S, G, p⟩ => ?_
  refine bindP G p fun mp1 H1 ds S1 vs a1 G1 r1 p1 => ?_
  split at p1
  · rename_i l m
    obtain ⟨v, v2, rfl, h1, h2⟩ := RepL.two r1
    obtain ⟨c, xs, rfl, s, q⟩ := Rep.tup h1
    obtain ⟨d, ys, rfl, s2, q2⟩ := Rep.tup h2
    exact ⟨c, d, rfl, ⟨xs, s⟩, ⟨ys, s2⟩, PostG.ok (R := kI X.K) (d := ⟨fun k _ => zipAt l m k, l.length + 1⟩) (S := S1) p1 G1.rs (itz_ok s q s2 q2)⟩
  · exact p1.elim
end
end DL
set_option Elab.async false
set_option linter.all false
set_option maxRecDepth 100000
namespace DL
open PySem PySem.Spec PyProof.Rows L2
section
variable {prog : Program} {w : World} {A : Around} {E : Value → Shared → Prop} {s : Shared}
end
section
variable {X : Cx} {XQ : XW}
def rvD (x : D) (st : Option Int) (S : Sto) : Out D := match x, st with
  | .tup l, some (-1) => .ok (.tup l.reverse) S
  | _, _ => .bad
def rv (fe : Ev D) (fs : Ev (Option Int)) : Ev D := fun ρ S => (fe ρ S).bind fun x S1 => (fs ρ S1).bind fun o S2 => rvD x o S2
end
end DL
set_option Elab.async false
set_option linter.all false
set_option maxRecDepth 100000
namespace DL
open PySem PySem.Spec PyProof.Rows L2
section
variable {K : PySem.W.Frag} {mp : List Addr} {H : Hp}
end
section
variable {X : Cx} {XQ : XW} {a b : Expr} {fa fb : Ev D} {pos : Pos}
end
end DL
set_option Elab.async false
set_option linter.all false
set_option maxRecDepth 100000
namespace DL
open PySem PySem.Spec PyProof.Rows L2
section
variable {X : Cx} {XQ : XW}
def strsOf : List D → Option (List Str)
  | [] => some []
  | .str z :: r => (strsOf r).map (z :: ·)
  | _ :: _ => none
theorem RepL.strs {K : PySem.W.Frag} {mp : List Addr} {H : Hp} : ∀ {l : List D} {vs : List V} {ns : List Str}, RepL K mp H l vs → strsOf l = some ns → vs = ns.map V.str
  | [], vs, ns, h, e => by
    cases (show vs = [] from h)
    cases (Option.some.inj (show some [] = some ns from e))
    rfl
  | d :: l, vs, ns, h, e => by
    obtain ⟨v, r, rfl, h1, h2⟩ := h
    cases d with
    | str i =>
      have e : (strsOf l).map (i :: ·) = some ns := e
      cases z : strsOf l with
      | none => rw [z] at e; cases e
      | some ms =>
        rw [z] at e
        cases (Option.some.inj e)
        cases (show v = .str i from h1)
        rw [RepL.strs h2 z]
        rfl
    | _ => cases (show (none : Option (List Str)) = some ns from e)
theorem vals_strs : ∀ {ys : List Str} {its : List Value}, Vals (ys.map V.str) its → StrsAre its ys
  | [], _, .nil => .nil
  | y :: ys, _, .cons r t => by
    obtain ⟨tk, rfl⟩ := r
    exact .cons y tk (vals_strs t)
def rJoin (K : PySem.W.Frag) : V → List V → Hp → VK → Prop := fun x vs H Q => ∃ z a ys, x = .str z ∧ vs = [.ref a] ∧ SqL K H a (ys.map V.str) ∧ (ys.map (·.length)).sum + ys.length * z.length ≤ 1000000 ∧ Q (.str (Txt.join z ys)) H
theorem mt_join : MtM X "str.join" (rJoin X.K) := by
  intro pins s σ H x vs v us Q I rx rv h
  obtain ⟨z, a, ys, rfl, rfl, hs, hb, q⟩ := h
  obtain ⟨t, rfl⟩ := rx
  obtain ⟨u, rfl, ru⟩ := rv.one
  cases ru
  obtain ⟨its, r, pl, _⟩ := I.list hs
  exact join_list pl.isList (by simpa using vals_strs r) (Nat.le_trans hb (by decide)) fun t' k => ⟨.str _, H, I.tok k, ⟨t', rfl⟩, q⟩
def joinD (x : D) (xs : List D) (S : Sto) : Out D := match x, xs with
  | .str z, [.lst i] => match S[i]? with
    | some c => match strsOf c.xs with
      | some ys => if (ys.map (·.length)).sum + ys.length * z.length ≤ 1000000 then .ok (.str (Txt.join z ys)) S else .bad
      | none => .bad
    | none => .bad
  | _, _ => .bad
theorem md_join {K : PySem.W.Frag} : MeD K (rJoin K) joinD := by
  intro XQ σ ρ mp H S x xs v vs Q rs rx r p
  unfold joinD at p
  split at p
  · rename_i z i
    split at p
    · rename_i c zc
      split at p
      · rename_i ys zs
        by_cases hb : (ys.map (·.length)).sum + ys.length * z.length ≤ 1000000
        · rw [if_pos hb] at p
          obtain ⟨w, rfl, hw⟩ := RepL.one r
          cases (show v = .str z from rx)
          obtain ⟨a, us, rfl, ha, sq, q, f⟩ := rs.items hw zc
          rw [RepL.strs q zs] at sq
          exact ⟨z, a, ys, rfl, rfl, sq, hb, PostG.ok (R := Rep K) p rs rfl⟩
        · rw [if_neg hb] at p; exact p.elim
      · exact p.elim
    · exact p.elim
  · exact p.elim
def isStr : D → Bool
  | .str _ => true
  | _ => false
def mts (o : D → List D → Sto → Out D) (fo : Ev D) (f : Ev (List D)) : Ev D := fun ρ S => (fo ρ S).bind fun x S1 => if isStr x = true then (f ρ S1).bind fun xs S2 => o x xs S2 else .bad
theorem je_join {o e : Expr} {apos cpos : Pos} {fo : Ev D} {f : Ev (List D)} (ho : JE X XQ o fo) (ha : JA X XQ [e] f)
    (hbase : attributeBase o "join" X.env (eval o X.env) = eval o X.env := by rfl)
    (hfew : ((backTo cpos (starEach [e] X.env)).all (fun x => !x.1) && (backToKw cpos (keywordEach [] X.env)).all (fun x => x.1.isSome)
      && decide ([e].length + ([] : List Keyword).length + (if ([] : List Keyword).isEmpty then 0 else 1) < 30)) = true := by rfl)
    (hline : (apos.endLine == cpos.line) = true := by rfl) (hs : starEach [e] X.env = (false, eval e X.env) :: starEach [] X.env := by rfl) (hplain : (backTo cpos (starEach [] X.env)).any (·.1) = false := by rfl) :
    JE X XQ (.Call (.Attribute o "join" apos) [e] [] cpos) (mts joinD fo f) := by
  refine PE.mono (pe_bm PySem.F.plainAttrs_str PySem.F.slot_str_join PySem.F.type_str_join mt_join ho ha hbase hfew hline hs hplain) fun σ H Q ⟨mp, ρ, S, G, p⟩ => ?_
  refine bindP G p fun mp1 H1 x S1 v a1 G1 r1 p1 => ?_
  by_cases hl : isStr x = true
  · rw [if_pos hl] at p1
    have ty : tyV X.K "str" v H1 := by
      cases x with
      | str z => cases (show v = .str z from r1); exact rfl
      | _ => cases hl
    exact ⟨ty, bindP G1 p1 fun mp2 H2 xs S2 vs a2 G2 r2 p2 => md_join XQ σ ρ mp2 H2 S2 x xs v vs Q G2.rs (Rep.aft a2 _ _ r1) r2 p2⟩
  · rw [if_neg hl] at p1; exact p1.elim
inductive JFs (X : Cx) (XQ : XW) : List Expr → List (Ev D) → Prop
  | nil : JFs X XQ [] []
  | cons {e : Expr} {f : Ev D} {es : List Expr} {fs : List (Ev D)} : JE X XQ e f → JFs X XQ es fs → JFs X XQ (e :: es) (f :: fs)
end
end DL
set_option Elab.async false
set_option linter.all false
set_option maxRecDepth 100000
namespace DL
open PySem PySem.Spec PyProof.Rows L2
structure Zb (z ti to' i j l a b c : Addr) : Prop where
  tz : ti ≠ z
  oz : to' ≠ z
  iz : i ≠ z
  jz : j ≠ z
  lz : l ≠ z
  t_o : ti ≠ to'
  t_i : ti ≠ i
  t_j : ti ≠ j
  t_l : ti ≠ l
  oi : to' ≠ i
  oj : to' ≠ j
  ol : to' ≠ l
  ij : i ≠ j
  il : i ≠ l
  jl : j ≠ l
  az : a ≠ z
  ao : a ≠ to'
  ai : a ≠ i
  aj : a ≠ j
  al : a ≠ l
  bz : b ≠ z
  bo : b ≠ to'
  bi : b ≠ i
  bj : b ≠ j
  bl : b ≠ l
  cz : c ≠ z
  co : c ≠ to'
  ci : c ≠ i
  cj : c ≠ j
  cl : c ≠ l
section
variable {prog : Program} {w : World} {A : Around} {E : Value → Shared → Prop} {s : Shared}
end
end DL
set_option Elab.async false
set_option linter.all false
set_option maxRecDepth 100000
namespace DL
open PySem PySem.Spec PyProof.Rows L2
section
variable {X : Cx} {XQ : XW}
end
end DL
set_option Elab.async false
set_option linter.all false
set_option maxRecDepth 100000
namespace DL
open PySem PySem.Spec PyProof.Rows L2
section
open Builtin Builtin.Str
variable {prog : Program} {w : World} {A : Around} {E : Value → Shared → Prop} {s : Shared}
theorem split_own {x y : Str} {t u : Tok} {Q : Value → Shared → Prop} (hy : (y.length == 0) = false)
    (hq : ∀ (l : List (Str × Tok)) (k : Nat), l.map (·.1) = Txt.split x y → Q (.ref s.heap.objs.size) { s with toks := k, heap := s.heap.push { cls := .type "list", data := .seq (strValues l).toArray } })
    (hsz : x.length ≤ sizeLine) (hsz2 : (partsBetween x (occurrences x y 0 x.length (x.length + 1)) y.length).length ≤ sizeLine) :
    wpAny (model prog w) A (call (.builtin "str.split") [.str x t, .str y u]) Q E s := by
  cases h1 : (decide (x.length < y.length) || decide (strKind x < strKind y))
  · cases hf : (occurrences x y 0 x.length (x.length + 1)).isEmpty
    · refine call_meets F.slot_str_split (typeIs_str _ _ _) F.entry_str_split (F.args_str_split_2 _ _) (meets_str_split_sep x y t u h1 hy hf hsz hsz2) ?_
      show wants Q E _ { s with toks := _, heap := s.heap.push { cls := .type "list", data := .seq (strsFrom s.toks (partsBetween x (occurrences x y 0 x.length (x.length + 1)) y.length)).toArray } }
      rw [strsFrom_eq]
      exact hq (numbered s.toks _) _ ((numbered_texts _ _).trans ((if_neg (ne_true_of_eq_false h1)).trans (if_neg (ne_true_of_eq_false hf))).symm)
    · exact call_meets F.slot_str_split (typeIs_str _ _ _) F.entry_str_split (F.args_str_split_2 _ _) (meets_str_split_not_found x y t u h1 hy hf)
        (hq [(x, t)] s.toks ((if_neg (ne_true_of_eq_false h1)).trans (if_pos hf)).symm)
  · exact call_meets F.slot_str_split (typeIs_str _ _ _) F.entry_str_split (F.args_str_split_2 _ _) (meets_str_split_cannot_occur x y t u h1)
      (hq [(x, t)] s.toks (if_pos h1).symm)
theorem vals_strV : ∀ l : List (Str × Tok), Vals ((l.map (·.1)).map V.str) (strValues l)
  | [] => .nil
  | (x, t) :: r => .cons ⟨t, rfl⟩ (vals_strV r)
def nParts (x y : Str) : Nat := (partsBetween x (occurrences x y 0 x.length (x.length + 1)) y.length).length
end
section
variable {X : Cx} {XQ : XW}
def okSplit (z y : Str) : Bool := (!(y.length == 0)) && (decide (z.length ≤ 1000000) && (decide (nParts z y ≤ 1000000) && decide ((Txt.split z y).length ≤ 1000000)))
def rSplit : V → List V → Hp → VK → Prop := fun x vs H Q => ∃ z y, x = .str z ∧ vs = [.str y] ∧ okSplit z y = true ∧ ∀ a, H a = none → Q (.ref a) (upd H a (.lst ((Txt.split z y).map V.str)))
theorem mt_split : MtM X "str.split" rSplit := by
  intro pins s σ H x vs v us Q I rx rv h
  obtain ⟨z, y, rfl, rfl, hb, q⟩ := h
  obtain ⟨t, rfl⟩ := rx
  obtain ⟨u, rfl, ru⟩ := rv.one
  obtain ⟨t2, rfl⟩ := ru
  unfold okSplit at hb
  simp only [Bool.and_eq_true, decide_eq_true_eq, Bool.not_eq_true'] at hb
  obtain ⟨b1, b2, b3, b4⟩ := hb
  have hf : H s.heap.objs.size = none := I.hok.fresh (Nat.le_refl _)
  refine split_own b1 (fun l k hl => ?_) (line_le b2) (line_le b3)
  refine ⟨.ref s.heap.objs.size, upd H s.heap.objs.size (.lst ((Txt.split z y).map V.str)), I.laid (t' := k) (fun b u e => Heap.get?_push_of_some _ e) (Nat.le_refl _) ?_, rfl, q _ hf⟩
  exact ⟨by rw [List.length_map]; exact line_le b4, strValues l, 0, by rw [← hl]; exact vals_strV l, Heap.get?_push_size _ rfl⟩
def splitD (x : D) (xs : List D) (S : Sto) : Out D := match x, xs with
  | .str z, [.str y] => if okSplit z y = true then .ok (.lst S.length) (S ++ [⟨false, (Txt.split z y).map D.str⟩]) else .bad
  | _, _ => .bad
theorem rep_strs {K : PySem.W.Frag} {mp : List Addr} {H : Hp} : ∀ l : List Str, RepL K mp H (l.map D.str) (l.map V.str)
  | [] => RepL.nil
  | _ :: r => RepL.cons rfl (rep_strs r)
theorem md_split {K : PySem.W.Frag} : MeD K rSplit splitD := by
  intro XQ σ ρ mp H S x xs v vs Q rs rx r p
  unfold splitD at p
  split at p
  · rename_i z y
    by_cases hb : okSplit z y = true
    · rw [if_pos hb] at p
      obtain ⟨w, rfl, hw⟩ := RepL.one r
      cases (show v = .str z from rx)
      cases (show w = .str y from hw)
      refine ⟨z, y, rfl, rfl, hb, fun a ha => ?_⟩
      obtain ⟨af, rs', la⟩ := rs.newL ha (rep_strs (Txt.split z y))
      exact PostG.ok (R := Rep K) (PostG.aft p af) rs' ⟨a, rfl, la⟩
    · rw [if_neg hb] at p; exact p.elim
  · exact p.elim
theorem je_split {o e : Expr} {apos cpos : Pos} {fo : Ev D} {f : Ev (List D)} (ho : JE X XQ o fo) (ha : JA X XQ [e] f)
    (hbase : attributeBase o "split" X.env (eval o X.env) = eval o X.env := by rfl)
    (hfew : ((backTo cpos (starEach [e] X.env)).all (fun x => !x.1) && (backToKw cpos (keywordEach [] X.env)).all (fun x => x.1.isSome)
      && decide ([e].length + ([] : List Keyword).length + (if ([] : List Keyword).isEmpty then 0 else 1) < 30)) = true := by rfl)
    (hline : (apos.endLine == cpos.line) = true := by rfl) (hs : starEach [e] X.env = (false, eval e X.env) :: starEach [] X.env := by rfl) (hplain : (backTo cpos (starEach [] X.env)).any (·.1) = false := by rfl) :
    JE X XQ (.Call (.Attribute o "split" apos) [e] [] cpos) (mts splitD fo f) := by
  refine PE.mono (pe_bm PySem.F.plainAttrs_str PySem.F.slot_str_split PySem.F.type_str_split mt_split ho ha hbase hfew hline hs hplain) fun σ H Q ⟨mp, ρ, S, G, p⟩ => ?_
  refine bindP G p fun mp1 H1 x S1 v a1 G1 r1 p1 => ?_
  by_cases hl : isStr x = true
  · rw [if_pos hl] at p1
    have ty : tyV X.K "str" v H1 := by
      cases x with
      | str z => cases (show v = .str z from r1); exact rfl
      | _ => cases hl
    exact ⟨ty, bindP G1 p1 fun mp2 H2 xs S2 vs a2 G2 r2 p2 => md_split XQ σ ρ mp2 H2 S2 x xs v vs Q G2.rs (Rep.aft a2 _ _ r1) r2 p2⟩
  · rw [if_neg hl] at p1; exact p1.elim
def istD (x y : D) (S : Sto) : Out D := match x, y with
  | .str i, .str j => .ok (.bl (!(Builtin.Str.occurrences j i 0 j.length 1).isEmpty)) S
  | _, _ => .bad
theorem od_ins {K : PySem.W.Frag} : OpD K (fun x y H Q => ∃ i j, x = .str i ∧ y = .str j ∧ Q (.bl (!(Builtin.Str.occurrences j i 0 j.length 1).isEmpty)) H) istD := by
  intro XQ σ ρ mp H S x y v u Q rs rx ry p
  unfold istD at p
  split at p
  · rename_i i j
    cases (show v = .str i from rx)
    cases (show u = .str j from ry)
    exact ⟨i, j, rfl, rfl, PostG.ok (R := Rep K) p rs rfl⟩
  · exact p.elim
variable {a b : Expr} {fa fb : Ev D} {pos : Pos}
theorem je_ins (ha : JE X XQ a fa) (hb : JE X XQ b fb) (hm : behindInMarks .In b = false := by rfl) : JE X XQ (.Compare a [.In] [b] pos) (o2 istD fa fb) := je_cmp op_in_str od_ins ha hb hm
theorem call_intS : CallR X (.type "int") (fun xs H Q => ∃ z n, xs = [.str z] ∧ PySem.intText? z = some n ∧ z.length ≤ 640 ∧ Q (.int n) H) := by
  intro pins s σ H xs us Q I r h
  obtain ⟨z, n, rfl, hn, hl, q⟩ := h
  obtain ⟨u, rfl, t, rfl⟩ := vals1 r
  exact PySem.W.KIN.call_text hn hl ⟨.int n, H, I.tok _, ⟨_, rfl⟩, q⟩
def intSD (xs : List D) (S : Sto) : Out D := match xs with
  | [.str z] => match PySem.intText? z with
    | some n => if z.length ≤ 640 then .ok (.int n) S else .bad
    | none => .bad
  | _ => .bad
theorem bd_intS {K : PySem.W.Frag} : BlD K (fun xs H Q => ∃ z n, xs = [.str z] ∧ PySem.intText? z = some n ∧ z.length ≤ 640 ∧ Q (.int n) H) intSD := by
  intro XQ σ ρ mp H S xs vs Q rs r p
  unfold intSD at p
  split at p
  · rename_i z
    split at p
    · rename_i n hn
      by_cases hb : z.length ≤ 640
      · rw [if_pos hb] at p
        obtain ⟨v, rfl, h⟩ := RepL.one r
        cases (show v = .str z from h)
        exact ⟨z, n, rfl, hn, hb, PostG.ok (R := Rep K) p rs rfl⟩
      · rw [if_neg hb] at p; exact p.elim
    · exact p.elim
  · exact p.elim
theorem je_intS {p pos : Pos} {e : Expr} {f : Ev (List D)} (hg : Gl X "int") (hm : X.mg "int" = none) (ha : JA X XQ [e] f) (he : starEach [e] X.env = (false, eval e X.env) :: starEach [] X.env := by rfl) : JE X XQ (.Call (.Name "int" p) [e] [] pos) (b1 intSD f) := je_ty call_intS bd_intS hg hm (by rfl) ha (he := he)
end
end DL
set_option Elab.async false
set_option linter.all false
set_option maxRecDepth 100000
namespace DL
open PySem PySem.Spec PyProof.Rows L2
def Its (z : Str) : It := ⟨fun i _ => i < z.cps.size, fun i H x H' => H' = H ∧ ∃ c, z.cps[i]? = some c ∧ x = .str ⟨#[c]⟩, fun i _ => z.cps.size ≤ i⟩
theorem turn_ascii {P : Program} {w : World} {K : PySem.W.Frag} {tg : Expr} (z : Str) (t : Tok) (it : Addr) : Turn P w K tg (Its z) [it] it (fun i h => h.IsStrIter it "str_ascii_iterator" z t i) where
  mem := by simp
  obj := fun i h st b hb => by
    have e : b = it := by simpa using hb
    subst e
    obtain ⟨o, e, c, d⟩ := st
    exact ⟨o, e, fun v z => by rw [d] at z; cases z⟩
  keep := fun i h h' ⟨o, e, r⟩ k => ⟨o, k it (by simp) o e, r⟩
  item := by
    intro X hP hw hK hc i pins s σ H E I hf st hg
    subst hP hw hK
    have hg : i < z.cps.size := hg
    obtain ⟨f0, f1, f2, f3, f4, f5⟩ := hf it (by simp)
    refine wpAny_pyNext_ascii_item st (c := z.cps[i]) (by simp [hg]) fun h' st' sb => ?_
    have I1 : Inv X pins σ H { s with heap := h', toks := s.toks + 1 } := I.turned (t' := s.toks + 1) (fun b o hb e => (sb.2 b hb).trans e) f0 f1 f3 f4 f5
    obtain ⟨o, e, c, d⟩ := id st'
    exact ⟨_, rfl, go_of (s := { s with heap := h', toks := s.toks + 1 }) e c d (by decide) ⟨.str ⟨#[z.cps[i]]⟩, H, I1, ⟨_, rfl⟩, ⟨rfl, z.cps[i], by simp [hg], rfl⟩, st', fun b hb => (hf b hb).1⟩⟩
  done := by
    intro X hP hw hK hc i pins s σ H E I hf st hg
    subst hP hw hK
    have hg : z.cps.size ≤ i := hg
    obtain ⟨f0, f1, f2, f3, f4, f5⟩ := hf it (by simp)
    exact wpAny_pyNext_ascii_end (I.ok.hd hc) st (by simp [hg]) fun h' eb => ⟨rfl, I.turned (t' := s.toks) (fun b o hb e => eb b o hb e) f0 f1 f3 f4 f5⟩
  self := fun _ _ _ _ _ st h => wpAny_pyIter_striter_ascii st h
theorem turn_wide {P : Program} {w : World} {K : PySem.W.Frag} {tg : Expr} (z : Str) (t : Tok) (it : Addr) : Turn P w K tg (Its z) [it] it (fun i h => h.IsStrIter it "str_iterator" z t i) where
  mem := by simp
  obj := fun i h st b hb => by
    have e : b = it := by simpa using hb
    subst e
    obtain ⟨o, e, c, d⟩ := st
    exact ⟨o, e, fun v z => by rw [d] at z; cases z⟩
  keep := fun i h h' ⟨o, e, r⟩ k => ⟨o, k it (by simp) o e, r⟩
  item := by
    intro X hP hw hK hc i pins s σ H E I hf st hg
    subst hP hw hK
    have hg : i < z.cps.size := hg
    obtain ⟨f0, f1, f2, f3, f4, f5⟩ := hf it (by simp)
    refine wpAny_pyNext_wide_item st (c := z.cps[i]) (by simp [hg]) fun h' st' sb => ?_
    have I1 : Inv X pins σ H { s with heap := h', toks := s.toks + 1 } := I.turned (t' := s.toks + 1) (fun b o hb e => (sb.2 b hb).trans e) f0 f1 f3 f4 f5
    obtain ⟨o, e, c, d⟩ := id st'
    exact ⟨_, rfl, go_of (s := { s with heap := h', toks := s.toks + 1 }) e c d (by decide) ⟨.str ⟨#[z.cps[i]]⟩, H, I1, ⟨_, rfl⟩, ⟨rfl, z.cps[i], by simp [hg], rfl⟩, st', fun b hb => (hf b hb).1⟩⟩
  done := by
    intro X hP hw hK hc i pins s σ H E I hf st hg
    subst hP hw hK
    have hg : z.cps.size ≤ i := hg
    obtain ⟨f0, f1, f2, f3, f4, f5⟩ := hf it (by simp)
    exact wpAny_pyNext_wide_end (I.ok.hd hc) st (by simp [hg]) fun h' eb => ⟨rfl, I.turned (t' := s.toks) (fun b o hb e => eb b o hb e) f0 f1 f3 f4 f5⟩
  self := fun _ _ _ _ _ st h => wpAny_pyIter_striter_wide st h
section
variable {X : Cx} {XQ : XW}
def iStr (tl : TE) : TI := fun σ H R => tl σ H fun v H1 => ∃ z, v = .str z ∧ R (Its z) H1
theorem pi_str {tg l : Expr} {tl : TE} (hl : PE X l tl) : PI X tg l (iStr tl) := by
  intro pins s σ H R I h
  refine thn (hl pins s σ H _ I h) fun v s1 ⟨x, H1, I1, r1, q1⟩ => ?_
  obtain ⟨z, e, q⟩ := q1
  subst e
  obtain ⟨t, rfl⟩ := r1
  have fp : ∀ b ∈ [s1.heap.objs.size], FpOk X pins H1 b := fun b hb => by
    have e : b = s1.heap.objs.size := by simpa using hb
    subst e
    exact I1.fpOk (Nat.le_refl _) (I1.hok.fresh (Nat.le_refl _))
  cases ha : z.cps.all (· < 128)
  · exact wpAny_pyIter_wide ha ⟨s1.heap.objs.size, [s1.heap.objs.size], _, _, H1, rfl, I1.kept (t' := s1.toks) fun b o e => Heap.get?_push_of_some _ e, turn_wide z t _, ⟨_, Heap.get?_push_size _ rfl, rfl, rfl⟩, fp, q⟩
  · exact wpAny_pyIter_ascii ha ⟨s1.heap.objs.size, [s1.heap.objs.size], _, _, H1, rfl, I1.kept (t' := s1.toks) fun b o e => Heap.get?_push_of_some _ e, turn_ascii z t _, ⟨_, Heap.get?_push_size _ rfl, rfl, rfl⟩, fp, q⟩
def srcS (z : Str) : Src := ⟨fun k _ => (z.cps[k]?).map fun c => .str ⟨#[c]⟩, z.cps.size + 1⟩
def isrcS (f : Ev D) : Ev Src := fun ρ S => (f ρ S).bind fun d S1 => match d with
  | .str z => .ok (srcS z) S1
  | _ => .bad
theorem its_ok {K : PySem.W.Frag} {mp : List Addr} {H : Hp} {z : Str} : ItOk K mp H (Its z) (fun k _ => (z.cps[k]?).map fun c => .str ⟨#[c]⟩) := by
  intro mp' H' S' af rs k
  show match (z.cps[k]?).map (fun c => D.str ⟨#[c]⟩) with
    | some d => (Its z).go k H' ∧ ∀ x H2, (Its z).yld k H' x H2 → Aft K mp' H' mp' H2 ∧ RS K mp' H2 S' ∧ Rep K mp' H2 d x
    | none => (Its z).stop k H'
  cases e : z.cps[k]? with
  | none => exact Array.getElem?_eq_none_iff.mp e
  | some c =>
    refine ⟨(Array.getElem?_eq_some_iff.mp e).1, fun x H2 ⟨h1, c', h2, h3⟩ => ?_⟩
    rw [e] at h2
    cases h2
    subst h1 h3
    exact ⟨.refl, rs, rfl⟩
theorem ji_str {tg l : Expr} {f : Ev D} (hl : JE X XQ l f) : JI X XQ tg l (isrcS f) := by
  refine PI.mono (pi_str hl) fun σ H R ⟨mp, ρ, S, G, p⟩ => ?_
  refine bindP G p fun mp1 H1 d S1 v a1 G1 r1 p1 => ?_
  split at p1
  · rename_i z
    exact ⟨z, r1, PostG.ok (R := kI X.K) (d := srcS z) (S := S1) p1 G1.rs its_ok⟩
  · exact p1.elim
end
section
variable {X : Cx} {XQ : XW}
end
end DL
set_option Elab.async false
set_option linter.all false
set_option maxRecDepth 100000
namespace DL
open PySem PySem.Spec PyProof.Rows L2
section
variable {X : Cx} {XQ : XW}
def extD (x : D) (xs : List D) (S : Sto) : Out D := match x, xs with
  | .lst i, [.lst j] => match S[i]?, S[j]? with
    | some c, some e => if (c.fz = false ∧ e.fz = false) ∧ c.xs.length + e.xs.length ≤ 1000000 then .ok .non (S.set i ⟨false, c.xs ++ e.xs⟩) else .bad
    | _, _ => .bad
  | _, _ => .bad
theorem md_ext {K : PySem.W.Frag} : MeD K rExtend extD := by
  intro XQ σ ρ mp H S x xs v vs Q rs rx r p
  unfold extD at p
  split at p
  · rename_i i j
    split at p
    · rename_i c e zc ze
      by_cases hc : (c.fz = false ∧ e.fz = false) ∧ c.xs.length + e.xs.length ≤ 1000000
      · rw [if_pos hc] at p
        obtain ⟨w, rfl, hw⟩ := RepL.one r
        obtain ⟨a, ys, rfl, ha, sq, q, f⟩ := rs.items rx zc
        obtain ⟨b, zs, rfl, hb, sq2, q2, f2⟩ := rs.items hw ze
        have hH := f hc.1.1
        have hB := f2 hc.1.2
        obtain ⟨af, rs'⟩ := rs.setL ha zc hc.1.1 hH (RepL.append q q2)
        exact ⟨a, b, ys, zs, rfl, rfl, hH, hB, by rw [q.len, q2.len]; exact line_le hc.2, p mp _ _ af rs' rfl⟩
      · rw [if_neg hc] at p; exact p.elim
    · exact p.elim
  · exact p.elim
theorem je_extend {o e : Expr} {apos cpos : Pos} {fo : Ev D} {f : Ev (List D)} (ho : JE X XQ o fo) (ha : JA X XQ [e] f) (hbase : attributeBase o "extend" X.env (eval o X.env) = eval o X.env := by rfl)
    (hfew : ((backTo cpos (starEach [e] X.env)).all (fun x => !x.1) && (backToKw cpos (keywordEach [] X.env)).all (fun x => x.1.isSome)
      && decide ([e].length + ([] : List Keyword).length + (if ([] : List Keyword).isEmpty then 0 else 1) < 30)) = true := by rfl)
    (hline : (apos.endLine == cpos.line) = true := by rfl) (hs : starEach [e] X.env = (false, eval e X.env) :: starEach [] X.env := by rfl) :
    JE X XQ (.Call (.Attribute o "extend" apos) [e] [] cpos) (mt extD fo f) := je_meth PySem.F.slot_list_extend PySem.F.type_list_extend mt_extend md_ext ho ha hbase hfew hline hs rfl
theorem call_strX : CallR X (.type "str") (fun xs H Q => (∃ i : Int, xs = [.int i] ∧ i.natAbs.log2 < 1920 ∧ Q (.str (toString i)) H) ∨ ∃ z, xs = [.str z] ∧ Q (.str z) H) := by
  intro pins s σ H xs us Q I r h
  rcases h with h | ⟨z, rfl, q⟩
  · exact call_str_int pins s σ H xs us Q I r h
  · obtain ⟨u, rfl, t, rfl⟩ := vals1 r
    exact PySem.P.str_of_str ⟨.str z, H, I, ⟨_, rfl⟩, q⟩
def strXD (xs : List D) (S : Sto) : Out D := match xs with
  | [.int i] => if i.natAbs.log2 < 1920 then .ok (.str (toString i)) S else .bad
  | [.str z] => .ok (.str z) S
  | _ => .bad
theorem bd_strX {K : PySem.W.Frag} : BlD K (fun xs H Q => (∃ i : Int, xs = [.int i] ∧ i.natAbs.log2 < 1920 ∧ Q (.str (toString i)) H) ∨ ∃ z, xs = [.str z] ∧ Q (.str z) H) strXD := by
  intro XQ σ ρ mp H S xs vs Q rs r p
  unfold strXD at p
  split at p
  · rename_i i
    obtain ⟨v, rfl, h⟩ := RepL.one r
    cases (show v = .int i from h)
    by_cases hb : i.natAbs.log2 < 1920
    · rw [if_pos hb] at p
      exact .inl ⟨i, rfl, hb, PostG.ok (R := Rep K) p rs rfl⟩
    · rw [if_neg hb] at p; exact p.elim
  · rename_i z
    obtain ⟨v, rfl, h⟩ := RepL.one r
    cases (show v = .str z from h)
    exact .inr ⟨z, rfl, PostG.ok (R := Rep K) p rs rfl⟩
  · exact p.elim
theorem je_strX {p pos : Pos} {e : Expr} {f : Ev (List D)} (hg : Gl X "str") (hm : X.mg "str" = none) (ha : JA X XQ [e] f) (he : starEach [e] X.env = (false, eval e X.env) :: starEach [] X.env := by rfl) : JE X XQ (.Call (.Name "str" p) [e] [] pos) (b1 strXD f) := je_ty call_strX bd_strX hg hm (by rfl) ha (he := he)
end
end DL
set_option Elab.async false
set_option linter.all false
set_option maxRecDepth 100000
namespace DL
open PySem PySem.Spec PyProof.Rows L2
structure GE (X : Cx) (XQ : XW) (e : Expr) (f : Ev D) : Prop where
  h : JE X XQ e f
structure GA (X : Cx) (XQ : XW) (es : List Expr) (f : Ev (List D)) : Prop where
  h : JA X XQ es f
structure GT (X : Cx) (XQ : XW) (e : Expr) (f : Ev Bool) : Prop where
  h : JT X XQ e f
structure GW (X : Cx) (XQ : XW) (e : Expr) (f : Ev Bool) : Prop where
  h : JW X XQ e f
structure GO (X : Cx) (XQ : XW) (e : Option Expr) (f : Ev (Option Int)) : Prop where
  h : JO X XQ e f
structure GS (X : Cx) (XQ : XW) (st : Stmt) (f : Sv) : Prop where
  h : JS X XQ st f
structure GSs (X : Cx) (XQ : XW) (st : List Stmt) (f : Sv) : Prop where
  h : JSs X XQ st f
structure GI (X : Cx) (XQ : XW) (tg it : Expr) (f : Ev Src) : Prop where
  h : JI X XQ tg it f
structure GG (X : Cx) (tg : Expr) (g : Tg) : Prop where
  h : JG X tg g
structure GGs (X : Cx) (ts : List Expr) (g : Tgs) : Prop where
  h : JGs X ts g
structure GTs (Y : Cx) (XQ : XW) (ifs : List Expr) (t : Ev Bool) : Prop where
  h : JTs Y XQ ifs t
section
variable {X : Cx} {XQ : XW}
theorem ge_extend {o e : Expr} {apos cpos : Pos} {fo : Ev D} {f : Ev (List D)} (ho : GE X XQ o fo) (ha : GA X XQ [e] f) (hbase : attributeBase o "extend" X.env (eval o X.env) = eval o X.env := by rfl) (hfew : ((backTo cpos (starEach [e] X.env)).all (fun x => !x.1) && (backToKw cpos (keywordEach [] X.env)).all (fun x => x.1.isSome)
      && decide ([e].length + ([] : List Keyword).length + (if ([] : List Keyword).isEmpty then 0 else 1) < 30)) = true := by rfl) (hline : (apos.endLine == cpos.line) = true := by rfl) (hs : starEach [e] X.env = (false, eval e X.env) :: starEach [] X.env := by rfl) : GE X XQ (.Call (.Attribute o "extend" apos) [e] [] cpos) (mt extD fo f) := ⟨je_extend ho.h ha.h hbase hfew hline hs⟩
end
section
variable {X : Cx} {XQ : XW}
theorem ge_strX {p pos : Pos} {e : Expr} {f : Ev (List D)} (hg : Gl X "str") (hm : X.mg "str" = none) (ha : GA X XQ [e] f) (he : starEach [e] X.env = (false, eval e X.env) :: starEach [] X.env := by rfl) : GE X XQ (.Call (.Name "str" p) [e] [] pos) (b1 strXD f) := ⟨je_strX hg hm ha.h he⟩
end
section
variable {X : Cx} {XQ : XW}
theorem ge_split {o e : Expr} {apos cpos : Pos} {fo : Ev D} {f : Ev (List D)} (ho : GE X XQ o fo) (ha : GA X XQ [e] f) (hbase : attributeBase o "split" X.env (eval o X.env) = eval o X.env := by rfl) (hfew : ((backTo cpos (starEach [e] X.env)).all (fun x => !x.1) && (backToKw cpos (keywordEach [] X.env)).all (fun x => x.1.isSome)
      && decide ([e].length + ([] : List Keyword).length + (if ([] : List Keyword).isEmpty then 0 else 1) < 30)) = true := by rfl) (hline : (apos.endLine == cpos.line) = true := by rfl) (hs : starEach [e] X.env = (false, eval e X.env) :: starEach [] X.env := by rfl) (hplain : (backTo cpos (starEach [] X.env)).any (·.1) = false := by rfl) : GE X XQ (.Call (.Attribute o "split" apos) [e] [] cpos) (mts splitD fo f) := ⟨je_split ho.h ha.h hbase hfew hline hs hplain⟩
end
section
variable {X : Cx} {XQ : XW} {a b : Expr} {fa fb : Ev D} {pos : Pos}
theorem ge_ins (ha : GE X XQ a fa) (hb : GE X XQ b fb) (hm : behindInMarks .In b = false := by rfl) : GE X XQ (.Compare a [.In] [b] pos) (o2 istD fa fb) := ⟨je_ins ha.h hb.h hm⟩
end
section
variable {X : Cx} {XQ : XW} {a b : Expr} {fa fb : Ev D} {pos : Pos}
end
section
variable {X : Cx} {XQ : XW} {a b : Expr} {fa fb : Ev D} {pos : Pos}
theorem ge_intS {p pos : Pos} {e : Expr} {f : Ev (List D)} (hg : Gl X "int") (hm : X.mg "int" = none) (ha : GA X XQ [e] f) (he : starEach [e] X.env = (false, eval e X.env) :: starEach [] X.env := by rfl) : GE X XQ (.Call (.Name "int" p) [e] [] pos) (b1 intSD f) := ⟨je_intS hg hm ha.h he⟩
end
section
variable {X : Cx} {XQ : XW}
theorem gi_str {tg l : Expr} {f : Ev D} (hl : GE X XQ l f) : GI X XQ tg l (isrcS f) := ⟨ji_str hl.h⟩
end
section
variable {X : Cx} {XQ : XW}
end
section
variable {X : Cx} {XQ : XW}
theorem ge_join {o e : Expr} {apos cpos : Pos} {fo : Ev D} {f : Ev (List D)} (ho : GE X XQ o fo) (ha : GA X XQ [e] f) (hbase : attributeBase o "join" X.env (eval o X.env) = eval o X.env := by rfl) (hfew : ((backTo cpos (starEach [e] X.env)).all (fun x => !x.1) && (backToKw cpos (keywordEach [] X.env)).all (fun x => x.1.isSome)
      && decide ([e].length + ([] : List Keyword).length + (if ([] : List Keyword).isEmpty then 0 else 1) < 30)) = true := by rfl) (hline : (apos.endLine == cpos.line) = true := by rfl) (hs : starEach [e] X.env = (false, eval e X.env) :: starEach [] X.env := by rfl) (hplain : (backTo cpos (starEach [] X.env)).any (·.1) = false := by rfl) : GE X XQ (.Call (.Attribute o "join" apos) [e] [] cpos) (mts joinD fo f) := ⟨je_join ho.h ha.h hbase hfew hline hs hplain⟩
end
section
variable {X : Cx} {XQ : XW}
end
section
variable {X : Cx} {XQ : XW}
end
section
variable {X : Cx} {XQ : XW}
theorem ge_non {j pos} : GE X XQ (.Constant .none j pos) (cn .non) := ⟨je_non ⟩
end
section
variable {X : Cx} {XQ : XW}
theorem ge_bl {b : Bool} {j pos} : GE X XQ (.Constant (.bool b) j pos) (cn (.bl b)) := ⟨je_bl ⟩
end
section
variable {X : Cx} {XQ : XW}
theorem ge_int {i : Int} {j pos} : GE X XQ (.Constant (.int i) j pos) (cn (.int i)) := ⟨je_int ⟩
end
section
variable {X : Cx} {XQ : XW}
theorem ge_str {x : Str} {j pos} : GE X XQ (.Constant (.str x) j pos) (cn (.str x)) := ⟨je_str ⟩
end
section
variable {X : Cx} {XQ : XW}
theorem ge_add {a b : Expr} {fa fb : Ev D} {pos : Pos} (ha : GE X XQ a fa) (hb : GE X XQ b fb) : GE X XQ (.BinOp a .Add b pos) (o2 addD fa fb) := ⟨je_add ha.h hb.h⟩
end
section
variable {X : Cx} {XQ : XW} {a b : Expr} {fa fb : Ev D} {pos : Pos}
theorem ge_sub (ha : GE X XQ a fa) (hb : GE X XQ b fb) : GE X XQ (.BinOp a .Sub b pos) (o2 subD fa fb) := ⟨je_sub ha.h hb.h⟩
end
section
variable {X : Cx} {XQ : XW}
theorem ge_mul {a b : Expr} {fa fb : Ev D} {pos : Pos} (ha : GE X XQ a fa) (hb : GE X XQ b fb) : GE X XQ (.BinOp a .Mult b pos) (o2 mulD fa fb) := ⟨je_mul ha.h hb.h⟩
end
section
variable {X : Cx} {XQ : XW} {a b : Expr} {fa fb : Ev D} {pos : Pos}
theorem ge_mod (ha : GE X XQ a fa) (hb : GE X XQ b fb) : GE X XQ (.BinOp a .Mod b pos) (o2 modD fa fb) := ⟨je_mod ha.h hb.h⟩
end
section
variable {X : Cx} {XQ : XW}
theorem ge_div2 {a b : Expr} {fa fb : Ev D} {pos : Pos} (ha : GE X XQ a fa) (hb : GE X XQ b fb) : GE X XQ (.BinOp a .FloorDiv b pos) (o2 divD2 fa fb) := ⟨je_div2 ha.h hb.h⟩
end
section
variable {X : Cx} {XQ : XW} {a b : Expr} {fa fb : Ev D} {pos : Pos}
theorem ge_pow (ha : GE X XQ a fa) (hb : GE X XQ b fb) : GE X XQ (.BinOp a .Pow b pos) (o2 powD fa fb) := ⟨je_pow ha.h hb.h⟩
end
section
variable {X : Cx} {XQ : XW} {a b : Expr} {fa fb : Ev D} {pos : Pos}
theorem ge_lt (ha : GE X XQ a fa) (hb : GE X XQ b fb) : GE X XQ (.Compare a [.Lt] [b] pos) (o2 ltD fa fb) := ⟨je_lt ha.h hb.h⟩
end
section
variable {X : Cx} {XQ : XW} {a b : Expr} {fa fb : Ev D} {pos : Pos}
end
section
variable {X : Cx} {XQ : XW} {a b : Expr} {fa fb : Ev D} {pos : Pos}
end
section
variable {X : Cx} {XQ : XW} {a b : Expr} {fa fb : Ev D} {pos : Pos}
end
section
variable {X : Cx} {XQ : XW}
theorem ge_eq {a b : Expr} {fa fb : Ev D} {pos : Pos} (hu : X.A.units + 64 < cLine) (ha : GE X XQ a fa) (hb : GE X XQ b fb) : GE X XQ (.Compare a [.Eq] [b] pos) (o2 eqD fa fb) := ⟨je_eq hu ha.h hb.h⟩
end
section
variable {X : Cx} {XQ : XW}
theorem ge_ne {a b : Expr} {fa fb : Ev D} {pos : Pos} (hu : X.A.units + 64 < cLine) (ha : GE X XQ a fa) (hb : GE X XQ b fb) : GE X XQ (.Compare a [.NotEq] [b] pos) (o2 neD fa fb) := ⟨je_ne hu ha.h hb.h⟩
end
section
variable {X : Cx} {XQ : XW} {a b : Expr} {fa fb : Ev D} {pos : Pos}
end
section
variable {X : Cx} {XQ : XW} {a b : Expr} {fa fb : Ev D} {pos : Pos}
end
section
variable {X : Cx} {XQ : XW} {a b : Expr} {fa fb : Ev D} {pos : Pos}
end
section
variable {X : Cx} {XQ : XW} {a b : Expr} {fa fb : Ev D} {pos : Pos}
end
section
variable {X : Cx} {XQ : XW} {a b : Expr} {fa fb : Ev D} {pos : Pos}
end
section
variable {X : Cx} {XQ : XW} {a b : Expr} {fa fb : Ev D} {pos : Pos}
end
section
variable {X : Cx} {XQ : XW}
theorem ge_and {a b : Expr} {rest : List Expr} {f g : Ev D} {pos : Pos} (ha : GE X XQ a f) (hb : GE X XQ (.BoolOp .And (b :: rest) pos) g) : GE X XQ (.BoolOp .And (a :: b :: rest) pos) (va f g) := ⟨je_and ha.h hb.h⟩
end
section
variable {X : Cx} {XQ : XW}
theorem ge_or {a b : Expr} {rest : List Expr} {f g : Ev D} {pos : Pos} (ha : GE X XQ a f) (hb : GE X XQ (.BoolOp .Or (b :: rest) pos) g) : GE X XQ (.BoolOp .Or (a :: b :: rest) pos) (vo f g) := ⟨je_or ha.h hb.h⟩
end
section
variable {X : Cx} {XQ : XW}
theorem ge_one {a : Expr} {op} {f : Ev D} {pos : Pos} (h : GE X XQ a f) : GE X XQ (.BoolOp op [a] pos) f := ⟨je_one h.h⟩
end
section
variable {X : Cx} {XQ : XW}
end
section
variable {X : Cx} {XQ : XW}
theorem ge_neg {a : Expr} {fa : Ev D} {pos : Pos} (ha : GE X XQ a fa) : GE X XQ (.UnaryOp .USub a pos) (o1 negD fa) := ⟨je_neg ha.h⟩
end
section
variable {X : Cx} {XQ : XW}
end
section
variable {X : Cx} {XQ : XW}
theorem ge_get {a b : Expr} {fa fb : Ev D} {pos : Pos} (ha : GE X XQ a fa) (hb : GE X XQ b fb) (hs : PlainIx b := by intro _ _; rfl) : GE X XQ (.Subscript a b pos) (o2 getD fa fb) := ⟨je_get ha.h hb.h hs⟩
end
section
variable {X : Cx} {XQ : XW}
theorem ge_slice2 {e : Expr} {lo hi : Option Expr} {fe : Ev D} {fl fh : Ev (Option Int)} {pos p2 : Pos} (he : GE X XQ e fe) (hl : GO X XQ lo fl) (hh : GO X XQ hi fh) : GE X XQ (.Subscript e (.Slice lo hi none p2) pos) (sl2 fe fl fh) := ⟨je_slice2 he.h hl.h hh.h⟩
end
section
variable {X : Cx} {XQ : XW}
end
section
variable {X : Cx} {XQ : XW}
theorem ge_lst {es : List Expr} {f : Ev (List D)} {pos : Pos} (h : GA X XQ es f) : GE X XQ (.List es pos) (ls f) := ⟨je_lst h.h⟩
end
section
variable {X : Cx} {XQ : XW}
theorem ge_tup {es : List Expr} {f : Ev (List D)} {x1} {pos : Pos} (h : GA X XQ es f) : GE X XQ (.Tuple es x1 pos) (tp f) := ⟨je_tup h.h⟩
end
section
variable {X : Cx} {XQ : XW}
theorem ge_isi {T : String} {x : Str} {e : Expr} {f : Ev D} {p p2 pos : Pos} (k : Kit X.K T) (hv : bootBuiltins x = some (.type T)) (hnx : x ≠ "__name__") (hdx : (x == ("__debug__" : Str)) = false) (hg : Gl X "isinstance") (hm : X.mg "isinstance" = none) (hgt : Gl X x) (hmt : X.mg x = none) (he : GE X XQ e f) (hs : starEach [e, .Name x p2] X.env = (false, eval e X.env) :: starEach [.Name x p2] X.env) (hpl : (backTo pos (starEach [.Name x p2] X.env)).any (·.1) = false) (hs2 : starEach [.Name x p2] X.env = (false, eval (.Name x p2) X.env) :: starEach [] X.env) : GE X XQ (.Call (.Name "isinstance" p) [e, .Name x p2] [] pos) (o1 (isD T) f) := ⟨je_isi k hv hnx hdx hg hm hgt hmt he.h hs hpl hs2⟩
end
section
variable {X : Cx} {XQ : XW}
theorem ge_len {p pos : Pos} {e : Expr} {f : Ev (List D)} (hg : Gl X "len") (hm : X.mg "len" = none) (ha : GA X XQ [e] f) (he : starEach [e] X.env = (false, eval e X.env) :: starEach [] X.env := by rfl) : GE X XQ (.Call (.Name "len" p) [e] [] pos) (b1 lenD f) := ⟨je_len hg hm ha.h he⟩
end
section
variable {X : Cx} {XQ : XW}
theorem ge_list {p pos : Pos} {e : Expr} {f : Ev (List D)} (hg : Gl X "list") (hm : X.mg "list" = none) (ha : GA X XQ [e] f) (he : starEach [e] X.env = (false, eval e X.env) :: starEach [] X.env := by rfl) : GE X XQ (.Call (.Name "list" p) [e] [] pos) (b1 listD f) := ⟨je_list hg hm ha.h he⟩
end
section
variable {X : Cx} {XQ : XW}
theorem ge_tuple {p pos : Pos} {e : Expr} {f : Ev (List D)} (hg : Gl X "tuple") (hm : X.mg "tuple" = none) (ha : GA X XQ [e] f) (he : starEach [e] X.env = (false, eval e X.env) :: starEach [] X.env := by rfl) : GE X XQ (.Call (.Name "tuple" p) [e] [] pos) (b1 tupD f) := ⟨je_tuple hg hm ha.h he⟩
end
section
variable {X : Cx} {XQ : XW}
theorem ge_min {p pos : Pos} {e e' : Expr} {f : Ev (List D)} (hc : X.calm = true) (hg : Gl X "min") (hm : X.mg "min" = none) (ha : GA X XQ [e, e'] f) (he : starEach [e, e'] X.env = (false, eval e X.env) :: starEach [e'] X.env := by rfl) (hpl : (backTo pos (starEach [e'] X.env)).any (·.1) = false := by rfl) : GE X XQ (.Call (.Name "min" p) [e, e'] [] pos) (b1 minD f) := ⟨je_min hc hg hm ha.h he hpl⟩
end
section
variable {X : Cx} {XQ : XW}
end
section
variable {X : Cx} {XQ : XW}
end
section
variable {X : Cx} {XQ : XW}
end
section
variable {X : Cx} {XQ : XW}
end
section
variable {X : Cx} {XQ : XW}
theorem ge_repr {k : Nat} {p pos : Pos} {e : Expr} {f : Ev (List D)} (hr : Room k X.A) (hg : Gl X "repr") (hm : X.mg "repr" = none) (ha : GA X XQ [e] f) (he : starEach [e] X.env = (false, eval e X.env) :: starEach [] X.env := by rfl) : GE X XQ (.Call (.Name "repr" p) [e] [] pos) (b1 reprD f) := ⟨je_repr hr hg hm ha.h he⟩
end
section
variable {X : Cx} {XQ : XW}
theorem ge_all {p pos : Pos} {e : Expr} {f : Ev (List D)} (hc : X.calm = true) (hg : Gl X "all") (hm : X.mg "all" = none) (ha : GA X XQ [e] f) (he : starEach [e] X.env = (false, eval e X.env) :: starEach [] X.env := by rfl) : GE X XQ (.Call (.Name "all" p) [e] [] pos) (b1 allD f) := ⟨je_all hc hg hm ha.h he⟩
end
section
variable {X : Cx} {XQ : XW}
end
section
variable {X : Cx} {XQ : XW}
end
section
variable {X : Cx} {XQ : XW}
end
section
variable {X : Cx} {XQ : XW}
theorem ge_append {o e : Expr} {apos cpos : Pos} {fo : Ev D} {f : Ev (List D)} (ho : GE X XQ o fo) (ha : GA X XQ [e] f) (hbase : attributeBase o "append" X.env (eval o X.env) = eval o X.env := by rfl) (hfew : ((backTo cpos (starEach [e] X.env)).all (fun x => !x.1) && (backToKw cpos (keywordEach [] X.env)).all (fun x => x.1.isSome)
      && decide ([e].length + ([] : List Keyword).length + (if ([] : List Keyword).isEmpty then 0 else 1) < 30)) = true := by rfl) (hline : (apos.endLine == cpos.line) = true := by rfl) (hs : starEach [e] X.env = (false, eval e X.env) :: starEach [] X.env := by rfl) : GE X XQ (.Call (.Attribute o "append" apos) [e] [] cpos) (mt appD fo f) := ⟨je_append ho.h ha.h hbase hfew hline hs⟩
end
section
variable {X : Cx} {XQ : XW}
end
section
variable {X : Cx} {XQ : XW}
end
section
variable {X : Cx} {XQ : XW}
end
section
variable {X : Cx} {XQ : XW} {a b : Expr} {fa fb : Ev D} {pos : Pos}
theorem gt_lt (ha : GE X XQ a fa) (hb : GE X XQ b fb) : GT X XQ (.Compare a [.Lt] [b] pos) (tb (o2 ltD fa fb)) := ⟨jt_lt ha.h hb.h⟩
end
section
variable {X : Cx} {XQ : XW} {a b : Expr} {fa fb : Ev D} {pos : Pos}
end
section
variable {X : Cx} {XQ : XW} {a b : Expr} {fa fb : Ev D} {pos : Pos}
theorem gt_gt (ha : GE X XQ a fa) (hb : GE X XQ b fb) : GT X XQ (.Compare a [.Gt] [b] pos) (tb (o2 gtD fa fb)) := ⟨jt_gt ha.h hb.h⟩
end
section
variable {X : Cx} {XQ : XW} {a b : Expr} {fa fb : Ev D} {pos : Pos}
theorem gt_ge (ha : GE X XQ a fa) (hb : GE X XQ b fb) : GT X XQ (.Compare a [.GtE] [b] pos) (tb (o2 geD fa fb)) := ⟨jt_ge ha.h hb.h⟩
end
section
variable {X : Cx} {XQ : XW}
theorem gt_eq {a b : Expr} {fa fb : Ev D} {pos : Pos} (hu : X.A.units + 64 < cLine) (ha : GE X XQ a fa) (hb : GE X XQ b fb) : GT X XQ (.Compare a [.Eq] [b] pos) (tb (o2 eqD fa fb)) := ⟨jt_eq hu ha.h hb.h⟩
end
section
variable {X : Cx} {XQ : XW}
theorem gt_ne {a b : Expr} {fa fb : Ev D} {pos : Pos} (hu : X.A.units + 64 < cLine) (ha : GE X XQ a fa) (hb : GE X XQ b fb) : GT X XQ (.Compare a [.NotEq] [b] pos) (tb (o2 neD fa fb)) := ⟨jt_ne hu ha.h hb.h⟩
end
section
variable {X : Cx} {XQ : XW} {a b : Expr} {fa fb : Ev D} {pos : Pos}
theorem gt_isn (ha : GE X XQ a fa) (hb : GE X XQ b fb) : GT X XQ (.Compare a [.Is] [b] pos) (tb (o2 isnD fa fb)) := ⟨jt_isn ha.h hb.h⟩
end
section
variable {X : Cx} {XQ : XW} {a b : Expr} {fa fb : Ev D} {pos : Pos}
theorem gt_notn (ha : GE X XQ a fa) (hb : GE X XQ b fb) : GT X XQ (.Compare a [.IsNot] [b] pos) (tb (o2 notnD fa fb)) := ⟨jt_notn ha.h hb.h⟩
end
section
variable {X : Cx} {XQ : XW} {a b : Expr} {fa fb : Ev D} {pos : Pos}
end
section
variable {X : Cx} {XQ : XW} {a b : Expr} {fa fb : Ev D} {pos : Pos}
end
section
variable {X : Cx} {XQ : XW} {a b : Expr} {fa fb : Ev D} {pos : Pos}
end
section
variable {X : Cx} {XQ : XW} {a b : Expr} {fa fb : Ev D} {pos : Pos}
end
section
variable {X : Cx} {XQ : XW}
theorem gt_chain {a b c : Expr} {op op' : CmpOp} {r r' : R2} {o o' : D → D → Sto → Out D} {fa fb fc : Ev D} {pos : Pos} (ho : OpR X (compareOp op) r) (hd : OpD X.K r o) (ho' : OpR X (compareOp op') r') (hd' : OpD X.K r' o') (ha : GE X XQ a fa) (hb : GE X XQ b fb) (hc : GE X XQ c fc) (hm : lastMarks [op, op'] [b, c] = false := by with_unfolding_all rfl) : GT X XQ (.Compare a [op, op'] [b, c] pos) (tb (ch o o' fa fb fc)) := ⟨jt_chain ho hd ho' hd' ha.h hb.h hc.h hm⟩
end
section
variable {X : Cx} {XQ : XW}
theorem gt_not {a : Expr} {f : Ev Bool} {pos : Pos} (h : GT X XQ a f) : GT X XQ (.UnaryOp .Not a pos) (tn f) := ⟨jt_not h.h⟩
end
section
variable {X : Cx} {XQ : XW}
theorem gt_val {e : Expr} {f : Ev D} (h : GE X XQ e f) (he : ∀ whole, isTrue e X.env whole = (do let v ← whole; standAt e.pos; holding [v] (truthy v)) := by intro _; rfl) : GT X XQ e (tt f) := ⟨jt_val h.h he⟩
end
section
variable {X : Cx} {XQ : XW}
theorem gw_and1 {a : Expr} {f : Ev Bool} {pos : Pos} (h : GT X XQ a f) : GW X XQ (.BoolOp .And [a] pos) f := ⟨jw_and1 h.h⟩
end
section
variable {X : Cx} {XQ : XW}
theorem gw_or1 {a : Expr} {f : Ev Bool} {pos : Pos} (h : GT X XQ a f) : GW X XQ (.BoolOp .Or [a] pos) f := ⟨jw_or1 h.h⟩
end
section
variable {X : Cx} {XQ : XW}
theorem gw_and {a b : Expr} {rest : List Expr} {f g : Ev Bool} {pos : Pos} (h : GT X XQ a f) (hb : GW X XQ (.BoolOp .And (b :: rest) pos) g) : GW X XQ (.BoolOp .And (a :: b :: rest) pos) (ta f g) := ⟨jw_and h.h hb.h⟩
end
section
variable {X : Cx} {XQ : XW}
theorem gw_or {a b : Expr} {rest : List Expr} {f g : Ev Bool} {pos : Pos} (h : GT X XQ a f) (hb : GW X XQ (.BoolOp .Or (b :: rest) pos) g) : GW X XQ (.BoolOp .Or (a :: b :: rest) pos) (to f g) := ⟨jw_or h.h hb.h⟩
end
section
variable {X : Cx} {XQ : XW}
theorem ga_nil  : GA X XQ [] an := ⟨ja_nil ⟩
end
section
variable {X : Cx} {XQ : XW}
theorem ga_cons {e : Expr} {es : List Expr} {f : Ev D} {g : Ev (List D)} (ha : GE X XQ e f) (hr : GA X XQ es g) (hs : starEach (e :: es) X.env = (false, eval e X.env) :: starEach es X.env := by rfl) : GA X XQ (e :: es) (ac f g) := ⟨ja_cons ha.h hr.h hs⟩
end
section
variable {X : Cx} {XQ : XW}
theorem go_none  : GO X XQ none onone := ⟨jo_none ⟩
end
section
variable {X : Cx} {XQ : XW}
theorem go_some {e : Expr} {f : Ev D} (h : GE X XQ e f) : GO X XQ (some e) (osome f) := ⟨jo_some h.h⟩
end
section
variable {X : Cx} {XQ : XW}
theorem gi_range1 {tg a : Expr} {f : Ev (List D)} {p pos : Pos} (hg : Gl X "range") (hm : X.mg "range" = none) (ha : GA X XQ [a] f) (hs : starEach [a] X.env = [(false, eval a X.env)] := by rfl) : GI X XQ tg (.Call (.Name "range" p) [a] [] pos) (ir1 f) := ⟨ji_range1 hg hm ha.h hs⟩
end
section
variable {X : Cx} {XQ : XW}
end
section
variable {X : Cx} {XQ : XW}
theorem gi_seq {tg l : Expr} {f : Ev D} (hl : GE X XQ l f) : GI X XQ tg l (isrc f) := ⟨ji_seq hl.h⟩
end
section
variable {X : Cx} {XQ : XW}
theorem gi_zip {es : List Expr} {x1} {tp : Pos} {a b : Expr} {f : Ev (List D)} {p pos : Pos} (hg : Gl X "zip") (hm : X.mg "zip" = none) (ha : GA X XQ [a, b] f) (hs : starEach [a, b] X.env = (false, eval a X.env) :: starEach [b] X.env := by rfl) (hpl : (backTo pos (starEach [b] X.env)).any (·.1) = false := by rfl) : GI X XQ (.Tuple es x1 tp) (.Call (.Name "zip" p) [a, b] [] pos) (izip f) := ⟨ji_zip hg hm ha.h hs hpl⟩
end
section
variable {X : Cx} {XQ : XW}
end
section
variable {X : Cx} {XQ : XW}
theorem gi_enumerate {es : List Expr} {x1} {tp : Pos} {a : Expr} {f : Ev (List D)} {p pos : Pos} (hg : Gl X "enumerate") (hm : X.mg "enumerate" = none) (ha : GA X XQ [a] f) (hs : starEach [a] X.env = [(false, eval a X.env)] := by rfl) : GI X XQ (.Tuple es x1 tp) (.Call (.Name "enumerate" p) [a] [] pos) (ienumerate f) := ⟨ji_enumerate hg hm ha.h hs⟩
end
section
variable {X : Cx} {XQ : XW}
theorem ggn (i : Nat) {x : Str} {pos : Pos} (hN : X.N.Nodup) (h : OkL X.env.scope x) (hi : X.N[i]? = some x := by rfl) (hf : X.fn x = true := by rfl) : GG X (.Name x pos) (gn i) := ⟨jgn i hN h hi hf⟩
end
section
variable {X : Cx} {XQ : XW}
theorem ggnB (i : Nat) {s2 : Shared} {H2 : Hp} {C : Addr} {scope : Scope} {c : List (Str × Addr)} {N' : List Str} {fp : List Addr} {x : Str} {pos : Pos} (hN : N'.Nodup) (h : okLC scope x = true) (hi : N'[i]? = some x := by rfl) : GG (blk X s2 H2 C scope c N' fp) (.Name x pos) (gn i) := ⟨jgnB i hN h hi⟩
end
section
variable {X : Cx} {XQ : XW}
theorem gg_tup {es : List Expr} {m : Nat} {k : Tgs} {n : Nat} {pos : Pos} (hc : X.calm = true) (h : GGs X es k) (hn : (assignEach es X.env).length = n := by rfl) (hst : (assignEach es X.env).findIdx? (·.1) = none := by rfl) : GG X (.Tuple es m pos) (gt k n) := ⟨jg_tup hc h.h hn hst⟩
end
section
variable {X : Cx} {XQ : XW}
theorem ggs_nil  : GGs X [] gnil := ⟨jgs_nil ⟩
end
section
variable {X : Cx} {XQ : XW}
theorem ggs_cons {e : Expr} {es : List Expr} {g : Tg} {k : Tgs} (h1 : GG X e g) (h2 : GGs X es k) (hs : (assignEach (e :: es) X.env).map (·.2) = assign e X.env :: (assignEach es X.env).map (·.2) := by rfl) : GGs X (e :: es) (gcons g k) := ⟨jgs_cons h1.h h2.h hs⟩
end
section
variable {X : Cx} {XQ : XW}
theorem gss_nil  : GSs X XQ [] skip := ⟨jss_nil ⟩
end
section
variable {X : Cx} {XQ : XW}
theorem gss_cons {st : Stmt} {rest : List Stmt} {f g : Sv} (h1 : GS X XQ st f) (h2 : GSs X XQ rest g) : GSs X XQ (st :: rest) (sq f g) := ⟨jss_cons h1.h h2.h⟩
end
section
variable {X : Cx} {XQ : XW}
theorem gss_one {st : Stmt} {f : Sv} (h1 : GS X XQ st f) : GSs X XQ [st] f := ⟨jss_one h1.h⟩
end
section
variable {X : Cx} {XQ : XW}
theorem gs_ret {e : Expr} {f : Ev D} {pos : Pos} (he : GE X XQ e f) : GS X XQ (.Return (some e) pos) (sret f) := ⟨js_ret he.h⟩
end
section
variable {X : Cx} {XQ : XW}
theorem gs_if {c : Expr} {a b : List Stmt} {fc : Ev Bool} {f g : Sv} {pos : Pos} (hc : GT X XQ c fc) (ha : GSs X XQ a f) (hb : GSs X XQ b g) : GS X XQ (.If c a b pos) (sif fc f g) := ⟨js_if hc.h ha.h hb.h⟩
end
section
variable {X : Cx} {XQ : XW}
theorem gset (i : Nat) {x : Str} {e : Expr} {f : Ev D} {pos pos' : Pos} (hN : X.N.Nodup) (h : OkL X.env.scope x) (he : GE X XQ e f) (hi : X.N[i]? = some x := by rfl) (hs : swapsWith e (some (.Name x pos')) pos.line X.env = pure false := by rfl) (hf : X.fn x = true := by rfl) : GS X XQ (.Assign [.Name x pos'] e pos) (sa f (gn i)) := ⟨jset i hN h he.h hi hs hf⟩
end
section
variable {X : Cx} {XQ : XW}
theorem gsetComp (i : Nat) {sc : Scope} {N : List Str} {y : Str} {py spos : Pos} {elt tg iter : Expr} {ifs : List Expr} {scope : Scope} {pos : Pos} {N' : List Str} {pk : List (Option Nat)} {f : Ev Src} {g : Tg} {t : Ev Bool} {e : Ev D} (hsc : X.env.scope = sc) (hNN : X.N = N) (ct : CompTab sc scope N N' pk) (hcm : X.calm = true) (hi : GI X XQ tg iter f) (hg : ∀ cl s2 H2 C fp, GG (blk X s2 H2 C scope cl N' fp) tg g) (ht : ∀ cl s2 H2 C fp, GTs (blk X s2 H2 C scope cl N' fp) XN ifs t) (he : ∀ cl s2 H2 C fp, GE (blk X s2 H2 C scope cl N' fp) XN elt e) (hN : X.N.Nodup) (hl : OkL X.env.scope y) (hsw : swapsWith (.ListComp elt [⟨tg, iter, ifs, 0⟩] scope pos) (some (.Name y py)) spos.line X.env = pure true) (hy : X.N[i]? = some y := by rfl) (hs : ∀ x, foldedSetIterable iter X.env x = pure x := by intro _; rfl) (hf : X.fn y = true := by rfl) : GS X XQ (.Assign [.Name y py] (.ListComp elt [⟨tg, iter, ifs, 0⟩] scope pos) spos) (sa (cmp f pk g t e) (gn i)) := ⟨jsetComp i hsc hNN ct hcm hi.h (fun z0 z1 z2 z3 z4 => (hg z0 z1 z2 z3 z4).h) (fun z0 z1 z2 z3 z4 => (ht z0 z1 z2 z3 z4).h) (fun z0 z1 z2 z3 z4 => (he z0 z1 z2 z3 z4).h) hN hl hsw hy hs hf⟩
end
section
variable {X : Cx} {XQ : XW}
theorem gs_asg {tg e : Expr} {f : Ev D} {g : Tg} {pos : Pos} (he : GE X XQ e f) (hg : GG X tg g) (hs : swapsWithSole [tg] e pos.line X.env = pure false := by rfl) (hw : swappedStores [tg] e X.env = pure none := by rfl) (h1 : (assignEach [tg] X.env).map (·.2) = [assign tg X.env] := by rfl) : GS X XQ (.Assign [tg] e pos) (sa f g) := ⟨js_asg he.h hg.h hs hw h1⟩
end
section
variable {X : Cx} {XQ : XW}
end
section
variable {X : Cx} {XQ : XW}
theorem gs_setix {ob ix e : Expr} {f fo fi : Ev D} {pos p2 : Pos} (he : GE X XQ e f) (hob : GE X XQ ob fo) (hix : GE X XQ ix fi) (hs : swapsWithSole [.Subscript ob ix p2] e pos.line X.env = pure false := by rfl) (hw : swappedStores [.Subscript ob ix p2] e X.env = pure none := by rfl) (h1 : (assignEach [.Subscript ob ix p2] X.env).map (·.2) = [assign (.Subscript ob ix p2) X.env] := by rfl) (ha : ∀ v, assign (.Subscript ob ix p2) X.env v = (do
      let ov ← holding [v] (eval ob X.env)
      let iv ← holding [v, ov] (eval ix X.env)
      standAt p2
      holding [v, ov, iv] (setItem ov iv v)
      release [v, ov, iv] []) := by intro _; rfl) : GS X XQ (.Assign [.Subscript ob ix p2] e pos) (ss f fo fi setD) := ⟨js_setix he.h hob.h hix.h hs hw h1 ha⟩
end
section
variable {X : Cx} {XQ : XW}
theorem gs_expr {e : Expr} {f : Ev D} {pos : Pos} (he : GE X XQ e f) (hs : swapsWith e none pos.line X.env = pure false := by rfl) : GS X XQ (.Expr e pos) (sx f) := ⟨js_expr he.h hs⟩
end
section
variable {X : Cx} {XQ : XW}
theorem gs_for {tg iter : Expr} {body : List Stmt} {f : Ev Src} {g : Tg} {b : Sv} {pos : Pos} (hp : PassesOwn (model X.prog X.w) X.A X.env X.xe) (hc : X.calm = true) (hi : GI X XQ tg iter f) (hg : GG X tg g) (hb : GSs X XQ body b) (hs : ∀ x, foldedSetIterable iter X.env x = pure x := by intro _; rfl) : GS X XQ (.For tg iter body [] pos) (sfor f g b) := ⟨js_for hp hc hi.h hg.h hb.h hs⟩
end
section
variable {X : Cx} {XQ : XW}
theorem gs_while (fuel : Nat) {c : Expr} {body : List Stmt} {fc : Ev Bool} {b : Sv} {pos : Pos} (hp : PassesOwn (model X.prog X.w) X.A X.env X.xe) (hc : GT X XQ c fc) (hb : GSs X XQ body b) : GS X XQ (.While c body [] pos) (whN fc b fuel) := ⟨js_while fuel hp hc.h hb.h⟩
end
section
variable {X : Cx} {XQ : XW}
theorem gs_inc (i : Nat) {x : Str} {e : Expr} {f : Ev D} {pos pos' : Pos} (hN : X.N.Nodup) (h : OkL X.env.scope x) (he : GE X XQ e f) (hi : X.N[i]? = some x := by rfl) (hf : X.fn x = true := by rfl) : GS X XQ (.AugAssign (.Name x pos') .Add e pos) (sag i (fun a b => a + b) f) := ⟨js_inc i hN h he.h hi hf⟩
end
section
variable {X : Cx} {XQ : XW}
end
section
variable {X : Cx} {XQ : XW}
end
section
variable {X : Cx} {XQ : XW}
end
section
variable {X : Cx} {XQ : XW}
end
section
variable {X : Cx} {XQ : XW}
theorem gv (i : Nat) {x : Str} {pos : Pos} (h : OkV X.env.scope x) (hN : X.N[i]? = some x := by rfl) : GE X XQ (.Name x pos) (vr i) := ⟨jv i h hN⟩
end
section
variable {X : Cx} {XQ : XW}
theorem gvB (i : Nat) {s2 : Shared} {H2 : Hp} {C : Addr} {scope : Scope} {c : List (Str × Addr)} {N' : List Str} {fp : List Addr} {x : Str} {pos : Pos} (h : okVC scope x = true) (hN : N'[i]? = some x := by rfl) : GE (blk X s2 H2 C scope c N' fp) XQ (.Name x pos) (vr i) := ⟨jvB i h hN⟩
end
section
variable {X : Cx} {XQ : XW}
theorem gown {x : Str} {ps : List Str} {fn : Fn} {j k n : Nat} {p pos : Pos} {e : Expr} {es : List Expr} {t : Ev (List D)} (C : Cal X.prog X.w X.K X.mg X.base x ps fn j) (hr : Room k X.A) (hg : Gl X x) (hp : plainN x = true) (ha : GA X XQ (e :: es) t) (hn : ps.length = n := by rfl) (hj : j ≤ k := by decide) (he : starEach (e :: es) X.env = (false, eval e X.env) :: starEach es X.env := by rfl) (hpl : (backTo pos (starEach es X.env)).any (·.1) = false := by rfl) : GE X XQ (.Call (.Name x p) (e :: es) [] pos) (cl n (noExc fn) t) := ⟨jown C hr hg hp ha.h hn hj he hpl⟩
end
section
variable {X : Cx} {XQ : XW}
theorem gcomp {sc : Scope} {N : List Str} {elt tg iter : Expr} {ifs : List Expr} {scope : Scope} {pos : Pos} {N' : List Str} {pk : List (Option Nat)} {f : Ev Src} {g : Tg} {t : Ev Bool} {e : Ev D} (hsc : X.env.scope = sc) (hNN : X.N = N) (ct : CompTab sc scope N N' pk) (hcm : X.calm = true) (hi : GI X XQ tg iter f) (hg : ∀ cl s2 H2 C fp, GG (blk X s2 H2 C scope cl N' fp) tg g) (ht : ∀ cl s2 H2 C fp, GTs (blk X s2 H2 C scope cl N' fp) XN ifs t) (he : ∀ cl s2 H2 C fp, GE (blk X s2 H2 C scope cl N' fp) XN elt e) (hs : ∀ x, foldedSetIterable iter X.env x = pure x := by intro _; rfl) : GE X XQ (.ListComp elt [⟨tg, iter, ifs, 0⟩] scope pos) (cmp f pk g t e) := ⟨jcomp hsc hNN ct hcm hi.h (fun z0 z1 z2 z3 z4 => (hg z0 z1 z2 z3 z4).h) (fun z0 z1 z2 z3 z4 => (ht z0 z1 z2 z3 z4).h) (fun z0 z1 z2 z3 z4 => (he z0 z1 z2 z3 z4).h) hs⟩
end
section
variable {X : Cx} {XQ : XW}
end
section
variable {X : Cx}
theorem gts_nil {Y : Cx} {XQ : XW} : GTs Y XQ [] ttrue := ⟨jts_nil ⟩
end
section
variable {X : Cx}
theorem gts_one {Y : Cx} {XQ : XW} {c : Expr} {t : Ev Bool} (h : GT Y XQ c t) : GTs Y XQ [c] t := ⟨jts_one h.h⟩
end
section
variable {X : Cx} {XQ : XW}
theorem gs_bad {st : Stmt} : GS X XQ st sbad := ⟨js_bad ⟩
end
section
variable {X : Cx} {XQ : XW}
end
section
variable {X : Cx} {XQ : XW}
end
theorem GW.jt {X : Cx} {XQ : XW} {e : Expr} {f : Ev Bool} (h : GW X XQ e f) : GT X XQ e f := ⟨JW.jt h.h⟩
end DL
set_option Elab.async false
set_option linter.all false
set_option maxRecDepth 100000
namespace DL
open PySem PySem.Spec PyProof.Rows L2
section
variable {K : PySem.W.Frag} {h : Heap} {mg : Str → Option Value} {x : Str}
theorem cst_int {i : Int} {t : Tok} (X : K.In h) (G : h.Ns mainGlobals mg) (a : PySem.W.nsIn K mainGlobals x = some (some (.int i t))) : ∃ u v, mg x = some u ∧ RelV v u ∧ ∀ mp H, Rep K mp H (.int i) v :=
  ⟨_, .int i, PySem.W.mg_of X G a, ⟨t, rfl⟩, fun _ _ => rfl⟩
theorem cst_str {y : Str} {t : Tok} (X : K.In h) (G : h.Ns mainGlobals mg) (a : PySem.W.nsIn K mainGlobals x = some (some (.str y t))) : ∃ u v, mg x = some u ∧ RelV v u ∧ ∀ mp H, Rep K mp H (.str y) v :=
  ⟨_, .str y, PySem.W.mg_of X G a, ⟨t, rfl⟩, fun _ _ => rfl⟩
theorem cst_t1 {p : Addr} {y : Str} {t : Tok} {n : Nat} {sl : Array (Option Value)} (X : K.In h) (G : h.Ns mainGlobals mg) (a : PySem.W.nsIn K mainGlobals x = some (some (.ref p))) (l : K.lookup p = some { cls := .type "tuple", dict := none, data := .seq #[.str y t] n, slots := sl }) :
    ∃ u v, mg x = some u ∧ RelV v u ∧ ∀ mp H, Rep K mp H (.tup [.str y]) v :=
  ⟨_, .ref p, PySem.W.mg_of X G a, rfl, fun _ _ => ⟨p, [.str y], rfl, .inr ⟨_, _, n, l, rfl, rfl, by rw [sizeLine_eq]; simp, .cons ⟨t, rfl⟩ .nil⟩, RepL.cons rfl RepL.nil⟩⟩
end
end DL
set_option Elab.async false
set_option linter.all false
set_option maxRecDepth 100000
namespace SP
open PySem PySem.Spec PyProof.Rows L2 DL
open Builtin Builtin.Str StrLaws
theorem cut_eq {c : Nat} : ∀ {a b X Y : List Nat}, c ∉ a → c ∉ b → a ++ c :: X = b ++ c :: Y → a = b ∧ X = Y
  | [], [], _, _, _, _, h => by simpa using h
  | [], y :: b, _, _, _, hb, h => by
    have : c = y := by simpa using (List.cons.inj h).1
    exact absurd (this ▸ List.mem_cons_self) hb
  | x :: a, [], _, _, ha, _, h => by
    have : x = c := by simpa using (List.cons.inj h).1
    exact absurd (this ▸ List.mem_cons_self) ha
  | x :: a, y :: b, X, Y, ha, hb, h => by
    obtain ⟨h1, h2⟩ := List.cons.inj h
    obtain ⟨e1, e2⟩ := cut_eq (c := c) (a := a) (b := b) (fun z => ha (List.mem_cons_of_mem _ z)) (fun z => hb (List.mem_cons_of_mem _ z)) h2
    exact ⟨by rw [h1, e1], e2⟩
theorem tl_app (a b : Str) : (a ++ b).cps.toList = a.cps.toList ++ b.cps.toList := by
  show (a.cps ++ b.cps).toList = _
  simp
theorem str_ext {a b : Str} (h : a.cps.toList = b.cps.toList) : a = b := by
  cases a; cases b
  congr 1
  exact Array.ext' h
theorem join_two {c : Nat} {x y : Str} {r : List Str} : (Str.join ⟨#[c]⟩ (x :: y :: r)).cps.toList = x.cps.toList ++ c :: (Str.join ⟨#[c]⟩ (y :: r)).cps.toList := by
  show ((x ++ (⟨#[c]⟩ : Str)) ++ Str.join ⟨#[c]⟩ (y :: r)).cps.toList = _
  rw [tl_app, tl_app]
  simp
theorem join_inj {c : Nat} : ∀ (ps qs : List Str), ps ≠ [] → qs ≠ [] → (∀ p ∈ ps, c ∉ p.cps.toList) → (∀ p ∈ qs, c ∉ p.cps.toList) → Str.join ⟨#[c]⟩ ps = Str.join ⟨#[c]⟩ qs → ps = qs
  | [], _, h, _, _, _, _ => absurd rfl h
  | _ :: _, [], _, h, _, _, _ => absurd rfl h
  | [x], [y], _, _, _, _, h => by rw [show x = y from h]
  | [x], y :: z :: r, _, _, hp, _, h => by
    have e : x.cps.toList = y.cps.toList ++ c :: (Str.join ⟨#[c]⟩ (z :: r)).cps.toList := by rw [← join_two, ← h]; rfl
    exact absurd (by rw [e]; simp) (hp x List.mem_cons_self)
  | x :: z :: r, [y], _, _, _, hq, h => by
    have e : y.cps.toList = x.cps.toList ++ c :: (Str.join ⟨#[c]⟩ (z :: r)).cps.toList := by rw [← join_two, h]; rfl
    exact absurd (by rw [e]; simp) (hq y List.mem_cons_self)
  | x :: x2 :: r, y :: y2 :: q, _, _, hp, hq, h => by
    have e : x.cps.toList ++ c :: (Str.join ⟨#[c]⟩ (x2 :: r)).cps.toList = y.cps.toList ++ c :: (Str.join ⟨#[c]⟩ (y2 :: q)).cps.toList := by rw [← join_two, ← join_two, h]
    obtain ⟨e1, e2⟩ := cut_eq (hp x List.mem_cons_self) (hq y List.mem_cons_self) e
    have e3 := join_inj (x2 :: r) (y2 :: q) (by simp) (by simp) (fun p hm => hp p (List.mem_cons_of_mem _ hm)) (fun p hm => hq p (List.mem_cons_of_mem _ hm)) (str_ext e2)
    rw [str_ext e1, e3]
theorem split_ne (x y : Str) : Txt.split x y ≠ [] := by
  unfold Txt.split
  split
  · simp
  · split
    · simp
    · rw [partsBetween_eq]
      obtain ⟨p, r, e⟩ := partsFrom_ne x y.length 0 (occurrences x y 0 x.length (x.length + 1))
      rw [e]
      simp
theorem split_join {c : Nat} {ps : List Str} (h : ps ≠ []) (hp : ∀ p ∈ ps, c ∉ p.cps.toList) : Txt.split (Str.join ⟨#[c]⟩ ps) ⟨#[c]⟩ = ps :=
  join_inj _ _ (split_ne _ _) h (split_free _ c) hp (join_split _ _)
theorem nparts_le (x y : Str) : nParts x y ≤ x.length + 2 := by
  unfold nParts
  rw [partsBetween_eq]
  have h : ∀ (cuts : List Nat) (a : Nat), (partsFrom x y.length a cuts).length = cuts.length + 1 := by
    intro cuts
    induction cuts with
    | nil => intro a; rfl
    | cons k r ih => intro a; show (_ :: partsFrom x y.length _ r).length = _; rw [List.length_cons, ih]; rfl
  rw [h]
  have := occ_length_le_len x y 0 x.length (x.length + 1)
  omega
theorem okSplit_of {x y : Str} (h1 : (y.length == 0) = false) (h2 : x.length ≤ 100000) (h3 : (Txt.split x y).length ≤ 100000) : okSplit x y = true := by
  unfold okSplit
  have := nparts_le x y
  simp only [Bool.and_eq_true, decide_eq_true_eq, Bool.not_eq_true']
  exact ⟨h1, by omega, by omega, by omega⟩
end SP
set_option Elab.async false
set_option linter.all false
set_option maxRecDepth 100000
namespace Law
open PySem PySem.Spec PyProof.Rows L2 DL
def top (i : Nat) : Stmt := PySem.Challenge.pw_summitwater_k03_canals_written_and_read.main.body.getD i (.Pass ⟨0, 0, 0, 0⟩)
abbrev st_place_words : Stmt := top 15
abbrev st_canal_text : Stmt := top 14
abbrev st_word_at : Stmt := top 22
abbrev st_may_follow : Stmt := top 18
abbrev st_is_written : Stmt := top 24
abbrev st_number_of : Stmt := top 23
abbrev st_read_number : Stmt := top 21
abbrev st_read_pound : Stmt := top 19
abbrev st_read_place : Stmt := top 17
abbrev st_read_gate : Stmt := top 20
abbrev st_read_canal : Stmt := top 16
abbrev st__law_tape : Stmt := top 26
abbrev st__law_draw : Stmt := top 27
abbrev st__law_pound : Stmt := top 28
abbrev st__law_canal : Stmt := top 29
abbrev st__law_words : Stmt := top 30
abbrev st_law : Stmt := top 31
def c_CHAMBER : D := (.tup [(.str "chamber")])
def c_DOWN : D := (.str "down")
def c_END : D := (.tup [(.str "end")])
def c_FIGURES : D := (.str "0123456789")
def c_MOST_BRIM : D := (.int 9)
def c_MOST_FIGURES : D := (.int 16)
def c_MOST_PLACES : D := (.int 13)
def c_MOST_PRICE : D := (.int 99)
def c_MOST_ROOM : D := (.int 4)
def c_UP : D := (.str "up")
structure Txt (K : PySem.W.Frag) (mg : Str → Option Value) : Prop where
  b_all : mg "all" = none
  b_enumerate : mg "enumerate" = none
  b_int : mg "int" = none
  b_isinstance : mg "isinstance" = none
  b_len : mg "len" = none
  b_list : mg "list" = none
  b_min : mg "min" = none
  b_range : mg "range" = none
  b_repr : mg "repr" = none
  b_str : mg "str" = none
  b_tuple : mg "tuple" = none
  b_zip : mg "zip" = none
  k_CHAMBER : ∃ u v, mg "CHAMBER" = some u ∧ RelV v u ∧ ∀ mp H, Rep K mp H c_CHAMBER v
  k_DOWN : ∃ u v, mg "DOWN" = some u ∧ RelV v u ∧ ∀ mp H, Rep K mp H c_DOWN v
  k_END : ∃ u v, mg "END" = some u ∧ RelV v u ∧ ∀ mp H, Rep K mp H c_END v
  k_FIGURES : ∃ u v, mg "FIGURES" = some u ∧ RelV v u ∧ ∀ mp H, Rep K mp H c_FIGURES v
  k_MOST_BRIM : ∃ u v, mg "MOST_BRIM" = some u ∧ RelV v u ∧ ∀ mp H, Rep K mp H c_MOST_BRIM v
  k_MOST_FIGURES : ∃ u v, mg "MOST_FIGURES" = some u ∧ RelV v u ∧ ∀ mp H, Rep K mp H c_MOST_FIGURES v
  k_MOST_PLACES : ∃ u v, mg "MOST_PLACES" = some u ∧ RelV v u ∧ ∀ mp H, Rep K mp H c_MOST_PLACES v
  k_MOST_PRICE : ∃ u v, mg "MOST_PRICE" = some u ∧ RelV v u ∧ ∀ mp H, Rep K mp H c_MOST_PRICE v
  k_MOST_ROOM : ∃ u v, mg "MOST_ROOM" = some u ∧ RelV v u ∧ ∀ mp H, Rep K mp H c_MOST_ROOM v
  k_UP : ∃ u v, mg "UP" = some u ∧ RelV v u ∧ ∀ mp H, Rep K mp H c_UP v
theorem Txt.c_CHAMBER {X : Cx} {XQ : XW} {pos : Pos} (T : Txt X.K X.mg) (hg : Gl X "CHAMBER") : GE X XQ (.Name "CHAMBER" pos) (cn c_CHAMBER) := let ⟨u, v, h1, h2, h3⟩ := T.k_CHAMBER; ⟨je_cst h1 h2 h3 hg (by decide +kernel)⟩
theorem Txt.c_DOWN {X : Cx} {XQ : XW} {pos : Pos} (T : Txt X.K X.mg) (hg : Gl X "DOWN") : GE X XQ (.Name "DOWN" pos) (cn c_DOWN) := let ⟨u, v, h1, h2, h3⟩ := T.k_DOWN; ⟨je_cst h1 h2 h3 hg (by decide +kernel)⟩
theorem Txt.c_END {X : Cx} {XQ : XW} {pos : Pos} (T : Txt X.K X.mg) (hg : Gl X "END") : GE X XQ (.Name "END" pos) (cn c_END) := let ⟨u, v, h1, h2, h3⟩ := T.k_END; ⟨je_cst h1 h2 h3 hg (by decide +kernel)⟩
theorem Txt.c_FIGURES {X : Cx} {XQ : XW} {pos : Pos} (T : Txt X.K X.mg) (hg : Gl X "FIGURES") : GE X XQ (.Name "FIGURES" pos) (cn c_FIGURES) := let ⟨u, v, h1, h2, h3⟩ := T.k_FIGURES; ⟨je_cst h1 h2 h3 hg (by decide +kernel)⟩
theorem Txt.c_MOST_BRIM {X : Cx} {XQ : XW} {pos : Pos} (T : Txt X.K X.mg) (hg : Gl X "MOST_BRIM") : GE X XQ (.Name "MOST_BRIM" pos) (cn c_MOST_BRIM) := let ⟨u, v, h1, h2, h3⟩ := T.k_MOST_BRIM; ⟨je_cst h1 h2 h3 hg (by decide +kernel)⟩
theorem Txt.c_MOST_FIGURES {X : Cx} {XQ : XW} {pos : Pos} (T : Txt X.K X.mg) (hg : Gl X "MOST_FIGURES") : GE X XQ (.Name "MOST_FIGURES" pos) (cn c_MOST_FIGURES) := let ⟨u, v, h1, h2, h3⟩ := T.k_MOST_FIGURES; ⟨je_cst h1 h2 h3 hg (by decide +kernel)⟩
theorem Txt.c_MOST_PLACES {X : Cx} {XQ : XW} {pos : Pos} (T : Txt X.K X.mg) (hg : Gl X "MOST_PLACES") : GE X XQ (.Name "MOST_PLACES" pos) (cn c_MOST_PLACES) := let ⟨u, v, h1, h2, h3⟩ := T.k_MOST_PLACES; ⟨je_cst h1 h2 h3 hg (by decide +kernel)⟩
theorem Txt.c_MOST_PRICE {X : Cx} {XQ : XW} {pos : Pos} (T : Txt X.K X.mg) (hg : Gl X "MOST_PRICE") : GE X XQ (.Name "MOST_PRICE" pos) (cn c_MOST_PRICE) := let ⟨u, v, h1, h2, h3⟩ := T.k_MOST_PRICE; ⟨je_cst h1 h2 h3 hg (by decide +kernel)⟩
theorem Txt.c_MOST_ROOM {X : Cx} {XQ : XW} {pos : Pos} (T : Txt X.K X.mg) (hg : Gl X "MOST_ROOM") : GE X XQ (.Name "MOST_ROOM" pos) (cn c_MOST_ROOM) := let ⟨u, v, h1, h2, h3⟩ := T.k_MOST_ROOM; ⟨je_cst h1 h2 h3 hg (by decide +kernel)⟩
theorem Txt.c_UP {X : Cx} {XQ : XW} {pos : Pos} (T : Txt X.K X.mg) (hg : Gl X "UP") : GE X XQ (.Name "UP" pos) (cn c_UP) := let ⟨u, v, h1, h2, h3⟩ := T.k_UP; ⟨je_cst h1 h2 h3 hg (by decide +kernel)⟩
section
variable {P : Program} {w : World} {K : PySem.W.Frag} {mg : Str → Option Value} {base : Heap}
def b_place_words : Sv := (sret (cmp (isrc (vr 0)) [none] (gn 0) (tb (o2 notnD (vr 0) (cn .non))) (b1 strXD (ac (vr 0) an))))
def f_place_words : Fn := fnB 1 b_place_words
theorem sc_place_words : FnScope ["place"] ["place"] (defScope st_place_words) := ⟨rfl, rfl, rfl, by decide +kernel, rfl, by decide +kernel, by decide +kernel⟩
theorem v_place_words_place : OkV (defScope st_place_words) "place" := ⟨by decide +kernel⟩
set_option maxHeartbeats 4000000 in
theorem cal_place_words (T : Txt K mg) (d : Dn K mg "place_words" st_place_words ["place"]) : Cal P w K mg base "place_words" ["place"] f_place_words 1 := by
  have Sc := sc_place_words
  refine cal_of ["place"] 0 b_place_words rfl d Sc fun f cdv A outer s H E hr => ?_
  conv => arg 3; whnf
  refine GSs.h ?_
  exact (gss_one (gs_ret (gcomp (sc := defScope st_place_words) (N := ["place"]) rfl rfl (N' := ["part"]) (pk := [none]) ⟨rfl, by decide +kernel, by decide +kernel, by decide +kernel, rfl, by decide +kernel⟩ rfl (gi_seq (gv 0 v_place_words_place)) (fun cl s2 H2 C fp => (ggnB 0 (by decide +kernel) (by decide +kernel))) (fun cl s2 H2 C fp => (gts_one (gt_notn (gvB 0 (by decide +kernel)) ge_non))) (fun cl s2 H2 C fp => (ge_strX (glB (by decide +kernel)) T.b_str (ga_cons (gvB 0 (by decide +kernel)) ga_nil se_Name))))))
def lb_canal_text_1 : Sv := (sq (sx (mt appD (vr 3) (ac (vr 4) an)))
    (sx (mt extD (vr 3) (ac (cl 1 (noExc f_place_words) (ac (vr 5) an)) an))))
def b_canal_text : Sv := (sq (sa (vr 0) (gt (gcons (gn 1) (gcons (gn 2) gnil)) 2))
    (sq (sa (cl 1 (noExc f_place_words) (ac (o2 getD (vr 1) (cn (.int 0))) an)) (gn 3))
    (sq (sfor (izip (ac (vr 2) (ac (sl2 (vr 1) (osome (cn (.int 1))) onone) an))) (gt (gcons (gn 4) (gcons (gn 5) gnil)) 2) lb_canal_text_1)
    (sret (mts joinD (cn (.str " ")) (ac (vr 3) an))))))
def f_canal_text : Fn := fnB 6 b_canal_text
theorem sc_canal_text : FnScope ["canal", "places", "gates", "words", "gate", "place"] ["canal"] (defScope st_canal_text) := ⟨rfl, rfl, rfl, by decide +kernel, rfl, by decide +kernel, by decide +kernel⟩
theorem g_canal_text_place_words : OkG (defScope st_canal_text) "place_words" := ⟨by decide +kernel⟩
theorem g_canal_text_zip : OkG (defScope st_canal_text) "zip" := ⟨by decide +kernel⟩
theorem l_canal_text_gate : OkL (defScope st_canal_text) "gate" := ⟨by decide +kernel⟩
theorem l_canal_text_gates : OkL (defScope st_canal_text) "gates" := ⟨by decide +kernel⟩
theorem l_canal_text_place : OkL (defScope st_canal_text) "place" := ⟨by decide +kernel⟩
theorem l_canal_text_places : OkL (defScope st_canal_text) "places" := ⟨by decide +kernel⟩
theorem l_canal_text_words : OkL (defScope st_canal_text) "words" := ⟨by decide +kernel⟩
theorem v_canal_text_canal : OkV (defScope st_canal_text) "canal" := ⟨by decide +kernel⟩
theorem v_canal_text_gate : OkV (defScope st_canal_text) "gate" := ⟨by decide +kernel⟩
theorem v_canal_text_gates : OkV (defScope st_canal_text) "gates" := ⟨by decide +kernel⟩
theorem v_canal_text_place : OkV (defScope st_canal_text) "place" := ⟨by decide +kernel⟩
theorem v_canal_text_places : OkV (defScope st_canal_text) "places" := ⟨by decide +kernel⟩
theorem v_canal_text_words : OkV (defScope st_canal_text) "words" := ⟨by decide +kernel⟩
theorem p_place_words : plainN "place_words" = true := by decide +kernel
set_option maxHeartbeats 4000000 in
theorem cal_canal_text (T : Txt K mg) (d : Dn K mg "canal_text" st_canal_text ["canal"]) (C_place_words : Cal P w K mg base "place_words" ["place"] f_place_words 1) : Cal P w K mg base "canal_text" ["canal"] f_canal_text 2 := by
  have Sc := sc_canal_text
  refine cal_of ["canal", "places", "gates", "words", "gate", "place"] 1 b_canal_text rfl d Sc fun f cdv A outer s H E hr => ?_
  conv => arg 3; whnf
  refine GSs.h ?_
  exact (gss_cons (gs_asg (gv 0 v_canal_text_canal) (gg_tup rfl (ggs_cons (ggn 1 Sc.nd l_canal_text_places) (ggs_cons (ggn 2 Sc.nd l_canal_text_gates) ggs_nil))))
    (gss_cons (gset 3 Sc.nd l_canal_text_words (gown C_place_words hr (gl g_canal_text_place_words) p_place_words (ga_cons (ge_get (gv 1 v_canal_text_places) ge_int) ga_nil se_Subscript)))
    (gss_cons (gs_for PassesOwn.never rfl (gi_zip (gl g_canal_text_zip) T.b_zip (ga_cons (gv 2 v_canal_text_gates) (ga_cons (ge_slice2 (gv 1 v_canal_text_places) (go_some ge_int) go_none) ga_nil se_Subscript) se_Name)) (gg_tup rfl (ggs_cons (ggn 4 Sc.nd l_canal_text_gate) (ggs_cons (ggn 5 Sc.nd l_canal_text_place) ggs_nil)))
    (gss_cons (gs_expr (ge_append (gv 3 v_canal_text_words) (ga_cons (gv 4 v_canal_text_gate) ga_nil se_Name)))
    (gss_one (gs_expr (ge_extend (gv 3 v_canal_text_words) (ga_cons (gown C_place_words hr (gl g_canal_text_place_words) p_place_words (ga_cons (gv 5 v_canal_text_place) ga_nil se_Name)) ga_nil se_Call))))))
    (gss_one (gs_ret (ge_join ge_str (ga_cons (gv 3 v_canal_text_words) ga_nil se_Name)))))))
def b_word_at : Sv := (sq (sif (tb (o2 eqD (vr 1) (b1 lenD (ac (vr 0) an))))
    sbad
    skip)
    (sret (o2 getD (vr 0) (vr 1))))
def f_word_at : Fn := fnB 2 b_word_at
theorem sc_word_at : FnScope ["words", "at"] ["words", "at"] (defScope st_word_at) := ⟨rfl, rfl, rfl, by decide +kernel, rfl, by decide +kernel, by decide +kernel⟩
theorem g_word_at_len : OkG (defScope st_word_at) "len" := ⟨by decide +kernel⟩
theorem v_word_at_at : OkV (defScope st_word_at) "at" := ⟨by decide +kernel⟩
theorem v_word_at_words : OkV (defScope st_word_at) "words" := ⟨by decide +kernel⟩
set_option maxHeartbeats 4000000 in
theorem cal_word_at (T : Txt K mg) (d : Dn K mg "word_at" st_word_at ["words", "at"]) : Cal P w K mg base "word_at" ["words", "at"] f_word_at 1 := by
  have Sc := sc_word_at
  refine cal_of ["words", "at"] 0 b_word_at rfl d Sc fun f cdv A outer s H E hr => ?_
  conv => arg 3; whnf
  refine GSs.h ?_
  exact (gss_cons (gs_if (gt_eq hr.units (gv 1 v_word_at_at) (ge_len (gl g_word_at_len) T.b_len (ga_cons (gv 0 v_word_at_words) ga_nil se_Name)))
    (gss_one gs_bad)
    gss_nil)
    (gss_one (gs_ret (ge_get (gv 0 v_word_at_words) (gv 1 v_word_at_at)))))
def b_may_follow : Sv := (sq (sa (b1 lenD (ac (vr 1) an)) (gn 2))
    (sq (sif (tb (o2 eqD (vr 2) (cn (.int 0))))
    (sret (o2 eqD (vr 0) (cn (.str "end"))))
    skip)
    (sq (sif (tb (o2 eqD (vr 0) (cn (.str "chamber"))))
    (sret (o2 ltD (o2 addD (vr 2) (cn (.int 1))) (cn c_MOST_PLACES)))
    skip)
    (sq (sif (tb (o2 neD (o2 getD (vr 1) (o1 negD (cn (.int 1)))) (cn c_CHAMBER)))
    (sret (cn (.bl false)))
    skip)
    (sq (sif (tb (o2 eqD (vr 0) (cn (.str "pound"))))
    (sret (o2 ltD (o2 addD (vr 2) (cn (.int 2))) (cn c_MOST_PLACES)))
    skip)
    (sret (o2 eqD (vr 0) (cn (.str "end")))))))))
def f_may_follow : Fn := fnB 3 b_may_follow
theorem sc_may_follow : FnScope ["word", "ahead", "number"] ["word", "ahead"] (defScope st_may_follow) := ⟨rfl, rfl, rfl, by decide +kernel, rfl, by decide +kernel, by decide +kernel⟩
theorem g_may_follow_CHAMBER : OkG (defScope st_may_follow) "CHAMBER" := ⟨by decide +kernel⟩
theorem g_may_follow_MOST_PLACES : OkG (defScope st_may_follow) "MOST_PLACES" := ⟨by decide +kernel⟩
theorem g_may_follow_len : OkG (defScope st_may_follow) "len" := ⟨by decide +kernel⟩
theorem l_may_follow_number : OkL (defScope st_may_follow) "number" := ⟨by decide +kernel⟩
theorem v_may_follow_ahead : OkV (defScope st_may_follow) "ahead" := ⟨by decide +kernel⟩
theorem v_may_follow_number : OkV (defScope st_may_follow) "number" := ⟨by decide +kernel⟩
theorem v_may_follow_word : OkV (defScope st_may_follow) "word" := ⟨by decide +kernel⟩
set_option maxHeartbeats 4000000 in
theorem cal_may_follow (T : Txt K mg) (d : Dn K mg "may_follow" st_may_follow ["word", "ahead"]) : Cal P w K mg base "may_follow" ["word", "ahead"] f_may_follow 1 := by
  have Sc := sc_may_follow
  refine cal_of ["word", "ahead", "number"] 0 b_may_follow rfl d Sc fun f cdv A outer s H E hr => ?_
  conv => arg 3; whnf
  refine GSs.h ?_
  exact (gss_cons (gset 2 Sc.nd l_may_follow_number (ge_len (gl g_may_follow_len) T.b_len (ga_cons (gv 1 v_may_follow_ahead) ga_nil se_Name)))
    (gss_cons (gs_if (gt_eq hr.units (gv 2 v_may_follow_number) ge_int)
    (gss_one (gs_ret (ge_eq hr.units (gv 0 v_may_follow_word) ge_str)))
    gss_nil)
    (gss_cons (gs_if (gt_eq hr.units (gv 0 v_may_follow_word) ge_str)
    (gss_one (gs_ret (ge_lt (ge_add (gv 2 v_may_follow_number) ge_int) (T.c_MOST_PLACES (gl g_may_follow_MOST_PLACES)))))
    gss_nil)
    (gss_cons (gs_if (gt_ne hr.units (ge_get (gv 1 v_may_follow_ahead) (ge_neg ge_int)) (T.c_CHAMBER (gl g_may_follow_CHAMBER)))
    (gss_one (gs_ret ge_bl))
    gss_nil)
    (gss_cons (gs_if (gt_eq hr.units (gv 0 v_may_follow_word) ge_str)
    (gss_one (gs_ret (ge_lt (ge_add (gv 2 v_may_follow_number) ge_int) (T.c_MOST_PLACES (gl g_may_follow_MOST_PLACES)))))
    gss_nil)
    (gss_one (gs_ret (ge_eq hr.units (gv 0 v_may_follow_word) ge_str))))))))
def b_is_written : Sv := (sq (sif (to (tn (tb (ch leD leD (cn (.int 1)) (b1 lenD (ac (vr 0) an)) (cn c_MOST_FIGURES)))) (tn (tt (b1 allD (ac (cmp (isrcS (vr 0)) [none] (gn 0) ttrue (o2 istD (vr 0) (cn c_FIGURES))) an)))))
    (sret (cn (.bl false)))
    skip)
    (sret (vo (o2 eqD (vr 0) (cn (.str "0"))) (o2 neD (o2 getD (vr 0) (cn (.int 0))) (cn (.str "0"))))))
def f_is_written : Fn := fnB 1 b_is_written
theorem sc_is_written : FnScope ["word"] ["word"] (defScope st_is_written) := ⟨rfl, rfl, rfl, by decide +kernel, rfl, by decide +kernel, by decide +kernel⟩
theorem g_is_written_MOST_FIGURES : OkG (defScope st_is_written) "MOST_FIGURES" := ⟨by decide +kernel⟩
theorem g_is_written_all : OkG (defScope st_is_written) "all" := ⟨by decide +kernel⟩
theorem g_is_written_len : OkG (defScope st_is_written) "len" := ⟨by decide +kernel⟩
theorem v_is_written_word : OkV (defScope st_is_written) "word" := ⟨by decide +kernel⟩
set_option maxHeartbeats 4000000 in
theorem cal_is_written (T : Txt K mg) (d : Dn K mg "is_written" st_is_written ["word"]) : Cal P w K mg base "is_written" ["word"] f_is_written 1 := by
  have Sc := sc_is_written
  refine cal_of ["word"] 0 b_is_written rfl d Sc fun f cdv A outer s H E hr => ?_
  conv => arg 3; whnf
  refine GSs.h ?_
  exact (gss_cons (gs_if (GW.jt (gw_or (gt_not (gt_chain op_le od_le op_le od_le ge_int (ge_len (gl g_is_written_len) T.b_len (ga_cons (gv 0 v_is_written_word) ga_nil se_Name)) (T.c_MOST_FIGURES (gl g_is_written_MOST_FIGURES)))) (gw_or1 (gt_not (gt_val (ge_all rfl (gl g_is_written_all) T.b_all (ga_cons (gcomp (sc := defScope st_is_written) (N := ["word"]) rfl rfl (N' := ["sign"]) (pk := [none]) ⟨rfl, by decide +kernel, by decide +kernel, by decide +kernel, rfl, by decide +kernel⟩ rfl (gi_str (gv 0 v_is_written_word)) (fun cl s2 H2 C fp => (ggnB 0 (by decide +kernel) (by decide +kernel))) (fun cl s2 H2 C fp => gts_nil) (fun cl s2 H2 C fp => (ge_ins (gvB 0 (by decide +kernel)) (T.c_FIGURES (glB (by decide +kernel)))))) ga_nil se_ListComp)))))))
    (gss_one (gs_ret ge_bl))
    gss_nil)
    (gss_one (gs_ret (ge_or (ge_eq hr.units (gv 0 v_is_written_word) ge_str) (ge_one (ge_ne hr.units (ge_get (gv 0 v_is_written_word) ge_int) ge_str))))))
def b_number_of : Sv := (sq (sif (to (tn (tt (cl 1 (noExc f_is_written) (ac (vr 0) an)))) (tn (tb (ch leD leD (vr 1) (b1 intSD (ac (vr 0) an)) (vr 2)))))
    (sret (cn .non))
    skip)
    (sret (b1 intSD (ac (vr 0) an))))
def f_number_of : Fn := fnB 3 b_number_of
theorem sc_number_of : FnScope ["word", "least", "most"] ["word", "least", "most"] (defScope st_number_of) := ⟨rfl, rfl, rfl, by decide +kernel, rfl, by decide +kernel, by decide +kernel⟩
theorem g_number_of_int : OkG (defScope st_number_of) "int" := ⟨by decide +kernel⟩
theorem g_number_of_is_written : OkG (defScope st_number_of) "is_written" := ⟨by decide +kernel⟩
theorem v_number_of_least : OkV (defScope st_number_of) "least" := ⟨by decide +kernel⟩
theorem v_number_of_most : OkV (defScope st_number_of) "most" := ⟨by decide +kernel⟩
theorem v_number_of_word : OkV (defScope st_number_of) "word" := ⟨by decide +kernel⟩
theorem p_is_written : plainN "is_written" = true := by decide +kernel
set_option maxHeartbeats 4000000 in
theorem cal_number_of (T : Txt K mg) (d : Dn K mg "number_of" st_number_of ["word", "least", "most"]) (C_is_written : Cal P w K mg base "is_written" ["word"] f_is_written 1) : Cal P w K mg base "number_of" ["word", "least", "most"] f_number_of 2 := by
  have Sc := sc_number_of
  refine cal_of ["word", "least", "most"] 1 b_number_of rfl d Sc fun f cdv A outer s H E hr => ?_
  conv => arg 3; whnf
  refine GSs.h ?_
  exact (gss_cons (gs_if (GW.jt (gw_or (gt_not (gt_val (gown C_is_written hr (gl g_number_of_is_written) p_is_written (ga_cons (gv 0 v_number_of_word) ga_nil se_Name)))) (gw_or1 (gt_not (gt_chain op_le od_le op_le od_le (gv 1 v_number_of_least) (ge_intS (gl g_number_of_int) T.b_int (ga_cons (gv 0 v_number_of_word) ga_nil se_Name)) (gv 2 v_number_of_most))))))
    (gss_one (gs_ret ge_non))
    gss_nil)
    (gss_one (gs_ret (ge_intS (gl g_number_of_int) T.b_int (ga_cons (gv 0 v_number_of_word) ga_nil se_Name)))))
def b_read_number : Sv := (sq (sa (cl 3 (noExc f_number_of) (ac (cl 2 (noExc f_word_at) (ac (vr 0) (ac (vr 1) an))) (ac (vr 2) (ac (vr 3) an)))) (gn 4))
    (sq (sif (tb (o2 isnD (vr 4) (cn .non)))
    sbad
    skip)
    (sret (vr 4))))
def f_read_number : Fn := fnB 5 b_read_number
theorem sc_read_number : FnScope ["words", "at", "least", "most", "number"] ["words", "at", "least", "most"] (defScope st_read_number) := ⟨rfl, rfl, rfl, by decide +kernel, rfl, by decide +kernel, by decide +kernel⟩
theorem g_read_number_number_of : OkG (defScope st_read_number) "number_of" := ⟨by decide +kernel⟩
theorem g_read_number_word_at : OkG (defScope st_read_number) "word_at" := ⟨by decide +kernel⟩
theorem l_read_number_number : OkL (defScope st_read_number) "number" := ⟨by decide +kernel⟩
theorem v_read_number_at : OkV (defScope st_read_number) "at" := ⟨by decide +kernel⟩
theorem v_read_number_least : OkV (defScope st_read_number) "least" := ⟨by decide +kernel⟩
theorem v_read_number_most : OkV (defScope st_read_number) "most" := ⟨by decide +kernel⟩
theorem v_read_number_number : OkV (defScope st_read_number) "number" := ⟨by decide +kernel⟩
theorem v_read_number_words : OkV (defScope st_read_number) "words" := ⟨by decide +kernel⟩
theorem p_number_of : plainN "number_of" = true := by decide +kernel
theorem p_word_at : plainN "word_at" = true := by decide +kernel
set_option maxHeartbeats 4000000 in
theorem cal_read_number (T : Txt K mg) (d : Dn K mg "read_number" st_read_number ["words", "at", "least", "most"]) (C_number_of : Cal P w K mg base "number_of" ["word", "least", "most"] f_number_of 2) (C_word_at : Cal P w K mg base "word_at" ["words", "at"] f_word_at 1) : Cal P w K mg base "read_number" ["words", "at", "least", "most"] f_read_number 3 := by
  have Sc := sc_read_number
  refine cal_of ["words", "at", "least", "most", "number"] 2 b_read_number rfl d Sc fun f cdv A outer s H E hr => ?_
  conv => arg 3; whnf
  refine GSs.h ?_
  exact (gss_cons (gset 4 Sc.nd l_read_number_number (gown C_number_of hr (gl g_read_number_number_of) p_number_of (ga_cons (gown C_word_at hr (gl g_read_number_word_at) p_word_at (ga_cons (gv 0 v_read_number_words) (ga_cons (gv 1 v_read_number_at) ga_nil se_Name) se_Name)) (ga_cons (gv 2 v_read_number_least) (ga_cons (gv 3 v_read_number_most) ga_nil se_Name) se_Name) se_Call)))
    (gss_cons (gs_if (gt_isn (gv 4 v_read_number_number) ge_non)
    (gss_one gs_bad)
    gss_nil)
    (gss_one (gs_ret (gv 4 v_read_number_number)))))
def b_read_pound : Sv := (sq (sa (cl 4 (noExc f_read_number) (ac (vr 0) (ac (vr 1) (ac (cn (.int 1)) (ac (cn c_MOST_BRIM) an))))) (gn 2))
    (sq (sa (cl 4 (noExc f_read_number) (ac (vr 0) (ac (o2 addD (vr 1) (cn (.int 1))) (ac (cn (.int 0)) (ac (vr 2) an))))) (gn 3))
    (sq (sa (cl 4 (noExc f_read_number) (ac (vr 0) (ac (o2 addD (vr 1) (cn (.int 2))) (ac (cn (.int 1)) (ac (cn c_MOST_ROOM) an))))) (gn 4))
    (sq (sa (o2 addD (vr 1) (cn (.int 3))) (gn 5))
    (sq (sa (cn .non) (gn 6))
    (sq (sif (tb (o2 ltD (vr 5) (b1 lenD (ac (vr 0) an))))
    (sa (cl 3 (noExc f_number_of) (ac (o2 getD (vr 0) (vr 5)) (ac (cn (.int 0)) (ac (cn c_MOST_PRICE) an)))) (gn 6))
    skip)
    (sq (sif (tb (o2 notnD (vr 6) (cn .non)))
    (sag 5 (fun a b => a + b) (cn (.int 1)))
    skip)
    (sret (tp (ac (tp (ac (cn (.str "pound")) (ac (vr 2) (ac (vr 3) (ac (vr 4) (ac (vr 6) an)))))) (ac (vr 5) an)))))))))))
def f_read_pound : Fn := fnB 7 b_read_pound
theorem sc_read_pound : FnScope ["words", "at", "brim", "deep", "room", "behind", "price"] ["words", "at"] (defScope st_read_pound) := ⟨rfl, rfl, rfl, by decide +kernel, rfl, by decide +kernel, by decide +kernel⟩
theorem g_read_pound_MOST_BRIM : OkG (defScope st_read_pound) "MOST_BRIM" := ⟨by decide +kernel⟩
theorem g_read_pound_MOST_PRICE : OkG (defScope st_read_pound) "MOST_PRICE" := ⟨by decide +kernel⟩
theorem g_read_pound_MOST_ROOM : OkG (defScope st_read_pound) "MOST_ROOM" := ⟨by decide +kernel⟩
theorem g_read_pound_len : OkG (defScope st_read_pound) "len" := ⟨by decide +kernel⟩
theorem g_read_pound_number_of : OkG (defScope st_read_pound) "number_of" := ⟨by decide +kernel⟩
theorem g_read_pound_read_number : OkG (defScope st_read_pound) "read_number" := ⟨by decide +kernel⟩
theorem l_read_pound_behind : OkL (defScope st_read_pound) "behind" := ⟨by decide +kernel⟩
theorem l_read_pound_brim : OkL (defScope st_read_pound) "brim" := ⟨by decide +kernel⟩
theorem l_read_pound_deep : OkL (defScope st_read_pound) "deep" := ⟨by decide +kernel⟩
theorem l_read_pound_price : OkL (defScope st_read_pound) "price" := ⟨by decide +kernel⟩
theorem l_read_pound_room : OkL (defScope st_read_pound) "room" := ⟨by decide +kernel⟩
theorem v_read_pound_at : OkV (defScope st_read_pound) "at" := ⟨by decide +kernel⟩
theorem v_read_pound_behind : OkV (defScope st_read_pound) "behind" := ⟨by decide +kernel⟩
theorem v_read_pound_brim : OkV (defScope st_read_pound) "brim" := ⟨by decide +kernel⟩
theorem v_read_pound_deep : OkV (defScope st_read_pound) "deep" := ⟨by decide +kernel⟩
theorem v_read_pound_price : OkV (defScope st_read_pound) "price" := ⟨by decide +kernel⟩
theorem v_read_pound_room : OkV (defScope st_read_pound) "room" := ⟨by decide +kernel⟩
theorem v_read_pound_words : OkV (defScope st_read_pound) "words" := ⟨by decide +kernel⟩
theorem p_read_number : plainN "read_number" = true := by decide +kernel
set_option maxHeartbeats 4000000 in
theorem cal_read_pound (T : Txt K mg) (d : Dn K mg "read_pound" st_read_pound ["words", "at"]) (C_number_of : Cal P w K mg base "number_of" ["word", "least", "most"] f_number_of 2) (C_read_number : Cal P w K mg base "read_number" ["words", "at", "least", "most"] f_read_number 3) : Cal P w K mg base "read_pound" ["words", "at"] f_read_pound 4 := by
  have Sc := sc_read_pound
  refine cal_of ["words", "at", "brim", "deep", "room", "behind", "price"] 3 b_read_pound rfl d Sc fun f cdv A outer s H E hr => ?_
  conv => arg 3; whnf
  refine GSs.h ?_
  exact (gss_cons (gset 2 Sc.nd l_read_pound_brim (gown C_read_number hr (gl g_read_pound_read_number) p_read_number (ga_cons (gv 0 v_read_pound_words) (ga_cons (gv 1 v_read_pound_at) (ga_cons ge_int (ga_cons (T.c_MOST_BRIM (gl g_read_pound_MOST_BRIM)) ga_nil se_Name) se_Constant) se_Name) se_Name)))
    (gss_cons (gset 3 Sc.nd l_read_pound_deep (gown C_read_number hr (gl g_read_pound_read_number) p_read_number (ga_cons (gv 0 v_read_pound_words) (ga_cons (ge_add (gv 1 v_read_pound_at) ge_int) (ga_cons ge_int (ga_cons (gv 2 v_read_pound_brim) ga_nil se_Name) se_Constant) se_BinOp) se_Name)))
    (gss_cons (gset 4 Sc.nd l_read_pound_room (gown C_read_number hr (gl g_read_pound_read_number) p_read_number (ga_cons (gv 0 v_read_pound_words) (ga_cons (ge_add (gv 1 v_read_pound_at) ge_int) (ga_cons ge_int (ga_cons (T.c_MOST_ROOM (gl g_read_pound_MOST_ROOM)) ga_nil se_Name) se_Constant) se_BinOp) se_Name)))
    (gss_cons (gset 5 Sc.nd l_read_pound_behind (ge_add (gv 1 v_read_pound_at) ge_int))
    (gss_cons (gset 6 Sc.nd l_read_pound_price ge_non)
    (gss_cons (gs_if (gt_lt (gv 5 v_read_pound_behind) (ge_len (gl g_read_pound_len) T.b_len (ga_cons (gv 0 v_read_pound_words) ga_nil se_Name)))
    (gss_one (gset 6 Sc.nd l_read_pound_price (gown C_number_of hr (gl g_read_pound_number_of) p_number_of (ga_cons (ge_get (gv 0 v_read_pound_words) (gv 5 v_read_pound_behind)) (ga_cons ge_int (ga_cons (T.c_MOST_PRICE (gl g_read_pound_MOST_PRICE)) ga_nil se_Name) se_Constant) se_Subscript))))
    gss_nil)
    (gss_cons (gs_if (gt_notn (gv 6 v_read_pound_price) ge_non)
    (gss_one (gs_inc 5 Sc.nd l_read_pound_behind ge_int))
    gss_nil)
    (gss_one (gs_ret (ge_tup (ga_cons (ge_tup (ga_cons ge_str (ga_cons (gv 2 v_read_pound_brim) (ga_cons (gv 3 v_read_pound_deep) (ga_cons (gv 4 v_read_pound_room) (ga_cons (gv 6 v_read_pound_price) ga_nil se_Name) se_Name) se_Name) se_Name) se_Constant)) (ga_cons (gv 5 v_read_pound_behind) ga_nil se_Name) se_Tuple)))))))))))
def b_read_place : Sv := (sq (sa (cl 2 (noExc f_word_at) (ac (vr 0) (ac (vr 1) an))) (gn 3))
    (sq (sif (tn (tt (cl 2 (noExc f_may_follow) (ac (vr 3) (ac (vr 2) an)))))
    sbad
    skip)
    (sq (sif (tb (o2 eqD (vr 3) (cn (.str "pound"))))
    (sret (cl 2 (noExc f_read_pound) (ac (vr 0) (ac (o2 addD (vr 1) (cn (.int 1))) an))))
    skip)
    (sret (tp (ac (tp (ac (vr 3) an)) (ac (o2 addD (vr 1) (cn (.int 1))) an)))))))
def f_read_place : Fn := fnB 4 b_read_place
theorem sc_read_place : FnScope ["words", "at", "ahead", "word"] ["words", "at", "ahead"] (defScope st_read_place) := ⟨rfl, rfl, rfl, by decide +kernel, rfl, by decide +kernel, by decide +kernel⟩
theorem g_read_place_may_follow : OkG (defScope st_read_place) "may_follow" := ⟨by decide +kernel⟩
theorem g_read_place_read_pound : OkG (defScope st_read_place) "read_pound" := ⟨by decide +kernel⟩
theorem g_read_place_word_at : OkG (defScope st_read_place) "word_at" := ⟨by decide +kernel⟩
theorem l_read_place_word : OkL (defScope st_read_place) "word" := ⟨by decide +kernel⟩
theorem v_read_place_ahead : OkV (defScope st_read_place) "ahead" := ⟨by decide +kernel⟩
theorem v_read_place_at : OkV (defScope st_read_place) "at" := ⟨by decide +kernel⟩
theorem v_read_place_word : OkV (defScope st_read_place) "word" := ⟨by decide +kernel⟩
theorem v_read_place_words : OkV (defScope st_read_place) "words" := ⟨by decide +kernel⟩
theorem p_may_follow : plainN "may_follow" = true := by decide +kernel
theorem p_read_pound : plainN "read_pound" = true := by decide +kernel
set_option maxHeartbeats 4000000 in
theorem cal_read_place (T : Txt K mg) (d : Dn K mg "read_place" st_read_place ["words", "at", "ahead"]) (C_may_follow : Cal P w K mg base "may_follow" ["word", "ahead"] f_may_follow 1) (C_read_pound : Cal P w K mg base "read_pound" ["words", "at"] f_read_pound 4) (C_word_at : Cal P w K mg base "word_at" ["words", "at"] f_word_at 1) : Cal P w K mg base "read_place" ["words", "at", "ahead"] f_read_place 5 := by
  have Sc := sc_read_place
  refine cal_of ["words", "at", "ahead", "word"] 4 b_read_place rfl d Sc fun f cdv A outer s H E hr => ?_
  conv => arg 3; whnf
  refine GSs.h ?_
  exact (gss_cons (gset 3 Sc.nd l_read_place_word (gown C_word_at hr (gl g_read_place_word_at) p_word_at (ga_cons (gv 0 v_read_place_words) (ga_cons (gv 1 v_read_place_at) ga_nil se_Name) se_Name)))
    (gss_cons (gs_if (gt_not (gt_val (gown C_may_follow hr (gl g_read_place_may_follow) p_may_follow (ga_cons (gv 3 v_read_place_word) (ga_cons (gv 2 v_read_place_ahead) ga_nil se_Name) se_Name))))
    (gss_one gs_bad)
    gss_nil)
    (gss_cons (gs_if (gt_eq hr.units (gv 3 v_read_place_word) ge_str)
    (gss_one (gs_ret (gown C_read_pound hr (gl g_read_place_read_pound) p_read_pound (ga_cons (gv 0 v_read_place_words) (ga_cons (ge_add (gv 1 v_read_place_at) ge_int) ga_nil se_BinOp) se_Name))))
    gss_nil)
    (gss_one (gs_ret (ge_tup (ga_cons (ge_tup (ga_cons (gv 3 v_read_place_word) ga_nil se_Name)) (ga_cons (ge_add (gv 1 v_read_place_at) ge_int) ga_nil se_BinOp) se_Tuple)))))))
def b_read_gate : Sv := (sq (sa (cl 2 (noExc f_word_at) (ac (vr 0) (ac (vr 1) an))) (gn 2))
    (sq (sif (ta (tb (o2 neD (vr 2) (cn c_UP))) (tb (o2 neD (vr 2) (cn c_DOWN))))
    sbad
    skip)
    (sret (vr 2))))
def f_read_gate : Fn := fnB 3 b_read_gate
theorem sc_read_gate : FnScope ["words", "at", "word"] ["words", "at"] (defScope st_read_gate) := ⟨rfl, rfl, rfl, by decide +kernel, rfl, by decide +kernel, by decide +kernel⟩
theorem g_read_gate_DOWN : OkG (defScope st_read_gate) "DOWN" := ⟨by decide +kernel⟩
theorem g_read_gate_UP : OkG (defScope st_read_gate) "UP" := ⟨by decide +kernel⟩
theorem g_read_gate_word_at : OkG (defScope st_read_gate) "word_at" := ⟨by decide +kernel⟩
theorem l_read_gate_word : OkL (defScope st_read_gate) "word" := ⟨by decide +kernel⟩
theorem v_read_gate_at : OkV (defScope st_read_gate) "at" := ⟨by decide +kernel⟩
theorem v_read_gate_word : OkV (defScope st_read_gate) "word" := ⟨by decide +kernel⟩
theorem v_read_gate_words : OkV (defScope st_read_gate) "words" := ⟨by decide +kernel⟩
set_option maxHeartbeats 4000000 in
theorem cal_read_gate (T : Txt K mg) (d : Dn K mg "read_gate" st_read_gate ["words", "at"]) (C_word_at : Cal P w K mg base "word_at" ["words", "at"] f_word_at 1) : Cal P w K mg base "read_gate" ["words", "at"] f_read_gate 2 := by
  have Sc := sc_read_gate
  refine cal_of ["words", "at", "word"] 1 b_read_gate rfl d Sc fun f cdv A outer s H E hr => ?_
  conv => arg 3; whnf
  refine GSs.h ?_
  exact (gss_cons (gset 2 Sc.nd l_read_gate_word (gown C_word_at hr (gl g_read_gate_word_at) p_word_at (ga_cons (gv 0 v_read_gate_words) (ga_cons (gv 1 v_read_gate_at) ga_nil se_Name) se_Name)))
    (gss_cons (gs_if (GW.jt (gw_and (gt_ne hr.units (gv 2 v_read_gate_word) (T.c_UP (gl g_read_gate_UP))) (gw_and1 (gt_ne hr.units (gv 2 v_read_gate_word) (T.c_DOWN (gl g_read_gate_DOWN))))))
    (gss_one gs_bad)
    gss_nil)
    (gss_one (gs_ret (gv 2 v_read_gate_word)))))
def lb_read_canal_1 : Sv := (sq (sx (mt appD (vr 5) (ac (cl 2 (noExc f_read_gate) (ac (vr 1) (ac (vr 3) an))) an)))
    (sq (sa (cl 3 (noExc f_read_place) (ac (vr 1) (ac (o2 addD (vr 3) (cn (.int 1))) (ac (vr 4) an)))) (gt (gcons (gn 2) (gcons (gn 3) gnil)) 2))
    (sx (mt appD (vr 4) (ac (vr 2) an)))))
def lc_read_canal_1 : Ev Bool := (to (tb (o2 eqD (b1 lenD (ac (vr 4) an)) (cn (.int 1)))) (tb (o2 neD (o2 getD (vr 4) (o1 negD (cn (.int 1)))) (cn c_END))))
def b_read_canal : Sv := (sq (sa (mts splitD (vr 0) (ac (cn (.str " ")) an)) (gn 1))
    (sq (sa (cl 3 (noExc f_read_place) (ac (vr 1) (ac (cn (.int 0)) (ac (ls an) an)))) (gt (gcons (gn 2) (gcons (gn 3) gnil)) 2))
    (sq (sa (ls (ac (vr 2) an)) (gn 4))
    (sq (sa (ls an) (gn 5))
    (sq (whN lc_read_canal_1 lb_read_canal_1 1000)
    (sq (sif (tb (o2 ltD (vr 3) (b1 lenD (ac (vr 1) an))))
    sbad
    skip)
    (sret (tp (ac (b1 tupD (ac (vr 4) an)) (ac (b1 tupD (ac (vr 5) an)) an))))))))))
def f_read_canal : Fn := fnB 6 b_read_canal
theorem sc_read_canal : FnScope ["text", "words", "place", "at", "places", "gates"] ["text"] (defScope st_read_canal) := ⟨rfl, rfl, rfl, by decide +kernel, rfl, by decide +kernel, by decide +kernel⟩
theorem g_read_canal_END : OkG (defScope st_read_canal) "END" := ⟨by decide +kernel⟩
theorem g_read_canal_len : OkG (defScope st_read_canal) "len" := ⟨by decide +kernel⟩
theorem g_read_canal_read_gate : OkG (defScope st_read_canal) "read_gate" := ⟨by decide +kernel⟩
theorem g_read_canal_read_place : OkG (defScope st_read_canal) "read_place" := ⟨by decide +kernel⟩
theorem g_read_canal_tuple : OkG (defScope st_read_canal) "tuple" := ⟨by decide +kernel⟩
theorem l_read_canal_at : OkL (defScope st_read_canal) "at" := ⟨by decide +kernel⟩
theorem l_read_canal_gates : OkL (defScope st_read_canal) "gates" := ⟨by decide +kernel⟩
theorem l_read_canal_place : OkL (defScope st_read_canal) "place" := ⟨by decide +kernel⟩
theorem l_read_canal_places : OkL (defScope st_read_canal) "places" := ⟨by decide +kernel⟩
theorem l_read_canal_words : OkL (defScope st_read_canal) "words" := ⟨by decide +kernel⟩
theorem v_read_canal_at : OkV (defScope st_read_canal) "at" := ⟨by decide +kernel⟩
theorem v_read_canal_gates : OkV (defScope st_read_canal) "gates" := ⟨by decide +kernel⟩
theorem v_read_canal_place : OkV (defScope st_read_canal) "place" := ⟨by decide +kernel⟩
theorem v_read_canal_places : OkV (defScope st_read_canal) "places" := ⟨by decide +kernel⟩
theorem v_read_canal_text : OkV (defScope st_read_canal) "text" := ⟨by decide +kernel⟩
theorem v_read_canal_words : OkV (defScope st_read_canal) "words" := ⟨by decide +kernel⟩
theorem p_read_gate : plainN "read_gate" = true := by decide +kernel
theorem p_read_place : plainN "read_place" = true := by decide +kernel
set_option maxHeartbeats 4000000 in
theorem cal_read_canal (T : Txt K mg) (d : Dn K mg "read_canal" st_read_canal ["text"]) (C_read_gate : Cal P w K mg base "read_gate" ["words", "at"] f_read_gate 2) (C_read_place : Cal P w K mg base "read_place" ["words", "at", "ahead"] f_read_place 5) : Cal P w K mg base "read_canal" ["text"] f_read_canal 6 := by
  have Sc := sc_read_canal
  refine cal_of ["text", "words", "place", "at", "places", "gates"] 5 b_read_canal rfl d Sc fun f cdv A outer s H E hr => ?_
  conv => arg 3; whnf
  refine GSs.h ?_
  exact (gss_cons (gset 1 Sc.nd l_read_canal_words (ge_split (gv 0 v_read_canal_text) (ga_cons ge_str ga_nil se_Constant)))
    (gss_cons (gs_asg (gown C_read_place hr (gl g_read_canal_read_place) p_read_place (ga_cons (gv 1 v_read_canal_words) (ga_cons ge_int (ga_cons (ge_lst ga_nil) ga_nil se_List) se_Constant) se_Name)) (gg_tup rfl (ggs_cons (ggn 2 Sc.nd l_read_canal_place) (ggs_cons (ggn 3 Sc.nd l_read_canal_at) ggs_nil))))
    (gss_cons (gset 4 Sc.nd l_read_canal_places (ge_lst (ga_cons (gv 2 v_read_canal_place) ga_nil se_Name)))
    (gss_cons (gset 5 Sc.nd l_read_canal_gates (ge_lst ga_nil))
    (gss_cons (gs_while 1000 PassesOwn.never (GW.jt (gw_or (gt_eq hr.units (ge_len (gl g_read_canal_len) T.b_len (ga_cons (gv 4 v_read_canal_places) ga_nil se_Name)) ge_int) (gw_or1 (gt_ne hr.units (ge_get (gv 4 v_read_canal_places) (ge_neg ge_int)) (T.c_END (gl g_read_canal_END))))))
    (gss_cons (gs_expr (ge_append (gv 5 v_read_canal_gates) (ga_cons (gown C_read_gate hr (gl g_read_canal_read_gate) p_read_gate (ga_cons (gv 1 v_read_canal_words) (ga_cons (gv 3 v_read_canal_at) ga_nil se_Name) se_Name)) ga_nil se_Call)))
    (gss_cons (gs_asg (gown C_read_place hr (gl g_read_canal_read_place) p_read_place (ga_cons (gv 1 v_read_canal_words) (ga_cons (ge_add (gv 3 v_read_canal_at) ge_int) (ga_cons (gv 4 v_read_canal_places) ga_nil se_Name) se_BinOp) se_Name)) (gg_tup rfl (ggs_cons (ggn 2 Sc.nd l_read_canal_place) (ggs_cons (ggn 3 Sc.nd l_read_canal_at) ggs_nil))))
    (gss_one (gs_expr (ge_append (gv 4 v_read_canal_places) (ga_cons (gv 2 v_read_canal_place) ga_nil se_Name)))))))
    (gss_cons (gs_if (gt_lt (gv 3 v_read_canal_at) (ge_len (gl g_read_canal_len) T.b_len (ga_cons (gv 1 v_read_canal_words) ga_nil se_Name)))
    (gss_one gs_bad)
    gss_nil)
    (gss_one (gs_ret (ge_tup (ga_cons (ge_tuple (gl g_read_canal_tuple) T.b_tuple (ga_cons (gv 4 v_read_canal_places) ga_nil se_Name)) (ga_cons (ge_tuple (gl g_read_canal_tuple) T.b_tuple (ga_cons (gv 5 v_read_canal_gates) ga_nil se_Name)) ga_nil se_Call) se_Call))))))))))
def b__law_tape : Sv := (sret (ls (ac (b1 listD (ac (sl2 (vr 0) onone (osome (cn (.int 63)))) an)) (ac (cn (.int 0)) (ac (cn (.int 0)) an)))))
def f__law_tape : Fn := fnB 1 b__law_tape
theorem sc__law_tape : FnScope ["_law_script"] ["_law_script"] (defScope st__law_tape) := ⟨rfl, rfl, rfl, by decide +kernel, rfl, by decide +kernel, by decide +kernel⟩
theorem g__law_tape_list : OkG (defScope st__law_tape) "list" := ⟨by decide +kernel⟩
theorem v__law_tape__law_script : OkV (defScope st__law_tape) "_law_script" := ⟨by decide +kernel⟩
set_option maxHeartbeats 4000000 in
theorem cal__law_tape (T : Txt K mg) (d : Dn K mg "_law_tape" st__law_tape ["_law_script"]) : Cal P w K mg base "_law_tape" ["_law_script"] f__law_tape 1 := by
  have Sc := sc__law_tape
  refine cal_of ["_law_script"] 0 b__law_tape rfl d Sc fun f cdv A outer s H E hr => ?_
  conv => arg 3; whnf
  refine GSs.h ?_
  exact (gss_one (gs_ret (ge_lst (ga_cons (ge_list (gl g__law_tape_list) T.b_list (ga_cons (ge_slice2 (gv 0 v__law_tape__law_script) go_none (go_some ge_int)) ga_nil se_Subscript)) (ga_cons ge_int (ga_cons ge_int ga_nil se_Constant) se_Constant) se_Call))))
def b__law_draw : Sv := (sq (sif (tb (o2 gtD (o2 getD (vr 0) (cn (.int 2))) (cn (.int 0))))
    (sq (sa (o2 modD (o2 getD (vr 0) (cn (.int 2))) (vr 1)) (gn 2))
    (sq (ss (o2 divD2 (o2 getD (vr 0) (cn (.int 2))) (vr 1)) (vr 0) (cn (.int 2)) setD)
    (sret (vr 2))))
    skip)
    (sq (sa (o2 getD (vr 0) (cn (.int 1))) (gn 3))
    (sq (ss (o2 addD (vr 3) (cn (.int 1))) (vr 0) (cn (.int 1)) setD)
    (sq (sa (cn (.int 0)) (gn 4))
    (sq (sif (tb (o2 gtD (b1 lenD (ac (o2 getD (vr 0) (cn (.int 0))) an)) (cn (.int 0))))
    (sa (o2 getD (o2 getD (vr 0) (cn (.int 0))) (o2 modD (vr 3) (b1 lenD (ac (o2 getD (vr 0) (cn (.int 0))) an)))) (gn 4))
    skip)
    (sq (sif (ta (tb (o2 ltD (vr 3) (b1 lenD (ac (o2 getD (vr 0) (cn (.int 0))) an)))) (tb (o2 geD (vr 4) (o2 powD (cn (.int 10)) (cn (.int 18))))))
    (sq (ss (o2 divD2 (vr 4) (vr 1)) (vr 0) (cn (.int 2)) setD)
    (sret (o2 modD (vr 4) (vr 1))))
    skip)
    (sq (sa (o2 modD (o2 mulD (o2 addD (o2 modD (vr 4) (cn (.int 1000003))) (cn (.int 1))) (o2 addD (o2 addD (o2 mulD (o2 mulD (cn (.int 7919)) (vr 3)) (vr 3)) (o2 mulD (cn (.int 104729)) (vr 3))) (cn (.int 12345)))) (cn (.int 2147483647))) (gn 5))
    (sq (sa (o2 modD (o2 addD (o2 addD (o2 mulD (vr 5) (vr 5)) (o2 mulD (cn (.int 48271)) (vr 3))) (o2 modD (vr 4) (cn (.int 65537)))) (cn (.int 2147483629))) (gn 5))
    (sret (o2 modD (o2 divD2 (vr 5) (cn (.int 8))) (vr 1)))))))))))
def f__law_draw : Fn := fnB 6 b__law_draw
theorem sc__law_draw : FnScope ["_law_tape_here", "_law_many", "_law_digit", "_law_at", "_law_cell", "_law_mixed"] ["_law_tape_here", "_law_many"] (defScope st__law_draw) := ⟨rfl, rfl, rfl, by decide +kernel, rfl, by decide +kernel, by decide +kernel⟩
theorem g__law_draw_len : OkG (defScope st__law_draw) "len" := ⟨by decide +kernel⟩
theorem l__law_draw__law_at : OkL (defScope st__law_draw) "_law_at" := ⟨by decide +kernel⟩
theorem l__law_draw__law_cell : OkL (defScope st__law_draw) "_law_cell" := ⟨by decide +kernel⟩
theorem l__law_draw__law_digit : OkL (defScope st__law_draw) "_law_digit" := ⟨by decide +kernel⟩
theorem l__law_draw__law_mixed : OkL (defScope st__law_draw) "_law_mixed" := ⟨by decide +kernel⟩
theorem v__law_draw__law_at : OkV (defScope st__law_draw) "_law_at" := ⟨by decide +kernel⟩
theorem v__law_draw__law_cell : OkV (defScope st__law_draw) "_law_cell" := ⟨by decide +kernel⟩
theorem v__law_draw__law_digit : OkV (defScope st__law_draw) "_law_digit" := ⟨by decide +kernel⟩
theorem v__law_draw__law_many : OkV (defScope st__law_draw) "_law_many" := ⟨by decide +kernel⟩
theorem v__law_draw__law_mixed : OkV (defScope st__law_draw) "_law_mixed" := ⟨by decide +kernel⟩
theorem v__law_draw__law_tape_here : OkV (defScope st__law_draw) "_law_tape_here" := ⟨by decide +kernel⟩
set_option maxHeartbeats 4000000 in
theorem cal__law_draw (T : Txt K mg) (d : Dn K mg "_law_draw" st__law_draw ["_law_tape_here", "_law_many"]) : Cal P w K mg base "_law_draw" ["_law_tape_here", "_law_many"] f__law_draw 1 := by
  have Sc := sc__law_draw
  refine cal_of ["_law_tape_here", "_law_many", "_law_digit", "_law_at", "_law_cell", "_law_mixed"] 0 b__law_draw rfl d Sc fun f cdv A outer s H E hr => ?_
  conv => arg 3; whnf
  refine GSs.h ?_
  exact (gss_cons (gs_if (gt_gt (ge_get (gv 0 v__law_draw__law_tape_here) ge_int) ge_int)
    (gss_cons (gset 2 Sc.nd l__law_draw__law_digit (ge_mod (ge_get (gv 0 v__law_draw__law_tape_here) ge_int) (gv 1 v__law_draw__law_many)))
    (gss_cons (gs_setix (ge_div2 (ge_get (gv 0 v__law_draw__law_tape_here) ge_int) (gv 1 v__law_draw__law_many)) (gv 0 v__law_draw__law_tape_here) ge_int)
    (gss_one (gs_ret (gv 2 v__law_draw__law_digit)))))
    gss_nil)
    (gss_cons (gset 3 Sc.nd l__law_draw__law_at (ge_get (gv 0 v__law_draw__law_tape_here) ge_int))
    (gss_cons (gs_setix (ge_add (gv 3 v__law_draw__law_at) ge_int) (gv 0 v__law_draw__law_tape_here) ge_int)
    (gss_cons (gset 4 Sc.nd l__law_draw__law_cell ge_int)
    (gss_cons (gs_if (gt_gt (ge_len (gl g__law_draw_len) T.b_len (ga_cons (ge_get (gv 0 v__law_draw__law_tape_here) ge_int) ga_nil se_Subscript)) ge_int)
    (gss_one (gset 4 Sc.nd l__law_draw__law_cell (ge_get (ge_get (gv 0 v__law_draw__law_tape_here) ge_int) (ge_mod (gv 3 v__law_draw__law_at) (ge_len (gl g__law_draw_len) T.b_len (ga_cons (ge_get (gv 0 v__law_draw__law_tape_here) ge_int) ga_nil se_Subscript))))))
    gss_nil)
    (gss_cons (gs_if (GW.jt (gw_and (gt_lt (gv 3 v__law_draw__law_at) (ge_len (gl g__law_draw_len) T.b_len (ga_cons (ge_get (gv 0 v__law_draw__law_tape_here) ge_int) ga_nil se_Subscript))) (gw_and1 (gt_ge (gv 4 v__law_draw__law_cell) (ge_pow ge_int ge_int)))))
    (gss_cons (gs_setix (ge_div2 (gv 4 v__law_draw__law_cell) (gv 1 v__law_draw__law_many)) (gv 0 v__law_draw__law_tape_here) ge_int)
    (gss_one (gs_ret (ge_mod (gv 4 v__law_draw__law_cell) (gv 1 v__law_draw__law_many)))))
    gss_nil)
    (gss_cons (gset 5 Sc.nd l__law_draw__law_mixed (ge_mod (ge_mul (ge_add (ge_mod (gv 4 v__law_draw__law_cell) ge_int) ge_int) (ge_add (ge_add (ge_mul (ge_mul ge_int (gv 3 v__law_draw__law_at)) (gv 3 v__law_draw__law_at)) (ge_mul ge_int (gv 3 v__law_draw__law_at))) ge_int)) ge_int))
    (gss_cons (gset 5 Sc.nd l__law_draw__law_mixed (ge_mod (ge_add (ge_add (ge_mul (gv 5 v__law_draw__law_mixed) (gv 5 v__law_draw__law_mixed)) (ge_mul ge_int (gv 3 v__law_draw__law_at))) (ge_mod (gv 4 v__law_draw__law_cell) ge_int)) ge_int))
    (gss_one (gs_ret (ge_mod (ge_div2 (gv 5 v__law_draw__law_mixed) ge_int) (gv 1 v__law_draw__law_many))))))))))))
def b__law_pound : Sv := (sq (sa (o2 getD (ls (ac (cn (.int 1)) (ac (cn (.int 2)) (ac (cn (.int 3)) (ac (o2 addD (cn (.int 1)) (cl 2 (noExc f__law_draw) (ac (vr 0) (ac (cn (.int 9)) an)))) an))))) (cl 2 (noExc f__law_draw) (ac (vr 0) (ac (cn (.int 4)) an)))) (gn 1))
    (sq (sa (b1 minD (ac (vr 1) (ac (o2 getD (ls (ac (cn (.int 0)) (ac (cn (.int 0)) (ac (cn (.int 1)) (ac (cl 2 (noExc f__law_draw) (ac (vr 0) (ac (cn (.int 10)) an))) an))))) (cl 2 (noExc f__law_draw) (ac (vr 0) (ac (cn (.int 4)) an)))) an))) (gn 2))
    (sq (sa (o2 getD (ls (ac (cn (.int 1)) (ac (cn (.int 2)) (ac (o2 addD (cn (.int 1)) (cl 2 (noExc f__law_draw) (ac (vr 0) (ac (cn (.int 4)) an)))) an)))) (cl 2 (noExc f__law_draw) (ac (vr 0) (ac (cn (.int 3)) an)))) (gn 3))
    (sq (sa (o2 getD (ls (ac (cn .non) (ac (cl 2 (noExc f__law_draw) (ac (vr 0) (ac (cn (.int 100)) an))) (ac (o2 addD (cn (.int 1)) (cl 2 (noExc f__law_draw) (ac (vr 0) (ac (cn (.int 5)) an)))) (ac (cn (.int 0)) an))))) (cl 2 (noExc f__law_draw) (ac (vr 0) (ac (cn (.int 4)) an)))) (gn 4))
    (sret (tp (ac (cn (.str "pound")) (ac (vr 1) (ac (vr 2) (ac (vr 3) (ac (vr 4) an)))))))))))
def f__law_pound : Fn := fnB 5 b__law_pound
theorem sc__law_pound : FnScope ["_law_tape_here", "_law_brim", "_law_deep", "_law_room", "_law_price"] ["_law_tape_here"] (defScope st__law_pound) := ⟨rfl, rfl, rfl, by decide +kernel, rfl, by decide +kernel, by decide +kernel⟩
theorem g__law_pound__law_draw : OkG (defScope st__law_pound) "_law_draw" := ⟨by decide +kernel⟩
theorem g__law_pound_min : OkG (defScope st__law_pound) "min" := ⟨by decide +kernel⟩
theorem l__law_pound__law_brim : OkL (defScope st__law_pound) "_law_brim" := ⟨by decide +kernel⟩
theorem l__law_pound__law_deep : OkL (defScope st__law_pound) "_law_deep" := ⟨by decide +kernel⟩
theorem l__law_pound__law_price : OkL (defScope st__law_pound) "_law_price" := ⟨by decide +kernel⟩
theorem l__law_pound__law_room : OkL (defScope st__law_pound) "_law_room" := ⟨by decide +kernel⟩
theorem v__law_pound__law_brim : OkV (defScope st__law_pound) "_law_brim" := ⟨by decide +kernel⟩
theorem v__law_pound__law_deep : OkV (defScope st__law_pound) "_law_deep" := ⟨by decide +kernel⟩
theorem v__law_pound__law_price : OkV (defScope st__law_pound) "_law_price" := ⟨by decide +kernel⟩
theorem v__law_pound__law_room : OkV (defScope st__law_pound) "_law_room" := ⟨by decide +kernel⟩
theorem v__law_pound__law_tape_here : OkV (defScope st__law_pound) "_law_tape_here" := ⟨by decide +kernel⟩
theorem p__law_draw : plainN "_law_draw" = true := by decide +kernel
set_option maxHeartbeats 4000000 in
theorem cal__law_pound (T : Txt K mg) (d : Dn K mg "_law_pound" st__law_pound ["_law_tape_here"]) (C__law_draw : Cal P w K mg base "_law_draw" ["_law_tape_here", "_law_many"] f__law_draw 1) : Cal P w K mg base "_law_pound" ["_law_tape_here"] f__law_pound 2 := by
  have Sc := sc__law_pound
  refine cal_of ["_law_tape_here", "_law_brim", "_law_deep", "_law_room", "_law_price"] 1 b__law_pound rfl d Sc fun f cdv A outer s H E hr => ?_
  conv => arg 3; whnf
  refine GSs.h ?_
  exact (gss_cons (gset 1 Sc.nd l__law_pound__law_brim (ge_get (ge_lst (ga_cons ge_int (ga_cons ge_int (ga_cons ge_int (ga_cons (ge_add ge_int (gown C__law_draw hr (gl g__law_pound__law_draw) p__law_draw (ga_cons (gv 0 v__law_pound__law_tape_here) (ga_cons ge_int ga_nil se_Constant) se_Name))) ga_nil se_BinOp) se_Constant) se_Constant) se_Constant)) (gown C__law_draw hr (gl g__law_pound__law_draw) p__law_draw (ga_cons (gv 0 v__law_pound__law_tape_here) (ga_cons ge_int ga_nil se_Constant) se_Name))))
    (gss_cons (gset 2 Sc.nd l__law_pound__law_deep (ge_min rfl (gl g__law_pound_min) T.b_min (ga_cons (gv 1 v__law_pound__law_brim) (ga_cons (ge_get (ge_lst (ga_cons ge_int (ga_cons ge_int (ga_cons ge_int (ga_cons (gown C__law_draw hr (gl g__law_pound__law_draw) p__law_draw (ga_cons (gv 0 v__law_pound__law_tape_here) (ga_cons ge_int ga_nil se_Constant) se_Name)) ga_nil se_Call) se_Constant) se_Constant) se_Constant)) (gown C__law_draw hr (gl g__law_pound__law_draw) p__law_draw (ga_cons (gv 0 v__law_pound__law_tape_here) (ga_cons ge_int ga_nil se_Constant) se_Name))) ga_nil se_Subscript) se_Name)))
    (gss_cons (gset 3 Sc.nd l__law_pound__law_room (ge_get (ge_lst (ga_cons ge_int (ga_cons ge_int (ga_cons (ge_add ge_int (gown C__law_draw hr (gl g__law_pound__law_draw) p__law_draw (ga_cons (gv 0 v__law_pound__law_tape_here) (ga_cons ge_int ga_nil se_Constant) se_Name))) ga_nil se_BinOp) se_Constant) se_Constant)) (gown C__law_draw hr (gl g__law_pound__law_draw) p__law_draw (ga_cons (gv 0 v__law_pound__law_tape_here) (ga_cons ge_int ga_nil se_Constant) se_Name))))
    (gss_cons (gset 4 Sc.nd l__law_pound__law_price (ge_get (ge_lst (ga_cons ge_non (ga_cons (gown C__law_draw hr (gl g__law_pound__law_draw) p__law_draw (ga_cons (gv 0 v__law_pound__law_tape_here) (ga_cons ge_int ga_nil se_Constant) se_Name)) (ga_cons (ge_add ge_int (gown C__law_draw hr (gl g__law_pound__law_draw) p__law_draw (ga_cons (gv 0 v__law_pound__law_tape_here) (ga_cons ge_int ga_nil se_Constant) se_Name))) (ga_cons ge_int ga_nil se_Constant) se_BinOp) se_Call) se_Constant)) (gown C__law_draw hr (gl g__law_pound__law_draw) p__law_draw (ga_cons (gv 0 v__law_pound__law_tape_here) (ga_cons ge_int ga_nil se_Constant) se_Name))))
    (gss_one (gs_ret (ge_tup (ga_cons ge_str (ga_cons (gv 1 v__law_pound__law_brim) (ga_cons (gv 2 v__law_pound__law_deep) (ga_cons (gv 3 v__law_pound__law_room) (ga_cons (gv 4 v__law_pound__law_price) ga_nil se_Name) se_Name) se_Name) se_Name) se_Constant))))))))
def lb__law_canal_1 : Sv := (sq (sa (va (o2 ltD (cn (.int 0)) (vr 4)) (va (o2 ltD (vr 4) (o2 subD (vr 2) (cn (.int 1)))) (o2 eqD (o2 getD (vr 3) (o1 negD (cn (.int 1)))) (tp (ac (cn (.str "chamber")) an))))) (gn 5))
    (sif (ta (tt (vr 5)) (tb (o2 gtD (cl 2 (noExc f__law_draw) (ac (vr 0) (ac (cn (.int 4)) an))) (cn (.int 0)))))
    (sx (mt appD (vr 3) (ac (cl 1 (noExc f__law_pound) (ac (vr 0) an)) an)))
    (sx (mt appD (vr 3) (ac (tp (ac (cn (.str "chamber")) an)) an)))))
def b__law_canal : Sv := (sq (sa (o2 addD (cn (.int 1)) (cl 2 (noExc f__law_draw) (ac (vr 0) (ac (vr 1) an)))) (gn 2))
    (sq (sa (ls (ac (tp (ac (cn (.str "end")) an)) an)) (gn 3))
    (sq (sfor (ir1 (ac (vr 2) an)) (gn 4) lb__law_canal_1)
    (sq (sa (o2 addD (cn (.int 1)) (cl 2 (noExc f__law_draw) (ac (vr 0) (ac (vr 2) an)))) (gn 6))
    (sq (sa (o2 addD (o2 mulD (ls (ac (cn (.str "up")) an)) (vr 6)) (o2 mulD (ls (ac (cn (.str "down")) an)) (o2 subD (o2 addD (vr 2) (cn (.int 1))) (vr 6)))) (gn 7))
    (sq (sif (tb (o2 eqD (cl 2 (noExc f__law_draw) (ac (vr 0) (ac (cn (.int 3)) an))) (cn (.int 0))))
    (sa (cmp (ir1 (ac (o2 addD (vr 2) (cn (.int 1))) an)) [none, some 0] (gn 0) ttrue (o2 getD (ls (ac (cn (.str "up")) (ac (cn (.str "down")) an))) (cl 2 (noExc f__law_draw) (ac (vr 1) (ac (cn (.int 2)) an))))) (gn 7))
    skip)
    (sret (tp (ac (b1 tupD (ac (o2 addD (vr 3) (ls (ac (tp (ac (cn (.str "end")) an)) an))) an)) (ac (b1 tupD (ac (vr 7) an)) an))))))))))
def f__law_canal : Fn := fnB 8 b__law_canal
theorem sc__law_canal : FnScope ["_law_tape_here", "_law_most", "_law_many", "_law_places", "_law_k", "_law_amid", "_law_top", "_law_gates"] ["_law_tape_here", "_law_most"] (defScope st__law_canal) := ⟨rfl, rfl, rfl, by decide +kernel, rfl, by decide +kernel, by decide +kernel⟩
theorem g__law_canal__law_draw : OkG (defScope st__law_canal) "_law_draw" := ⟨by decide +kernel⟩
theorem g__law_canal__law_pound : OkG (defScope st__law_canal) "_law_pound" := ⟨by decide +kernel⟩
theorem g__law_canal_range : OkG (defScope st__law_canal) "range" := ⟨by decide +kernel⟩
theorem g__law_canal_tuple : OkG (defScope st__law_canal) "tuple" := ⟨by decide +kernel⟩
theorem l__law_canal__law_amid : OkL (defScope st__law_canal) "_law_amid" := ⟨by decide +kernel⟩
theorem l__law_canal__law_gates : OkL (defScope st__law_canal) "_law_gates" := ⟨by decide +kernel⟩
theorem l__law_canal__law_k : OkL (defScope st__law_canal) "_law_k" := ⟨by decide +kernel⟩
theorem l__law_canal__law_many : OkL (defScope st__law_canal) "_law_many" := ⟨by decide +kernel⟩
theorem l__law_canal__law_places : OkL (defScope st__law_canal) "_law_places" := ⟨by decide +kernel⟩
theorem l__law_canal__law_top : OkL (defScope st__law_canal) "_law_top" := ⟨by decide +kernel⟩
theorem v__law_canal__law_amid : OkV (defScope st__law_canal) "_law_amid" := ⟨by decide +kernel⟩
theorem v__law_canal__law_gates : OkV (defScope st__law_canal) "_law_gates" := ⟨by decide +kernel⟩
theorem v__law_canal__law_k : OkV (defScope st__law_canal) "_law_k" := ⟨by decide +kernel⟩
theorem v__law_canal__law_many : OkV (defScope st__law_canal) "_law_many" := ⟨by decide +kernel⟩
theorem v__law_canal__law_most : OkV (defScope st__law_canal) "_law_most" := ⟨by decide +kernel⟩
theorem v__law_canal__law_places : OkV (defScope st__law_canal) "_law_places" := ⟨by decide +kernel⟩
theorem v__law_canal__law_tape_here : OkV (defScope st__law_canal) "_law_tape_here" := ⟨by decide +kernel⟩
theorem v__law_canal__law_top : OkV (defScope st__law_canal) "_law_top" := ⟨by decide +kernel⟩
theorem p__law_pound : plainN "_law_pound" = true := by decide +kernel
set_option maxHeartbeats 4000000 in
theorem cal__law_canal (T : Txt K mg) (d : Dn K mg "_law_canal" st__law_canal ["_law_tape_here", "_law_most"]) (C__law_draw : Cal P w K mg base "_law_draw" ["_law_tape_here", "_law_many"] f__law_draw 1) (C__law_pound : Cal P w K mg base "_law_pound" ["_law_tape_here"] f__law_pound 2) : Cal P w K mg base "_law_canal" ["_law_tape_here", "_law_most"] f__law_canal 3 := by
  have Sc := sc__law_canal
  refine cal_of ["_law_tape_here", "_law_most", "_law_many", "_law_places", "_law_k", "_law_amid", "_law_top", "_law_gates"] 2 b__law_canal rfl d Sc fun f cdv A outer s H E hr => ?_
  conv => arg 3; whnf
  refine GSs.h ?_
  exact (gss_cons (gset 2 Sc.nd l__law_canal__law_many (ge_add ge_int (gown C__law_draw hr (gl g__law_canal__law_draw) p__law_draw (ga_cons (gv 0 v__law_canal__law_tape_here) (ga_cons (gv 1 v__law_canal__law_most) ga_nil se_Name) se_Name))))
    (gss_cons (gset 3 Sc.nd l__law_canal__law_places (ge_lst (ga_cons (ge_tup (ga_cons ge_str ga_nil se_Constant)) ga_nil se_Tuple)))
    (gss_cons (gs_for PassesOwn.never rfl (gi_range1 (gl g__law_canal_range) T.b_range (ga_cons (gv 2 v__law_canal__law_many) ga_nil se_Name)) (ggn 4 Sc.nd l__law_canal__law_k)
    (gss_cons (gset 5 Sc.nd l__law_canal__law_amid (ge_and (ge_lt ge_int (gv 4 v__law_canal__law_k)) (ge_and (ge_lt (gv 4 v__law_canal__law_k) (ge_sub (gv 2 v__law_canal__law_many) ge_int)) (ge_one (ge_eq hr.units (ge_get (gv 3 v__law_canal__law_places) (ge_neg ge_int)) (ge_tup (ga_cons ge_str ga_nil se_Constant)))))))
    (gss_one (gs_if (GW.jt (gw_and (gt_val (gv 5 v__law_canal__law_amid)) (gw_and1 (gt_gt (gown C__law_draw hr (gl g__law_canal__law_draw) p__law_draw (ga_cons (gv 0 v__law_canal__law_tape_here) (ga_cons ge_int ga_nil se_Constant) se_Name)) ge_int))))
    (gss_one (gs_expr (ge_append (gv 3 v__law_canal__law_places) (ga_cons (gown C__law_pound hr (gl g__law_canal__law_pound) p__law_pound (ga_cons (gv 0 v__law_canal__law_tape_here) ga_nil se_Name)) ga_nil se_Call))))
    (gss_one (gs_expr (ge_append (gv 3 v__law_canal__law_places) (ga_cons (ge_tup (ga_cons ge_str ga_nil se_Constant)) ga_nil se_Tuple))))))))
    (gss_cons (gset 6 Sc.nd l__law_canal__law_top (ge_add ge_int (gown C__law_draw hr (gl g__law_canal__law_draw) p__law_draw (ga_cons (gv 0 v__law_canal__law_tape_here) (ga_cons (gv 2 v__law_canal__law_many) ga_nil se_Name) se_Name))))
    (gss_cons (gset 7 Sc.nd l__law_canal__law_gates (ge_add (ge_mul (ge_lst (ga_cons ge_str ga_nil se_Constant)) (gv 6 v__law_canal__law_top)) (ge_mul (ge_lst (ga_cons ge_str ga_nil se_Constant)) (ge_sub (ge_add (gv 2 v__law_canal__law_many) ge_int) (gv 6 v__law_canal__law_top)))))
    (gss_cons (gs_if (gt_eq hr.units (gown C__law_draw hr (gl g__law_canal__law_draw) p__law_draw (ga_cons (gv 0 v__law_canal__law_tape_here) (ga_cons ge_int ga_nil se_Constant) se_Name)) ge_int)
    (gss_one (gsetComp 7 (sc := defScope st__law_canal) (N := ["_law_tape_here", "_law_most", "_law_many", "_law_places", "_law_k", "_law_amid", "_law_top", "_law_gates"]) rfl rfl (N' := ["_law_k", "_law_tape_here"]) (pk := [none, some 0]) ⟨rfl, by decide +kernel, by decide +kernel, by decide +kernel, rfl, by decide +kernel⟩ rfl (gi_range1 (gl g__law_canal_range) T.b_range (ga_cons (ge_add (gv 2 v__law_canal__law_many) ge_int) ga_nil se_BinOp)) (fun cl s2 H2 C fp => (ggnB 0 (by decide +kernel) (by decide +kernel))) (fun cl s2 H2 C fp => gts_nil) (fun cl s2 H2 C fp => (ge_get (ge_lst (ga_cons ge_str (ga_cons ge_str ga_nil se_Constant) se_Constant)) (gown C__law_draw hr (glB (by decide +kernel)) p__law_draw (ga_cons (gvB 1 (by decide +kernel)) (ga_cons ge_int ga_nil se_Constant) se_Name)))) Sc.nd l__law_canal__law_gates (by rfl)))
    gss_nil)
    (gss_one (gs_ret (ge_tup (ga_cons (ge_tuple (gl g__law_canal_tuple) T.b_tuple (ga_cons (ge_add (gv 3 v__law_canal__law_places) (ge_lst (ga_cons (ge_tup (ga_cons ge_str ga_nil se_Constant)) ga_nil se_Tuple))) ga_nil se_BinOp)) (ga_cons (ge_tuple (gl g__law_canal_tuple) T.b_tuple (ga_cons (gv 7 v__law_canal__law_gates) ga_nil se_Name)) ga_nil se_Call) se_Call))))))))))
def lb__law_words_1 : Sv := (sq (sif (tb (o2 gtD (vr 2) (cn (.int 0))))
    (sx (mt appD (vr 1) (ac (o2 getD (o2 getD (vr 0) (cn (.int 1))) (o2 subD (vr 2) (cn (.int 1)))) an)))
    skip)
    (sa (o2 addD (vr 1) (cmp (isrc (vr 3)) [none] (gn 0) (tb (o2 notnD (vr 0) (cn .non))) (b1 strXD (ac (vr 0) an)))) (gn 1)))
def b__law_words : Sv := (sq (sa (ls an) (gn 1))
    (sq (sfor (ienumerate (ac (o2 getD (vr 0) (cn (.int 0))) an)) (gt (gcons (gn 2) (gcons (gn 3) gnil)) 2) lb__law_words_1)
    (sret (vr 1))))
def f__law_words : Fn := fnB 4 b__law_words
theorem sc__law_words : FnScope ["_law_canal_here", "_law_found", "_law_k", "_law_place"] ["_law_canal_here"] (defScope st__law_words) := ⟨rfl, rfl, rfl, by decide +kernel, rfl, by decide +kernel, by decide +kernel⟩
theorem g__law_words_enumerate : OkG (defScope st__law_words) "enumerate" := ⟨by decide +kernel⟩
theorem l__law_words__law_found : OkL (defScope st__law_words) "_law_found" := ⟨by decide +kernel⟩
theorem l__law_words__law_k : OkL (defScope st__law_words) "_law_k" := ⟨by decide +kernel⟩
theorem l__law_words__law_place : OkL (defScope st__law_words) "_law_place" := ⟨by decide +kernel⟩
theorem v__law_words__law_canal_here : OkV (defScope st__law_words) "_law_canal_here" := ⟨by decide +kernel⟩
theorem v__law_words__law_found : OkV (defScope st__law_words) "_law_found" := ⟨by decide +kernel⟩
theorem v__law_words__law_k : OkV (defScope st__law_words) "_law_k" := ⟨by decide +kernel⟩
theorem v__law_words__law_place : OkV (defScope st__law_words) "_law_place" := ⟨by decide +kernel⟩
set_option maxHeartbeats 4000000 in
theorem cal__law_words (T : Txt K mg) (d : Dn K mg "_law_words" st__law_words ["_law_canal_here"]) : Cal P w K mg base "_law_words" ["_law_canal_here"] f__law_words 1 := by
  have Sc := sc__law_words
  refine cal_of ["_law_canal_here", "_law_found", "_law_k", "_law_place"] 0 b__law_words rfl d Sc fun f cdv A outer s H E hr => ?_
  conv => arg 3; whnf
  refine GSs.h ?_
  exact (gss_cons (gset 1 Sc.nd l__law_words__law_found (ge_lst ga_nil))
    (gss_cons (gs_for PassesOwn.never rfl (gi_enumerate (gl g__law_words_enumerate) T.b_enumerate (ga_cons (ge_get (gv 0 v__law_words__law_canal_here) ge_int) ga_nil se_Subscript)) (gg_tup rfl (ggs_cons (ggn 2 Sc.nd l__law_words__law_k) (ggs_cons (ggn 3 Sc.nd l__law_words__law_place) ggs_nil)))
    (gss_cons (gs_if (gt_gt (gv 2 v__law_words__law_k) ge_int)
    (gss_one (gs_expr (ge_append (gv 1 v__law_words__law_found) (ga_cons (ge_get (ge_get (gv 0 v__law_words__law_canal_here) ge_int) (ge_sub (gv 2 v__law_words__law_k) ge_int)) ga_nil se_Subscript))))
    gss_nil)
    (gss_one (gset 1 Sc.nd l__law_words__law_found (ge_add (gv 1 v__law_words__law_found) (gcomp (sc := defScope st__law_words) (N := ["_law_canal_here", "_law_found", "_law_k", "_law_place"]) rfl rfl (N' := ["_law_part"]) (pk := [none]) ⟨rfl, by decide +kernel, by decide +kernel, by decide +kernel, rfl, by decide +kernel⟩ rfl (gi_seq (gv 3 v__law_words__law_place)) (fun cl s2 H2 C fp => (ggnB 0 (by decide +kernel) (by decide +kernel))) (fun cl s2 H2 C fp => (gts_one (gt_notn (gvB 0 (by decide +kernel)) ge_non))) (fun cl s2 H2 C fp => (ge_strX (glB (by decide +kernel)) T.b_str (ga_cons (gvB 0 (by decide +kernel)) ga_nil se_Name)))))))))
    (gss_one (gs_ret (gv 1 v__law_words__law_found)))))
def lb_law_1 : Sv := (sq (sa (cl 2 (noExc f__law_canal) (ac (vr 1) (ac (cn (.int 11)) an))) (gn 3))
    (sq (sa (mts joinD (cn (.str " ")) (ac (cl 1 (noExc f__law_words) (ac (vr 3) an)) an)) (gn 4))
    (sq (sa (cl 1 (noExc f_canal_text) (ac (vr 3) an)) (gn 5))
    (sq (sif (to (tn (tt (o1 (isD "str") (vr 5)))) (tb (o2 neD (vr 5) (vr 4))))
    (sret (cn (.bl false)))
    skip)
    (sif (to (tb (o2 neD (b1 reprD (ac (cl 1 (noExc f_read_canal) (ac (vr 4) an)) an)) (b1 reprD (ac (vr 3) an)))) (tb (o2 neD (cl 1 (noExc f_canal_text) (ac (cl 1 (noExc f_read_canal) (ac (vr 4) an)) an)) (vr 4))))
    (sret (cn (.bl false)))
    skip)))))
def b_law : Sv := (sq (sa (cl 1 (noExc f__law_tape) (ac (vr 0) an)) (gn 1))
    (sq (sfor (ir1 (ac (cn (.int 4)) an)) (gn 2) lb_law_1)
    (sret (cn (.bl true)))))
def f_law : Fn := fnB 6 b_law
theorem sc_law : FnScope ["_law_script", "_law_tape_here", "_law_k", "_law_canal_here", "_law_text", "_law_found"] ["_law_script"] (defScope st_law) := ⟨rfl, rfl, rfl, by decide +kernel, rfl, by decide +kernel, by decide +kernel⟩
theorem g_law__law_canal : OkG (defScope st_law) "_law_canal" := ⟨by decide +kernel⟩
theorem g_law__law_tape : OkG (defScope st_law) "_law_tape" := ⟨by decide +kernel⟩
theorem g_law__law_words : OkG (defScope st_law) "_law_words" := ⟨by decide +kernel⟩
theorem g_law_canal_text : OkG (defScope st_law) "canal_text" := ⟨by decide +kernel⟩
theorem g_law_isinstance : OkG (defScope st_law) "isinstance" := ⟨by decide +kernel⟩
theorem g_law_range : OkG (defScope st_law) "range" := ⟨by decide +kernel⟩
theorem g_law_read_canal : OkG (defScope st_law) "read_canal" := ⟨by decide +kernel⟩
theorem g_law_repr : OkG (defScope st_law) "repr" := ⟨by decide +kernel⟩
theorem g_law_str : OkG (defScope st_law) "str" := ⟨by decide +kernel⟩
theorem l_law__law_canal_here : OkL (defScope st_law) "_law_canal_here" := ⟨by decide +kernel⟩
theorem l_law__law_found : OkL (defScope st_law) "_law_found" := ⟨by decide +kernel⟩
theorem l_law__law_k : OkL (defScope st_law) "_law_k" := ⟨by decide +kernel⟩
theorem l_law__law_tape_here : OkL (defScope st_law) "_law_tape_here" := ⟨by decide +kernel⟩
theorem l_law__law_text : OkL (defScope st_law) "_law_text" := ⟨by decide +kernel⟩
theorem v_law__law_canal_here : OkV (defScope st_law) "_law_canal_here" := ⟨by decide +kernel⟩
theorem v_law__law_found : OkV (defScope st_law) "_law_found" := ⟨by decide +kernel⟩
theorem v_law__law_script : OkV (defScope st_law) "_law_script" := ⟨by decide +kernel⟩
theorem v_law__law_tape_here : OkV (defScope st_law) "_law_tape_here" := ⟨by decide +kernel⟩
theorem v_law__law_text : OkV (defScope st_law) "_law_text" := ⟨by decide +kernel⟩
theorem p__law_canal : plainN "_law_canal" = true := by decide +kernel
theorem p__law_tape : plainN "_law_tape" = true := by decide +kernel
theorem p__law_words : plainN "_law_words" = true := by decide +kernel
theorem p_canal_text : plainN "canal_text" = true := by decide +kernel
theorem p_read_canal : plainN "read_canal" = true := by decide +kernel
set_option maxHeartbeats 4000000 in
theorem okl_law (T : Txt K mg) {f : Addr} {fd : FuncData} (F : Fun K "law" "law" st_law f fd) (C__law_canal : Cal P w K mg base "_law_canal" ["_law_tape_here", "_law_most"] f__law_canal 3) (C__law_tape : Cal P w K mg base "_law_tape" ["_law_script"] f__law_tape 1) (C__law_words : Cal P w K mg base "_law_words" ["_law_canal_here"] f__law_words 1) (C_canal_text : Cal P w K mg base "canal_text" ["canal"] f_canal_text 2) (C_read_canal : Cal P w K mg base "read_canal" ["text"] f_read_canal 6) : FnOk P w K mg base CX0 7 f fd ["_law_script"] (spD K 1 f_law) := by
  have Sc := sc_law
  refine fn_ok (b := b_law) F Sc fun cdv A outer s H E hr => ?_
  conv => arg 3; whnf
  refine GSs.h ?_
  exact (gss_cons (gset 1 Sc.nd l_law__law_tape_here (gown C__law_tape hr (gl g_law__law_tape) p__law_tape (ga_cons (gv 0 v_law__law_script) ga_nil se_Name)))
    (gss_cons (gs_for PassesOwn.never rfl (gi_range1 (gl g_law_range) T.b_range (ga_cons ge_int ga_nil se_Constant)) (ggn 2 Sc.nd l_law__law_k)
    (gss_cons (gset 3 Sc.nd l_law__law_canal_here (gown C__law_canal hr (gl g_law__law_canal) p__law_canal (ga_cons (gv 1 v_law__law_tape_here) (ga_cons ge_int ga_nil se_Constant) se_Name)))
    (gss_cons (gset 4 Sc.nd l_law__law_text (ge_join ge_str (ga_cons (gown C__law_words hr (gl g_law__law_words) p__law_words (ga_cons (gv 3 v_law__law_canal_here) ga_nil se_Name)) ga_nil se_Call)))
    (gss_cons (gset 5 Sc.nd l_law__law_found (gown C_canal_text hr (gl g_law_canal_text) p_canal_text (ga_cons (gv 3 v_law__law_canal_here) ga_nil se_Name)))
    (gss_cons (gs_if (GW.jt (gw_or (gt_not (gt_val (ge_isi kit_str (by rfl) (by decide +kernel) (by decide +kernel) (gl g_law_isinstance) T.b_isinstance (gl g_law_str) T.b_str (gv 5 v_law__law_found) (by rfl) (by rfl) (by rfl)))) (gw_or1 (gt_ne hr.units (gv 5 v_law__law_found) (gv 4 v_law__law_text)))))
    (gss_one (gs_ret ge_bl))
    gss_nil)
    (gss_one (gs_if (GW.jt (gw_or (gt_ne hr.units (ge_repr hr (gl g_law_repr) T.b_repr (ga_cons (gown C_read_canal hr (gl g_law_read_canal) p_read_canal (ga_cons (gv 4 v_law__law_text) ga_nil se_Name)) ga_nil se_Call)) (ge_repr hr (gl g_law_repr) T.b_repr (ga_cons (gv 3 v_law__law_canal_here) ga_nil se_Name))) (gw_or1 (gt_ne hr.units (gown C_canal_text hr (gl g_law_canal_text) p_canal_text (ga_cons (gown C_read_canal hr (gl g_law_read_canal) p_read_canal (ga_cons (gv 4 v_law__law_text) ga_nil se_Name)) ga_nil se_Call)) (gv 4 v_law__law_text)))))
    (gss_one (gs_ret ge_bl))
    gss_nil)))))))
    (gss_one (gs_ret ge_bl))))
theorem allc (T : Txt K mg) (d_place_words : Dn K mg "place_words" st_place_words ["place"]) (d_canal_text : Dn K mg "canal_text" st_canal_text ["canal"]) (d_word_at : Dn K mg "word_at" st_word_at ["words", "at"]) (d_may_follow : Dn K mg "may_follow" st_may_follow ["word", "ahead"]) (d_is_written : Dn K mg "is_written" st_is_written ["word"]) (d_number_of : Dn K mg "number_of" st_number_of ["word", "least", "most"]) (d_read_number : Dn K mg "read_number" st_read_number ["words", "at", "least", "most"]) (d_read_pound : Dn K mg "read_pound" st_read_pound ["words", "at"]) (d_read_place : Dn K mg "read_place" st_read_place ["words", "at", "ahead"]) (d_read_gate : Dn K mg "read_gate" st_read_gate ["words", "at"]) (d_read_canal : Dn K mg "read_canal" st_read_canal ["text"]) (d__law_tape : Dn K mg "_law_tape" st__law_tape ["_law_script"]) (d__law_draw : Dn K mg "_law_draw" st__law_draw ["_law_tape_here", "_law_many"]) (d__law_pound : Dn K mg "_law_pound" st__law_pound ["_law_tape_here"]) (d__law_canal : Dn K mg "_law_canal" st__law_canal ["_law_tape_here", "_law_most"]) (d__law_words : Dn K mg "_law_words" st__law_words ["_law_canal_here"]) {f : Addr} {fd : FuncData} (F : Fun K "law" "law" st_law f fd) : FnOk P w K mg base CX0 7 f fd ["_law_script"] (spD K 1 f_law) := by
  have C_place_words : Cal P w K mg base "place_words" ["place"] f_place_words 1 := cal_place_words T d_place_words
  have C_canal_text : Cal P w K mg base "canal_text" ["canal"] f_canal_text 2 := cal_canal_text T d_canal_text C_place_words
  have C_word_at : Cal P w K mg base "word_at" ["words", "at"] f_word_at 1 := cal_word_at T d_word_at
  have C_may_follow : Cal P w K mg base "may_follow" ["word", "ahead"] f_may_follow 1 := cal_may_follow T d_may_follow
  have C_is_written : Cal P w K mg base "is_written" ["word"] f_is_written 1 := cal_is_written T d_is_written
  have C_number_of : Cal P w K mg base "number_of" ["word", "least", "most"] f_number_of 2 := cal_number_of T d_number_of C_is_written
  have C_read_number : Cal P w K mg base "read_number" ["words", "at", "least", "most"] f_read_number 3 := cal_read_number T d_read_number C_number_of C_word_at
  have C_read_pound : Cal P w K mg base "read_pound" ["words", "at"] f_read_pound 4 := cal_read_pound T d_read_pound C_number_of C_read_number
  have C_read_place : Cal P w K mg base "read_place" ["words", "at", "ahead"] f_read_place 5 := cal_read_place T d_read_place C_may_follow C_read_pound C_word_at
  have C_read_gate : Cal P w K mg base "read_gate" ["words", "at"] f_read_gate 2 := cal_read_gate T d_read_gate C_word_at
  have C_read_canal : Cal P w K mg base "read_canal" ["text"] f_read_canal 6 := cal_read_canal T d_read_canal C_read_gate C_read_place
  have C__law_tape : Cal P w K mg base "_law_tape" ["_law_script"] f__law_tape 1 := cal__law_tape T d__law_tape
  have C__law_draw : Cal P w K mg base "_law_draw" ["_law_tape_here", "_law_many"] f__law_draw 1 := cal__law_draw T d__law_draw
  have C__law_pound : Cal P w K mg base "_law_pound" ["_law_tape_here"] f__law_pound 2 := cal__law_pound T d__law_pound C__law_draw
  have C__law_canal : Cal P w K mg base "_law_canal" ["_law_tape_here", "_law_most"] f__law_canal 3 := cal__law_canal T d__law_canal C__law_draw C__law_pound
  have C__law_words : Cal P w K mg base "_law_words" ["_law_canal_here"] f__law_words 1 := cal__law_words T d__law_words
  exact okl_law T F C__law_canal C__law_tape C__law_words C_canal_text C_read_canal
end
theorem all_mk {l : PySem.W.OpenLaw} {w : World} {K : PySem.W.Frag} {h : Heap} {mg : Str → Option Value} {fa : Addr} (X : K.In h) (G : h.Ns mainGlobals mg) (hfa : mg "law" = some (.ref fa))
    {fx_place_words : Addr} {od_place_words an_place_words : Option Addr} {sl_place_words : Array (Option Value)} {oc_place_words kV_place_words dc_place_words pm_place_words cd_place_words ct_place_words : Value}
    (a_place_words : PySem.W.nsIn K mainGlobals "place_words" = some (some (.ref fx_place_words))) (l_place_words : K.lookup fx_place_words = some ⟨oc_place_words, od_place_words, .func (PySem.W.fnOf "place_words" "place_words" (defArgs st_place_words) (defBody st_place_words) (defScope st_place_words) .none kV_place_words dc_place_words pm_place_words an_place_words cd_place_words ct_place_words), sl_place_words⟩) (c_place_words : PySem.W.codeIn K cd_place_words "place_words" = true) (k_place_words : PySem.W.keepIn K (.ref fx_place_words) = true)
    {fx_canal_text : Addr} {od_canal_text an_canal_text : Option Addr} {sl_canal_text : Array (Option Value)} {oc_canal_text kV_canal_text dc_canal_text pm_canal_text cd_canal_text ct_canal_text : Value}
    (a_canal_text : PySem.W.nsIn K mainGlobals "canal_text" = some (some (.ref fx_canal_text))) (l_canal_text : K.lookup fx_canal_text = some ⟨oc_canal_text, od_canal_text, .func (PySem.W.fnOf "canal_text" "canal_text" (defArgs st_canal_text) (defBody st_canal_text) (defScope st_canal_text) .none kV_canal_text dc_canal_text pm_canal_text an_canal_text cd_canal_text ct_canal_text), sl_canal_text⟩) (c_canal_text : PySem.W.codeIn K cd_canal_text "canal_text" = true) (k_canal_text : PySem.W.keepIn K (.ref fx_canal_text) = true)
    {fx_word_at : Addr} {od_word_at an_word_at : Option Addr} {sl_word_at : Array (Option Value)} {oc_word_at kV_word_at dc_word_at pm_word_at cd_word_at ct_word_at : Value}
    (a_word_at : PySem.W.nsIn K mainGlobals "word_at" = some (some (.ref fx_word_at))) (l_word_at : K.lookup fx_word_at = some ⟨oc_word_at, od_word_at, .func (PySem.W.fnOf "word_at" "word_at" (defArgs st_word_at) (defBody st_word_at) (defScope st_word_at) .none kV_word_at dc_word_at pm_word_at an_word_at cd_word_at ct_word_at), sl_word_at⟩) (c_word_at : PySem.W.codeIn K cd_word_at "word_at" = true) (k_word_at : PySem.W.keepIn K (.ref fx_word_at) = true)
    {fx_may_follow : Addr} {od_may_follow an_may_follow : Option Addr} {sl_may_follow : Array (Option Value)} {oc_may_follow kV_may_follow dc_may_follow pm_may_follow cd_may_follow ct_may_follow : Value}
    (a_may_follow : PySem.W.nsIn K mainGlobals "may_follow" = some (some (.ref fx_may_follow))) (l_may_follow : K.lookup fx_may_follow = some ⟨oc_may_follow, od_may_follow, .func (PySem.W.fnOf "may_follow" "may_follow" (defArgs st_may_follow) (defBody st_may_follow) (defScope st_may_follow) .none kV_may_follow dc_may_follow pm_may_follow an_may_follow cd_may_follow ct_may_follow), sl_may_follow⟩) (c_may_follow : PySem.W.codeIn K cd_may_follow "may_follow" = true) (k_may_follow : PySem.W.keepIn K (.ref fx_may_follow) = true)
    {fx_is_written : Addr} {od_is_written an_is_written : Option Addr} {sl_is_written : Array (Option Value)} {oc_is_written kV_is_written dc_is_written pm_is_written cd_is_written ct_is_written : Value}
    (a_is_written : PySem.W.nsIn K mainGlobals "is_written" = some (some (.ref fx_is_written))) (l_is_written : K.lookup fx_is_written = some ⟨oc_is_written, od_is_written, .func (PySem.W.fnOf "is_written" "is_written" (defArgs st_is_written) (defBody st_is_written) (defScope st_is_written) .none kV_is_written dc_is_written pm_is_written an_is_written cd_is_written ct_is_written), sl_is_written⟩) (c_is_written : PySem.W.codeIn K cd_is_written "is_written" = true) (k_is_written : PySem.W.keepIn K (.ref fx_is_written) = true)
    {fx_number_of : Addr} {od_number_of an_number_of : Option Addr} {sl_number_of : Array (Option Value)} {oc_number_of kV_number_of dc_number_of pm_number_of cd_number_of ct_number_of : Value}
    (a_number_of : PySem.W.nsIn K mainGlobals "number_of" = some (some (.ref fx_number_of))) (l_number_of : K.lookup fx_number_of = some ⟨oc_number_of, od_number_of, .func (PySem.W.fnOf "number_of" "number_of" (defArgs st_number_of) (defBody st_number_of) (defScope st_number_of) .none kV_number_of dc_number_of pm_number_of an_number_of cd_number_of ct_number_of), sl_number_of⟩) (c_number_of : PySem.W.codeIn K cd_number_of "number_of" = true) (k_number_of : PySem.W.keepIn K (.ref fx_number_of) = true)
    {fx_read_number : Addr} {od_read_number an_read_number : Option Addr} {sl_read_number : Array (Option Value)} {oc_read_number kV_read_number dc_read_number pm_read_number cd_read_number ct_read_number : Value}
    (a_read_number : PySem.W.nsIn K mainGlobals "read_number" = some (some (.ref fx_read_number))) (l_read_number : K.lookup fx_read_number = some ⟨oc_read_number, od_read_number, .func (PySem.W.fnOf "read_number" "read_number" (defArgs st_read_number) (defBody st_read_number) (defScope st_read_number) .none kV_read_number dc_read_number pm_read_number an_read_number cd_read_number ct_read_number), sl_read_number⟩) (c_read_number : PySem.W.codeIn K cd_read_number "read_number" = true) (k_read_number : PySem.W.keepIn K (.ref fx_read_number) = true)
    {fx_read_pound : Addr} {od_read_pound an_read_pound : Option Addr} {sl_read_pound : Array (Option Value)} {oc_read_pound kV_read_pound dc_read_pound pm_read_pound cd_read_pound ct_read_pound : Value}
    (a_read_pound : PySem.W.nsIn K mainGlobals "read_pound" = some (some (.ref fx_read_pound))) (l_read_pound : K.lookup fx_read_pound = some ⟨oc_read_pound, od_read_pound, .func (PySem.W.fnOf "read_pound" "read_pound" (defArgs st_read_pound) (defBody st_read_pound) (defScope st_read_pound) .none kV_read_pound dc_read_pound pm_read_pound an_read_pound cd_read_pound ct_read_pound), sl_read_pound⟩) (c_read_pound : PySem.W.codeIn K cd_read_pound "read_pound" = true) (k_read_pound : PySem.W.keepIn K (.ref fx_read_pound) = true)
    {fx_read_place : Addr} {od_read_place an_read_place : Option Addr} {sl_read_place : Array (Option Value)} {oc_read_place kV_read_place dc_read_place pm_read_place cd_read_place ct_read_place : Value}
    (a_read_place : PySem.W.nsIn K mainGlobals "read_place" = some (some (.ref fx_read_place))) (l_read_place : K.lookup fx_read_place = some ⟨oc_read_place, od_read_place, .func (PySem.W.fnOf "read_place" "read_place" (defArgs st_read_place) (defBody st_read_place) (defScope st_read_place) .none kV_read_place dc_read_place pm_read_place an_read_place cd_read_place ct_read_place), sl_read_place⟩) (c_read_place : PySem.W.codeIn K cd_read_place "read_place" = true) (k_read_place : PySem.W.keepIn K (.ref fx_read_place) = true)
    {fx_read_gate : Addr} {od_read_gate an_read_gate : Option Addr} {sl_read_gate : Array (Option Value)} {oc_read_gate kV_read_gate dc_read_gate pm_read_gate cd_read_gate ct_read_gate : Value}
    (a_read_gate : PySem.W.nsIn K mainGlobals "read_gate" = some (some (.ref fx_read_gate))) (l_read_gate : K.lookup fx_read_gate = some ⟨oc_read_gate, od_read_gate, .func (PySem.W.fnOf "read_gate" "read_gate" (defArgs st_read_gate) (defBody st_read_gate) (defScope st_read_gate) .none kV_read_gate dc_read_gate pm_read_gate an_read_gate cd_read_gate ct_read_gate), sl_read_gate⟩) (c_read_gate : PySem.W.codeIn K cd_read_gate "read_gate" = true) (k_read_gate : PySem.W.keepIn K (.ref fx_read_gate) = true)
    {fx_read_canal : Addr} {od_read_canal an_read_canal : Option Addr} {sl_read_canal : Array (Option Value)} {oc_read_canal kV_read_canal dc_read_canal pm_read_canal cd_read_canal ct_read_canal : Value}
    (a_read_canal : PySem.W.nsIn K mainGlobals "read_canal" = some (some (.ref fx_read_canal))) (l_read_canal : K.lookup fx_read_canal = some ⟨oc_read_canal, od_read_canal, .func (PySem.W.fnOf "read_canal" "read_canal" (defArgs st_read_canal) (defBody st_read_canal) (defScope st_read_canal) .none kV_read_canal dc_read_canal pm_read_canal an_read_canal cd_read_canal ct_read_canal), sl_read_canal⟩) (c_read_canal : PySem.W.codeIn K cd_read_canal "read_canal" = true) (k_read_canal : PySem.W.keepIn K (.ref fx_read_canal) = true)
    {fx__law_tape : Addr} {od__law_tape an__law_tape : Option Addr} {sl__law_tape : Array (Option Value)} {oc__law_tape kV__law_tape dc__law_tape pm__law_tape cd__law_tape ct__law_tape : Value}
    (a__law_tape : PySem.W.nsIn K mainGlobals "_law_tape" = some (some (.ref fx__law_tape))) (l__law_tape : K.lookup fx__law_tape = some ⟨oc__law_tape, od__law_tape, .func (PySem.W.fnOf "_law_tape" "_law_tape" (defArgs st__law_tape) (defBody st__law_tape) (defScope st__law_tape) .none kV__law_tape dc__law_tape pm__law_tape an__law_tape cd__law_tape ct__law_tape), sl__law_tape⟩) (c__law_tape : PySem.W.codeIn K cd__law_tape "_law_tape" = true) (k__law_tape : PySem.W.keepIn K (.ref fx__law_tape) = true)
    {fx__law_draw : Addr} {od__law_draw an__law_draw : Option Addr} {sl__law_draw : Array (Option Value)} {oc__law_draw kV__law_draw dc__law_draw pm__law_draw cd__law_draw ct__law_draw : Value}
    (a__law_draw : PySem.W.nsIn K mainGlobals "_law_draw" = some (some (.ref fx__law_draw))) (l__law_draw : K.lookup fx__law_draw = some ⟨oc__law_draw, od__law_draw, .func (PySem.W.fnOf "_law_draw" "_law_draw" (defArgs st__law_draw) (defBody st__law_draw) (defScope st__law_draw) .none kV__law_draw dc__law_draw pm__law_draw an__law_draw cd__law_draw ct__law_draw), sl__law_draw⟩) (c__law_draw : PySem.W.codeIn K cd__law_draw "_law_draw" = true) (k__law_draw : PySem.W.keepIn K (.ref fx__law_draw) = true)
    {fx__law_pound : Addr} {od__law_pound an__law_pound : Option Addr} {sl__law_pound : Array (Option Value)} {oc__law_pound kV__law_pound dc__law_pound pm__law_pound cd__law_pound ct__law_pound : Value}
    (a__law_pound : PySem.W.nsIn K mainGlobals "_law_pound" = some (some (.ref fx__law_pound))) (l__law_pound : K.lookup fx__law_pound = some ⟨oc__law_pound, od__law_pound, .func (PySem.W.fnOf "_law_pound" "_law_pound" (defArgs st__law_pound) (defBody st__law_pound) (defScope st__law_pound) .none kV__law_pound dc__law_pound pm__law_pound an__law_pound cd__law_pound ct__law_pound), sl__law_pound⟩) (c__law_pound : PySem.W.codeIn K cd__law_pound "_law_pound" = true) (k__law_pound : PySem.W.keepIn K (.ref fx__law_pound) = true)
    {fx__law_canal : Addr} {od__law_canal an__law_canal : Option Addr} {sl__law_canal : Array (Option Value)} {oc__law_canal kV__law_canal dc__law_canal pm__law_canal cd__law_canal ct__law_canal : Value}
    (a__law_canal : PySem.W.nsIn K mainGlobals "_law_canal" = some (some (.ref fx__law_canal))) (l__law_canal : K.lookup fx__law_canal = some ⟨oc__law_canal, od__law_canal, .func (PySem.W.fnOf "_law_canal" "_law_canal" (defArgs st__law_canal) (defBody st__law_canal) (defScope st__law_canal) .none kV__law_canal dc__law_canal pm__law_canal an__law_canal cd__law_canal ct__law_canal), sl__law_canal⟩) (c__law_canal : PySem.W.codeIn K cd__law_canal "_law_canal" = true) (k__law_canal : PySem.W.keepIn K (.ref fx__law_canal) = true)
    {fx__law_words : Addr} {od__law_words an__law_words : Option Addr} {sl__law_words : Array (Option Value)} {oc__law_words kV__law_words dc__law_words pm__law_words cd__law_words ct__law_words : Value}
    (a__law_words : PySem.W.nsIn K mainGlobals "_law_words" = some (some (.ref fx__law_words))) (l__law_words : K.lookup fx__law_words = some ⟨oc__law_words, od__law_words, .func (PySem.W.fnOf "_law_words" "_law_words" (defArgs st__law_words) (defBody st__law_words) (defScope st__law_words) .none kV__law_words dc__law_words pm__law_words an__law_words cd__law_words ct__law_words), sl__law_words⟩) (c__law_words : PySem.W.codeIn K cd__law_words "_law_words" = true) (k__law_words : PySem.W.keepIn K (.ref fx__law_words) = true)
    {fx_law : Addr} {od_law an_law : Option Addr} {sl_law : Array (Option Value)} {oc_law kV_law dc_law pm_law cd_law ct_law : Value}
    (a_law : PySem.W.nsIn K mainGlobals "law" = some (some (.ref fx_law))) (l_law : K.lookup fx_law = some ⟨oc_law, od_law, .func (PySem.W.fnOf "law" "law" (defArgs st_law) (defBody st_law) (defScope st_law) .none kV_law dc_law pm_law an_law cd_law ct_law), sl_law⟩) (c_law : PySem.W.codeIn K cd_law "law" = true) (k_law : PySem.W.keepIn K (.ref fx_law) = true)
    (z_all : PySem.W.nsIn K mainGlobals "all" = some none)
    (z_enumerate : PySem.W.nsIn K mainGlobals "enumerate" = some none)
    (z_int : PySem.W.nsIn K mainGlobals "int" = some none)
    (z_isinstance : PySem.W.nsIn K mainGlobals "isinstance" = some none)
    (z_len : PySem.W.nsIn K mainGlobals "len" = some none)
    (z_list : PySem.W.nsIn K mainGlobals "list" = some none)
    (z_min : PySem.W.nsIn K mainGlobals "min" = some none)
    (z_range : PySem.W.nsIn K mainGlobals "range" = some none)
    (z_repr : PySem.W.nsIn K mainGlobals "repr" = some none)
    (z_str : PySem.W.nsIn K mainGlobals "str" = some none)
    (z_tuple : PySem.W.nsIn K mainGlobals "tuple" = some none)
    (z_zip : PySem.W.nsIn K mainGlobals "zip" = some none)
    {kp_CHAMBER : Addr} {kt_CHAMBER : Tok} {kn_CHAMBER : Nat} {ks_CHAMBER : Array (Option Value)} (ka_CHAMBER : PySem.W.nsIn K mainGlobals "CHAMBER" = some (some (.ref kp_CHAMBER))) (kl_CHAMBER : K.lookup kp_CHAMBER = some { cls := .type "tuple", dict := none, data := .seq #[.str "chamber" kt_CHAMBER] kn_CHAMBER, slots := ks_CHAMBER })
    {kt_DOWN : Tok} (ka_DOWN : PySem.W.nsIn K mainGlobals "DOWN" = some (some (.str "down" kt_DOWN)))
    {kp_END : Addr} {kt_END : Tok} {kn_END : Nat} {ks_END : Array (Option Value)} (ka_END : PySem.W.nsIn K mainGlobals "END" = some (some (.ref kp_END))) (kl_END : K.lookup kp_END = some { cls := .type "tuple", dict := none, data := .seq #[.str "end" kt_END] kn_END, slots := ks_END })
    {kt_FIGURES : Tok} (ka_FIGURES : PySem.W.nsIn K mainGlobals "FIGURES" = some (some (.str "0123456789" kt_FIGURES)))
    {kt_MOST_BRIM : Tok} (ka_MOST_BRIM : PySem.W.nsIn K mainGlobals "MOST_BRIM" = some (some (.int 9 kt_MOST_BRIM)))
    {kt_MOST_FIGURES : Tok} (ka_MOST_FIGURES : PySem.W.nsIn K mainGlobals "MOST_FIGURES" = some (some (.int 16 kt_MOST_FIGURES)))
    {kt_MOST_PLACES : Tok} (ka_MOST_PLACES : PySem.W.nsIn K mainGlobals "MOST_PLACES" = some (some (.int 13 kt_MOST_PLACES)))
    {kt_MOST_PRICE : Tok} (ka_MOST_PRICE : PySem.W.nsIn K mainGlobals "MOST_PRICE" = some (some (.int 99 kt_MOST_PRICE)))
    {kt_MOST_ROOM : Tok} (ka_MOST_ROOM : PySem.W.nsIn K mainGlobals "MOST_ROOM" = some (some (.int 4 kt_MOST_ROOM)))
    {kt_UP : Tok} (ka_UP : PySem.W.nsIn K mainGlobals "UP" = some (some (.str "up" kt_UP)))
    : ∃ fd : FuncData, (∀ (s : Shared) (v : Value), BindsTo s fd ⟨[v], []⟩ [("_law_script", v)]) ∧ ∀ base : Heap, K.In base → base.Ns mainGlobals mg → FnOk l.prog w K mg base CX0 7 fa fd ["_law_script"] (spD K 1 f_law) := by
  have e := hfa.symm.trans (PySem.W.mg_of X G a_law)
  cases e
  have F := fun_mk (st := st_law) l_law c_law k_law
  have T : Txt K mg := ⟨PySem.W.mg_none_of X G z_all, PySem.W.mg_none_of X G z_enumerate, PySem.W.mg_none_of X G z_int, PySem.W.mg_none_of X G z_isinstance, PySem.W.mg_none_of X G z_len, PySem.W.mg_none_of X G z_list, PySem.W.mg_none_of X G z_min, PySem.W.mg_none_of X G z_range, PySem.W.mg_none_of X G z_repr, PySem.W.mg_none_of X G z_str, PySem.W.mg_none_of X G z_tuple, PySem.W.mg_none_of X G z_zip, cst_t1 X G ka_CHAMBER kl_CHAMBER, cst_str X G ka_DOWN, cst_t1 X G ka_END kl_END, cst_str X G ka_FIGURES, cst_int X G ka_MOST_BRIM, cst_int X G ka_MOST_FIGURES, cst_int X G ka_MOST_PLACES, cst_int X G ka_MOST_PRICE, cst_int X G ka_MOST_ROOM, cst_str X G ka_UP⟩
  have d_place_words : Dn K mg "place_words" st_place_words ["place"] := dn_mk X G a_place_words l_place_words c_place_words k_place_words fun _ _ _ _ _ _ us hl => match us, hl with | [_], _ => rfl
  have d_canal_text : Dn K mg "canal_text" st_canal_text ["canal"] := dn_mk X G a_canal_text l_canal_text c_canal_text k_canal_text fun _ _ _ _ _ _ us hl => match us, hl with | [_], _ => rfl
  have d_word_at : Dn K mg "word_at" st_word_at ["words", "at"] := dn_mk X G a_word_at l_word_at c_word_at k_word_at fun _ _ _ _ _ _ us hl => match us, hl with | [_, _], _ => rfl
  have d_may_follow : Dn K mg "may_follow" st_may_follow ["word", "ahead"] := dn_mk X G a_may_follow l_may_follow c_may_follow k_may_follow fun _ _ _ _ _ _ us hl => match us, hl with | [_, _], _ => rfl
  have d_is_written : Dn K mg "is_written" st_is_written ["word"] := dn_mk X G a_is_written l_is_written c_is_written k_is_written fun _ _ _ _ _ _ us hl => match us, hl with | [_], _ => rfl
  have d_number_of : Dn K mg "number_of" st_number_of ["word", "least", "most"] := dn_mk X G a_number_of l_number_of c_number_of k_number_of fun _ _ _ _ _ _ us hl => match us, hl with | [_, _, _], _ => rfl
  have d_read_number : Dn K mg "read_number" st_read_number ["words", "at", "least", "most"] := dn_mk X G a_read_number l_read_number c_read_number k_read_number fun _ _ _ _ _ _ us hl => match us, hl with | [_, _, _, _], _ => rfl
  have d_read_pound : Dn K mg "read_pound" st_read_pound ["words", "at"] := dn_mk X G a_read_pound l_read_pound c_read_pound k_read_pound fun _ _ _ _ _ _ us hl => match us, hl with | [_, _], _ => rfl
  have d_read_place : Dn K mg "read_place" st_read_place ["words", "at", "ahead"] := dn_mk X G a_read_place l_read_place c_read_place k_read_place fun _ _ _ _ _ _ us hl => match us, hl with | [_, _, _], _ => rfl
  have d_read_gate : Dn K mg "read_gate" st_read_gate ["words", "at"] := dn_mk X G a_read_gate l_read_gate c_read_gate k_read_gate fun _ _ _ _ _ _ us hl => match us, hl with | [_, _], _ => rfl
  have d_read_canal : Dn K mg "read_canal" st_read_canal ["text"] := dn_mk X G a_read_canal l_read_canal c_read_canal k_read_canal fun _ _ _ _ _ _ us hl => match us, hl with | [_], _ => rfl
  have d__law_tape : Dn K mg "_law_tape" st__law_tape ["_law_script"] := dn_mk X G a__law_tape l__law_tape c__law_tape k__law_tape fun _ _ _ _ _ _ us hl => match us, hl with | [_], _ => rfl
  have d__law_draw : Dn K mg "_law_draw" st__law_draw ["_law_tape_here", "_law_many"] := dn_mk X G a__law_draw l__law_draw c__law_draw k__law_draw fun _ _ _ _ _ _ us hl => match us, hl with | [_, _], _ => rfl
  have d__law_pound : Dn K mg "_law_pound" st__law_pound ["_law_tape_here"] := dn_mk X G a__law_pound l__law_pound c__law_pound k__law_pound fun _ _ _ _ _ _ us hl => match us, hl with | [_], _ => rfl
  have d__law_canal : Dn K mg "_law_canal" st__law_canal ["_law_tape_here", "_law_most"] := dn_mk X G a__law_canal l__law_canal c__law_canal k__law_canal fun _ _ _ _ _ _ us hl => match us, hl with | [_, _], _ => rfl
  have d__law_words : Dn K mg "_law_words" st__law_words ["_law_canal_here"] := dn_mk X G a__law_words l__law_words c__law_words k__law_words fun _ _ _ _ _ _ us hl => match us, hl with | [_], _ => rfl
  exact ⟨_, fun s v => .of_eq rfl, fun base _ _ => allc T d_place_words d_canal_text d_word_at d_may_follow d_is_written d_number_of d_read_number d_read_pound d_read_place d_read_gate d_read_canal d__law_tape d__law_draw d__law_pound d__law_canal d__law_words F⟩
end Law
set_option Elab.async false
set_option linter.all false
namespace WM
def stp (b l d : Int) : Int := min b (l + d)
def F (b : Int) (ds : List Int) (x : Int) : Int := ds.foldl (stp b) x
def AP (ds : List Int) (x : Int) : Prop := ∀ j, 1 ≤ j → j ≤ ds.length → 0 ≤ x + (ds.take j).sum
inductive R where
  | dry (k : Nat) | lev (l : Int)
def R.bind (o : R) (g : Int → R) : R := match o with
  | .dry k => .dry k
  | .lev l => g l
def wl (b : Int) : List Int → Nat → Int → R
  | [], _, x => .lev x
  | d :: r, k, x => if stp b x d < 0 then .dry k else wl b r (k + 1) (stp b x d)
def most (b : Int) (ds : List Int) : Int := F b ds.tail b
def start (ds : List Int) (mn : Int) : Int := max 0 (-mn)
structure IsMin (ds : List Int) (mn : Int) : Prop where
  le : ∀ j, 1 ≤ j → j ≤ ds.length → mn ≤ (ds.take j).sum
  at' : ∃ j, 1 ≤ j ∧ j ≤ ds.length ∧ mn = (ds.take j).sum
end WM
set_option Elab.async false
set_option linter.all false
set_option maxRecDepth 100000
namespace DL
open PySem PySem.Spec PyProof.Rows L2
section
variable {ρ : Lc} {S : Sto} {α β : Type}
@[simp] theorem bind_ok {a : α} {g : α → Sto → Out β} : (Out.ok a S).bind g = g a S := id rfl
@[simp] theorem bind_bad {g : α → Sto → Out β} : (Out.bad : Out α).bind g = .bad := id rfl
@[simp] theorem bindS_ok {a : α} {g : α → Sto → OS} : bindS (Out.ok a S) ρ g = g a S := id rfl
@[simp] theorem bindS_bad {g : α → Sto → OS} : bindS (Out.bad : Out α) ρ g = .bad := id rfl
@[simp] theorem vr_ap {i : Nat} : vr i ρ S = match ρ[i]? with
  | some (some d) => .ok d S
  | _ => .bad := id rfl
@[simp] theorem cn_ap {d : D} : cn d ρ S = .ok d S := id rfl
@[simp] theorem an_ap : an ρ S = .ok [] S := id rfl
@[simp] theorem ac_ap {f : Ev D} {g : Ev (List D)} : ac f g ρ S = (f ρ S).bind fun x S1 => (g ρ S1).bind fun xs S2 => .ok (x :: xs) S2 := id rfl
@[simp] theorem o2_ap {o : D → D → Sto → Out D} {fa fb : Ev D} : o2 o fa fb ρ S = (fa ρ S).bind fun x S1 => (fb ρ S1).bind fun y S2 => o x y S2 := id rfl
@[simp] theorem o1_ap {o : D → Sto → Out D} {fa : Ev D} : o1 o fa ρ S = (fa ρ S).bind fun x S1 => o x S1 := id rfl
@[simp] theorem b1_ap {o : List D → Sto → Out D} {f : Ev (List D)} : b1 o f ρ S = (f ρ S).bind o := id rfl
@[simp] theorem cl_ap {n : Nat} {fn : Fn} {t : Ev (List D)} : cl n fn t ρ S = (t ρ S).bind fun ds S1 => if ds.length = n then fn ds S1 else .bad := id rfl
@[simp] theorem noExc_ap {fn : Fn} {ds : List D} : noExc fn ds S = match fn ds S with
  | .ok d S' => .ok d S'
  | _ => .bad := id rfl
@[simp] theorem tb_ap {f : Ev D} : tb f ρ S = (f ρ S).bind fun x S1 => match x with
  | .bl b => .ok b S1
  | _ => .bad := id rfl
@[simp] theorem tt_ap {f : Ev D} : tt f ρ S = (f ρ S).bind fun x S1 => match truD x S1 with
  | some b => .ok b S1
  | none => .bad := id rfl
@[simp] theorem tn_ap {f : Ev Bool} : tn f ρ S = (f ρ S).bind fun b S1 => .ok (!b) S1 := id rfl
@[simp] theorem ta_ap {f g : Ev Bool} : ta f g ρ S = (f ρ S).bind fun b S1 => if b = true then g ρ S1 else .ok false S1 := id rfl
@[simp] theorem to_ap {f g : Ev Bool} : to f g ρ S = (f ρ S).bind fun b S1 => if b = true then .ok true S1 else g ρ S1 := id rfl
@[simp] theorem va_ap {f g : Ev D} : va f g ρ S = (f ρ S).bind fun x S1 => match x with
  | .bl b => if b = true then g ρ S1 else .ok (.bl false) S1
  | _ => .bad := id rfl
@[simp] theorem vo_ap {f g : Ev D} : vo f g ρ S = (f ρ S).bind fun x S1 => match x with
  | .bl b => if b = true then .ok (.bl true) S1 else g ρ S1
  | _ => .bad := id rfl
@[simp] theorem vn_ap {f : Ev D} : vn f ρ S = (f ρ S).bind fun x S1 => match x with
  | .bl b => .ok (.bl (!b)) S1
  | _ => .bad := id rfl
@[simp] theorem ie_ap {c : Ev Bool} {f g : Ev D} : ie c f g ρ S = (c ρ S).bind fun b S1 => if b = true then f ρ S1 else g ρ S1 := id rfl
@[simp] theorem tp_ap {f : Ev (List D)} : tp f ρ S = (f ρ S).bind fun xs S1 => if xs.length ≤ 1000000 then .ok (.tup xs) S1 else .bad := id rfl
@[simp] theorem ls_ap {f : Ev (List D)} : ls f ρ S = (f ρ S).bind fun xs S1 => if xs.length ≤ 1000000 then .ok (.lst S1.length) (S1 ++ [⟨false, xs⟩]) else .bad := id rfl
@[simp] theorem sl2_ap {fe : Ev D} {fl fh : Ev (Option Int)} : sl2 fe fl fh ρ S = (fe ρ S).bind fun x S1 => (fl ρ S1).bind fun l S2 => (fh ρ S2).bind fun u S3 => slD2 x l u S3 := id rfl
@[simp] theorem onone_ap : onone ρ S = .ok none S := id rfl
@[simp] theorem osome_ap {f : Ev D} : osome f ρ S = (f ρ S).bind fun x S1 => match x with
  | .int i => .ok (some i) S1
  | _ => .bad := id rfl
@[simp] theorem mt_ap {o : D → List D → Sto → Out D} {fo : Ev D} {f : Ev (List D)} : mt o fo f ρ S = (fo ρ S).bind fun x S1 => if isLst x S1 = true then (f ρ S1).bind fun xs S2 => o x xs S2 else .bad := id rfl
@[simp] theorem ch_ap {o o' : D → D → Sto → Out D} {fa fb fc : Ev D} : ch o o' fa fb fc ρ S = (fa ρ S).bind fun x S1 => (fb ρ S1).bind fun y S2 => (o x y S2).bind fun z S3 => match z with
  | .bl b => if b = true then (fc ρ S3).bind fun w S4 => o' y w S4 else .ok (.bl false) S3
  | _ => .bad := id rfl
@[simp] theorem sq_ap {f g : Sv} : sq f g ρ S = match f ρ S with
  | .nx ρ' S' => g ρ' S'
  | .rt d S' => .rt d S'
  | .bk ρ' S' => .bk ρ' S'
  | .ct ρ' S' => .ct ρ' S'
  | .exc x ρ' S' => .exc x ρ' S'
  | .bad => .bad := id rfl
@[simp] theorem sa_ap {f : Ev D} {g : Tg} : sa f g ρ S = bindS (f ρ S) ρ fun d S1 => match g d ρ with
  | some ρ' => .nx ρ' S1
  | none => .bad := id rfl
@[simp] theorem gn_ap {i : Nat} {d : D} : gn i d ρ = some (ρ.set i (some d)) := id rfl
@[simp] theorem sret_ap {f : Ev D} : sret f ρ S = bindS (f ρ S) ρ fun d S1 => .rt d S1 := id rfl
@[simp] theorem sif_ap {c : Ev Bool} {f g : Sv} : sif c f g ρ S = bindS (c ρ S) ρ fun b S1 => if b = true then f ρ S1 else g ρ S1 := id rfl
@[simp] theorem sx_ap {f : Ev D} : sx f ρ S = bindS (f ρ S) ρ fun _ S1 => .nx ρ S1 := id rfl
@[simp] theorem skip_ap : skip ρ S = .nx ρ S := id rfl
@[simp] theorem ss_ap {f fo fi : Ev D} {o : D → D → D → Sto → Option Sto} : ss f fo fi o ρ S = bindS (f ρ S) ρ fun d S1 => bindS (fo ρ S1) ρ fun x S2 => bindS (fi ρ S2) ρ fun y S3 => match o x y d S3 with
  | some S4 => .nx ρ S4
  | none => .bad := id rfl
@[simp] theorem sag_ap {i : Nat} {g : Int → Int → Int} {f : Ev D} : sag i g f ρ S = match ρ[i]? with
  | some (some (.int a)) => bindS (f ρ S) ρ fun d S1 => match d with
    | .int b => .nx (ρ.set i (some (.int (g a b)))) S1
    | _ => .bad
  | _ => .bad := id rfl
@[simp] theorem isrc_ap {f : Ev D} : isrc f ρ S = (f ρ S).bind srcOf := id rfl
@[simp] theorem sfor_ap {f : Ev Src} {g : Tg} {b : Sv} : sfor f g b ρ S = bindS (f ρ S) ρ fun s S1 => forN s.nxt g b s.fuel 0 ρ S1 := id rfl
section
variable {i j : Int}
@[simp] theorem add_ii : addD (.int i) (.int j) S = .ok (.int (i + j)) S := id rfl
@[simp] theorem sub_ii : subD (.int i) (.int j) S = .ok (.int (i - j)) S := id rfl
@[simp] theorem neg_i : negD (.int i) S = .ok (.int (-i)) S := id rfl
theorem mul_r (h1 : -(2 ^ 64) < j) (h2 : j < 2 ^ 64) : mulD (.int i) (.int j) S = .ok (.int (i * j)) S := by
  show (if (-(2 ^ 64) < i ∧ i < 2 ^ 64) ∨ (-(2 ^ 64) < j ∧ j < 2 ^ 64) then Out.ok (D.int (i * j)) S else .bad) = _
  rw [if_pos (.inr ⟨h1, h2⟩)]
theorem mul_l (h1 : -(2 ^ 64) < i) (h2 : i < 2 ^ 64) : mulD (.int i) (.int j) S = .ok (.int (i * j)) S := by
  show (if (-(2 ^ 64) < i ∧ i < 2 ^ 64) ∨ (-(2 ^ 64) < j ∧ j < 2 ^ 64) then Out.ok (D.int (i * j)) S else .bad) = _
  rw [if_pos (.inl ⟨h1, h2⟩)]
theorem mod_ii (h : 0 < j) : modD (.int i) (.int j) S = .ok (.int (i % j)) S := by
  show (if decide (0 < j) = true then Out.ok (D.int (i % j)) S else .bad) = _
  rw [if_pos (by simpa using h)]
theorem div_ii (h : 0 < j) (h2 : j < 2 ^ 200) : divD2 (.int i) (.int j) S = .ok (.int (i / j)) S := by
  show (if decide (0 < j ∧ j < 2 ^ 200) = true then Out.ok (D.int (i / j)) S else .bad) = _
  rw [if_pos (decide_eq_true ⟨h, h2⟩)]
theorem pow_nn {n : Nat} (h : (n : Int) ≤ 1000000) (h2 : i.natAbs < 2 ^ 64) : powD (.int i) (.int n) S = .ok (.int (i ^ n)) S := by
  show (if decide (0 ≤ (n : Int) ∧ (n : Int) ≤ 1000000 ∧ i.natAbs < 2 ^ 64) = true then Out.ok (D.int (i ^ (n : Int).toNat)) S else .bad) = _
  rw [if_pos (decide_eq_true ⟨by omega, h, h2⟩)]
  rfl
@[simp] theorem pow_6 : powD (.int 10) (.int 6) S = .ok (.int 1000000) S := pow_nn (n := 6) (by decide) (by decide)
@[simp] theorem pow_15 : powD (.int 10) (.int 15) S = .ok (.int 1000000000000000) S := pow_nn (n := 15) (by decide) (by decide)
@[simp] theorem pow_18 : powD (.int 10) (.int 18) S = .ok (.int 1000000000000000000) S := pow_nn (n := 18) (by decide) (by decide)
@[simp] theorem lt_ii : ltD (.int i) (.int j) S = .ok (.bl (decide (i < j))) S := id rfl
@[simp] theorem le_ii : leD (.int i) (.int j) S = .ok (.bl (decide (i ≤ j))) S := id rfl
@[simp] theorem gt_ii : gtD (.int i) (.int j) S = .ok (.bl (decide (j < i))) S := id rfl
@[simp] theorem ge_ii : geD (.int i) (.int j) S = .ok (.bl (decide (j ≤ i))) S := id rfl
@[simp] theorem min_ii : minD [.int i, .int j] S = .ok (.int (min i j)) S := by
  show Out.ok (D.int (if j < i then j else i)) S = _
  congr 2
  omega
@[simp] theorem max_ii : maxD [.int i, .int j] S = .ok (.int (max i j)) S := by
  show Out.ok (D.int (if j > i then j else i)) S = _
  congr 2
  omega
@[simp] theorem eq_ii : eqD (.int i) (.int j) S = .ok (.bl (decide (i = j))) S := by
  simp only [eqD, toP]
  simp [SeqAt.shaped, PyData.eqv]
  rfl
@[simp] theorem ne_ii : neD (.int i) (.int j) S = .ok (.bl (!decide (i = j))) S := by
  simp only [neD, toP]
  simp [SeqAt.shaped, PyData.eqv]
  rfl
theorem eq_ss {x y : Str} (hx : PyData.strOk x = true) (hy : PyData.strOk y = true) : eqD (.str x) (.str y) S = .ok (.bl (x == y)) S := by
  simp only [eqD, toP]
  simp [SeqAt.shaped, PyData.eqv, PyData.canLay0, PyData.depth, hx, hy]
end
@[simp] theorem len_t {l : List D} : lenD [.tup l] S = .ok (.int l.length) S := id rfl
theorem len_l {k : Nat} {c : Cell} (h : S[k]? = some c) : lenD [.lst k] S = .ok (.int c.xs.length) S := by
  show (match S[k]? with | some c => Out.ok (D.int c.xs.length) S | none => .bad) = _
  rw [h]
theorem get_l {k : Nat} {c : Cell} {i : Int} {d : D} (h : S[k]? = some c) (e : atI c.xs i = some d) : getD (.lst k) (.int i) S = .ok d S := by
  show (match S[k]? with | some c => (match atI c.xs i with | some d => Out.ok d S | none => .bad) | none => .bad) = _
  rw [h]
  show (match atI c.xs i with | some d => Out.ok d S | none => .bad) = _
  rw [e]
theorem get_t {l : List D} {i : Int} {d : D} (e : atI l i = some d) : getD (.tup l) (.int i) S = .ok d S := by
  show (match atI l i with | some d => Out.ok d S | none => .bad) = _
  rw [e]
theorem atI_nn {α : Type} {l : List α} {i : Int} {d : α} (h0 : 0 ≤ i) (e : l[i.toNat]? = some d) : atI l i = some d := by
  unfold atI ixN
  have : i.toNat < l.length := (List.getElem?_eq_some_iff.mp e).1
  rw [if_pos h0, if_pos (by omega)]
  exact e
theorem set_l {k : Nat} {xs : List D} {i : Int} {d : D} (h : S[k]? = some ⟨false, xs⟩) (h0 : 0 ≤ i) (h1 : i < xs.length) : setD (.lst k) (.int i) d S = some (S.set k ⟨false, xs.set i.toNat d⟩) := by
  show (match S[k]? with | some c => (match ixN c.xs.length i with | some j => if c.fz = false then some (S.set k ⟨false, c.xs.set j d⟩) else none | none => none) | none => none) = _
  rw [h]
  show (match ixN xs.length i with | some j => if false = false then some (S.set k ⟨false, xs.set j d⟩) else none | none => none) = _
  unfold ixN
  rw [if_pos h0, if_pos h1]
  rfl
@[simp] theorem sum_t {l : List Int} : sumD [.tup (l.map D.int)] S = .ok (.int l.sum) S := by
  have : ∀ l : List Int, intsOf (l.map D.int) = some l := fun l => by
    induction l with
    | nil => rfl
    | cons a r ih => show (intsOf (r.map D.int)).map (a :: ·) = _; rw [ih]; rfl
  show (match (some (l.map D.int)).bind intsOf with | some ns => Out.ok (D.int ns.sum) S | none => .bad) = _
  rw [Option.bind_some, this]
end
end DL
set_option Elab.async false
set_option linter.all false
set_option maxRecDepth 100000
namespace Law
open PySem PySem.Spec PyProof.Rows L2 DL
def fin (o : OS) : Out D := match o with
  | .rt d S' => .ok d S'
  | .nx _ S' => .ok .non S'
  | .exc x _ S' => .exc x S'
  | _ => .bad
theorem fnB_ap {m : Nat} {b : Sv} {ds : List D} {S : Sto} : fnB m b ds S = fin (b (ds.map some ++ List.replicate (m - ds.length) none) S) := id rfl
@[simp] theorem fin_rt {d : D} {S : Sto} : fin (.rt d S) = .ok d S := id rfl
theorem fin_nx {f g : Sv} {ρ ρ' : Lc} {S S' : Sto} (h : f ρ S = .nx ρ' S') : fin (sq f g ρ S) = fin (g ρ' S') := by rw [sq_ap, h]
theorem fin_ret {f g : Sv} {ρ : Lc} {S S' : Sto} {d : D} (h : f ρ S = .rt d S') : fin (sq f g ρ S) = .ok d S' := by rw [sq_ap, h]; rfl
structure Dp (S : Sto) (t k : Nat) (n : Nat) : Prop where
  ex : ∃ (a b : Int) (xs : List Int), S[t]? = some ⟨false, [.lst k, .int a, .int b]⟩ ∧ S[k]? = some ⟨false, xs.map D.int⟩ ∧ 0 ≤ a ∧ a ≤ n
  ne : t ≠ k
structure Kp (S S' : Sto) (t k : Nat) : Prop where
  len : S.length ≤ S'.length
  get : ∀ i, i < S.length → i ≠ t → i ≠ k → S'[i]? = S[i]?
theorem Kp.refl {S : Sto} {t k : Nat} : Kp S S t k := ⟨Nat.le_refl _, fun _ _ _ _ => rfl⟩
theorem Kp.trans {S S1 S2 : Sto} {t k : Nat} (a : Kp S S1 t k) (b : Kp S1 S2 t k) : Kp S S2 t k := ⟨Nat.le_trans a.len b.len, fun i h h1 h2 => (b.get i (Nat.lt_of_lt_of_le h a.len) h1 h2).trans (a.get i h h1 h2)⟩
theorem Kp.set {S : Sto} {t k j : Nat} {c : Cell} (h : j = t ∨ j = k) : Kp S (S.set j c) t k := ⟨by simp, fun i _ h1 h2 => by
  rw [List.getElem?_set_ne]
  rcases h with h | h
  · rw [h]; exact Ne.symm h1
  · rw [h]; exact Ne.symm h2⟩
theorem Kp.app {S : Sto} {t k : Nat} {c : Cell} : Kp S (S ++ [c]) t k := ⟨by simp, fun i h _ _ => by rw [List.getElem?_append_left h]⟩
theorem Kp.at {S S' : Sto} {t k q : Nat} {c : Cell} (a : Kp S S' t k) (e : S[q]? = some c) (h1 : q ≠ t) (h2 : q ≠ k) : S'[q]? = some c := (a.get q (List.getElem?_eq_some_iff.mp e).1 h1 h2).trans e
theorem app_at {S : Sto} {c : Cell} : (S ++ [c])[S.length]? = some c := by rw [List.getElem?_append_right (Nat.le_refl _)]; simp
theorem app_old {S : Sto} {c d : Cell} {q : Nat} (e : S[q]? = some d) : (S ++ [c])[q]? = some d := by
  rw [List.getElem?_append_left (List.getElem?_eq_some_iff.mp e).1]; exact e
theorem Dp.app {S : Sto} {t k n : Nat} {c : Cell} (h : Dp S t k n) : Dp (S ++ [c]) t k n := by
  obtain ⟨⟨a, b, xs, e1, e2, h⟩, ne⟩ := h
  exact ⟨⟨a, b, xs, app_old e1, app_old e2, h⟩, ne⟩
theorem Dp.lt {S : Sto} {t k n : Nat} (h : Dp S t k n) : t < S.length ∧ k < S.length := by
  obtain ⟨⟨a, b, xs, e1, e2, h⟩, ne⟩ := h
  exact ⟨(List.getElem?_eq_some_iff.mp e1).1, (List.getElem?_eq_some_iff.mp e2).1⟩
theorem Dp.set {S : Sto} {t k q n : Nat} {c : Cell} (h : Dp S t k n) (h1 : q ≠ t) (h2 : q ≠ k) : Dp (S.set q c) t k n := by
  obtain ⟨⟨a, b, xs, e1, e2, h⟩, ne⟩ := h
  exact ⟨⟨a, b, xs, by rw [List.getElem?_set_ne h1]; exact e1, by rw [List.getElem?_set_ne h2]; exact e2, h⟩, ne⟩
theorem Dp.mono {S : Sto} {t k n m : Nat} (h : Dp S t k n) (hm : n ≤ m) : Dp S t k m := by
  obtain ⟨⟨a, b, xs, e1, e2, h0, h1⟩, ne⟩ := h
  exact ⟨⟨a, b, xs, e1, e2, h0, by omega⟩, ne⟩
def dr_b : Sv := (sq (sif (ta (tb (o2 ltD (vr 3) (b1 lenD (ac (o2 DL.getD (vr 0) (cn (.int 0))) an)))) (tb (o2 geD (vr 4) (o2 powD (cn (.int 10)) (cn (.int 18))))))
    (sq (ss (o2 divD2 (vr 4) (vr 1)) (vr 0) (cn (.int 2)) setD)
    (sret (o2 modD (vr 4) (vr 1))))
    DL.skip)
    (sq (sa (o2 modD (o2 mulD (o2 addD (o2 modD (vr 4) (cn (.int 1000003))) (cn (.int 1))) (o2 addD (o2 addD (o2 mulD (o2 mulD (cn (.int 7919)) (vr 3)) (vr 3)) (o2 mulD (cn (.int 104729)) (vr 3))) (cn (.int 12345)))) (cn (.int 2147483647))) (gn 5))
    (sq (sa (o2 modD (o2 addD (o2 addD (o2 mulD (vr 5) (vr 5)) (o2 mulD (cn (.int 48271)) (vr 3))) (o2 modD (vr 4) (cn (.int 65537)))) (cn (.int 2147483629))) (gn 5))
    (sret (o2 modD (o2 divD2 (vr 5) (cn (.int 8))) (vr 1))))))
theorem drb_ok {S : Sto} {t k n : Nat} {m a b c : Int} {xs : List Int} {g2 : Option D} (e1 : S[t]? = some ⟨false, [.lst k, .int (a + 1), .int b]⟩) (e2 : S[k]? = some ⟨false, xs.map D.int⟩) (ne : t ≠ k) (ha : 0 ≤ a) (han : a ≤ n) (hn : n < 2 ^ 60) (hm : 0 < m) (hm2 : m < 2 ^ 200) :
    ∃ r S', fin (dr_b [some (.lst t), some (.int m), g2, some (.int a), some (.int c), none] S) = .ok (.int r) S' ∧ 0 ≤ r ∧ r < m ∧ Dp S' t k (n + 1) ∧ Kp S S' t k := by
  have g0 : DL.getD (.lst t) (.int 0) S = .ok (.lst k) S := get_l e1 rfl
  have ln : lenD [.lst k] S = .ok (.int xs.length) S := by rw [len_l e2]; simp
  have lt : t < S.length := (List.getElem?_eq_some_iff.mp e1).1
  have s2 : setD (.lst t) (.int 2) (.int (c / m)) S = some (S.set t ⟨false, [.lst k, .int (a + 1), .int (c / m)]⟩) := set_l e1 (by decide) (by simp)
  by_cases h : a < xs.length ∧ 1000000000000000000 ≤ c
  · refine ⟨c % m, S.set t ⟨false, [.lst k, .int (a + 1), .int (c / m)]⟩, ?_, Int.emod_nonneg _ (by omega), Int.emod_lt_of_pos _ hm, ⟨⟨a + 1, c / m, xs, List.getElem?_set_self lt, by rw [List.getElem?_set_ne ne]; exact e2, by omega, by omega⟩, ne⟩, Kp.set (.inl rfl)⟩
    unfold dr_b
    exact fin_ret (by simp [g0, ln, h.1, h.2, div_ii hm hm2, s2, mod_ii hm])
  · have sqr : ∀ x : Int, mulD (.int (x % 2147483647)) (.int (x % 2147483647)) S = .ok (.int (x % 2147483647 * (x % 2147483647))) S := fun x => mul_r (by omega) (by omega)
    have m1 : mulD (.int (7919 * a)) (.int a) S = .ok (.int (7919 * a * a)) S := mul_r (by omega) (by omega)
    have m2 : ∀ y : Int, mulD (.int (c % 1000003 + 1)) (.int y) S = .ok (.int ((c % 1000003 + 1) * y)) S := fun y => mul_l (by omega) (by omega)
    obtain ⟨z, hz⟩ : ∃ z : Int, z = ((c % 1000003 + 1) * (7919 * a * a + 104729 * a + 12345)) % 2147483647 := ⟨_, rfl⟩
    obtain ⟨y, hy⟩ : ∃ y : Int, y = (z * z + 48271 * a + c % 65537) % 2147483629 := ⟨_, rfl⟩
    have mz : mulD (.int z) (.int z) S = .ok (.int (z * z)) S := by rw [hz]; exact sqr _
    have e1' : sif (ta (tb (o2 ltD (vr 3) (b1 lenD (ac (o2 DL.getD (vr 0) (cn (.int 0))) an)))) (tb (o2 geD (vr 4) (o2 powD (cn (.int 10)) (cn (.int 18)))))) (sq (ss (o2 divD2 (vr 4) (vr 1)) (vr 0) (cn (.int 2)) setD) (sret (o2 modD (vr 4) (vr 1)))) DL.skip [some (.lst t), some (.int m), g2, some (.int a), some (.int c), none] S = .nx [some (.lst t), some (.int m), g2, some (.int a), some (.int c), none] S := by
      by_cases c1 : a < xs.length
      · have c2 : ¬ 1000000000000000000 ≤ c := fun z => h ⟨c1, z⟩
        simp [g0, ln, c1, c2]
      · simp [g0, ln, c1]
    refine ⟨y / 8 % m, S, ?_, Int.emod_nonneg _ (by omega), Int.emod_lt_of_pos _ hm, ⟨⟨a + 1, b, xs, e1, e2, by omega, by omega⟩, ne⟩, .refl⟩
    unfold dr_b
    rw [fin_nx e1']
    refine (fin_nx (ρ' := [some (.lst t), some (.int m), g2, some (.int a), some (.int c), some (.int z)]) (S' := S) (by rw [hz]; simp [mod_ii, mul_l, m1, m2])).trans ?_
    refine (fin_nx (ρ' := [some (.lst t), some (.int m), g2, some (.int a), some (.int c), some (.int y)]) (S' := S) (by rw [hy]; simp [mod_ii, mul_l, mz])).trans ?_
    simp [div_ii, mod_ii hm]
theorem draw_ok {S : Sto} {t k n : Nat} {m : Int} (h : Dp S t k n) (hn : n < 2 ^ 60) (hm : 0 < m) (hm2 : m < 2 ^ 200) : ∃ r S', f__law_draw [.lst t, .int m] S = .ok (.int r) S' ∧ 0 ≤ r ∧ r < m ∧ Dp S' t k (n + 1) ∧ Kp S S' t k := by
  obtain ⟨⟨a, b, xs, e1, e2, ha, han⟩, ne⟩ := h
  have lt : t < S.length := (List.getElem?_eq_some_iff.mp e1).1
  have g1 : DL.getD (.lst t) (.int 1) S = .ok (.int a) S := get_l e1 rfl
  have g2 : DL.getD (.lst t) (.int 2) S = .ok (.int b) S := get_l e1 rfl
  have s1 : setD (.lst t) (.int 1) (.int (a + 1)) S = some (S.set t ⟨false, [.lst k, .int (a + 1), .int b]⟩) := set_l e1 (by decide) (by simp)
  have s2 : setD (.lst t) (.int 2) (.int (b / m)) S = some (S.set t ⟨false, [.lst k, .int a, .int (b / m)]⟩) := set_l e1 (by decide) (by simp)
  have hf : ∀ X, f__law_draw [.lst t, .int m] S = X ↔ fin (b__law_draw [some (.lst t), some (.int m), none, none, none, none] S) = X := fun X => by rw [show f__law_draw [.lst t, .int m] S = fin (b__law_draw [some (.lst t), some (.int m), none, none, none, none] S) from fnB_ap (m := 6) (b := b__law_draw)]
  by_cases c : 0 < b
  · refine ⟨b % m, S.set t ⟨false, [.lst k, .int a, .int (b / m)]⟩, (hf _).mpr ?_, Int.emod_nonneg _ (by omega), Int.emod_lt_of_pos _ hm, ⟨⟨a, b / m, xs, List.getElem?_set_self lt, by rw [List.getElem?_set_ne ne]; exact e2, ha, by omega⟩, ne⟩, Kp.set (.inl rfl)⟩
    unfold b__law_draw
    exact fin_ret (by simp [g2, c, mod_ii hm, div_ii hm hm2, s2])
  · have e1' : (S.set t ⟨false, [.lst k, .int (a + 1), .int b]⟩)[t]? = some ⟨false, [.lst k, .int (a + 1), .int b]⟩ := List.getElem?_set_self lt
    have e2' : (S.set t ⟨false, [.lst k, .int (a + 1), .int b]⟩)[k]? = some ⟨false, xs.map D.int⟩ := by rw [List.getElem?_set_ne ne]; exact e2
    have kp : Kp S (S.set t ⟨false, [.lst k, .int (a + 1), .int b]⟩) t k := Kp.set (.inl rfl)
    generalize S.set t ⟨false, [.lst k, .int (a + 1), .int b]⟩ = S1 at *
    have g0 : DL.getD (.lst t) (.int 0) S1 = .ok (.lst k) S1 := get_l e1' rfl
    have ln : lenD [.lst k] S1 = .ok (.int xs.length) S1 := by rw [len_l e2']; simp
    obtain ⟨cl', ec⟩ : ∃ cl' : Int, sif (tb (o2 gtD (b1 lenD (ac (o2 DL.getD (vr 0) (cn (.int 0))) an)) (cn (.int 0)))) (sa (o2 DL.getD (o2 DL.getD (vr 0) (cn (.int 0))) (o2 modD (vr 3) (b1 lenD (ac (o2 DL.getD (vr 0) (cn (.int 0))) an)))) (gn 4)) DL.skip [some (.lst t), some (.int m), none, some (.int a), some (.int 0), none] S1 = .nx [some (.lst t), some (.int m), none, some (.int a), some (.int cl'), none] S1 := by
      by_cases c2 : 0 < xs.length
      · have c3 : (0 : Int) < xs.length := by omega
        have lti : (a % (xs.length : Int)).toNat < xs.length := by
          have := Int.emod_lt_of_pos a c3
          have := Int.emod_nonneg a (by omega : (xs.length : Int) ≠ 0)
          omega
        have gi : DL.getD (.lst k) (.int (a % (xs.length : Int))) S1 = .ok (.int xs[(a % (xs.length : Int)).toNat]) S1 := get_l e2' (atI_nn (Int.emod_nonneg a (by omega)) (by simp [lti]))
        exact ⟨xs[(a % (xs.length : Int)).toNat], by simp [g0, ln, c2, mod_ii c3, gi]⟩
      · exact ⟨0, by simp [g0, ln, c2]⟩
    obtain ⟨r, S', h1, h2, h3, h4, h5⟩ := drb_ok (c := cl') (g2 := none) e1' e2' ne ha han hn hm hm2
    refine ⟨r, S', (hf _).mpr ?_, h2, h3, h4, kp.trans h5⟩
    unfold b__law_draw
    refine (fin_nx (ρ' := [some (.lst t), some (.int m), none, none, none, none]) (S' := S) (by simp [g2, c])).trans ?_
    refine (fin_nx (ρ' := [some (.lst t), some (.int m), none, some (.int a), none, none]) (S' := S) (by simp [g1])).trans ?_
    refine (fin_nx (ρ' := [some (.lst t), some (.int m), none, some (.int a), none, none]) (S' := S1) (by simp [s1])).trans ?_
    refine (fin_nx (ρ' := [some (.lst t), some (.int m), none, some (.int a), some (.int 0), none]) (S' := S1) (by simp)).trans ?_
    rw [fin_nx ec]
    exact h1
end Law
set_option Elab.async false
set_option linter.all false
set_option maxRecDepth 100000
namespace Law
open PySem PySem.Spec PyProof.Rows L2 DL
theorem pick {S S1 : Sto} {t k : Nat} {xs : List D} {r : Int} {x : D} (s : Kp (S ++ [⟨false, xs⟩]) S1 t k) (h : t < S.length ∧ k < S.length) (e : atI xs r = some x) : DL.getD (.lst S.length) (.int r) S1 = .ok x S1 :=
  get_l (c := ⟨false, xs⟩) (s.at app_at (by omega) (by omega)) e
theorem pick_ok {S : Sto} {t k n : Nat} {xs : List D} {m : Int} (h : Dp S t k n) (hn : n < 2 ^ 60) (hm : m = xs.length) (h0 : 0 < xs.length) (h1 : xs.length < 1000) : ∃ r x S1, f__law_draw [.lst t, .int m] (S ++ [⟨false, xs⟩]) = .ok (.int r) S1 ∧ DL.getD (.lst S.length) (.int r) S1 = .ok x S1 ∧ x ∈ xs ∧ Dp S1 t k (n + 1) ∧ Kp S S1 t k := by
  obtain ⟨r, S1, e1, r0, r1, d1, k1⟩ := draw_ok (m := m) (h.app (c := ⟨false, xs⟩)) hn (by omega) (by omega)
  have hlt : r.toNat < xs.length := by omega
  have ea : atI xs r = some xs[r.toNat] := atI_nn r0 (by simp [hlt])
  exact ⟨r, _, S1, e1, pick k1 h.lt ea, List.getElem_mem hlt, d1, Kp.app.trans k1⟩
inductive Pl where
  | e | c | p (br de ro : Int) (pr : D)
def Pl.toD : Pl → D
  | .e => .tup [.str "end"]
  | .c => .tup [.str "chamber"]
  | .p br de ro pr => .tup [.str "pound", .int br, .int de, .int ro, pr]
def Pl.ok : Pl → Prop
  | .p br de ro pr => 1 ≤ br ∧ br ≤ 9 ∧ 0 ≤ de ∧ de ≤ br ∧ 1 ≤ ro ∧ ro ≤ 4 ∧ (pr = .non ∨ ∃ i, pr = .int i ∧ 0 ≤ i ∧ i ≤ 99)
  | _ => True
theorem pound_ok {S : Sto} {t k n : Nat} (h : Dp S t k n) (hn : n < 2 ^ 59) : ∃ br de ro pr S', f__law_pound [.lst t] S = .ok (Pl.toD (.p br de ro pr)) S' ∧ Pl.ok (.p br de ro pr) ∧ Dp S' t k (n + 9) ∧ Kp S S' t k := by
  obtain ⟨a1, S1, e1, a10, a11, d1, k1⟩ := draw_ok (m := 9) h (by omega) (by decide) (by decide)
  obtain ⟨r2, x2, S2, e2, p2, m2, d2, k2⟩ := pick_ok (xs := [.int 1, .int 2, .int 3, .int (1 + a1)]) (m := 4) d1 (by omega) rfl (by simp) (by simp)
  obtain ⟨br, hbr, br0, br1⟩ : ∃ i : Int, x2 = .int i ∧ 1 ≤ i ∧ i ≤ 9 := by
    simp only [List.mem_cons, List.mem_nil_iff, or_false] at m2
    rcases m2 with rfl | rfl | rfl | rfl
    · exact ⟨_, rfl, by decide, by decide⟩
    · exact ⟨_, rfl, by decide, by decide⟩
    · exact ⟨_, rfl, by decide, by decide⟩
    · exact ⟨_, rfl, by omega, by omega⟩
  subst hbr
  obtain ⟨a3, S3, e3, a30, a31, d3, k3⟩ := draw_ok (m := 10) d2 (by omega) (by decide) (by decide)
  obtain ⟨r4, x4, S4, e4, p4, m4, d4, k4⟩ := pick_ok (xs := [.int 0, .int 0, .int 1, .int a3]) (m := 4) d3 (by omega) rfl (by simp) (by simp)
  obtain ⟨de, hde, de0⟩ : ∃ i : Int, x4 = .int i ∧ 0 ≤ i := by
    simp only [List.mem_cons, List.mem_nil_iff, or_false] at m4
    rcases m4 with rfl | rfl | rfl | rfl
    · exact ⟨_, rfl, by decide⟩
    · exact ⟨_, rfl, by decide⟩
    · exact ⟨_, rfl, by decide⟩
    · exact ⟨_, rfl, a30⟩
  subst hde
  obtain ⟨a5, S5, e5, a50, a51, d5, k5⟩ := draw_ok (m := 4) d4 (by omega) (by decide) (by decide)
  obtain ⟨r6, x6, S6, e6, p6, m6, d6, k6⟩ := pick_ok (xs := [.int 1, .int 2, .int (1 + a5)]) (m := 3) d5 (by omega) rfl (by simp) (by simp)
  obtain ⟨ro, hro, ro0, ro1⟩ : ∃ i : Int, x6 = .int i ∧ 1 ≤ i ∧ i ≤ 4 := by
    simp only [List.mem_cons, List.mem_nil_iff, or_false] at m6
    rcases m6 with rfl | rfl | rfl
    · exact ⟨_, rfl, by decide, by decide⟩
    · exact ⟨_, rfl, by decide, by decide⟩
    · exact ⟨_, rfl, by omega, by omega⟩
  subst hro
  obtain ⟨a7, S7, e7, a70, a71, d7, k7⟩ := draw_ok (m := 100) d6 (by omega) (by decide) (by decide)
  obtain ⟨a8, S8, e8, a80, a81, d8, k8⟩ := draw_ok (m := 5) d7 (by omega) (by decide) (by decide)
  obtain ⟨r9, pr, S9, e9, p9, m9, d9, k9⟩ := pick_ok (xs := [.non, .int a7, .int (1 + a8), .int 0]) (m := 4) d8 (by omega) rfl (by simp) (by simp)
  have hpr : pr = .non ∨ ∃ i : Int, pr = .int i ∧ 0 ≤ i ∧ i ≤ 99 := by
    simp only [List.mem_cons, List.mem_nil_iff, or_false] at m9
    rcases m9 with rfl | rfl | rfl | rfl
    · exact .inl rfl
    · exact .inr ⟨_, rfl, by omega, by omega⟩
    · exact .inr ⟨_, rfl, by omega, by omega⟩
    · exact .inr ⟨_, rfl, by omega, by omega⟩
  refine ⟨br, min br de, ro, pr, S9, ?_, ⟨br0, br1, by omega, by omega, ro0, ro1, hpr⟩, d9, k1.trans (k2.trans (k3.trans (k4.trans (k5.trans (k6.trans (k7.trans (k8.trans k9)))))))⟩
  simp [f__law_pound, fnB, b__law_pound, e1, e2, p2, e3, e4, p4, e5, e6, p6, e7, e8, e9, p9, Pl.toD]
theorem app_l {S : Sto} {q : Nat} {xs : List D} {d : D} (e : S[q]? = some ⟨false, xs⟩) (h : xs.length < 1000000) : appD (.lst q) [d] S = .ok .non (S.set q ⟨false, xs ++ [d]⟩) := by
  simp only [appD, e]
  simp [h]
theorem isL {S : Sto} {q : Nat} {c : Cell} (e : S[q]? = some c) : isLst (.lst q) S = true := by simp only [isLst, e]
end Law
set_option Elab.async false
set_option linter.all false
set_option maxRecDepth 100000
namespace Law
open PySem PySem.Spec PyProof.Rows L2 DL
theorem for_inv {nxt : Nat → Sto → Option D} {g : Tg} {b : Sv} {l : List D} (I : Nat → Lc → Sto → Prop) (hn : ∀ k ρ S, I k ρ S → nxt k S = l[k]?) (hs : ∀ k d ρ S, l[k]? = some d → I k ρ S → ∃ ρ1 ρ2 S2, g d ρ = some ρ1 ∧ b ρ1 S = .nx ρ2 S2 ∧ I (k + 1) ρ2 S2) :
    ∀ (n k : Nat) (ρ : Lc) (S : Sto), k ≤ l.length → I k ρ S → l.length < n + k → ∃ ρ' S', forN nxt g b n k ρ S = .nx ρ' S' ∧ I l.length ρ' S'
  | 0, k, ρ, S, h1, _, h2 => by omega
  | n + 1, k, ρ, S, h1, hI, h2 => by
    unfold forN
    rw [hn k ρ S hI]
    cases z : l[k]? with
    | none =>
      have : k = l.length := by have := List.getElem?_eq_none_iff.mp z; omega
      subst this
      exact ⟨ρ, S, rfl, hI⟩
    | some d =>
      obtain ⟨ρ1, ρ2, S2, h3, h4, h5⟩ := hs k d ρ S z hI
      have hk : k < l.length := (List.getElem?_eq_some_iff.mp z).1
      obtain ⟨ρ', S', h6, h7⟩ := for_inv I hn hs n (k + 1) ρ2 S2 hk h5 (by omega)
      refine ⟨ρ', S', ?_, h7⟩
      simp only [h3, h4]
      exact h6
def srcT (l : List D) : Src := ⟨fun k _ => l[k]?, l.length + 1⟩
theorem fuelT {l : List D} : l.length < (srcT l).fuel + 0 := Nat.lt_succ_self _
theorem rng_get {n k : Nat} {S : Sto} : (rsrc 0 n).nxt k S = ((List.range n).map fun k : Nat => D.int (k : Int))[k]? := by
  show (if k < n then some (D.int (0 + k)) else none) = _
  rw [List.getElem?_map]
  by_cases c : k < n
  · rw [if_pos c, List.getElem?_range c]; simp
  · rw [if_neg c, List.getElem?_eq_none (by simp; omega)]; rfl
theorem rng_of {n k : Nat} {d : D} (h : ((List.range n).map fun k : Nat => D.int (k : Int))[k]? = some d) : k < n ∧ d = .int k := by
  have hk : k < n := by have := (List.getElem?_eq_some_iff.mp h).1; simpa using this
  rw [List.getElem?_map, List.getElem?_range hk] at h
  exact ⟨hk, (Option.some.inj h).symm⟩
theorem ir1_ok {f : Ev (List D)} {ρ : Lc} {S S' : Sto} {n : Nat} (h : f ρ S = .ok [.int n] S') (hn : n ≤ 1000000) : ir1 f ρ S = .ok (rsrc 0 n) S' := by
  unfold ir1
  rw [h]
  show (if -1000000000000 ≤ (n : Int) ∧ (n : Int) ≤ 1000000000000 then Out.ok (rsrc 0 (n : Int).toNat) S' else .bad) = _
  rw [if_pos (by omega)]; rfl
theorem Kp.setq {S0 S : Sto} {t k q : Nat} {c : Cell} (a : Kp S0 S t k) (h : S0.length ≤ q) : Kp S0 (S.set q c) t k := ⟨by simp; exact a.len, fun i hi h1 h2 => by
  rw [List.getElem?_set_ne (by omega)]; exact a.get i hi h1 h2⟩
theorem add_ll {S : Sto} {i j : Nat} {a b : List D} (h1 : S[i]? = some ⟨false, a⟩) (h2 : S[j]? = some ⟨false, b⟩) (h : a.length + b.length ≤ 1000000) : addD (.lst i) (.lst j) S = .ok (.lst S.length) (S ++ [⟨false, a ++ b⟩]) := by
  simp only [addD, h1, h2]
  simp [h]
theorem mul_rep {S : Sto} {i : Nat} {d : D} {n : Nat} (e : S[i]? = some ⟨false, [d]⟩) (hn : n ≤ 1000) : mulD (.lst i) (.int n) S = .ok (.lst S.length) (S ++ [⟨false, List.replicate n d⟩]) := by
  have fl : ∀ n : Nat, (List.replicate n [d]).flatten = List.replicate n d := fun n => by
    induction n with
    | zero => rfl
    | succ n ih => rw [List.replicate_succ, List.flatten_cons, ih]; rfl
  simp only [mulD, e]
  rw [if_pos (by simp; omega)]
  simp [fl]
theorem tup_l {S : Sto} {q : Nat} {c : Cell} (e : S[q]? = some c) : tupD [.lst q] S = .ok (.tup c.xs) S := by
  simp only [tupD, e]
def Pl.isC : Pl → Bool
  | .c => true
  | _ => false
def Pl.isE : Pl → Bool
  | .e => true
  | _ => false
theorem stok (s : String) : PyData.strOk (Str.ofString s) = true := by
  unfold PyData.strOk
  have hc : ∀ c : Char, c.toNat < 1114112 := fun c => by
    rcases c.valid with h | ⟨_, h⟩
    · exact Nat.lt_of_lt_of_le h (by decide)
    · exact h
  rw [Str.ofString_eq_toList]
  simp [hc]
theorem eq_cham {p : Pl} {S : Sto} (h : p.ok) : eqD p.toD (.tup [.str "chamber"]) S = .ok (.bl p.isC) S := by
  have n1 : (Str.ofString "end" == Str.ofString "chamber") = false := by decide +kernel
  have n2 : (Str.ofString "pound" == Str.ofString "chamber") = false := by decide +kernel
  cases p with
  | e => simp [Pl.toD, eqD, toP, mapO, SeqAt.shaped, PyData.canLay0, PyData.canLayAll0, PyData.depth, PyData.depthAll, stok, PyData.eqv, PyData.eqvAll, n1, Pl.isC]
  | c => simp [Pl.toD, eqD, toP, mapO, SeqAt.shaped, PyData.canLay0, PyData.canLayAll0, PyData.depth, PyData.depthAll, stok, PyData.eqv, PyData.eqvAll, Pl.isC]
  | p br de ro pr =>
    obtain ⟨_, _, _, _, _, _, h⟩ := h
    rcases h with rfl | ⟨i, rfl, _⟩
    · simp [Pl.toD, eqD, toP, mapO, SeqAt.shaped, PyData.canLay0, PyData.canLayAll0, PyData.depth, PyData.depthAll, stok, PyData.eqv, PyData.eqvAll, n2, Pl.isC]
    · simp [Pl.toD, eqD, toP, mapO, SeqAt.shaped, PyData.canLay0, PyData.canLayAll0, PyData.depth, PyData.depthAll, stok, PyData.eqv, PyData.eqvAll, n2, Pl.isC]
theorem eq_end {p : Pl} {S : Sto} (h : p.ok) : eqD p.toD (.tup [.str "end"]) S = .ok (.bl p.isE) S := by
  have n1 : (Str.ofString "chamber" == Str.ofString "end") = false := by decide +kernel
  have n2 : (Str.ofString "pound" == Str.ofString "end") = false := by decide +kernel
  cases p with
  | e => simp [Pl.toD, eqD, toP, mapO, SeqAt.shaped, PyData.canLay0, PyData.canLayAll0, PyData.depth, PyData.depthAll, stok, PyData.eqv, PyData.eqvAll, Pl.isE]
  | c => simp [Pl.toD, eqD, toP, mapO, SeqAt.shaped, PyData.canLay0, PyData.canLayAll0, PyData.depth, PyData.depthAll, stok, PyData.eqv, PyData.eqvAll, n1, Pl.isE]
  | p br de ro pr =>
    obtain ⟨_, _, _, _, _, _, h⟩ := h
    rcases h with rfl | ⟨i, rfl, _⟩
    · simp [Pl.toD, eqD, toP, mapO, SeqAt.shaped, PyData.canLay0, PyData.canLayAll0, PyData.depth, PyData.depthAll, stok, PyData.eqv, PyData.eqvAll, n2, Pl.isE]
    · simp [Pl.toD, eqD, toP, mapO, SeqAt.shaped, PyData.canLay0, PyData.canLayAll0, PyData.depth, PyData.depthAll, stok, PyData.eqv, PyData.eqvAll, n2, Pl.isE]
theorem canal_step {S0 S : Sto} {t k q : Nat} {n : Nat} {most many : Int} {ps : List Pl} {i : Nat} {g4 g5 : Option D} (hd : Dp S t k n) (hk : Kp S0 S t k) (hq : S0.length ≤ q) (hqt : q ≠ t) (hqk : q ≠ k) (hn : n < 2 ^ 58) (eq' : S[q]? = some ⟨false, ps.map Pl.toD⟩) (hp : ∀ p ∈ ps, p.ok) (hne : ps ≠ []) (hl : ps.length < 1000) :
    ∃ p S' g5', lb__law_canal_1 [some (.lst t), some (.int most), some (.int many), some (.lst q), some (.int i), g5, none, none] S = .nx [some (.lst t), some (.int most), some (.int many), some (.lst q), some (.int i), g5', none, none] S' ∧ Pl.ok p ∧ p.isE = false ∧ (p.isC = true ∨ ((ps.getLast hne).isC = true ∧ (i : Int) < many - 1)) ∧ S'[q]? = some ⟨false, (ps ++ [p]).map Pl.toD⟩ ∧ Dp S' t k (n + 10) ∧ Kp S0 S' t k := by
  have lq : q < S.length := (List.getElem?_eq_some_iff.mp eq').1
  obtain ⟨b, eb, hb⟩ : ∃ b : Bool, sa (va (o2 ltD (cn (.int 0)) (vr 4)) (va (o2 ltD (vr 4) (o2 subD (vr 2) (cn (.int 1)))) (o2 eqD (o2 DL.getD (vr 3) (o1 negD (cn (.int 1)))) (tp (ac (cn (.str "chamber")) an))))) (gn 5) [some (.lst t), some (.int most), some (.int many), some (.lst q), some (.int i), g5, none, none] S = .nx [some (.lst t), some (.int most), some (.int many), some (.lst q), some (.int i), some (.bl b), none, none] S ∧ (b = true → (ps.getLast hne).isC = true ∧ (i : Int) < many - 1) := by
    have hlast : DL.getD (.lst q) (.int (-1)) S = .ok (Pl.toD (ps.getLast hne)) S := by
      refine get_l eq' ?_
      have : 0 < ps.length := List.length_pos_iff.mpr hne
      show (ixN (ps.map Pl.toD).length (-1)).bind (fun j => (ps.map Pl.toD)[j]?) = _
      unfold ixN
      rw [if_neg (by decide), if_pos (by simp; omega), Option.bind_some]
      have : ((-1 : Int) + ((ps.map Pl.toD).length : Nat)).toNat = ps.length - 1 := by simp; omega
      rw [this, List.getElem?_map, List.getElem?_eq_getElem (by omega), List.getLast_eq_getElem]
      rfl
    have ec := eq_cham (S := S) (hp _ (List.getLast_mem hne))
    by_cases c1 : 0 < i
    · by_cases c2 : (i : Int) < many - 1
      · exact ⟨(ps.getLast hne).isC, by simp [c1, c2, hlast, ec], fun z => ⟨z, c2⟩⟩
      · exact ⟨false, by simp [c1, c2], fun z => nomatch z⟩
    · exact ⟨false, by simp [c1], fun z => nomatch z⟩
  have fin1 : ∀ (S1 : Sto) (m : Nat), Dp S1 t k m → m ≤ n + 1 → Kp S0 S1 t k → S1[q]? = some ⟨false, ps.map Pl.toD⟩ → ∃ S', sx (mt appD (vr 3) (ac (tp (ac (cn (.str "chamber")) an)) an)) [some (.lst t), some (.int most), some (.int many), some (.lst q), some (.int i), some (.bl b), none, none] S1 = .nx [some (.lst t), some (.int most), some (.int many), some (.lst q), some (.int i), some (.bl b), none, none] S' ∧ S'[q]? = some ⟨false, (ps ++ [Pl.c]).map Pl.toD⟩ ∧ Dp S' t k (n + 10) ∧ Kp S0 S' t k := by
    intro S1 m d1 hm k1 e1
    have ap := app_l (d := .tup [.str "chamber"]) e1 (by simp; omega)
    have lq1 : q < S1.length := (List.getElem?_eq_some_iff.mp e1).1
    refine ⟨S1.set q ⟨false, ps.map Pl.toD ++ [.tup [.str "chamber"]]⟩, ?_, ?_, (d1.set hqt hqk).mono (by omega), k1.setq hq⟩
    · simp [isL e1, ap]
    · rw [List.getElem?_set_self lq1, List.map_append]; rfl
  cases b with
  | false =>
    obtain ⟨S', e1, e2, e3, e4⟩ := fin1 S n hd (by omega) hk eq'
    refine ⟨.c, S', some (.bl false), ?_, trivial, rfl, .inl rfl, e2, e3, e4⟩
    unfold lb__law_canal_1
    rw [sq_ap, eb]
    simp only [sif_ap, ta_ap, tt_ap, vr_ap, bind_ok, List.getElem?_cons_zero, List.getElem?_cons_succ, truD, Bool.false_eq_true, if_false, bindS_ok]
    exact e1
  | true =>
    obtain ⟨r, S1, e1, r0, r1, d1, k1⟩ := draw_ok (m := 4) hd (by omega) (by decide) (by decide)
    have q1 := k1.at eq' hqt hqk
    by_cases c : 0 < r
    · obtain ⟨br, de, ro, pr, S2, e2, ok2, d2, k2⟩ := pound_ok d1 (by omega)
      have q2 := k2.at q1 hqt hqk
      have ap := app_l (d := Pl.toD (.p br de ro pr)) q2 (by simp; omega)
      have lq2 : q < S2.length := (List.getElem?_eq_some_iff.mp q2).1
      refine ⟨.p br de ro pr, S2.set q ⟨false, ps.map Pl.toD ++ [Pl.toD (.p br de ro pr)]⟩, some (.bl true), ?_, ok2, rfl, .inr (hb rfl), ?_, (d2.set hqt hqk).mono (by omega), ((hk.trans k1).trans k2).setq hq⟩
      · unfold lb__law_canal_1
        rw [sq_ap, eb]
        simp [truD, e1, c, isL q1, e2, ap]
      · rw [List.getElem?_set_self lq2, List.map_append]; rfl
    · obtain ⟨S', e4, e5, e6, e7⟩ := fin1 S1 (n + 1) d1 (by omega) (hk.trans k1) q1
      refine ⟨.c, S', some (.bl true), ?_, trivial, rfl, .inl rfl, e5, e6, e7⟩
      unfold lb__law_canal_1
      rw [sq_ap, eb]
      have ct : ta (tt (vr 5)) (tb (o2 gtD (cl 2 (noExc f__law_draw) (ac (vr 0) (ac (cn (.int 4)) an))) (cn (.int 0)))) [some (.lst t), some (.int most), some (.int many), some (.lst q), some (.int i), some (.bl true), none, none] S = .ok false S1 := by simp [truD, e1, c]
      simp only [sif_ap, ct, bindS_ok, Bool.false_eq_true, if_false]
      exact e4
end Law
set_option Elab.async false
set_option linter.all false
set_option maxRecDepth 100000
namespace Law
open PySem PySem.Spec PyProof.Rows L2 DL
theorem cbody_ok {a : Nat} {e : Ev D} {ρ : Lc} {S S2 : Sto} {d : D} {xs : List D} (h : e ρ S = .ok d S2) (q : S2[a]? = some ⟨false, xs⟩) (hl : xs.length < 1000000) : cbody a ttrue e ρ S = .nx ρ (S2.set a ⟨false, xs ++ [d]⟩) := by
  show bindS (ttrue ρ S) ρ _ = _
  show bindS (e ρ S) ρ _ = _
  rw [h]
  simp only [bindS_ok, q]
  rw [if_pos (by simp [hl])]
theorem cbody_no {a : Nat} {c : Ev Bool} {e : Ev D} {ρ : Lc} {S S2 : Sto} (h : c ρ S = .ok false S2) : cbody a c e ρ S = .nx ρ S2 := by
  unfold cbody
  rw [h]
  simp
theorem cbody_yes {a : Nat} {c : Ev Bool} {e : Ev D} {ρ : Lc} {S S1 S2 : Sto} {d : D} {xs : List D} (hc : c ρ S = .ok true S1) (h : e ρ S1 = .ok d S2) (q : S2[a]? = some ⟨false, xs⟩) (hl : xs.length < 1000000) : cbody a c e ρ S = .nx ρ (S2.set a ⟨false, xs ++ [d]⟩) := by
  unfold cbody
  rw [hc]
  simp only [bindS_ok, if_true, h, q]
  rw [if_pos (by simp [hl])]
theorem cmp_ok {f : Ev Src} {pk : List (Option Nat)} {g : Tg} {c : Ev Bool} {e : Ev D} {ρ ρ' : Lc} {S S1 S' : Sto} {s : Src} (h : f ρ S = .ok s S1) (l : forN s.nxt g (cbody S1.length c e) s.fuel 0 (pkS pk ρ) (S1 ++ [⟨false, []⟩]) = .nx ρ' S') : cmp f pk g c e ρ S = .ok (.lst S1.length) S' := by
  unfold cmp
  rw [h]
  simp only [bind_ok, l]
theorem ls1 {d : D} {ρ : Lc} {S : Sto} : ls (ac (cn d) an) ρ S = .ok (.lst S.length) (S ++ [⟨false, [d]⟩]) := by simp
def Adj (xs : List Pl) : Prop := ∀ i a b, xs[i]? = some a → xs[i + 1]? = some b → a.isC = true ∨ b.isC = true
theorem Adj.snoc {xs : List Pl} {p : Pl} (h : Adj xs) (hne : xs ≠ []) (hp : p.isC = true ∨ (xs.getLast hne).isC = true) : Adj (xs ++ [p]) := by
  intro i a b ha hb
  have h0 : 0 < xs.length := List.length_pos_iff.mpr hne
  by_cases c : i + 1 < xs.length
  · rw [List.getElem?_append_left (by omega)] at ha
    rw [List.getElem?_append_left c] at hb
    exact h i a b ha hb
  · have hl := (List.getElem?_eq_some_iff.mp hb).1
    have e : i + 1 = xs.length := by simp at hl; omega
    rw [e, List.getElem?_append_right (Nat.le_refl _)] at hb
    have hb : p = b := by simpa using hb
    subst hb
    rw [List.getElem?_append_left (by omega)] at ha
    have : a = xs.getLast hne := by
      rw [List.getLast_eq_getElem]
      have := (List.getElem?_eq_some_iff.mp ha).2
      rw [← this]
      congr 1
      omega
    rw [this]
    exact hp.symm
def GU (gs : List D) (m : Nat) : Prop := gs.length = m + 1 ∧ ∀ g ∈ gs, g = .str "up" ∨ g = .str "down"
theorem canal_ok {S : Sto} {t k n : Nat} {most : Int} (h : Dp S t k n) (hn : n < 2 ^ 57) (hm0 : 1 ≤ most) (hm1 : most ≤ 11) : ∃ (mid : List Pl) (gs : List D) (S' : Sto), f__law_canal [.lst t, .int most] S = .ok (.tup [.tup ((.e :: (mid ++ [.e])).map Pl.toD), .tup gs]) S' ∧ (∀ p ∈ mid, p.ok ∧ p.isE = false) ∧ Adj (Pl.e :: (mid ++ [Pl.e])) ∧ GU gs mid.length ∧ 1 ≤ mid.length ∧ mid.length ≤ 11 ∧ Dp S' t k (n + 200) ∧ Kp S S' t k := by
  obtain ⟨r1, S1, e1, r10, r11, d1, k1⟩ := draw_ok (m := most) h (by omega) (by omega) (by omega)
  obtain ⟨mn, hmn⟩ : ∃ m : Nat, 1 + r1 = m := ⟨(1 + r1).toNat, by omega⟩
  have lt1 := d1.lt
  have d2 := d1.app (c := ⟨false, [.tup [.str "end"]]⟩)
  have q2 : (S1 ++ [(⟨false, [.tup [.str "end"]]⟩ : Cell)])[S1.length]? = some ⟨false, [.tup [.str "end"]]⟩ := app_at
  have k2 : Kp S1 (S1 ++ [(⟨false, [.tup [.str "end"]]⟩ : Cell)]) t k := Kp.app
  generalize hS2 : S1 ++ [(⟨false, [.tup [.str "end"]]⟩ : Cell)] = S2 at *
  obtain ⟨ρ3, S3, ef, mid, g4, g5, eρ, q3, l3, ok3, wt3, d3, k3⟩ := for_inv (nxt := (rsrc 0 mn).nxt) (g := gn 4) (b := lb__law_canal_1) (l := (List.range mn).map fun k : Nat => D.int (k : Int))
    (fun i ρ S' => ∃ mid g4 g5, ρ = [some (.lst t), some (.int most), some (.int mn), some (.lst S1.length), g4, g5, none, none] ∧ S'[S1.length]? = some ⟨false, (Pl.e :: mid).map Pl.toD⟩ ∧ mid.length = i ∧ (∀ p ∈ mid, p.ok ∧ p.isE = false) ∧ (Adj (Pl.e :: mid) ∧ (mid.length = mn → 0 < mid.length → ((Pl.e :: mid).getLast (by simp)).isC = true)) ∧ Dp S' t k (n + 1 + 10 * i) ∧ Kp S1 S' t k)
    (fun i _ S _ => rng_get) (fun i d ρ S' hd ⟨mid, g4, g5, h1, h2, h3, h4, hw, h5, h6⟩ => by
      obtain ⟨hi, rfl⟩ := rng_of hd
      subst h1
      obtain ⟨p, S'', g5', c1, c2, c3, cc, c4, c5, c6⟩ := canal_step (S0 := S1) (q := S1.length) (most := most) (many := mn) (i := i) (g4 := g4) (g5 := g5) (ps := .e :: mid) h5 h6 (Nat.le_refl _) (by omega) (by omega) (by omega) h2 (fun p hp => by
        rcases List.mem_cons.mp hp with rfl | hp
        · trivial
        · exact (h4 p hp).1) (by simp) (by simp; omega)
      refine ⟨_, _, S'', rfl, c1, mid ++ [p], some (.int i), g5', rfl, c4, by simp [h3], fun p' hp' => ?_, ⟨hw.1.snoc (by simp) (cc.imp id (fun z => z.1)), fun hl _ => by rw [show (Pl.e :: (mid ++ [p])).getLast (by simp) = p from List.getLast_concat (l := Pl.e :: mid)]; exact cc.resolve_right (fun z => by have := z.2; simp at hl; omega)⟩, c5.mono (by omega), c6⟩
      rcases List.mem_append.mp hp' with hp' | hp'
      · exact h4 p' hp'
      · have : p' = p := by simpa using hp'
        subst this
        exact ⟨c2, c3⟩) (mn + 1) 0 [some (.lst t), some (.int most), some (.int mn), some (.lst S1.length), none, none, none, none] S2 (Nat.zero_le _) ⟨[], none, none, rfl, q2, rfl, (fun p hp => by cases hp), ⟨fun i a b ha hb => by simp at hb, fun _ z => absurd z (by simp)⟩, d2, k2⟩ (by simp)
  have hlen : ((List.range mn).map fun k : Nat => D.int (k : Int)).length = mn := by simp
  rw [hlen] at l3 d3
  have hd3 : n + 1 + 10 * mn ≤ n + 111 := by omega
  obtain ⟨r4, S4, e4, r40, r41, d4, k4⟩ := draw_ok (m := mn) (d3.mono hd3) (by omega) (by omega) (by omega)
  obtain ⟨tn, htn⟩ : ∃ m : Nat, 1 + r4 = m := ⟨(1 + r4).toNat, by omega⟩
  have q4 := k4.at q3 (by omega) (by omega)
  obtain ⟨bn, hbn⟩ : ∃ m : Nat, (mn : Int) + 1 - tn = m := ⟨((mn : Int) + 1 - tn).toNat, by omega⟩
  obtain ⟨gi, gs, S5, e5, q5, d5, k5, hgi, gu5⟩ : ∃ (gi : Nat) (gs : List D) (S5 : Sto), o2 addD (o2 mulD (ls (ac (cn (.str "up")) an)) (vr 6)) (o2 mulD (ls (ac (cn (.str "down")) an)) (o2 subD (o2 addD (vr 2) (cn (.int 1))) (vr 6))) [some (.lst t), some (.int most), some (.int mn), some (.lst S1.length), g4, g5, some (.int tn), none] S4 = .ok (.lst gi) S5 ∧ S5[gi]? = some ⟨false, gs⟩ ∧ Dp S5 t k (n + 112) ∧ Kp S4 S5 t k ∧ S4.length ≤ gi ∧ GU gs mn := by
    have m1 := mul_rep (S := S4 ++ [⟨false, [.str "up"]⟩]) (n := tn) app_at (by omega)
    have a1 := app_at (S := S4 ++ [⟨false, [D.str "up"]⟩]) (c := ⟨false, List.replicate tn (.str "up")⟩)
    have D1 := (d4.app (c := ⟨false, [.str "up"]⟩)).app (c := ⟨false, List.replicate tn (.str "up")⟩)
    have K1 : Kp S4 ((S4 ++ [⟨false, [D.str "up"]⟩]) ++ [⟨false, List.replicate tn (.str "up")⟩]) t k := Kp.app.trans Kp.app
    generalize hA : (S4 ++ [(⟨false, [.str "up"]⟩ : Cell)]).length = A at *
    have hA4 : S4.length ≤ A := by rw [← hA]; simp
    generalize (S4 ++ [(⟨false, [.str "up"]⟩ : Cell)]) ++ [⟨false, List.replicate tn (.str "up")⟩] = T1 at *
    have m2 := mul_rep (S := T1 ++ [⟨false, [.str "down"]⟩]) (n := bn) app_at (by omega)
    have a2 := app_at (S := T1 ++ [⟨false, [D.str "down"]⟩]) (c := ⟨false, List.replicate bn (.str "down")⟩)
    have a1' := app_old (c := ⟨false, List.replicate bn (.str "down")⟩) (app_old (c := ⟨false, [.str "down"]⟩) a1)
    have D2 := (D1.app (c := ⟨false, [.str "down"]⟩)).app (c := ⟨false, List.replicate bn (.str "down")⟩)
    have K2 : Kp S4 ((T1 ++ [⟨false, [D.str "down"]⟩]) ++ [⟨false, List.replicate bn (.str "down")⟩]) t k := (K1.trans Kp.app).trans Kp.app
    generalize hB : (T1 ++ [(⟨false, [.str "down"]⟩ : Cell)]).length = B at *
    generalize (T1 ++ [(⟨false, [.str "down"]⟩ : Cell)]) ++ [⟨false, List.replicate bn (.str "down")⟩] = T2 at *
    have ad := add_ll a1' a2 (by simp; omega)
    refine ⟨T2.length, List.replicate tn (.str "up") ++ List.replicate bn (.str "down"), T2 ++ [⟨false, List.replicate tn (.str "up") ++ List.replicate bn (.str "down")⟩], ?_, app_at, (D2.app).mono (by omega), K2.trans Kp.app, K2.len, ⟨by simp; omega, fun g hg => by
      rcases List.mem_append.mp hg with z | z
      · exact .inl (List.eq_of_mem_replicate z)
      · exact .inr (List.eq_of_mem_replicate z)⟩⟩
    simp only [o2_ap, ls1, vr_ap, cn_ap, bind_ok, List.getElem?_cons_zero, List.getElem?_cons_succ, m1, add_ii, sub_ii, hbn, m2, ad]
  obtain ⟨r6, S6, e6, r60, r61, d6, k6⟩ := draw_ok (m := 3) d5 (by omega) (by decide) (by decide)
  have lt4 := d4.lt
  have k46 : Kp S4 S6 t k := k5.trans k6
  have q6 := k46.at q4 (by omega) (by omega)
  have gi6 := k6.at q5 (by omega) (by omega)
  -- the gates drawn anew, or not
  obtain ⟨gj, gs', S7, e7, q7, d7, k7, gu7⟩ : ∃ (gj : Nat) (gs' : List D) (S7 : Sto), sif (tb (o2 eqD (cl 2 (noExc f__law_draw) (ac (vr 0) (ac (cn (.int 3)) an))) (cn (.int 0)))) (sa (cmp (ir1 (ac (o2 addD (vr 2) (cn (.int 1))) an)) [none, some 0] (gn 0) ttrue (o2 DL.getD (ls (ac (cn (.str "up")) (ac (cn (.str "down")) an))) (cl 2 (noExc f__law_draw) (ac (vr 1) (ac (cn (.int 2)) an))))) (gn 7)) DL.skip [some (.lst t), some (.int most), some (.int mn), some (.lst S1.length), g4, g5, some (.int tn), some (.lst gi)] S5 = .nx [some (.lst t), some (.int most), some (.int mn), some (.lst S1.length), g4, g5, some (.int tn), some (.lst gj)] S7 ∧ S7[gj]? = some ⟨false, gs'⟩ ∧ Dp S7 t k (n + 130) ∧ Kp S6 S7 t k ∧ GU gs' mn := by
    by_cases c : r6 = 0
    · have lt6 := d6.lt
      obtain ⟨ρ', S7, el, g, gs', hρ, hq, hl, hu, hd, hk⟩ := for_inv (nxt := (rsrc 0 (mn + 1)).nxt) (g := gn 0) (b := cbody S6.length ttrue (o2 DL.getD (ls (ac (cn (.str "up")) (ac (cn (.str "down")) an))) (cl 2 (noExc f__law_draw) (ac (vr 1) (ac (cn (.int 2)) an))))) (l := (List.range (mn + 1)).map fun k : Nat => D.int (k : Int))
        (fun i ρ S' => ∃ g gs', ρ = [g, some (.lst t)] ∧ S'[S6.length]? = some ⟨false, gs'⟩ ∧ gs'.length = i ∧ (∀ g ∈ gs', g = .str "up" ∨ g = .str "down") ∧ Dp S' t k (n + 113 + i) ∧ Kp S6 S' t k)
        (fun i _ S _ => rng_get) (fun i d ρ S' hd ⟨g, gs', h1, h2, h3, hu, h4, h5⟩ => by
          obtain ⟨hi, rfl⟩ := rng_of hd
          subst h1
          obtain ⟨r, x, S'', p1, p2, p3, p4, p5⟩ := pick_ok (xs := [.str "up", .str "down"]) (m := 2) h4 (by omega) rfl (by simp) (by simp)
          have q'' := p5.at h2 (by omega) (by omega)
          have lq : S6.length < S''.length := (List.getElem?_eq_some_iff.mp q'').1
          refine ⟨_, _, _, rfl, cbody_ok (d := x) (S2 := S'') ?_ q'' (by omega), some (.int i), gs' ++ [x], rfl, List.getElem?_set_self lq, by simp [h3], (fun g hg => by
            rcases List.mem_append.mp hg with z | z
            · exact hu g z
            · have : g = x := by simpa using z
              subst this
              simpa using p3), (p4.set (by omega) (by omega)).mono (by omega), (h5.trans p5).setq (Nat.le_refl _)⟩
          simp [p1, p2]) (mn + 1 + 1) 0 [none, some (.lst t)] (S6 ++ [⟨false, []⟩]) (Nat.zero_le _) ⟨none, [], rfl, app_at, rfl, (fun g hg => by cases hg), d6.app, Kp.app⟩ (by simp)
      have hln : ((List.range (mn + 1)).map fun k : Nat => D.int (k : Int)).length = mn + 1 := by simp
      rw [hln] at hd hl
      have hc := cmp_ok (pk := [none, some 0]) (ρ := [some (.lst t), some (.int most), some (.int mn), some (.lst S1.length), g4, g5, some (.int tn), some (.lst gi)]) (S := S6) (ir1_ok (f := ac (o2 addD (vr 2) (cn (.int 1))) an) (n := mn + 1) (by simp) (by omega)) el
      exact ⟨S6.length, gs', S7, by simp [e6, c, hc], hq, hd.mono (by omega), hk, ⟨hl, hu⟩⟩
    · exact ⟨gi, gs, S6, by simp [e6, c], gi6, d6.mono (by omega), .refl, gu5⟩
  have lt6 := d6.lt
  have q7p := k7.at q6 (by omega) (by omega)
  have ad := add_ll (app_old (c := ⟨false, [.tup [.str "end"]]⟩) q7p) (app_at (S := S7) (c := ⟨false, [.tup [.str "end"]]⟩)) (by simp; omega)
  have tp1 := tup_l (app_at (S := S7 ++ [⟨false, [D.tup [.str "end"]]⟩]) (c := ⟨false, (Pl.e :: mid).map Pl.toD ++ [.tup [.str "end"]]⟩))
  have tp2 := tup_l (app_old (c := ⟨false, (Pl.e :: mid).map Pl.toD ++ [.tup [.str "end"]]⟩) (app_old (c := ⟨false, [.tup [.str "end"]]⟩) q7))
  refine ⟨mid, gs', (S7 ++ [⟨false, [.tup [.str "end"]]⟩]) ++ [⟨false, (Pl.e :: mid).map Pl.toD ++ [.tup [.str "end"]]⟩], ?_, ok3, wt3.1.snoc (by simp) (.inr (wt3.2 (by omega) (by omega))), (by rw [l3]; exact gu7), by omega, by omega, (d7.app.app).mono (by omega), (((k1.trans k3).trans (k46.trans k7 |> fun z => (k4.trans z))).trans Kp.app).trans Kp.app⟩
  have main : ∀ fd : Fn, fd = f__law_draw → True := fun _ _ => trivial
  refine (fnB_ap (m := 8) (b := b__law_canal)).trans ?_
  show fin (b__law_canal [some (.lst t), some (.int most), none, none, none, none, none, none] S) = _
  unfold b__law_canal
  refine (fin_nx (ρ' := [some (.lst t), some (.int most), some (.int mn), none, none, none, none, none]) (S' := S1) (by rw [← hmn]; simp [e1])).trans ?_
  refine (fin_nx (ρ' := [some (.lst t), some (.int most), some (.int mn), some (.lst S1.length), none, none, none, none]) (S' := S2) (by rw [← hS2]; simp)).trans ?_
  refine (fin_nx (ρ' := ρ3) (S' := S3) ?_).trans ?_
  · rw [sfor_ap, ir1_ok (n := mn) (S' := S2) (by simp) (by omega)]
    exact ef
  rw [eρ]
  refine (fin_nx (ρ' := [some (.lst t), some (.int most), some (.int mn), some (.lst S1.length), g4, g5, some (.int tn), none]) (S' := S4) (by rw [← htn]; simp [e4])).trans ?_
  refine (fin_nx (ρ' := [some (.lst t), some (.int most), some (.int mn), some (.lst S1.length), g4, g5, some (.int tn), some (.lst gi)]) (S' := S5) (by rw [sa_ap, e5]; rfl)).trans ?_
  rw [fin_nx e7]
  have lsE : ls (ac (tp (ac (cn (.str "end")) an)) an) [some (.lst t), some (.int most), some (.int mn), some (.lst S1.length), g4, g5, some (.int tn), some (.lst gj)] S7 = .ok (.lst S7.length) (S7 ++ [⟨false, [.tup [.str "end"]]⟩]) := by simp
  have v3 : ∀ S : Sto, vr 3 [some (.lst t), some (.int most), some (.int mn), some (.lst S1.length), g4, g5, some (.int tn), some (.lst gj)] S = .ok (.lst S1.length) S := fun S => by simp
  have v7 : ∀ S : Sto, vr 7 [some (.lst t), some (.int most), some (.int mn), some (.lst S1.length), g4, g5, some (.int tn), some (.lst gj)] S = .ok (.lst gj) S := fun S => by simp
  rw [sret_ap, tp_ap, ac_ap, b1_ap, ac_ap, o2_ap, v3, bind_ok, lsE, bind_ok, ad, bind_ok, an_ap, bind_ok, bind_ok, tp1, bind_ok, ac_ap, b1_ap, ac_ap, v7, bind_ok, an_ap, bind_ok, bind_ok, tp2, bind_ok, an_ap, bind_ok, bind_ok, bind_ok]
  rw [if_pos (by simp), bindS_ok, fin_rt]
  simp [Pl.toD]
end Law
set_option Elab.async false
set_option linter.all false
set_option maxRecDepth 100000
namespace Law
open PySem PySem.Spec PyProof.Rows L2 DL
structure Ex (S S' : Sto) : Prop where
  len : S.length ≤ S'.length
  get : ∀ i, i < S.length → S'[i]? = S[i]?
theorem Ex.refl {S : Sto} : Ex S S := ⟨Nat.le_refl _, fun _ _ => rfl⟩
theorem Ex.trans {S S1 S2 : Sto} (a : Ex S S1) (b : Ex S1 S2) : Ex S S2 := ⟨Nat.le_trans a.len b.len, fun i h => (b.get i (Nat.lt_of_lt_of_le h a.len)).trans (a.get i h)⟩
theorem Ex.app {S : Sto} {c : Cell} : Ex S (S ++ [c]) := ⟨by simp, fun i h => by rw [List.getElem?_append_left h]⟩
theorem Ex.setq {S0 S : Sto} {q : Nat} {c : Cell} (a : Ex S0 S) (h : S0.length ≤ q) : Ex S0 (S.set q c) := ⟨by simp; exact a.len, fun i hi => by rw [List.getElem?_set_ne (by omega)]; exact a.get i hi⟩
theorem Ex.kp {S S' : Sto} {t k : Nat} (a : Ex S S') : Kp S S' t k := ⟨a.len, fun i h _ _ => a.get i h⟩
theorem Ex.at {S S' : Sto} {q : Nat} {c : Cell} (a : Ex S S') (e : S[q]? = some c) : S'[q]? = some c := (a.get q (List.getElem?_eq_some_iff.mp e).1).trans e
theorem Dp.ext {S S' : Sto} {t k n : Nat} (h : Dp S t k n) (x : Ex S S') : Dp S' t k n := by
  obtain ⟨⟨a, b, xs, e1, e2, h⟩, ne⟩ := h
  exact ⟨⟨a, b, xs, x.at e1, x.at e2, h⟩, ne⟩
theorem bls_map : ∀ bs : List Bool, blsOf (bs.map D.bl) = some bs
  | [] => rfl
  | b :: r => by
    show (match blsOf (r.map D.bl) with | some r => some (b :: r) | none => none) = _
    rw [bls_map r]
theorem all_l {S : Sto} {i : Nat} {bs : List Bool} (e : S[i]? = some ⟨false, bs.map D.bl⟩) : allD [.lst i] S = .ok (.bl (bs.all id)) S := by
  simp only [allD, e, bls_map]
def isInt : D → Bool
  | .int _ => true
  | _ => false
theorem sok_app {a b : Str} (h1 : PyData.strOk a = true) (h2 : PyData.strOk b = true) : PyData.strOk (a ++ b) = true := by
  unfold PyData.strOk at *
  show ((a.cps ++ b.cps).all fun x => decide (x < 1114112)) = true
  rw [Array.all_append, h1, h2]
  rfl
theorem join_ok {n : Nat} : ∀ ts : List Str, (∀ t ∈ ts, PyData.strOk t = true ∧ t.length ≤ n) → PyData.strOk (Str.join ", " ts) = true ∧ (Str.join ", " ts).length ≤ (n + 2) * ts.length
  | [], _ => ⟨by decide +kernel, by show (Str.join ", " []).length ≤ _; exact Nat.le_of_eq (by rfl)⟩
  | [x], h => by
    obtain ⟨h1, h2⟩ := h x List.mem_cons_self
    exact ⟨h1, by show x.length ≤ _; simp; omega⟩
  | x :: y :: r, h => by
    obtain ⟨h1, h2⟩ := h x List.mem_cons_self
    obtain ⟨h3, h4⟩ := join_ok (y :: r) fun t ht => h t (List.mem_cons_of_mem _ ht)
    have e : Str.join ", " (x :: y :: r) = x ++ ", " ++ Str.join ", " (y :: r) := rfl
    refine ⟨by rw [e]; exact sok_app (sok_app h1 (stok _)) h3, ?_⟩
    rw [e, Str.length_append, Str.length_append]
    have e2 : ((", " : String) : Str).length = 2 := rfl
    rw [e2]
    simp only [List.length_cons] at h4 ⊢
    have : (n + 2) * (r.length + 1 + 1) = (n + 2) * (r.length + 1) + (n + 2) := by rw [Nat.mul_add (n + 2) (r.length + 1) 1]; omega
    omega
theorem tup_ok {n : Nat} {ts : List Str} (h : ∀ t ∈ ts, PyData.strOk t = true ∧ t.length ≤ n) : PyData.strOk (tupleText ts) = true ∧ (tupleText ts).length ≤ (n + 2) * ts.length + 3 := by
  obtain ⟨h1, h2⟩ := join_ok ts h
  unfold tupleText
  refine ⟨sok_app (sok_app (stok _) h1) (stok _), ?_⟩
  rw [Str.length_append, Str.length_append]
  have e1 : (("(" : String) : Str).length = 1 := rfl
  have e2 : ∀ b : Bool, (((if b = true then ",)" else ")" : String) : Str)).length ≤ 2 := fun b => by cases b <;> decide +kernel
  have := e2 (ts.length == 1)
  rw [e1]
  omega
theorem shownAll_len : ∀ L : List PyData, (PyData.shownAll L).length = L.length
  | [] => rfl
  | a :: L => by show (PyData.shown a :: PyData.shownAll L).length = _; simp [shownAll_len L]
theorem sl_from1 {x : D} {l : List D} {S : Sto} : slD2 (.tup (x :: l)) (some 1) none S = .ok (.tup l) S := by
  have e1 : HT.sIx (x :: l).length 0 (some 1) = 1 := by
    have := HT.sIx_nat (x :: l).length 0 1
    rw [show ((1 : Nat) : Int) = 1 from rfl] at this
    rw [this]
    simp
  show (if HT.sIx (x :: l).length 0 (some 1) = 0 ∧ HT.sIx (x :: l).length (x :: l).length none = (x :: l).length then Out.ok (D.tup (x :: l)) S else .ok (.tup (DL.cutD (x :: l) (some 1) none)) S) = _
  rw [if_neg (by rw [e1]; simp)]
  unfold DL.cutD
  rw [e1, HT.sIx_none]
  simp
theorem str_len (s : String) : (Str.ofString s).length = s.toList.length := by
  rw [Str.ofString_eq_toList]
  show (Array.size _) = _
  simp
theorem int_len {i : Int} (h : i.natAbs < 10 ^ 60) : (Str.ofString (toString i)).length ≤ 61 := by
  rw [str_len]
  cases i with
  | ofNat m =>
    show (Nat.repr m).toList.length ≤ 61
    have := (Nat.length_toDigits_le_iff (b := 10) (n := m) (k := 60) (by decide) (by decide)).mpr h
    simp only [Nat.repr, String.toList_ofList]
    omega
  | negSucc m =>
    show ("-" ++ Nat.repr (m + 1)).toList.length ≤ 61
    have := (Nat.length_toDigits_le_iff (b := 10) (n := m + 1) (k := 60) (by decide) (by decide)).mpr h
    simp only [Nat.repr, String.toList_append, String.toList_ofList, List.length_append]
    have : ("-" : String).toList.length = 1 := rfl
    omega
structure Gp (p : PyData) (b e : Nat) : Prop where
  sh : p.showable = true
  nd : p.hasDict = false
  dp : p.depth ≤ e
  ok : PyData.strOk p.shown = true
  le : p.shown.length ≤ b
theorem Gp.mono {p : PyData} {b e b' e' : Nat} (h : Gp p b e) (h1 : b ≤ b') (h2 : e ≤ e') : Gp p b' e' := ⟨h.sh, h.nd, Nat.le_trans h.dp h2, h.ok, Nat.le_trans h.le h1⟩
theorem gp_all {b e : Nat} : ∀ {ps : List PyData}, (∀ p ∈ ps, Gp p b e) → PyData.showableAll ps = true ∧ PyData.hasDictAll ps = false ∧ PyData.depthAll ps ≤ e ∧ ∀ t ∈ PyData.shownAll ps, PyData.strOk t = true ∧ t.length ≤ b
  | [], _ => ⟨rfl, rfl, Nat.zero_le _, fun t ht => by cases ht⟩
  | p :: r, h => by
    have hp := h p List.mem_cons_self
    obtain ⟨a1, a2, a3, a4⟩ := gp_all (ps := r) fun q hq => h q (List.mem_cons_of_mem _ hq)
    refine ⟨?_, ?_, ?_, ?_⟩
    · show (p.showable && PyData.showableAll r) = true; rw [hp.sh, a1]; rfl
    · show (p.hasDict || PyData.hasDictAll r) = false; rw [hp.nd, a2]; rfl
    · show max p.depth (PyData.depthAll r) ≤ e; exact Nat.max_le.mpr ⟨hp.dp, a3⟩
    · intro t ht
      have ht : t ∈ p.shown :: PyData.shownAll r := ht
      rcases List.mem_cons.mp ht with rfl | ht
      · exact ⟨hp.ok, hp.le⟩
      · exact a4 t ht
theorem gp_tup {ps : List PyData} {b e : Nat} (h : ∀ p ∈ ps, Gp p b e) : Gp (.tuple ps) ((b + 2) * ps.length + 3) (e + 1) := by
  obtain ⟨a1, a2, a3, a4⟩ := gp_all h
  obtain ⟨c1, c2⟩ := tup_ok a4
  rw [shownAll_len] at c2
  refine ⟨by simpa [PyData.showable] using a1, by simpa [PyData.hasDict] using a2, by simp only [PyData.depth]; omega, ?_, ?_⟩
  · show PyData.strOk (tupleText (PyData.shownAll ps)) = true; exact c1
  · show (tupleText (PyData.shownAll ps)).length ≤ _; exact c2
def Sho (S : Sto) (d : D) (b e : Nat) : Prop := ∃ p, (∀ S', Ex S S' → ∀ n, e < n → toP S' n d = some p) ∧ Gp p b e
theorem Sho.mono {S : Sto} {d : D} {b e b' e' : Nat} (h : Sho S d b e) (h1 : b ≤ b') (h2 : e ≤ e') : Sho S d b' e' := by
  obtain ⟨p, a, g⟩ := h
  exact ⟨p, fun S' x n hn => a S' x n (by omega), g.mono h1 h2⟩
theorem Sho.ext {S S1 : Sto} {d : D} {b e : Nat} (h : Sho S d b e) (x : Ex S S1) : Sho S1 d b e := by
  obtain ⟨p, a, g⟩ := h
  exact ⟨p, fun S' x' n hn => a S' (x.trans x') n hn, g⟩
theorem sho_all {S : Sto} {b e : Nat} : ∀ {l : List D}, (∀ d ∈ l, Sho S d b e) → ∃ ps, (∀ S', Ex S S' → ∀ n, e < n → mapO (toP S' n) l = some ps) ∧ ps.length = l.length ∧ ∀ p ∈ ps, Gp p b e
  | [], _ => ⟨[], fun _ _ _ _ => rfl, rfl, fun p hp => by cases hp⟩
  | d :: l, h => by
    obtain ⟨p, a, g⟩ := h d List.mem_cons_self
    obtain ⟨ps, a2, a3, a4⟩ := sho_all (l := l) fun q hq => h q (List.mem_cons_of_mem _ hq)
    refine ⟨p :: ps, fun S' x n hn => ?_, by simp [a3], fun q hq => ?_⟩
    · simp only [mapO, a S' x n hn, a2 S' x n hn]
    · rcases List.mem_cons.mp hq with rfl | hq
      · exact g
      · exact a4 q hq
theorem sho_tup {S : Sto} {l : List D} {b e : Nat} (h : ∀ d ∈ l, Sho S d b e) : Sho S (.tup l) ((b + 2) * l.length + 3) (e + 1) := by
  obtain ⟨ps, a, hl, g⟩ := sho_all h
  refine ⟨.tuple ps, fun S' x n hn => ?_, by rw [← hl]; exact gp_tup g⟩
  obtain ⟨m, rfl⟩ : ∃ m, n = m + 1 := ⟨n - 1, by omega⟩
  show (mapO (toP S' m) l).map PyData.tuple = _
  rw [a S' x m (by omega)]
  rfl
theorem sho_int {S : Sto} {i : Int} (h : i.natAbs < 10 ^ 60) : Sho S (.int i) 61 0 := by
  refine ⟨.int i, fun S' _ n hn => ?_, ⟨?_, rfl, Nat.le_refl _, ?_, ?_⟩⟩
  · obtain ⟨m, rfl⟩ : ∃ m, n = m + 1 := ⟨n - 1, by omega⟩
    rfl
  · show decide (i.natAbs.log2 < 1920) = true
    refine decide_eq_true ?_
    by_cases c : i.natAbs = 0
    · rw [c]; decide
    · refine Nat.lt_of_lt_of_le ((Nat.log2_lt c).mpr (show i.natAbs < 2 ^ 200 from Nat.lt_trans h (by decide))) (by decide)
  · show PyData.strOk (Str.ofString (toString i)) = true; exact stok _
  · show (Str.ofString (toString i)).length ≤ 61; exact int_len h
theorem Sho.repr {S : Sto} {d : D} {b e : Nat} (h : Sho S d b e) (h1 : b ≤ 1000000) (h2 : e < 40) : ∃ s : Str, PyData.strOk s = true ∧ ∀ S', Ex S S' → reprD [d] S' = .ok (.str s) S' := by
  obtain ⟨p, a, g⟩ := h
  refine ⟨p.shown, g.ok, fun S' x => ?_⟩
  have ha := a S' x 40 h2
  have big : ∀ (q : PyData), q = p → (if (q.showable && !q.hasDict && decide (q.depth ≤ 60)) = true ∧ q.shown.length ≤ 1000000 then Out.ok (D.str q.shown) S' else .bad) = .ok (.str p.shown) S' := fun q hq => by
    subst hq
    rw [if_pos]
    refine ⟨?_, Nat.le_trans g.le h1⟩
    rw [g.sh, g.nd]
    have := g.dp
    simp
    omega
  cases d with
  | non => cases (Option.some.inj ha); rfl
  | bl v => cases (Option.some.inj ha); cases v <;> rfl
  | int i =>
    cases (Option.some.inj ha)
    have : i.natAbs.log2 < 1920 := of_decide_eq_true g.sh
    show (if i.natAbs.log2 < 1920 then Out.ok (D.str (toString i)) S' else .bad) = _
    rw [if_pos this]
    rfl
  | str z =>
    cases (Option.some.inj ha)
    have : (reprText z).length ≤ 1000000 := Nat.le_trans g.le h1
    show (if (reprText z).length ≤ 1000000 then Out.ok (D.str (reprText z)) S' else .bad) = _
    rw [if_pos this]
    rfl
  | tup l =>
    show (match toP S' 40 (.tup l) with
      | some p => if (p.showable && !p.hasDict && decide (p.depth ≤ 60)) = true ∧ p.shown.length ≤ 1000000 then Out.ok (D.str p.shown) S' else .bad
      | none => .bad) = _
    rw [ha]
    exact big p rfl
  | lst i =>
    show (match toP S' 40 (.lst i) with
      | some p => if (p.showable && !p.hasDict && decide (p.depth ≤ 60)) = true ∧ p.shown.length ≤ 1000000 then Out.ok (D.str p.shown) S' else .bad
      | none => .bad) = _
    rw [ha]
    exact big p rfl
theorem sif_t {c : Ev Bool} {f g : Sv} {ρ : Lc} {S S1 : Sto} (h : c ρ S = .ok true S1) : sif c f g ρ S = f ρ S1 := by
  rw [sif_ap, h, bindS_ok, if_pos rfl]
theorem sif_f {c : Ev Bool} {f g : Sv} {ρ : Lc} {S S1 : Sto} (h : c ρ S = .ok false S1) : sif c f g ρ S = g ρ S1 := by
  rw [sif_ap, h, bindS_ok, if_neg (by decide)]
theorem sq_nx {f g : Sv} {ρ ρ' : Lc} {S S1 : Sto} (h : f ρ S = .nx ρ' S1) : sq f g ρ S = g ρ' S1 := by rw [sq_ap, h]
theorem sl_l {S : Sto} {q : Nat} {c : Cell} {lo hi : Option Int} (e : S[q]? = some c) : slD2 (.lst q) lo hi S = .ok (.lst S.length) (S ++ [⟨false, DL.cutD c.xs lo hi⟩]) := by
  simp only [slD2, e]
theorem list_l {S : Sto} {q : Nat} {c : Cell} (e : S[q]? = some c) : listD [.lst q] S = .ok (.lst S.length) (S ++ [⟨false, c.xs⟩]) := by
  simp only [listD, e]
theorem cut_map {ns : List Int} {lo hi : Option Int} : ∃ ys : List Int, DL.cutD (ns.map D.int) lo hi = ys.map D.int :=
  ⟨(ns.drop (HT.sIx (ns.map D.int).length 0 lo)).take (HT.sIx (ns.map D.int).length (ns.map D.int).length hi - HT.sIx (ns.map D.int).length 0 lo), by unfold DL.cutD; rw [List.map_take, List.map_drop]⟩
theorem tape_ok {S : Sto} {q : Nat} {fz : Bool} {ns : List Int} (e : S[q]? = some ⟨fz, ns.map D.int⟩) : ∃ (t k : Nat) (S' : Sto), f__law_tape [.lst q] S = .ok (.lst t) S' ∧ Dp S' t k 0 := by
  obtain ⟨ys, hy⟩ := cut_map (ns := ns) (lo := none) (hi := some 63)
  have s1 : slD2 (.lst q) none (some 63) S = .ok (.lst S.length) (S ++ [⟨false, ys.map D.int⟩]) := by rw [sl_l e, hy]
  have q1 : (S ++ [⟨false, ys.map D.int⟩])[S.length]? = some (⟨false, ys.map D.int⟩ : Cell) := app_at
  generalize hS1 : S ++ [⟨false, ys.map D.int⟩] = S1 at *
  have s3 : listD [.lst S.length] S1 = .ok (.lst S1.length) (S1 ++ [⟨false, ys.map D.int⟩]) := list_l q1
  have q3 : (S1 ++ [⟨false, ys.map D.int⟩])[S1.length]? = some (⟨false, ys.map D.int⟩ : Cell) := app_at
  have l3 : (S1 ++ [(⟨false, ys.map D.int⟩ : Cell)]).length = S1.length + 1 := by simp
  generalize hS3 : S1 ++ [⟨false, ys.map D.int⟩] = S3 at *
  refine ⟨S3.length, S1.length, S3 ++ [⟨false, [.lst S1.length, .int 0, .int 0]⟩], ?_, ⟨⟨0, 0, ys, app_at, app_old q3, by decide, by decide⟩, by omega⟩⟩
  refine (fnB_ap (m := 1) (b := b__law_tape)).trans ?_
  show fin (b__law_tape [some (.lst q)] S) = _
  unfold b__law_tape
  simp [s1, s3]
end Law
set_option Elab.async false
set_option linter.all false
set_option maxRecDepth 100000
namespace Law
open PySem PySem.Spec PyProof.Rows L2 DL
def Lies (S : Sto) (x : D) (P : PyData) (e : Nat) : Prop := ∀ S', Ex S S' → ∀ n, e < n → toP S' n x = some P
theorem Lies.ext {S S1 : Sto} {x : D} {P : PyData} {e : Nat} (h : Lies S x P e) (x1 : Ex S S1) : Lies S1 x P e := fun S' x' n hn => h S' (x1.trans x') n hn
theorem Lies.repr {S : Sto} {d : D} {p : PyData} {b e : Nat} (a : Lies S d p e) (g : Gp p b e) (h1 : b ≤ 1000000) (h2 : e < 40) {S' : Sto} (x : Ex S S') : reprD [d] S' = .ok (.str p.shown) S' := by
  have ha := a S' x 40 h2
  have big : ∀ (q : PyData), q = p → (if (q.showable && !q.hasDict && decide (q.depth ≤ 60)) = true ∧ q.shown.length ≤ 1000000 then Out.ok (D.str q.shown) S' else .bad) = .ok (.str p.shown) S' := fun q hq => by
    subst hq
    rw [if_pos]
    refine ⟨?_, Nat.le_trans g.le h1⟩
    rw [g.sh, g.nd]
    have := g.dp
    simp
    omega
  cases d with
  | non => cases (Option.some.inj ha); rfl
  | bl v => cases (Option.some.inj ha); cases v <;> rfl
  | int i =>
    cases (Option.some.inj ha)
    have : i.natAbs.log2 < 1920 := of_decide_eq_true g.sh
    show (if i.natAbs.log2 < 1920 then Out.ok (D.str (toString i)) S' else .bad) = _
    rw [if_pos this]
    rfl
  | str z =>
    cases (Option.some.inj ha)
    have : (reprText z).length ≤ 1000000 := Nat.le_trans g.le h1
    show (if (reprText z).length ≤ 1000000 then Out.ok (D.str (reprText z)) S' else .bad) = _
    rw [if_pos this]
    rfl
  | tup l =>
    show (match toP S' 40 (.tup l) with
      | some p => if (p.showable && !p.hasDict && decide (p.depth ≤ 60)) = true ∧ p.shown.length ≤ 1000000 then Out.ok (D.str p.shown) S' else .bad
      | none => .bad) = _
    rw [ha]
    exact big p rfl
  | lst i =>
    show (match toP S' 40 (.lst i) with
      | some p => if (p.showable && !p.hasDict && decide (p.depth ≤ 60)) = true ∧ p.shown.length ≤ 1000000 then Out.ok (D.str p.shown) S' else .bad
      | none => .bad) = _
    rw [ha]
    exact big p rfl
theorem Lies.mono {S : Sto} {x : D} {P : PyData} {e e' : Nat} (h : Lies S x P e) (h1 : e ≤ e') : Lies S x P e' := fun S' x' n hn => h S' x' n (by omega)
theorem mapO_cons {α β : Type} {f : α → Option β} {x : α} {l : List α} {ys : List β} (h : mapO f (x :: l) = some ys) : ∃ y r, ys = y :: r ∧ f x = some y ∧ mapO f l = some r := by
  simp only [mapO] at h
  split at h
  · rename_i y r h1 h2
    cases h
    exact ⟨y, r, rfl, h1, h2⟩
  · cases h
theorem toP_tup {S : Sto} {n : Nat} {l : List D} {P : PyData} (h : toP S (n + 1) (.tup l) = some P) : ∃ ps, P = .tuple ps ∧ mapO (toP S n) l = some ps := by
  have h : (mapO (toP S n) l).map PyData.tuple = some P := h
  cases z : mapO (toP S n) l with
  | none => rw [z] at h; cases h
  | some ps => rw [z] at h; exact ⟨ps, (Option.some.inj h).symm, rfl⟩
theorem toP_lst {S : Sto} {n q : Nat} {P : PyData} (h : toP S (n + 1) (.lst q) = some P) : ∃ ps, P = .list ps := by
  have h : (match S[q]? with | some c => (mapO (toP S n) c.xs).map PyData.list | none => none) = some P := h
  split at h
  · rename_i c _
    cases z : mapO (toP S n) c.xs with
    | none => rw [z] at h; cases h
    | some ps => rw [z] at h; exact ⟨ps, (Option.some.inj h).symm⟩
  · cases h
def isS (c : Str) : D → Bool
  | .str s => s == c
  | _ => false
def isW (c : Str) : D → Bool
  | .tup [.str s] => s == c
  | _ => false
theorem shc {c : Str} (hc : PyData.strOk c = true) : SeqAt.shaped (.tuple [.str c]) = true := by
  simp [SeqAt.shaped, PyData.canLay0, PyData.canLayAll0, PyData.depth, PyData.depthAll, hc]
theorem eqv_s {S : Sto} {x : D} {P : PyData} {n : Nat} {c : Str} (h : toP S (n + 1) x = some P) : PyData.eqv P (.str c) = isS c x := by
  cases x with
  | non => cases (Option.some.inj h); rfl
  | bl v => cases (Option.some.inj h); rfl
  | int i => cases (Option.some.inj h); rfl
  | str s => cases (Option.some.inj h); simp [PyData.eqv, isS]
  | tup l => obtain ⟨ps, rfl, _⟩ := toP_tup h; rfl
  | lst q => obtain ⟨ps, rfl⟩ := toP_lst h; rfl
theorem eqv_w {S : Sto} {x : D} {P : PyData} {n : Nat} {c : Str} (h : toP S (n + 1 + 1) x = some P) : PyData.eqv P (.tuple [.str c]) = isW c x := by
  cases x with
  | non => cases (Option.some.inj h); rfl
  | bl v => cases (Option.some.inj h); rfl
  | int i => cases (Option.some.inj h); rfl
  | str s => cases (Option.some.inj h); rfl
  | lst q => obtain ⟨ps, rfl⟩ := toP_lst h; rfl
  | tup l =>
    obtain ⟨ps, rfl, hm⟩ := toP_tup h
    cases l with
    | nil => cases (Option.some.inj hm); rfl
    | cons w r =>
      obtain ⟨W, R, rfl, h1, h2⟩ := mapO_cons hm
      cases r with
      | nil =>
        cases (Option.some.inj h2)
        have e : PyData.eqv (.tuple [W]) (.tuple [.str c]) = PyData.eqv W (.str c) := by simp [PyData.eqv, PyData.eqvAll]
        rw [e, eqv_s h1]
        cases w <;> rfl
      | cons w2 r2 =>
        obtain ⟨W2, R2, rfl, h3, h4⟩ := mapO_cons h2
        have e : PyData.eqv (.tuple (W :: W2 :: R2)) (.tuple [.str c]) = false := by simp [PyData.eqv, PyData.eqvAll]
        rw [e]
        cases w <;> rfl
structure Wl (S : Sto) (x : D) (P : PyData) (e : Nat) : Prop where
  li : Lies S x P e
  le : e < 39
  sh : SeqAt.shaped P = true
theorem Wl.ext {S S1 : Sto} {x : D} {P : PyData} {e : Nat} (h : Wl S x P e) (x1 : Ex S S1) : Wl S1 x P e := ⟨h.li.ext x1, h.le, h.sh⟩
section
variable {S S' : Sto} {x : D} {P : PyData} {e : Nat} {c : Str}
theorem Wl.new (h : Wl S x P e) (hc : PyData.strOk c = true) (x1 : Ex S S') : neD x (.tup [.str c]) S' = .ok (.bl (!isW c x)) S' := by
  have h1 := h.li S' x1 40 (by have := h.le; omega)
  have h2 : toP S' 40 (.tup [.str c]) = some (.tuple [.str c]) := rfl
  simp only [neD, h1, h2, h.sh, shc hc, Bool.and_self, if_true, eqv_w h1]
end
end Law
set_option Elab.async false
set_option linter.all false
set_option maxRecDepth 100000
namespace Law
open PySem PySem.Spec PyProof.Rows L2 DL
theorem g0 {S : Sto} {l : List D} {a : D} : DL.getD (.tup (a :: l)) (.int 0) S = .ok a S := get_t (atI_nn (by decide) rfl)
theorem g1 {S : Sto} {l : List D} {a b : D} : DL.getD (.tup (a :: b :: l)) (.int 1) S = .ok b S := get_t (atI_nn (by decide) rfl)
theorem g2 {S : Sto} {l : List D} {a b c : D} : DL.getD (.tup (a :: b :: c :: l)) (.int 2) S = .ok c S := get_t (atI_nn (by decide) rfl)
theorem g3 {S : Sto} {l : List D} {a b c d : D} : DL.getD (.tup (a :: b :: c :: d :: l)) (.int 3) S = .ok d S := get_t (atI_nn (by decide) rfl)
theorem g4 {S : Sto} {l : List D} {a b c d e : D} : DL.getD (.tup (a :: b :: c :: d :: e :: l)) (.int 4) S = .ok e S := get_t (atI_nn (by decide) rfl)
def endT : Str := (PyData.tuple [.str "end"]).shown
def PG (S : Sto) (x : D) : Prop := ∃ P, Wl S x P 4 ∧ Gp P 400 4 ∧ (P.shown == endT) = isW "end" x
theorem PG.ext {S S1 : Sto} {x : D} (h : PG S x) (x1 : Ex S S1) : PG S1 x := let ⟨P, a, b⟩ := h; ⟨P, a.ext x1, b⟩
def GG (S : Sto) (x : D) : Prop := ∃ P, Wl S x P 4
theorem GG.ext {S S1 : Sto} {x : D} (h : GG S x) (x1 : Ex S S1) : GG S1 x := let ⟨P, a⟩ := h; ⟨P, a.ext x1⟩
theorem ne_str {x y : Str} {S : Sto} (hx : PyData.strOk x = true) (hy : PyData.strOk y = true) : neD (.str x) (.str y) S = .ok (.bl (!(x == y))) S := by
  simp only [neD, toP]
  simp [SeqAt.shaped, PyData.eqv, PyData.canLay0, PyData.depth, hx, hy]
def okP (P : PyData) : Bool := SeqAt.shaped P && (P.showable && (!P.hasDict && (decide (P.depth ≤ 4) && (PyData.strOk P.shown && decide (P.shown.length ≤ 400)))))
theorem okP_gp {P : PyData} (h : okP P = true) : SeqAt.shaped P = true ∧ Gp P 400 4 := by
  unfold okP at h
  simp only [Bool.and_eq_true, decide_eq_true_eq, Bool.not_eq_true'] at h
  exact ⟨h.1, h.2.1, h.2.2.1, h.2.2.2.1, h.2.2.2.2.1, h.2.2.2.2.2⟩
theorem pg_of {S : Sto} {x : D} {P : PyData} (v : Bool) (hl : Lies S x P 4) (h : okP P = true) (h1 : (P.shown == endT) = v) (h2 : isW "end" x = v) : PG S x := ⟨P, ⟨hl, by decide, (okP_gp h).1⟩, (okP_gp h).2, by rw [h1, h2]⟩
theorem lies_of {S : Sto} {x : D} {P : PyData} (h : ∀ S' : Sto, Ex S S' → ∀ m, toP S' (m + 1 + 1 + 1 + 1 + 1) x = some P) : Lies S x P 4 := fun S' x' n hn => by
  obtain ⟨m, rfl⟩ : ∃ m, n = m + 1 + 1 + 1 + 1 + 1 := ⟨n - 5, by omega⟩
  exact h S' x' m
theorem mo {α β : Type} {f : α → Option β} {x : α} {l : List α} {y : β} {r : List β} (h : f x = some y) (h2 : mapO f l = some r) : mapO f (x :: l) = some (y :: r) := by simp only [mapO, h, h2]
theorem tup_toP {S : Sto} {m : Nat} {l : List D} {ps : List PyData} (h : mapO (toP S m) l = some ps) : toP S (m + 1) (.tup l) = some (.tuple ps) := by
  show (mapO (toP S m) l).map PyData.tuple = _
  rw [h]
  rfl
theorem gp_int {i : Int} (h : i.natAbs < 10 ^ 60) : Gp (.int i) 61 0 := by
  obtain ⟨p, a, g⟩ := sho_int (S := []) h
  have := a [] .refl 1 (by decide)
  cases (Option.some.inj this)
  exact g
theorem gp_none : Gp .none 61 0 := ⟨by decide +kernel, by decide +kernel, by decide +kernel, by decide +kernel, by decide +kernel⟩
theorem pre_ne {t0 X Y B : Str} (h : (B.cps.toList.take (t0.cps.toList.length + 1) == 40 :: t0.cps.toList) = false) : ((((("(" : String) : Str) ++ (t0 ++ ((", " : String) : Str) ++ X)) ++ Y) == B) = false := by
  cases z : (((("(" : String) : Str) ++ (t0 ++ ((", " : String) : Str) ++ X)) ++ Y) == B with
  | false => rfl
  | true =>
    have e := eq_of_beq z
    have hB : B.cps.toList = 40 :: (t0.cps.toList ++ ((((", " : String) : Str).cps.toList ++ X.cps.toList) ++ Y.cps.toList)) := by
      rw [← e]
      have ha : ∀ a b : Str, (a ++ b).cps = a.cps ++ b.cps := fun _ _ => rfl
      have h1 : (("(" : String) : Str).cps.toList = [40] := by decide +kernel
      simp only [ha, Array.toList_append, h1, List.append_assoc, List.cons_append, List.nil_append]
    rw [hB, List.take_succ_cons, List.take_left] at h
    simp at h
theorem pg_pl {S : Sto} {p : Pl} (h : p.ok) : PG S p.toD := by
  cases p with
  | e => exact pg_of (P := .tuple [.str "end"]) true (lies_of fun _ _ _ => rfl) (by decide +kernel) (by decide +kernel) (by decide +kernel)
  | c => exact pg_of (P := .tuple [.str "chamber"]) false (lies_of fun _ _ _ => rfl) (by decide +kernel) (by decide +kernel) (by decide +kernel)
  | p br de ro pr =>
    obtain ⟨b1, b2, d1, d2, r1, r2, hpr⟩ := h
    have ne : ∀ Q R, ((PyData.tuple (.str "pound" :: Q :: R)).shown == endT) = false := fun Q R => by
      show ((((("(" : String) : Str) ++ (reprText "pound" ++ ((", " : String) : Str) ++ Str.join ", " (Q.shown :: PyData.shownAll R))) ++ _) == endT) = false
      exact pre_ne (by decide +kernel)
    have big : (1001 : Nat) < 10 ^ 60 := by decide
    have gs : Gp (.str "pound") 61 0 := ⟨by decide +kernel, by decide +kernel, by decide +kernel, by decide +kernel, by decide +kernel⟩
    have fin' : ∀ (x : D) (X : PyData), (∀ (S' : Sto) m, toP S' (m + 1) x = some X) → Gp X 61 0 → SeqAt.shaped (.tuple [.str "pound", .int br, .int de, .int ro, X]) = true → PG S (.tup [.str "pound", .int br, .int de, .int ro, x]) := fun x X hx gx hs => by
      refine ⟨.tuple [.str "pound", .int br, .int de, .int ro, X], ⟨lies_of fun S' _ m => tup_toP (mo rfl (mo rfl (mo rfl (mo rfl (mo (hx _ _) rfl))))), by decide, hs⟩, ?_, by rw [ne]; rfl⟩
      refine (gp_tup (b := 61) (e := 0) fun p hp => ?_).mono (by simp) (by decide)
      simp only [List.mem_cons, List.not_mem_nil, or_false] at hp
      rcases hp with rfl | rfl | rfl | rfl | rfl
      · exact gs
      · exact gp_int (by omega)
      · exact gp_int (by omega)
      · exact gp_int (by omega)
      · exact gx
    rcases hpr with rfl | ⟨i, rfl, i0, i1⟩
    · exact fin' _ .none (fun _ _ => rfl) gp_none (by simp [SeqAt.shaped, PyData.canLay0, PyData.canLayAll0, PyData.depth, PyData.depthAll, stok])
    · exact fin' _ (.int i) (fun _ _ => rfl) (gp_int (by omega)) (by simp [SeqAt.shaped, PyData.canLay0, PyData.canLayAll0, PyData.depth, PyData.depthAll, stok])
def GS (S : Sto) (x : D) : Prop := ∃ P, Wl S x P 4 ∧ Gp P 400 4
theorem GS.gg {S : Sto} {x : D} (h : GS S x) : GG S x := let ⟨P, a, _⟩ := h; ⟨P, a⟩
theorem gs_of {S : Sto} {x : D} {P : PyData} (hl : Lies S x P 4) (h : okP P = true) : GS S x := ⟨P, ⟨hl, by decide, (okP_gp h).1⟩, (okP_gp h).2⟩
theorem gs_up {S : Sto} : GS S (.str "up") := gs_of (P := .str "up") (lies_of fun _ _ _ => rfl) (by decide +kernel)
theorem gs_down {S : Sto} : GS S (.str "down") := gs_of (P := .str "down") (lies_of fun _ _ _ => rfl) (by decide +kernel)
theorem gs_gu {S : Sto} {gs : List D} {m : Nat} (h : GU gs m) : ∀ g ∈ gs, GS S g := fun g hg => by
  rcases h.2 g hg with rfl | rfl
  · exact gs_up
  · exact gs_down
theorem PG.sho {S : Sto} {x : D} (h : PG S x) : Sho S x 400 4 := let ⟨P, a, b, _⟩ := h; ⟨P, a.li, b⟩
theorem GS.sho {S : Sto} {x : D} (h : GS S x) : Sho S x 400 4 := let ⟨P, a, b⟩ := h; ⟨P, a.li, b⟩
theorem sho_pl {S : Sto} {ps : List D} (h : ∀ p ∈ ps, PG S p) (hl : ps.length ≤ 40) : Sho S (.tup ps) 17000 5 := (sho_tup fun d hd => (h d hd).sho).mono (by omega) (by decide)
theorem sho_gs {S : Sto} {gs : List D} (h : ∀ p ∈ gs, GS S p) (hl : gs.length ≤ 40) : Sho S (.tup gs) 17000 5 := (sho_tup fun d hd => (h d hd).sho).mono (by omega) (by decide)
theorem sho_2 {S : Sto} {x y : D} (h1 : Sho S x 17000 5) (h2 : Sho S y 17000 5) : Sho S (.tup [x, y]) 60000 8 := (sho_tup (b := 17000) (e := 5) fun d hd => by
  simp only [List.mem_cons, List.not_mem_nil, or_false] at hd
  rcases hd with rfl | rfl <;> assumption).mono (by simp) (by decide)
end Law
set_option Elab.async false
set_option linter.all false
set_option maxRecDepth 100000
namespace Law
open PySem PySem.Spec PyProof.Rows L2 DL
def ts (i : Int) : Str := Str.ofString (toString i)
theorem len_small : ∀ n : Nat, n < 1001 → (Str.ofString (toString (n : Int))).length ≤ 5 := by decide +kernel
theorem ts_len {i : Int} (h0 : 0 ≤ i) (h1 : i ≤ 1000) : (ts i).length ≤ 5 := by
  obtain ⟨n, rfl⟩ : ∃ n : Nat, i = n := ⟨i.toNat, by omega⟩
  exact len_small n (by omega)
theorem lg {i : Int} (h : i.natAbs < 2 ^ 200) : i.natAbs.log2 < 1920 := by
  by_cases c : i.natAbs = 0
  · rw [c]; decide
  · exact Nat.lt_of_lt_of_le ((Nat.log2_lt c).mpr h) (by decide)
theorem strs_map : ∀ ps : List Str, strsOf (ps.map D.str) = some ps
  | [] => rfl
  | p :: r => by show (strsOf (r.map D.str)).map (p :: ·) = _; rw [strs_map r]; rfl
theorem sum_le {n : Nat} : ∀ {ps : List Str}, (∀ p ∈ ps, p.length ≤ n) → (ps.map (·.length)).sum ≤ n * ps.length
  | [], _ => by simp
  | p :: r, h => by
    have := sum_le (ps := r) fun q hq => h q (List.mem_cons_of_mem _ hq)
    have := h p List.mem_cons_self
    simp only [List.map_cons, List.sum_cons, List.length_cons, Nat.mul_add, Nat.mul_one]
    omega
theorem big200 : (1001 : Nat) < 2 ^ 200 := by decide
theorem comp_gen {s : Src} {l : List D} {fs : Ev Src} {pk : List (Option Nat)} {e : Ev D} {ρ : Lc} {S : Sto} (rest : Lc) (v : D → D) (hf : fs ρ S = .ok s S) (hn : ∀ k (S' : Sto), Ex S S' → s.nxt k S' = l[k]?) (hfu : l.length < s.fuel) (hp : pkS pk ρ = none :: rest) (hl : l.length < 1000)
    (he : ∀ d ∈ l, ∀ S' : Sto, Ex S S' → ∃ S'', e (some d :: rest) S' = .ok (v d) S'' ∧ Ex S' S'') :
    ∃ S', cmp fs pk (gn 0) ttrue e ρ S = .ok (.lst S.length) S' ∧ S'[S.length]? = some ⟨false, l.map v⟩ ∧ Ex S S' := by
  obtain ⟨ρ', S', el, g, hρ, hq, hx⟩ := for_inv (nxt := s.nxt) (g := gn 0) (b := cbody S.length ttrue e) (l := l)
    (fun i ρ S' => ∃ g, ρ = g :: rest ∧ S'[S.length]? = some ⟨false, (l.take i).map v⟩ ∧ Ex S S')
    (fun k ρ S' ⟨_, _, _, h3⟩ => hn k S' h3) (fun i d ρ S' hd ⟨g, h1, h2, h3⟩ => by
      subst h1
      have hi : i < l.length := (List.getElem?_eq_some_iff.mp hd).1
      obtain ⟨S'', e1, e2⟩ := he d (List.mem_of_getElem? hd) S' h3
      have q'' := e2.at h2
      have lq : S.length < S''.length := (List.getElem?_eq_some_iff.mp q'').1
      refine ⟨_, _, _, rfl, cbody_ok e1 q'' (by simp; omega), some d, rfl, ?_, (h3.trans e2).setq (Nat.le_refl _)⟩
      rw [List.getElem?_set_self lq]
      have : l.take (i + 1) = l.take i ++ [d] := by rw [List.take_add_one, hd]; rfl
      rw [this]
      simp) s.fuel 0 (none :: rest) (S ++ [⟨false, []⟩]) (Nat.zero_le _) ⟨none, rfl, by simp [app_at], Ex.app⟩ (by omega)
  rw [List.take_length] at hq
  exact ⟨S', cmp_ok (pk := pk) (ρ := ρ) (S := S) (f := fs) (s := s) (S1 := S) (g := gn 0) (c := ttrue) (e := e) hf (by rw [hp]; exact el), hq, hx⟩
def wOk (z : Str) (n : Nat) : Bool := z.cps.toList.all (fun c => decide (48 ≤ c ∧ c ≤ 57)) && (decide (1 ≤ z.length ∧ z.length ≤ 16) && (PyData.strOk z && ((z == "0") == decide (n = 0)) && (match z.cps.toList with
  | c :: _ => decide (n = 0) || !((⟨#[c]⟩ : Str) == "0")
  | [] => false)))
theorem w_ok : ∀ n : Nat, n < 100 → wOk (ts (n : Int)) n = true := by decide +kernel
theorem fig : ∀ c : Nat, 48 ≤ c → c ≤ 57 → c ∈ (Str.ofString "0123456789").cps.toList := by
  intro c h1 h2
  have : ∀ c : Nat, c < 58 → 48 ≤ c → c ∈ (Str.ofString "0123456789").cps.toList := by decide +kernel
  exact this c (by omega) h1
theorem written_ok {i : Int} {S : Sto} (h0 : 0 ≤ i) (h1 : i ≤ 99) : ∃ S', f_is_written [.str (ts i)] S = .ok (.bl true) S' ∧ Ex S S' := by
  obtain ⟨n, rfl⟩ : ∃ n : Nat, i = n := ⟨i.toNat, by omega⟩
  have w := w_ok n (by omega)
  generalize ts (n : Int) = z at *
  unfold wOk at w
  simp only [Bool.and_eq_true, List.all_eq_true, decide_eq_true_eq, beq_iff_eq] at w
  obtain ⟨w1, ⟨w2, w3⟩, ⟨w4, w5⟩, w6⟩ := w
  have k1 : c_MOST_FIGURES = .int 16 := rfl
  have k2 : c_FIGURES = .str "0123456789" := rfl
  have len : lenD [.str z] S = .ok (.int z.length) S := if_pos (by omega)
  obtain ⟨S1, e1, q1, x1⟩ := comp_gen (s := srcS z) (l := z.cps.toList.map fun c => D.str ⟨#[c]⟩) (fs := isrcS (vr 0)) (pk := [none]) (e := o2 istD (vr 0) (cn c_FIGURES)) (ρ := [some (.str z)]) (S := S) [] (fun _ => .bl true)
    (by show (vr 0 [some (.str z)] S).bind _ = _; simp) (fun k S' _ => by show (z.cps[k]?).map _ = _; simp) (by show _ < z.cps.size + 1; simp) rfl (by have : z.cps.size = z.length := rfl; simp; omega) fun d hd S' _ => ⟨S', by
      obtain ⟨c, hc, rfl⟩ := List.mem_map.mp hd
      obtain ⟨c1, c2⟩ := w1 c hc
      have := StrLaws.found_one (Str.ofString "0123456789") c
      rw [decide_eq_true (fig c c1 c2)] at this
      have e : istD (.str ⟨#[c]⟩) (.str "0123456789") S' = .ok (.bl true) S' := by
        show Out.ok (D.bl (!(Builtin.Str.occurrences (Str.ofString "0123456789") ⟨#[c]⟩ 0 (Str.ofString "0123456789").length 1).isEmpty)) S' = _
        rw [this]
      rw [k2]
      simp [e], .refl⟩
  have all : allD [.lst S.length] S1 = .ok (.bl true) S1 := by
    have : (z.cps.toList.map fun c => D.str ⟨#[c]⟩).map (fun _ => D.bl true) = ((z.cps.toList.map fun _ => true)).map D.bl := by simp
    rw [this] at q1
    rw [all_l q1]
    simp
  refine ⟨S1, ?_, x1⟩
  refine (fnB_ap (m := 1) (b := b_is_written)).trans ?_
  show fin (b_is_written [some (.str z)] S) = _
  unfold b_is_written
  refine (fin_nx (ρ' := [some (.str z)]) (S' := S1) ((sif_f (S1 := S1) ?_).trans skip_ap)).trans ?_
  · have a1 : ch leD leD (cn (.int 1)) (b1 lenD (ac (vr 0) an)) (cn c_MOST_FIGURES) [some (.str z)] S = .ok (.bl true) S := by
      rw [k1]
      have d1 : (1 : Int) ≤ (z.length : Int) := by omega
      have d2 : (z.length : Int) ≤ 16 := by omega
      simp only [ch_ap, cn_ap, b1_ap, ac_ap, an_ap, vr_ap, List.getElem?_cons_zero, bind_ok, len, le_ii, decide_eq_true d1, decide_eq_true d2, if_true]
    have a2 : b1 allD (ac (cmp (isrcS (vr 0)) [none] (gn 0) ttrue (o2 istD (vr 0) (cn c_FIGURES))) an) [some (.str z)] S = .ok (.bl true) S1 := by
      rw [b1_ap, ac_ap, e1, bind_ok, an_ap, bind_ok, bind_ok, all]
    rw [to_ap, tn_ap, tb_ap, a1]
    simp only [bind_ok, Bool.not_true, Bool.false_eq_true, if_false]
    rw [tn_ap, tt_ap, a2]
    simp [truD]
  · have so : PyData.strOk (Str.ofString "0") = true := stok "0"
    have eq0 : eqD (.str z) (.str "0") S1 = .ok (.bl (z == "0")) S1 := eq_ss w4 so
    by_cases hz : n = 0
    · rw [decide_eq_true hz] at w5
      simp [eq0, w5, fin]
    · rw [decide_eq_false hz] at w5
      cases hl : z.cps.toList with
      | nil => rw [hl] at w6; cases w6
      | cons c r =>
        rw [hl] at w6
        simp only [decide_eq_false hz, Bool.false_or, Bool.not_eq_true'] at w6
        have gt : DL.getD (.str z) (.int 0) S1 = .ok (.str ⟨#[c]⟩) S1 := by
          show (if z.length ≤ 1000000 then (match atI z.cps.toList 0 with | some c => Out.ok (D.str ⟨#[c]⟩) S1 | none => .bad) else .bad) = _
          rw [if_pos (by omega), hl, show atI (c :: r) 0 = some c from atI_nn (by decide) rfl]
        have oc : PyData.strOk (⟨#[c]⟩ : Str) = true := by
          have := w1 c (by rw [hl]; exact List.mem_cons_self)
          show (#[c] : Array Nat).all _ = true
          simp
          omega
        have ne0 : neD (.str ⟨#[c]⟩) (.str "0") S1 = .ok (.bl (!((⟨#[c]⟩ : Str) == "0"))) S1 := by
          simp only [neD, toP]
          simp [SeqAt.shaped, PyData.eqv, PyData.canLay0, PyData.depth, oc, so]
        simp [eq0, w5, gt, ne0, w6, fin]
theorem slen_app (a b : Str) : (a ++ b).length = a.length + b.length := by
  show (a.cps ++ b.cps).size = a.cps.size + b.cps.size
  simp
theorem join_len {c : Nat} : ∀ ps : List Str, (∀ p ∈ ps, p.length ≤ 17) → (Str.join ⟨#[c]⟩ ps).length ≤ 18 * ps.length
  | [], _ => by show 0 ≤ _; omega
  | [x], h => by show x.length ≤ _; have := h x List.mem_cons_self; simp; omega
  | x :: y :: r, h => by
    show ((x ++ (⟨#[c]⟩ : Str)) ++ Str.join ⟨#[c]⟩ (y :: r)).length ≤ _
    rw [slen_app, slen_app]
    have := join_len (c := c) (y :: r) fun p hp => h p (List.mem_cons_of_mem _ hp)
    have := h x List.mem_cons_self
    have : (⟨#[c]⟩ : Str).length = 1 := rfl
    rw [List.length_cons]
    omega
theorem txt_eq {ps : List Str} : Txt.join (" " : Str) ps = Str.join ⟨#[32]⟩ ps := by
  have : ((" " : String) : Str) = (⟨#[32]⟩ : Str) := by decide +kernel
  rw [this]
  exact StrLaws.glued_eq_join _ _
theorem ts_free {i : Int} (k : Nat) (hk : k ≠ 45 ∧ (k < 48 ∨ 57 < k)) : k ∉ (ts i).cps.toList := int_text_free' k hk i
theorem spl2_ok {ws : List Str} {S : Sto} (h0 : ws ≠ []) (h1 : ws.length ≤ 200) (h2 : ∀ p ∈ ws, p.length ≤ 17) (h3 : ∀ p ∈ ws, 32 ∉ p.cps.toList) : splitD (.str (Txt.join " " ws)) [.str " "] S = .ok (.lst S.length) (S ++ [⟨false, ws.map D.str⟩]) := by
  have e32 : Str.ofString " " = (⟨#[32]⟩ : Str) := by decide +kernel
  have sp : Txt.split (Txt.join " " ws) (Str.ofString " ") = ws := by
    rw [txt_eq, e32]
    exact SP.split_join h0 h3
  have jl : (Txt.join (" " : Str) ws).length ≤ 18 * ws.length := by
    rw [txt_eq]
    exact join_len ws h2
  show (if okSplit (Txt.join " " ws) (Str.ofString " ") = true then _ else _) = _
  rw [if_pos (SP.okSplit_of (by decide +kernel) (by omega) (by rw [sp]; omega)), sp]
theorem join_l {S : Sto} {q : Nat} {fz : Bool} {ps : List Str} (e : S[q]? = some ⟨fz, ps.map D.str⟩) (h : ∀ p ∈ ps, p.length ≤ 17) (hl : ps.length ≤ 200) : joinD (.str " ") [.lst q] S = .ok (.str (Txt.join " " ps)) S := by
  simp only [joinD, e, strs_map]
  have := sum_le h
  have e1 : (" " : Str).length = 1 := rfl
  rw [if_pos (by rw [e1]; omega)]
theorem num_no {z : Str} {m : Int} {S : Sto} (hz : z = "up" ∨ z = "down") : ∃ S', f_number_of [.str z, .int 0, .int m] S = .ok .non S' ∧ Ex S S' := by
  have hc : ∀ c ∈ z.cps.toList, c ∉ (Str.ofString "0123456789").cps.toList := by
    rcases hz with rfl | rfl
    · decide +kernel
    · decide +kernel
  have hl : 1 ≤ z.length ∧ z.length ≤ 16 := by
    rcases hz with rfl | rfl
    · decide +kernel
    · decide +kernel
  have k1 : c_MOST_FIGURES = .int 16 := rfl
  have k2 : c_FIGURES = .str "0123456789" := rfl
  have len : lenD [.str z] S = .ok (.int z.length) S := if_pos (by omega)
  obtain ⟨S1, e1, q1, x1⟩ := comp_gen (s := srcS z) (l := z.cps.toList.map fun c => D.str ⟨#[c]⟩) (fs := isrcS (vr 0)) (pk := [none]) (e := o2 istD (vr 0) (cn c_FIGURES)) (ρ := [some (.str z)]) (S := S) [] (fun _ => .bl false)
    (by show (vr 0 [some (.str z)] S).bind _ = _; simp) (fun k S' _ => by show (z.cps[k]?).map _ = _; simp) (by show _ < z.cps.size + 1; simp) rfl (by have : z.cps.size = z.length := rfl; simp; omega) fun d hd S' _ => ⟨S', by
      obtain ⟨c, hc', rfl⟩ := List.mem_map.mp hd
      have := StrLaws.found_one (Str.ofString "0123456789") c
      rw [decide_eq_false (hc c hc')] at this
      have e : istD (.str ⟨#[c]⟩) (.str "0123456789") S' = .ok (.bl false) S' := by
        show Out.ok (D.bl (!(Builtin.Str.occurrences (Str.ofString "0123456789") ⟨#[c]⟩ 0 (Str.ofString "0123456789").length 1).isEmpty)) S' = _
        rw [this]
      rw [k2]
      simp [e], .refl⟩
  have all : allD [.lst S.length] S1 = .ok (.bl false) S1 := by
    have : (z.cps.toList.map fun c => D.str ⟨#[c]⟩).map (fun _ => D.bl false) = ((z.cps.toList.map fun _ => false)).map D.bl := by simp
    rw [this] at q1
    rw [all_l q1]
    rcases hz with rfl | rfl
    · rfl
    · rfl
  have wr : f_is_written [.str z] S = .ok (.bl false) S1 := by
    refine (fnB_ap (m := 1) (b := b_is_written)).trans ?_
    show fin (b_is_written [some (.str z)] S) = _
    unfold b_is_written
    refine fin_ret ((sif_t (S1 := S1) ?_).trans ?_)
    · have a1 : ch leD leD (cn (.int 1)) (b1 lenD (ac (vr 0) an)) (cn c_MOST_FIGURES) [some (.str z)] S = .ok (.bl true) S := by
        rw [k1]
        have d1 : (1 : Int) ≤ (z.length : Int) := by omega
        have d2 : (z.length : Int) ≤ 16 := by omega
        simp only [ch_ap, cn_ap, b1_ap, ac_ap, an_ap, vr_ap, List.getElem?_cons_zero, bind_ok, len, le_ii, decide_eq_true d1, decide_eq_true d2, if_true]
      have a2 : b1 allD (ac (cmp (isrcS (vr 0)) [none] (gn 0) ttrue (o2 istD (vr 0) (cn c_FIGURES))) an) [some (.str z)] S = .ok (.bl false) S1 := by
        rw [b1_ap, ac_ap, e1, bind_ok, an_ap, bind_ok, bind_ok, all]
      rw [to_ap, tn_ap, tb_ap, a1]
      simp only [bind_ok, Bool.not_true, Bool.false_eq_true, if_false]
      rw [tn_ap, tt_ap, a2]
      simp [truD]
    · simp
  refine ⟨S1, ?_, x1⟩
  refine (fnB_ap (m := 3) (b := b_number_of)).trans ?_
  show fin (b_number_of [some (.str z), some (.int 0), some (.int m)] S) = _
  unfold b_number_of
  refine fin_ret ((sif_t (S1 := S1) ?_).trans ?_)
  · simp [wr, truD]
  · simp
end Law
set_option Elab.async false
set_option linter.all false
set_option maxRecDepth 100000
namespace Law
open PySem PySem.Spec PyProof.Rows L2 DL
def wd : D → Option Str
  | .str z => some z
  | .int i => some (ts i)
  | _ => none
def okw (d : D) : Prop := d = .non ∨ (∃ z : Str, d = .str z) ∨ ∃ i : Int, d = .int i ∧ 0 ≤ i ∧ i ≤ 99
theorem strX_i {i : Int} {S : Sto} (h0 : 0 ≤ i) (h1 : i ≤ 99) : strXD [.int i] S = .ok (.str (ts i)) S := by
  show (if i.natAbs.log2 < 1920 then Out.ok (D.str (ts i)) S else .bad) = _
  exact if_pos (lg (Nat.lt_trans (m := 1001) (by omega) big200))
theorem flt_ok {l : List D} {f : Ev D} {ρ : Lc} {S : Sto} (hf : f ρ S = .ok (.tup l) S) (hl : l.length < 100) (hd : ∀ d ∈ l, okw d) :
    ∃ S', cmp (isrc f) [none] (gn 0) (tb (o2 notnD (vr 0) (cn .non))) (b1 strXD (ac (vr 0) an)) ρ S = .ok (.lst S.length) S' ∧ S'[S.length]? = some ⟨false, (l.filterMap wd).map D.str⟩ ∧ Ex S S' := by
  obtain ⟨ρ', S', el, g, hρ, hq, hx⟩ := for_inv (nxt := (srcT l).nxt) (g := gn 0) (b := cbody S.length (tb (o2 notnD (vr 0) (cn .non))) (b1 strXD (ac (vr 0) an))) (l := l)
    (fun i ρ S' => ∃ g, ρ = [g] ∧ S'[S.length]? = some ⟨false, ((l.take i).filterMap wd).map D.str⟩ ∧ Ex S S')
    (fun _ _ _ _ => rfl) (fun i d ρ S' hdi ⟨g, h1, h2, h3⟩ => by
      subst h1
      have hi : i < l.length := (List.getElem?_eq_some_iff.mp hdi).1
      have tk : l.take (i + 1) = l.take i ++ [d] := by rw [List.take_add_one, hdi]; rfl
      have lq : S.length < S'.length := (List.getElem?_eq_some_iff.mp h2).1
      have fl : (((l.take i).filterMap wd).map D.str).length < 1000000 := by
        have := List.length_filterMap_le wd (l.take i)
        rw [List.length_map]
        rw [List.length_take] at this
        omega
      rcases hd d (List.mem_of_getElem? hdi) with rfl | ⟨z, rfl⟩ | ⟨n, rfl, n0, n1⟩
      · refine ⟨[some .non], [some .non], S', rfl, cbody_no ?_, some .non, rfl, ?_, h3⟩
        · have : ∀ S : Sto, notnD .non .non S = .ok (.bl false) S := fun S => rfl
          simp [this]
        · have fn : List.filterMap wd [D.non] = [] := rfl
          rw [tk, List.filterMap_append, fn, List.append_nil]
          exact h2
      · refine ⟨[some (.str z)], [some (.str z)], _, rfl, cbody_yes (S1 := S') (S2 := S') (d := .str z) ?_ ?_ h2 fl, some (.str z), rfl, ?_, h3.setq (Nat.le_refl _)⟩
        · have : ∀ S : Sto, notnD (.str z) .non S = .ok (.bl true) S := fun S => rfl
          simp [this]
        · have : ∀ S : Sto, strXD [.str z] S = .ok (.str z) S := fun S => rfl
          simp [this]
        · rw [List.getElem?_set_self lq, tk, List.filterMap_append]
          simp [wd]
      · refine ⟨[some (.int n)], [some (.int n)], _, rfl, cbody_yes (S1 := S') (S2 := S') (d := .str (ts n)) ?_ ?_ h2 fl, some (.int n), rfl, ?_, h3.setq (Nat.le_refl _)⟩
        · have : ∀ S : Sto, notnD (.int n) .non S = .ok (.bl true) S := fun S => rfl
          simp [this]
        · simp [strX_i n0 n1]
        · rw [List.getElem?_set_self lq, tk, List.filterMap_append]
          simp [wd]) (srcT l).fuel 0 [none] (S ++ [⟨false, []⟩]) (Nat.zero_le _) ⟨none, rfl, by simp [app_at], Ex.app⟩ fuelT
  rw [List.take_length] at hq
  exact ⟨S', cmp_ok (pk := [none]) (ρ := ρ) (S := S) (f := isrc f) (s := srcT l) (S1 := S) (g := gn 0) (by rw [isrc_ap, hf]; rfl) el, hq, hx⟩
def its : Pl → List D
  | .e => [.str "end"]
  | .c => [.str "chamber"]
  | .p br de ro pr => [.str "pound", .int br, .int de, .int ro, pr]
theorem its_eq {p : Pl} : p.toD = .tup (its p) := by cases p <;> rfl
theorem its_ok {p : Pl} (h : p.ok) : (its p).length < 100 ∧ ∀ d ∈ its p, okw d := by
  cases p with
  | e => exact ⟨by decide, fun d hd => by
      have : d = .str "end" := by simpa [its] using hd
      exact .inr (.inl ⟨_, this⟩)⟩
  | c => exact ⟨by decide, fun d hd => by
      have : d = .str "chamber" := by simpa [its] using hd
      exact .inr (.inl ⟨_, this⟩)⟩
  | p br de ro pr =>
    obtain ⟨a1, a2, a3, a4, a5, a6, a7⟩ := h
    refine ⟨by simp [its], fun d hd => ?_⟩
    simp only [its, List.mem_cons, List.not_mem_nil, or_false] at hd
    rcases hd with rfl | rfl | rfl | rfl | rfl
    · exact .inr (.inl ⟨_, rfl⟩)
    · exact .inr (.inr ⟨_, rfl, by omega, by omega⟩)
    · exact .inr (.inr ⟨_, rfl, by omega, by omega⟩)
    · exact .inr (.inr ⟨_, rfl, by omega, by omega⟩)
    · rcases a7 with rfl | ⟨i, rfl, i0, i1⟩
      · exact .inl rfl
      · exact .inr (.inr ⟨_, rfl, i0, i1⟩)
def pw (p : Pl) : List Str := (its p).filterMap wd
theorem pwords_ok {p : Pl} {S : Sto} (h : p.ok) : ∃ S', f_place_words [p.toD] S = .ok (.lst S.length) S' ∧ S'[S.length]? = some ⟨false, (pw p).map D.str⟩ ∧ Ex S S' := by
  rw [its_eq]
  obtain ⟨S', e, q, x⟩ := flt_ok (l := its p) (f := vr 0) (ρ := [some (.tup (its p))]) (S := S) (by simp) (its_ok h).1 (its_ok h).2
  refine ⟨S', ?_, q, x⟩
  refine (fnB_ap (m := 1) (b := b_place_words)).trans ?_
  show fin (b_place_words [some (.tup (its p))] S) = _
  unfold b_place_words
  rw [sret_ap, e]
  rfl
theorem pw_len {p : Pl} : 1 ≤ (pw p).length ∧ (pw p).length ≤ 5 := by
  cases p with
  | e => exact ⟨by decide, by decide⟩
  | c => exact ⟨by decide, by decide⟩
  | p br de ro pr =>
    have e : pw (.p br de ro pr) = [Str.ofString "pound", ts br, ts de, ts ro] ++ [pr].filterMap wd := rfl
    have := List.length_filterMap_le wd [pr]
    rw [e, List.length_append]
    simp only [List.length_cons, List.length_nil] at this ⊢
    omega
def Wg (z : Str) : Prop := z.length ≤ 17 ∧ 32 ∉ z.cps.toList ∧ PyData.strOk z = true
theorem wg_s (s : String) (h : (decide ((Str.ofString s).length ≤ 17) && decide (32 ∉ (Str.ofString s).cps.toList)) = true) : Wg (Str.ofString s) := by
  rw [Bool.and_eq_true, decide_eq_true_eq, decide_eq_true_eq] at h
  exact ⟨h.1, h.2, stok s⟩
theorem wg_i {i : Int} (h0 : 0 ≤ i) (h1 : i ≤ 99) : Wg (ts i) := ⟨by have := ts_len h0 (by omega : i ≤ 1000); omega, ts_free 32 ⟨by decide, by decide⟩, stok _⟩
theorem pw_wg {p : Pl} (h : p.ok) : ∀ z ∈ pw p, Wg z := fun z hz => by
  obtain ⟨d, hd, e⟩ := List.mem_filterMap.mp hz
  cases p with
  | e =>
    have : d = .str "end" := by simpa [its] using hd
    subst this
    cases (Option.some.inj e)
    exact wg_s "end" (by decide +kernel)
  | c =>
    have : d = .str "chamber" := by simpa [its] using hd
    subst this
    cases (Option.some.inj e)
    exact wg_s "chamber" (by decide +kernel)
  | p br de ro pr =>
    obtain ⟨a1, a2, a3, a4, a5, a6, a7⟩ := h
    simp only [its, List.mem_cons, List.not_mem_nil, or_false] at hd
    rcases hd with rfl | rfl | rfl | rfl | rfl
    · cases (Option.some.inj e); exact wg_s "pound" (by decide +kernel)
    · cases (Option.some.inj e); exact wg_i (by omega) (by omega)
    · cases (Option.some.inj e); exact wg_i (by omega) (by omega)
    · cases (Option.some.inj e); exact wg_i (by omega) (by omega)
    · rcases a7 with rfl | ⟨i, rfl, i0, i1⟩
      · cases e
      · cases (Option.some.inj e); exact wg_i i0 i1
def tw (gs : List Str) (ps : List Pl) : List Str := (List.zipWith (fun g p => g :: pw p) gs ps).flatten
theorem tw_step {gs : List Str} {ps : List Pl} {i : Nat} {g : Str} {p : Pl} (hg : gs[i]? = some g) (hp : ps[i]? = some p) : tw (gs.take (i + 1)) (ps.take (i + 1)) = tw (gs.take i) (ps.take i) ++ (g :: pw p) := by
  unfold tw
  rw [List.take_add_one, List.take_add_one, hg, hp]
  have hl : (gs.take i).length = (ps.take i).length := by
    have := (List.getElem?_eq_some_iff.mp hg).1
    have := (List.getElem?_eq_some_iff.mp hp).1
    rw [List.length_take, List.length_take]
    omega
  rw [List.zipWith_append hl]
  simp
def UDs (gs : List Str) : Prop := ∀ g ∈ gs, g = "up" ∨ g = "down"
theorem ud_wg {g : Str} (h : g = "up" ∨ g = "down") : Wg g := by
  rcases h with rfl | rfl
  · exact wg_s "up" (by decide +kernel)
  · exact wg_s "down" (by decide +kernel)
theorem tw_len (gs : List Str) (ps : List Pl) : (tw gs ps).length ≤ 6 * gs.length := by
  unfold tw
  induction gs generalizing ps with
  | nil => simp
  | cons g gs ih =>
    cases ps with
    | nil => simp
    | cons p ps =>
      have := ih ps
      have := (pw_len (p := p)).2
      rw [List.zipWith_cons_cons, List.flatten_cons, List.length_append, List.length_cons, List.length_cons]
      omega
theorem tw_wg {gs : List Str} {ps : List Pl} (hg : UDs gs) (hp : ∀ p ∈ ps, p.ok) : ∀ z ∈ tw gs ps, Wg z := by
  unfold tw
  induction gs generalizing ps with
  | nil => intro z hz; simp at hz
  | cons g gs ih =>
    cases ps with
    | nil => intro z hz; simp at hz
    | cons p ps =>
      intro z hz
      rw [List.zipWith_cons_cons, List.flatten_cons, List.mem_append, List.mem_cons] at hz
      rcases hz with (rfl | hz) | hz
      · exact ud_wg (hg _ List.mem_cons_self)
      · exact pw_wg (hp p List.mem_cons_self) z hz
      · exact ih (fun g' h' => hg g' (List.mem_cons_of_mem _ h')) (fun p' h' => hp p' (List.mem_cons_of_mem _ h')) z hz
end Law
set_option Elab.async false
set_option linter.all false
set_option maxRecDepth 100000
namespace Law
open PySem PySem.Spec PyProof.Rows L2 DL
theorem zip_get {l m : List D} {k : Nat} : zipAt l m k = (List.zipWith (fun a b => D.tup [a, b]) l m)[k]? := by
  rw [List.getElem?_zipWith]
  unfold zipAt
  cases l[k]? <;> cases m[k]? <;> rfl
def cnl (p0 : Pl) (tl : List Pl) (gs : List Str) : D := .tup [.tup ((p0 :: tl).map Pl.toD), .tup (gs.map D.str)]
def words (p0 : Pl) (tl : List Pl) (gs : List Str) (i : Nat) : List Str := pw p0 ++ tw (gs.take i) (tl.take i)
theorem words_len {p0 : Pl} {tl : List Pl} {gs : List Str} {i : Nat} (h : gs.length ≤ 12) : (words p0 tl gs i).length ≤ 77 := by
  have := (pw_len (p := p0)).2
  have := tw_len (gs.take i) (tl.take i)
  rw [List.length_take] at this
  unfold words
  rw [List.length_append]
  omega
theorem words_wg {p0 : Pl} {tl : List Pl} {gs : List Str} {i : Nat} (hp : ∀ p ∈ p0 :: tl, p.ok) (hg : UDs gs) : ∀ z ∈ words p0 tl gs i, Wg z := fun z hz => by
  rcases List.mem_append.mp hz with hz | hz
  · exact pw_wg (hp p0 List.mem_cons_self) z hz
  · exact tw_wg (fun g h => hg g (List.mem_of_mem_take h)) (fun p h => hp p (List.mem_cons_of_mem _ (List.mem_of_mem_take h))) z hz
theorem ext_l {S : Sto} {i j : Nat} {a b : List D} (h1 : S[i]? = some ⟨false, a⟩) (h2 : S[j]? = some ⟨false, b⟩) (h : a.length + b.length ≤ 1000000) : extD (.lst i) [.lst j] S = .ok .non (S.set i ⟨false, a ++ b⟩) := by
  show (match S[i]?, S[j]? with
    | some c, some e => if (c.fz = false ∧ e.fz = false) ∧ c.xs.length + e.xs.length ≤ 1000000 then Out.ok D.non (S.set i ⟨false, c.xs ++ e.xs⟩) else .bad
    | _, _ => .bad) = _
  rw [h1, h2]
  exact if_pos ⟨⟨rfl, rfl⟩, h⟩
theorem ctext_ok {p0 : Pl} {tl : List Pl} {gs : List Str} {S : Sto} (hp : ∀ p ∈ p0 :: tl, p.ok) (hg : UDs gs) (hl : gs.length = tl.length) (h12 : gs.length ≤ 12) :
    ∃ S', f_canal_text [cnl p0 tl gs] S = .ok (.str (Txt.join " " (words p0 tl gs gs.length))) S' ∧ Ex S S' := by
  obtain ⟨S1, e1, q1, x1⟩ := pwords_ok (p := p0) (S := S) (hp p0 List.mem_cons_self)
  have wl := fun i => words_len (p0 := p0) (tl := tl) (i := i) h12
  have zl : (List.zipWith (fun a b => D.tup [a, b]) (gs.map D.str) (tl.map Pl.toD)).length = gs.length := by simp [hl]
  obtain ⟨ρ2, S2, ef, y4, y5, eρ, q2, x2⟩ := for_inv (nxt := fun k _ => zipAt (gs.map D.str) (tl.map Pl.toD) k) (g := gt (gcons (gn 4) (gcons (gn 5) gnil)) 2) (b := lb_canal_text_1) (l := List.zipWith (fun a b => D.tup [a, b]) (gs.map D.str) (tl.map Pl.toD))
    (fun i ρ S' => ∃ y4 y5, ρ = [some (cnl p0 tl gs), some (.tup ((p0 :: tl).map Pl.toD)), some (.tup (gs.map D.str)), some (.lst S.length), y4, y5] ∧ S'[S.length]? = some ⟨false, (words p0 tl gs i).map D.str⟩ ∧ Ex S S')
    (fun _ _ _ _ => zip_get) (fun i d ρ S' hd ⟨y4, y5, h1, h2, h3⟩ => by
      subst h1
      have hi : i < gs.length := by have := (List.getElem?_eq_some_iff.mp hd).1; omega
      obtain ⟨g, eg⟩ : ∃ g, gs[i]? = some g := ⟨_, List.getElem?_eq_getElem hi⟩
      obtain ⟨p, ep⟩ : ∃ p, tl[i]? = some p := ⟨_, List.getElem?_eq_getElem (by omega)⟩
      have ed : d = .tup [.str g, p.toD] := by
        rw [List.getElem?_zipWith, List.getElem?_map, List.getElem?_map, eg, ep] at hd
        exact (Option.some.inj hd).symm
      subst ed
      have w1 := wl i
      have pk := hp p (List.mem_cons_of_mem _ (List.mem_of_getElem? ep))
      have a1 := app_l (d := .str g) h2 (by rw [List.length_map]; omega)
      have i1 := isL h2
      have lq : S.length < S'.length := (List.getElem?_eq_some_iff.mp h2).1
      have h4 : (S'.set S.length ⟨false, (words p0 tl gs i).map D.str ++ [.str g]⟩)[S.length]? = some ⟨false, (words p0 tl gs i).map D.str ++ [.str g]⟩ := List.getElem?_set_self lq
      have x4 : Ex S (S'.set S.length ⟨false, (words p0 tl gs i).map D.str ++ [.str g]⟩) := h3.setq (Nat.le_refl _)
      generalize S'.set S.length ⟨false, (words p0 tl gs i).map D.str ++ [.str g]⟩ = S4 at *
      obtain ⟨S5, e5, q5, x5⟩ := pwords_ok (p := p) (S := S4) pk
      have h5 := x5.at h4
      have i5 := isL h4
      have pl := (pw_len (p := p)).2
      have a5 := ext_l h5 q5 (by simp; omega)
      have lq5 : S.length < S5.length := (List.getElem?_eq_some_iff.mp h5).1
      refine ⟨[some (cnl p0 tl gs), some (.tup ((p0 :: tl).map Pl.toD)), some (.tup (gs.map D.str)), some (.lst S.length), some (.str g), some p.toD], [some (cnl p0 tl gs), some (.tup ((p0 :: tl).map Pl.toD)), some (.tup (gs.map D.str)), some (.lst S.length), some (.str g), some p.toD], S5.set S.length ⟨false, ((words p0 tl gs i).map D.str ++ [.str g]) ++ (pw p).map D.str⟩, rfl, ?_, some (.str g), some p.toD, rfl, ?_, (x4.trans x5).setq (Nat.le_refl _)⟩
      · generalize p.toD = pd at *
        generalize cnl p0 tl gs = cd at *
        generalize (p0 :: tl).map Pl.toD = pds at *
        unfold lb_canal_text_1
        refine (sq_nx (ρ' := [some cd, some (.tup pds), some (.tup (gs.map D.str)), some (.lst S.length), some (.str g), some pd]) (S1 := S4) (by simp [i1, a1])).trans ?_
        simp [i5, e5, a5]
      · rw [List.getElem?_set_self lq5]
        unfold words
        rw [tw_step eg ep]
        simp) (gs.length + 1) 0 [some (cnl p0 tl gs), some (.tup ((p0 :: tl).map Pl.toD)), some (.tup (gs.map D.str)), some (.lst S.length), none, none] S1 (Nat.zero_le _) ⟨none, none, rfl, by simpa [words, tw] using q1, x1⟩ (by omega)
  subst eρ
  rw [zl] at q2
  have jl := join_l q2 (fun z hz => (words_wg hp hg z hz).1) (by have := wl gs.length; omega)
  refine ⟨S2, ?_, x2⟩
  have gp : ∀ S : Sto, DL.getD (.tup ((p0 :: tl).map Pl.toD)) (.int 0) S = .ok p0.toD S := fun S => g0
  have sl : ∀ S : Sto, slD2 (.tup ((p0 :: tl).map Pl.toD)) (some 1) none S = .ok (.tup (tl.map Pl.toD)) S := fun S => sl_from1
  refine (fnB_ap (m := 6) (b := b_canal_text)).trans ?_
  show fin (b_canal_text [some (cnl p0 tl gs), none, none, none, none, none] S) = _
  unfold b_canal_text
  refine (fin_nx (ρ' := [some (cnl p0 tl gs), some (.tup ((p0 :: tl).map Pl.toD)), some (.tup (gs.map D.str)), none, none, none]) (S' := S) (by simp [gt, gcons, gnil, cnl])).trans ?_
  generalize cnl p0 tl gs = cd at *
  generalize (p0 :: tl).map Pl.toD = pds at *
  generalize p0.toD = pd at *
  refine (fin_nx (ρ' := [some cd, some (.tup pds), some (.tup (gs.map D.str)), some (.lst S.length), none, none]) (S' := S1) (by simp [gp, e1])).trans ?_
  refine (fin_nx (ρ' := [some cd, some (.tup pds), some (.tup (gs.map D.str)), some (.lst S.length), y4, y5]) (S' := S2) ?_).trans ?_
  · have ei : izip (ac (vr 2) (ac (sl2 (vr 1) (osome (cn (.int 1))) onone) an)) [some cd, some (.tup pds), some (.tup (gs.map D.str)), some (.lst S.length), none, none] S1 = .ok ⟨fun k _ => zipAt (gs.map D.str) (tl.map Pl.toD) k, gs.length + 1⟩ S1 := by
      simp [izip, sl]
    rw [sfor_ap, ei]
    exact ef
  · simp [mts, isStr, jl, fin]
end Law
set_option Elab.async false
set_option linter.all false
set_option maxRecDepth 100000
namespace Law
open PySem PySem.Spec PyProof.Rows L2 DL
def preW (p0 : Pl) (tl : List Pl) (gs : List Str) : Nat → List Str
  | 0 => []
  | i + 1 => words p0 tl gs i
theorem preW_len {p0 : Pl} {tl : List Pl} {gs : List Str} {i : Nat} (h : gs.length ≤ 12) : (preW p0 tl gs i).length ≤ 77 := by
  cases i with
  | zero => simp [preW]
  | succ i => exact words_len h
theorem lstep_ok {p0 p : Pl} {tl : List Pl} {gs : List Str} {i q : Nat} {y2 y3 : Option D} {S0 S : Sto} (hp : ∀ p ∈ p0 :: tl, p.ok) (h12 : gs.length ≤ 12) (hl : gs.length = tl.length) (ep : (p0 :: tl)[i]? = some p)
    (hq : S[q]? = some ⟨false, (preW p0 tl gs i).map D.str⟩) (hx : Ex S0 S) (h0 : S0.length ≤ q) :
    ∃ q' S', lb__law_words_1 [some (cnl p0 tl gs), some (.lst q), some (.int i), some p.toD] S = .nx [some (cnl p0 tl gs), some (.lst q'), some (.int i), some p.toD] S' ∧ S'[q']? = some ⟨false, (preW p0 tl gs (i + 1)).map D.str⟩ ∧ Ex S0 S' ∧ S0.length ≤ q' := by
  have pk := hp p (List.mem_of_getElem? ep)
  have wl := preW_len (p0 := p0) (tl := tl) (i := i) h12
  have pl := (pw_len (p := p)).2
  -- the gate
  obtain ⟨S1, pre, e1, q1, x1, lpre, hpre⟩ : ∃ (S1 : Sto) (pre : List Str), sif (tb (o2 gtD (vr 2) (cn (.int 0)))) (sx (mt appD (vr 1) (ac (o2 DL.getD (o2 DL.getD (vr 0) (cn (.int 1))) (o2 subD (vr 2) (cn (.int 1)))) an))) DL.skip [some (cnl p0 tl gs), some (.lst q), some (.int i), some p.toD] S = .nx [some (cnl p0 tl gs), some (.lst q), some (.int i), some p.toD] S1 ∧ S1[q]? = some ⟨false, pre.map D.str⟩ ∧ Ex S0 S1 ∧ pre.length ≤ 78 ∧ preW p0 tl gs (i + 1) = pre ++ pw p := by
    cases i with
    | zero =>
      have : p0 = p := by simpa using ep
      subst this
      exact ⟨S, [], by simp, hq, hx, by simp, by simp [preW, words, tw]⟩
    | succ j =>
      have ep' : tl[j]? = some p := by simpa using ep
      have hj : j < gs.length := by have := (List.getElem?_eq_some_iff.mp ep').1; omega
      obtain ⟨g, eg⟩ : ∃ g, gs[j]? = some g := ⟨_, List.getElem?_eq_getElem hj⟩
      have gg : ∀ S : Sto, DL.getD (.tup (gs.map D.str)) (.int (((j + 1 : Nat) : Int) - 1)) S = .ok (.str g) S := fun S => get_t (atI_nn (by omega) (by rw [show (((j + 1 : Nat) : Int) - 1).toNat = j by omega, List.getElem?_map, eg]; rfl))
      have c1 : ∀ S : Sto, DL.getD (cnl p0 tl gs) (.int 1) S = .ok (.tup (gs.map D.str)) S := fun S => g1
      have a1 := app_l (d := .str g) hq (by rw [List.length_map]; omega)
      have i1 := isL hq
      have lq : q < S.length := (List.getElem?_eq_some_iff.mp hq).1
      refine ⟨S.set q ⟨false, (preW p0 tl gs (j + 1)).map D.str ++ [.str g]⟩, preW p0 tl gs (j + 1) ++ [g], ?_, ?_, hx.setq h0, by simp; omega, ?_⟩
      · generalize cnl p0 tl gs = cd at *
        generalize p.toD = pd at *
        have hgt : (0 : Int) < ((j + 1 : Nat) : Int) := by omega
        refine (sif_t (S1 := S) (by simp only [tb_ap, o2_ap, vr_ap, cn_ap, List.getElem?_cons_zero, List.getElem?_cons_succ, bind_ok, gt_ii, decide_eq_true hgt])).trans ?_
        simp only [sx_ap, mt_ap, ac_ap, an_ap, o2_ap, vr_ap, cn_ap, List.getElem?_cons_zero, List.getElem?_cons_succ, bind_ok, i1, if_true, c1, sub_ii, gg, a1, bindS_ok]
      · rw [List.getElem?_set_self lq]; simp
      · show words p0 tl gs (j + 1) = _
        unfold preW words
        rw [tw_step eg ep']
        simp
  rw [its_eq] at e1
  rw [its_eq]
  obtain ⟨S2, e2, q2, x2⟩ := flt_ok (l := its p) (f := vr 3) (ρ := [some (cnl p0 tl gs), some (.lst q), some (.int i), some (.tup (its p))]) (S := S1) (by simp) (its_ok pk).1 (its_ok pk).2
  have q1' := x2.at q1
  have q2 : S2[S1.length]? = some ⟨false, (pw p).map D.str⟩ := q2
  have ad := add_ll q1' q2 (by simp; omega)
  refine ⟨S2.length, S2 ++ [⟨false, pre.map D.str ++ (pw p).map D.str⟩], ?_, ?_, (x1.trans x2).trans Ex.app, ?_⟩
  · unfold lb__law_words_1
    refine (sq_nx e1).trans ?_
    rw [sa_ap, o2_ap]
    simp only [vr_ap, List.getElem?_cons_zero, List.getElem?_cons_succ, bind_ok]
    rw [e2, bind_ok]
    rw [ad]
    rfl
  · rw [app_at, hpre, List.map_append]
  · have := (x1.trans x2).len
    exact this
theorem lwords_ok {p0 : Pl} {tl : List Pl} {gs : List Str} {S : Sto} (hp : ∀ p ∈ p0 :: tl, p.ok) (hl : gs.length = tl.length) (h12 : gs.length ≤ 12) :
    ∃ q S', f__law_words [cnl p0 tl gs] S = .ok (.lst q) S' ∧ S'[q]? = some ⟨false, (words p0 tl gs gs.length).map D.str⟩ ∧ Ex S S' := by
  have c0 : ∀ S : Sto, DL.getD (cnl p0 tl gs) (.int 0) S = .ok (.tup ((p0 :: tl).map Pl.toD)) S := fun S => g0
  have ml : (((p0 :: tl).map Pl.toD).mapIdx fun k d => D.tup [.int k, d]).length = gs.length + 1 := by simp [hl]
  obtain ⟨ρ2, S2, ef, q, y2, y3, eρ, q2, x2, _⟩ := for_inv (nxt := fun k _ => (((p0 :: tl).map Pl.toD)[k]?).map fun d => D.tup [.int k, d]) (g := gt (gcons (gn 2) (gcons (gn 3) gnil)) 2) (b := lb__law_words_1) (l := ((p0 :: tl).map Pl.toD).mapIdx fun k d => D.tup [.int k, d])
    (fun i ρ S' => ∃ q y2 y3, ρ = [some (cnl p0 tl gs), some (.lst q), y2, y3] ∧ S'[q]? = some ⟨false, (preW p0 tl gs i).map D.str⟩ ∧ Ex S S' ∧ S.length ≤ q)
    (fun k _ _ _ => by show ((((p0 :: tl).map Pl.toD)[k]?).map fun d => D.tup [.int k, d]) = _; rw [List.getElem?_mapIdx]) (fun i d ρ S' hd ⟨q, y2, y3, h1, h2, h3, h4⟩ => by
      subst h1
      rw [List.getElem?_mapIdx, List.getElem?_map] at hd
      obtain ⟨p, ep, ed⟩ : ∃ p, (p0 :: tl)[i]? = some p ∧ d = .tup [.int i, p.toD] := by
        cases z : (p0 :: tl)[i]? with
        | none => rw [z] at hd; cases hd
        | some p => rw [z] at hd; exact ⟨p, rfl, (Option.some.inj hd).symm⟩
      subst ed
      obtain ⟨q', S'', c1, c2, c3, c4⟩ := lstep_ok (S0 := S) (y2 := y2) (y3 := y3) hp h12 hl ep h2 h3 h4
      exact ⟨_, _, S'', rfl, c1, q', _, _, rfl, c2, c3, c4⟩) (((p0 :: tl).map Pl.toD).length + 1) 0 [some (cnl p0 tl gs), some (.lst S.length), none, none] (S ++ [⟨false, []⟩]) (Nat.zero_le _) ⟨S.length, none, none, rfl, app_at, Ex.app, Nat.le_refl _⟩ (by simp)
  subst eρ
  rw [ml] at q2
  refine ⟨q, S2, ?_, q2, x2⟩
  refine (fnB_ap (m := 4) (b := b__law_words)).trans ?_
  show fin (b__law_words [some (cnl p0 tl gs), none, none, none] S) = _
  unfold b__law_words
  generalize cnl p0 tl gs = cd at *
  refine (fin_nx (ρ' := [some cd, some (.lst S.length), none, none]) (S' := S ++ [⟨false, []⟩]) (by simp)).trans ?_
  refine (fin_nx (ρ' := [some cd, some (.lst q), y2, y3]) (S' := S2) ?_).trans ?_
  · have ei : ienumerate (ac (o2 DL.getD (vr 0) (cn (.int 0))) an) [some cd, some (.lst S.length), none, none] (S ++ [⟨false, []⟩]) = .ok ⟨fun k _ => (((p0 :: tl).map Pl.toD)[k]?).map fun d => D.tup [.int k, d], ((p0 :: tl).map Pl.toD).length + 1⟩ (S ++ [⟨false, []⟩]) := by
      show (ac (o2 DL.getD (vr 0) (cn (.int 0))) an [some cd, some (.lst S.length), none, none] (S ++ [⟨false, []⟩])).bind _ = _
      simp only [ac_ap, an_ap, o2_ap, vr_ap, cn_ap, List.getElem?_cons_zero, bind_ok, c0]
    rw [sfor_ap, ei]
    exact ef
  · simp [fin]
end Law
set_option Elab.async false
set_option linter.all false
set_option maxRecDepth 100000
namespace Law
open PySem PySem.Spec PyProof.Rows L2 DL
theorem at_last {α : Type} {l : List α} {a : α} : atI (l ++ [a]) (-1) = some a := by
  show (ixN (l ++ [a]).length (-1)).bind (fun j => (l ++ [a])[j]?) = _
  unfold ixN
  rw [if_neg (by decide), if_pos (by simp; omega), Option.bind_some]
  have : ((-1 : Int) + ((l ++ [a]).length : Nat)).toNat = l.length := by simp; omega
  rw [this, List.getElem?_append_right (Nat.le_refl _)]
  simp
theorem at_ok {S : Sto} {w a : Nat} {W : List Str} {z : Str} (hw : S[w]? = some ⟨false, W.map D.str⟩) (h : W[a]? = some z) : f_word_at [.lst w, .int a] S = .ok (.str z) S := by
  have hl : a < W.length := (List.getElem?_eq_some_iff.mp h).1
  have ln : lenD [.lst w] S = .ok (.int W.length) S := by rw [len_l hw, List.length_map]
  have gg : DL.getD (.lst w) (.int a) S = .ok (.str z) S := get_l hw (atI_nn (by omega) (by rw [Int.toNat_natCast, List.getElem?_map, h]; rfl))
  have hne : ¬ ((a : Int) = (W.length : Int)) := by omega
  refine (fnB_ap (m := 2) (b := b_word_at)).trans ?_
  show fin (b_word_at [some (.lst w), some (.int a)] S) = _
  unfold b_word_at
  refine (fin_nx (ρ' := [some (.lst w), some (.int a)]) (S' := S) ((sif_f (S1 := S) ?_).trans skip_ap)).trans ?_
  · simp only [tb_ap, o2_ap, b1_ap, ac_ap, an_ap, vr_ap, List.getElem?_cons_zero, List.getElem?_cons_succ, bind_ok, ln, eq_ii, decide_eq_false hne]
  · simp [gg, fin]
theorem num_ok2 {i lo m : Int} {S : Sto} (h0 : 0 ≤ i) (h1 : i ≤ 99) (hlo : lo ≤ i) (hm : i ≤ m) : ∃ S', f_number_of [.str (ts i), .int lo, .int m] S = .ok (.int i) S' ∧ Ex S S' := by
  obtain ⟨S1, e1, x1⟩ := written_ok (S := S) h0 h1
  have tl := ts_len h0 (by omega)
  have rd : ∀ S, intSD [.str (ts i)] S = .ok (.int i) S := fun S => by
    have := PySem.W.KIN.num_reads h0 (by omega)
    simp only [intSD]
    rw [show PySem.intText? (ts i) = some i from this]
    exact if_pos (by omega)
  refine ⟨S1, ?_, x1⟩
  refine (fnB_ap (m := 3) (b := b_number_of)).trans ?_
  show fin (b_number_of [some (.str (ts i)), some (.int lo), some (.int m)] S) = _
  unfold b_number_of
  refine (fin_nx (ρ' := [some (.str (ts i)), some (.int lo), some (.int m)]) (S' := S1) ((sif_f (S1 := S1) ?_).trans skip_ap)).trans ?_
  · simp [e1, truD, rd, hlo, hm]
  · simp [rd, fin]
theorem rnum_ok {S : Sto} {w a : Nat} {W : List Str} {i lo m : Int} (hw : S[w]? = some ⟨false, W.map D.str⟩) (h : W[a]? = some (ts i)) (h0 : 0 ≤ i) (h1 : i ≤ 99) (hlo : lo ≤ i) (hm : i ≤ m) : ∃ S', f_read_number [.lst w, .int a, .int lo, .int m] S = .ok (.int i) S' ∧ Ex S S' := by
  have wa := at_ok hw h
  obtain ⟨S1, e1, x1⟩ := num_ok2 (lo := lo) (m := m) (S := S) h0 h1 hlo hm
  have isn : ∀ S : Sto, isnD (.int i) .non S = .ok (.bl false) S := fun S => rfl
  refine ⟨S1, ?_, x1⟩
  refine (fnB_ap (m := 5) (b := b_read_number)).trans ?_
  show fin (b_read_number [some (.lst w), some (.int a), some (.int lo), some (.int m), none] S) = _
  unfold b_read_number
  refine (fin_nx (ρ' := [some (.lst w), some (.int a), some (.int lo), some (.int m), some (.int i)]) (S' := S1) (by simp [wa, e1])).trans ?_
  refine (fin_nx (ρ' := [some (.lst w), some (.int a), some (.int lo), some (.int m), some (.int i)]) (S' := S1) ((sif_f (S1 := S1) (by simp [isn])).trans skip_ap)).trans ?_
  simp [fin]
def Nxt (o : Option Str) : Prop := o = none ∨ ∃ g : Str, o = some g ∧ (g = "up" ∨ g = "down")
theorem rpound_ok {S : Sto} {w a : Nat} {W : List Str} {br de ro : Int} {pr : D} (hp : Pl.ok (.p br de ro pr)) (hw : S[w]? = some ⟨false, W.map D.str⟩) (h1 : W[a]? = some (ts br)) (h2 : W[a + 1]? = some (ts de)) (h3 : W[a + 2]? = some (ts ro))
    (h4 : (∃ i, pr = .int i ∧ W[a + 3]? = some (ts i)) ∨ (pr = .non ∧ Nxt (W[a + 3]?))) :
    ∃ S', f_read_pound [.lst w, .int a] S = .ok (.tup [.tup [.str "pound", .int br, .int de, .int ro, pr], .int ((a : Int) + (pw (.p br de ro pr)).length - 1)]) S' ∧ Ex S S' := by
  obtain ⟨a1, a2, a3, a4, a5, a6, a7⟩ := hp
  have k1 : c_MOST_BRIM = .int 9 := rfl
  have k2 : c_MOST_ROOM = .int 4 := rfl
  have k3 : c_MOST_PRICE = .int 99 := rfl
  obtain ⟨S1, e1, x1⟩ := rnum_ok (lo := 1) (m := 9) hw h1 (by omega) (by omega) a1 a2
  have w1 := x1.at hw
  obtain ⟨S2, e2, x2⟩ := rnum_ok (lo := 0) (m := br) w1 h2 a3 (by omega) a3 a4
  have w2 := x2.at w1
  obtain ⟨S3, e3, x3⟩ := rnum_ok (lo := 1) (m := 4) w2 h3 (by omega) (by omega) a5 a6
  have w3 := x3.at w2
  have e2 : f_read_number [.lst w, .int ((a : Int) + 1), .int 0, .int br] S1 = .ok (.int de) S2 := e2
  have e3 : f_read_number [.lst w, .int ((a : Int) + 2), .int 1, .int 4] S2 = .ok (.int ro) S3 := e3
  have ln : lenD [.lst w] S3 = .ok (.int W.length) S3 := by rw [len_l w3, List.length_map]
  have isn : ∀ (i : Int) (S : Sto), notnD (.int i) .non S = .ok (.bl true) S := fun i S => rfl
  have isn2 : ∀ S : Sto, notnD .non .non S = .ok (.bl false) S := fun S => rfl
  have start : ∀ (F : Sv) (out : Out D), fin (F [some (.lst w), some (.int a), some (.int br), some (.int de), some (.int ro), some (.int ((a : Int) + 3)), some .non] S3) = out →
      fin ((sq (sa (cl 4 (noExc f_read_number) (ac (vr 0) (ac (vr 1) (ac (cn (.int 1)) (ac (cn c_MOST_BRIM) an))))) (gn 2))
        (sq (sa (cl 4 (noExc f_read_number) (ac (vr 0) (ac (o2 addD (vr 1) (cn (.int 1))) (ac (cn (.int 0)) (ac (vr 2) an))))) (gn 3))
        (sq (sa (cl 4 (noExc f_read_number) (ac (vr 0) (ac (o2 addD (vr 1) (cn (.int 2))) (ac (cn (.int 1)) (ac (cn c_MOST_ROOM) an))))) (gn 4))
        (sq (sa (o2 addD (vr 1) (cn (.int 3))) (gn 5))
        (sq (sa (cn .non) (gn 6)) F))))) [some (.lst w), some (.int a), none, none, none, none, none] S) = out := fun F out h => by
    rw [k1, k2]
    refine (fin_nx (ρ' := [some (.lst w), some (.int a), some (.int br), none, none, none, none]) (S' := S1) (by simp [e1])).trans ?_
    refine (fin_nx (ρ' := [some (.lst w), some (.int a), some (.int br), some (.int de), none, none, none]) (S' := S2) (by simp [e2])).trans ?_
    refine (fin_nx (ρ' := [some (.lst w), some (.int a), some (.int br), some (.int de), some (.int ro), none, none]) (S' := S3) (by simp [e3])).trans ?_
    refine (fin_nx (ρ' := [some (.lst w), some (.int a), some (.int br), some (.int de), some (.int ro), some (.int ((a : Int) + 3)), none]) (S' := S3) (by simp)).trans ?_
    refine (fin_nx (ρ' := [some (.lst w), some (.int a), some (.int br), some (.int de), some (.int ro), some (.int ((a : Int) + 3)), some .non]) (S' := S3) (by simp)).trans ?_
    exact h
  have lt3 : ∀ z, W[a + 3]? = some z → (a : Int) + 3 < (W.length : Int) := fun z hz => by have := (List.getElem?_eq_some_iff.mp hz).1; omega
  have gt3 : ∀ z, W[a + 3]? = some z → DL.getD (.lst w) (.int ((a : Int) + 3)) S3 = .ok (.str z) S3 := fun z hz => get_l w3 (atI_nn (by omega) (by rw [show ((a : Int) + 3).toNat = a + 3 by omega, List.getElem?_map, hz]; rfl))
  rcases h4 with ⟨i, rfl, hi⟩ | ⟨rfl, hn | ⟨g, hg, ud⟩⟩
  · obtain ⟨i', hi', i0, i1⟩ : ∃ i', D.int i = .int i' ∧ 0 ≤ i' ∧ i' ≤ 99 := by
      rcases a7 with z | z
      · cases z
      · exact z
    cases hi'
    obtain ⟨S4, e4, x4⟩ := num_ok2 (lo := 0) (m := 99) (S := S3) i0 i1 i0 i1
    have pl : (pw (.p br de ro (.int i))).length = 5 := rfl
    refine ⟨S4, ?_, ((x1.trans x2).trans x3).trans x4⟩
    refine (fnB_ap (m := 7) (b := b_read_pound)).trans ?_
    show fin (b_read_pound [some (.lst w), some (.int a), none, none, none, none, none] S) = _
    unfold b_read_pound
    refine start _ _ ?_
    have l3 := lt3 _ hi
    have g3' := gt3 _ hi
    refine (fin_nx (ρ' := [some (.lst w), some (.int a), some (.int br), some (.int de), some (.int ro), some (.int ((a : Int) + 3)), some (.int i)]) (S' := S4) ((sif_t (S1 := S3) ?_).trans ?_)).trans ?_
    · simp only [tb_ap, o2_ap, b1_ap, ac_ap, an_ap, vr_ap, List.getElem?_cons_zero, List.getElem?_cons_succ, bind_ok, ln, lt_ii, decide_eq_true l3]
    · rw [k3]; simp [g3', e4]
    refine (fin_nx (ρ' := [some (.lst w), some (.int a), some (.int br), some (.int de), some (.int ro), some (.int ((a : Int) + 3 + 1)), some (.int i)]) (S' := S4) ((sif_t (S1 := S4) (by simp [isn])).trans (by simp))).trans ?_
    rw [pl]
    simp [fin]
    omega
  · have pl : (pw (.p br de ro .non)).length = 4 := rfl
    have nl : ¬ ((a : Int) + 3 < (W.length : Int)) := by have := List.getElem?_eq_none_iff.mp hn; omega
    refine ⟨S3, ?_, (x1.trans x2).trans x3⟩
    refine (fnB_ap (m := 7) (b := b_read_pound)).trans ?_
    show fin (b_read_pound [some (.lst w), some (.int a), none, none, none, none, none] S) = _
    unfold b_read_pound
    refine start _ _ ?_
    refine (fin_nx (ρ' := [some (.lst w), some (.int a), some (.int br), some (.int de), some (.int ro), some (.int ((a : Int) + 3)), some .non]) (S' := S3) ((sif_f (S1 := S3) ?_).trans skip_ap)).trans ?_
    · simp only [tb_ap, o2_ap, b1_ap, ac_ap, an_ap, vr_ap, List.getElem?_cons_zero, List.getElem?_cons_succ, bind_ok, ln, lt_ii, decide_eq_false nl]
    refine (fin_nx (ρ' := [some (.lst w), some (.int a), some (.int br), some (.int de), some (.int ro), some (.int ((a : Int) + 3)), some .non]) (S' := S3) ((sif_f (S1 := S3) (by simp [isn2])).trans skip_ap)).trans ?_
    rw [pl]
    simp [fin]
    omega
  · have pl : (pw (.p br de ro .non)).length = 4 := rfl
    obtain ⟨S4, e4, x4⟩ := num_no (m := 99) (S := S3) ud
    refine ⟨S4, ?_, ((x1.trans x2).trans x3).trans x4⟩
    refine (fnB_ap (m := 7) (b := b_read_pound)).trans ?_
    show fin (b_read_pound [some (.lst w), some (.int a), none, none, none, none, none] S) = _
    unfold b_read_pound
    refine start _ _ ?_
    have l3 := lt3 _ hg
    have g3' := gt3 _ hg
    refine (fin_nx (ρ' := [some (.lst w), some (.int a), some (.int br), some (.int de), some (.int ro), some (.int ((a : Int) + 3)), some .non]) (S' := S4) ((sif_t (S1 := S3) ?_).trans ?_)).trans ?_
    · simp only [tb_ap, o2_ap, b1_ap, ac_ap, an_ap, vr_ap, List.getElem?_cons_zero, List.getElem?_cons_succ, bind_ok, ln, lt_ii, decide_eq_true l3]
    · rw [k3]; simp [g3', e4]
    refine (fin_nx (ρ' := [some (.lst w), some (.int a), some (.int br), some (.int de), some (.int ro), some (.int ((a : Int) + 3)), some .non]) (S' := S4) ((sif_f (S1 := S4) (by simp [isn2])).trans skip_ap)).trans ?_
    rw [pl]
    simp [fin]
    omega
end Law
set_option Elab.async false
set_option linter.all false
set_option maxRecDepth 100000
namespace Law
open PySem PySem.Spec PyProof.Rows L2 DL
theorem ne_of_eq {x y : D} {b : Bool} {S : Sto} (h : eqD x y S = .ok (.bl b) S) : neD x y S = .ok (.bl (!b)) S := by
  unfold eqD at h
  unfold neD
  split at h
  · rename_i p q hp hq
    by_cases hs : (SeqAt.shaped p && SeqAt.shaped q) = true
    · rw [if_pos hs] at h ⊢
      have : PyData.eqv p q = b := by
        injection h with h1 _
        injection h1
      rw [this]
    · rw [if_neg hs] at h
      cases h
  · cases h
def w1 : Pl → Str
  | .e => "end"
  | .c => "chamber"
  | .p _ _ _ _ => "pound"
theorem pw_cons {p : Pl} : ∃ r, pw p = w1 p :: r ∧ (p.isC = true ∨ p.isE = true → r = []) := by
  cases p with
  | e => exact ⟨[], rfl, fun _ => rfl⟩
  | c => exact ⟨[], rfl, fun _ => rfl⟩
  | p br de ro pr => exact ⟨([D.int br, .int de, .int ro, pr]).filterMap wd, rfl, fun h => by rcases h with h | h <;> cases h⟩
def May (p : Pl) (xs : List Pl) : Prop := (xs = [] ∧ p = .e) ∨ ∃ ys y, xs = ys ++ [y] ∧ ((p = .c ∧ xs.length + 1 < 13) ∨ (p.isC = false ∧ y.isC = true ∧ (p.isE = true ∨ xs.length + 2 < 13)))
theorem s_ee {S : Sto} : eqD (.str "end") (.str "end") S = .ok (.bl true) S := by rw [eq_ss (stok _) (stok _)]; rfl
theorem s_ec {S : Sto} : eqD (.str "end") (.str "chamber") S = .ok (.bl false) S := by rw [eq_ss (stok _) (stok _)]; rfl
theorem s_ep {S : Sto} : eqD (.str "end") (.str "pound") S = .ok (.bl false) S := by rw [eq_ss (stok _) (stok _)]; rfl
theorem s_cc {S : Sto} : eqD (.str "chamber") (.str "chamber") S = .ok (.bl true) S := by rw [eq_ss (stok _) (stok _)]; rfl
theorem s_cp {S : Sto} : eqD (.str "chamber") (.str "pound") S = .ok (.bl false) S := by rw [eq_ss (stok _) (stok _)]; rfl
theorem s_pc {S : Sto} : eqD (.str "pound") (.str "chamber") S = .ok (.bl false) S := by rw [eq_ss (stok _) (stok _)]; rfl
theorem s_pp {S : Sto} : eqD (.str "pound") (.str "pound") S = .ok (.bl true) S := by rw [eq_ss (stok _) (stok _)]; rfl
theorem may_ok {p : Pl} {xs : List Pl} {S : Sto} {q : Nat} (hx : ∀ x ∈ xs, x.ok) (hq : S[q]? = some ⟨false, xs.map Pl.toD⟩) (h : May p xs) : f_may_follow [.str (w1 p), .lst q] S = .ok (.bl true) S := by
  have ln : lenD [.lst q] S = .ok (.int xs.length) S := by rw [len_l hq, List.length_map]
  have k1 : c_MOST_PLACES = .int 13 := rfl
  have k2 : c_CHAMBER = .tup [.str "chamber"] := rfl
  refine (fnB_ap (m := 3) (b := b_may_follow)).trans ?_
  show fin (b_may_follow [some (.str (w1 p)), some (.lst q), none] S) = _
  unfold b_may_follow
  refine (fin_nx (ρ' := [some (.str (w1 p)), some (.lst q), some (.int xs.length)]) (S' := S) (by simp [ln])).trans ?_
  rcases h with ⟨rfl, rfl⟩ | ⟨ys, y, e, h⟩
  · have : w1 .e = "end" := rfl
    rw [this]
    refine fin_ret ((sif_t (S1 := S) (by simp)).trans ?_)
    simp [s_ee]
  · have l0 : ¬ ((xs.length : Int) = 0) := by rw [e]; simp; omega
    refine (fin_nx (ρ' := [some (.str (w1 p)), some (.lst q), some (.int xs.length)]) (S' := S) ((sif_f (S1 := S) ?_).trans skip_ap)).trans ?_
    · simp only [tb_ap, o2_ap, vr_ap, cn_ap, List.getElem?_cons_zero, List.getElem?_cons_succ, bind_ok, eq_ii, decide_eq_false l0]
    rcases h with ⟨rfl, hl⟩ | ⟨hp, hy, hl⟩
    · have : w1 .c = "chamber" := rfl
      rw [this]
      refine fin_ret ((sif_t (S1 := S) (by simp [s_cc])).trans ?_)
      have hl : (xs.length : Int) + 1 < 13 := by omega
      rw [k1]
      simp only [sret_ap, o2_ap, vr_ap, cn_ap, List.getElem?_cons_zero, List.getElem?_cons_succ, bind_ok, add_ii, lt_ii, decide_eq_true hl, bindS_ok]
    · have gl : DL.getD (.lst q) (.int (-1)) S = .ok y.toD S := get_l hq (by rw [e, List.map_append]; exact at_last)
      have yo := hx y (by rw [e]; simp)
      have nc := ne_of_eq (eq_cham (S := S) yo)
      rw [hy] at nc
      cases p with
      | c => cases hp
      | e =>
        have : w1 .e = "end" := rfl
        rw [this]
        refine (fin_nx (ρ' := [some (.str "end"), some (.lst q), some (.int xs.length)]) (S' := S) ((sif_f (S1 := S) (by simp [s_ec])).trans skip_ap)).trans ?_
        refine (fin_nx (ρ' := [some (.str "end"), some (.lst q), some (.int xs.length)]) (S' := S) ((sif_f (S1 := S) (by rw [k2]; simp [gl, nc])).trans skip_ap)).trans ?_
        refine (fin_nx (ρ' := [some (.str "end"), some (.lst q), some (.int xs.length)]) (S' := S) ((sif_f (S1 := S) (by simp [s_ep])).trans skip_ap)).trans ?_
        simp [s_ee, fin]
      | p br de ro pr =>
        have : w1 (.p br de ro pr) = "pound" := rfl
        rw [this]
        have hl : (xs.length : Int) + 2 < 13 := by
          rcases hl with z | z
          · cases z
          · omega
        refine (fin_nx (ρ' := [some (.str "pound"), some (.lst q), some (.int xs.length)]) (S' := S) ((sif_f (S1 := S) (by simp [s_pc])).trans skip_ap)).trans ?_
        refine (fin_nx (ρ' := [some (.str "pound"), some (.lst q), some (.int xs.length)]) (S' := S) ((sif_f (S1 := S) (by rw [k2]; simp [gl, nc])).trans skip_ap)).trans ?_
        refine fin_ret ((sif_t (S1 := S) (by simp [s_pp])).trans ?_)
        rw [k1]
        simp only [sret_ap, o2_ap, vr_ap, cn_ap, List.getElem?_cons_zero, List.getElem?_cons_succ, bind_ok, add_ii, lt_ii, decide_eq_true hl, bindS_ok]
theorem rplace_ok {p : Pl} {A B : List Str} {xs : List Pl} {S : Sto} {w q : Nat} (hp : p.ok) (hx : ∀ x ∈ xs, x.ok) (hw : S[w]? = some ⟨false, (A ++ pw p ++ B).map D.str⟩) (hq : S[q]? = some ⟨false, xs.map Pl.toD⟩) (hm : May p xs) (hb : Nxt (B[0]?)) :
    ∃ S', f_read_place [.lst w, .int A.length, .lst q] S = .ok (.tup [p.toD, .int ((A.length : Int) + (pw p).length)]) S' ∧ Ex S S' := by
  obtain ⟨r, er, rn⟩ := pw_cons (p := p)
  have wa : f_word_at [.lst w, .int A.length] S = .ok (.str (w1 p)) S := at_ok hw (by rw [er, List.append_assoc, List.getElem?_append_right (Nat.le_refl _)]; simp)
  have my := may_ok hx hq hm
  have pre : ∀ (F : Sv) (out : Out D), fin (F [some (.lst w), some (.int A.length), some (.lst q), some (.str (w1 p))] S) = out →
      fin (sq (sa (cl 2 (noExc f_word_at) (ac (vr 0) (ac (vr 1) an))) (gn 3)) (sq (sif (tn (tt (cl 2 (noExc f_may_follow) (ac (vr 3) (ac (vr 2) an))))) sbad DL.skip) F) [some (.lst w), some (.int A.length), some (.lst q), none] S) = out := fun F out h => by
    refine (fin_nx (ρ' := [some (.lst w), some (.int A.length), some (.lst q), some (.str (w1 p))]) (S' := S) (by simp [wa])).trans ?_
    refine (fin_nx (ρ' := [some (.lst w), some (.int A.length), some (.lst q), some (.str (w1 p))]) (S' := S) ((sif_f (S1 := S) (by simp [my, truD])).trans skip_ap)).trans ?_
    exact h
  cases p with
  | e =>
    refine ⟨S, ?_, .refl⟩
    refine (fnB_ap (m := 4) (b := b_read_place)).trans ?_
    show fin (b_read_place [some (.lst w), some (.int A.length), some (.lst q), none] S) = _
    unfold b_read_place
    refine pre _ _ ?_
    have : w1 .e = "end" := rfl
    rw [this]
    refine (fin_nx (ρ' := [some (.lst w), some (.int A.length), some (.lst q), some (.str "end")]) (S' := S) ((sif_f (S1 := S) (by simp [s_ep])).trans skip_ap)).trans ?_
    simp [fin, Pl.toD, pw, its, wd]
  | c =>
    refine ⟨S, ?_, .refl⟩
    refine (fnB_ap (m := 4) (b := b_read_place)).trans ?_
    show fin (b_read_place [some (.lst w), some (.int A.length), some (.lst q), none] S) = _
    unfold b_read_place
    refine pre _ _ ?_
    have : w1 .c = "chamber" := rfl
    rw [this]
    refine (fin_nx (ρ' := [some (.lst w), some (.int A.length), some (.lst q), some (.str "chamber")]) (S' := S) ((sif_f (S1 := S) (by simp [s_cp])).trans skip_ap)).trans ?_
    simp [fin, Pl.toD, pw, its, wd]
  | p br de ro pr =>
    have a7 := hp.2.2.2.2.2.2
    have look : ∀ j, (A ++ pw (.p br de ro pr) ++ B)[A.length + 1 + j]? = (pw (.p br de ro pr) ++ B)[1 + j]? := fun j => by
      rw [List.append_assoc, List.getElem?_append_right (by omega)]
      congr 1
      omega
    have l1 : (A ++ pw (.p br de ro pr) ++ B)[A.length + 1]? = some (ts br) := by have := look 0; rw [Nat.add_zero] at this; rw [this]; rfl
    have l2 : (A ++ pw (.p br de ro pr) ++ B)[A.length + 1 + 1]? = some (ts de) := by rw [look 1]; rfl
    have l3 : (A ++ pw (.p br de ro pr) ++ B)[A.length + 1 + 2]? = some (ts ro) := by rw [look 2]; rfl
    have l4 : (∃ i, pr = .int i ∧ (A ++ pw (.p br de ro pr) ++ B)[A.length + 1 + 3]? = some (ts i)) ∨ (pr = .non ∧ Nxt ((A ++ pw (.p br de ro pr) ++ B)[A.length + 1 + 3]?)) := by
      rcases a7 with rfl | ⟨i, rfl, _, _⟩
      · refine .inr ⟨rfl, ?_⟩
        rw [look 3]
        exact hb
      · refine .inl ⟨i, rfl, ?_⟩
        rw [look 3]; rfl
    obtain ⟨S1, e1, x1⟩ := rpound_ok (a := A.length + 1) hp hw l1 l2 l3 l4
    have e1 : f_read_pound [.lst w, .int ((A.length : Int) + 1)] S = .ok (.tup [.tup [.str "pound", .int br, .int de, .int ro, pr], .int (((A.length + 1 : Nat) : Int) + (pw (.p br de ro pr)).length - 1)]) S1 := e1
    refine ⟨S1, ?_, x1⟩
    refine (fnB_ap (m := 4) (b := b_read_place)).trans ?_
    show fin (b_read_place [some (.lst w), some (.int A.length), some (.lst q), none] S) = _
    unfold b_read_place
    refine pre _ _ ?_
    have : w1 (.p br de ro pr) = "pound" := rfl
    rw [this]
    refine fin_ret ((sif_t (S1 := S) (by simp [s_pp])).trans ?_)
    rw [show ((A.length : Int) + (pw (.p br de ro pr)).length) = ((A.length + 1 : Nat) : Int) + (pw (.p br de ro pr)).length - 1 by omega]
    simp [e1, Pl.toD]
theorem rgate_ok {S : Sto} {w a : Nat} {W : List Str} {g : Str} (hw : S[w]? = some ⟨false, W.map D.str⟩) (h : W[a]? = some g) (ud : g = "up" ∨ g = "down") : f_read_gate [.lst w, .int a] S = .ok (.str g) S := by
  have wa := at_ok hw h
  have k1 : c_UP = .str "up" := rfl
  have k2 : c_DOWN = .str "down" := rfl
  refine (fnB_ap (m := 3) (b := b_read_gate)).trans ?_
  show fin (b_read_gate [some (.lst w), some (.int a), none] S) = _
  unfold b_read_gate
  refine (fin_nx (ρ' := [some (.lst w), some (.int a), some (.str g)]) (S' := S) (by simp [wa])).trans ?_
  have nu : neD (.str "up") (.str "up") S = .ok (.bl false) S := by rw [ne_str (stok _) (stok _)]; rfl
  have nd : neD (.str "down") (.str "up") S = .ok (.bl true) S := by rw [ne_str (stok _) (stok _)]; rfl
  have nn : neD (.str "down") (.str "down") S = .ok (.bl false) S := by rw [ne_str (stok _) (stok _)]; rfl
  refine (fin_nx (ρ' := [some (.lst w), some (.int a), some (.str g)]) (S' := S) ((sif_f (S1 := S) ?_).trans skip_ap)).trans ?_
  · rw [k1, k2]
    rcases ud with rfl | rfl
    · simp [nu]
    · simp [nd, nn]
  · simp [fin]
end Law
set_option Elab.async false
set_option linter.all false
set_option maxRecDepth 100000
namespace Law
open PySem PySem.Spec PyProof.Rows L2 DL
theorem whN_succ {c : Ev Bool} {b : Sv} {n : Nat} {ρ : Lc} {S : Sto} : whN c b (n + 1) ρ S = bindS (c ρ S) ρ fun t S1 => if t = true then (match b ρ S1 with
        | .nx ρ2 S2 => whN c b n ρ2 S2
        | .ct ρ2 S2 => whN c b n ρ2 S2
        | .bk ρ2 S2 => .nx ρ2 S2
        | .rt d S2 => .rt d S2
        | .exc x ρ2 S2 => .exc x ρ2 S2
        | .bad => .bad) else .nx ρ S1 := rfl
theorem wh_inv {c : Ev Bool} {b : Sv} (n : Nat) (I : Nat → Lc → Sto → Prop) (hc : ∀ j ρ S, j < n → I j ρ S → c ρ S = .ok true S) (hs : ∀ j ρ S, j < n → I j ρ S → ∃ ρ2 S2, b ρ S = .nx ρ2 S2 ∧ I (j + 1) ρ2 S2) (he : ∀ ρ S, I n ρ S → c ρ S = .ok false S) :
    ∀ (r j fuel : Nat) (ρ : Lc) (S : Sto), j + r = n → r < fuel → I j ρ S → ∃ ρ' S', whN c b fuel ρ S = .nx ρ' S' ∧ I n ρ' S'
  | 0, j, fuel, ρ, S, e, hf, h => by
    have : j = n := by omega
    subst this
    obtain ⟨f, rfl⟩ : ∃ f, fuel = f + 1 := ⟨fuel - 1, by omega⟩
    refine ⟨ρ, S, ?_, h⟩
    rw [whN_succ, he ρ S h]
    rfl
  | r + 1, j, fuel, ρ, S, e, hf, h => by
    obtain ⟨f, rfl⟩ : ∃ f, fuel = f + 1 := ⟨fuel - 1, by omega⟩
    obtain ⟨ρ2, S2, e2, h2⟩ := hs j ρ S (by omega) h
    obtain ⟨ρ', S', e3, h3⟩ := wh_inv n I hc hs he r (j + 1) f ρ2 S2 (by omega) (by omega) h2
    refine ⟨ρ', S', ?_, h3⟩
    rw [whN_succ, hc j ρ S (by omega) h]
    simp only [bindS_ok, if_true, e2]
    exact e3
theorem words_split {p0 : Pl} {tl : List Pl} {gs : List Str} {j : Nat} (hl : gs.length = tl.length) : words p0 tl gs gs.length = words p0 tl gs j ++ tw (gs.drop j) (tl.drop j) := by
  unfold words tw
  rw [List.append_assoc]
  congr 1
  rw [← List.flatten_append, ← List.zipWith_append (by rw [List.length_take, List.length_take, hl]), List.take_append_drop, List.take_append_drop, List.take_length, hl, List.take_length]
theorem tw_nxt {gs : List Str} {ps : List Pl} (h : UDs gs) : Nxt ((tw gs ps)[0]?) := by
  cases gs with
  | nil => exact .inl rfl
  | cons g gs =>
    cases ps with
    | nil => exact .inl rfl
    | cons p ps => exact .inr ⟨g, rfl, h g List.mem_cons_self⟩
structure Cn (tl mid : List Pl) (gs : List Str) : Prop where
  eq : tl = mid ++ [.e]
  md : ∀ p ∈ mid, p.ok ∧ p.isE = false
  adj : Adj (Pl.e :: tl)
  l1 : 1 ≤ mid.length
  l2 : mid.length ≤ 11
  gl : gs.length = tl.length
  ud : UDs gs
theorem Cn.ok {tl mid : List Pl} {gs : List Str} (h : Cn tl mid gs) : ∀ p ∈ Pl.e :: tl, p.ok := fun p hp => by
  rcases List.mem_cons.mp hp with rfl | hp
  · trivial
  · rw [h.eq] at hp
    rcases List.mem_append.mp hp with hp | hp
    · exact (h.md p hp).1
    · have : p = .e := by simpa using hp
      subst this
      trivial
theorem Cn.at' {tl mid : List Pl} {gs : List Str} (h : Cn tl mid gs) {j : Nat} {p : Pl} (hp : tl[j]? = some p) : (j < mid.length ∧ p.isE = false) ∨ (j = mid.length ∧ p = .e) := by
  rw [h.eq] at hp
  by_cases c : j < mid.length
  · rw [List.getElem?_append_left c] at hp
    exact .inl ⟨c, (h.md p (List.mem_of_getElem? hp)).2⟩
  · have hl := (List.getElem?_eq_some_iff.mp hp).1
    have : j = mid.length := by simp at hl; omega
    subst this
    rw [List.getElem?_append_right (Nat.le_refl _)] at hp
    exact .inr ⟨rfl, by simpa using hp.symm⟩
theorem take_last {α : Type} {l : List α} {j : Nat} {y : α} (h : l[j]? = some y) : l.take (j + 1) = l.take j ++ [y] := by rw [List.take_add_one, h]; rfl
theorem Cn.may {tl mid : List Pl} {gs : List Str} (h : Cn tl mid gs) {j : Nat} {p : Pl} (hp : tl[j]? = some p) : May p ((Pl.e :: tl).take (j + 1)) := by
  have hl := (List.getElem?_eq_some_iff.mp hp).1
  have hlt : tl.length = mid.length + 1 := by rw [h.eq]; simp
  have l2 := h.l2
  obtain ⟨y, hy⟩ : ∃ y, (Pl.e :: tl)[j]? = some y := ⟨_, List.getElem?_eq_getElem (by simp; omega)⟩
  have hp' : (Pl.e :: tl)[j + 1]? = some p := by simpa using hp
  have tl1 : ((Pl.e :: tl).take (j + 1)).length = j + 1 := by rw [List.length_take]; simp; omega
  refine .inr ⟨(Pl.e :: tl).take j, y, take_last hy, ?_⟩
  have ad := h.adj j y p hy hp'
  rw [tl1]
  cases p with
  | c =>
    refine .inl ⟨rfl, ?_⟩
    rcases h.at' hp with ⟨c1, _⟩ | ⟨_, c2⟩
    · omega
    · cases c2
  | e => exact .inr ⟨rfl, ad.resolve_right (by decide), .inl rfl⟩
  | p br de ro pr =>
    refine .inr ⟨rfl, ad.resolve_right (fun z => Bool.false_ne_true z), .inr ?_⟩
    rcases h.at' hp with ⟨c1, _⟩ | ⟨_, c2⟩
    · obtain ⟨z, hz⟩ : ∃ z, tl[j + 1]? = some z := ⟨_, List.getElem?_eq_getElem (by omega)⟩
      have a2 := (h.adj (j + 1) (.p br de ro pr) z hp' (by simpa using hz)).resolve_left (fun z => Bool.false_ne_true z)
      rcases h.at' hz with ⟨d1, _⟩ | ⟨_, rfl⟩
      · omega
      · cases a2
    · cases c2
theorem rcond {tl mid : List Pl} {gs : List Str} (h : Cn tl mid gs) {S : Sto} {qp j : Nat} {x0 x1 x2 x3 x5 : Option D} (hj : j ≤ tl.length) (hq : S[qp]? = some ⟨false, ((Pl.e :: tl).take (j + 1)).map Pl.toD⟩) : lc_read_canal_1 [x0, x1, x2, x3, some (.lst qp), x5] S = .ok (decide (j < tl.length)) S := by
  have hlt : tl.length = mid.length + 1 := by rw [h.eq]; simp
  have l1 := h.l1
  have tl1 : ((Pl.e :: tl).take (j + 1)).length = j + 1 := by rw [List.length_take]; simp; omega
  have ln : lenD [.lst qp] S = .ok (.int ((j : Int) + 1)) S := by rw [len_l hq, List.length_map, tl1]; rfl
  have k1 : c_END = .tup [.str "end"] := rfl
  obtain ⟨y, hy⟩ : ∃ y, (Pl.e :: tl)[j]? = some y := ⟨_, List.getElem?_eq_getElem (by simp; omega)⟩
  have gl : DL.getD (.lst qp) (.int (-1)) S = .ok y.toD S := get_l hq (by rw [take_last hy, List.map_append]; exact at_last)
  have yo := h.ok y (List.mem_of_getElem? hy)
  have ne := ne_of_eq (eq_end (S := S) yo)
  unfold lc_read_canal_1
  rw [k1]
  by_cases c0 : j = 0
  · subst c0
    have : (0 : Nat) < tl.length := by omega
    rw [decide_eq_true this]
    simp [ln]
  · have cnn : ¬ ((j : Int) + 1 = 1) := by omega
    have t1 : tb (o2 eqD (b1 lenD (ac (vr 4) an)) (cn (.int 1))) [x0, x1, x2, x3, some (.lst qp), x5] S = .ok false S := by
      simp only [tb_ap, o2_ap, b1_ap, ac_ap, an_ap, vr_ap, cn_ap, List.getElem?_cons_zero, List.getElem?_cons_succ, bind_ok, ln, eq_ii, decide_eq_false cnn]
    rw [to_ap, t1]
    have t2 : (!y.isE) = decide (j < tl.length) := by
      obtain ⟨i, rfl⟩ : ∃ i, j = i + 1 := ⟨j - 1, by omega⟩
      have hy' : tl[i]? = some y := by simpa using hy
      rcases h.at' hy' with ⟨c1, c2⟩ | ⟨c1, rfl⟩
      · rw [c2, decide_eq_true (by omega)]; rfl
      · rw [decide_eq_false (by omega)]; rfl
    rw [← t2]
    simp [gl, ne]
end Law
set_option Elab.async false
set_option linter.all false
set_option maxRecDepth 100000
namespace Law
open PySem PySem.Spec PyProof.Rows L2 DL
structure Rd (S : Sto) (w qp qg : Nat) (tl : List Pl) (gs : List Str) (j : Nat) : Prop where
  hw : S[w]? = some ⟨false, (words .e tl gs gs.length).map D.str⟩
  hp : S[qp]? = some ⟨false, ((Pl.e :: tl).take (j + 1)).map Pl.toD⟩
  hg : S[qg]? = some ⟨false, (gs.take j).map D.str⟩
theorem rstep {tl mid : List Pl} {gs : List Str} (h : Cn tl mid gs) {S0 S : Sto} {w qp qg j : Nat} {td : D} {y2 : Option D} (hj : j < tl.length) (r : Rd S w qp qg tl gs j) (x : Ex S0 S) (hqp : S0.length ≤ qp) (hqg : S0.length ≤ qg) (n1 : w ≠ qp) (n2 : w ≠ qg) (n3 : qp ≠ qg) :
    ∃ y2' S', lb_read_canal_1 [some td, some (.lst w), y2, some (.int (words .e tl gs j).length), some (.lst qp), some (.lst qg)] S = .nx [some td, some (.lst w), y2', some (.int (words .e tl gs (j + 1)).length), some (.lst qp), some (.lst qg)] S' ∧ Rd S' w qp qg tl gs (j + 1) ∧ Ex S0 S' := by
  have gl := h.gl
  have hlt : tl.length = mid.length + 1 := by rw [h.eq]; simp
  have l2 := h.l2
  obtain ⟨p, ep⟩ : ∃ p, tl[j]? = some p := ⟨_, List.getElem?_eq_getElem hj⟩
  obtain ⟨g, eg⟩ : ∃ g, gs[j]? = some g := ⟨_, List.getElem?_eq_getElem (by omega)⟩
  have st : words .e tl gs (j + 1) = words .e tl gs j ++ (g :: pw p) := by
    unfold words
    rw [tw_step eg ep, List.append_assoc]
  have sp : words .e tl gs gs.length = (words .e tl gs j ++ [g]) ++ pw p ++ tw (gs.drop (j + 1)) (tl.drop (j + 1)) := by
    rw [words_split (j := j + 1) gl, st]
    simp
  have pk := h.ok p (List.mem_cons_of_mem _ (List.mem_of_getElem? ep))
  -- the gate
  have rg := rgate_ok (a := (words .e tl gs j).length) r.hw (by rw [sp, List.append_assoc, List.append_assoc, List.getElem?_append_right (Nat.le_refl _)]; simp) (h.ud g (List.mem_of_getElem? eg))
  have gtl : (gs.take j).length ≤ 12 := by rw [List.length_take]; omega
  have a1 := app_l (d := .str g) r.hg (by rw [List.length_map]; omega)
  have i1 := isL r.hg
  have lg1 : qg < S.length := (List.getElem?_eq_some_iff.mp r.hg).1
  have w1' : (S.set qg ⟨false, (gs.take j).map D.str ++ [.str g]⟩)[w]? = some ⟨false, (words .e tl gs gs.length).map D.str⟩ := by rw [List.getElem?_set_ne (Ne.symm n2)]; exact r.hw
  have p1' : (S.set qg ⟨false, (gs.take j).map D.str ++ [.str g]⟩)[qp]? = some ⟨false, ((Pl.e :: tl).take (j + 1)).map Pl.toD⟩ := by rw [List.getElem?_set_ne (Ne.symm n3)]; exact r.hp
  have g1' : (S.set qg ⟨false, (gs.take j).map D.str ++ [.str g]⟩)[qg]? = some ⟨false, (gs.take j).map D.str ++ [.str g]⟩ := List.getElem?_set_self lg1
  have x1' : Ex S0 (S.set qg ⟨false, (gs.take j).map D.str ++ [.str g]⟩) := x.setq hqg
  generalize S.set qg ⟨false, (gs.take j).map D.str ++ [.str g]⟩ = S1 at *
  -- the place
  rw [sp] at w1'
  obtain ⟨S2, e2, x2⟩ := rplace_ok (A := words .e tl gs j ++ [g]) (B := tw (gs.drop (j + 1)) (tl.drop (j + 1))) pk (fun z hz => h.ok z (List.mem_of_mem_take hz)) w1' p1' (h.may ep) (tw_nxt fun z hz => h.ud z (List.mem_of_mem_drop hz))
  rw [← sp] at w1'
  have al : (words .e tl gs j ++ [g]).length = (words .e tl gs j).length + 1 := by simp
  have e2 : f_read_place [.lst w, .int (((words .e tl gs j).length : Int) + 1), .lst qp] S1 = .ok (.tup [p.toD, .int (words .e tl gs (j + 1)).length]) S2 := by
    rw [al] at e2
    have z1 : (((words .e tl gs j).length + 1 : Nat) : Int) = ((words .e tl gs j).length : Int) + 1 := by omega
    rw [z1] at e2
    rw [e2, st]
    have z2 : ((words .e tl gs j).length : Int) + 1 + ((pw p).length : Int) = (((words .e tl gs j) ++ (g :: pw p)).length : Nat) := by
      rw [List.length_append, List.length_cons]; omega
    rw [z2]
  have w2 := x2.at w1'
  have p2 := x2.at p1'
  have g2' := x2.at g1'
  have tl1 : ((Pl.e :: tl).take (j + 1)).length ≤ 13 := by rw [List.length_take]; simp; omega
  have a2 := app_l (d := p.toD) p2 (by rw [List.length_map]; omega)
  have i2 := isL p2
  have lp2 : qp < S2.length := (List.getElem?_eq_some_iff.mp p2).1
  refine ⟨some p.toD, S2.set qp ⟨false, ((Pl.e :: tl).take (j + 1)).map Pl.toD ++ [p.toD]⟩, ?_, ⟨?_, ?_, ?_⟩, (x1'.trans x2).setq hqp⟩
  · unfold lb_read_canal_1
    generalize p.toD = pd at *
    refine (sq_nx (ρ' := [some td, some (.lst w), y2, some (.int (words .e tl gs j).length), some (.lst qp), some (.lst qg)]) (S1 := S1) (by simp [i1, rg, a1])).trans ?_
    refine (sq_nx (ρ' := [some td, some (.lst w), some pd, some (.int (words .e tl gs (j + 1)).length), some (.lst qp), some (.lst qg)]) (S1 := S2) (by simp [e2, gt, gcons, gnil])).trans ?_
    simp [i2, a2]
  · rw [List.getElem?_set_ne (Ne.symm n1)]; exact w2
  · rw [List.getElem?_set_self lp2, take_last (j := j + 1) (y := p) (by simpa using ep), List.map_append]
    rfl
  · rw [List.getElem?_set_ne n3, take_last eg, List.map_append]
    exact g2'
theorem rcanal_ok {tl mid : List Pl} {gs : List Str} (h : Cn tl mid gs) {S : Sto} : ∃ S', f_read_canal [.str (Txt.join " " (words .e tl gs gs.length))] S = .ok (cnl .e tl gs) S' ∧ Ex S S' := by
  have gl := h.gl
  have hlt : tl.length = mid.length + 1 := by rw [h.eq]; simp
  have l1 := h.l1
  have l2 := h.l2
  have wl := words_len (p0 := .e) (tl := tl) (gs := gs) (i := gs.length) (by omega)
  have wg := words_wg (p0 := .e) (tl := tl) (gs := gs) (i := gs.length) h.ok h.ud
  have w0 : words .e tl gs gs.length ≠ [] := by intro z; have : (words .e tl gs gs.length).length = 0 := by rw [z]; rfl
                                                unfold words at this; rw [List.length_append] at this; have := (pw_len (p := .e)).1; omega
  have s1 := spl2_ok (S := S) w0 (by omega) (fun z hz => (wg z hz).1) (fun z hz => (wg z hz).2.1)
  have q1 : (S ++ [(⟨false, (words .e tl gs gs.length).map D.str⟩ : Cell)])[S.length]? = some ⟨false, (words .e tl gs gs.length).map D.str⟩ := app_at
  have x1 : Ex S (S ++ [(⟨false, (words .e tl gs gs.length).map D.str⟩ : Cell)]) := Ex.app
  have n1 : (S ++ [(⟨false, (words .e tl gs gs.length).map D.str⟩ : Cell)]).length = S.length + 1 := by simp
  generalize hS1 : S ++ [(⟨false, (words .e tl gs gs.length).map D.str⟩ : Cell)] = S1 at *
  -- the first place
  have q1a : (S1 ++ [(⟨false, []⟩ : Cell)])[S.length]? = some ⟨false, (([] : List Str) ++ pw .e ++ tw gs tl).map D.str⟩ := by
    rw [app_old q1]
    have := words_split (p0 := .e) (tl := tl) (gs := gs) (j := 0) gl
    rw [this]
    simp [words, tw]
  obtain ⟨S2, e2, x2⟩ := rplace_ok (p := .e) (A := []) (B := tw gs tl) (xs := []) (S := S1 ++ [(⟨false, []⟩ : Cell)]) (w := S.length) (q := S1.length) trivial (fun z hz => by simp at hz) q1a app_at (.inl ⟨rfl, rfl⟩) (tw_nxt h.ud)
  have e2 : f_read_place [.lst S.length, .int 0, .lst S1.length] (S1 ++ [(⟨false, []⟩ : Cell)]) = .ok (.tup [Pl.toD .e, .int 1]) S2 := e2
  have xs2 : Ex S1 S2 := Ex.app.trans x2
  have q2 := xs2.at q1
  have l2' : S1.length + 1 ≤ S2.length := by have := x2.len; simp at this; exact this
  -- the lists
  have q3 : ((S2 ++ [(⟨false, [Pl.toD .e]⟩ : Cell)]) ++ [(⟨false, []⟩ : Cell)])[S.length]? = some ⟨false, (words .e tl gs gs.length).map D.str⟩ := app_old (app_old q2)
  have q4 : ((S2 ++ [(⟨false, [Pl.toD .e]⟩ : Cell)]) ++ [(⟨false, []⟩ : Cell)])[S2.length]? = some ⟨false, [Pl.toD .e]⟩ := app_old app_at
  have q5 : ((S2 ++ [(⟨false, [Pl.toD .e]⟩ : Cell)]) ++ [(⟨false, []⟩ : Cell)])[(S2 ++ [(⟨false, [Pl.toD .e]⟩ : Cell)]).length]? = some ⟨false, []⟩ := app_at
  have n3 : (S2 ++ [(⟨false, [Pl.toD .e]⟩ : Cell)]).length = S2.length + 1 := by simp
  have x3 : Ex S ((S2 ++ [(⟨false, [Pl.toD .e]⟩ : Cell)]) ++ [(⟨false, []⟩ : Cell)]) := (x1.trans xs2).trans (Ex.app.trans Ex.app)
  rw [n3] at q5
  have es3 : ls (ac (vr 2) an) [some (.str (Txt.join " " (words .e tl gs gs.length))), some (.lst S.length), some (Pl.toD .e), some (.int 1), none, none] S2 = .ok (.lst S2.length) (S2 ++ [(⟨false, [Pl.toD .e]⟩ : Cell)]) := by simp
  generalize hS3 : S2 ++ [(⟨false, [Pl.toD .e]⟩ : Cell)] = S3 at *
  have es4 : ls an [some (.str (Txt.join " " (words .e tl gs gs.length))), some (.lst S.length), some (Pl.toD .e), some (.int 1), some (.lst S2.length), none] S3 = .ok (.lst (S2.length + 1)) (S3 ++ [(⟨false, []⟩ : Cell)]) := by rw [← n3]; simp
  generalize hS4 : S3 ++ [(⟨false, []⟩ : Cell)] = S4 at *
  obtain ⟨ρ5, S5, ef, y2, eρ, r5, x5⟩ := wh_inv (c := lc_read_canal_1) (b := lb_read_canal_1) tl.length
    (fun j ρ S' => ∃ y2, ρ = [some (.str (Txt.join " " (words .e tl gs gs.length))), some (.lst S.length), y2, some (.int (words .e tl gs j).length), some (.lst S2.length), some (.lst (S2.length + 1))] ∧ (Rd S' S.length S2.length (S2.length + 1) tl gs j ∧ Ex S S'))
    (fun j ρ S' hj ⟨y2, h1, h2, h3⟩ => by
      subst h1
      rw [rcond h (by omega) h2.hp, decide_eq_true hj]) (fun j ρ S' hj ⟨y2, h1, h2, h3⟩ => by
      subst h1
      obtain ⟨y2', S'', c1, c2, c3⟩ := rstep (S0 := S) (td := .str (Txt.join " " (words .e tl gs gs.length))) (y2 := y2) h hj h2 h3 (by omega) (by omega) (by omega) (by omega) (by omega)
      exact ⟨_, S'', c1, y2', rfl, c2, c3⟩) (fun ρ S' ⟨y2, h1, h2, h3⟩ => by
      subst h1
      rw [rcond h (Nat.le_refl _) h2.hp, decide_eq_false (Nat.lt_irrefl _)]) tl.length 0 1000 [some (.str (Txt.join " " (words .e tl gs gs.length))), some (.lst S.length), some (Pl.toD .e), some (.int 1), some (.lst S2.length), some (.lst (S2.length + 1))] S4 (by omega) (by omega) ⟨some (Pl.toD .e), by rfl, ⟨q3, q4, q5⟩, x3⟩
  subst eρ
  have pt := r5.hp
  rw [show (Pl.e :: tl).take (tl.length + 1) = Pl.e :: tl from List.take_length (l := Pl.e :: tl)] at pt
  have gt' := r5.hg
  rw [← gl, List.take_length] at gt'
  have t1 := tup_l pt
  have t2 := tup_l gt'
  have ln : lenD [.lst S.length] S5 = .ok (.int (words .e tl gs gs.length).length) S5 := by rw [len_l r5.hw, List.length_map]
  refine ⟨S5, ?_, x5⟩
  refine (fnB_ap (m := 6) (b := b_read_canal)).trans ?_
  show fin (b_read_canal [some (.str (Txt.join " " (words .e tl gs gs.length))), none, none, none, none, none] S) = _
  unfold b_read_canal
  rw [← gl] at ef
  generalize hW : words .e tl gs gs.length = W at *
  refine (fin_nx (ρ' := [some (.str (Txt.join " " W)), some (.lst S.length), none, none, none, none]) (S' := S1) (by simp [mts, isStr, s1])).trans ?_
  refine (fin_nx (ρ' := [some (.str (Txt.join " " W)), some (.lst S.length), some (Pl.toD .e), some (.int 1), none, none]) (S' := S2) (by simp [e2, gt, gcons, gnil])).trans ?_
  refine (fin_nx (ρ' := [some (.str (Txt.join " " W)), some (.lst S.length), some (Pl.toD .e), some (.int 1), some (.lst S2.length), none]) (S' := S3) (by rw [sa_ap, es3]; rfl)).trans ?_
  refine (fin_nx (ρ' := [some (.str (Txt.join " " W)), some (.lst S.length), some (Pl.toD .e), some (.int 1), some (.lst S2.length), some (.lst (S2.length + 1))]) (S' := S4) (by rw [sa_ap, es4]; rfl)).trans ?_
  refine (fin_nx (ρ' := [some (.str (Txt.join " " W)), some (.lst S.length), y2, some (.int W.length), some (.lst S2.length), some (.lst (S2.length + 1))]) (S' := S5) ef).trans ?_
  refine (fin_nx (ρ' := [some (.str (Txt.join " " W)), some (.lst S.length), y2, some (.int W.length), some (.lst S2.length), some (.lst (S2.length + 1))]) (S' := S5) ((sif_f (S1 := S5) (by simp [ln])).trans skip_ap)).trans ?_
  simp [t1, t2, fin, cnl]
end Law
set_option Elab.async false
set_option linter.all false
set_option maxRecDepth 100000
namespace Law
open PySem PySem.Spec PyProof.Rows L2 DL
theorem sok_fold {z : Str} (hz : PyData.strOk z = true) : ∀ (ps : List Str) (acc : Array Nat), PyData.strOk ⟨acc⟩ = true → (∀ p ∈ ps, PyData.strOk p = true) → PyData.strOk ⟨ps.foldl (fun acc p => acc ++ z.cps ++ p.cps) acc⟩ = true
  | [], acc, h, _ => h
  | p :: r, acc, h, hp => by
    rw [List.foldl_cons]
    exact sok_fold hz r _ (sok_app (a := ⟨acc ++ z.cps⟩) (b := p) (sok_app (a := ⟨acc⟩) (b := z) h hz) (hp p List.mem_cons_self)) fun q hq => hp q (List.mem_cons_of_mem _ hq)
theorem sok_join {z : Str} {ps : List Str} (hz : PyData.strOk z = true) (hp : ∀ p ∈ ps, PyData.strOk p = true) : PyData.strOk (Txt.join z ps) = true := by
  show PyData.strOk ⟨(ps.drop 1).foldl (fun acc p => acc ++ z.cps ++ p.cps) (ps.headD Str.empty).cps⟩ = true
  refine sok_fold hz _ _ ?_ fun p h => hp p (List.mem_of_mem_drop h)
  cases ps with
  | nil => decide +kernel
  | cons p r => exact hp p List.mem_cons_self
theorem gs_str : ∀ {gs : List D}, (∀ g ∈ gs, g = .str "up" ∨ g = .str "down") → ∃ ss : List Str, gs = ss.map D.str ∧ UDs ss
  | [], _ => ⟨[], rfl, fun g hg => by simp at hg⟩
  | g :: gs, h => by
    obtain ⟨ss, e, u⟩ := gs_str (gs := gs) fun z hz => h z (List.mem_cons_of_mem _ hz)
    rcases h g List.mem_cons_self with rfl | rfl
    · exact ⟨"up" :: ss, by rw [e]; rfl, fun z hz => by
        rcases List.mem_cons.mp hz with rfl | hz
        · exact .inl rfl
        · exact u z hz⟩
    · exact ⟨"down" :: ss, by rw [e]; rfl, fun z hz => by
        rcases List.mem_cons.mp hz with rfl | hz
        · exact .inr rfl
        · exact u z hz⟩
theorem lb1_ok {S : Sto} {t k n : Nat} {x0 x2 x3 x4 x5 : Option D} (d : Dp S t k n) (hn : n < 2 ^ 56) : ∃ y3 y4 y5 S', lb_law_1 [x0, some (.lst t), x2, x3, x4, x5] S = .nx [x0, some (.lst t), x2, y3, y4, y5] S' ∧ Dp S' t k (n + 200) := by
  obtain ⟨mid, gd, S1, e1, hm, ha, hgu, h1, h2, d1, _⟩ := canal_ok (most := 11) d (by omega) (by decide) (by decide)
  obtain ⟨gs, eg, ud⟩ := gs_str hgu.2
  have gl : gs.length = mid.length + 1 := by have := hgu.1; rw [eg, List.length_map] at this; exact this
  have cn' : Cn (mid ++ [.e]) mid gs := ⟨rfl, hm, ha, h1, h2, by simp [gl], ud⟩
  have e1 : f__law_canal [.lst t, .int 11] S = .ok (cnl .e (mid ++ [.e]) gs) S1 := by rw [e1, eg]; rfl
  have gl2 : gs.length = (mid ++ [Pl.e]).length := by simp [gl]
  obtain ⟨q, S2, e2, q2, x2'⟩ := lwords_ok (S := S1) cn'.ok gl2 (by omega)
  have wl := words_len (p0 := .e) (tl := mid ++ [.e]) (gs := gs) (i := gs.length) (by omega)
  have wg := words_wg (p0 := .e) (tl := mid ++ [.e]) (gs := gs) (i := gs.length) cn'.ok ud
  have j2 := join_l q2 (fun z hz => (wg z hz).1) (by omega)
  have so : PyData.strOk (Txt.join (" " : Str) (words .e (mid ++ [.e]) gs gs.length)) = true := sok_join (stok _) fun z hz => (wg z hz).2.2
  obtain ⟨S3, e3, x3'⟩ := ctext_ok (S := S2) cn'.ok ud gl2 (by omega)
  obtain ⟨S4, e4, x4'⟩ := rcanal_ok cn' (S := S3)
  have sho : Sho S4 (cnl .e (mid ++ [.e]) gs) 60000 8 := by
    refine sho_2 (sho_pl (fun p hp => ?_) (by simp; omega)) (sho_gs (fun p hp => ?_) (by simp; omega))
    · obtain ⟨z, hz, rfl⟩ := List.mem_map.mp hp
      exact pg_pl (cn'.ok z hz)
    · have : p ∈ gd := by rw [eg]; exact hp
      exact gs_gu hgu p this
  obtain ⟨s, so2, er⟩ := sho.repr (by decide) (by decide)
  obtain ⟨S5, e5, x5'⟩ := rcanal_ok cn' (S := S4)
  obtain ⟨S6, e6, x6'⟩ := ctext_ok (S := S5) cn'.ok ud gl2 (by omega)
  have r4 := er S4 .refl
  have nt : ∀ S : Sto, neD (.str (Txt.join (" " : Str) (words .e (mid ++ [.e]) gs gs.length))) (.str (Txt.join (" " : Str) (words .e (mid ++ [.e]) gs gs.length))) S = .ok (.bl false) S := fun S => by rw [ne_str so so]; simp
  have ns : ∀ S : Sto, neD (.str s) (.str s) S = .ok (.bl false) S := fun S => by rw [ne_str so2 so2]; simp
  generalize cnl .e (mid ++ [.e]) gs = cd at *
  generalize Txt.join (" " : Str) (words .e (mid ++ [.e]) gs gs.length) = td at *
  have dd : Dp S6 t k (n + 200) := ((((d1.ext x2').ext x3').ext x4').ext x5').ext x6'
  refine ⟨some cd, some (.str td), some (.str td), S6, ?_, dd⟩
  unfold lb_law_1
  refine (sq_nx (ρ' := [x0, some (.lst t), x2, some cd, x4, x5]) (S1 := S1) (by simp [e1])).trans ?_
  refine (sq_nx (ρ' := [x0, some (.lst t), x2, some cd, some (.str td), x5]) (S1 := S2) (by simp [mts, isStr, e2, j2])).trans ?_
  refine (sq_nx (ρ' := [x0, some (.lst t), x2, some cd, some (.str td), some (.str td)]) (S1 := S3) (by simp [e3])).trans ?_
  refine (sq_nx (ρ' := [x0, some (.lst t), x2, some cd, some (.str td), some (.str td)]) (S1 := S3) ((sif_f (S1 := S3) (by simp [isD, isT, tyN, truD, nt])).trans skip_ap)).trans ?_
  exact (sif_f (S1 := S6) (by simp [e4, r4, ns, e5, e6, nt])).trans skip_ap
theorem law_ok {S : Sto} {q : Nat} {fz : Bool} {ns : List Int} (e : S[q]? = some ⟨fz, ns.map D.int⟩) : ∃ S', f_law [.lst q] S = .ok (.bl true) S' := by
  obtain ⟨t, k, S1, e1, d1⟩ := tape_ok e
  obtain ⟨ρ2, S2, ef, y2, y3, y4, y5, eρ, d2⟩ := for_inv (nxt := (rsrc 0 4).nxt) (g := gn 2) (b := lb_law_1) (l := (List.range 4).map fun k : Nat => D.int (k : Int))
    (fun i ρ S' => ∃ y2 y3 y4 y5, ρ = [some (.lst q), some (.lst t), y2, y3, y4, y5] ∧ Dp S' t k (200 * i))
    (fun i _ S _ => rng_get) (fun i d ρ S' hd ⟨y2, y3, y4, y5, h1', h2'⟩ => by
      obtain ⟨hi, rfl⟩ := rng_of hd
      subst h1'
      obtain ⟨z3, z4, z5, S'', c1, c2⟩ := lb1_ok (x0 := some (.lst q)) (x2 := some (.int i)) (x3 := y3) (x4 := y4) (x5 := y5) h2' (by omega)
      exact ⟨_, _, S'', rfl, c1, some (.int i), z3, z4, z5, rfl, c2.mono (by omega)⟩) (4 + 1) 0 [some (.lst q), some (.lst t), none, none, none, none] S1 (Nat.zero_le _) ⟨none, none, none, none, rfl, d1⟩ (by simp)
  subst eρ
  refine ⟨S2, ?_⟩
  refine (fnB_ap (m := 6) (b := b_law)).trans ?_
  show fin (b_law [some (.lst q), none, none, none, none, none] S) = _
  unfold b_law
  refine (fin_nx (ρ' := [some (.lst q), some (.lst t), none, none, none, none]) (S' := S1) (by simp [e1])).trans ?_
  refine (fin_nx (ρ' := [some (.lst q), some (.lst t), y2, y3, y4, y5]) (S' := S2) ?_).trans ?_
  · rw [sfor_ap, ir1_ok (n := 4) (S' := S1) (by simp) (by omega)]
    exact ef
  simp
theorem rep_ints {K : PySem.W.Frag} {mp : List Addr} {H : Hp} : ∀ ns : List Int, RepL K mp H (ns.map D.int) (ns.map V.int)
  | [] => RepL.nil
  | a :: r => RepL.cons rfl (rep_ints r)
theorem hsp (K : PySem.W.Frag) (H : Hp) (a : Addr) (ns : List Int) (hl : ns.length ≤ 63) (hO : Only H) (hS : SqL K H a (ns.map V.int)) : spD K 1 f_law [.ref a] H (fun v _ => v = .bl true) fun _ _ _ => False := by
  have hF : SqF K H a (ns.map V.int) := by
    rcases hS with (h | h) | h
    · rcases hO a with z | ⟨o, xs, z⟩
      · rw [z] at h; cases h
      · rw [z] at h; cases h
    · exact .inl h
    · exact .inr h
  obtain ⟨S', e⟩ := law_ok (S := [⟨true, ns.map D.int⟩]) (q := 0) (fz := true) (ns := ns) rfl
  refine ⟨[a], [.lst 0], [⟨true, ns.map D.int⟩], ⟨rfl, fun i b c h1 h2 => ?_, fun i j b ci cj h1 h2 h3 h4 h5 h6 => ?_⟩, RepL.cons ⟨a, rfl, rfl⟩ RepL.nil, rfl, ?_⟩
  · cases i with
    | zero =>
      cases (Option.some.inj h1)
      cases (Option.some.inj h2)
      exact ⟨ns.map V.int, rep_ints ns, (if_pos rfl).mpr hF⟩
    | succ i => simp at h1
  · cases i with
    | zero => cases (Option.some.inj h3); cases h5
    | succ i => simp at h1
  · show PostF K [a] H (f_law [.lst 0] [⟨true, ns.map D.int⟩]) _
    rw [e]
    exact fun mp' H' v _ _ h => h
end Law
set_option Elab.async false
open PySem PySem.W PyProof.Rows
set_option maxRecDepth 100000 in
set_option maxHeartbeats 0 in
theorem PySem.Challenge.cw_summitwater_k03_canals_written_and_read_holds : PySem.Challenge.rw_summitwater_k03_canals_written_and_read.Holds := by
  w_on; o_law; k_head; (case hw => w_witness2)
  k_fill
  refine L2.walk_ofK (l := PySem.Challenge.rw_summitwater_k03_canals_written_and_read) (n := 63) (k := 7) (x := "_law_script") (CX := L2.CX0) (sp := fun K => DL.spD K 1 Law.f_law) rfl (by decide) rfl ⟨rfl, by decide, by decide, rfl⟩ (fun w h Y => PySem.W.kIn_of Y) ?F Law.hsp (fun _ _ _ _ z => z)
  case F =>
    intro w mg fa h KX G hmg
    refine' Law.all_mk KX G hmg ?a_place_words ?l_place_words ?c_place_words ?k_place_words ?a_canal_text ?l_canal_text ?c_canal_text ?k_canal_text ?a_word_at ?l_word_at ?c_word_at ?k_word_at ?a_may_follow ?l_may_follow ?c_may_follow ?k_may_follow ?a_is_written ?l_is_written ?c_is_written ?k_is_written ?a_number_of ?l_number_of ?c_number_of ?k_number_of ?a_read_number ?l_read_number ?c_read_number ?k_read_number ?a_read_pound ?l_read_pound ?c_read_pound ?k_read_pound ?a_read_place ?l_read_place ?c_read_place ?k_read_place ?a_read_gate ?l_read_gate ?c_read_gate ?k_read_gate ?a_read_canal ?l_read_canal ?c_read_canal ?k_read_canal ?a__law_tape ?l__law_tape ?c__law_tape ?k__law_tape ?a__law_draw ?l__law_draw ?c__law_draw ?k__law_draw ?a__law_pound ?l__law_pound ?c__law_pound ?k__law_pound ?a__law_canal ?l__law_canal ?c__law_canal ?k__law_canal ?a__law_words ?l__law_words ?c__law_words ?k__law_words ?a_law ?l_law ?c_law ?k_law ?z_all ?z_enumerate ?z_int ?z_isinstance ?z_len ?z_list ?z_min ?z_range ?z_repr ?z_str ?z_tuple ?z_zip ?ka_CHAMBER ?kl_CHAMBER ?ka_DOWN ?ka_END ?kl_END ?ka_FIGURES ?ka_MOST_BRIM ?ka_MOST_FIGURES ?ka_MOST_PLACES ?ka_MOST_PRICE ?ka_MOST_ROOM ?ka_UP
    (case a_place_words => k_is); (case l_place_words => k_is); (case c_place_words => k_is); (case k_place_words => k_is)
    (case a_canal_text => k_is); (case l_canal_text => k_is); (case c_canal_text => k_is); (case k_canal_text => k_is)
    (case a_word_at => k_is); (case l_word_at => k_is); (case c_word_at => k_is); (case k_word_at => k_is)
    (case a_may_follow => k_is); (case l_may_follow => k_is); (case c_may_follow => k_is); (case k_may_follow => k_is)
    (case a_is_written => k_is); (case l_is_written => k_is); (case c_is_written => k_is); (case k_is_written => k_is)
    (case a_number_of => k_is); (case l_number_of => k_is); (case c_number_of => k_is); (case k_number_of => k_is)
    (case a_read_number => k_is); (case l_read_number => k_is); (case c_read_number => k_is); (case k_read_number => k_is)
    (case a_read_pound => k_is); (case l_read_pound => k_is); (case c_read_pound => k_is); (case k_read_pound => k_is)
    (case a_read_place => k_is); (case l_read_place => k_is); (case c_read_place => k_is); (case k_read_place => k_is)
    (case a_read_gate => k_is); (case l_read_gate => k_is); (case c_read_gate => k_is); (case k_read_gate => k_is)
    (case a_read_canal => k_is); (case l_read_canal => k_is); (case c_read_canal => k_is); (case k_read_canal => k_is)
    (case a__law_tape => k_is); (case l__law_tape => k_is); (case c__law_tape => k_is); (case k__law_tape => k_is)
    (case a__law_draw => k_is); (case l__law_draw => k_is); (case c__law_draw => k_is); (case k__law_draw => k_is)
    (case a__law_pound => k_is); (case l__law_pound => k_is); (case c__law_pound => k_is); (case k__law_pound => k_is)
    (case a__law_canal => k_is); (case l__law_canal => k_is); (case c__law_canal => k_is); (case k__law_canal => k_is)
    (case a__law_words => k_is); (case l__law_words => k_is); (case c__law_words => k_is); (case k__law_words => k_is)
    (case a_law => k_is); (case l_law => k_is); (case c_law => k_is); (case k_law => k_is)
    (case z_all => k_is)
    (case z_enumerate => k_is)
    (case z_int => k_is)
    (case z_isinstance => k_is)
    (case z_len => k_is)
    (case z_list => k_is)
    (case z_min => k_is)
    (case z_range => k_is)
    (case z_repr => k_is)
    (case z_str => k_is)
    (case z_tuple => k_is)
    (case z_zip => k_is)
    (case ka_CHAMBER => k_is)
    (case kl_CHAMBER => k_is)
    (case ka_DOWN => k_is)
    (case ka_END => k_is)
    (case kl_END => k_is)
    (case ka_FIGURES => k_is)
    (case ka_MOST_BRIM => k_is)
    (case ka_MOST_FIGURES => k_is)
    (case ka_MOST_PLACES => k_is)
    (case ka_MOST_PRICE => k_is)
    (case ka_MOST_ROOM => k_is)
    (case ka_UP => k_is)
