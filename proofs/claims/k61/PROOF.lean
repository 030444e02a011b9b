import PyProof.Rows.All
import Wide.All
import OpenK.AllK
import Wide.FinOn
import Lean
import PyProof.EqAt
import PyProof.EqKinds
import PyProof.TupleCall
import PyProof.FactsAll.tuple_2
import PyProof.ListMulRoad
import PyProof.ZipIter
import PyProof.EnumFor
import PyProof.Rows.StrJoin2
import PyProof.FString
import PySem.Challenge.RW_summitwater_k61_houses_known
set_option Elab.async false
set_option linter.all false
set_option maxRecDepth 100000
namespace L2
open PySem PySem.Spec PyProof.Rows
abbrev Key := Sum Int Str
def keyIs : Key → Value → Bool
  | .inl k, v => Value.isInt k v
  | .inr x, v => Value.isStrOf x v
def keyH (w : World) : Key → Int
  | .inl k => hashInt k
  | .inr x => hashStr w x
theorem keyIs_shape : ∀ {k : Key} {v : Value}, keyIs k v = true → (∃ i t, k = Sum.inl i ∧ v = Value.int i t) ∨ (∃ x t, k = Sum.inr x ∧ v = Value.str x t)
  | .inl i, v, h => by
    obtain ⟨t, e⟩ := Value.isInt_shape (k := i) (v := v) h
    exact .inl ⟨i, t, rfl, e⟩
  | .inr x, v, h => by
    obtain ⟨t, e⟩ := Value.isStrOf_shape (x := x) (v := v) h
    exact .inr ⟨x, t, rfl, e⟩
theorem key_ll (a b : Int) : decide ((Sum.inl a : Key) = Sum.inl b) = (a == b) := by
  by_cases e : a = b
  · subst e; simp
  · have h : ¬ (Sum.inl a : Key) = Sum.inl b := fun q => e (Sum.inl.inj q)
    rw [decide_eq_false h]
    exact (beq_eq_false_iff_ne.mpr e).symm
theorem key_rr (a b : Str) : decide ((Sum.inr a : Key) = Sum.inr b) = decide (a = b) := by
  by_cases e : a = b
  · subst e; simp
  · have h : ¬ (Sum.inr a : Key) = Sum.inr b := fun q => e (Sum.inr.inj q)
    rw [decide_eq_false h, decide_eq_false e]
theorem key_lr (a : Int) (b : Str) : decide ((Sum.inl a : Key) = Sum.inr b) = false := decide_eq_false (fun q => nomatch q)
theorem key_rl (a : Str) (b : Int) : decide ((Sum.inr a : Key) = Sum.inl b) = false := decide_eq_false (fun q => nomatch q)
def mixKind (prog : Program) (w : World) : PySem.KeyKind prog w Key where
  is := keyIs
  hash := keyH w
  inj := fun v a b ha hb => by
    rcases keyIs_shape ha with ⟨i, t, rfl, rfl⟩ | ⟨x, t, rfl, rfl⟩
    · rcases keyIs_shape hb with ⟨j, u, rfl, e⟩ | ⟨y, u, rfl, e⟩
      · injection e with e1 _; rw [e1]
      · exact nomatch e
    · rcases keyIs_shape hb with ⟨j, u, rfl, e⟩ | ⟨y, u, rfl, e⟩
      · exact nomatch e
      · injection e with e1 _; rw [e1]
  byValue := fun k v h => by
    rcases keyIs_shape h with ⟨i, t, rfl, rfl⟩ | ⟨x, t, rfl, rfl⟩ <;> rfl
  pyHash := fun hv h => by
    rcases keyIs_shape hv with ⟨i, t, rfl, rfl⟩ | ⟨x, t, rfl, rfl⟩
    · exact wpAny_pyHash_int h
    · exact wpAny_pyHash_str h
  eqBool := fun hu hv h => by
    rcases keyIs_shape hu with ⟨i, t, rfl, rfl⟩ | ⟨x, t, rfl, rfl⟩
    · rcases keyIs_shape hv with ⟨j, u, rfl, rfl⟩ | ⟨y, u, rfl, rfl⟩
      · rw [key_ll] at h; exact wpAny_eqBool_int h
      · rw [key_lr] at h; exact SeqAt.EqAt.int_str i t y u _ _ _ _ h
    · rcases keyIs_shape hv with ⟨j, u, rfl, rfl⟩ | ⟨y, u, rfl, rfl⟩
      · rw [key_rl] at h; exact SeqAt.EqAt.str_int x t j u _ _ _ _ h
      · rw [key_rr] at h; exact wpAny_eqBool_str h
  «strs» := fun k x t v h => by
    rcases keyIs_shape h with ⟨i, u, rfl, e⟩ | ⟨y, u, rfl, e⟩
    · exact nomatch e
    · injection e with e1 _
      subst e1
      cases v <;> rfl
end L2
namespace L2
open PySem PySem.Spec PyProof.Rows
inductive V where
  | non | bl (b : Bool) | int (i : Int) | str (x : Str) | byt (b : Array UInt8) | flt (b : UInt64) | ref (a : Addr) | ty (n : String)
  deriving DecidableEq
def RelV : V → Value → Prop
  | .non, u => u = Value.none
  | .bl b, u => u = Value.bool b
  | .int i, u => ∃ t, u = Value.int i t
  | .str x, u => ∃ t, u = Value.str x t
  | .byt b, u => ∃ t, u = Value.bytes b t
  | .flt b, u => ∃ t, u = Value.float b t
  | .ref a, u => u = Value.ref a
  | .ty n, u => u = Value.type n
abbrev Vals : List V → List Value → Prop := Paired RelV
theorem Vals.length {xs : List V} {us : List Value} (r : Vals xs us) : xs.length = us.length := Paired.length r
theorem Vals.get : ∀ {xs : List V} {us : List Value} {i : Nat} {x : V}, Vals xs us → xs[i]? = some x → ∃ u, us[i]? = some u ∧ RelV x u
  | _, _, _, _, .nil, e => by simp at e
  | _, _, 0, _, .cons r _, e => by simp at e; subst e; exact ⟨_, rfl, r⟩
  | _, _, i + 1, x, .cons _ t, e => by
    obtain ⟨u, h1, h2⟩ := Vals.get (i := i) (x := x) t (by simpa using e)
    exact ⟨u, by simpa using h1, h2⟩
theorem Vals.set {x : V} {u : Value} (r : RelV x u) : ∀ {xs : List V} {us : List Value} (i : Nat), Vals xs us → Vals (xs.set i x) (us.set i u)
  | _, _, _, .nil => .nil
  | _, _, 0, .cons _ t => .cons r t
  | _, _, i + 1, .cons q t => .cons q (Vals.set r i t)
theorem Vals.append : ∀ {xs ys : List V} {us ws : List Value}, Vals xs us → Vals ys ws → Vals (xs ++ ys) (us ++ ws)
  | _, _, _, _, .nil, s => s
  | _, _, _, _, .cons r t, s => .cons r (Vals.append t s)
theorem Vals.take : ∀ {xs : List V} {us : List Value} (n : Nat), Vals xs us → Vals (xs.take n) (us.take n)
  | _, _, 0, _ => .nil
  | _, _, _ + 1, .nil => .nil
  | _, _, n + 1, .cons r t => .cons r (Vals.take n t)
theorem Vals.drop : ∀ {xs : List V} {us : List Value} (n : Nat), Vals xs us → Vals (xs.drop n) (us.drop n)
  | _, _, 0, r => r
  | _, _, _ + 1, .nil => .nil
  | _, _, n + 1, .cons _ t => Vals.drop n t
def RelO : Option V → Option Value → Prop
  | some v, some u => RelV v u
  | none, none => True
  | _, _ => False
def KV {κ : Type} : List (κ × V) → List (κ × Value) → Prop := Paired fun (p : κ × V) (q : κ × Value) => p.1 = q.1 ∧ RelV p.2 q.2
def kV : Key → V
  | .inl i => .int i
  | .inr x => .str x
inductive HO where
  /-- a list -/
  | lst (xs : List V)
  /-- a tuple (never changes) -/
  | tup (xs : List V)
  /-- a dict whose keys are ints and texts; one whose keys are tuples of ints and texts (the empty one is both) -/
  | dK (kvs : List (Key × V)) | dT (kvs : List (List Key × V))
  /-- a set of ints: its members, its size -/
  | set (S : Int → Bool) (n : Nat)
  /-- an instance of the class at C, its dict at dx, its attributes -/
  | ins (C dx : Addr) (fs : List (Str × V))
  /-- the dict of the instance at x -/
  | own (x : Addr)
  /-- the dict of an exception -/
  | xd (fs : List (Str × V))
  /-- a bound method, f of x -/
  | met (f x : Addr)
  /-- a range object lo, lo + 1, .. below hi -/
  | rng (lo hi : Int)
  /-- a thing that is known to the object (the script; a dict while a loop walks it): read, never written while it is so -/
  | frz (o : Obj) (u : HO)
  /-- a code object's table -/
  | tbl (ps : Array Value)
  /-- any other thing, by what is true of its one object (a def of one's own: SetO a S n := HO.ext fun h => ..) -/
  | ext (φ : Heap → Prop)
abbrev Hp := Addr → Option HO
def upd (H : Hp) (a : Addr) (o : HO) : Hp := fun b => if b = a then some o else H b
theorem upd_same {H : Hp} {a : Addr} {o : HO} : upd H a o a = some o := by unfold upd; rw [if_pos rfl]
theorem upd_ne {H : Hp} {a b : Addr} {o : HO} (h : b ≠ a) : upd H a o b = H b := by unfold upd; rw [if_neg h]
theorem ne_of {H : Hp} {a b : Addr} {o u : HO} (h : H a = some o) (h' : H b = some u) (d : o ≠ u) : a ≠ b := by
  intro e; subst e; rw [h] at h'; exact d (Option.some.inj h')
theorem ne_of_none {H : Hp} {a b : Addr} {o : HO} (h : H a = some o) (h' : H b = none) : a ≠ b := by
  intro e; subst e; rw [h] at h'; cases h'
section
variable (P : Program) (w : World)
def ObjOk (H : Hp) (h : Heap) (a : Addr) : HO → Prop
  | .lst xs => xs.length ≤ sizeLine ∧ ∃ (its : List Value) (n : Nat), Vals xs its ∧ h.get? a = some { cls := .type "list", data := .seq its.toArray n }
  | .tup xs => xs.length ≤ sizeLine ∧ ∃ its : List Value, Vals xs its ∧ IsTup h a its.toArray
  | .dK kvs => kvs.length ≤ sizeLine ∧ (a == sysModules) = false ∧ ∃ vs, KV kvs vs ∧ h.DictOf (mixKind P w) a vs
  | .dT kvs => kvs.length ≤ sizeLine ∧ (a == sysModules) = false ∧ ∃ xs : List (List Key × Addr × Value),
      Paired (fun (p : List Key × V) (q : List Key × Addr × Value) => p.1 = q.1 ∧ H q.2.1 = some (.tup (p.1.map kV)) ∧ RelV p.2 q.2.2) kvs xs ∧
      ∃ o es ep, h.get? a = some o ∧ o.ExactDict ∧ o.data = .dict es ep ∧ es.toList = xs.map (entryOfKey (tupleKind (mixKind P w))) ∧ (xs.map (·.1)).Nodup
  | .set S n => h.SetOf (intKind P w) a S n
  | .ins C dx fs => H dx = some (.own a) ∧ fs.length ≤ 1000 ∧ dx ≠ a ∧ h.get? a = some (PySem.W.instObj C dx) ∧
      ∃ mA, h.Ns1 dx mA ∧ (∀ f, RelO (fs.lookup f) (mA f)) ∧ PySem.Within mA (fs.map (·.1))
  | .own _ => ∃ o, h.get? a = some o
  | .xd fs => ∃ mA, h.Ns1 a mA ∧ ∀ f, RelO (fs.lookup f) (mA f)
  | .rng lo hi => ∃ t u v, h.get? a = some { cls := .type "range", data := .fields #[.int lo t, .int hi u, .int 1 v] }
  | .frz o u => h.get? a = some o ∧ ObjOk H h a u
  | .tbl ps => h.get? a = some { cls := .none, data := .fields ps }
  | .met f x => h.get? a = some (PySem.W.methodObj (.ref f) (.ref x))
  | .ext φ => φ h ∧ (∃ o, h.get? a = some o) ∧ ∀ h1 h2 : Heap, φ h1 → (∀ o, h1.get? a = some o → h2.get? a = some o) → φ h2
def HOk (H : Hp) (h : Heap) : Prop := ∀ a o, H a = some o → ObjOk P w H h a o
end
section
variable {P : Program} {w : World} {H H' : Hp} {h h' : Heap} {a : Addr} {o : HO}
theorem ObjOk.lt (x : ObjOk P w H h a o) : a < h.objs.size := by
  cases o with
  | lst xs => obtain ⟨_, _, _, _, e⟩ := x; exact Heap.lt_size e
  | tup xs => obtain ⟨_, _, _, p⟩ := x; exact p.lt
  | dK kvs => obtain ⟨_, _, _, _, o, _, _, e, _⟩ := x; exact Heap.lt_size e
  | dT kvs => obtain ⟨_, _, _, _, o, _, _, e, _⟩ := x; exact Heap.lt_size e
  | set S n => obtain ⟨o, _, _, _, e, _⟩ := x; exact Heap.lt_size e
  | ins C dx fs => obtain ⟨_, _, _, e, _⟩ := x; exact Heap.lt_size e
  | own y => obtain ⟨_, e⟩ := x; exact Heap.lt_size e
  | xd fs => obtain ⟨_, ⟨_, _, _, e, _⟩, _⟩ := x; exact Heap.lt_size e
  | rng lo hi => obtain ⟨_, _, _, e⟩ := x; exact Heap.lt_size e
  | frz ob u => obtain ⟨e, _⟩ := x; exact Heap.lt_size e
  | tbl ps => exact Heap.lt_size (show h.get? a = some _ from x)
  | met f y => exact Heap.lt_size (show h.get? a = some _ from x)
  | ext φ => obtain ⟨_, ⟨_, e⟩, _⟩ := x; exact Heap.lt_size e
theorem Paired.mapP {α β : Type} {F G : α → β → Prop} : ∀ {l₁ : List α} {l₂ : List β}, Paired F l₁ l₂ → (∀ a b, F a b → G a b) → Paired G l₁ l₂
  | _, _, .nil, _ => .nil
  | _, _, .cons r t, f => .cons (f _ _ r) (Paired.mapP t f)
theorem ObjOk.stay (x : ObjOk P w H h a o) (k : ∀ b u, (b = a ∨ H b = some (.own a)) → h.get? b = some u → h'.get? b = some u)
    (ho : ∀ b, H b = some (.own a) → H' b = some (.own a)) (ht : ∀ b xs, H b = some (.tup xs) → H' b = some (.tup xs)) : ObjOk P w H' h' a o := by
  induction o with
  | lst xs => obtain ⟨z, its, n, r, e⟩ := x; exact ⟨z, its, n, r, k _ _ (.inl rfl) e⟩
  | tup xs => obtain ⟨z, its, r, ob, e, c⟩ := x; exact ⟨z, its, r, ob, k _ _ (.inl rfl) e, c⟩
  | dK kvs => obtain ⟨z, y, vs, r, ob, es, ep, e, c⟩ := x; exact ⟨z, y, vs, r, ob, es, ep, k _ _ (.inl rfl) e, c⟩
  | dT kvs =>
    obtain ⟨z, y, xs, r, ob, es, ep, e, c⟩ := x
    exact ⟨z, y, xs, Paired.mapP r fun p q z => ⟨z.1, ht _ _ z.2.1, z.2.2⟩, ob, es, ep, k _ _ (.inl rfl) e, c⟩
  | set S n => obtain ⟨ob, es, ep, t, e, c⟩ := x; exact ⟨ob, es, ep, t, k _ _ (.inl rfl) e, c⟩
  | ins C dx fs =>
    obtain ⟨d, z, ne, e, mA, ⟨od, es, ep, e2, c⟩, r⟩ := x
    exact ⟨ho _ d, z, ne, k _ _ (.inl rfl) e, mA, ⟨od, es, ep, k _ _ (.inr d) e2, c⟩, r⟩
  | own y => obtain ⟨ob, e⟩ := x; exact ⟨ob, k _ _ (.inl rfl) e⟩
  | xd fs => obtain ⟨mA, ⟨od, es, ep, e, c⟩, r⟩ := x; exact ⟨mA, ⟨od, es, ep, k _ _ (.inl rfl) e, c⟩, r⟩
  | rng lo hi => obtain ⟨t, u, v, e⟩ := x; exact ⟨t, u, v, k _ _ (.inl rfl) e⟩
  | frz ob u ih => obtain ⟨e, q⟩ := x; exact ⟨k _ _ (.inl rfl) e, ih q⟩
  | tbl ps =>
    have e : h.get? a = some { cls := .none, data := .fields ps } := x
    show h'.get? a = some { cls := .none, data := .fields ps }
    exact k a _ (.inl rfl) e
  | met f y =>
    have e : h.get? a = some (PySem.W.methodObj (.ref f) (.ref y)) := x
    show h'.get? a = some (PySem.W.methodObj (.ref f) (.ref y))
    exact k a _ (.inl rfl) e
  | ext φ => obtain ⟨p, ⟨o, e⟩, st⟩ := x; exact ⟨st _ _ p fun o q => k _ _ (.inl rfl) q, ⟨o, k _ _ (.inl rfl) e⟩, st⟩
theorem HOk.lt (x : HOk P w H h) (e : H a = some o) : a < h.objs.size := (x a o e).lt
theorem HOk.fresh (x : HOk P w H h) (e : h.objs.size ≤ a) : H a = none := by
  cases q : H a with
  | none => rfl
  | some u => exact absurd (Nat.lt_of_lt_of_le (x.lt q) e) (Nat.lt_irrefl _)
theorem HOk.kept (x : HOk P w H h) (k : ∀ b u, h.get? b = some u → h'.get? b = some u) : HOk P w H h' := fun a o e =>
  (x a o e).stay (fun b u _ q => k b u q) (fun _ q => q) fun _ _ q => q
theorem HOk.laid (x : HOk P w H h) (k : ∀ b u, h.get? b = some u → h'.get? b = some u) (hp : h.objs.size ≤ a) (new : ObjOk P w (upd H a o) h' a o) : HOk P w (upd H a o) h' := fun b u e => by
  have hn := x.fresh hp
  by_cases hb : b = a
  · subst hb; rw [upd_same] at e; cases e; exact new
  · rw [upd_ne hb] at e
    exact (x b u e).stay (fun c v _ q => k c v q) (fun c q => by rw [upd_ne (ne_of_none q hn)]; exact q) fun c xs q => by rw [upd_ne (ne_of_none q hn)]; exact q
end
def Rd (H : Hp) (a : Addr) (u : HO) : Prop := H a = some u ∨ ∃ o, H a = some (.frz o u)
theorem Rd.of {H : Hp} {a : Addr} {u : HO} (h : H a = some u) : Rd H a u := .inl h
theorem Rd.ok {P : Program} {w : World} {H : Hp} {h : Heap} {a : Addr} {u : HO} (r : Rd H a u) (x : HOk P w H h) : ObjOk P w H h a u := by
  rcases r with r | ⟨o, r⟩
  · exact x a u r
  · obtain ⟨_, q⟩ := x a _ r
    exact q
def Mut : Option HO → Prop
  | some (.lst _) => True
  | some (.dK _) => True
  | some (.dT _) => True
  | some (.set _ _) => True
  | some (.ins _ _ _) => True
  | some (.ext _) => True
  | _ => False
section
variable {P : Program} {w : World} {H : Hp} {h h' : Heap} {x e : Addr} {o' : HO}
theorem HOk.write (ok : HOk P w H h) (mu : Mut (H x)) (he : e = x ∨ H e = some (.own x)) (k : ∀ b u, b ≠ e → h.get? b = some u → h'.get? b = some u) (heo : ∃ u, h'.get? e = some u)
    (new : ObjOk P w (upd H x o') h' x o') : HOk P w (upd H x o') h' := fun b u q => by
  have nown : ∀ c y, H c = some (.own y) → c ≠ x := fun c y r z => by subst z; rw [r] at mu; exact mu
  have ntup : ∀ c xs, H c = some (.tup xs) → c ≠ x := fun c xs r z => by subst z; rw [r] at mu; exact mu
  by_cases hb : b = x
  · subst hb; rw [upd_same] at q; cases q; exact new
  · rw [upd_ne hb] at q
    by_cases hbe : b = e
    · have q' : H b = some (.own x) := by
        rcases he with z | z
        · exact absurd (hbe.trans z) hb
        · rw [hbe]; exact z
      rw [q] at q'; cases q'
      obtain ⟨v, hv⟩ := heo
      exact ⟨v, by rw [hbe]; exact hv⟩
    · refine (ok b u q).stay (fun c v hc r => k c v ?_ r) (fun c r => by rw [upd_ne (nown c b r)]; exact r) fun c xs r => by rw [upd_ne (ntup c xs r)]; exact r
      rcases hc with rfl | hc
      · exact hbe
      · rintro rfl
        rcases he with z | z
        · exact nown c b hc z
        · rw [hc] at z; cases z; exact hb rfl
end
structure Un (fs ex : List Addr) (H H' : Hp) (h h' : Heap) : Prop where
  keep : ∀ b o, h.get? b = some o → H b = none → b ∉ fs → b ∉ ex → h'.get? b = some o
  slot : ∀ b o, h.get? b = some o → H b = none → b ∈ fs → b ∉ ex → ∃ sl, h'.get? b = some { o with slots := sl }
  free : ∀ b o, h.get? b = some o → H b = none → b ∉ ex → H' b = none
  there : ∀ b o, h.get? b = some o → b ∉ ex → ∃ o', h'.get? b = some o'
  tups : ∀ b xs, H b = some (.tup xs) → H' b = some (.tup xs)
  frzs : ∀ b o u, H b = some (.frz o u) → H' b = some (.frz o u)
  tbls : ∀ b ps, H b = some (.tbl ps) → ∃ more, H' b = some (.tbl (ps ++ more))
section
variable {fs fs' ex ex' : List Addr} {H H1 H2 : Hp} {h h1 h2 h' : Heap} {a x e : Addr} {o : HO}
theorem Un.any (u : Un fs ex H H1 h h1) {b : Addr} {ob : Obj} (q : h.get? b = some ob) (n : H b = none) (hx : b ∉ ex) : ∃ sl, h1.get? b = some { ob with slots := sl } := by
  by_cases hb : b ∈ fs
  · exact u.slot b ob q n hb hx
  · exact ⟨ob.slots, u.keep b ob q n hb hx⟩
theorem Un.trans (a : Un fs ex H H1 h h1) (b : Un fs ex H1 H2 h1 h2) : Un fs ex H H2 h h2 where
  keep := fun c ob q n hc hx => b.keep c ob (a.keep c ob q n hc hx) (a.free c ob q n hx) hc hx
  slot := fun c ob q n hc hx => by
    obtain ⟨sl, e1⟩ := a.slot c ob q n hc hx
    obtain ⟨sl', e2⟩ := b.slot c _ e1 (a.free c ob q n hx) hc hx
    exact ⟨sl', e2⟩
  free := fun c ob q n hx => by
    obtain ⟨o', e1⟩ := a.there c ob q hx
    exact b.free c o' e1 (a.free c ob q n hx) hx
  there := fun c ob q hx => by
    obtain ⟨o', e1⟩ := a.there c ob q hx
    exact b.there c o' e1 hx
  tups := fun c xs q => b.tups c xs (a.tups c xs q)
  frzs := fun c ob xs q => b.frzs c ob xs (a.frzs c ob xs q)
  tbls := fun c ps q => by
    obtain ⟨m1, e1⟩ := a.tbls c ps q
    obtain ⟨m2, e2⟩ := b.tbls c _ e1
    exact ⟨m1 ++ m2, by rw [e2, Array.append_assoc]⟩
theorem Un.kept (k : ∀ b u, h.get? b = some u → h'.get? b = some u) : Un fs ex H H h h' :=
  ⟨fun b ob q _ _ _ => k b ob q, fun b ob q _ _ _ => ⟨ob.slots, k b ob q⟩, fun _ _ _ n _ => n, fun b ob q _ => ⟨ob, k b ob q⟩, fun _ _ q => q, fun _ _ _ q => q, fun _ ps q => ⟨#[], by rw [q]; simp⟩⟩
theorem Un.refl : Un fs ex H H h h := Un.kept fun _ _ q => q
theorem Un.laid (k : ∀ b u, h.get? b = some u → h'.get? b = some u) (hp : h.objs.size ≤ a) (hn : H a = none) : Un fs ex H (upd H a o) h h' where
  keep := fun b u q _ _ _ => k b u q
  slot := fun b u q _ _ _ => ⟨u.slots, k b u q⟩
  free := fun b u q n _ => by rw [upd_ne (Nat.ne_of_lt (Nat.lt_of_lt_of_le (Heap.lt_size q) hp))]; exact n
  there := fun b u q _ => ⟨u, k b u q⟩
  tups := fun b xs q => by rw [upd_ne (ne_of_none q hn)]; exact q
  frzs := fun b u xs q => by rw [upd_ne (ne_of_none q hn)]; exact q
  tbls := fun b ps q => ⟨#[], by rw [upd_ne (ne_of_none q hn), q]; simp⟩
theorem Un.write (mu : Mut (H x)) (he : e = x ∨ H e = some (.own x)) (k : ∀ b u, b ≠ e → h.get? b = some u → h'.get? b = some u) (heo : ∃ u, h'.get? e = some u) : Un fs ex H (upd H x o) h h' := by
  have hx : ∀ b, H b = none → b ≠ x := fun b n z => by subst z; rw [n] at mu; exact mu
  have hb : ∀ b, H b = none → b ≠ e := fun b n z => by
    subst z
    rcases he with r | r
    · exact hx b n r
    · rw [n] at r; cases r
  have hm : ∀ b u, H b = some u → ¬ Mut (some u) → b ≠ x := fun b u q nm z => by subst z; rw [q] at mu; exact nm mu
  refine ⟨fun b u q n _ _ => k b u (hb b n) q, fun b u q n _ _ => ⟨u.slots, k b u (hb b n) q⟩, fun b u q n _ => by rw [upd_ne (hx b n)]; exact n, fun b u q _ => ?_,
    fun b xs q => by rw [upd_ne (hm b _ q fun z => z)]; exact q, fun b u xs q => by rw [upd_ne (hm b _ q fun z => z)]; exact q, fun b ps q => ⟨#[], by rw [upd_ne (hm b _ q fun z => z), q]; simp⟩⟩
  by_cases hbe : b = e
  · subst hbe; exact heo
  · exact ⟨u, k b u hbe q⟩
theorem Un.mono (u : Un fs ex H H1 h h1) (hs : ∀ b ∈ fs, b ∈ fs') (hx : ∀ b ∈ ex, b ∈ ex') : Un fs' ex' H H1 h h1 :=
  ⟨fun b ob q n hb he => u.keep b ob q n (fun z => hb (hs b z)) fun z => he (hx b z), fun _ _ q n _ he => u.any q n fun z => he (hx _ z), fun b ob q n he => u.free b ob q n fun z => he (hx b z), fun b ob q he => u.there b ob q fun z => he (hx b z), u.tups, u.frzs, u.tbls⟩
end
def trk (h : Heap) (H : Hp) : List Addr := (List.range h.objs.size).filter fun a => (H a).isSome
def hidT (h : Heap) (H : Hp) : Heap := PySem.W.hideAll h (trk h H)
theorem hidT_size (h : Heap) (H : Hp) : (hidT h H).objs.size = h.objs.size := PySem.W.hideAll_size _ _
theorem hidT_get {h : Heap} {H : Hp} {b : Addr} {o : Obj} (e : h.get? b = some o) (n : H b = none) : (hidT h H).get? b = some o :=
  PySem.W.hideAll_get _ e fun hm => by
    have q : (H b).isSome = true := (List.mem_filter.mp hm).2
    rw [n] at q; simp at q
theorem of_hidT {h : Heap} {H : Hp} {b : Addr} {o : Obj} (e : (hidT h H).get? b = some o) : h.get? b = some o ∧ H b = none := by
  have e' : h.get? b = some o := PySem.W.of_hideAll (trk h H) e
  refine ⟨e', ?_⟩
  cases q : H b with
  | none => rfl
  | some x =>
    have hm : b ∈ trk h H := List.mem_filter.mpr ⟨List.mem_range.mpr (Heap.lt_size e'), by simp [q]⟩
    have z : (hidT h H).get? b = none := PySem.W.hideAll_none (trk h H) hm
    rw [z] at e; cases e
def allNews (g h : Heap) (L : Addr) : List (Addr × Obj) := (List.range h.objs.size).filterMap fun a => if a = L ∨ (g.get? a).isSome = true then none else (h.get? a).map fun o => (a, o)
def rest (g h : Heap) (L d : Addr) : List (Addr × Obj) := (allNews g h L).filter fun p => decide (p.1 ≠ d)
end L2
namespace L2
open PySem PySem.Spec PyProof.Rows
structure Mod (K : PySem.W.Frag) (mg : Str → Option Value) (base : Heap) : Prop where
  kin : K.In base
  glob : base.Ns mainGlobals mg
  blt : ∃ mb, base.Ns builtinsNs mb ∧ ∀ x : Str, x ≠ "__name__" → mb x = bootBuiltins x
  nolimit : base.NoLimit
structure Cx where
  prog : Program
  w : World
  K : PySem.W.Frag
  mg : Str → Option Value
  base : Heap
  A : Around
  N : List Str
  s₀ : Shared
  H₀ : Hp
  env : Env
  outer : List Env
  stack : List Env
  ex : List Addr
  fn : Str → Bool
  calm : Bool
  pn : List (Addr × Obj)
  xe : Value → Shared → Prop
def frs (l : List Env) : List Addr := l.filterMap (·.frame)
abbrev Cx.fs (X : Cx) : List Addr := frs X.outer
def Vis (sc : Scope) (x : Str) : Prop := sc.names.lookup x = some .local ∨ sc.names.lookup x = some .cell ∨ sc.names.lookup x = some .free
def Loc (sc : Scope) (x : Str) : Prop := sc.names.lookup x = some .local ∨ sc.names.lookup x = some .cell
def Look (env : Env) (h : Heap) (m : Str → Option Value) (x : Str) (u : Value) : Prop :=
  (env.kindOf x = some .local ∧ m x = some u) ∨ ((env.kindOf x = some .cell ∨ env.kindOf x = some .free) ∧ ∃ c, env.cells.lookup x = some c ∧ h.IsCell c (some u))
structure Cx.Ok (X : Cx) : Prop where
  mod : Mod X.K X.mg X.base
  kind : X.env.scope.kind = .function
  glob : X.env.globals = mainGlobals
  blt : X.env.builtins = builtinsNs
  above : X.s₀.heap.objs.size ≤ X.env.locals
  inj : ∀ x y c, X.env.cells.lookup x = some c → X.env.cells.lookup y = some c → x = y
  has : ∀ x, (X.env.kindOf x = some .cell ∨ X.env.kindOf x = some .free) → ∃ c, X.env.cells.lookup x = some c
  cab : ∀ x c, X.fn x = true → X.env.cells.lookup x = some c → X.s₀.heap.objs.size ≤ c
  hd : X.calm = true → X.A.handled = none
  frames : X.A.frames = some X.stack
  stk : X.stack = X.outer ∨ (X.stack = X.env :: X.outer ∧ X.env.frame = some X.env.locals)
  exf : ∀ b ∈ X.ex, b ≠ X.env.locals ∧ ∀ x c, X.env.cells.lookup x = some c → c ≠ b
  bs : ∀ b o, X.base.get? b = some o → X.s₀.heap.get? b = some o ∧ X.H₀ b = none
  bsz : X.base.objs.size ≤ X.s₀.heap.objs.size
  noex : ∀ b o, X.base.get? b = some o → b ∉ X.ex
  exfs : ∀ b ∈ X.ex, b ∉ X.fs
  funs : X.s₀.heap.FunFrames X.base X.outer
  frf : ∀ b ∈ X.fs, X.H₀ b = none
structure Inv (X : Cx) (pins : List (Addr × Obj)) (σ : List (Option V)) (H : Hp) (s : Shared) : Prop where
  ok : X.Ok
  os : s.os = X.s₀.os
  bare : AllBare s.gens
  base : Un X.fs X.ex X.H₀ H X.s₀.heap s.heap
  loc : ∃ m, s.heap.Ns X.env.locals m ∧ ∀ (i : Nat) (x : Str) (v : V), X.N[i]? = some x → σ[i]? = some (some v) → Vis X.env.scope x → ∃ u, RelV v u ∧ Look X.env s.heap m x u
  cell : ∀ x c, X.env.cells.lookup x = some c → ∃ v, s.heap.IsCell c v
  free : H X.env.locals = none
  freeC : ∀ x c, X.env.cells.lookup x = some c → H c = none
  pin : ∀ p ∈ X.pn ++ pins, s.heap.get? p.1 = some p.2 ∧ H p.1 = none ∧ p.1 ≠ X.env.locals ∧ p.1 ∉ X.fs ∧ ∀ v, p.2.data ≠ .cell v
  hok : HOk X.prog X.w H s.heap
  len : σ.length = X.N.length
section
variable {X : Cx} {pins : List (Addr × Obj)} {σ : List (Option V)} {H H' : Hp} {s : Shared} {h' : Heap}
theorem Cx.Ok.nofr (ok : X.Ok) {b : Addr} {o : Obj} (e : X.base.get? b = some o) : b ∉ X.fs := fun hb => by
  have := (ok.funs.mem hb).1
  rw [e] at this; cases this
theorem Inv.bs (I : Inv X pins σ H s) : ∀ b o, X.base.get? b = some o → s.heap.get? b = some o ∧ H b = none := fun b o e =>
  ⟨I.base.keep b o (I.ok.bs b o e).1 (I.ok.bs b o e).2 (I.ok.nofr e) (I.ok.noex b o e), I.base.free b o (I.ok.bs b o e).1 (I.ok.bs b o e).2 (I.ok.noex b o e)⟩
theorem Inv.bk (I : Inv X pins σ H s) : ∀ b o, X.base.get? b = some o → s.heap.get? b = some o := fun b o e => (I.bs b o e).1
theorem Inv.mod (I : Inv X pins σ H s) : Mod X.K X.mg X.base := I.ok.mod
theorem Inv.kIn (I : Inv X pins σ H s) : X.K.In s.heap := I.ok.mod.kin.keeps I.bk
theorem Inv.nolimit (I : Inv X pins σ H s) : s.heap.NoLimit := I.ok.mod.nolimit.keeps I.bk
theorem Inv.fr (I : Inv X pins σ H s) : ∃ m, Fr X.base X.env.locals s.heap m :=
  let ⟨m, hn, _⟩ := I.loc
  ⟨m, hn, I.bk, Nat.le_trans I.ok.bsz I.ok.above⟩
theorem Inv.lt (I : Inv X pins σ H s) : X.env.locals < s.heap.objs.size := let ⟨_, hn, _⟩ := I.loc; hn.lt
theorem Inv.sz (I : Inv X pins σ H s) : X.s₀.heap.objs.size ≤ s.heap.objs.size := Nat.le_trans I.ok.above (Nat.le_of_lt I.lt)
theorem Inv.nofs (I : Inv X pins σ H s) {a : Addr} (h : s.heap.objs.size ≤ a) : a ∉ X.fs := fun hb => by
  obtain ⟨_, o, ho, _⟩ := I.ok.funs.mem hb
  exact absurd (Nat.lt_of_lt_of_le (Heap.lt_size ho) (Nat.le_trans I.sz h)) (Nat.lt_irrefl _)
theorem Inv.cne (I : Inv X pins σ H s) : ∀ x c, X.env.cells.lookup x = some c → c ≠ X.env.locals := fun x c e z => by
  obtain ⟨v, o, ho, hd⟩ := I.cell x c e
  obtain ⟨m, ⟨o', es, ep, ho', hd', _⟩, _⟩ := I.loc
  rw [z, ho'] at ho; cases ho; rw [hd'] at hd; cases hd
theorem Inv.funs (I : Inv X pins σ H s) : s.heap.FunFrames X.base X.outer := by
  have all : ∀ (l : List Env), (∀ b ∈ frs l, b ∈ X.fs) → X.s₀.heap.FunFrames X.base l → s.heap.FunFrames X.base l := by
    intro l
    induction l with
    | nil => intro _ _; trivial
    | cons env r ih =>
      intro hs hl
      obtain ⟨hk, ⟨L, o, hf, hn, ho, hd⟩, hr⟩ := hl
      have hL : L ∈ X.fs := hs L (by unfold frs; rw [List.filterMap_cons, hf]; exact List.mem_cons_self)
      obtain ⟨sl, e⟩ := I.base.slot L o ho (I.ok.frf L hL) hL fun z => I.ok.exfs L z hL
      exact ⟨hk, ⟨L, _, hf, hn, e, hd⟩, ih (fun b hb => hs b (by unfold frs; rw [List.filterMap_cons, hf]; exact List.mem_cons_of_mem _ hb)) hr⟩
  exact all X.outer (fun _ hb => hb) I.ok.funs
theorem Inv.stack (I : Inv X pins σ H s) : s.heap.FunFrames X.base X.stack := by
  rcases I.ok.stk with e | ⟨e, hf⟩
  · rw [e]; exact I.funs
  · rw [e]
    obtain ⟨m, hn, _⟩ := I.loc
    refine .cons (by rw [I.ok.kind]; decide) hf hn ?_ I.funs
    exact Heap.get?_none_of_le (Nat.le_trans I.ok.bsz I.ok.above)
theorem Inv.stkSub (I : Inv X pins σ H s) : ∀ b ∈ frs X.stack, b ∈ X.env.locals :: X.fs := fun b hb => by
  rcases I.ok.stk with e | ⟨e, hf⟩
  · rw [e] at hb; exact List.mem_cons_of_mem _ hb
  · rw [e] at hb
    unfold frs at hb
    rw [List.filterMap_cons, hf] at hb
    exact hb
theorem Inv.stkFree (I : Inv X pins σ H s) : ∀ b ∈ frs X.stack, H b = none := fun b hb => by
  rcases List.mem_cons.mp (I.stkSub b hb) with e | hb
  · rw [e]; exact I.free
  · obtain ⟨_, o, ho, _⟩ := I.ok.funs.mem hb
    exact I.base.free b o ho (I.ok.frf b hb) fun z => I.ok.exfs b z hb
theorem Inv.step {g' : Array GenState} {t' : Nat} {d' : Drawn} {ch : List Addr} (I : Inv X pins σ H s)
    (hch : ∀ b ∈ ch, (b ∈ X.ex ∨ X.s₀.heap.objs.size ≤ b) ∧ b ≠ X.env.locals ∧ (∀ x c, X.env.cells.lookup x = some c → c ≠ b) ∧ ∀ p ∈ X.pn ++ pins, p.1 ≠ b)
    (keep : ∀ b o, b ≠ X.env.locals → b ∉ X.fs → b ∉ ch → s.heap.get? b = some o → H b = none → h'.get? b = some o)
    (slot : ∀ b o, b ≠ X.env.locals → b ∈ X.fs → b ∉ ch → s.heap.get? b = some o → H b = none → ∃ sl, h'.get? b = some { o with slots := sl }) (free : ∀ b o, b ∉ ch → s.heap.get? b = some o → H b = none → H' b = none)
    (there : ∀ b o, b ∉ ch → s.heap.get? b = some o → ∃ o', h'.get? b = some o')
    (tups : ∀ b xs, H b = some (.tup xs) → H' b = some (.tup xs)) (frzs : ∀ b o u, H b = some (.frz o u) → H' b = some (.frz o u)) (tbls : ∀ b ps, H b = some (.tbl ps) → ∃ more, H' b = some (.tbl (ps ++ more)))
    (ns : ∀ m, s.heap.Ns X.env.locals m → h'.Ns X.env.locals m) (hok : HOk X.prog X.w H' h') (hg : AllBare g') :
    Inv X pins σ H' { s with heap := h', gens := g', drawn := d', toks := t' } := by
  have neL : ∀ b o, X.s₀.heap.get? b = some o → b ≠ X.env.locals := fun b o e => Nat.ne_of_lt (Nat.lt_of_lt_of_le (Heap.lt_size e) I.ok.above)
  have neC : ∀ b o, X.s₀.heap.get? b = some o → b ∉ X.ex → b ∉ ch := fun b o e hx hb => by
    rcases (hch b hb).1 with z | z
    · exact hx z
    · exact absurd (Nat.lt_of_lt_of_le (Heap.lt_size e) z) (Nat.lt_irrefl _)
  have cellK : ∀ x c, X.env.cells.lookup x = some c → ∀ v, s.heap.IsCell c v → h'.IsCell c v := fun x c e v ⟨o, ho, hd⟩ => by
    have nch : c ∉ ch := fun z => (hch c z).2.2.1 x c e rfl
    by_cases hc : c ∈ X.fs
    · obtain ⟨sl, q⟩ := slot c o (I.cne x c e) hc nch ho (I.freeC x c e)
      exact ⟨_, q, hd⟩
    · exact ⟨o, keep c o (I.cne x c e) hc nch ho (I.freeC x c e), hd⟩
  refine ⟨I.ok, I.os, hg, ⟨fun b o e n hb hx => ?_, fun b o e n hb hx => ?_, fun b o e n hx => ?_, fun b o e hx => ?_, fun b xs e => tups b xs (I.base.tups b xs e), fun b o xs e => frzs b o xs (I.base.frzs b o xs e), fun b ps e => ?_⟩, ?_, fun x c e => ?_, ?_, fun x c e => ?_, fun p hp => ?_, hok, I.len⟩
  · exact keep b o (neL b o e) hb (neC b o e hx) (I.base.keep b o e n hb hx) (I.base.free b o e n hx)
  · obtain ⟨sl, e1⟩ := I.base.slot b o e n hb hx
    obtain ⟨sl', e2⟩ := slot b _ (neL b o e) hb (neC b o e hx) e1 (I.base.free b o e n hx)
    exact ⟨sl', e2⟩
  · obtain ⟨o', e1⟩ := I.base.there b o e hx
    exact free b o' (neC b o e hx) e1 (I.base.free b o e n hx)
  · obtain ⟨o', e1⟩ := I.base.there b o e hx
    exact there b o' (neC b o e hx) e1
  · obtain ⟨m1, e1⟩ := I.base.tbls b ps e
    obtain ⟨m2, e2⟩ := tbls b _ e1
    exact ⟨m1 ++ m2, by rw [e2, Array.append_assoc]⟩
  · obtain ⟨m, hn, hl⟩ := I.loc
    refine ⟨m, ns m hn, fun i x v e1 e2 e3 => ?_⟩
    obtain ⟨u, r, l⟩ := hl i x v e1 e2 e3
    refine ⟨u, r, ?_⟩
    rcases l with l | ⟨k, c, e, z⟩
    · exact .inl l
    · exact .inr ⟨k, c, e, cellK x c e _ z⟩
  · obtain ⟨v, z⟩ := I.cell x c e
    exact ⟨v, cellK x c e v z⟩
  · obtain ⟨m, ⟨o, _, _, ho, _⟩, _⟩ := I.loc
    exact free _ o (fun z => (hch _ z).2.1 rfl) ho I.free
  · obtain ⟨v, o, ho, hd⟩ := I.cell x c e
    exact free c o (fun z => (hch c z).2.2.1 x c e rfl) ho (I.freeC x c e)
  · obtain ⟨e, n, ne, nf, d⟩ := I.pin p hp
    have nch : p.1 ∉ ch := fun z => (hch p.1 z).2.2.2 p hp rfl
    exact ⟨keep p.1 p.2 ne nf nch e n, free p.1 p.2 nch e n, ne, nf, d⟩
theorem Inv.un {t' : Nat} (I : Inv X pins σ H s) (u : Un X.fs [] H H' s.heap h') (hok : HOk X.prog X.w H' h') : Inv X pins σ H' { s with heap := h', toks := t' } := by
  obtain ⟨m, ⟨o, es, ep, ho, r⟩, _⟩ := id I.loc
  obtain ⟨sl, hL⟩ := u.any ho I.free (by simp)
  exact I.step (g' := s.gens) (d' := s.drawn) (ch := []) (fun _ z => nomatch z) (fun b o _ hb _ e n => u.keep b o e n hb (by simp)) (fun b o _ hb _ e n => u.slot b o e n hb (by simp)) (fun b o _ e n => u.free b o e n (by simp)) (fun b o _ e => u.there b o e (by simp)) u.tups u.frzs u.tbls (fun m' hm => by
    obtain ⟨o', es', ep', ho', r'⟩ := hm
    rw [ho] at ho'; cases ho'
    exact ⟨_, es', ep', hL, r'⟩) hok I.bare
theorem Inv.call {g' : Array GenState} {t' : Nat} {d' : Drawn} {ch : List Addr} (I : Inv X pins σ H s) (u : Un (frs X.stack) ch H H' s.heap h') (hok : HOk X.prog X.w H' h') (hg : AllBare g')
    (hch : ∀ b ∈ ch, (b ∈ X.ex ∨ X.s₀.heap.objs.size ≤ b) ∧ b ≠ X.env.locals ∧ (∀ x c, X.env.cells.lookup x = some c → c ≠ b) ∧ ∀ p ∈ X.pn ++ pins, p.1 ≠ b) :
    Inv X pins σ H' { s with heap := h', gens := g', drawn := d', toks := t' } := by
  obtain ⟨m, ⟨o, es, ep, ho, r⟩, _⟩ := id I.loc
  obtain ⟨sl, hL⟩ := u.any ho I.free fun z => (hch _ z).2.1 rfl
  exact I.step (ch := ch) hch (fun b o hL hb hc e n => u.keep b o e n (fun z => (List.mem_cons.mp (I.stkSub b z)).elim hL hb) hc) (fun b o _ _ hc e n => u.any e n hc) (fun b o hc e n => u.free b o e n hc) (fun b o hc e => u.there b o e hc) u.tups u.frzs u.tbls (fun m' hm => by
    obtain ⟨o', es', ep', ho', r'⟩ := hm
    rw [ho] at ho'; cases ho'
    exact ⟨_, es', ep', hL, r'⟩) hok hg
theorem Inv.turned {t' : Nat} {it : Addr} (I : Inv X pins σ H s) (k : ∀ b o, b ≠ it → s.heap.get? b = some o → h'.get? b = some o) (hn : H it = none) (hL : it ≠ X.env.locals)
    (h1 : it ∈ X.ex ∨ X.s₀.heap.objs.size ≤ it) (h2 : ∀ x c, X.env.cells.lookup x = some c → c ≠ it) (h3 : ∀ p ∈ X.pn ++ pins, p.1 ≠ it) : Inv X pins σ H { s with heap := h', toks := t' } := by
  have nit : ∀ b u, H b = some u → b ≠ it := fun b u e z => by rw [z, hn] at e; cases e
  refine I.step (g' := s.gens) (d' := s.drawn) (ch := [it]) (fun b hb => ?_) (fun b o _ _ hc e _ => k b o (fun z => hc (by simp [z])) e) (fun b o _ _ hc e _ => ⟨o.slots, k b o (fun z => hc (by simp [z])) e⟩) (fun _ _ _ _ n => n)
    (fun b o hc e => ⟨o, k b o (fun z => hc (by simp [z])) e⟩) (fun _ _ e => e) (fun _ _ _ e => e) (fun b ps e => ⟨#[], by rw [e]; simp⟩) (fun m hm => ?_) (fun b u e => ?_) I.bare
  · have e : b = it := by simpa using hb
    subst e
    exact ⟨h1, hL, h2, h3⟩
  · obtain ⟨o, es, ep, ho, r⟩ := hm
    exact ⟨o, es, ep, k _ o (Ne.symm hL) ho, r⟩
  · refine (I.hok b u e).stay (fun c v hc q => k c v ?_ q) (fun _ q => q) fun _ _ q => q
    rcases hc with z | z
    · rw [z]; exact nit b u e
    · exact nit c _ z
theorem Inv.tok (I : Inv X pins σ H s) (t : Nat) : Inv X pins σ H { s with toks := t } := I.un (h' := s.heap) (t' := t) Un.refl I.hok
theorem Inv.kept {t' : Nat} (I : Inv X pins σ H s) (k : ∀ b u, s.heap.get? b = some u → h'.get? b = some u) : Inv X pins σ H { s with heap := h', toks := t' } := I.un (Un.kept k) (I.hok.kept k)
theorem Inv.laid {a : Addr} {o : HO} {t' : Nat} (I : Inv X pins σ H s) (k : ∀ b u, s.heap.get? b = some u → h'.get? b = some u) (hp : s.heap.objs.size ≤ a) (new : ObjOk X.prog X.w (upd H a o) h' a o) :
    Inv X pins σ (upd H a o) { s with heap := h', toks := t' } := I.un (Un.laid k hp (I.hok.fresh hp)) (I.hok.laid k hp new)
theorem Inv.write {x e : Addr} {o : HO} {t' : Nat} (I : Inv X pins σ H s) (mu : Mut (H x)) (he : e = x ∨ H e = some (.own x)) (k : ∀ b u, b ≠ e → s.heap.get? b = some u → h'.get? b = some u) (heo : ∃ u, h'.get? e = some u)
    (new : ObjOk X.prog X.w (upd H x o) h' x o) : Inv X pins σ (upd H x o) { s with heap := h', toks := t' } := I.un (Un.write mu he k heo) (I.hok.write mu he k heo new)
theorem Inv.pins_of {pins' : List (Addr × Obj)} (I : Inv X pins σ H s) (h : ∀ p ∈ pins', s.heap.get? p.1 = some p.2 ∧ H p.1 = none ∧ p.1 ≠ X.env.locals ∧ p.1 ∉ X.fs ∧ ∀ v, p.2.data ≠ .cell v) : Inv X pins' σ H s :=
  ⟨I.ok, I.os, I.bare, I.base, I.loc, I.cell, I.free, I.freeC, fun p hp => (List.mem_append.mp hp).elim (fun z => I.pin p (List.mem_append_left _ z)) (h p), I.hok, I.len⟩
theorem nodup_ix {N : List Str} (hN : N.Nodup) {i j : Nat} {x : Str} (a : N[i]? = some x) (b : N[j]? = some x) : i = j := by
  obtain ⟨h1, e1⟩ := List.getElem?_eq_some_iff.mp a
  obtain ⟨h2, e2⟩ := List.getElem?_eq_some_iff.mp b
  exact (List.getElem_inj hN).mp (e1.trans e2.symm)
theorem store_ok2 {M : Model} {A : Around} {E : Value → Shared → Prop} {i : Nat} {x : Str} {v : V} {u : Value} {Q : Unit → Shared → Prop} (I : Inv X pins σ H s) (hN : X.N.Nodup) (hi : X.N[i]? = some x) (hx : Loc X.env.scope x) (r : RelV v u)
    (h : ∀ s', Inv X pins (σ.set i (some v)) H s' → (∃ a, Heap.SameBut a s.heap s'.heap ∧ (a = X.env.locals ∨ X.env.cells.lookup x = some a)) → Q () s') (hf : X.fn x = true ∨ X.env.scope.names.lookup x = some .local := by first | exact .inl rfl | exact .inr rfl | assumption) : wpAny M A (storeName X.env x u) Q E s := by
  obtain ⟨m, hn, hl⟩ := id I.loc
  have hcls : (X.env.scope.kind == .class || (X.env.scope.kind == .module && X.env.locals != X.env.globals)) = false := by rw [I.ok.kind]; rfl
  have hiσ : i < σ.length := by rw [I.len]; exact (List.getElem?_eq_some_iff.mp hi).1
  have cne := I.cne
  have tracked : ∀ {a : Addr} {h' : Heap}, (∃ o, s.heap.get? a = some o ∧ H a = none) → Heap.SameBut a s.heap h' → HOk X.prog X.w H h' := fun {a h'} ha hs b ob e => by
    obtain ⟨_, _, hfree⟩ := ha
    refine (I.hok b ob e).stay (fun c w' hc q => (hs.2 c ?_).trans q) (fun _ q => q) fun _ _ q => q
    rintro rfl
    rcases hc with rfl | hc
    · rw [hfree] at e; cases e
    · rw [hfree] at hc; cases hc
  rcases hx with hk | hk
  · refine wpAny_storeName_local hk hn (fun h' hn' hs => ?_) hcls
    obtain ⟨oL, _, _, hoL, _⟩ := id hn
    refine h _ ⟨I.ok, I.os, I.bare, ⟨fun b o e n hb hx => ?_, fun b o e n hb hx => ?_, I.base.free, fun b o e hx => ?_, I.base.tups, I.base.frzs, I.base.tbls⟩, ⟨_, hn', fun j y v' e1 e2 e3 => ?_⟩, fun y c e => ?_, I.free, I.freeC, fun p hp => ?_, tracked ⟨oL, hoL, I.free⟩ hs, by simpa using I.len⟩ ⟨_, hs, .inl rfl⟩
    · exact (hs.2 b (Nat.ne_of_lt (Nat.lt_of_lt_of_le (Heap.lt_size e) I.ok.above))).trans (I.base.keep b o e n hb hx)
    · obtain ⟨sl, e1⟩ := I.base.slot b o e n hb hx
      exact ⟨sl, (hs.2 b (Nat.ne_of_lt (Nat.lt_of_lt_of_le (Heap.lt_size e) I.ok.above))).trans e1⟩
    · obtain ⟨o', e1⟩ := I.base.there b o e hx
      exact ⟨o', (hs.2 b (Nat.ne_of_lt (Nat.lt_of_lt_of_le (Heap.lt_size e) I.ok.above))).trans e1⟩
    · by_cases hj : j = i
      · subst hj
        rw [hi] at e1; cases e1
        rw [List.getElem?_set_self hiσ] at e2
        cases e2
        exact ⟨u, r, .inl ⟨hk, by simp⟩⟩
      · rw [List.getElem?_set_ne (Ne.symm hj)] at e2
        obtain ⟨u', r', q⟩ := hl j y v' e1 e2 e3
        refine ⟨u', r', ?_⟩
        rcases q with ⟨k, e⟩ | ⟨k, c, e, z⟩
        · refine .inl ⟨k, ?_⟩
          have : y ≠ x := fun e => hj (nodup_ix hN e1 (e ▸ hi))
          simp [this, e]
        · exact .inr ⟨k, c, e, z.sameBut hs (cne y c e)⟩
    · obtain ⟨w', z⟩ := I.cell y c e
      exact ⟨w', z.sameBut hs (cne y c e)⟩
    · obtain ⟨e, n, ne, nf, d⟩ := I.pin p hp
      exact ⟨(hs.2 p.1 ne).trans e, n, ne, nf, d⟩
  · have hfn : X.fn x = true := by
      rcases hf with z | z
      · exact z
      · rw [z] at hk; cases hk
    obtain ⟨c, hc⟩ := I.ok.has x (.inl hk)
    obtain ⟨w', z⟩ := I.cell x c hc
    refine wpAny_storeName_cell I.ok.kind hk hc z (fun h' hc' hs => ?_)
    obtain ⟨oc, hoc, hocd⟩ := id z
    refine h { s with heap := h' } ⟨I.ok, I.os, I.bare, ⟨fun b o e n hb hx => ?_, fun b o e n hb hx => ?_, I.base.free, fun b o e hx => ?_, I.base.tups, I.base.frzs, I.base.tbls⟩, ⟨m, hn.sameBut hs (Ne.symm (cne x c hc)), fun j y v' e1 e2 e3 => ?_⟩, fun y c' e => ?_, I.free, I.freeC, fun p hp => ?_, tracked ⟨oc, hoc, I.freeC x c hc⟩ hs, by simpa using I.len⟩ ⟨c, hs, .inr hc⟩
    · exact (hs.2 b (Nat.ne_of_lt (Nat.lt_of_lt_of_le (Heap.lt_size e) (I.ok.cab x c hfn hc)))).trans (I.base.keep b o e n hb hx)
    · obtain ⟨sl, e1⟩ := I.base.slot b o e n hb hx
      exact ⟨sl, (hs.2 b (Nat.ne_of_lt (Nat.lt_of_lt_of_le (Heap.lt_size e) (I.ok.cab x c hfn hc)))).trans e1⟩
    · obtain ⟨o', e1⟩ := I.base.there b o e hx
      exact ⟨o', (hs.2 b (Nat.ne_of_lt (Nat.lt_of_lt_of_le (Heap.lt_size e) (I.ok.cab x c hfn hc)))).trans e1⟩
    · by_cases hj : j = i
      · subst hj
        rw [hi] at e1; cases e1
        rw [List.getElem?_set_self hiσ] at e2
        cases e2
        exact ⟨u, r, .inr ⟨.inl hk, c, hc, hc'⟩⟩
      · rw [List.getElem?_set_ne (Ne.symm hj)] at e2
        obtain ⟨u', r', q⟩ := hl j y v' e1 e2 e3
        refine ⟨u', r', ?_⟩
        rcases q with q | ⟨k, c', e, z'⟩
        · exact .inl q
        · refine .inr ⟨k, c', e, z'.sameBut hs ?_⟩
          rintro rfl
          exact hj (nodup_ix hN e1 (I.ok.inj _ _ _ e hc ▸ hi))
    · by_cases hcc : c' = c
      · subst hcc; exact ⟨_, hc'⟩
      · obtain ⟨w2, z2⟩ := I.cell y c' e
        exact ⟨w2, z2.sameBut hs hcc⟩
    · obtain ⟨e, n, ne, nf, d⟩ := I.pin p hp
      refine ⟨(hs.2 p.1 ?_).trans e, n, ne, nf, d⟩
      intro q
      rw [q, hoc] at e
      have q' : oc = p.2 := Option.some.inj e
      exact d w' (by rw [← q']; exact hocd)
theorem store_ok {M : Model} {A : Around} {E : Value → Shared → Prop} {i : Nat} {x : Str} {v : V} {u : Value} {Q : Unit → Shared → Prop} (I : Inv X pins σ H s) (hN : X.N.Nodup) (hi : X.N[i]? = some x) (hx : Loc X.env.scope x) (r : RelV v u)
    (h : ∀ s', Inv X pins (σ.set i (some v)) H s' → Q () s') (hf : X.fn x = true ∨ X.env.scope.names.lookup x = some .local := by first | exact .inl rfl | exact .inr rfl | assumption) : wpAny M A (storeName X.env x u) Q E s :=
  store_ok2 I hN hi hx r (fun s' I' _ => h s' I') hf
theorem Inv.call' {s' : Shared} {ch : List Addr} (I : Inv X pins σ H s) (ho : s'.os = s.os) (u : Un (frs X.stack) ch H H' s.heap s'.heap) (hok : HOk X.prog X.w H' s'.heap) (hg : AllBare s'.gens)
    (hch : ∀ b ∈ ch, (b ∈ X.ex ∨ X.s₀.heap.objs.size ≤ b) ∧ b ≠ X.env.locals ∧ (∀ x c, X.env.cells.lookup x = some c → c ≠ b) ∧ ∀ p ∈ X.pn ++ pins, p.1 ≠ b) : Inv X pins σ H' s' := by
  obtain ⟨h', g', d', t', o'⟩ := s'
  have e : o' = s.os := ho
  subst e
  exact I.call (g' := g') (t' := t') (d' := d') u hok hg hch
end
abbrev XK := Value → Option Addr → Hp → Prop
abbrev St := List (Option V)
abbrev VK := V → Hp → Prop
abbrev TE := St → Hp → VK → Prop
abbrev TT := St → Hp → (Bool → Hp → Prop) → Prop
abbrev TA := St → Hp → (List V → Hp → Prop) → Prop
structure Ends where
  nx : St → Hp → Prop
  rt : VK
  bk : St → Hp → Prop := fun _ _ => False
  ct : St → Hp → Prop := fun _ _ => False
abbrev TS := Ends → St → Hp → Prop
def EP (X : Cx) (pins : List (Addr × Obj)) (σ : St) (Q : VK) (u : Value) (s' : Shared) : Prop := ∃ v H', Inv X pins σ H' s' ∧ RelV v u ∧ Q v H'
def TP (X : Cx) (pins : List (Addr × Obj)) (σ : St) (Q : Bool → Hp → Prop) (b : Bool) (s' : Shared) : Prop := ∃ H', Inv X pins σ H' s' ∧ Q b H'
def AP (X : Cx) (pins : List (Addr × Obj)) (σ : St) (Q : List V → Hp → Prop) (us : List Value) (s' : Shared) : Prop := ∃ vs H', Inv X pins σ H' s' ∧ Vals vs us ∧ Q vs H'
def SP (X : Cx) (pins : List (Addr × Obj)) (D : Ends) (f : Flow) (s' : Shared) : Prop :=
  match f with
  | .next => ∃ σ' H', Inv X pins σ' H' s' ∧ D.nx σ' H'
  | .brk => ∃ σ' H', Inv X pins σ' H' s' ∧ D.bk σ' H'
  | .cont => ∃ σ' H', Inv X pins σ' H' s' ∧ D.ct σ' H'
  | .ret u => ∃ v σ' H', Inv X pins σ' H' s' ∧ RelV v u ∧ D.rt v H'
def PE (X : Cx) (e : Expr) (t : TE) : Prop :=
  ∀ (pins : List (Addr × Obj)) (s : Shared) (σ : St) (H : Hp) (Q : VK), Inv X pins σ H s → t σ H Q → wpAny (model X.prog X.w) X.A (eval e X.env) (EP X pins σ Q) X.xe s
def PT (X : Cx) (e : Expr) (t : TT) : Prop :=
  ∀ (pins : List (Addr × Obj)) (s : Shared) (σ : St) (H : Hp) (Q : Bool → Hp → Prop), Inv X pins σ H s → t σ H Q → wpAny (model X.prog X.w) X.A (isTrue e X.env (eval e X.env)) (TP X pins σ Q) X.xe s
def PW (X : Cx) (e : Expr) (t : TT) : Prop :=
  ∀ (whole : Sem Value) (pins : List (Addr × Obj)) (s : Shared) (σ : St) (H : Hp) (Q : Bool → Hp → Prop), Inv X pins σ H s → t σ H Q → wpAny (model X.prog X.w) X.A (isTrue e X.env whole) (TP X pins σ Q) X.xe s
theorem PW.pt {X : Cx} {e : Expr} {t : TT} (h : PW X e t) : PT X e t := h _
def PA (X : Cx) (es : List Expr) (t : TA) : Prop :=
  ∀ (pos : Pos) (pins : List (Addr × Obj)) (s : Shared) (σ : St) (H : Hp) (Q : List V → Hp → Prop), Inv X pins σ H s → t σ H Q → wpAny (model X.prog X.w) X.A (spliced (backTo pos (starEach es X.env))) (AP X pins σ Q) X.xe s
def PS (X : Cx) (st : Stmt) (t : TS) : Prop :=
  ∀ (pins : List (Addr × Obj)) (s : Shared) (σ : St) (H : Hp) (D : Ends), Inv X pins σ H s → t D σ H → wpAny (model X.prog X.w) X.A (exec st X.env) (SP X pins D) X.xe s
def PSs (X : Cx) (st : List Stmt) (t : TS) : Prop :=
  ∀ (pins : List (Addr × Obj)) (s : Shared) (σ : St) (H : Hp) (D : Ends), Inv X pins σ H s → t D σ H → wpAny (model X.prog X.w) X.A (execs st X.env) (SP X pins D) X.xe s
theorem thn {α : Type} {t : Sem α} {Q Q' : α → Shared → Prop} {M : Model} {A : Around} {E : Value → Shared → Prop} {s : Shared} (h : wpAny M A t Q E s) (hQ : ∀ a s, Q a s → Q' a s) : wpAny M A t Q' E s := wpAny_mono h hQ fun _ _ x => x
end L2
namespace L2
open PySem PySem.Spec PyProof.Rows
section
variable {X : Cx}
def tVar (i : Nat) : TE := fun σ H Q => ∃ v, σ[i]? = some (some v) ∧ Q v H
def tC (v : V) : TE := fun _ H Q => Q v H
theorem pe_var {i : Nat} {x : Str} {pos : Pos} (hN : X.N[i]? = some x) (hv : Vis X.env.scope x) (hd : (x == ("__debug__" : Str)) = false := by decide) (hcd : (x == ("__classdict__" : Str)) = false := by decide) : PE X (.Name x pos) (tVar i) := by
  intro pins s σ H Q I h
  obtain ⟨v, e, h⟩ := h
  obtain ⟨m, hn, hl⟩ := I.loc
  obtain ⟨u, r, l⟩ := hl i x v hN e hv
  have fin : EP X pins σ Q u s := ⟨v, H, I, r, h⟩
  rcases l with ⟨hk, hm⟩ | ⟨hk, c, hc, hcell⟩
  · exact wpAny_Name (wpAny_loadName_local I.ok.kind hk hn hm fin) hd
  · rcases hk with hk | hk
    · exact wpAny_Name (wpAny_loadName_cell I.ok.kind hk hc hcell fin) hd
    · exact wpAny_Name (wpAny_loadName_free I.ok.kind hk hc hcell fin hcd) hd
theorem pe_int {i j pos} : PE X (.Constant (.int i) j pos) (tC (.int i)) := fun _ _ _ H _ I h => wpAny_Constant_int ⟨.int i, H, I.tok _, ⟨_, rfl⟩, h⟩
theorem pe_bl {b j pos} : PE X (.Constant (.bool b) j pos) (tC (.bl b)) := fun _ _ _ H _ I h => Constant_bool ⟨.bl b, H, I, rfl, h⟩
theorem pe_non {j pos} : PE X (.Constant .none j pos) (tC .non) := fun _ _ _ H _ I h => Constant_none ⟨.non, H, I, rfl, h⟩
theorem pe_str {x j pos} : PE X (.Constant (.str x) j pos) (tC (.str x)) := fun _ _ _ H _ I h => Calls.Constant_str ⟨.str x, H, I.tok _, ⟨_, rfl⟩, h⟩
def Gl (X : Cx) (x : Str) : Prop := X.env.kindOf x = some .globalImplicit
theorem ld_glob {E : Value → Shared → Prop} {pins : List (Addr × Obj)} {s : Shared} {σ : St} {H : Hp} {x : Str} {u : Value} {pos : Pos} {Q : Value → Shared → Prop} (I : Inv X pins σ H s) (hg : Gl X x) (hm : X.mg x = some u) (h : Q u s)
    (hd : (x == ("__debug__" : Str)) = false := by decide) : wpAny (model X.prog X.w) X.A (eval (.Name x pos) X.env) Q E s :=
  Calls.Name_function_global I.ok.kind hg (Calls.loadGlobal_global (by rw [I.ok.glob]; exact I.mod.glob.keeps I.bk) hm h) hd
theorem ld_blt {E : Value → Shared → Prop} {pins : List (Addr × Obj)} {s : Shared} {σ : St} {H : Hp} {x : Str} {u : Value} {pos : Pos} {Q : Value → Shared → Prop} (I : Inv X pins σ H s) (hg : Gl X x) (hm : X.mg x = none) (hv : bootBuiltins x = some u) (h : Q u s)
    (hn : x ≠ "__name__" := by decide) (hd : (x == ("__debug__" : Str)) = false := by decide) : wpAny (model X.prog X.w) X.A (eval (.Name x pos) X.env) Q E s := by
  obtain ⟨mb, h1, h2⟩ := I.mod.blt
  exact Calls.Name_function_global I.ok.kind hg (Calls.loadGlobal_builtin (by rw [I.ok.glob]; exact I.mod.glob.keeps I.bk) hm (by rw [I.ok.blt]; exact h1.keeps I.bk) ((h2 x hn).trans hv) h) hd
theorem pe_glob {x : Str} {v : V} {u : Value} {pos : Pos} (hg : Gl X x) (hm : X.mg x = some u) (r : RelV v u) (hd : (x == ("__debug__" : Str)) = false := by decide) : PE X (.Name x pos) (tC v) :=
  fun _ _ _ H _ I h => ld_glob I hg hm ⟨v, H, I, r, h⟩ hd
theorem pe_bltn {x : Str} {v : V} {u : Value} {pos : Pos} (hg : Gl X x) (hm : X.mg x = none) (hv : bootBuiltins x = some u) (r : RelV v u) (hn : x ≠ "__name__" := by decide) (hd : (x == ("__debug__" : Str)) = false := by decide) : PE X (.Name x pos) (tC v) :=
  fun _ _ _ H _ I h => ld_blt I hg hm hv ⟨v, H, I, r, h⟩ hn hd
variable {a b : Expr} {ta tb : TE} {pos : Pos}
variable {tA tB' : TT} {rest : List Expr}
def tAnd (t u : TT) : TT := fun σ H Q => t σ H fun c H1 => if c = true then u σ H1 Q else Q false H1
def tOr (t u : TT) : TT := fun σ H Q => t σ H fun c H1 => if c = true then Q true H1 else u σ H1 Q
def tNot (t : TT) : TT := fun σ H Q => t σ H fun c H1 => Q (!c) H1
theorem pw_and1 (ha : PT X a tA) : PW X (.BoolOp .And [a] pos) tA := by
  intro wh pins s σ H Q I h
  refine isTrue_and (thn (ha pins s σ H Q I h) fun c s1 e => ?_)
  cases c with
  | true => exact isTrue_and_nil e
  | false => exact e
theorem pw_or1 (ha : PT X a tA) : PW X (.BoolOp .Or [a] pos) tA := by
  intro wh pins s σ H Q I h
  refine isTrue_or (thn (ha pins s σ H Q I h) fun c s1 e => ?_)
  cases c with
  | false => exact isTrue_or_nil e
  | true => exact e
theorem pw_and (ha : PT X a tA) (hb : PW X (.BoolOp .And (b :: rest) pos) tB') : PW X (.BoolOp .And (a :: b :: rest) pos) (tAnd tA tB') := by
  intro wh pins s σ H Q I h
  refine isTrue_and (thn (ha pins s σ H _ I h) fun c s1 ⟨H1, I1, q1⟩ => ?_)
  cases c with
  | true => exact hb wh pins s1 σ H1 Q I1 q1
  | false => exact ⟨H1, I1, q1⟩
theorem pw_or (ha : PT X a tA) (hb : PW X (.BoolOp .Or (b :: rest) pos) tB') : PW X (.BoolOp .Or (a :: b :: rest) pos) (tOr tA tB') := by
  intro wh pins s σ H Q I h
  refine isTrue_or (thn (ha pins s σ H _ I h) fun c s1 ⟨H1, I1, q1⟩ => ?_)
  cases c with
  | true => exact ⟨H1, I1, q1⟩
  | false => exact hb wh pins s1 σ H1 Q I1 q1
theorem pt_not (ha : PT X a tA) : PT X (.UnaryOp .Not a pos) (tNot tA) := by
  intro pins s σ H Q I h
  exact isTrue_not (ha pins s σ H (fun c H1 => Q (!c) H1) I h)
def tAndV (ta tb : TE) : TE := fun σ H Q => ta σ H fun x H1 => ∃ c, x = .bl c ∧ if c = true then tb σ H1 Q else Q (.bl false) H1
def tNotV (ta : TE) : TE := fun σ H Q => ta σ H fun x H1 => ∃ c, x = .bl c ∧ Q (.bl (!c)) H1
theorem pe_one {op} {t : TE} (h : PE X a t) : PE X (.BoolOp op [a] pos) t := fun pins s σ H Q I hw => BoolOp_one (h pins s σ H Q I hw)
theorem pe_and (ha : PE X a ta) (hb : PE X (.BoolOp .And (b :: rest) pos) tb) : PE X (.BoolOp .And (a :: b :: rest) pos) (tAndV ta tb) := by
  intro pins s σ H Q I h
  refine BoolOp_and (thn (ha pins s σ H _ I h) fun v s1 ⟨x, H1, I1, r1, q1⟩ => ?_)
  obtain ⟨c, rfl, q1⟩ := q1
  cases r1
  refine wpAny_truthy_bool ?_
  cases c with
  | true => exact hb pins s1 σ H1 Q I1 q1
  | false => exact ⟨.bl false, H1, I1, rfl, q1⟩
theorem pe_not (ha : PE X a ta) : PE X (.UnaryOp .Not a pos) (tNotV ta) := by
  intro pins s σ H Q I h
  refine UnaryOp_ (thn (ha pins s σ H _ I h) fun v s1 ⟨x, H1, I1, r1, q1⟩ => ?_)
  obtain ⟨c, rfl, q1⟩ := q1
  cases r1
  exact not_of (wpAny_truthy_bool ⟨.bl (!c), H1, I1, rfl, q1⟩)
def tIf (t : TT) (ta tb : TE) : TE := fun σ H Q => t σ H fun c H1 => if c = true then ta σ H1 Q else tb σ H1 Q
theorem pe_ifExp {c : Expr} (hc : PT X c tA) (ha : PE X a ta) (hb : PE X b tb) : PE X (.IfExp c a b pos) (tIf tA ta tb) := by
  intro pins s σ H Q I h
  refine wpAny_IfExp (thn (hc pins s σ H _ I h) fun d s1 ⟨H1, I1, q1⟩ => ?_)
  cases d with
  | true => exact ha pins s1 σ H1 Q I1 q1
  | false => exact hb pins s1 σ H1 Q I1 q1
end
end L2
namespace L2
open PySem PySem.Spec PyProof.Rows
def SqL (K : PySem.W.Frag) (H : Hp) (a : Addr) (xs : List V) : Prop :=
  Rd H a (.lst xs) ∨
    ∃ (o : Obj) (its : Array Value) (n : Nat), K.lookup a = some o ∧ o.cls = .type "list" ∧ o.dict = none ∧ o.data = .seq its n ∧ its.size ≤ sizeLine ∧ Vals xs its.toList
def SqT (K : PySem.W.Frag) (H : Hp) (a : Addr) (xs : List V) : Prop :=
  Rd H a (.tup xs) ∨
    ∃ (o : Obj) (its : Array Value) (n : Nat), K.lookup a = some o ∧ o.cls = .type "tuple" ∧ o.data = .seq its n ∧ its.size ≤ sizeLine ∧ Vals xs its.toList
def absV : Value → Option V
  | .none => some .non
  | .bool b => some (.bl b)
  | .int i _ => some (.int i)
  | .str x _ => some (.str x)
  | .bytes b _ => some (.byt b)
  | .float b _ => some (.flt b)
  | .ref a => some (.ref a)
  | .type n => some (.ty n)
  | _ => none
theorem RelV.abs {x : V} {u : Value} (r : RelV x u) : absV u = some x := by
  cases x with
  | non => cases r; rfl
  | bl _ => cases r; rfl
  | int _ => obtain ⟨t, rfl⟩ := r; rfl
  | str _ => obtain ⟨t, rfl⟩ := r; rfl
  | byt _ => obtain ⟨t, rfl⟩ := r; rfl
  | flt _ => obtain ⟨t, rfl⟩ := r; rfl
  | ref _ => cases r; rfl
  | ty _ => cases r; rfl
theorem RelV.inj {x y : V} {u : Value} (r : RelV x u) (q : RelV y u) : x = y := Option.some.inj (r.abs.symm.trans q.abs)
theorem Vals.inj : ∀ {xs ys : List V} {us : List Value}, Vals xs us → Vals ys us → xs = ys
  | _, _, _, .nil, .nil => rfl
  | _, _, _, .cons r t, .cons r' t' => by rw [r.inj r', Vals.inj t t']
section
variable {X : Cx} {pins : List (Addr × Obj)} {σ : St} {H : Hp} {s : Shared} {a : Addr} {xs ys : List V}
theorem SqL.of {K : PySem.W.Frag} (h : H a = some (.lst xs)) : SqL K H a xs := .inl (.inl h)
theorem SqT.of {K : PySem.W.Frag} (h : H a = some (.tup xs)) : SqT K H a xs := .inl (.inl h)
theorem Inv.list (I : Inv X pins σ H s) (h : SqL X.K H a xs) : ∃ its : List Value, Vals xs its ∧ PlainL s.heap a its.toArray ∧ xs.length ≤ sizeLine := by
  rcases h with h | ⟨o, its, n, hk, hc, hd, hs, hz, r⟩
  · obtain ⟨z, its, n, r, e⟩ := h.ok I.hok
    exact ⟨its, r, ⟨_, n, e, rfl, rfl, rfl⟩, z⟩
  · refine ⟨its.toList, r, ⟨o, n, I.kIn a o hk, hc, hd, by simpa using hs⟩, ?_⟩
    have e := r.length
    simp only [Array.length_toList] at e
    omega
theorem Inv.tuple (I : Inv X pins σ H s) (h : SqT X.K H a xs) : ∃ its : List Value, Vals xs its ∧ IsTup s.heap a its.toArray ∧ xs.length ≤ sizeLine := by
  rcases h with h | ⟨o, its, n, hk, hc, hs, hz, r⟩
  · obtain ⟨z, its, r, p⟩ := h.ok I.hok
    exact ⟨its, r, p, z⟩
  · refine ⟨its.toList, r, ⟨o, I.kIn a o hk, hc, n, by simpa using hs⟩, ?_⟩
    have e := r.length
    simp only [Array.length_toList] at e
    omega
theorem Inv.list_inj (I : Inv X pins σ H s) (h : SqL X.K H a xs) (h' : SqL X.K H a ys) : xs = ys := by
  obtain ⟨its, r, ⟨o, n, e, _, _, d⟩, _⟩ := I.list h
  obtain ⟨its', r', ⟨o', n', e', _, _, d'⟩, _⟩ := I.list h'
  rw [e] at e'; cases e'
  rw [d] at d'
  injection d' with d1 _
  have : its = its' := by simpa using congrArg Array.toList d1
  subst this
  exact r.inj r'
theorem Inv.tuple_inj (I : Inv X pins σ H s) (h : SqT X.K H a xs) (h' : SqT X.K H a ys) : xs = ys := by
  obtain ⟨its, r, ⟨o, e, _, n, d⟩, _⟩ := I.tuple h
  obtain ⟨its', r', ⟨o', e', _, n', d'⟩, _⟩ := I.tuple h'
  rw [e] at e'; cases e'
  rw [d] at d'
  injection d' with d1 _
  have : its = its' := by simpa using congrArg Array.toList d1
  subst this
  exact r.inj r'
end
abbrev Cx.wish (X : Cx) (E : Value → Shared → Prop) : Cx := { X with xe := E }
abbrev Cx.nox (X : Cx) : Cx := X.wish fun _ _ => False
theorem Cx.Ok.wish {X : Cx} (ok : X.Ok) (E : Value → Shared → Prop) : (X.wish E).Ok :=
  ⟨ok.mod, ok.kind, ok.glob, ok.blt, ok.above, ok.inj, ok.has, ok.cab, ok.hd, ok.frames, ok.stk, ok.exf, ok.bs, ok.bsz, ok.noex, ok.exfs, ok.funs, ok.frf⟩
theorem Cx.Ok.unwish {X : Cx} {E : Value → Shared → Prop} (ok : (X.wish E).Ok) : X.Ok :=
  ⟨ok.mod, ok.kind, ok.glob, ok.blt, ok.above, ok.inj, ok.has, ok.cab, ok.hd, ok.frames, ok.stk, ok.exf, ok.bs, ok.bsz, ok.noex, ok.exfs, ok.funs, ok.frf⟩
section
variable {X : Cx} {pins : List (Addr × Obj)} {σ : St} {H : Hp} {s : Shared} {E : Value → Shared → Prop}
theorem Inv.wish (I : Inv X pins σ H s) (E : Value → Shared → Prop) : Inv (X.wish E) pins σ H s := ⟨I.ok.wish E, I.os, I.bare, I.base, I.loc, I.cell, I.free, I.freeC, I.pin, I.hok, I.len⟩
theorem Inv.unwish (I : Inv (X.wish E) pins σ H s) : Inv X pins σ H s := ⟨I.ok.unwish, I.os, I.bare, I.base, I.loc, I.cell, I.free, I.freeC, I.pin, I.hok, I.len⟩
theorem SP.unwish {D : Ends} {f : Flow} {s' : Shared} (h : SP (X.wish E) pins D f s') : SP X pins D f s' := by
  cases f with
  | next => obtain ⟨σ', H', I, q⟩ := h; exact ⟨σ', H', I.unwish, q⟩
  | brk => obtain ⟨σ', H', I, q⟩ := h; exact ⟨σ', H', I.unwish, q⟩
  | cont => obtain ⟨σ', H', I, q⟩ := h; exact ⟨σ', H', I.unwish, q⟩
  | ret u => obtain ⟨v, σ', H', I, r, q⟩ := h; exact ⟨v, σ', H', I.unwish, r, q⟩
theorem PE.nox {e : Expr} {t : TE} (h : PE X.nox e t) : PE X e t := fun pins s σ H Q I hw =>
  wpAny_mono (h pins s σ H Q (I.wish _) hw) (fun _ _ ⟨v, H', I', r, q⟩ => ⟨v, H', I'.unwish, r, q⟩) fun _ _ z => False.elim z
theorem PT.nox {e : Expr} {t : TT} (h : PT X.nox e t) : PT X e t := fun pins s σ H Q I hw =>
  wpAny_mono (h pins s σ H Q (I.wish _) hw) (fun _ _ ⟨H', I', q⟩ => ⟨H', I'.unwish, q⟩) fun _ _ z => False.elim z
theorem PSs.nox {st : List Stmt} {t : TS} (h : PSs X.nox st t) : PSs X st t := fun pins s σ H D I hw =>
  wpAny_mono (h pins s σ H D (I.wish _) hw) (fun _ _ q => q.unwish) fun _ _ z => False.elim z
end
section
variable {X : Cx} {st : Stmt} {rest : List Stmt} {t u : TS} {e : Expr} {te : TE} {pos : Pos}
def tNext : TS := fun D σ H => D.nx σ H
def tSeq (t u : TS) : TS := fun D σ H => t { D with nx := u D } σ H
theorem pss_nil : PSs X [] tNext := fun _ _ σ H _ I h => wpAny_execs_nil ⟨σ, H, I, h⟩
theorem pss_cons (h1 : PS X st t) (h2 : PSs X rest u) : PSs X (st :: rest) (tSeq t u) := by
  intro pins s σ H D I h
  refine wpAny_execs_cons (thn (h1 pins s σ H { D with nx := u D } I h) fun f s1 q => ?_)
  cases f with
  | next =>
    obtain ⟨σ', H', I', q⟩ := q
    exact h2 pins s1 σ' H' D I' q
  | ret v => exact q
  | brk => exact q
  | cont => exact q
theorem pss_one (h1 : PS X st t) : PSs X [st] t := by
  intro pins s σ H D I h
  refine wpAny_execs_cons (thn (h1 pins s σ H D I h) fun f s1 q => ?_)
  cases f with
  | next => exact wpAny_execs_nil q
  | ret v => exact q
  | brk => exact q
  | cont => exact q
theorem Inv.quiet {pins : List (Addr × Obj)} {σ : St} {H : Hp} {s : Shared} (I : Inv X pins σ H s) : interactive X.env = false := by simp [interactive, I.ok.kind]
def tDrop (te : TE) : TS := fun D σ H => te σ H fun _ H1 => D.nx σ H1
theorem ps_expr (he : PE X e te) (hs : swapsWith e none pos.line X.env = pure false := by rfl) : PS X (.Expr e pos) (tDrop te) := by
  intro pins s σ H D I h
  exact wpAny_Expr_any (thn (he pins s σ H _ I h) fun v s1 ⟨x, H1, I1, r1, q1⟩ => ⟨σ, H1, I1, q1⟩) I.quiet hs
def tRet (te : TE) : TS := fun D σ H => te σ H D.rt
theorem ps_ret (he : PE X e te) : PS X (.Return (some e) pos) (tRet te) := by
  intro pins s σ H D I h
  exact wpAny_Return_some (thn (he pins s σ H _ I h) fun v s1 ⟨x, H1, I1, r1, q1⟩ => ⟨x, σ, H1, I1, r1, q1⟩)
def tIfS (c : TT) (t u : TS) : TS := fun D σ H => c σ H fun b H1 => if b = true then t D σ H1 else u D σ H1
theorem ps_if {c : Expr} {a b : List Stmt} {tc : TT} (hc : PT X c tc) (ha : PSs X a t) (hb : PSs X b u) : PS X (.If c a b pos) (tIfS tc t u) := by
  intro pins s σ H D I h
  refine wpAny_If (thn (hc pins s σ H _ I h) fun d s1 ⟨H1, I1, q1⟩ => ?_)
  cases d with
  | true => exact ha pins s1 σ H1 D I1 q1
  | false => exact hb pins s1 σ H1 D I1 q1
end
abbrev TG := V → St → Hp → (St → Hp → Prop) → Prop
abbrev TGs := List V → St → Hp → (St → Hp → Prop) → Prop
def PG (X : Cx) (target : Expr) (t : TG) : Prop :=
  ∀ (pins : List (Addr × Obj)) (s : Shared) (σ : St) (H : Hp) (v : V) (u : Value) (Q : St → Hp → Prop), Inv X pins σ H s → RelV v u → t v σ H Q →
    wpAny (model X.prog X.w) X.A (assign target X.env u) (fun _ s' => ∃ σ' H', Inv X pins σ' H' s' ∧ Q σ' H') X.xe s
def PGs (X : Cx) (ts : List Expr) (t : TGs) : Prop :=
  ∀ (pins : List (Addr × Obj)) (s : Shared) (σ : St) (H : Hp) (vs : List V) (us : List Value) (Q : St → Hp → Prop), Inv X pins σ H s → Vals vs us → t vs σ H Q →
    wpAny (model X.prog X.w) X.A (assignInOrder ((assignEach ts X.env).map (·.2)) us) (fun _ s' => ∃ σ' H', Inv X pins σ' H' s' ∧ Q σ' H') X.xe s
abbrev TSet := V → V → V → Hp → (Hp → Prop) → Prop
def PSet (X : Cx) (t : TSet) : Prop :=
  ∀ (pins : List (Addr × Obj)) (s : Shared) (σ : St) (H : Hp) (o i v : V) (ov iv u : Value) (Q : Hp → Prop), Inv X pins σ H s → RelV o ov → RelV i iv → RelV v u → t o i v H Q →
    wpAny (model X.prog X.w) X.A (setItem ov iv u) (fun _ s' => ∃ H', Inv X pins σ H' s' ∧ Q H') X.xe s
section
variable {X : Cx} {pos : Pos}
def gName (i : Nat) : TG := fun v σ H Q => Q (σ.set i (some v)) H
theorem pg_name {i : Nat} {x : Str} (hN : X.N.Nodup) (hi : X.N[i]? = some x) (hx : Loc X.env.scope x) (hf : X.fn x = true ∨ X.env.scope.names.lookup x = some .local := by first | exact .inl rfl | exact .inr rfl | assumption) : PG X (.Name x pos) (gName i) := by
  intro pins s σ H v u Q I r h
  exact wpAny_assign_Name (store_ok I hN hi hx r (fun s' I' => ⟨_, H, I', h⟩) hf)
def gNil : TGs := fun vs σ H Q => vs = [] ∧ Q σ H
def gCons (t : TG) (u : TGs) : TGs := fun vs σ H Q => ∃ v r, vs = v :: r ∧ t v σ H fun σ' H' => u r σ' H' Q
theorem pgs_nil : PGs X [] gNil := by
  intro pins s σ H vs us Q I r h
  obtain ⟨e, h⟩ := h
  subst e
  cases r
  exact assignInOrder_nil ⟨σ, H, I, h⟩
theorem pgs_cons {e : Expr} {es : List Expr} {t : TG} {u : TGs} (h1 : PG X e t) (h2 : PGs X es u)
    (hs : (assignEach (e :: es) X.env).map (·.2) = assign e X.env :: (assignEach es X.env).map (·.2) := by rfl) : PGs X (e :: es) (gCons t u) := by
  intro pins s σ H vs us Q I r h
  obtain ⟨v, vr, e1, h⟩ := h
  subst e1
  cases r with
  | cons r rr =>
    rw [hs]
    refine assignInOrder_cons (thn (h1 pins s σ H _ _ _ I r h) fun _ s1 ⟨σ1, H1, I1, q1⟩ => ?_)
    exact h2 pins s1 σ1 H1 _ _ Q I1 rr q1
def gTup (K : PySem.W.Frag) (n : Nat) (t : TGs) : TG := fun v σ H Q => ∃ a xs, v = .ref a ∧ SqT K H a xs ∧ xs.length = n ∧ t xs σ H Q
theorem pg_tup {es : List Expr} {k : Nat} {t : TGs} {n : Nat} (hc : X.calm = true) (h : PGs X es t)
    (hn : (assignEach es X.env).length = n := by rfl) (hst : (assignEach es X.env).findIdx? (·.1) = none := by rfl) : PG X (.Tuple es k pos) (gTup X.K n t) := by
  intro pins s σ H v u Q I r hw
  obtain ⟨a, xs, e1, hq, hl, hw⟩ := hw
  subst e1
  cases r
  obtain ⟨its, rv, ht, hz⟩ := I.tuple hq
  refine assign_Tuple_tuple (I.ok.hd hc) ht (by simp [hn, ← hl, rv.length]) hst fun h' hx => ?_
  have I1 : Inv X pins σ H { s with heap := h' } := I.kept (t' := s.toks) fun b o e => hx b o (Nat.ne_of_lt (Heap.lt_size e)) e
  exact h pins _ σ H xs _ Q I1 (by simpa using rv) hw
def gSub (to ti : TE) (t : TSet) : TG := fun v σ H Q => to σ H fun o H1 => ti σ H1 fun i H2 => t o i v H2 fun H3 => Q σ H3
theorem pg_sub {o i : Expr} {to ti : TE} {t : TSet} (ho : PE X o to) (hi : PE X i ti) (hs : PSet X t)
    (ha : ∀ v, assign (.Subscript o i pos) X.env v = (do
      let ov ← holding [v] (eval o X.env)
      let iv ← holding [v, ov] (eval i X.env)
      standAt pos
      holding [v, ov, iv] (setItem ov iv v)
      release [v, ov, iv] []) := by intro _; rfl) : PG X (.Subscript o i pos) (gSub to ti t) := by
  intro pins s σ H v u Q I r h
  rw [ha]
  refine wpAny_bind (wpAny_holding (thn (ho pins s σ H _ I h) fun ov s1 ⟨x, H1, I1, r1, q1⟩ => ?_))
  refine wpAny_bind (wpAny_holding (thn (hi pins s1 σ H1 _ I1 q1) fun iv s2 ⟨y, H2, I2, r2, q2⟩ => ?_))
  refine wpAny_bind (wpAny_standAt (wpAny_bind (wpAny_holding (thn (hs pins s2 σ H2 x y v ov iv u _ I2 r1 r2 r q2) fun _ s3 ⟨H3, I3, q3⟩ => ?_))))
  exact wpAny_release ⟨σ, H3, I3, q3⟩
def tAsg (te : TE) (g : TG) : TS := fun D σ H => te σ H fun x H1 => g x σ H1 D.nx
theorem ps_asg {tg e : Expr} {te : TE} {g : TG} (he : PE X e te) (hg : PG X tg g) (hs : swapsWithSole [tg] e pos.line X.env = pure false := by rfl) (hw : swappedStores [tg] e X.env = pure none := by rfl)
    (h1 : (assignEach [tg] X.env).map (·.2) = [assign tg X.env] := by rfl) : PS X (.Assign [tg] e pos) (tAsg te g) := by
  intro pins s σ H D I h
  refine wpAny_Assign_stores (thn (he pins s σ H _ I h) fun v s1 ⟨x, H1, I1, r1, q1⟩ => ?_) hs hw
  rw [h1]
  exact thn (hg pins s1 σ H1 x v _ I1 r1 q1) fun _ s2 q => q
theorem ps_set {i : Nat} {x : Str} {e : Expr} {te : TE} {pos' : Pos} (hN : X.N.Nodup) (hi : X.N[i]? = some x) (hx : Loc X.env.scope x) (he : PE X e te) (hs : swapsWith e (some (.Name x pos')) pos.line X.env = pure false := by rfl) (hf : X.fn x = true ∨ X.env.scope.names.lookup x = some .local := by first | exact .inl rfl | exact .inr rfl | assumption) :
    PS X (.Assign [.Name x pos'] e pos) (tAsg te (gName i)) := by
  intro pins s σ H D I h
  refine wpAny_Assign_Name (thn (he pins s σ H _ I h) fun v s1 ⟨y, H1, I1, r1, q1⟩ => ?_) hs
  exact store_ok I1 hN hi hx r1 (fun s2 I2 => ⟨_, H1, I2, q1⟩) hf
end
section
variable {X : Cx} {pos : Pos}
def tWhile (c : TT) (tb : TS) : TS := fun D σ H => ∃ W : Nat → St → Hp → Prop, (∃ m, W m σ H) ∧ ∀ m σ H, W m σ H →
  c σ H fun b H1 => if b = true then ∃ N : St → Hp → Prop, (∀ σ' H', N σ' H' → ∃ m', m' < m ∧ W m' σ' H') ∧ tb { D with nx := N, ct := N, bk := D.nx } σ H1 else D.nx σ H1
theorem ps_while {c : Expr} {body : List Stmt} {tc : TT} {tb : TS} (hp : PassesOwn (model X.prog X.w) X.A X.env X.xe) (hc : PT X c tc) (hb : PSs X body tb) : PS X (.While c body [] pos) (tWhile tc tb) := by
  intro pins s σ H D I h
  obtain ⟨W, ⟨m0, w0⟩, turn⟩ := h
  refine wpAny_While (codeAny_whileLoop (fun n s' => ∃ σ' H', Inv X pins σ' H' s' ∧ W n σ' H') ?_ m0 ⟨σ, H, I, w0⟩)
  rintro n s1 ⟨σ1, H1, I1, w1⟩
  refine wpAny_passesOwn hp (thn (hc pins s1 σ1 H1 _ I1 (turn n σ1 H1 w1)) fun b s2 ⟨H2, I2, q2⟩ => ?_)
  cases b with
  | true =>
    obtain ⟨N, hN, q2⟩ := q2
    rw [if_pos rfl]
    refine wpAny_passesOwn hp (thn (hb pins s2 σ1 H2 _ I2 q2) fun f s3 q3 => ?_)
    cases f with
    | next =>
      obtain ⟨σ3, H3, I3, n3⟩ := q3
      obtain ⟨m', hm, w3⟩ := hN σ3 H3 n3
      exact ⟨m', hm, σ3, H3, I3, w3⟩
    | cont =>
      obtain ⟨σ3, H3, I3, n3⟩ := q3
      obtain ⟨m', hm, w3⟩ := hN σ3 H3 n3
      exact ⟨m', hm, σ3, H3, I3, w3⟩
    | brk => exact q3
    | ret v => exact q3
  | false =>
    rw [if_neg Bool.false_ne_true]
    exact wpAny_execs_nil ⟨σ1, H2, I2, q2⟩
end
structure It where
  go : Nat → Hp → Prop
  yld : Nat → Hp → V → Hp → Prop
  stop : Nat → Hp → Prop
def FpOk (X : Cx) (pins : List (Addr × Obj)) (H : Hp) (b : Addr) : Prop :=
  H b = none ∧ b ≠ X.env.locals ∧ b ∉ X.fs ∧ (b ∈ X.ex ∨ X.s₀.heap.objs.size ≤ b) ∧ (∀ x c, X.env.cells.lookup x = some c → c ≠ b) ∧ ∀ p ∈ X.pn ++ pins, p.1 ≠ b
theorem Inv.fpOk {X : Cx} {pins : List (Addr × Obj)} {σ : St} {H H' : Hp} {s : Shared} {b : Addr} (I : Inv X pins σ H s) (hb : s.heap.objs.size ≤ b) (hn : H' b = none) : FpOk X pins H' b := by
  refine ⟨hn, Nat.ne_of_gt (Nat.lt_of_lt_of_le I.lt hb), I.nofs hb, .inr (Nat.le_trans I.sz hb), fun x c e z => ?_, fun p hp z => ?_⟩
  · obtain ⟨v, q⟩ := I.cell x c e
    exact absurd (Nat.lt_of_lt_of_le q.lt (by rw [z]; exact hb)) (Nat.lt_irrefl _)
  · exact absurd (Nat.lt_of_lt_of_le (Heap.lt_size (I.pin p hp).1) (by rw [z]; exact hb)) (Nat.lt_irrefl _)
structure Turn (P : Program) (w : World) (K : PySem.W.Frag) (tg : Expr) (J : It) (fp : List Addr) (it : Addr) (tn : Nat → Heap → Prop) : Prop where
  mem : it ∈ fp
  obj : ∀ i h, tn i h → ∀ b ∈ fp, ∃ o, h.get? b = some o ∧ ∀ v, o.data ≠ .cell v
  keep : ∀ i h h', tn i h → (∀ b ∈ fp, ∀ o, h.get? b = some o → h'.get? b = some o) → tn i h'
  item : ∀ (X : Cx), X.prog = P → X.w = w → X.K = K → X.calm = true → ∀ (i : Nat) (pins : List (Addr × Obj)) (s : Shared) (σ : St) (H : Hp) (E : Value → Shared → Prop), Inv X pins σ H s → (∀ b ∈ fp, FpOk X pins H b) → tn i s.heap → J.go i H →
    wpAny (model P w) X.A (pyNext (.ref it)) (fun r s1 => ∃ u, r = some u ∧
      wpAny (model P w) X.A (letOwnedTupleGo tg (.ref it) u) (fun _ s2 => ∃ x H', Inv X pins σ H' s2 ∧ RelV x u ∧ J.yld i H x H' ∧ tn (i + 1) s2.heap ∧ ∀ b ∈ fp, H' b = none) E s1) E s
  done : ∀ (X : Cx), X.prog = P → X.w = w → X.K = K → X.calm = true → ∀ (i : Nat) (pins : List (Addr × Obj)) (s : Shared) (σ : St) (H : Hp) (E : Value → Shared → Prop), Inv X pins σ H s → (∀ b ∈ fp, FpOk X pins H b) → tn i s.heap → J.stop i H →
    wpAny (model P w) X.A (pyNext (.ref it)) (fun r s1 => r = none ∧ Inv X pins σ H s1) E s
  self : ∀ (A : Around) (i : Nat) (s : Shared) (Q : Value → Shared → Prop) (E : Value → Shared → Prop), tn i s.heap → Q (.ref it) s → wpAny (model P w) A (pyIter (.ref it)) Q E s
abbrev TI := St → Hp → (It → Hp → Prop) → Prop
def PIE (X : Cx) (pins : List (Addr × Obj)) (σ : St) (tg : Expr) (R : It → Hp → Prop) (itv : Value) (s2 : Shared) : Prop :=
  ∃ (it : Addr) (fp : List Addr) (tn : Nat → Heap → Prop) (J : It) (H' : Hp), itv = .ref it ∧ Inv X pins σ H' s2 ∧ Turn X.prog X.w X.K tg J fp it tn ∧ tn 0 s2.heap ∧ (∀ b ∈ fp, FpOk X pins H' b) ∧ R J H'
def PI (X : Cx) (tg iter : Expr) (wi : TI) : Prop :=
  ∀ (pins : List (Addr × Obj)) (s : Shared) (σ : St) (H : Hp) (R : It → Hp → Prop), Inv X pins σ H s → wi σ H R →
    wpAny (model X.prog X.w) X.A (eval iter X.env) (fun v s1 => wpAny (model X.prog X.w) X.A (pyIter v) (PIE X pins σ tg R) X.xe s1) X.xe s
theorem go_of {M : Model} {A : Around} {E : Value → Shared → Prop} {s : Shared} {tg : Expr} {it : Addr} {u : Value} {o : Obj} {n : String} {vs : Array Value} {Q : Unit → Shared → Prop} (ho : s.heap.get? it = some o) (hc : o.cls = .type n) (hd : o.data = .fields vs)
    (hn : ["enumerate", "zip", "dict_itemiterator", "dict_reverseitemiterator", "odict_iterator", "itertools.zip_longest", "itertools.pairwise"].contains n = false) (hQ : Q () s) : wpAny M A (letOwnedTupleGo tg (.ref it) u) Q E s := by
  unfold letOwnedTupleGo
  cases tg <;> first
    | exact wpAny_pure hQ
    | (cases u <;> first
        | exact wpAny_pure hQ
        | (refine wpAny_bind (wpAny_load ho ?_)
           rw [hc, hd]
           show wpAny M A (if (["enumerate", "zip", "dict_itemiterator", "dict_reverseitemiterator", "odict_iterator", "itertools.zip_longest", "itertools.pairwise"].contains n && vs[0]? == some (rawInt _)) = true then _ else _) Q E s
           rw [if_neg (by intro h; rw [hn, Bool.false_and] at h; cases h)]
           exact wpAny_pure hQ))
def Itl (K : PySem.W.Frag) (a : Addr) : It :=
  ⟨fun i H => ∃ xs x, SqL K H a xs ∧ xs[i]? = some x, fun i H x H' => H' = H ∧ ∀ xs, SqL K H a xs → xs[i]? = some x, fun i H => ∃ xs, SqL K H a xs ∧ xs.length ≤ i⟩
def Itt (K : PySem.W.Frag) (a : Addr) : It :=
  ⟨fun i H => ∃ xs x, SqT K H a xs ∧ xs[i]? = some x, fun i H x H' => H' = H ∧ ∀ xs, SqT K H a xs → xs[i]? = some x, fun i H => ∃ xs, SqT K H a xs ∧ xs.length ≤ i⟩
def Itr (lo : Int) (n : Nat) : It := ⟨fun i _ => i < n, fun i H x H' => H' = H ∧ x = .int (lo + i), fun i _ => n ≤ i⟩
theorem turn_list {P : Program} {w : World} {K : PySem.W.Frag} {tg : Expr} (a it : Addr) : Turn P w K tg (Itl K a) [it] it (fun i h => h.IsListIter it a i) where
  mem := by simp
  obj := fun i h st b hb => by
    have e : b = it := by simpa using hb
    subst e
    obtain ⟨o, e, c, d⟩ := st
    exact ⟨o, e, fun v z => by rw [d] at z; cases z⟩
  keep := fun i h h' st k => st.at fun o e => k it (by simp) o e
  item := by
    intro X hP hw hK hc i pins s σ H E I hf st hg
    subst hP hw hK
    obtain ⟨xs, x, hq, hx⟩ := hg
    obtain ⟨its, rv, p, hz⟩ := I.list hq
    obtain ⟨u, hu, ru⟩ := rv.get hx
    obtain ⟨f0, f1, f2, f3, f4, f5⟩ := hf it (by simp)
    refine wpAny_pyNext_list_item st p.isList (x := u) (by simpa using hu) fun h' st' sb => ?_
    have I1 : Inv X pins σ H { s with heap := h' } := I.turned (t' := s.toks) (fun b o hb e => (sb.2 b hb).trans e) f0 f1 f3 f4 f5
    obtain ⟨o, e, c, d⟩ := id st'
    exact ⟨u, rfl, go_of (s := { s with heap := h' }) e c d (by decide) ⟨x, H, I1, ru, ⟨rfl, fun ys hy => by rw [I.list_inj hy hq]; exact hx⟩, st', fun b hb => (hf b hb).1⟩⟩
  done := by
    intro X hP hw hK hc i pins s σ H E I hf st hg
    subst hP hw hK
    obtain ⟨xs, hq, hx⟩ := hg
    obtain ⟨its, rv, p, hz⟩ := I.list hq
    obtain ⟨f0, f1, f2, f3, f4, f5⟩ := hf it (by simp)
    have hl := rv.length
    exact wpAny_pyNext_list_end (I.ok.hd hc) st p.isList (by simp; omega) fun h' eb => ⟨rfl, I.turned (t' := s.toks) (fun b o hb e => eb b o hb e) f0 f1 f3 f4 f5⟩
  self := fun _ _ _ _ _ st h => wpAny_pyIter_listiter st h
theorem turn_tuple {P : Program} {w : World} {K : PySem.W.Frag} {tg : Expr} (a it : Addr) : Turn P w K tg (Itt K a) [it] it (fun i h => h.IsTupleIter it a i) where
  mem := by simp
  obj := fun i h st b hb => by
    have e : b = it := by simpa using hb
    subst e
    obtain ⟨o, e, c, d⟩ := st
    exact ⟨o, e, fun v z => by rw [d] at z; cases z⟩
  keep := fun i h h' st k => st.at fun o e => k it (by simp) o e
  item := by
    intro X hP hw hK hc i pins s σ H E I hf st hg
    subst hP hw hK
    obtain ⟨xs, x, hq, hx⟩ := hg
    obtain ⟨its, rv, p, hz⟩ := I.tuple hq
    obtain ⟨u, hu, ru⟩ := rv.get hx
    obtain ⟨f0, f1, f2, f3, f4, f5⟩ := hf it (by simp)
    refine wpAny_pyNext_tuple_item st (show s.heap.IsTuple a its.toArray from p) (x := u) (by simpa using hu) fun h' st' sb => ?_
    have I1 : Inv X pins σ H { s with heap := h' } := I.turned (t' := s.toks) (fun b o hb e => (sb.2 b hb).trans e) f0 f1 f3 f4 f5
    obtain ⟨o, e, c, d⟩ := id st'
    exact ⟨u, rfl, go_of (s := { s with heap := h' }) e c d (by decide) ⟨x, H, I1, ru, ⟨rfl, fun ys hy => by rw [I.tuple_inj hy hq]; exact hx⟩, st', fun b hb => (hf b hb).1⟩⟩
  done := by
    intro X hP hw hK hc i pins s σ H E I hf st hg
    subst hP hw hK
    obtain ⟨xs, hq, hx⟩ := hg
    obtain ⟨its, rv, p, hz⟩ := I.tuple hq
    obtain ⟨f0, f1, f2, f3, f4, f5⟩ := hf it (by simp)
    have hl := rv.length
    exact wpAny_pyNext_tuple_end (I.ok.hd hc) st (show s.heap.IsTuple a its.toArray from p) (by simp; omega) fun h' eb => ⟨rfl, I.turned (t' := s.toks) (fun b o hb e => eb b o hb e) f0 f1 f3 f4 f5⟩
  self := fun _ _ _ _ _ st h => wpAny_pyIter_tupleiter st h
theorem turn_range {P : Program} {w : World} {K : PySem.W.Frag} {tg : Expr} (it : Addr) (lo : Int) (n : Nat) : Turn P w K tg (Itr lo n) [it] it (fun i h => IsRangeIter h it (lo + (i : Nat) * 1) ((n : Int) - (i : Nat)) 1) where
  mem := by simp
  obj := fun i h st b hb => by
    have e : b = it := by simpa using hb
    subst e
    exact ⟨_, st, fun v z => by
      have z' : Data.fields _ = Data.cell v := z
      cases z'⟩
  keep := fun i h h' st k => k it (by simp) _ st
  item := by
    intro X hP hw hK hc i pins s σ H E I hf st hg
    subst hP hw hK
    obtain ⟨f0, f1, f2, f3, f4, f5⟩ := hf it (by simp)
    have W := Walks.range (prog := X.prog) (w := X.w) (I.ok.hd hc) it lo 1 n
    refine W.item i s _ _ hg st fun v h' tk hv st' kk => ?_
    obtain ⟨t, rfl⟩ := hv
    have I1 : Inv X pins σ H { s with heap := h', toks := tk } := I.turned (fun b o hb e => kk b o (by simpa using hb) e) f0 f1 f3 f4 f5
    refine ⟨_, rfl, go_of (s := { s with heap := h', toks := tk }) (n := "range_iterator") st' rfl rfl (by decide) ⟨.int (lo + i), H, I1, ⟨t, ?_⟩, ⟨rfl, rfl⟩, st', fun b hb => (hf b hb).1⟩⟩
    rw [Int.mul_one]
  done := by
    intro X hP hw hK hc i pins s σ H E I hf st hg
    subst hP hw hK
    obtain ⟨f0, f1, f2, f3, f4, f5⟩ := hf it (by simp)
    exact wpAny_pyNext_range_end (I.ok.hd hc) st (by have : n ≤ i := hg; omega) fun h' eb => ⟨rfl, I.turned (t' := s.toks) (fun b o hb e => eb b o hb e) f0 f1 f3 f4 f5⟩
  self := fun _ _ _ _ _ st h => wpAny_pyIter_rangeiter st h
end L2
namespace L2
open PySem PySem.Spec PyProof.Rows
section
variable {X : Cx} {tg : Expr}
theorem range_it {pins : List (Addr × Obj)} {σ : St} {H : Hp} {s : Shared} {R : It → Hp → Prop} {E : Value → Shared → Prop} {lo hi : Int} {t u v : Tok} {tk : Nat} (I : Inv X pins σ H s) (h1 : -(2 ^ 62) ≤ lo) (h2 : lo < 2 ^ 62) (h3 : -(2 ^ 62) ≤ hi) (h4 : hi < 2 ^ 62)
    (q : R (Itr lo (hi - lo).toNat) H) : wpAny (model X.prog X.w) X.A (pyIter (.ref s.heap.objs.size)) (PIE X pins σ tg R) E { s with heap := s.heap.push { cls := .type "range", data := .fields #[.int lo t, .int hi u, .int 1 v] }, toks := tk } := by
  refine wpAny_pyIter_range (IsRange.new ..) (small_one h1 h2 h3 h4) ?_
  have I1 : Inv X pins σ H { s with heap := s.heap.push { cls := .type "range", data := .fields #[.int lo t, .int hi u, .int 1 v] }, toks := tk } := I.kept fun b o e => Heap.get?_push_of_some _ e
  refine ⟨(s.heap.push { cls := .type "range", data := .fields #[.int lo t, .int hi u, .int 1 v] }).objs.size, [(s.heap.push { cls := .type "range", data := .fields #[.int lo t, .int hi u, .int 1 v] }).objs.size], _, _, H, rfl,
    I1.kept (t' := tk) fun b o e => Heap.get?_push_of_some _ e, turn_range _ lo (hi - lo).toNat, ?_, fun b hb => ?_, q⟩
  · have e1 : lo + ((0 : Nat) : Int) * 1 = lo := by simp
    have e2 : (((hi - lo).toNat : Nat) : Int) - ((0 : Nat) : Int) = Builtin.Range.rangeSize lo hi 1 := by rw [rangeSize_one]; split <;> omega
    show IsRangeIter _ _ (lo + ((0 : Nat) : Int) * 1) ((((hi - lo).toNat : Nat) : Int) - ((0 : Nat) : Int)) 1
    rw [e1, e2]
    exact Heap.get?_push_size _ rfl
  · have e : b = (s.heap.push { cls := .type "range", data := .fields #[.int lo t, .int hi u, .int 1 v] }).objs.size := by simpa using hb
    subst e
    exact I1.fpOk (Nat.le_refl _) (I1.hok.fresh (Nat.le_refl _))
def iRng1 (ta : TA) : TI := fun σ H R => ta σ H fun vs H1 => ∃ j : Int, vs = [.int j] ∧ -(2 ^ 62) ≤ j ∧ j < 2 ^ 62 ∧ R (Itr 0 j.toNat) H1
theorem pi_range1 {a : Expr} {ta : TA} {p pos : Pos} (hg : Gl X "range") (hm : X.mg "range" = none) (ha : PA X [a] ta) (hs : starEach [a] X.env = [(false, eval a X.env)] := by rfl) : PI X tg (.Call (.Name "range" p) [a] [] pos) (iRng1 ta) := by
  intro pins s σ H R I h
  refine Call_ (ld_blt I hg hm boot_range (PyProof.Rows.callWith_type1 (thn (ha pos pins s σ H _ I h) fun us s1 ⟨vs, H1, I1, r1, q1⟩ => ?_) hs rfl))
  obtain ⟨j, e, q1, q2, q⟩ := q1
  subst e
  cases r1 with
  | cons r rr =>
    cases rr
    obtain ⟨t, rfl⟩ := r
    exact call_range_1 (range_it I1 (by omega) (by omega) q1 q2 (by simpa using q))
def tFor (wi : TI) (g : TG) (tb : TS) : TS := fun D σ H => wi σ H fun J H1 => ∃ W : Nat → Nat → St → Hp → Prop, (∃ m, W 0 m σ H1) ∧ ∀ i m σ H, W i m σ H →
  (J.stop i H ∧ D.nx σ H) ∨ (J.go i H ∧ ∃ N : St → Hp → Prop, (∀ σ' H', N σ' H' → ∃ m', m' < m ∧ W (i + 1) m' σ' H') ∧ ∀ x H', J.yld i H x H' → g x σ H' fun σ2 H2 => tb { D with nx := N, ct := N, bk := D.nx } σ2 H2)
def pinsAt (fp : List Addr) (h : Heap) : List (Addr × Obj) := fp.filterMap fun b => (h.get? b).map fun o => (b, o)
theorem mem_pinsAt {fp : List Addr} {h : Heap} {b : Addr} {o : Obj} (hb : b ∈ fp) (e : h.get? b = some o) : (b, o) ∈ pinsAt fp h := List.mem_filterMap.mpr ⟨b, hb, by rw [e]; rfl⟩
theorem of_pinsAt {fp : List Addr} {h : Heap} {p : Addr × Obj} (hp : p ∈ pinsAt fp h) : p.1 ∈ fp ∧ h.get? p.1 = some p.2 := by
  obtain ⟨b, hb, e⟩ := List.mem_filterMap.mp hp
  cases q : h.get? b with
  | none => rw [q] at e; cases e
  | some o =>
    rw [q] at e
    have e' : (b, o) = p := Option.some.inj e
    subst e'
    exact ⟨hb, q⟩
theorem Inv.pinned {pins : List (Addr × Obj)} {σ : St} {H : Hp} {s : Shared} {fp : List Addr} (I : Inv X pins σ H s) (hf : ∀ b ∈ fp, FpOk X pins H b) (ho : ∀ b ∈ fp, ∃ o, s.heap.get? b = some o ∧ ∀ v, o.data ≠ .cell v) : Inv X (pins ++ pinsAt fp s.heap) σ H s :=
  I.pins_of fun p hp => (List.mem_append.mp hp).elim (fun z => I.pin p (List.mem_append_right _ z)) fun z => by
    obtain ⟨hb, e⟩ := of_pinsAt z
    obtain ⟨f0, f1, f2, _⟩ := hf p.1 hb
    obtain ⟨o, e', d⟩ := ho p.1 hb
    rw [e] at e'; cases e'
    exact ⟨e, f0, f1, f2, d⟩
theorem Inv.unpinned {pins pl : List (Addr × Obj)} {σ : St} {H : Hp} {s : Shared} (I : Inv X (pins ++ pl) σ H s) : Inv X pins σ H s := I.pins_of fun p hp => I.pin p (List.mem_append_right _ (List.mem_append_left _ hp))
theorem ps_for {iter : Expr} {body : List Stmt} {wi : TI} {g : TG} {tb : TS} {pos : Pos} (hp : PassesOwn (model X.prog X.w) X.A X.env X.xe) (hc : X.calm = true) (hi : PI X tg iter wi) (hg : PG X tg g) (hb : PSs X body tb)
    (hs : ∀ x, foldedSetIterable iter X.env x = pure x := by intro _; rfl) : PS X (.For tg iter body [] pos) (tFor wi g tb) := by
  intro pins s σ H D I h
  refine wpAny_For (thn (hi pins s σ H _ I h) fun v s1 h1 => thn h1 fun itv s2 h2 => ?_) hs
  obtain ⟨it, fp, tn, J, H2, e, I2, T, st2, f2, W, ⟨m0, w0⟩, turn⟩ := h2
  subst e
  -- what stays true of the iterator's objects through the loop
  have stat : ∀ {H' : Hp}, (∀ b ∈ fp, H' b = none) → ∀ b ∈ fp, FpOk X pins H' b := fun hn b hb => ⟨hn b hb, (f2 b hb).2⟩
  refine codeAny_forLoop_any (fun n s' => ∃ i σ' H', Inv X pins σ' H' s' ∧ tn i s'.heap ∧ (∀ b ∈ fp, H' b = none) ∧ W i n σ' H') ?_ m0 ⟨0, σ, H2, I2, st2, fun b hb => (f2 b hb).1, w0⟩
  rintro n s3 ⟨i, σ3, H3, I3, st3, fr3, w3⟩
  rcases turn i n σ3 H3 w3 with ⟨stop, qn⟩ | ⟨go, N, hN, step⟩
  · refine wpAny_passesOwn hp (thn (T.done X rfl rfl rfl hc i pins s3 σ3 H3 X.xe I3 (stat fr3) st3 stop) fun r s4 ⟨hr, I4⟩ => ?_)
    subst hr
    exact wpAny_execs_nil ⟨σ3, H3, I4, qn⟩
  · refine wpAny_passesOwn hp (thn (T.item X rfl rfl rfl hc i pins s3 σ3 H3 X.xe I3 (stat fr3) st3 go) fun r s4 ⟨u, hr, h4⟩ => ?_)
    subst hr
    refine wpAny_passesOwn hp (thn h4 fun _ s5 ⟨x, H5, I5, r5, y5, st5, fr5⟩ => ?_)
    have I5' := I5.pinned (stat fr5) (T.obj _ _ st5)
    refine wpAny_passesOwn hp (thn (hg _ s5 σ3 H5 x u _ I5' r5 (step x H5 y5)) fun _ s6 ⟨σ6, H6, I6, q6⟩ => ?_)
    refine wpAny_passesOwn hp (thn (hb _ s6 σ6 H6 _ I6 q6) fun f s7 q7 => ?_)
    have again : ∀ {σ7 : St} {H7 : Hp}, Inv X (pins ++ pinsAt fp s5.heap) σ7 H7 s7 → N σ7 H7 → ∃ m, m < n ∧ ∃ i σ' H', Inv X pins σ' H' s7 ∧ tn i s7.heap ∧ (∀ b ∈ fp, H' b = none) ∧ W i m σ' H' := fun {σ7 H7} I7 n7 => by
      obtain ⟨m', hm, w7⟩ := hN σ7 H7 n7
      refine ⟨m', hm, i + 1, σ7, H7, I7.unpinned, T.keep _ _ _ st5 fun b hb o e => (I7.pin (b, o) (List.mem_append_right _ (List.mem_append_right _ (mem_pinsAt hb e)))).1, fun b hb => ?_, w7⟩
      obtain ⟨o, e, d⟩ := T.obj _ _ st5 b hb
      exact (I7.pin (b, o) (List.mem_append_right _ (List.mem_append_right _ (mem_pinsAt hb e)))).2.1
    cases f with
    | next => obtain ⟨σ7, H7, I7, n7⟩ := q7; exact again I7 n7
    | cont => obtain ⟨σ7, H7, I7, n7⟩ := q7; exact again I7 n7
    | brk => obtain ⟨σ7, H7, I7, q7⟩ := q7; exact ⟨σ7, H7, I7.unpinned, q7⟩
    | ret v => obtain ⟨x7, σ7, H7, I7, r7, q7⟩ := q7; exact ⟨x7, σ7, H7, I7.unpinned, r7, q7⟩
end
end L2
namespace L2
open PySem PySem.Spec PyProof.Rows
abbrev R2 := V → V → Hp → VK → Prop
def OpR (X : Cx) (f : Value → Value → Sem Value) (r : R2) : Prop :=
  ∀ (pins : List (Addr × Obj)) (s : Shared) (σ : St) (H : Hp) (x y : V) (v u : Value) (Q : VK), Inv X pins σ H s → RelV x v → RelV y u → r x y H Q →
    wpAny (model X.prog X.w) X.A (f v u) (EP X pins σ Q) X.xe s
def UnR (X : Cx) (f : Value → Sem Value) (r : V → Hp → VK → Prop) : Prop :=
  ∀ (pins : List (Addr × Obj)) (s : Shared) (σ : St) (H : Hp) (x : V) (v : Value) (Q : VK), Inv X pins σ H s → RelV x v → r x H Q →
    wpAny (model X.prog X.w) X.A (f v) (EP X pins σ Q) X.xe s
def CallR (X : Cx) (f : Value) (r : List V → Hp → VK → Prop) : Prop :=
  ∀ (pins : List (Addr × Obj)) (s : Shared) (σ : St) (H : Hp) (xs : List V) (us : List Value) (Q : VK), Inv X pins σ H s → Vals xs us → r xs H Q →
    wpAny (model X.prog X.w) X.A (call f us) (EP X pins σ Q) X.xe s
def TruR (X : Cx) (r : V → Hp → (Bool → Hp → Prop) → Prop) : Prop :=
  ∀ (pins : List (Addr × Obj)) (s : Shared) (σ : St) (H : Hp) (x : V) (v : Value) (Q : Bool → Hp → Prop), Inv X pins σ H s → RelV x v → r x H Q →
    wpAny (model X.prog X.w) X.A (truthy v) (TP X pins σ Q) X.xe s
def tOp (r : R2) (ta tb : TE) : TE := fun σ H Q => ta σ H fun x H1 => tb σ H1 fun y H2 => r x y H2 Q
def tUn (r : V → Hp → VK → Prop) (ta : TE) : TE := fun σ H Q => ta σ H fun x H1 => r x H1 Q
def rI (C : Int → Int → Prop) (g : Int → Int → V) : R2 := fun x y H Q => ∃ i j, x = .int i ∧ y = .int j ∧ C i j ∧ Q (g i j) H
def rI0 (g : Int → Int → V) : R2 := fun x y H Q => ∃ i j, x = .int i ∧ y = .int j ∧ Q (g i j) H
def rU (g : Int → V) : V → Hp → VK → Prop := fun x H Q => ∃ i, x = .int i ∧ Q (g i) H
section
variable {X : Cx} {a b c : Expr} {ta tb tc : TE} {pos : Pos}
theorem binT (ha : PE X a ta) (hb : PE X b tb) {pins : List (Addr × Obj)} {s : Shared} {σ : St} {H : Hp} {R : V → V → Hp → Prop} (I : Inv X pins σ H s)
    (h : ta σ H fun x H1 => tb σ H1 fun y H2 => R x y H2) {Q : Value → Shared → Prop} {f : Value → Value → Sem Value}
    (hf : ∀ v u s2 x y H2, Inv X pins σ H2 s2 → RelV x v → RelV y u → R x y H2 → wpAny (model X.prog X.w) X.A (f v u) Q X.xe s2) :
    wpAny (model X.prog X.w) X.A (eval a X.env) (fun v s₁ => wpAny (model X.prog X.w) X.A (eval b X.env) (fun u s₂ => wpAny (model X.prog X.w) X.A (f v u) Q X.xe s₂) X.xe s₁) X.xe s := by
  refine thn (ha pins s σ H _ I h) fun v s1 ⟨x, H1, I1, r1, q1⟩ => ?_
  refine thn (hb pins s1 σ H1 _ I1 q1) fun u s2 ⟨y, H2, I2, r2, q2⟩ => ?_
  exact hf v u s2 x y H2 I2 r1 r2 q2
theorem pe_op {op : Operator} {r : R2} (ho : OpR X (binaryOp op) r) (ha : PE X a ta) (hb : PE X b tb) : PE X (.BinOp a op b pos) (tOp r ta tb) := by
  intro pins s σ H Q I h
  exact wpAny_BinOp (binT ha hb I h fun v u s2 x y H2 I2 rx ry q => ho pins s2 σ H2 x y v u Q I2 rx ry q)
theorem pe_un {op : UnaryOp} {r : V → Hp → VK → Prop} (ho : UnR X (unaryOp op) r) (ha : PE X a ta) : PE X (.UnaryOp op a pos) (tUn r ta) := by
  intro pins s σ H Q I h
  exact UnaryOp_ (thn (ha pins s σ H _ I h) fun v s1 ⟨x, H1, I1, r1, q1⟩ => ho pins s1 σ H1 x v Q I1 r1 q1)
theorem opI {f : Value → Value → Sem Value} {C : Int → Int → Prop} {g : Int → Int → Int}
    (rule : ∀ (i j : Int) (t u : Tok) (s : Shared) (Q : Value → Shared → Prop) (E : Value → Shared → Prop), C i j → Q (.int (g i j) s.toks) { s with toks := s.toks + 1 } → wpAny (model X.prog X.w) X.A (f (.int i t) (.int j u)) Q E s) :
    OpR X f (rI C fun i j => .int (g i j)) := by
  intro pins s σ H x y v u Q I rx ry h
  obtain ⟨i, j, rfl, rfl, hc, q⟩ := h
  obtain ⟨t, rfl⟩ := rx
  obtain ⟨t', rfl⟩ := ry
  exact rule i j t t' s _ _ hc ⟨.int (g i j), H, I.tok _, ⟨_, rfl⟩, q⟩
theorem opI0 {f : Value → Value → Sem Value} {g : Int → Int → Int}
    (rule : ∀ (i j : Int) (t u : Tok) (s : Shared) (Q : Value → Shared → Prop) (E : Value → Shared → Prop), Q (.int (g i j) s.toks) { s with toks := s.toks + 1 } → wpAny (model X.prog X.w) X.A (f (.int i t) (.int j u)) Q E s) :
    OpR X f (rI0 fun i j => .int (g i j)) := by
  intro pins s σ H x y v u Q I rx ry h
  obtain ⟨i, j, rfl, rfl, q⟩ := h
  obtain ⟨t, rfl⟩ := rx
  obtain ⟨t', rfl⟩ := ry
  exact rule i j t t' s _ _ ⟨.int (g i j), H, I.tok _, ⟨_, rfl⟩, q⟩
theorem opB0 {f : Value → Value → Sem Value} {g : Int → Int → Bool}
    (rule : ∀ (i j : Int) (t u : Tok) (s : Shared) (Q : Value → Shared → Prop) (E : Value → Shared → Prop), Q (.bool (g i j)) s → wpAny (model X.prog X.w) X.A (f (.int i t) (.int j u)) Q E s) :
    OpR X f (rI0 fun i j => .bl (g i j)) := by
  intro pins s σ H x y v u Q I rx ry h
  obtain ⟨i, j, rfl, rfl, q⟩ := h
  obtain ⟨t, rfl⟩ := rx
  obtain ⟨t', rfl⟩ := ry
  exact rule i j t t' s _ _ ⟨.bl (g i j), H, I, rfl, q⟩
def CPow (i j : Int) : Prop := 0 ≤ j ∧ j ≤ 1000000 ∧ i.natAbs < 2 ^ 64
def CMul (i j : Int) : Prop := (-(2 ^ 64) < i ∧ i < 2 ^ 64) ∨ (-(2 ^ 64) < j ∧ j < 2 ^ 64)
theorem CMul.ok {i j : Int} (h : CMul i j) : IntMulOk i j := by
  rcases h with ⟨h1, h2⟩ | ⟨h1, h2⟩
  · exact .of_left (intBits_le_64 h1 h2)
  · exact .of_right (intBits_le_64 h1 h2)
theorem op_add : OpR X (binaryOp .Add) (rI0 fun i j => .int (i + j)) := opI0 fun _ _ _ _ _ _ _ q => add_int q
theorem op_sub : OpR X (binaryOp .Sub) (rI0 fun i j => .int (i - j)) := opI0 fun _ _ _ _ _ _ _ q => sub_int q
theorem op_mul : OpR X (binaryOp .Mult) (rI CMul fun i j => .int (i * j)) := opI fun _ _ _ _ _ _ _ hc q => mul_int q hc.ok
theorem op_mod : OpR X (binaryOp .Mod) (rI (fun _ j => 0 < j) fun i j => .int (i % j)) := opI fun i j _ _ _ _ _ hc q => by
  have h1 : (0 : Int) < j := hc
  exact mod_int' (by omega) (by rw [Int.fmod_eq_emod_of_nonneg i (by omega)]; exact q)
theorem op_pow : OpR X (binaryOp .Pow) (rI CPow fun i j => .int (i ^ j.toNat)) := opI fun _ _ _ _ _ _ _ hc q => pow_int_small hc.1 hc.2.1 hc.2.2 q
theorem unI {f : Value → Sem Value} {g : Int → Int}
    (rule : ∀ (i : Int) (t : Tok) (s : Shared) (Q : Value → Shared → Prop) (E : Value → Shared → Prop), Q (.int (g i) s.toks) { s with toks := s.toks + 1 } → wpAny (model X.prog X.w) X.A (f (.int i t)) Q E s) :
    UnR X f (rU fun i => .int (g i)) := by
  intro pins s σ H x v Q I rx h
  obtain ⟨i, rfl, q⟩ := h
  obtain ⟨t, rfl⟩ := rx
  exact rule i t s _ _ ⟨.int (g i), H, I.tok _, ⟨_, rfl⟩, q⟩
theorem un_neg : UnR X (unaryOp .USub) (rU fun i => .int (-i)) := unI fun _ _ _ _ _ q => neg_int q
end
section
variable {X : Cx} {a b c : Expr} {ta tb tc : TE} {pos : Pos}
theorem op_lt : OpR X (compareOp .Lt) (rI0 fun i j => .bl (decide (i < j))) := opB0 fun _ _ _ _ _ _ _ q => lt_int q
theorem op_le : OpR X (compareOp .LtE) (rI0 fun i j => .bl (decide (i ≤ j))) := opB0 fun _ _ _ _ _ _ _ q => le_int q
theorem op_gt : OpR X (compareOp .Gt) (rI0 fun i j => .bl (decide (j < i))) := opB0 fun _ _ _ _ _ _ _ q => gt_int q
theorem op_ge : OpR X (compareOp .GtE) (rI0 fun i j => .bl (decide (j ≤ i))) := opB0 fun _ _ _ _ _ _ _ q => ge_int q
theorem OpR.or {f : Value → Value → Sem Value} {r r' : R2} (h : OpR X f r) (h' : OpR X f r') : OpR X f (fun x y H Q => r x y H Q ∨ r' x y H Q) := by
  intro pins s σ H x y v u Q I rx ry q
  rcases q with q | q
  · exact h pins s σ H x y v u Q I rx ry q
  · exact h' pins s σ H x y v u Q I rx ry q
theorem nomark (b : Expr) {op : CmpOp} (h : op ≠ .In := by decide) (h2 : op ≠ .NotIn := by decide) : behindInMarks op b = false := by
  have e1 : (op == CmpOp.In) = false := by cases op <;> first | rfl | exact absurd rfl h
  have e2 : (op == CmpOp.NotIn) = false := by cases op <;> first | rfl | exact absurd rfl h2
  cases b <;> simp [behindInMarks, e1, e2]
theorem pe_cmpR {op : CmpOp} {r : R2} (ho : OpR X (compareOp op) r) (ha : PE X a ta) (hb : PE X b tb) (hm : behindInMarks op b = false) : PE X (.Compare a [op] [b] pos) (tOp r ta tb) := by
  intro pins s σ H Q I h
  exact wpAny_Compare1 (binT ha hb I h fun v u s2 x y H2 I2 rx ry q => ho pins s2 σ H2 x y v u Q I2 rx ry q) hm
def tTest (t : TE) : TT := fun σ H Q => t σ H fun x H' => ∃ k, x = .bl k ∧ Q k H'
theorem pt_cmpR {op : CmpOp} {r : R2} (ho : OpR X (compareOp op) r) (ha : PE X a ta) (hb : PE X b tb) (hm : behindInMarks op b = false) : PT X (.Compare a [op] [b] pos) (tTest (tOp r ta tb)) := by
  intro pins s σ H Q I h
  refine wpAny_isTrue_Compare1 (thn (ha pins s σ H _ I h) fun v s1 ⟨x, H1, I1, r1, q1⟩ => thn (hb pins s1 σ H1 _ I1 q1) fun u s2 ⟨y, H2, I2, r2, q2⟩ =>
    thn (ho pins s2 σ H2 x y v u _ I2 r1 r2 q2) fun c s3 ⟨z, H3, I3, r3, k, e, q3⟩ => ?_) hm
  subst e
  cases r3
  exact wpAny_truthy_bool ⟨H3, I3, q3⟩
def TruV (K : PySem.W.Frag) (x : V) (H : Hp) (k : Bool) : Prop :=
  match x with
  | .non => k = false
  | .bl b => k = b
  | .int i => k = (i != 0)
  | .str y => y.length ≤ sizeLine ∧ k = ((y.length : Int) != 0)
  | .byt y => y.size ≤ sizeLine ∧ k = ((y.size : Int) != 0)
  | .ref p => (∃ xs, SqL K H p xs ∧ k = !xs.isEmpty) ∨ (∃ xs, SqT K H p xs ∧ k = !xs.isEmpty) ∨ ∃ kvs, H p = some (.dK kvs) ∧ k = !kvs.isEmpty
  | _ => False
theorem isEmpty_kv {κ : Type} {kvs : List (κ × V)} {vs : List (κ × Value)} (r : KV kvs vs) : (!vs.isEmpty) = !kvs.isEmpty := by
  cases r <;> rfl
theorem isEmpty_of {xs : List V} {its : List Value} (r : Vals xs its) : (!its.toArray.isEmpty) = !xs.isEmpty := by
  cases r <;> simp
theorem line63 : (sizeLine : Nat) < 2 ^ 63 := by rw [sizeLine_eq]; decide
theorem tru_ok : TruR X (fun x H Q => ∃ k, TruV X.K x H k ∧ Q k H) := by
  intro pins s σ H x v Q I rx h
  obtain ⟨k, e, q⟩ := h
  have hl := line63
  have hs : sizeLine = 16777216 := sizeLine_eq
  cases x with
  | non =>
    cases rx
    have e' : k = false := e
    subst e'
    exact truthy_none ⟨H, I, q⟩
  | bl b =>
    cases rx
    have e' : k = b := e
    subst e'
    exact wpAny_truthy_bool ⟨H, I, q⟩
  | int i =>
    obtain ⟨t, rfl⟩ := rx
    have e' : k = (i != 0) := e
    subst e'
    exact PySem.P.truthy_int ⟨H, I, q⟩
  | str y =>
    obtain ⟨t, rfl⟩ := rx
    obtain ⟨hy, e'⟩ : y.length ≤ sizeLine ∧ k = ((y.length : Int) != 0) := e
    subst e'
    exact PySem.P.truthy_str (by omega) ⟨H, I.tok _, q⟩
  | byt y =>
    obtain ⟨t, rfl⟩ := rx
    obtain ⟨hy, e'⟩ : y.size ≤ sizeLine ∧ k = ((y.size : Int) != 0) := e
    subst e'
    exact PySem.W.truthy_bytes (by omega) ⟨H, I.tok _, q⟩
  | ref p =>
    cases rx
    have e' : (∃ xs, SqL X.K H p xs ∧ k = !xs.isEmpty) ∨ (∃ xs, SqT X.K H p xs ∧ k = !xs.isEmpty) ∨ ∃ kvs, H p = some (.dK kvs) ∧ k = !kvs.isEmpty := e
    rcases e' with ⟨xs, hx, e'⟩ | ⟨xs, hx, e'⟩ | ⟨kvs, hx, e'⟩
    · subst e'
      obtain ⟨its, r, pl, hz⟩ := I.list hx
      have hlen := r.length
      exact wpAny_truthy_list pl.isList (by simp only [List.size_toArray]; omega) ⟨H, I.tok _, by rw [isEmpty_of r]; exact q⟩
    · subst e'
      obtain ⟨its, r, pl, hz⟩ := I.tuple hx
      have hlen := r.length
      exact truthy_tuple pl (by simp only [List.size_toArray]; omega) ⟨H, I.tok _, by rw [isEmpty_of r]; exact q⟩
    · subst e'
      obtain ⟨hz, hS, vs, r, m⟩ : kvs.length ≤ sizeLine ∧ (p == sysModules) = false ∧ ∃ vs, KV kvs vs ∧ s.heap.DictOf (mixKind X.prog X.w) p vs := I.hok p _ hx
      have hlen : kvs.length = vs.length := Paired.length r
      exact wpAny_truthy_dict hS m (by omega) ⟨H, I.tok _, by rw [isEmpty_kv r]; exact q⟩
  | _ => exact (show False from e).elim
theorem pt_truth (ha : PE X a ta) (he : ∀ whole, isTrue a X.env whole = (do let v ← whole; standAt a.pos; holding [v] (truthy v))) :
    PT X a (fun σ H Q => ta σ H fun x H' => ∃ k, TruV X.K x H' k ∧ Q k H') := by
  intro pins s σ H Q I h
  exact isTrue_plain (thn (ha pins s σ H _ I h) fun v s1 ⟨x, H1, I1, r1, q1⟩ => tru_ok pins s1 σ H1 x v Q I1 r1 q1) (he _)
theorem op_add_str : OpR X (binaryOp .Add) (fun x y H Q => ∃ i j, x = .str i ∧ y = .str j ∧ i.length + j.length ≤ sizeLine ∧ Q (.str (i ++ j)) H) := by
  intro pins s σ H x y v u Q I rx ry h
  obtain ⟨i, j, rfl, rfl, hz, q⟩ := h
  obtain ⟨t, rfl⟩ := rx
  obtain ⟨t', rfl⟩ := ry
  exact add_str (fun t' tk => ⟨.str (i ++ j), H, I.tok _, ⟨_, rfl⟩, q⟩) hz
theorem vals1 {x : V} {us : List Value} (r : Vals [x] us) : ∃ u, us = [u] ∧ RelV x u := by
  cases r with
  | cons r1 r2 => cases r2; exact ⟨_, rfl, r1⟩
theorem call_int1 : CallR X (.type "int") (fun xs H Q => (∃ i, xs = [.int i] ∧ Q (.int i) H) ∨ ∃ k, xs = [.bl k] ∧ Q (.int (if k then 1 else 0)) H) := by
  intro pins s σ H xs us Q I r h
  rcases h with ⟨i, rfl, q⟩ | ⟨k, rfl, q⟩
  · obtain ⟨u, rfl, t, rfl⟩ := vals1 r
    exact call_int_int ⟨.int i, H, I, ⟨_, rfl⟩, q⟩
  · obtain ⟨u, rfl, r1⟩ := vals1 r
    cases r1
    exact call_int_bool ⟨.int (if k then 1 else 0), H, I.tok _, ⟨_, rfl⟩, q⟩
def LenV (K : PySem.W.Frag) (x : V) (H : Hp) (n : Nat) : Prop :=
  match x with
  | .str y => y.length ≤ sizeLine ∧ n = y.length
  | .byt y => y.size ≤ sizeLine ∧ n = y.size
  | .ref p => (∃ xs, SqL K H p xs ∧ n = xs.length) ∨ ∃ xs, SqT K H p xs ∧ n = xs.length
  | _ => False
theorem call_len : CallR X (.builtin "len") (fun xs H Q => ∃ x n, xs = [x] ∧ LenV X.K x H n ∧ Q (.int n) H) := by
  intro pins s σ H xs us Q I r h
  obtain ⟨x, n, rfl, e, q⟩ := h
  obtain ⟨u, rfl, rx⟩ := vals1 r
  have hl := line63
  have hs : sizeLine = 16777216 := sizeLine_eq
  cases x with
  | str y =>
    obtain ⟨t, rfl⟩ := rx
    obtain ⟨hy, e'⟩ : y.length ≤ sizeLine ∧ n = y.length := e
    subst e'
    exact len_str (by omega) ⟨.int _, H, I.tok _, ⟨_, rfl⟩, q⟩
  | byt y =>
    obtain ⟨t, rfl⟩ := rx
    obtain ⟨hy, e'⟩ : y.size ≤ sizeLine ∧ n = y.size := e
    subst e'
    exact PySem.W.len_bytes (by omega) ⟨.int _, H, I.tok _, ⟨_, rfl⟩, q⟩
  | ref p =>
    cases rx
    have e' : (∃ xs, SqL X.K H p xs ∧ n = xs.length) ∨ ∃ xs, SqT X.K H p xs ∧ n = xs.length := e
    rcases e' with ⟨xs, hx, e'⟩ | ⟨xs, hx, e'⟩
    · subst e'
      obtain ⟨its, r', pl, hz⟩ := I.list hx
      have hlen := r'.length
      exact Calls.call_len_list pl.isList (by simp only [List.size_toArray]; omega) ⟨.int xs.length, H, I.tok _, ⟨_, by simp only [List.size_toArray]; rw [hlen]⟩, q⟩
    · subst e'
      obtain ⟨its, r', pl, hz⟩ := I.tuple hx
      have hlen := r'.length
      exact len_tuple pl (by simp only [List.size_toArray]; omega) ⟨.int xs.length, H, I.tok _, ⟨_, by simp only [List.size_toArray]; rw [hlen]⟩, q⟩
  | _ => exact (show False from e).elim
end
end L2
namespace L2
open PySem PySem.Spec PyProof.Rows
structure ObjM (h : Heap) (x dx C : Addr) (mA : Str → Option Value) : Prop where
  obj : h.get? x = some (PySem.W.instObj C dx)
  ns : h.Ns1 dx mA
  ne : dx ≠ x
section
variable {prog : Program} {w : World} {A : Around} {E : Value → Shared → Prop} {s : Shared} {K : PySem.W.Frag} {x dx C f : Addr} {mA : Str → Option Value} {name : Str} {v : Value}
end
section
variable {P : Program} {w : World} {H H' : Hp} {h h' : Heap} {a C dx : Addr} {fs fs' : List (Str × V)}
end
structure Cls (K : PySem.W.Frag) (C : Addr) : Prop where
  pg : PySem.W.plainGet K C Str.empty = true
  hd : PySem.W.hasDictIn K C = true
  po : PySem.W.plainOver K C = true
  sa : PySem.W.findIn K (.ref C) "__setattr__" = some (some (.builtin "object.__setattr__"))
theorem Cls.get {K : PySem.W.Frag} {C : Addr} (c : Cls K C) (f : Str) : PySem.W.plainGet K C f = true := c.pg
structure Con (K : PySem.W.Frag) (C : Addr) (f : Str) (v : V) (u : Value) : Prop where
  at_ : PySem.W.findIn K (.ref C) f = some (some u)
  rel : RelV v u
  get : PySem.W.specialIn K u "__get__" = some none
  cp : PySem.W.copiedNames.contains f = false
structure Meth (K : PySem.W.Frag) (C : Addr) (m : Str) (f : Addr) : Prop where
  at_ : PySem.W.findIn K (.ref C) m = some (some (.ref f))
  fn : PySem.W.isFn K (.ref f) = true
  kp : PySem.W.keepIn K (.ref f) = true
section
variable {X : Cx} {pins : List (Addr × Obj)} {σ : St} {H : Hp} {s : Shared} {a C dx : Addr} {fs : List (Str × V)} {f : Str} {v : V} {A : Around} {E : Value → Shared → Prop}
end
section
variable {X : Cx} {o e value : Expr} {f : Str} {pos pos' tpos : Pos} {ta tv : TE}
end
section
variable {X : Cx} {pins : List (Addr × Obj)} {σ : St} {H : Hp} {s : Shared} {A : Around} {E : Value → Shared → Prop} {Q : Value → Shared → Prop} {c : Value} {b : Bool}
inductive TyOf (K : PySem.W.Frag) (H : Hp) : V → Value → Prop where
  | non : TyOf K H .non (.type "NoneType")
  | bl (x : Bool) : TyOf K H (.bl x) (.type "bool")
  | int (i : Int) : TyOf K H (.int i) (.type "int")
  | str (x : Str) : TyOf K H (.str x) (.type "str")
  | flt (x : UInt64) : TyOf K H (.flt x) (.type "float")
  | lst {a : Addr} {xs : List V} (e : H a = some (.lst xs)) : TyOf K H (.ref a) (.type "list")
  | frz {a : Addr} {o : Obj} {xs : List V} (e : H a = some (.frz o (.lst xs))) : TyOf K H (.ref a) (.type "list")
  | tup {a : Addr} {xs : List V} (e : H a = some (.tup xs)) : TyOf K H (.ref a) (.type "tuple")
  | dK {a : Addr} {kvs : List (Key × V)} (e : H a = some (.dK kvs)) : TyOf K H (.ref a) (.type "dict")
  | dT {a : Addr} {kvs : List (List Key × V)} (e : H a = some (.dT kvs)) : TyOf K H (.ref a) (.type "dict")
  | ins {a C dx : Addr} {fs : List (Str × V)} (e : H a = some (.ins C dx fs)) (cl : Cls K C) (ha : PySem.W.findIn K (.ref C) "__class__" = some (some (.builtin "object.__class__")))
      (hn : PySem.W.specialIn K (.builtin "object.__class__") "__get__" = some (some (.builtin "getset_descriptor.__get__"))) (htk : PySem.W.takesIn K (.builtin "object.__class__") = some true)
      (hm : PySem.W.mroIn K C (.type "object") = some true) : TyOf K H (.ref a) (.ref C)
end
end L2
namespace L2
open PySem PySem.Spec PyProof.Rows
structure Room (k : Nat) (A : Around) : Prop where
  hd : A.handled = none
  dp : A.depth + 3 * k + 5 < recursionLimit
  un : A.units + 16 * k + 200 < cLine
  gd : A.guards = some []
theorem Room.mono {j k : Nat} {A : Around} (r : Room k A) (h : j ≤ k) : Room j A := ⟨r.hd, by have := r.dp; omega, by have := r.un; omega, r.gd⟩
theorem Room.deeper {k : Nat} {A : Around} (r : Room (k + 1) A) (env : Env) : Room k (A.deeper env) :=
  ⟨r.hd, by have := r.dp; show A.depth + 1 + 3 * k + 5 < _; omega, by have := r.un; show A.units + 3 + 16 * k + 200 < _; omega, by first | exact r.gd | (simpa [Around.deeper] using r.gd)⟩
theorem Room.in1 {k : Nat} {A : Around} (r : Room (k + 1) A) : Room k A.in1 :=
  ⟨r.hd, by have := r.dp; show A.depth + 3 * k + 5 < _; omega, by have := r.un; show A.units + 1 + 16 * k + 200 < _; omega, r.gd⟩
theorem Room.depth {k : Nat} {A : Around} (r : Room k A) : A.depth < recursionLimit := by have := r.dp; omega
theorem Room.units {k : Nat} {A : Around} (r : Room k A) : A.units + 64 < cLine := by have := r.un; omega
def tNil : TA := fun _ H Q => Q [] H
def tCons (ta : TE) (tr : TA) : TA := fun σ H Q => ta σ H fun x H1 => tr σ H1 fun xs H2 => Q (x :: xs) H2
section
variable {X : Cx} {e : Expr} {es : List Expr} {te : TE} {t : TA} {pos : Pos}
theorem pa_nil : PA X [] tNil := fun _ _ _ _ H Q I h => Calls.spliced_nil ⟨[], H, I, .nil, h⟩
theorem pa_cons (ha : PE X e te) (hr : PA X es t) (hs : starEach (e :: es) X.env = (false, eval e X.env) :: starEach es X.env := by rfl) : PA X (e :: es) (tCons te t) := by
  intro pos pins s σ H Q I h
  rw [hs]
  show wpAny _ _ (spliced ((false, eval e X.env) :: backTo pos (starEach es X.env))) _ _ s
  refine Calls.spliced_cons (thn (ha pins s σ H _ I h) fun u s1 ⟨x, H1, I1, r1, q1⟩ => ?_)
  exact thn (hr pos pins s1 σ H1 _ I1 q1) fun us s2 ⟨xs, H2, I2, r2, q2⟩ => ⟨x :: xs, H2, I2, .cons r1 r2, q2⟩
def tTup (t : TA) : TE := fun σ H Q => t σ H fun xs H1 => xs.length ≤ sizeLine ∧ ∀ p, H1 p = none → Q (.ref p) (upd H1 p (.tup xs))
def tLst (t : TA) : TE := fun σ H Q => t σ H fun xs H1 => xs.length ≤ sizeLine ∧ ∀ p, H1 p = none → Q (.ref p) (upd H1 p (.lst xs))
theorem pe_tup {x1} (h : PA X es t) : PE X (.Tuple es x1 pos) (tTup t) := by
  intro pins s σ H Q I hq
  refine wpAny_Tuple_spliced (thn (h pos pins s σ H _ I hq) fun us s1 ⟨xs, H1, I1, r, z, q⟩ => ⟨by rw [← r.length]; exact z, ?_⟩)
  have hf : H1 s1.heap.objs.size = none := I1.hok.fresh (Nat.le_refl _)
  refine ⟨.ref s1.heap.objs.size, upd H1 s1.heap.objs.size (.tup xs), I1.laid (t' := s1.toks) (fun b u e => Heap.get?_push_of_some _ e) (Nat.le_refl _) ?_, rfl, q _ hf⟩
  exact ⟨z, us, r, ⟨_, Heap.get?_push_size _ rfl, rfl, _, rfl⟩⟩
theorem pe_lst (h : PA X es t) : PE X (.List es pos) (tLst t) := by
  intro pins s σ H Q I hq
  refine wpAny_List_spliced (thn (h pos pins s σ H _ I hq) fun us s1 ⟨xs, H1, I1, r, z, q⟩ => ⟨by rw [← r.length]; exact z, ?_⟩)
  have hf : H1 s1.heap.objs.size = none := I1.hok.fresh (Nat.le_refl _)
  refine ⟨.ref s1.heap.objs.size, upd H1 s1.heap.objs.size (.lst xs), I1.laid (t' := s1.toks) (fun b u e => Heap.get?_push_of_some _ e) (Nat.le_refl _) ?_, rfl, q _ hf⟩
  exact ⟨z, us, 0, r, Heap.get?_push_size _ rfl⟩
end
abbrev Sp := List V → Hp → VK → XK → Prop
abbrev CXT := List Env → Hp → Shared → XK → Value → Shared → Prop
structure Env0 (P : Program) (w : World) (K : PySem.W.Frag) (mg : Str → Option Value) (base : Heap) (A : Around) (outer : List Env) (s : Shared) (H : Hp) : Prop where
  frames : A.frames = some outer
  mod : Mod K mg base
  bs : ∀ b o, base.get? b = some o → s.heap.get? b = some o ∧ H b = none
  bsz : base.objs.size ≤ s.heap.objs.size
  funs : s.heap.FunFrames base outer
  frf : ∀ b ∈ frs outer, H b = none
  hok : HOk P w H s.heap
  bare : AllBare s.gens
def CE (outer : List Env) (P : Program) (w : World) (H : Hp) (s : Shared) (Q : VK) (u : Value) (s' : Shared) : Prop :=
  ∃ v H', s'.os = s.os ∧ AllBare s'.gens ∧ Un (frs outer) [] H H' s.heap s'.heap ∧ HOk P w H' s'.heap ∧ RelV v u ∧ Q v H'
def CR (CX : CXT) (outer : List Env) (P : Program) (w : World) (H : Hp) (s : Shared) (Q : VK) (E : XK) (r : Result) (s' : Shared) : Prop :=
  match r with
  | .ok (.ret u) => CE outer P w H s Q u s'
  | .ok _ => False
  | .error e => CX outer H s E e s'
structure FnOk (P : Program) (w : World) (K : PySem.W.Frag) (mg : Str → Option Value) (base : Heap) (CX : CXT) (k : Nat) (f : Addr) (fd : FuncData) (ps : List Str) (sp : Sp) : Prop where
  len : ∀ vs H Q E, sp vs H Q E → vs.length = ps.length
  run : ∀ (A : Around) (outer : List Env) (s : Shared) (H : Hp) (args : Args) (us : List Value) (vs : List V) (Q : VK) (E : XK), Room k A → Env0 P w K mg base A outer s H → BindsTo s fd args (ps.zip us) → Vals vs us → sp vs H Q E →
    codeAny (model P w) A (.call (.ref f) args) (CR CX outer P w H s Q E) s
theorem FnOk.mono {P : Program} {w : World} {K : PySem.W.Frag} {mg : Str → Option Value} {base : Heap} {CX : CXT} {j k : Nat} {f : Addr} {fd : FuncData} {ps : List Str} {sp : Sp} (F : FnOk P w K mg base CX j f fd ps sp) (h : j ≤ k) :
    FnOk P w K mg base CX k f fd ps sp := ⟨F.len, fun A outer s H args us vs Q E hr => F.run A outer s H args us vs Q E (hr.mono h)⟩
theorem Env0.in1 {P : Program} {w : World} {K : PySem.W.Frag} {mg : Str → Option Value} {base : Heap} {A : Around} {outer : List Env} {s : Shared} {H : Hp} (e : Env0 P w K mg base A outer s H) :
    Env0 P w K mg base A.in1 outer s H := ⟨e.frames, e.mod, e.bs, e.bsz, e.funs, e.frf, e.hok, e.bare⟩
section
variable {X : Cx} {pins : List (Addr × Obj)} {σ : St} {H : Hp} {s s' : Shared}
theorem Inv.env0 (I : Inv X pins σ H s) : Env0 X.prog X.w X.K X.mg X.base X.A X.stack s H :=
  ⟨I.ok.frames, I.ok.mod, I.bs, Nat.le_trans I.ok.bsz I.sz, I.stack, I.stkFree, I.hok, I.bare⟩
theorem Inv.after {Q : VK} {u : Value} (I : Inv X pins σ H s) (h : CE X.stack X.prog X.w H s Q u s') : EP X pins σ Q u s' := by
  obtain ⟨v, H', os, bare, un, hok, r, q⟩ := h
  obtain ⟨hh, g, d, t, os'⟩ := s'
  obtain rfl : os' = s.os := os
  exact ⟨v, H', I.call (h' := hh) (g' := g) (d' := d) (t' := t) (ch := []) un hok bare (fun b z => absurd z (by simp)), r, q⟩
end
def tCall (sp : Sp) (dvs : List V) (E : XK) (t : TA) : TE := fun σ H Q => t σ H fun vs H1 => sp (vs ++ dvs) H1 Q E
def Binds (K : PySem.W.Frag) (fd : FuncData) (ps : List Str) (ds : List Value) : Prop :=
  ∀ (s : Shared) (us : List Value), K.In s.heap → (us ++ ds).length = ps.length → BindsTo s fd ⟨us, []⟩ (ps.zip (us ++ ds))
theorem Binds.all {K : PySem.W.Frag} {fd : FuncData} {ps : List Str} (h : ∀ us : List Value, us.length = ps.length → bindArgs fd ⟨us, []⟩ = pure (ps.zip us)) : Binds K fd ps [] := fun s us _ hl => by
  rw [List.append_nil] at hl ⊢
  exact .of_eq (h us hl)
def Passes (CX : CXT) (X : Cx) (E : XK) : Prop := ∀ (pins : List (Addr × Obj)) (σ : St) (H : Hp) (s : Shared) (e : Value) (s' : Shared), Inv X pins σ H s → CX X.stack H s E e s' → X.xe e s'
section
variable {X : Cx} {CX : CXT} {k : Nat} {f C : Addr} {fd : FuncData} {ps : List Str} {sp : Sp} {dvs : List V} {ds : List Value} {E : XK} {x m : Str} {p pos apos : Pos} {e o : Expr} {es : List Expr} {ta : TE} {t : TA}
theorem run_fn {pins : List (Addr × Obj)} {σ : St} {H : Hp} {s : Shared} {Q : VK} {us : List Value} {vs : List V} (F : FnOk X.prog X.w X.K X.mg X.base CX k f fd ps sp) (hr : Room k X.A) (hb : Binds X.K fd ps ds) (hd : Vals dvs ds) (hx : Passes CX X E)
    (I : Inv X pins σ H s) (r : Vals vs us) (h : sp (vs ++ dvs) H Q E) : wpAny (model X.prog X.w) X.A (call (.ref f) us) (EP X pins σ Q) X.xe s := by
  have r2 : Vals (vs ++ dvs) (us ++ ds) := r.append hd
  have hl : (us ++ ds).length = ps.length := by rw [← r2.length]; exact F.len _ _ _ _ h
  refine wpAny_call (codeAny_mono (F.run X.A X.stack s H ⟨us, []⟩ (us ++ ds) (vs ++ dvs) Q E hr I.env0 (hb s us I.kIn hl) r2 h) fun r s' hq => ?_)
  cases r with
  | error e => exact hx pins σ H s e s' I hq
  | ok fl =>
    cases fl with
    | ret u => exact I.after hq
    | next => exact False.elim hq
    | brk => exact False.elim hq
    | cont => exact False.elim hq
theorem pe_call (F : FnOk X.prog X.w X.K X.mg X.base CX k f fd ps sp) (hr : Room k X.A) (hg : Gl X x) (hm : X.mg x = some (.ref f)) (hk : PySem.W.keepIn X.K (.ref f) = true) (hb : Binds X.K fd ps ds) (hd : Vals dvs ds) (hx : Passes CX X E)
    (ha : PA X (e :: es) t) (hdb : (x == ("__debug__" : Str)) = false := by decide) (he : starEach (e :: es) X.env = (false, eval e X.env) :: starEach es X.env := by rfl) (hpl : (backTo pos (starEach es X.env)).any (·.1) = false := by rfl) :
    PE X (.Call (.Name x p) (e :: es) [] pos) (tCall sp dvs E t) := by
  intro pins s σ H Q I h
  refine wpAny_Call_Name_kw (ld_glob I hg hm ?_ hdb)
  refine PySem.W.callWith_K (h₀ := X.base) I.ok.mod.kin hk (thn (ha pos pins s σ H _ I h) fun us s1 ⟨vs, H1, I1, r, q⟩ => ⟨I1.kIn, ?_⟩) he hpl
  exact run_fn F hr hb hd hx I1 r q
structure Mk (K : PySem.W.Frag) (C f : Addr) : Prop where
  makes : PySem.W.makesIn K C = true
  init : PySem.W.findIn K (.ref C) "__init__" = some (some (.ref f))
  fn : PySem.W.isFn K (.ref f) = true
  kp : PySem.W.keepIn K (.ref C) = true
end
section
variable {X : Cx} {CX : CXT} {k : Nat} {f C : Addr} {fd : FuncData} {ps ks : List Str} {sp : Sp} {E : XK} {x m : Str} {p pos apos kpos : Pos} {e o : Expr} {es : List Expr} {kws : List Keyword} {te ta : TE} {t tk : TA} {nm : Option Str}
structure KBinds (K : PySem.W.Frag) (fd : FuncData) (ps ks : List Str) (g : List Value → List Value → List Value) (gV : List V → List V → List V) : Prop where
  to : ∀ (s : Shared) (us ws : List Value), K.In s.heap → (g us ws).length = ps.length → BindsTo s fd ⟨us, ks.zip ws⟩ (ps.zip (g us ws))
  rel : ∀ {vs : List V} {us : List Value} {zs : List V} {ws : List Value}, Vals vs us → Vals zs ws → Vals (gV vs zs) (g us ws)
variable {g : List Value → List Value → List Value} {gV : List V → List V → List V}
end
structure FnScope (N P : List Str) (sc : Scope) : Prop where
  kind : sc.kind = .function
  co : sc.isCoroutine = false
  gen : sc.isGenerator = false
  nd : N.Nodup
  pre : N.take P.length = P
  par : ∀ x ∈ P, sc.names.lookup x = some .local ∨ sc.names.lookup x = some .cell
  nofree : ∀ y ∈ sc.names, y.2 ≠ .free
theorem bindL_out {kindOf : Str → Option NameKind} {x : Str} : ∀ {binds : List (Str × Value)} {m : Str → Option Value}, (∀ v, (x, v) ∉ binds) → bindL kindOf binds m x = m x
  | [], _, _ => rfl
  | (n, v) :: r, m, h => by
    unfold bindL
    rw [bindL_out fun w hw => h w (List.mem_cons_of_mem _ hw)]
    split
    · have : x ≠ n := by rintro rfl; exact h v List.mem_cons_self
      simp [this]
    · rfl
theorem bindC_out {kindOf : Str → Option NameKind} {x : Str} : ∀ {binds : List (Str × Value)} {m : Str → Option Value}, (∀ v, (x, v) ∉ binds) → bindC kindOf binds m x = m x
  | [], _, _ => rfl
  | (n, v) :: r, m, h => by
    unfold bindC
    rw [bindC_out fun w hw => h w (List.mem_cons_of_mem _ hw)]
    split
    · rfl
    · have : x ≠ n := by rintro rfl; exact h v List.mem_cons_self
      simp [this]
theorem bindL_get {kindOf : Str → Option NameKind} {x : Str} {v : Value} : ∀ {P : List Str} {vs : List Value} {i : Nat} {m : Str → Option Value}, P.Nodup → P[i]? = some x → vs[i]? = some v → kindOf x = some .local →
    bindL kindOf (P.zip vs) m x = some v
  | [], _, _, _, _, h, _, _ => by simp at h
  | _ :: _, [], _, _, _, _, h, _ => by simp at h
  | p :: P, w :: vs, 0, m, nd, h1, h2, hk => by
    simp at h1 h2; subst h1; subst h2
    show bindL kindOf ((p, w) :: P.zip vs) m p = _
    unfold bindL
    rw [bindL_out fun v hv => (List.nodup_cons.mp nd).1 (List.of_mem_zip hv).1, if_pos hk]
    simp
  | p :: P, w :: vs, i + 1, m, nd, h1, h2, hk => by
    show bindL kindOf ((p, w) :: P.zip vs) m x = _
    unfold bindL
    exact bindL_get (i := i) (List.nodup_cons.mp nd).2 (by simpa using h1) (by simpa using h2) hk
theorem bindC_get {kindOf : Str → Option NameKind} {x : Str} {v : Value} : ∀ {P : List Str} {vs : List Value} {i : Nat} {m : Str → Option Value}, P.Nodup → P[i]? = some x → vs[i]? = some v → kindOf x ≠ some .local →
    bindC kindOf (P.zip vs) m x = some v
  | [], _, _, _, _, h, _, _ => by simp at h
  | _ :: _, [], _, _, _, _, h, _ => by simp at h
  | p :: P, w :: vs, 0, m, nd, h1, h2, hk => by
    simp at h1 h2; subst h1; subst h2
    show bindC kindOf ((p, w) :: P.zip vs) m p = _
    unfold bindC
    rw [bindC_out fun v hv => (List.nodup_cons.mp nd).1 (List.of_mem_zip hv).1, if_neg hk]
    simp
  | p :: P, w :: vs, i + 1, m, nd, h1, h2, hk => by
    show bindC kindOf ((p, w) :: P.zip vs) m x = _
    unfold bindC
    exact bindC_get (i := i) (List.nodup_cons.mp nd).2 (by simpa using h1) (by simpa using h2) hk
def start (N : List Str) (vs : List V) : St := vs.map some ++ List.replicate (N.length - vs.length) none
def cxOf (CX : CXT) (P : Program) (w : World) (K : PySem.W.Frag) (mg : Str → Option Value) (base : Heap) (N : List Str) (qual : Str) (scope : Scope) (f : Addr) (cd : Value) (A : Around) (outer : List Env) (s : Shared) (H : Hp) (E : XK) : Cx where
  prog := P
  w := w
  K := K
  mg := mg
  base := base
  A := A.deeper (envOfC qual scope s.heap.objs.size f cd)
  N := N
  s₀ := s
  H₀ := H
  env := envOfC qual scope s.heap.objs.size f cd
  outer := outer
  stack := envOfC qual scope s.heap.objs.size f cd :: outer
  ex := []
  calm := true
  fn := fun _ => true
  pn := []
  xe := fun e s' => wpAny (model P w) (A.deeper (envOfC qual scope s.heap.objs.size f cd)) (leaving (envOfC qual scope s.heap.objs.size f cd) e) (fun _ s'' => CX outer H s E e s'') (fun e' s'' => CX outer H s E e' s'') s'
theorem cell_has {sc : Scope} {n : Nat} {x : Str} (h : sc.names.lookup x = some .cell) : ∃ c, (cellsFrom n sc.names []).lookup x = some c := by
  have q := PySem.W.cellsFrom_some sc.names n [] (.inl h)
  exact Option.isSome_iff_exists.mp q
theorem inv_start {CX : CXT} {P : Program} {w : World} {K : PySem.W.Frag} {mg : Str → Option Value} {base : Heap} {N ps : List Str} {qual : Str} {scope : Scope} {f : Addr} {cd : Value} {A : Around} {outer : List Env} {s s1 : Shared} {H : Hp} {E : XK} {us : List Value} {vs : List V}
    (S : FnScope N ps scope) (hd : A.handled = none) (e0 : Env0 P w K mg base A outer s H) (hl : vs.length = ps.length) (r : Vals vs us)
    (x : InCallC s s.heap.objs.size (bindL (envOfC qual scope s.heap.objs.size f cd).kindOf (ps.zip us) fun _ => none) (cellsFrom (s.heap.objs.size + 1) scope.names []) (bindC (envOfC qual scope s.heap.objs.size f cd).kindOf (ps.zip us) fun _ => none) s1) :
    Inv (cxOf CX P w K mg base N qual scope f cd A outer s H E) [] (start N vs) H s1 := by
  have hpl : ps.length ≤ N.length := by have := congrArg List.length S.pre; rw [List.length_take] at this; omega
  obtain ⟨h1, tk, rfl, hk⟩ := x.done
  have noA : ∀ b : Addr, b ∉ (cxOf CX P w K mg base N qual scope f cd A outer s H E).ex := fun b z => absurd (show b ∈ ([] : List Addr) from z) (by simp)
  refine ⟨⟨e0.mod, S.kind, rfl, rfl, Nat.le_refl _, fun y z c h1 h2 => ?_, fun y hy => ?_, fun y c _ h => ?_, fun _ => hd, Around.frames_deeper e0.frames, .inr ⟨rfl, rfl⟩, fun b z => absurd z (noA b), e0.bs, e0.bsz, fun b _ _ => noA b, fun b z => absurd z (noA b), e0.funs, e0.frf⟩,
    rfl, e0.bare, Un.kept hk, ⟨_, x.toInCall.ns, fun i y v h1 h2 h3 => ?_⟩, fun y c h => ⟨_, x.cell y c h⟩, e0.hok.fresh (Nat.le_refl _), fun y c h => ?_, fun p hp => absurd (show p ∈ ([] : List (Addr × Obj)) from hp) (by simp), e0.hok.kept hk, ?_⟩
  · exact name_of_addr x.apart (PySem.mem_of_lookup h1) (PySem.mem_of_lookup h2)
  · have hy : scope.names.lookup y = some .cell ∨ scope.names.lookup y = some .free := hy
    rcases hy with hy | hy
    · exact cell_has hy
    · exact absurd rfl (S.nofree _ (PySem.mem_of_lookup hy))
  · exact Nat.le_of_lt (x.above y c (PySem.mem_of_lookup h))
  · have hi : i < vs.length := by
      unfold start at h2
      by_cases hi : i < vs.length
      · exact hi
      · rw [List.getElem?_append_right (by simpa using hi)] at h2
        rw [List.getElem?_replicate] at h2
        split at h2 <;> cases h2
    have ha : vs[i]? = some v := by
      unfold start at h2
      rw [List.getElem?_append_left (by simpa using hi), List.getElem?_map] at h2
      cases e : vs[i]? with
      | none => rw [e] at h2; cases h2
      | some a => rw [e] at h2; cases h2; rfl
    obtain ⟨u, hu, rv⟩ := r.get ha
    have hp : ps[i]? = some y := by
      rw [← S.pre, List.getElem?_take_of_lt (by omega)]; exact h1
    have ndP : ps.Nodup := by rw [← S.pre]; exact S.nd.sublist (List.take_sublist _ _)
    refine ⟨u, rv, ?_⟩
    rcases S.par y (List.mem_of_getElem? hp) with k | k
    · exact .inl ⟨k, bindL_get ndP hp hu k⟩
    · obtain ⟨c, e⟩ := cell_has (n := s.heap.objs.size + 1) k
      refine .inr ⟨.inl k, c, e, ?_⟩
      have q := x.cell y c e
      rw [bindC_get ndP hp hu (by show scope.names.lookup y ≠ _; rw [k]; decide)] at q
      exact q
  · exact e0.hok.fresh (Nat.le_of_lt (x.above y c (PySem.mem_of_lookup h)))
  · unfold start
    show _ = N.length
    rw [List.length_append, List.length_map, List.length_replicate]
    omega
theorem fn_of {CX : CXT} {P : Program} {w : World} {K : PySem.W.Frag} {mg : Str → Option Value} {base : Heap} {k : Nat} {f : Addr} {name qual : Str} {params : Arguments} {body : List Stmt} {scope : Scope} {dV kV doc pm cdv ct oc : Value} {an od : Option Addr}
    {osl : Array (Option Value)} {N ps : List Str} {sp : Sp} (lk : K.lookup f = some ⟨oc, od, .func (PySem.W.fnOf name qual params body scope dV kV doc pm an cdv ct), osl⟩) (hcd : PySem.W.codeIn K cdv qual = true) (S : FnScope N ps scope)
    (len : ∀ vs H Q E, sp vs H Q E → vs.length = ps.length)
    (hbody : ∀ (A : Around) (outer : List Env) (s : Shared) (H : Hp) (vs : List V) (Q : VK) (E : XK), Room k (A.deeper (envOfC qual scope s.heap.objs.size f cdv)) → sp vs H Q E →
      ∃ t, PSs (cxOf CX P w K mg base N qual scope f cdv A outer s H E) body t ∧ t { nx := fun _ H' => Q .non H', rt := Q } (start N vs) H) :
    FnOk P w K mg base CX (k + 1) f (PySem.W.fnOf name qual params body scope dV kV doc pm an cdv ct) ps sp := by
  refine ⟨len, fun A outer s H args us vs Q E hr e0 hb r hsp => ?_⟩
  have hl := len _ _ _ _ hsp
  have KX : K.In s.heap := e0.mod.kin.keeps fun b o e => (e0.bs b o e).1
  have lim : s.heap.NoLimit := e0.mod.nolimit.keeps fun b o e => (e0.bs b o e).1
  have hkind : ∀ y ∈ ps.zip us, scope.names.lookup y.1 = some .local ∨ (scope.names.lookup y.1 = some .cell ∧ ((cellsFrom (s.heap.objs.size + 1) scope.names []).lookup y.1).isSome = true) := fun ⟨n, v⟩ hy => by
    rcases S.par n (List.of_mem_zip hy).1 with q | q
    · exact .inl q
    · exact .inr ⟨q, PySem.W.cellsFrom_some _ _ _ (.inl q)⟩
  refine codeAny_call_function hr.depth (KX _ _ lk) rfl S.co S.gen rfl (PySem.W.codeRec_of KX hcd) (hb _ _ _ _ ?_)
  refine wpAny_newFunctionEnv_cells S.kind hkind fun env he s1 x => ?_
  subst he
  refine ⟨lim.keeps x.toInCall.keep, codeAny_func ?_⟩
  obtain ⟨t, ht, hq⟩ := hbody A outer s H vs Q E (hr.deeper _) hsp
  have I : Inv (cxOf CX P w K mg base N qual scope f cdv A outer s H E) [] (start N vs) H s1 := inv_start S hr.hd e0 hl r x
  refine wpAny_mono (ht [] s1 (start N vs) H _ I hq) (fun fl s' hs => ?_) fun e s' hs => hs
  have fin : ∀ {σ' : St} {H' : Hp} {v : V} {u : Value}, Inv (cxOf CX P w K mg base N qual scope f cdv A outer s H E) [] σ' H' s' → RelV v u → Q v H' → CE outer P w H s Q u s' :=
    fun {σ' H' v u} J rv q => ⟨v, H', J.os, J.bare, J.base, J.hok, rv, q⟩
  cases fl with
  | ret u =>
    obtain ⟨v, σ', H', J, rv, q⟩ := hs
    exact fin J rv q
  | next =>
    obtain ⟨σ', H', J, q⟩ := hs
    exact fin (v := V.non) (u := Value.none) J rfl q
  | brk =>
    obtain ⟨_, _, _, q⟩ := hs
    exact False.elim q
  | cont =>
    obtain ⟨_, _, _, q⟩ := hs
    exact False.elim q
end L2
namespace L2
open PySem PySem.Spec PyProof.Rows
section
variable {X : Cx} {x : Str} {p pos : Pos} {e : Expr} {es : List Expr} {t : TA} {id T : String} {r : List V → Hp → VK → Prop}
def tCB (r : List V → Hp → VK → Prop) (t : TA) : TE := fun σ H Q => t σ H fun vs H1 => r vs H1 Q
theorem pe_callB (hc : CallR X (.builtin id) r) (hg : Gl X x) (hm : X.mg x = none) (hv : bootBuiltins x = some (.builtin id)) (ha : PA X (e :: es) t) (hn : x ≠ "__name__" := by decide) (hdb : (x == ("__debug__" : Str)) = false := by decide)
    (he : starEach (e :: es) X.env = (false, eval e X.env) :: starEach es X.env := by rfl) (hpl : (backTo pos (starEach es X.env)).any (·.1) = false := by rfl) : PE X (.Call (.Name x p) (e :: es) [] pos) (tCB r t) := by
  intro pins s σ H Q I h
  refine wpAny_Call_Name_kw (ld_blt I hg hm hv ?_ hn hdb)
  exact PyProof.Rows.callWith_builtin1 (thn (ha pos pins s σ H _ I h) fun us s1 ⟨vs, H1, I1, r1, q1⟩ => hc pins s1 σ H1 vs us Q I1 r1 q1) he hpl
theorem pe_callTy (hc : CallR X (.type T) r) (hg : Gl X x) (hm : X.mg x = none) (hv : bootBuiltins x = some (.type T)) (ha : PA X (e :: es) t) (hn : x ≠ "__name__" := by decide) (hdb : (x == ("__debug__" : Str)) = false := by decide)
    (he : starEach (e :: es) X.env = (false, eval e X.env) :: starEach es X.env := by rfl) (hpl : (backTo pos (starEach es X.env)).any (·.1) = false := by rfl) : PE X (.Call (.Name x p) (e :: es) [] pos) (tCB r t) := by
  intro pins s σ H Q I h
  refine wpAny_Call_Name_kw (ld_blt I hg hm hv ?_ hn hdb)
  exact PyProof.Rows.callWith_type1 (thn (ha pos pins s σ H _ I h) fun us s1 ⟨vs, H1, I1, r1, q1⟩ => hc pins s1 σ H1 vs us Q I1 r1 q1) he hpl
end
end L2
namespace HT
open PySem PyProof.Rows
section
open PySem.SeqAt
open PySem.AutoSeq1 (wpAny_loadPart')
open PySem.MeetsSeq PySem.MeetsSeq2 PySem.MeetsSeq3
end
section
variable {prog : Program} {w : World} {A : Around} {E : Value → Shared → Prop} {s : Shared}
theorem cat_tup {t b : Addr} {vs ws : List Value} {Q : Value → Shared → Prop} (ht : IsTup s.heap t vs.toArray) (hb : IsTup s.heap b ws.toArray) (hv : vs ≠ [])
    (h1 : ws = [] → Q (.ref t) s) (h2 : ws ≠ [] → Q (.ref s.heap.objs.size) { s with heap := s.heap.push { cls := .type "tuple", data := .seq (vs ++ ws).toArray } })
    (hsz : vs.length + ws.length ≤ sizeLine) : wpAny (model prog w) A (binaryOp .Add (.ref t) (.ref b)) Q E s := by
  obtain ⟨⟨cls, dd, data, sl⟩, ho, hc, n, hd⟩ := id ht
  obtain ⟨⟨cls2, dd2, data2, sl2⟩, ho2, hc2, n2, hd2⟩ := id hb
  simp only at hc hd hc2 hd2
  subst hc hd hc2 hd2
  have e : vs.toArray ++ ws.toArray = (vs ++ ws).toArray := by simp
  by_cases hw : ws = []
  · exact concat_meets ⟨_, ho, rfl⟩ ⟨_, ho2, rfl⟩ noFill_tuple_add seq_tuple_add PySem.F.slot_tuple_add PySem.F.entry_tuple_add (PySem.F.args_tuple_add_2 _ _)
      (tuple_addW1 t b vs.toArray ws.toArray n n2 dd dd2 sl sl2 (by simpa using hv) (by simp [hw])) ⟨ho, ho2, h1 hw⟩
  · refine concat_meets ⟨_, ho, rfl⟩ ⟨_, ho2, rfl⟩ noFill_tuple_add seq_tuple_add PySem.F.slot_tuple_add PySem.F.entry_tuple_add (PySem.F.args_tuple_add_2 _ _)
      (tuple_addW2 t b vs.toArray ws.toArray n n2 dd dd2 sl sl2 (by simpa using hv) (by simpa using hw) (by rw [List.size_toArray, List.size_toArray]; exact hsz)) ⟨ho, ho2, ?_⟩
    rw [e]
    exact h2 hw
def sIx (n d : Nat) : Option Int → Nat
  | none => d
  | some v => if v < 0 then (v + (n : Int)).toNat else min v.toNat n
theorem sIx_none (n d : Nat) : sIx n d none = d := rfl
theorem sIx_nat (n d k : Nat) : sIx n d (some (k : Int)) = min k n := by
  show (if (k : Int) < 0 then ((k : Int) + (n : Int)).toNat else min (k : Int).toNat n) = min k n
  rw [if_neg (by omega), Int.toNat_natCast]
theorem sIx_le (n d : Nat) (hd : d ≤ n) (o : Option Int) : sIx n d o ≤ n := by
  cases o with
  | none => exact hd
  | some v =>
    show (if v < 0 then (v + (n : Int)).toNat else min v.toNat n) ≤ n
    by_cases hv : v < 0
    · rw [if_pos hv]; omega
    · rw [if_neg hv]; exact Nat.min_le_right _ _
theorem clip_eq (v : Int) (n d : Nat) : (if v < 0 then max (v + (n : Int)) 0 else min v (n : Int)) = ((sIx n d (some v) : Nat) : Int) := by
  show (if v < 0 then max (v + (n : Int)) 0 else min v (n : Int)) = (((if v < 0 then (v + (n : Int)).toNat else min v.toNat n) : Nat) : Int)
  by_cases hv : v < 0
  · simp only [if_pos hv]; omega
  · simp only [if_neg hv]; omega
theorem adjust_gen (lo hi : Option Int) (n : Nat) : Builtin.Slice.sliceAdjust lo hi 1 (n : Int) = (((sIx n 0 lo : Nat) : Int), ((sIx n n hi : Nat) : Int)) := by
  have h1 : ¬ ((1 : Int) < 0) := by omega
  unfold Builtin.Slice.sliceAdjust
  simp only [h1, if_false]
  refine Prod.ext ?_ ?_
  · cases lo with
    | none => rfl
    | some v => exact clip_eq v n 0
  · cases hi with
    | none => rfl
    | some v => exact clip_eq v n n
theorem places_gen (i j : Nat) : Builtin.Slice.slicePlaces (i : Int) (j : Int) 1 = j - i := by
  unfold Builtin.Slice.slicePlaces
  have h1 : (1 : Int) > 0 := by omega
  simp only [h1, if_true, Int.ediv_one]
  split <;> omega
theorem slicePart_ {v : Value} {o : Option Int} {Q : Option Int → Shared → Prop} (p : IsPart v o) (h : Q o s) : wpAny (model prog w) A (Builtin.Slice.slicePartIndex v) Q E s := by
  cases p with
  | none => exact slicePart_none h
  | int i t => exact slicePart_int h
theorem sliceApplied_gen {sl : Addr} {vl vu : Value} {lo hi : Option Int} {n : Nat} {Q : Int × Int × Nat → Shared → Prop} (hs : s.heap.IsSliceOf sl vl vu .none) (pl : IsPart vl lo) (pu : IsPart vu hi)
    (h : Q (((sIx n 0 lo : Nat) : Int), 1, sIx n n hi - sIx n 0 lo) s) : wpAny (model prog w) A (Builtin.Slice.sliceApplied (.ref sl) (pure (n : Int))) Q E s := by
  obtain ⟨os, hos, hcs, hds⟩ := id hs
  unfold Builtin.Slice.sliceApplied Builtin.Slice.sliceFields
  refine wpAny_bind (wpAny_bind (wpAny_field hos hds (x := vl) rfl (wpAny_bind (wpAny_field hos hds (x := vu) rfl (wpAny_bind (wpAny_field hos hds (x := .none) rfl (wpAny_pure ?_)))))))
  refine wpAny_bind (slicePart_none ?_)
  show wpAny _ _ (if ((1 : Int) == 0) = true then _ else _) _ _ s
  rw [if_neg (by decide)]
  refine wpAny_bind (slicePart_ pl (wpAny_bind (slicePart_ pu (wpAny_bind (wpAny_pure ?_)))))
  show wpAny _ _ (match Builtin.Slice.sliceAdjust lo hi 1 (n : Int) with | (lo, hi) => pure (lo, (1 : Int), Builtin.Slice.slicePlaces lo hi 1)) _ _ s
  rw [adjust_gen lo hi n]
  show wpAny _ _ (pure (((sIx n 0 lo : Nat) : Int), (1 : Int), Builtin.Slice.slicePlaces ((sIx n 0 lo : Nat) : Int) ((sIx n n hi : Nat) : Int) 1)) _ _ s
  rw [places_gen]
  exact wpAny_pure h
theorem pick_gen (xs : Array Value) (i k : Nat) : ((List.range k).filterMap fun (m : Nat) => xs[((i : Int) + (m : Int) * 1).toNat]?).toArray = ((xs.toList.drop i).take k).toArray := by
  have e : (fun (m : Nat) => xs[((i : Int) + (m : Int) * 1).toNat]?) = fun m => xs[i + m]? := by
    funext m
    have : ((i : Int) + (m : Int) * 1).toNat = i + m := by omega
    rw [this]
  rw [e]
  have := pick_run xs i k
  rw [List.filterMap_map] at this
  have e2 : ((fun x => xs[x]?) ∘ fun x => i + x) = fun m => xs[i + m]? := rfl
  rw [e2] at this
  rw [this]
theorem getItem_tuple_cut {t sl : Addr} {items : Array Value} {vl vu : Value} {lo hi : Option Int} {Q : Value → Shared → Prop} (ht : IsTup s.heap t items) (hs : s.heap.IsSliceOf sl vl vu .none) (pl : IsPart vl lo) (pu : IsPart vu hi)
    (hw : ¬ (sIx items.size 0 lo = 0 ∧ sIx items.size items.size hi = items.size))
    (h : Q (.ref s.heap.objs.size) { s with heap := s.heap.push { cls := .type "tuple", data := .seq ((items.toList.drop (sIx items.size 0 lo)).take (sIx items.size items.size hi - sIx items.size 0 lo)).toArray } })
    (hsz : items.size ≤ sizeLine) : wpAny (model prog w) A (getItem (.ref t) (.ref sl)) Q E s := by
  have htake : sizeOk (.seq ((items.toList.drop (sIx items.size 0 lo)).take (sIx items.size items.size hi - sIx items.size 0 lo)).toArray) := by
    show ((items.toList.drop (sIx items.size 0 lo)).take (sIx items.size items.size hi - sIx items.size 0 lo)).toArray.size ≤ sizeLine
    rw [List.size_toArray, List.length_take, List.length_drop, Array.length_toList]
    omega
  have hj : sIx items.size items.size hi ≤ items.size := sIx_le _ _ (Nat.le_refl _) hi
  obtain ⟨os, hos, hcs, hds⟩ := id hs
  have hTs : s.TypeIs (.ref sl) "slice" := ⟨os, hos, hcs⟩
  unfold getItem
  try with_reducible refine wpAny_holding ?_
  first | refine wpAny_bind (wpAny_pure ?_) | skip
  refine wpAny_bind (wpAny_sequenceKey ht.typeIs (by decide) ?_)
  refine wpAny_bind (wpAny_callSpecial?_slot (name := Str.ofString "__getitem__") ht.typeIs PyProof.Rows.slot_tuple_getitem
    (wpAny_call_entry PyProof.Rows.slot_tuple_getitem ht.typeIs entry_tuple_getitem ?_ (args_tuple_getitem _ _)))
  show wpAny _ _ (Builtin.Tuple.tupleItemsOf (.ref t) >>= _) _ _ s
  refine wpAny_bind (tupleItemsOf_ ht ?_)
  refine wpAny_bind (wpAny_typeOf hTs ?_)
  rw [if_pos (by decide)]
  refine wpAny_bind (sliceApplied_gen hs pl pu ?_)
  have hno : ¬ ((((sIx items.size 0 lo : Nat) : Int) == 0 && (1 : Int) == 1 && (sIx items.size items.size hi - sIx items.size 0 lo) == items.size) = true) := by
    intro q
    rw [Bool.and_eq_true, Bool.and_eq_true] at q
    have q1 : ((sIx items.size 0 lo : Nat) : Int) = 0 := eq_of_beq q.1.1
    have q2 : sIx items.size items.size hi - sIx items.size 0 lo = items.size := eq_of_beq q.2
    exact hw ⟨by omega, by omega⟩
  show wpAny _ _ (if (((sIx items.size 0 lo : Nat) : Int) == 0 && (1 : Int) == 1 && (sIx items.size items.size hi - sIx items.size 0 lo) == items.size) = true then _ else _) _ _ s
  rw [if_neg hno, pick_gen]
  first
    | exact wpAny_bind (m := Builtin.Tuple.tupleExact _) (wpAny_newObj_type (wpAny_pure ⟨_, rfl, wpAny_pure h⟩) htake)
    | exact wpAny_bind (m := Builtin.Tuple.tupleExact _) (wpAny_newObj_type (wpAny_bind (wpAny_pure (wpAny_pure ⟨_, rfl, wpAny_pure h⟩))) htake)
    | exact wpAny_bind (wpAny_bind (m := Builtin.Tuple.tupleExact _) (wpAny_newObj_type (wpAny_pure (wpAny_pure ⟨_, rfl, wpAny_pure h⟩)) htake))
    | exact wpAny_bind (wpAny_bind (m := Builtin.Tuple.tupleExact _) (wpAny_newObj_type (wpAny_pure ⟨_, rfl, wpAny_pure h⟩) htake))
end
end HT
namespace L2
open PySem PySem.Spec PyProof.Rows
abbrev TO := St → Hp → (Option Int → Hp → Prop) → Prop
def PO (X : Cx) (e : Option Expr) (t : TO) : Prop :=
  ∀ (pins : List (Addr × Obj)) (s : Shared) (σ : St) (H : Hp) (Q : Option Int → Hp → Prop), Inv X pins σ H s → t σ H Q →
    wpAny (model X.prog X.w) X.A (evalPart e X.env) (fun u s' => ∃ o H', Inv X pins σ H' s' ∧ IsPart u o ∧ Q o H') X.xe s
def tNoPart : TO := fun _ H Q => Q none H
def tPart (t : TE) : TO := fun σ H Q => t σ H fun x H1 => ∃ i, x = .int i ∧ Q (some i) H1
theorem intsAre_of {ns : List Int} : ∀ {us : List Value}, Vals (ns.map V.int) us → IntsAre us ns := by
  induction ns with
  | nil => intro us r; rw [List.map_nil] at r; cases r; exact .nil
  | cons n ns ih =>
    intro us r
    rw [List.map_cons] at r
    cases r with
    | cons r1 r2 =>
      obtain ⟨t, e⟩ := r1
      subst e
      exact .cons n t (ih r2)
section
variable {X : Cx} {e : Expr} {te : TE} {lo hi : Option Expr} {tl th : TO} {pos p2 : Pos}
theorem po_none : PO X none tNoPart := by
  intro pins s σ H Q I h
  rw [evalPart_none]
  exact wpAny_pure ⟨none, H, I, .none, h⟩
theorem po_some (h : PE X e te) : PO X (some e) (tPart te) := by
  intro pins s σ H Q I hw
  rw [evalPart_some]
  refine thn (h pins s σ H _ I hw) fun u s1 ⟨x, H1, I1, r1, q1⟩ => ?_
  obtain ⟨i, rfl, q⟩ := q1
  obtain ⟨t, rfl⟩ := r1
  exact ⟨some i, H1, I1, .int i t, q⟩
def SlR (X : Cx) (r : V → Option Int → Option Int → Hp → VK → Prop) : Prop :=
  ∀ (pins : List (Addr × Obj)) (s : Shared) (σ : St) (H : Hp) (x : V) (v vl vu : Value) (lo hi : Option Int) (sl : Addr) (Q : VK), Inv X pins σ H s → RelV x v → s.heap.IsSliceOf sl vl vu .none → IsPart vl lo → IsPart vu hi → r x lo hi H Q →
    ∃ T id, typeLookup (.type T) "__getitem__" = pure (some (.builtin id)) ∧ s.TypeIs v T ∧ wpAny (model X.prog X.w) X.A (getItem v (.ref sl)) (EP X pins σ Q) X.xe s
theorem SlR.or {r r' : V → Option Int → Option Int → Hp → VK → Prop} (h : SlR X r) (h' : SlR X r') : SlR X (fun x lo hi H Q => r x lo hi H Q ∨ r' x lo hi H Q) := by
  intro pins s σ H x v vl vu lo hi sl Q I rx hs pl pu q
  rcases q with q | q
  · exact h pins s σ H x v vl vu lo hi sl Q I rx hs pl pu q
  · exact h' pins s σ H x v vl vu lo hi sl Q I rx hs pl pu q
def tSl (r : V → Option Int → Option Int → Hp → VK → Prop) (te : TE) (tl th : TO) : TE := fun σ H Q => te σ H fun x H1 => tl σ H1 fun l H2 => th σ H2 fun u H3 => r x l u H3 Q
theorem pe_slice {r : V → Option Int → Option Int → Hp → VK → Prop} (hr : SlR X r) (he : PE X e te) (hl : PO X lo tl) (hu : PO X hi th) : PE X (.Subscript e (.Slice lo hi none p2) pos) (tSl r te tl th) := by
  intro pins s σ H Q I h
  refine Subscript_ (thn (he pins s σ H _ I h) fun v s1 ⟨x, H1, I1, r1, q1⟩ => ?_)
  refine wpAny_Slice (thn (hl pins s1 σ H1 _ I1 q1) fun vl s2 ⟨l, H2, I2, pl, q2⟩ => thn (hu pins s2 σ H2 _ I2 q2) fun vu s3 ⟨u, H3, I3, pu, q3⟩ => ?_)
  rw [evalPart_none]
  refine wpAny_pure ?_
  have I4 : Inv X pins σ H3 { s3 with heap := s3.heap.push { cls := .type "slice", data := .fields #[vl, vu, .none] } } := I3.kept (t' := s3.toks) fun b ob q => Heap.get?_push_of_some _ q
  obtain ⟨T, id, hT, ht, hg⟩ := hr pins { s3 with heap := s3.heap.push { cls := .type "slice", data := .fields #[vl, vu, .none] } } σ H3 x v vl vu l u s3.heap.objs.size Q I4 r1 (Heap.IsSliceOf.new ..) pl pu q3
  show wpAny (model X.prog X.w) X.A (subscriptTail e (.Slice lo hi none p2) v (.ref s3.heap.objs.size)) (EP X pins σ Q) X.xe { s3 with heap := s3.heap.push { cls := .type "slice", data := .fields #[vl, vu, .none] } }
  exact tail_any (ops := [.ref s3.heap.objs.size, v]) ht hT hg (by with_unfolding_all rfl)
def cutV (xs : List V) (lo hi : Option Int) : List V := (xs.drop (HT.sIx xs.length 0 lo)).take (HT.sIx xs.length xs.length hi - HT.sIx xs.length 0 lo)
theorem cutV_length (xs : List V) (lo hi : Option Int) : (cutV xs lo hi).length ≤ xs.length := by
  unfold cutV
  rw [List.length_take, List.length_drop]
  omega
def rSlT (K : PySem.W.Frag) : V → Option Int → Option Int → Hp → VK → Prop := fun x lo hi H Q => ∃ a xs, x = .ref a ∧ SqT K H a xs ∧
  ¬ (HT.sIx xs.length 0 lo = 0 ∧ HT.sIx xs.length xs.length hi = xs.length) ∧ ∀ p, H p = none → Q (.ref p) (upd H p (.tup (cutV xs lo hi)))
theorem sl_tup : SlR X (rSlT X.K) := by
  intro pins s σ H x v vl vu lo hi sl Q I rx hs pl pu h
  obtain ⟨a, xs, rfl, hx, hw, q⟩ := h
  cases rx
  obtain ⟨its, r, ht, hz⟩ := I.tuple hx
  have hlen : its.toArray.size = xs.length := by rw [List.size_toArray]; exact r.length.symm
  refine ⟨"tuple", _, PyProof.Rows.slot_tuple_getitem.lookup, ht.typeIs, ?_⟩
  refine HT.getItem_tuple_cut ht hs pl pu (by rw [hlen]; exact hw) ?_ (by rw [hlen]; exact hz)
  rw [hlen]
  refine ⟨.ref s.heap.objs.size, _, I.laid (t' := s.toks) (o := .tup (cutV xs lo hi)) (fun b ob q => Heap.get?_push_of_some _ q) (Nat.le_refl _) ?_, rfl, q _ (I.hok.fresh (Nat.le_refl _))⟩
  exact ⟨Nat.le_trans (cutV_length xs lo hi) hz, _, (r.drop (HT.sIx xs.length 0 lo)).take (HT.sIx xs.length xs.length hi - HT.sIx xs.length 0 lo), IsTup.new _ _⟩
def rCatT (K : PySem.W.Frag) : R2 := fun x y H Q => ∃ a b xs ys, x = .ref a ∧ y = .ref b ∧ SqT K H a xs ∧ SqT K H b ys ∧ xs ≠ [] ∧ xs.length + ys.length ≤ sizeLine ∧
  (ys = [] → Q (.ref a) H) ∧ (ys ≠ [] → ∀ p, H p = none → Q (.ref p) (upd H p (.tup (xs ++ ys))))
theorem Vals.nil_iff {xs : List V} {us : List Value} (r : Vals xs us) : us = [] ↔ xs = [] := by
  cases r with
  | nil => simp
  | cons _ _ => simp
theorem op_catT : OpR X (binaryOp .Add) (rCatT X.K) := by
  intro pins s σ H x y v u Q I rx ry h
  obtain ⟨a, b, xs, ys, rfl, rfl, ha, hb, hx, hz, q1, q2⟩ := h
  cases rx
  cases ry
  obtain ⟨its, r1, p1, _⟩ := I.tuple ha
  obtain ⟨its2, r2, p2, _⟩ := I.tuple hb
  refine HT.cat_tup p1 p2 (fun z => hx (r1.nil_iff.mp z)) (fun z => ⟨.ref a, H, I, rfl, q1 (r2.nil_iff.mp z)⟩) (fun z => ?_) (by rw [← r1.length, ← r2.length]; exact hz)
  refine ⟨.ref s.heap.objs.size, _, I.laid (t' := s.toks) (o := .tup (xs ++ ys)) (fun b ob q => Heap.get?_push_of_some _ q) (Nat.le_refl _) ?_, rfl, q2 (fun w => z (r2.nil_iff.mpr w)) _ (I.hok.fresh (Nat.le_refl _))⟩
  exact ⟨by rw [List.length_append]; exact hz, _, r1.append r2, IsTup.new _ _⟩
end
end L2
namespace L2
open PySem PySem.Spec PyProof.Rows
def ixN (n : Nat) (i : Int) : Option Nat := if 0 ≤ i then (if i < n then some i.toNat else none) else if -(n : Int) ≤ i then some (i + n).toNat else none
def atI {α : Type} (xs : List α) (i : Int) : Option α := (ixN xs.length i).bind fun j => xs[j]?
theorem ixN_seq {n : Nat} {i : Int} {j : Nat} (h : ixN n i = some j) : seqIndex? i n = some j ∧ j < n ∧ -(n : Int) ≤ i ∧ i < n := by
  unfold ixN at h
  by_cases h0 : 0 ≤ i
  · rw [if_pos h0] at h
    by_cases h1 : i < n
    · rw [if_pos h1] at h
      have e : i.toNat = j := Option.some.inj h
      exact ⟨by rw [seqIndex_of h0 h1, e], by omega, by omega, h1⟩
    · rw [if_neg h1] at h; cases h
  · rw [if_neg h0] at h
    by_cases h1 : -(n : Int) ≤ i
    · rw [if_pos h1] at h
      have e : (i + n).toNat = j := Option.some.inj h
      exact ⟨by rw [seqIndex_neg (by omega) h1, e], by omega, h1, by omega⟩
    · rw [if_neg h1] at h; cases h
theorem atI_get {α : Type} {xs : List α} {i : Int} {v : α} (h : atI xs i = some v) : ∃ j, seqIndex? i xs.length = some j ∧ xs[j]? = some v ∧ j < xs.length ∧ -(xs.length : Int) ≤ i ∧ i < xs.length := by
  unfold atI at h
  cases e : ixN xs.length i with
  | none => rw [e] at h; cases h
  | some j =>
    rw [e] at h
    obtain ⟨h1, h2, h3, h4⟩ := ixN_seq e
    exact ⟨j, h1, h, h2, h3, h4⟩
def PlainIx (b : Expr) : Prop := ∀ o i, subscripted b false o i = operate [o, i] (getItem o i)
def IxR (X : Cx) (r : R2) : Prop :=
  ∀ (value slice : Expr) (pins : List (Addr × Obj)) (s : Shared) (σ : St) (H : Hp) (x y : V) (v u : Value) (Q : VK), Inv X pins σ H s → RelV x v → RelV y u → r x y H Q →
    subscripted slice false v u = operate [v, u] (getItem v u) → wpAny (model X.prog X.w) X.A (subscriptTail value slice v u) (EP X pins σ Q) X.xe s
def MtR (X : Cx) (id : String) (r : V → List V → Hp → VK → Prop) : Prop :=
  ∀ (pins : List (Addr × Obj)) (s : Shared) (σ : St) (H : Hp) (x : V) (xs : List V) (v : Value) (us : List Value) (Q : VK), Inv X pins σ H s → RelV x v → Vals xs us → r x xs H Q →
    wpAny (model X.prog X.w) X.A (call (.builtin id) (v :: us)) (EP X pins σ Q) X.xe s
section
variable {X : Cx} {a b : Expr} {ta tb : TE} {pos : Pos}
theorem IxR.or {r r' : R2} (h : IxR X r) (h' : IxR X r') : IxR X (fun x y H Q => r x y H Q ∨ r' x y H Q) := by
  intro value slice pins s σ H x y v u Q I rx ry q hs
  rcases q with q | q
  · exact h value slice pins s σ H x y v u Q I rx ry q hs
  · exact h' value slice pins s σ H x y v u Q I rx ry q hs
theorem MtR.or {id : String} {r r' : V → List V → Hp → VK → Prop} (h : MtR X id r) (h' : MtR X id r') : MtR X id (fun x xs H Q => r x xs H Q ∨ r' x xs H Q) := by
  intro pins s σ H x xs v us Q I rx rs q
  rcases q with q | q
  · exact h pins s σ H x xs v us Q I rx rs q
  · exact h' pins s σ H x xs v us Q I rx rs q
theorem pe_ix {r : R2} (hr : IxR X r) (ha : PE X a ta) (hb : PE X b tb) (hs : PlainIx b) : PE X (.Subscript a b pos) (tOp r ta tb) := by
  intro pins s σ H Q I h
  exact Subscript_ (binT ha hb I h fun v u s2 x y H2 I2 rx ry q => hr a b pins s2 σ H2 x y v u Q I2 rx ry q (hs _ _))
def rIxL (K : PySem.W.Frag) : R2 := fun x y H Q => ∃ p xs i v, x = .ref p ∧ y = .int i ∧ SqL K H p xs ∧ atI xs i = some v ∧ Q v H
def rIxT (K : PySem.W.Frag) : R2 := fun x y H Q => ∃ p xs i v, x = .ref p ∧ y = .int i ∧ SqT K H p xs ∧ atI xs i = some v ∧ Q v H
def rIxS : R2 := fun x y H Q => ∃ z i c, x = .str z ∧ y = .int i ∧ z.length ≤ sizeLine ∧ atI z.cps.toList i = some c ∧ Q (.str ⟨#[c]⟩) H
theorem ix_list : IxR X (rIxL X.K) := by
  intro value slice pins s σ H x y v u Q I rx ry h hs
  obtain ⟨p, xs, i, z, rfl, rfl, hq, he, q⟩ := h
  cases rx
  obtain ⟨t, rfl⟩ := ry
  obtain ⟨its, r, pl, hz⟩ := I.list hq
  obtain ⟨j, h1, h2, h3, h4, h5⟩ := atI_get he
  obtain ⟨w, ew, rw'⟩ := r.get h2
  have hl := r.length
  have hn := line63
  have fin : EP X pins σ Q w s := ⟨z, H, I, rw', q⟩
  by_cases h0 : 0 ≤ i
  · have hj : i.toNat = j := by
      rw [seqIndex_of h0 h5] at h1
      exact Option.some.inj h1
    exact item_listR pl.isList h0 (by omega) (by rw [hj]; simpa using ew) fin hs
  · have hj : (i + (its.toArray.size : Int)).toNat = j := by
      rw [seqIndex_neg (by omega) h4] at h1
      rw [List.size_toArray, ← hl]
      exact Option.some.inj h1
    exact subscriptTail_builtinR (x := w) pl.isList.typeIs slot_list_getitem.lookup
      (wpAny_getItem_list_neg (Q := fun r s' => r = w ∧ EP X pins σ Q r s') pl.isList (by omega) (by rw [List.size_toArray] <;> omega) (by omega) (by rw [hj]; simpa using ew) ⟨rfl, fin⟩) hs
theorem ix_tup : IxR X (rIxT X.K) := by
  intro value slice pins s σ H x y v u Q I rx ry h hs
  obtain ⟨p, xs, i, z, rfl, rfl, hq, he, q⟩ := h
  cases rx
  obtain ⟨t, rfl⟩ := ry
  obtain ⟨its, r, pl, hz⟩ := I.tuple hq
  obtain ⟨j, h1, h2, h3, h4, h5⟩ := atI_get he
  obtain ⟨w, ew, rw'⟩ := r.get h2
  have hl := r.length
  have hn := line63
  have fin : EP X pins σ Q w s := ⟨z, H, I, rw', q⟩
  exact subscriptTail_builtinR (x := w) pl.typeIs slot_tuple_getitem.lookup
    (getItem_tuple (j := j) (Q := fun r s' => r = w ∧ EP X pins σ Q r s') pl (by omega) (by omega) (by rw [List.size_toArray, ← hl]; exact h1) (by simpa using ew) ⟨rfl, fin⟩) hs
theorem ix_str : IxR X rIxS := by
  intro value slice pins s σ H x y v u Q I rx ry h hs
  obtain ⟨z, i, c, rfl, rfl, hz, he, q⟩ := h
  obtain ⟨t, rfl⟩ := rx
  obtain ⟨t', rfl⟩ := ry
  obtain ⟨j, h1, h2, h3, h4, h5⟩ := atI_get he
  have hl : z.cps.toList.length = z.length := by simp [Str.length]
  rw [hl] at h1 h4 h5
  have hn := line63
  exact tail_any (typeIs_str s z t) slot_str_getitem.lookup (getItem_str (c := c) (by
    have e1 : decide (i < -(2 ^ 63 : Int)) = false := decide_eq_false (by omega)
    have e2 : decide (i ≥ 2 ^ 63) = false := decide_eq_false (by omega)
    rw [e1, e2, Bool.or_false]) (by rw [h1]; simpa using h2) ⟨.str ⟨#[c]⟩, H, I.tok _, ⟨_, rfl⟩, q⟩) hs
def rIx (K : PySem.W.Frag) : R2 := fun x y H Q => rIxL K x y H Q ∨ rIxT K x y H Q ∨ rIxS x y H Q
theorem ix_seq : IxR X (rIx X.K) := ix_list.or (ix_tup.or ix_str)
theorem mapSeq_set (its : List Value) (n j : Nat) (u : Value) : Obj.mapSeq (·.setIfInBounds j u) { cls := .type "list", data := .seq its.toArray n } = { cls := .type "list", data := .seq (its.set j u).toArray n } := by
  simp [Obj.mapSeq]
theorem Inv.lst {pins : List (Addr × Obj)} {σ : St} {H : Hp} {s : Shared} {p : Addr} {xs : List V} (I : Inv X pins σ H s) (h : H p = some (.lst xs)) :
    ∃ (its : List Value) (n : Nat), Vals xs its ∧ s.heap.get? p = some { cls := .type "list", data := .seq its.toArray n } ∧ xs.length ≤ sizeLine := by
  obtain ⟨z, its, n, r, e⟩ := I.hok p _ h
  exact ⟨its, n, r, e, z⟩
theorem Inv.lstUpd {pins : List (Addr × Obj)} {σ : St} {H : Hp} {s : Shared} {p : Addr} {xs ys : List V} {its its' : List Value} {n n' : Nat} {f : Obj → Obj} (I : Inv X pins σ H s) (h : H p = some (.lst xs))
    (ho : s.heap.get? p = some { cls := .type "list", data := .seq its.toArray n }) (hf : f { cls := .type "list", data := .seq its.toArray n } = { cls := .type "list", data := .seq its'.toArray n' }) (r : Vals ys its') (hz : ys.length ≤ sizeLine) (t : Nat) :
    Inv X pins σ (upd H p (.lst ys)) { s with heap := s.heap.update p f, toks := t } := by
  have e : (s.heap.update p f).get? p = some { cls := .type "list", data := .seq its'.toArray n' } := by
    rw [Heap.get?_update_self f ho (by rw [hf] <;> rfl), hf]
  refine I.write (x := p) (e := p) (by rw [h]; trivial) (.inl rfl) (fun b u hb q => (Heap.get?_update_other _ _ (Ne.symm hb)).trans q) ⟨_, e⟩ ?_
  exact ⟨hz, its', n', r, e⟩
def rSetL : V → V → V → Hp → (Hp → Prop) → Prop := fun o i v H Q => ∃ p xs k j, o = .ref p ∧ i = .int k ∧ H p = some (.lst xs) ∧ ixN xs.length k = some j ∧ Q (upd H p (.lst (xs.set j v)))
theorem set_list : PSet X rSetL := by
  intro pins s σ H o i v ov iv u Q I ro ri rv h
  obtain ⟨p, xs, k, j, rfl, rfl, hp, hj, q⟩ := h
  cases ro
  obtain ⟨t, rfl⟩ := ri
  obtain ⟨its, n, r, ho, hz⟩ := I.lst hp
  obtain ⟨h1, h2, h3, h4⟩ := ixN_seq hj
  have hl := r.length
  have hn := line63
  have I' : Inv X pins σ (upd H p (.lst (xs.set j v))) { s with heap := s.heap.update p (Obj.mapSeq (·.setIfInBounds j u)) } :=
    I.lstUpd hp ho (mapSeq_set its n j u) (r.set rv j) (by rw [List.length_set]; exact hz) s.toks
  by_cases h0 : 0 ≤ k
  · have hk : k.toNat = j := by
      rw [seqIndex_of h0 h4] at h1
      exact Option.some.inj h1
    exact PySem.W.ki_setAt ho h0 (by omega) (by rw [List.size_toArray, ← hl]; exact h4) (by rw [hk]; exact ⟨_, I', q⟩)
  · have hk : (k + (its.toArray.size : Int)).toNat = j := by
      rw [seqIndex_neg (by omega) h3] at h1
      rw [List.size_toArray, ← hl]
      exact Option.some.inj h1
    exact PySem.W.ki_setBack ho (by omega) (by rw [List.size_toArray, ← hl]; exact h3) (by omega) (by rw [hk]; exact ⟨_, I', q⟩)
theorem slice_bounds (lo hi : Option Int) (n : Nat) : (sliceBounds lo hi none n).1 = ((HT.sIx n 0 lo : Nat) : Int) ∧ (sliceBounds lo hi none n).2.1 = ((HT.sIx n n hi : Nat) : Int) ∧ (sliceBounds lo hi none n).2.2 = 1 := by
  refine ⟨?_, ?_, rfl⟩
  · cases lo with
    | none => simp [sliceBounds, HT.sIx]
    | some i =>
      simp only [sliceBounds, HT.sIx, Option.getD_none, show (1 : Int) > 0 by decide, if_true]
      by_cases h : i < 0
      · simp only [h, if_true] <;> omega
      · simp only [h, if_false] <;> omega
  · cases hi with
    | none => simp [sliceBounds, HT.sIx]
    | some i =>
      simp only [sliceBounds, HT.sIx, Option.getD_none, show (1 : Int) > 0 by decide, if_true]
      by_cases h : i < 0
      · simp only [h, if_true] <;> omega
      · simp only [h, if_false] <;> omega
theorem slicePick_cut (its : List Value) (lo hi : Option Int) : slicePick its.toArray lo hi none = ((its.drop (HT.sIx its.length 0 lo)).take (HT.sIx its.length its.length hi - HT.sIx its.length 0 lo)).toArray := by
  obtain ⟨h1, h2, h3⟩ := slice_bounds lo hi its.toArray.size
  unfold slicePick
  rw [h1, h2, h3]
  simp only [sliceRange_one, pick_run, List.size_toArray] <;> rfl
def rSlL (K : PySem.W.Frag) : V → Option Int → Option Int → Hp → VK → Prop := fun x lo hi H Q => ∃ a xs, x = .ref a ∧ SqL K H a xs ∧ ∀ p, H p = none → Q (.ref p) (upd H p (.lst (cutV xs lo hi)))
theorem sl_list : SlR X (rSlL X.K) := by
  intro pins s σ H x v vl vu lo hi sl Q I rx hs pl pu h
  obtain ⟨a, xs, rfl, hx, q⟩ := h
  cases rx
  obtain ⟨its, r, ht, hz⟩ := I.list hx
  have hlen := r.length
  refine ⟨"list", _, slot_list_getitem.lookup, ht.isList.typeIs, ?_⟩
  refine wpAny_getItem_list_slice ht.isList hs pl pu .none (by simp) ?_ (by rw [List.size_toArray] <;> omega)
  rw [slicePick_cut, ← hlen]
  refine ⟨.ref s.heap.objs.size, _, I.laid (t' := s.toks) (o := .lst (cutV xs lo hi)) (fun b ob q => Heap.get?_push_of_some _ q) (Nat.le_refl _) ?_, rfl, q _ (I.hok.fresh (Nat.le_refl _))⟩
  exact ⟨Nat.le_trans (cutV_length xs lo hi) hz, _, 0, (r.drop (HT.sIx xs.length 0 lo)).take (HT.sIx xs.length xs.length hi - HT.sIx xs.length 0 lo), Heap.get?_push_size _ rfl⟩
theorem CallR.or {f : Value} {r r' : List V → Hp → VK → Prop} (h : CallR X f r) (h' : CallR X f r') : CallR X f (fun xs H Q => r xs H Q ∨ r' xs H Q) := by
  intro pins s σ H xs us Q I rs q
  rcases q with q | q
  · exact h pins s σ H xs us Q I rs q
  · exact h' pins s σ H xs us Q I rs q
theorem call_list_of : CallR X (.type "list") (fun xs H Q => ∃ p ys, xs = [.ref p] ∧ (SqL X.K H p ys ∨ SqT X.K H p ys) ∧ ∀ l, H l = none → Q (.ref l) (upd H l (.lst ys))) := by
  intro pins s σ H xs us Q I r h
  obtain ⟨p, ys, rfl, hq, q⟩ := h
  obtain ⟨u, rfl, rx⟩ := vals1 r
  cases rx
  have fin : ∀ (its : List Value), Vals ys its → ys.length ≤ sizeLine → ∀ (h' : Heap) (c' : Nat), (∀ b o', s.heap.get? b = some o' → h'.get? b = some o') →
      h'.get? s.heap.objs.size = some { cls := .type "list", dict := none, data := .seq its.toArray c', slots := #[] } → EP X pins σ Q (.ref s.heap.objs.size) { s with heap := h' } := fun its r' hz h' c' kp e =>
    ⟨.ref s.heap.objs.size, _, I.laid (t' := s.toks) kp (Nat.le_refl _) (show ObjOk X.prog X.w _ h' _ (.lst ys) from ⟨hz, its, c', r', e⟩), rfl, q _ (I.hok.fresh (Nat.le_refl _))⟩
  rcases hq with hq | hq
  · obtain ⟨its, r', pl, hz⟩ := I.list hq
    have hlen := r'.length
    obtain ⟨o, ho, hc, n, hd⟩ := pl.isList
    exact call_list_seq p (.inl rfl) ho hc hd (fun h' c' kp e => fin its r' hz h' c' kp e) (by simp only [List.size_toArray] <;> omega)
  · obtain ⟨its, r', pl, hz⟩ := I.tuple hq
    have hlen := r'.length
    obtain ⟨o, ho, hc, n, hd⟩ := pl
    exact call_list_seq p (.inr rfl) ho hc hd (fun h' c' kp e => fin its r' hz h' c' kp e) (by simp only [List.size_toArray] <;> omega)
theorem call_tuple_of : CallR X (.type "tuple") (fun xs H Q => ∃ p ys, xs = [.ref p] ∧ ((SqL X.K H p ys ∧ ∀ l, H l = none → Q (.ref l) (upd H l (.tup ys))) ∨ (SqT X.K H p ys ∧ Q (.ref p) H))) := by
  intro pins s σ H xs us Q I r h
  obtain ⟨p, ys, rfl, h⟩ := h
  obtain ⟨u, rfl, rx⟩ := vals1 r
  cases rx
  rcases h with ⟨hq, q⟩ | ⟨hq, q⟩
  · obtain ⟨its, r', pl, hz⟩ := I.list hq
    have hlen := r'.length
    refine call_tuple_list pl.isList (fun h' kp => ?_) (by simp only [List.size_toArray] <;> omega)
    have I1 : Inv X pins σ H { s with heap := h' } := I.kept (t' := s.toks) kp
    have I2 : Inv X pins σ (upd H h'.objs.size (.tup ys)) { s with heap := h'.push { cls := .type "tuple", data := .seq its.toArray } } :=
      I1.laid (t' := s.toks) (fun b o e => Heap.get?_push_of_some _ e) (Nat.le_refl _) (show ObjOk X.prog X.w _ _ _ (.tup ys) from ⟨hz, its, r', IsTup.new _ _⟩)
    exact ⟨.ref h'.objs.size, _, I2, rfl, q _ (I1.hok.fresh (Nat.le_refl _))⟩
  · obtain ⟨its, r', pl, hz⟩ := I.tuple hq
    exact call_tuple_same pl ⟨.ref p, H, I, rfl, q⟩
def tyV (K : PySem.W.Frag) (T : String) (x : V) (H : Hp) : Prop := match x with
  | .str _ => T = "str"
  | .int _ => T = "int"
  | .ref p => (T = "list" ∧ ∃ xs, SqL K H p xs) ∨ (T = "tuple" ∧ ∃ o, K.lookup p = some o ∧ o.cls = .type "tuple" ∧ o.dict = none) ∨
      (T = "dict" ∧ ((∃ kvs, H p = some (.dK kvs)) ∨ ∃ kvs, H p = some (.dT kvs))) ∨ (T = "set" ∧ ∃ S n, H p = some (.set S n))
  | _ => False
theorem tyV_is {pins : List (Addr × Obj)} {σ : St} {H : Hp} {s : Shared} {T : String} {x : V} {v : Value} (I : Inv X pins σ H s) (r : RelV x v) (ty : tyV X.K T x H) :
    s.TypeIs v T ∧ ∀ a, v = .ref a → ∃ ob, s.heap.get? a = some ob ∧ ob.dict = none := by
  cases x with
  | str z =>
    obtain ⟨t, rfl⟩ := r
    cases (show T = "str" from ty)
    exact ⟨typeIs_str s z t, fun _ e => nomatch e⟩
  | int i =>
    obtain ⟨t, rfl⟩ := r
    cases (show T = "int" from ty)
    exact ⟨typeIs_int s i t, fun _ e => nomatch e⟩
  | ref p =>
    cases r
    rcases ty with ⟨rfl, xs, hq⟩ | ⟨rfl, o, hk, hc, hd⟩ | ⟨rfl, hk⟩ | ⟨rfl, S, n, hk⟩
    · obtain ⟨its, _, pl, _⟩ := I.list hq
      refine ⟨pl.isList.typeIs, fun a e => ?_⟩
      cases e
      obtain ⟨o, n, e, c, hd, _⟩ := pl
      exact ⟨o, e, hd⟩
    · refine ⟨⟨o, I.kIn p o hk, hc⟩, fun a e => ?_⟩
      cases e
      exact ⟨o, I.kIn _ o hk, hd⟩
    · have z : ∃ o, s.heap.get? p = some o ∧ o.ExactDict := by
        rcases hk with ⟨kvs, hk⟩ | ⟨kvs, hk⟩
        · obtain ⟨_, _, _, _, o, _, _, e, ex, _⟩ := I.hok p _ hk
          exact ⟨o, e, ex⟩
        · obtain ⟨_, _, _, _, o, _, _, e, ex, _⟩ := I.hok p _ hk
          exact ⟨o, e, ex⟩
      obtain ⟨o, e, ex⟩ := z
      refine ⟨⟨o, e, ex.1⟩, fun a e2 => ?_⟩
      cases e2
      exact ⟨o, e, ex.2.1⟩
    · obtain ⟨o, _, _, _, e, ex, _⟩ := I.hok p _ hk
      refine ⟨⟨o, e, ex.1⟩, fun a e2 => ?_⟩
      cases e2
      exact ⟨o, e, ex.2.1⟩
  | _ => exact False.elim ty
def tBM (K : PySem.W.Frag) (T : String) (r : V → List V → Hp → VK → Prop) (to : TE) (t : TA) : TE := fun σ H Q => to σ H fun x H1 => tyV K T x H1 ∧ t σ H1 fun xs H2 => r x xs H2 Q
variable {o e : Expr} {es : List Expr} {to : TE} {t : TA} {name : Str} {apos cpos : Pos} {T id : String} {r : V → List V → Hp → VK → Prop}
theorem pe_bm (pa : PlainAttrs T) (slot : Slot T name id) (hty : typeOf (.builtin id) = pure (.type "method_descriptor")) (hm : MtR X id r) (ho : PE X o to) (ha : PA X (e :: es) t)
    (hbase : attributeBase o name X.env (eval o X.env) = eval o X.env := by rfl)
    (hfew : ((backTo cpos (starEach (e :: es) X.env)).all (fun x => !x.1) && (backToKw cpos (keywordEach [] X.env)).all (fun x => x.1.isSome)
      && decide ((e :: es).length + ([] : List Keyword).length + (if ([] : List Keyword).isEmpty then 0 else 1) < 30)) = true := by rfl)
    (hline : (apos.endLine == cpos.line) = true := by rfl) (hs : starEach (e :: es) X.env = (false, eval e X.env) :: starEach es X.env := by rfl) (hplain : (backTo cpos (starEach es X.env)).any (·.1) = false := by rfl) :
    PE X (.Call (.Attribute o name apos) (e :: es) [] cpos) (tBM X.K T r to t) := by
  intro pins s σ H Q I h
  refine wpAny_Call_method_late hbase hfew hline rfl (thn (ho pins s σ H _ I h) fun v s1 ⟨x, H1, I1, r1, ty, q1⟩ => ?_)
  obtain ⟨h1, h2⟩ := tyV_is I1 r1 ty
  refine ⟨T, id, pa, slot, hty, h1, h2, ?_⟩
  have hA := ha cpos pins s1 σ H1 _ I1 q1
  rw [hs] at hA ⊢
  refine Calls.callWith_builtin (by show (false || (backTo cpos (starEach es X.env)).any (·.1)) = false; rw [hplain] <;> rfl) (Calls.evalArgs_plain ?_)
  exact thn hA fun us s2 ⟨vs, H2, I2, r2, q2⟩ => hm pins s2 σ H2 x vs v us Q I2 r1 r2 q2
end
end L2
namespace L2
open PySem PySem.Spec PyProof.Rows
def MtM (X : Cx) (id : String) (r : V → List V → Hp → VK → Prop) : Prop :=
  ∀ (pins : List (Addr × Obj)) (s : Shared) (σ : St) (H : Hp) (x : V) (xs : List V) (v : Value) (us : List Value) (Q : VK), Inv X pins σ H s → RelV x v → Vals xs us → r x xs H Q →
    wpAny (model X.prog X.w) X.A (call (.builtin id) (v :: us)) (EP X pins σ Q) X.xe s
theorem Vals.one : ∀ {x : V} {us : List Value}, Vals [x] us → ∃ u, us = [u] ∧ RelV x u
  | _, _, .cons r .nil => ⟨_, rfl, r⟩
theorem Vals.two : ∀ {x y : V} {us : List Value}, Vals [x, y] us → ∃ u v, us = [u, v] ∧ RelV x u ∧ RelV y v
  | _, _, _, .cons r (.cons q .nil) => ⟨_, _, rfl, r, q⟩
theorem Vals.zero : ∀ {us : List Value}, Vals [] us → us = []
  | _, .nil => rfl
theorem Vals.dropLast {xs : List V} {us : List Value} (h : Vals xs us) : Vals xs.dropLast us.dropLast := by
  induction h with
  | nil => exact .nil
  | cons r t ih =>
    cases t with
    | nil => exact .nil
    | cons q t' => exact .cons r ih
theorem Vals.eraseIdx : ∀ {xs : List V} {us : List Value} (i : Nat), Vals xs us → Vals (xs.eraseIdx i) (us.eraseIdx i)
  | _, _, _, .nil => .nil
  | _, _, 0, .cons _ t => t
  | _, _, i + 1, .cons r t => .cons r (Vals.eraseIdx i t)
theorem Vals.reverse {xs : List V} {us : List Value} (h : Vals xs us) : Vals xs.reverse us.reverse := by
  induction h with
  | nil => exact .nil
  | cons r t ih => rw [List.reverse_cons, List.reverse_cons]; exact Vals.append ih (.cons r .nil)
theorem Vals.rep {xs : List V} {us : List Value} (h : Vals xs us) : ∀ k : Nat, Vals (List.replicate k xs).flatten (List.replicate k us).flatten
  | 0 => .nil
  | k + 1 => by
    rw [List.replicate_succ, List.replicate_succ, List.flatten_cons, List.flatten_cons]
    exact Vals.append h (Vals.rep h k)
theorem len_erase {α : Type} : ∀ (l : List α) (i : Nat), (l.eraseIdx i).length ≤ l.length
  | [], _ => Nat.le_refl _
  | _ :: _, 0 => Nat.le_succ _
  | _ :: r, i + 1 => Nat.succ_le_succ (len_erase r i)
theorem foldl_rep (its : List Value) : ∀ (k : Nat) (acc : List Value),
    List.foldl (fun x1 x2 => x1 ++ x2) acc.toArray (List.replicate k its.toArray) = (acc ++ (List.replicate k its).flatten).toArray
  | 0, acc => by simp
  | k + 1, acc => by
    have e : acc.toArray ++ its.toArray = (acc ++ its).toArray := by simp
    have e2 : (acc ++ its) ++ (List.replicate k its).flatten = acc ++ (List.replicate (k + 1) its).flatten := by
      rw [List.replicate_succ, List.flatten_cons, List.append_assoc]
    rw [← e2, ← foldl_rep its k (acc ++ its), ← e, List.replicate_succ, List.foldl_cons]
section
variable {X : Cx} {pins : List (Addr × Obj)} {σ : St} {H : Hp} {s : Shared} {l b : Addr} {xs ys zs : List V}
theorem Inv.lset {its its' : List Value} {n : Nat} {f : Array Value → Array Value} {t' : Nat} (I : Inv X pins σ H s) (hH : H l = some (.lst xs))
    (e : s.heap.get? l = some { cls := .type "list", data := .seq its.toArray n }) (hf : f its.toArray = its'.toArray) (hv : Vals ys its') (hz : ys.length ≤ sizeLine) :
    Inv X pins σ (upd H l (.lst ys)) { s with heap := s.heap.update l (Obj.mapSeq f), toks := t' } := by
  have q := PySem.IsL.update e f
  rw [hf] at q
  refine I.write (x := l) (e := l) (by rw [hH]; exact trivial) (.inl rfl) (fun b' u hb hu => (Heap.get?_update_other s.heap (Obj.mapSeq f) (Ne.symm hb)).trans hu) ⟨_, q⟩ ?_
  exact ⟨hz, its', _, hv, q⟩
theorem Inv.lnew {its : List Value} {t' : Nat} (I : Inv X pins σ H s) (hv : Vals ys its) (hz : ys.length ≤ sizeLine) :
    Inv X pins σ (upd H s.heap.objs.size (.lst ys)) { s with heap := s.heap.push { cls := .type "list", data := .seq its.toArray }, toks := t' } :=
  I.laid (fun _ _ q => Heap.get?_push_of_some _ q) (Nat.le_refl _) ⟨hz, its, 0, hv, Heap.get?_push_size _ rfl⟩
theorem Inv.fresh (I : Inv X pins σ H s) : H s.heap.objs.size = none := I.hok.fresh (Nat.le_refl _)
theorem Inv.lstM (I : Inv X pins σ H s) (hH : H l = some (.lst xs)) : xs.length ≤ sizeLine ∧ ∃ (its : List Value) (n : Nat), Vals xs its ∧ xs.length = its.length ∧ s.heap.get? l = some { cls := .type "list", data := .seq its.toArray n } := by
  obtain ⟨z, its, n, r, e⟩ := I.hok l _ hH
  exact ⟨z, its, n, r, r.length, e⟩
theorem notLongL {n : Nat} (h : n ≤ sizeLine) : Builtin.List.listTooLong n = false := by
  unfold Builtin.List.listTooLong
  exact decide_eq_false (by omega)
end
section
variable {X : Cx}
def rAppend : V → List V → Hp → VK → Prop := fun x vs H Q => ∃ l xs y, x = .ref l ∧ vs = [y] ∧ H l = some (.lst xs) ∧ xs.length < sizeLine ∧ Q .non (upd H l (.lst (xs ++ [y])))
theorem mt_append : MtM X "list.append" rAppend := by
  intro pins s σ H x vs v us Q I rx rv h
  obtain ⟨l, xs, y, rfl, rfl, hH, hz, q⟩ := h
  cases rx
  obtain ⟨u, rfl, ru⟩ := rv.one
  obtain ⟨z, its, n, r, hl, e⟩ := I.lstM hH
  refine call_meets F.slot_list_append ⟨_, e, rfl⟩ F.entry_list_append (F.args_list_append_2 _ _) (PySem.list_append l its.toArray n u (by rw [List.size_toArray]; omega)) ⟨e, ?_⟩
  refine ⟨.non, _, I.lset (its' := its ++ [u]) hH e (by simp) (r.append (.cons ru .nil)) ?_, rfl, q⟩
  rw [List.length_append, List.length_singleton]
  omega
def rPopAt : V → List V → Hp → VK → Prop := fun x vs H Q => ∃ l xs i k y, x = .ref l ∧ vs = [.int i] ∧ H l = some (.lst xs) ∧ -(2 ^ 63) ≤ i ∧ i < 2 ^ 63 ∧ seqIndex? i xs.length = some k ∧ xs[k]? = some y ∧ Q y (upd H l (.lst (xs.eraseIdx k)))
theorem mt_popAt : MtM X "list.pop" rPopAt := by
  intro pins s σ H x vs v us Q I rx rv h
  obtain ⟨l, xs, i, k, y, rfl, rfl, hH, h1, h2, hk, hy, q⟩ := h
  cases rx
  obtain ⟨u, rfl, ru⟩ := rv.one
  obtain ⟨t, rfl⟩ := ru
  obtain ⟨z, its, n, r, hl, e⟩ := I.lstM hH
  obtain ⟨w, hw, rw'⟩ := r.get hy
  refine call_meets F.slot_list_pop ⟨_, e, rfl⟩ F.entry_list_pop (F.args_list_pop_2 _ _)
    (MeetsSeq.list_pop_at l its.toArray n i t k w (fitsIndex_both h1 h2) (by rw [List.size_toArray, ← hl]; exact hk) (by rw [← Array.getElem?_toList]; exact hw) (by rw [List.size_toArray]; omega)) ⟨e, ?_⟩
  refine ⟨y, _, I.lset (its' := its.eraseIdx k) hH e ?_ (r.eraseIdx k) ?_, rw', q⟩
  · show its.toArray.eraseIdxIfInBounds k = (its.eraseIdx k).toArray
    rw [List.eraseIdxIfInBounds_toArray]
  · have := len_erase xs k
    omega
def rCat : R2 := fun x y H Q => ∃ l b xs zs, x = .ref l ∧ y = .ref b ∧ H l = some (.lst xs) ∧ H b = some (.lst zs) ∧ xs.length + zs.length ≤ sizeLine ∧ ∀ p, H p = none → Q (.ref p) (upd H p (.lst (xs ++ zs)))
theorem op_cat : OpR X (binaryOp .Add) rCat := by
  intro pins s σ H x y v u Q I rx ry h
  obtain ⟨l, b, xs, zs, rfl, rfl, hH, hB, hz, q⟩ := h
  cases rx
  cases ry
  obtain ⟨z, its, n, r, hl, e⟩ := I.lstM hH
  obtain ⟨z2, its2, n2, r2, hl2, e2⟩ := I.lstM hB
  refine PySem.P.add_list e e2 ?_ (by rw [List.size_toArray, List.size_toArray]; omega)
  have ea : its.toArray ++ its2.toArray = (its ++ its2).toArray := by simp
  rw [ea]
  exact ⟨.ref _, _, I.lnew (t' := s.toks) (r.append r2) (by rw [List.length_append]; omega), rfl, q _ I.fresh⟩
def rRep : R2 := fun x y H Q => ∃ l k xs, x = .ref l ∧ y = .int k ∧ H l = some (.lst xs) ∧ -(2 ^ 63) ≤ k ∧ k < 2 ^ 63 ∧ xs.length * k.toNat ≤ sizeLine ∧
  ∀ p, H p = none → Q (.ref p) (upd H p (.lst (List.replicate k.toNat xs).flatten))
theorem len_rep {α : Type} (xs : List α) (k : Nat) : (List.replicate k xs).flatten.length = k * xs.length := by
  induction k with
  | zero => simp
  | succ k ih => rw [List.replicate_succ, List.flatten_cons, List.length_append, ih, Nat.succ_mul, Nat.add_comm]
theorem op_rep : OpR X (binaryOp .Mult) rRep := by
  intro pins s σ H x y v u Q I rx ry h
  obtain ⟨l, k, xs, rfl, rfl, hH, h1, h2, hz, q⟩ := h
  cases rx
  obtain ⟨t, rfl⟩ := ry
  obtain ⟨z, its, n, r, hl, e⟩ := I.lstM hH
  have hlen : its.toArray.size * k.toNat ≤ sizeLine := by rw [List.size_toArray, ← hl]; exact hz
  have hcap : ¬ its.toArray.size * k.toNat > (2 ^ 63 - 1) / 8 := by
    have : (sizeLine : Nat) ≤ (2 ^ 63 - 1) / 8 := by decide
    omega
  have hfit : ¬ (!Builtin.List.listFitsIndex k) = true := by
    rw [fitsIndex_both h1 h2]
    exact Bool.false_ne_true
  have hlong : ¬ Builtin.List.listTooLong (its.toArray.size * k.toNat) = true := by
    rw [notLongL hlen]
    exact Bool.false_ne_true
  have hnew : List.foldl (fun x1 x2 => x1 ++ x2) #[] (List.replicate (if its.toArray.isEmpty = true then 0 else k.toNat) its.toArray) = (List.replicate k.toNat its).flatten.toArray := by
    have f0 : ∀ m : Nat, List.foldl (fun x1 x2 => x1 ++ x2) #[] (List.replicate m its.toArray) = (List.replicate m its).flatten.toArray := fun m => by
      have := foldl_rep its m []
      rw [List.nil_append] at this
      exact this
    rw [f0]
    cases its with
    | nil => simp
    | cons a r' => rw [if_neg (by simp)]
  refine wpAny_binaryOp_repeat_ref (T := "list") (U := "int") (by decide) ⟨_, e, rfl⟩ (fun s' => typeIs_int s' k t) noFill_list_mul F.fills_int_mul F.slot_int_rmul repeat_list F.slot_int_index.lookup
    (call_meets F.slot_int_rmul (typeIs_int s k t) F.entry_int_rmul (F.args_int_rmul_2 _ _) (int___rmul___int_list k t l its.toArray n)
      ⟨e, rfl, ⟨_, e, rfl⟩, call_meets F.slot_list_mul ⟨_, e, rfl⟩ F.entry_list_mul (F.args_list_mul_2 _ _) (AutoListH.list___mul___list_int_3 l its.toArray n k t hfit hcap hlong) ⟨e, ?_⟩⟩)
  rw [hnew]
  exact ⟨.ref _, _, I.lnew (t' := s.toks) (r.rep k.toNat) (by rw [len_rep, Nat.mul_comm]; exact hz), rfl, q _ I.fresh⟩
end
section
variable {prog : Program} {w : World} {A : Around} {E : Value → Shared → Prop} {s : Shared}
end
section
variable {X : Cx}
end
end L2
namespace Att
open PySem PySem.W PySem.Calls PyProof.Rows
theorem ints_of_wellAll {P : Params} {h : Heap} : ∀ (ns : List Int) (vs : List Value), WellAll P h vs (ns.map WData.int) → IntsAre vs ns := by
  intro ns
  induction ns with
  | nil =>
    intro vs w
    rw [List.map_nil] at w
    cases w
    exact .nil
  | cons n ns ih =>
    intro vs w
    rw [List.map_cons] at w
    cases w with
    | cons a b =>
      cases a
      exact .cons _ _ (ih _ b)
theorem script_of {l : OpenLaw} {n : Nat} (hn : l.most = some n) {P : Params} {h : Heap} {args : List WData} {vals : List Value}
    (hpre : l.row.toRowW.claim.pre args = true) (hwl : WellAll P h vals args) :
    ∃ a vs ns, vals = [Value.ref a] ∧ args = [WData.list (ns.map WData.int)] ∧ h.get? a = some { cls := .type "list", data := .seq vs.toArray } ∧ IntsAre vs ns ∧ ns.length ≤ n := by
  have hsh : WShape.hasAll [] args [.list .int] = true := (pre_splitW hpre).1
  have hc : l.pre.holds [] { args := args } = true := (pre_splitW hpre).2
  obtain ⟨d, r, rfl, h1, h2⟩ := hasAllW_cons hsh
  obtain rfl := hasAllW_nil h2
  obtain ⟨xs, rfl, h3⟩ := hasW_list h1
  obtain ⟨ns, rfl⟩ := items_int h3
  have hlen : ns.length ≤ n := by
    unfold OpenLaw.pre at hc
    have h4 : (WTm.not (.lt (.lit (.int (n : Int))) (.len (.arg 0)))).holds [] { args := [.list (ns.map .int)] } = true := by
      have h4 := (holds_andW hc).1
      rw [hn] at h4
      exact h4
    have h5 := condW_of h4 (w_not (w_lt w_lit (w_len_list (w_arg rfl))))
    rw [List.length_map] at h5
    refine Nat.le_of_not_lt fun q => ?_
    have q' : (n : Int) < ((ns.length : Nat) : Int) := by omega
    first
      | (rw [decide_eq_true q'] at h5; exact absurd h5 (by decide))
      | (simp at h5; omega)
  cases hwl with
  | cons w1 w2 =>
    cases w2
    cases w1 with
    | list ho hall => exact ⟨_, _, ns, rfl, rfl, ho, ints_of_wellAll ns _ hall, hlen⟩
theorem post_true (l : OpenLaw) (args : List WData) : l.row.toRowW.claim.post args (.bool true) args = true :=
  postW_of (r := l.row.toRowW) (X := (true == true))
    (show WShape.has [] (.bool true) .bool = true by first | rfl | decide | simp [WShape.has, WShape.arms, WShape.armsAll])
    (show (WTm.eq .res (.lit (.bool true))).value [] { args := args, res := some (.bool true), after := args } = some (.bool (true == true)) from w_eq_bool (w_res rfl) w_lit) rfl
theorem attach_call {l : OpenLaw} {n : Nat} {q : Program} {loose : List Str} {XP : (Str → Option Value) → Heap → Prop} {YP : World → Heap → Prop} {d : DefRec}
    (hn : l.most = some n) (hdf : d.params.defaults = [])
    (call : ∀ (w : World) (s₀ s₁ : Shared) (mg mb : Str → Option Value) (fa : Addr) (o : Obj) (pm cd doc : Value) (a : Addr) (vs : List Value) (ns : List Int),
      Ground q loose [] XP w s₀ mg mb s₁.heap → YP w s₁.heap →
      s₁.heap.get? fa = some o → o.data = .func (docDef d.name d.params d.body d.scope pm cd doc) → s₁.heap.CodeRec cd d.name → mg d.name = some (.ref fa) →
      s₁.heap.get? a = some { cls := .type "list", data := .seq vs.toArray } → IntsAre vs ns → ns.length ≤ n → s₁.gens = #[] →
      codeAny (model l.prog w) callerA (.call (.ref fa) ⟨[.ref a], []⟩) (fun r s' => r = .ok (.ret (.bool true)) ∧ OldK s₁.heap s'.heap ∧ s'.os = s₁.os ∧ AllBare s'.gens) s₁) :
    WalkO q loose XP YP l.row.toRowW d [] (fun f vs => PySem.call f vs) := by
  intro w s₀ s₁ mg mb G Y fa o pm cd doc dV kV ho hd hcd hD hmg hg args vals as hpre hlay hrd hwl hlo
  obtain rfl : dV = .none := Dflts.none hD hdf
  obtain rfl : kV = .none := Dflts.noKw hD
  obtain ⟨a, vs, ns, rfl, rfl, hobj, hints, hlen⟩ := script_of hn hpre hwl
  refine enter_call (codeAny_mono (call w s₀ s₁ mg mb fa o pm cd doc a vs ns G Y ho (fd_plain hd) hcd hmg hobj hints hlen hg) fun r s' hq => ?_)
  obtain ⟨rfl, h2, h3, h4⟩ := hq
  exact ⟨.inl ⟨.bool true, .bool true, [], rfl, fun _ => rfl, .bool true, post_true l _, fun _ => ⟨List.Pairwise.nil, fun _ hm => (nomatch hm)⟩⟩, h2, h3, h4⟩
section
variable {prog : Program} {w : World} {A : Around} {E : Value → Shared → Prop} {s : Shared} {K : Frag}
end
end Att
namespace L2
open PySem PySem.Spec PyProof.Rows
theorem vals_ints : ∀ {vs : List Value} {ns : List Int}, IntsAre vs ns → Vals (ns.map V.int) vs
  | _, _, .nil => .nil
  | _, _, .cons n t h => .cons ⟨t, rfl⟩ (vals_ints h)
def Only (H : Hp) : Prop := ∀ b, H b = none ∨ ∃ o xs, H b = some (.frz o (.lst xs))
theorem law_call {P : Program} {w : World} {K : PySem.W.Frag} {mg mb : Str → Option Value} {CX : CXT} {k : Nat} {fa a : Addr} {fd : FuncData} {x : Str} {sp : Sp} {s₁ : Shared} {vs : List Value} {ns : List Int}
    (KX : K.In s₁.heap) (hns : s₁.heap.Ns mainGlobals mg) (hb : s₁.heap.Ns builtinsNs mb) (hbb : ∀ x : Str, x ≠ "__name__" → mb x = bootBuiltins x) (hlim : s₁.heap.NoLimit) (hg : s₁.gens = #[])
    (ha : s₁.heap.get? a = some { cls := .type "list", data := .seq vs.toArray }) (hi : IntsAre vs ns) (hl : ns.length ≤ sizeLine) (hr : Room k callerA)
    (F : ∀ base : Heap, K.In base → base.Ns mainGlobals mg → FnOk P w K mg base CX k fa fd [x] sp) (hbind : ∀ (s : Shared) (u : Value), BindsTo s fd ⟨[u], []⟩ [(x, u)])
    (hsp : ∀ H : Hp, Only H → SqL K H a (ns.map V.int) → sp [.ref a] H (fun v _ => v = .bl true) fun _ _ _ => False)
    (hCX : ∀ H e s', CX [] H s₁ (fun _ _ _ => False) e s' → False) :
    codeAny (model P w) callerA (.call (.ref fa) ⟨[.ref a], []⟩) (fun r s' => r = .ok (.ret (.bool true)) ∧ OldK s₁.heap s'.heap ∧ s'.os = s₁.os ∧ AllBare s'.gens) s₁ := by
  have rv := vals_ints hi
  have lenV := hi.length
  -- from an abstract heap in which nothing but the script may be tracked
  have core : ∀ H : Hp, Only H → SqL K H a (ns.map V.int) → HOk P w H s₁.heap → (∀ b, H b ≠ none → b = a) → (H a ≠ none → K.lookup a = none) →
      codeAny (model P w) callerA (.call (.ref fa) ⟨[.ref a], []⟩) (fun r s' => r = .ok (.ret (.bool true)) ∧ OldK s₁.heap s'.heap ∧ s'.os = s₁.os ∧ AllBare s'.gens) s₁ := by
    intro H hO hS hok hA hK
    have base_of : ∀ {b : Addr} {o : Obj}, s₁.heap.get? b = some o → H b = none → (hidT s₁.heap H).get? b = some o := fun e n => hidT_get e n
    have noA : ∀ {b : Addr} {o : Obj} {es : Array DictEntry} {ep : Nat}, s₁.heap.get? b = some o → o.data = .dict es ep → H b = none := fun {b o es ep} e d => by
      cases q : H b with
      | none => rfl
      | some u =>
        have e' : b = a := hA b (by rw [q]; simp)
        subst e'
        rw [ha] at e; cases e
        have d' : Data.seq vs.toArray _ = Data.dict es ep := d
        cases d'
    have nsK : ∀ {b : Addr} {m : Str → Option Value}, s₁.heap.Ns b m → (hidT s₁.heap H).Ns b m := fun {b m} ⟨o, es, ep, e, d, r⟩ => ⟨o, es, ep, base_of e (noA e d), d, r⟩
    have hKb : K.In (hidT s₁.heap H) := fun b o e => base_of (KX b o e) (by
      cases q : H b with
      | none => rfl
      | some u =>
        have e' : b = a := hA b (by rw [q]; simp)
        subst e'
        rw [hK (by rw [q]; simp)] at e; cases e)
    have hM : Mod K mg (hidT s₁.heap H) := ⟨hKb, nsK hns, ⟨mb, nsK hb, hbb⟩, let ⟨mc, h1, h2⟩ := hlim; ⟨mc, nsK h1, h2⟩⟩
    have e0 : Env0 P w K mg (hidT s₁.heap H) callerA [] s₁ H := ⟨rfl, hM, fun b o e => of_hidT e, Nat.le_of_eq (hidT_size _ _), trivial, fun b hb => absurd (show b ∈ ([] : List Addr) from hb) (by simp), hok, .of_eq hg⟩
    refine codeAny_mono ((F _ hKb (nsK hns)).run callerA [] s₁ H ⟨[.ref a], []⟩ [.ref a] [.ref a] _ _ hr e0 (hbind s₁ (.ref a)) (.cons rfl .nil) (hsp H hO hS)) fun r s' h => ?_
    cases r with
    | error e => exact (hCX H e s' h).elim
    | ok fl =>
      cases fl with
      | next => exact False.elim h
      | brk => exact False.elim h
      | cont => exact False.elim h
      | ret u =>
        obtain ⟨v, H', os, bare, un, hok', r', q⟩ := h
        have q' : v = .bl true := q
        subst q'
        obtain rfl : u = Value.bool true := r'
        refine ⟨rfl, OldK.of_keep fun b o e => ?_, os, bare⟩
        cases q : H b with
        | none => exact un.keep b o e q (by intro z; exact absurd (show b ∈ ([] : List Addr) from z) (by simp)) (by simp)
        | some u =>
          rcases hO b with z | ⟨ob, xs, z⟩
          · rw [q] at z; cases z
          · have z2 := un.frzs b ob _ z
            obtain ⟨e1, _⟩ := hok b _ z
            obtain ⟨e2, _⟩ := hok' b _ z2
            rw [e] at e1; cases e1
            exact e2
  cases hk : K.lookup a with
  | some o =>
    -- the script is one of the module's own objects
    have e := KX a o hk
    rw [ha] at e
    cases e
    refine core (fun _ => none) (fun _ => .inl rfl) (.inr ⟨_, vs.toArray, _, hk, rfl, rfl, rfl, by rw [List.size_toArray, lenV]; exact hl, by simpa using rv⟩) (fun b u z => by have z' : (none : Option HO) = some u := z; cases z') (fun b z => absurd rfl z) fun z => absurd rfl z
  | none =>
    refine core (fun b => if b = a then some (.frz { cls := .type "list", data := .seq vs.toArray } (.lst (ns.map V.int))) else none) (fun b => ?_) (.inl (.inr ⟨{ cls := .type "list", data := .seq vs.toArray }, if_pos rfl⟩)) (fun b u z => ?_) (fun b z => ?_) fun _ => hk
    · by_cases hb : b = a
      · exact .inr ⟨_, _, if_pos hb⟩
      · exact .inl (if_neg hb)
    · by_cases hb : b = a
      · have z' := (if_pos hb).symm.trans z
        cases z'
        subst hb
        exact ⟨ha, by rw [List.length_map]; exact hl, vs, _, rv, ha⟩
      · have z' := (if_neg hb).symm.trans z
        cases z'
    · by_cases hb : b = a
      · exact hb
      · exact absurd (if_neg hb) z
end L2
namespace L2
open PySem PySem.Spec PyProof.Rows
theorem walk_of {l : PySem.W.OpenLaw} {n k : Nat} {q : Program} {loose : List Str} {XP : (Str → Option Value) → Heap → Prop} {YP : World → Heap → Prop} {d : DefRec} {K : Params → PySem.W.Frag} {CX : World → CXT} {sp : World → Sp} {x : Str}
    (hn : l.most = some n) (hn2 : n ≤ sizeLine) (hdf : d.params.defaults = []) (hr : Room k callerA)
    (hY : ∀ (w : World) (h : Heap), YP w h → (K w.params).In h)
    (F : ∀ (w : World) (mg : Str → Option Value) (fa : Addr) (h : Heap), (K w.params).In h → h.Ns mainGlobals mg → mg d.name = some (.ref fa) →
      ∃ fd : FuncData, (∀ (s : Shared) (u : Value), BindsTo s fd ⟨[u], []⟩ [(x, u)]) ∧
        ∀ base : Heap, (K w.params).In base → base.Ns mainGlobals mg → FnOk l.prog w (K w.params) mg base (CX w) k fa fd [x] (sp w))
    (hsp : ∀ (w : World) (H : Hp) (a : Addr) (ns : List Int), ns.length ≤ n → Only H → SqL (K w.params) H a (ns.map V.int) → sp w [.ref a] H (fun v _ => v = .bl true) fun _ _ _ => False)
    (hCX : ∀ (w : World) (H : Hp) (s : Shared) (e : Value) (s' : Shared), CX w [] H s (fun _ _ _ => False) e s' → False) :
    PySem.W.WalkO q loose XP YP l.row.toRowW d [] (fun f vs => PySem.call f vs) := by
  refine Att.attach_call hn hdf fun w s₀ s₁ mg mb fa o pm cd doc a vs ns G Y ho hd hcd hmg hobj hints hlen hg => ?_
  have KX := hY w _ Y
  obtain ⟨fd, hb, hF⟩ := F w mg fa _ KX G.T.g hmg
  exact law_call KX G.T.g G.T.b G.T.builtins G.T.nolimit hg hobj hints (Nat.le_trans hlen hn2) hr hF hb (fun H hO hS => hsp w H a ns hlen hO hS) fun H e s' => hCX w H s₁ e s'
theorem walk_ofK {l : PySem.W.OpenLaw} {n k : Nat} {q : Program} {loose : List Str} {XP : (Str → Option Value) → Heap → Prop} {YP : World → Heap → Prop} {d : DefRec} {K : Params → PySem.W.Frag} {CX : CXT} {sp : PySem.W.Frag → Sp} {x : Str}
    (hn : l.most = some n) (hn2 : n ≤ sizeLine) (hdf : d.params.defaults = []) (hr : Room k callerA)
    (hY : ∀ (w : World) (h : Heap), YP w h → (K w.params).In h)
    (F : ∀ (w : World) (mg : Str → Option Value) (fa : Addr) (h : Heap), (K w.params).In h → h.Ns mainGlobals mg → mg d.name = some (.ref fa) →
      ∃ fd : FuncData, (∀ (s : Shared) (u : Value), BindsTo s fd ⟨[u], []⟩ [(x, u)]) ∧
        ∀ base : Heap, (K w.params).In base → base.Ns mainGlobals mg → FnOk l.prog w (K w.params) mg base CX k fa fd [x] (sp (K w.params)))
    (hsp : ∀ (K : PySem.W.Frag) (H : Hp) (a : Addr) (ns : List Int), ns.length ≤ n → Only H → SqL K H a (ns.map V.int) → sp K [.ref a] H (fun v _ => v = .bl true) fun _ _ _ => False)
    (hCX : ∀ (H : Hp) (s : Shared) (e : Value) (s' : Shared), CX [] H s (fun _ _ _ => False) e s' → False) :
    PySem.W.WalkO q loose XP YP l.row.toRowW d [] (fun f vs => PySem.call f vs) :=
  walk_of (K := K) (CX := fun _ => CX) (sp := fun w => sp (K w.params)) hn hn2 hdf hr hY F (fun w H a ns h1 h2 h3 => hsp (K w.params) H a ns h1 h2 h3) fun _ H s e s' => hCX H s e s'
end L2
namespace L2
open PySem PySem.Spec PyProof.Rows
def defArgs (s : Stmt) : Arguments := match s with
  | .FunctionDef _ a _ _ _ _ _ _ _ _ => a
  | _ => { posonlyargs := [], args := [], vararg := none, kwonlyargs := [], kw_defaults := [], kwarg := none, defaults := [] }
def defBody (s : Stmt) : List Stmt := match s with
  | .FunctionDef _ _ b _ _ _ _ _ _ _ => b
  | _ => []
def defScope (s : Stmt) : Scope := match s with
  | .FunctionDef _ _ _ _ _ _ sc _ _ _ => sc
  | _ => { kind := .function, names := [], isGenerator := false, isCoroutine := false }
abbrev CX0 : CXT := fun _ _ _ _ _ _ => False
abbrev E0 : XK := fun _ _ _ => False
theorem pass0 {X : Cx} : Passes CX0 X E0 := fun _ _ _ _ _ _ _ h => h.elim
structure Fun (K : PySem.W.Frag) (x qual : Str) (st : Stmt) (f : Addr) (fd : FuncData) : Prop where
  ex : ∃ (oc : Value) (od : Option Addr) (kV doc pm : Value) (an : Option Addr) (cdv ct : Value) (osl : Array (Option Value)),
    fd = PySem.W.fnOf x qual (defArgs st) (defBody st) (defScope st) .none kV doc pm an cdv ct ∧ K.lookup f = some ⟨oc, od, .func fd, osl⟩ ∧ PySem.W.codeIn K cdv qual = true
  kp : PySem.W.keepIn K (.ref f) = true
section
variable {P : Program} {w : World} {K : PySem.W.Frag} {mg : Str → Option Value} {base : Heap}
theorem Fun.ok {x qual : Str} {st : Stmt} {f : Addr} {fd : FuncData} {N ps : List Str} {k : Nat} {sp : Sp} (F : Fun K x qual st f fd) (S : FnScope N ps (defScope st)) (len : ∀ vs H Q E, sp vs H Q E → vs.length = ps.length)
    (hbody : ∀ (cdv : Value) (A : Around) (outer : List Env) (s : Shared) (H : Hp) (vs : List V) (Q : VK) (E : XK), Room k (A.deeper (envOfC qual (defScope st) s.heap.objs.size f cdv)) → sp vs H Q E →
      ∃ t, PSs (cxOf CX0 P w K mg base N qual (defScope st) f cdv A outer s H E).nox (defBody st) t ∧ t { nx := fun _ H' => Q .non H', rt := Q } (start N vs) H) : FnOk P w K mg base CX0 (k + 1) f fd ps sp := by
  obtain ⟨oc, od, kV, doc, pm, an, cdv, ct, osl, rfl, lk, hcd⟩ := F.ex
  refine fn_of lk hcd S len fun A outer s H vs Q E hr hsp => ?_
  obtain ⟨t, h, q⟩ := hbody cdv A outer s H vs Q E hr hsp
  exact ⟨t, h.nox, q⟩
theorem Fun.binds {x qual : Str} {st : Stmt} {f : Addr} {fd : FuncData} {ps : List Str} (F : Fun K x qual st f fd)
    (h : ∀ (kV doc pm : Value) (an : Option Addr) (cdv ct : Value) (us : List Value), us.length = ps.length → bindArgs (PySem.W.fnOf x qual (defArgs st) (defBody st) (defScope st) .none kV doc pm an cdv ct) ⟨us, []⟩ = pure (ps.zip us)) : Binds K fd ps [] := by
  obtain ⟨oc, od, kV, doc, pm, an, cdv, ct, osl, rfl, lk, hcd⟩ := F.ex
  exact .all (h kV doc pm an cdv ct)
theorem fun_mk {x qual : Str} {st : Stmt} {f : Addr} {oc : Value} {od an : Option Addr} {osl : Array (Option Value)} {kV doc pm cdv ct : Value} (l : K.lookup f = some ⟨oc, od, .func (PySem.W.fnOf x qual (defArgs st) (defBody st) (defScope st) .none kV doc pm an cdv ct), osl⟩)
    (c : PySem.W.codeIn K cdv qual = true) (k : PySem.W.keepIn K (.ref f) = true) : Fun K x qual st f (PySem.W.fnOf x qual (defArgs st) (defBody st) (defScope st) .none kV doc pm an cdv ct) := ⟨⟨oc, od, kV, doc, pm, an, cdv, ct, osl, rfl, l, c⟩, k⟩
end
section
variable {X : Cx}
theorem pv (i : Nat) {x : Str} {pos : Pos} (hN : X.N[i]? = some x := by rfl) (hv : Vis X.env.scope x := by first | exact Or.inl rfl | exact Or.inr (Or.inl rfl) | exact Or.inr (Or.inr rfl)) (hd : (x == ("__debug__" : Str)) = false := by decide)
    (hcd : (x == ("__classdict__" : Str)) = false := by decide) : PE X (.Name x pos) (tVar i) := pe_var hN hv hd hcd
end
def Same (H H' : Hp) : Prop := ∀ b o, H b = some o → H' b = some o
theorem Same.refl (H : Hp) : Same H H := fun _ _ h => h
theorem Same.trans {H H1 H2 : Hp} (a : Same H H1) (b : Same H1 H2) : Same H H2 := fun c o h => b c o (a c o h)
theorem Same.free {H H' : Hp} (e : Same H H') {l : Addr} (h : H' l = Option.none) : H l = Option.none := by
  cases q : H l with
  | none => rfl
  | some o =>
    rw [e l o q] at h
    cases h
theorem Same.seq {K : PySem.W.Frag} {H H' : Hp} {a : Addr} {xs : List V} (e : Same H H') (h : SqL K H a xs) : SqL K H' a xs := by
  rcases h with (h | ⟨o, h⟩) | h
  · exact .inl (.inl (e _ _ h))
  · exact .inl (.inr ⟨o, e _ _ h⟩)
  · exact .inr h
end L2
set_option Elab.async false
set_option linter.all false
set_option maxRecDepth 100000
namespace DL
open PySem PySem.Spec PyProof.Rows L2
inductive D where
  | non | bl (b : Bool) | int (i : Int) | str (x : Str) | tup (l : List D) | lst (i : Nat)
structure Cell where
  fz : Bool
  xs : List D
abbrev Sto := List Cell
abbrev Lc := List (Option D)
structure XD where
  cls : Nat
  fld : Option D
inductive Out (α : Type) where
  | ok (a : α) (S : Sto)
  | exc (x : XD) (S : Sto)
  | bad
def Out.bind {α β : Type} (o : Out α) (g : α → Sto → Out β) : Out β :=
  match o with
  | .ok a S => g a S
  | .exc x S => .exc x S
  | .bad => .bad
mutual
def Rep (K : PySem.W.Frag) (mp : List Addr) (H : Hp) : D → V → Prop
  | .non, v => v = .non
  | .bl b, v => v = .bl b
  | .int i, v => v = .int i
  | .str x, v => v = .str x
  | .tup l, v => ∃ a xs, v = .ref a ∧ SqT K H a xs ∧ RepL K mp H l xs
  | .lst i, v => ∃ a, v = .ref a ∧ mp[i]? = some a
def RepL (K : PySem.W.Frag) (mp : List Addr) (H : Hp) : List D → List V → Prop
  | [], vs => vs = []
  | d :: l, vs => ∃ v r, vs = v :: r ∧ Rep K mp H d v ∧ RepL K mp H l r
end
structure Aft (K : PySem.W.Frag) (mp : List Addr) (H : Hp) (mp' : List Addr) (H' : Hp) : Prop where
  pre : ∀ (i : Nat) (a : Addr), mp[i]? = some a → mp'[i]? = some a
  tup : ∀ a xs, SqT K H a xs → SqT K H' a xs
theorem Aft.refl {K : PySem.W.Frag} {mp : List Addr} {H : Hp} : Aft K mp H mp H := ⟨fun _ _ h => h, fun _ _ h => h⟩
theorem Aft.trans {K : PySem.W.Frag} {mp mp1 mp2 : List Addr} {H H1 H2 : Hp} (a : Aft K mp H mp1 H1) (b : Aft K mp1 H1 mp2 H2) : Aft K mp H mp2 H2 :=
  ⟨fun i x h => b.pre i x (a.pre i x h), fun x xs h => b.tup x xs (a.tup x xs h)⟩
mutual
theorem Rep.aft {K : PySem.W.Frag} {mp mp' : List Addr} {H H' : Hp} (a : Aft K mp H mp' H') : ∀ (d : D) (v : V), Rep K mp H d v → Rep K mp' H' d v
  | .non, v, h => h
  | .bl _, v, h => h
  | .int _, v, h => h
  | .str _, v, h => h
  | .tup l, v, h => by
    obtain ⟨p, xs, e, s, r⟩ := (show ∃ a xs, v = .ref a ∧ SqT K H a xs ∧ RepL K mp H l xs from h)
    exact ⟨p, xs, e, a.tup _ _ s, RepL.aft a l xs r⟩
  | .lst i, v, h => by
    obtain ⟨p, e, s⟩ := (show ∃ a, v = .ref a ∧ mp[i]? = some a from h)
    exact ⟨p, e, a.pre _ _ s⟩
theorem RepL.aft {K : PySem.W.Frag} {mp mp' : List Addr} {H H' : Hp} (a : Aft K mp H mp' H') : ∀ (l : List D) (vs : List V), RepL K mp H l vs → RepL K mp' H' l vs
  | [], vs, h => h
  | d :: l, vs, h => by
    obtain ⟨v, r, e, h1, h2⟩ := (show ∃ v r, vs = v :: r ∧ Rep K mp H d v ∧ RepL K mp H l r from h)
    exact ⟨v, r, e, Rep.aft a d v h1, RepL.aft a l r h2⟩
end
section
variable {K : PySem.W.Frag} {mp : List Addr} {H : Hp}
theorem RepL.nil : RepL K mp H [] [] := rfl
theorem RepL.cons {d : D} {v : V} {l : List D} {r : List V} (h : Rep K mp H d v) (t : RepL K mp H l r) : RepL K mp H (d :: l) (v :: r) := ⟨v, r, rfl, h, t⟩
theorem RepL.len : ∀ {l : List D} {vs : List V}, RepL K mp H l vs → vs.length = l.length
  | [], vs, h => by cases (show vs = [] from h); rfl
  | d :: l, vs, h => by
    obtain ⟨v, r, e, h1, h2⟩ := h
    subst e
    simp [RepL.len h2]
theorem RepL.get : ∀ {l : List D} {vs : List V} {i : Nat} {d : D}, RepL K mp H l vs → l[i]? = some d → ∃ v, vs[i]? = some v ∧ Rep K mp H d v
  | [], _, _, _, _, e => by simp at e
  | d :: l, vs, 0, _, h, e => by
    obtain ⟨v, r, q, h1, h2⟩ := h
    subst q
    simp at e
    subst e
    exact ⟨v, rfl, h1⟩
  | d :: l, vs, i + 1, x, h, e => by
    obtain ⟨v, r, q, h1, h2⟩ := h
    subst q
    obtain ⟨v', a, b⟩ := RepL.get (i := i) (d := x) h2 (by simpa using e)
    exact ⟨v', by simpa using a, b⟩
theorem RepL.append : ∀ {l m : List D} {vs ws : List V}, RepL K mp H l vs → RepL K mp H m ws → RepL K mp H (l ++ m) (vs ++ ws)
  | [], m, vs, ws, h, g => by cases (show vs = [] from h); exact g
  | d :: l, m, vs, ws, h, g => by
    obtain ⟨v, r, q, h1, h2⟩ := h
    subst q
    exact ⟨v, r ++ ws, rfl, h1, RepL.append h2 g⟩
theorem RepL.take : ∀ {l : List D} {vs : List V} (n : Nat), RepL K mp H l vs → RepL K mp H (l.take n) (vs.take n)
  | [], vs, n, h => by cases (show vs = [] from h); simp; exact RepL.nil
  | d :: l, vs, 0, h => by simp; exact RepL.nil
  | d :: l, vs, n + 1, h => by
    obtain ⟨v, r, q, h1, h2⟩ := h
    subst q
    simpa using RepL.cons h1 (RepL.take n h2)
theorem RepL.drop : ∀ {l : List D} {vs : List V} (n : Nat), RepL K mp H l vs → RepL K mp H (l.drop n) (vs.drop n)
  | [], vs, n, h => by cases (show vs = [] from h); simp; exact RepL.nil
  | d :: l, vs, 0, h => by simpa using h
  | d :: l, vs, n + 1, h => by
    obtain ⟨v, r, q, h1, h2⟩ := h
    subst q
    simpa using RepL.drop n h2
theorem RepL.set : ∀ {l : List D} {vs : List V} {d : D} {v : V} (n : Nat), RepL K mp H l vs → Rep K mp H d v → RepL K mp H (l.set n d) (vs.set n v)
  | [], vs, d, v, n, h, g => by cases (show vs = [] from h); simp; exact RepL.nil
  | x :: l, vs, d, v, 0, h, g => by
    obtain ⟨v', r, q, h1, h2⟩ := h
    subst q
    simpa using RepL.cons g h2
  | x :: l, vs, d, v, n + 1, h, g => by
    obtain ⟨v', r, q, h1, h2⟩ := h
    subst q
    simpa using RepL.cons h1 (RepL.set n h2 g)
theorem RepL.rep {d : D} {v : V} (h : Rep K mp H d v) : ∀ n : Nat, RepL K mp H (List.replicate n d) (List.replicate n v)
  | 0 => RepL.nil
  | n + 1 => RepL.cons h (RepL.rep h n)
end
def SqF (K : PySem.W.Frag) (H : Hp) (a : Addr) (xs : List V) : Prop :=
  (∃ o, H a = some (.frz o (.lst xs))) ∨
    ∃ (o : Obj) (its : Array Value) (n : Nat), K.lookup a = some o ∧ o.cls = .type "list" ∧ o.dict = none ∧ o.data = .seq its n ∧ its.size ≤ sizeLine ∧ Vals xs its.toList
theorem SqF.sq {K : PySem.W.Frag} {H : Hp} {a : Addr} {xs : List V} (h : SqF K H a xs) : SqL K H a xs := by
  rcases h with h | h
  · exact .inl (.inr h)
  · exact .inr h
def CellOk (K : PySem.W.Frag) (mp : List Addr) (H : Hp) (a : Addr) (c : Cell) : Prop :=
  ∃ xs, RepL K mp H c.xs xs ∧ (if c.fz = true then SqF K H a xs else H a = some (.lst xs))
structure RS (K : PySem.W.Frag) (mp : List Addr) (H : Hp) (S : Sto) : Prop where
  len : mp.length = S.length
  cell : ∀ (i : Nat) (a : Addr) (c : Cell), mp[i]? = some a → S[i]? = some c → CellOk K mp H a c
  inj : ∀ (i j : Nat) (a : Addr) (ci cj : Cell), mp[i]? = some a → mp[j]? = some a → S[i]? = some ci → S[j]? = some cj → ci.fz = false → cj.fz = false → i = j
structure Gd (K : PySem.W.Frag) (mp : List Addr) (H : Hp) (σ : L2.St) (ρ : Lc) (S : Sto) : Prop where
  rs : RS K mp H S
  len : σ.length = ρ.length
  loc : ∀ (i : Nat) (d : D), ρ[i]? = some (some d) → ∃ v, σ[i]? = some (some v) ∧ Rep K mp H d v
theorem Gd.aft {K : PySem.W.Frag} {mp mp' : List Addr} {H H' : Hp} {σ : L2.St} {ρ : Lc} {S S' : Sto} (g : Gd K mp H σ ρ S) (a : Aft K mp H mp' H') (r : RS K mp' H' S') : Gd K mp' H' σ ρ S' :=
  ⟨r, g.len, fun i d h => let ⟨v, e, q⟩ := g.loc i d h; ⟨v, e, q.aft a⟩⟩
abbrev XW := XD → List Addr → Hp → L2.St → Lc → Sto → Prop
abbrev RL (α β : Type) := List Addr → Hp → α → β → Prop
def PostG {α β : Type} (K : PySem.W.Frag) (R : RL α β) (XQ : XW) (σ : L2.St) (ρ : Lc) (mp : List Addr) (H : Hp) (o : Out α) (Q : β → Hp → Prop) : Prop :=
  match o with
  | .ok d S => ∀ mp' H' v, Aft K mp H mp' H' → RS K mp' H' S → R mp' H' d v → Q v H'
  | .exc x S => ∀ mp' H', Aft K mp H mp' H' → Gd K mp' H' σ ρ S → XQ x mp' H' σ ρ S
  | .bad => False
theorem PostG.aft {α β : Type} {K : PySem.W.Frag} {R : RL α β} {XQ : XW} {σ : L2.St} {ρ : Lc} {mp mp' : List Addr} {H H' : Hp} {o : Out α} {Q : β → Hp → Prop} (p : PostG K R XQ σ ρ mp H o Q) (a : Aft K mp H mp' H') : PostG K R XQ σ ρ mp' H' o Q := by
  cases o with
  | ok d S => exact fun m h v b => p m h v (a.trans b)
  | exc x S => exact fun m h b => p m h (a.trans b)
  | bad => exact p
theorem PostG.ok {α β : Type} {K : PySem.W.Frag} {R : RL α β} {XQ : XW} {σ : L2.St} {ρ : Lc} {mp : List Addr} {H : Hp} {d : α} {S : Sto} {v : β} {Q : β → Hp → Prop} (p : PostG K R XQ σ ρ mp H (.ok d S) Q) (r : RS K mp H S) (h : R mp H d v) : Q v H := p mp H v .refl r h
abbrev Post (K : PySem.W.Frag) (XQ : XW) := PostG (β := V) K (Rep K) XQ
abbrev Ev (α : Type) := Lc → Sto → Out α
def rdG {α β : Type} (K : PySem.W.Frag) (R : RL α β) (XQ : XW) (f : Ev α) : L2.St → Hp → (β → Hp → Prop) → Prop := fun σ H Q => ∃ mp ρ S, Gd K mp H σ ρ S ∧ PostG K R XQ σ ρ mp H (f ρ S) Q
def kB : RL Bool Bool := fun _ _ a b => b = a
def kO : RL (Option Int) (Option Int) := fun _ _ a b => b = a
abbrev rdE (K : PySem.W.Frag) (XQ : XW) (f : Ev D) : TE := rdG K (Rep K) XQ f
abbrev rdA (K : PySem.W.Frag) (XQ : XW) (f : Ev (List D)) : TA := rdG K (RepL K) XQ f
abbrev rdT (K : PySem.W.Frag) (XQ : XW) (f : Ev Bool) : TT := rdG K kB XQ f
abbrev rdO (K : PySem.W.Frag) (XQ : XW) (f : Ev (Option Int)) : TO := rdG K kO XQ f
def JE (X : Cx) (XQ : XW) (e : Expr) (f : Ev D) : Prop := PE X e (rdE X.K XQ f)
def JA (X : Cx) (XQ : XW) (es : List Expr) (f : Ev (List D)) : Prop := PA X es (rdA X.K XQ f)
def JT (X : Cx) (XQ : XW) (e : Expr) (f : Ev Bool) : Prop := PT X e (rdT X.K XQ f)
def JW (X : Cx) (XQ : XW) (e : Expr) (f : Ev Bool) : Prop := PW X e (rdT X.K XQ f)
def JO (X : Cx) (XQ : XW) (e : Option Expr) (f : Ev (Option Int)) : Prop := PO X e (rdO X.K XQ f)
theorem PE.mono {X : Cx} {e : Expr} {t t' : TE} (h : PE X e t) (m : ∀ σ H Q, t' σ H Q → t σ H Q) : PE X e t' := fun pins s σ H Q I q => h pins s σ H Q I (m σ H Q q)
theorem PT.mono {X : Cx} {e : Expr} {t t' : TT} (h : PT X e t) (m : ∀ σ H Q, t' σ H Q → t σ H Q) : PT X e t' := fun pins s σ H Q I q => h pins s σ H Q I (m σ H Q q)
theorem PW.mono {X : Cx} {e : Expr} {t t' : TT} (h : PW X e t) (m : ∀ σ H Q, t' σ H Q → t σ H Q) : PW X e t' := fun wh pins s σ H Q I q => h wh pins s σ H Q I (m σ H Q q)
theorem PO.mono {X : Cx} {e : Option Expr} {t t' : TO} (h : PO X e t) (m : ∀ σ H Q, t' σ H Q → t σ H Q) : PO X e t' := fun pins s σ H Q I q => h pins s σ H Q I (m σ H Q q)
theorem PA.mono {X : Cx} {e : List Expr} {t t' : TA} (h : PA X e t) (m : ∀ σ H Q, t' σ H Q → t σ H Q) : PA X e t' := fun pos pins s σ H Q I q => h pos pins s σ H Q I (m σ H Q q)
theorem PS.mono {X : Cx} {e : Stmt} {t t' : TS} (h : PS X e t) (m : ∀ D σ H, t' D σ H → t D σ H) : PS X e t' := fun pins s σ H D I q => h pins s σ H D I (m D σ H q)
theorem PSs.mono {X : Cx} {e : List Stmt} {t t' : TS} (h : PSs X e t) (m : ∀ D σ H, t' D σ H → t D σ H) : PSs X e t' := fun pins s σ H D I q => h pins s σ H D I (m D σ H q)
theorem bindP {α β γ δ : Type} {K : PySem.W.Frag} {R : RL α β} {R' : RL γ δ} {XQ : XW} {mp : List Addr} {H : Hp} {σ : L2.St} {ρ : Lc} {S : Sto} {f : Ev α} {g : α → Sto → Out γ} {Q : δ → Hp → Prop} {Q1 : β → Hp → Prop} (G : Gd K mp H σ ρ S) (p : PostG K R' XQ σ ρ mp H ((f ρ S).bind g) Q)
    (k : ∀ mp1 H1 d S1 v, Aft K mp H mp1 H1 → Gd K mp1 H1 σ ρ S1 → R mp1 H1 d v → PostG K R' XQ σ ρ mp1 H1 (g d S1) Q → Q1 v H1) : rdG K R XQ f σ H Q1 := by
  refine ⟨mp, ρ, S, G, ?_⟩
  cases e : f ρ S with
  | ok d S1 =>
    rw [e] at p
    exact fun mp1 H1 v a rs r => k mp1 H1 d S1 v a (G.aft a rs) r (PostG.aft p a)
  | exc x S1 => rw [e] at p; exact p
  | bad => rw [e] at p; exact p
def vr (i : Nat) : Ev D := fun ρ S => match ρ[i]? with
  | some (some d) => .ok d S
  | _ => .bad
def cn (d : D) : Ev D := fun _ S => .ok d S
section
variable {X : Cx} {XQ : XW}
theorem je_var (i : Nat) {x : Str} {pos : Pos} (hN : X.N[i]? = some x := by rfl) (hv : Vis X.env.scope x := by first | exact Or.inl rfl | exact Or.inr (Or.inl rfl) | exact Or.inr (Or.inr rfl)) (hd : (x == ("__debug__" : Str)) = false := by decide)
    (hcd : (x == ("__classdict__" : Str)) = false := by decide) : JE X XQ (.Name x pos) (vr i) := by
  refine PE.mono (pe_var hN hv hd hcd) fun σ H Q ⟨mp, ρ, S, G, p⟩ => ?_
  unfold vr at p
  cases e : ρ[i]? with
  | none => rw [e] at p; exact p.elim
  | some o =>
    rw [e] at p
    cases o with
    | none => exact p.elim
    | some d =>
      obtain ⟨v, h1, h2⟩ := G.loc i d e
      exact ⟨v, h1, PostG.ok p G.rs h2⟩
theorem je_const {e : Expr} {d : D} {v : V} (h : PE X e (tC v)) (r : ∀ mp H, Rep X.K mp H d v) : JE X XQ e (cn d) :=
  PE.mono h fun σ H Q ⟨mp, ρ, S, G, p⟩ => PostG.ok p G.rs (r mp H)
theorem je_int {i : Int} {j pos} : JE X XQ (.Constant (.int i) j pos) (cn (.int i)) := je_const pe_int fun _ _ => rfl
theorem je_bl {b : Bool} {j pos} : JE X XQ (.Constant (.bool b) j pos) (cn (.bl b)) := je_const pe_bl fun _ _ => rfl
theorem je_non {j pos} : JE X XQ (.Constant .none j pos) (cn .non) := je_const pe_non fun _ _ => rfl
theorem je_str {x : Str} {j pos} : JE X XQ (.Constant (.str x) j pos) (cn (.str x)) := je_const pe_str fun _ _ => rfl
def an : Ev (List D) := fun _ S => .ok [] S
def ac (f : Ev D) (g : Ev (List D)) : Ev (List D) := fun ρ S => (f ρ S).bind fun x S1 => (g ρ S1).bind fun xs S2 => .ok (x :: xs) S2
theorem ja_nil : JA X XQ [] an := PA.mono pa_nil fun σ H Q ⟨mp, ρ, S, G, p⟩ => PostG.ok p G.rs RepL.nil
theorem ja_cons {e : Expr} {es : List Expr} {f : Ev D} {g : Ev (List D)} (ha : JE X XQ e f) (hr : JA X XQ es g) (hs : starEach (e :: es) X.env = (false, eval e X.env) :: starEach es X.env := by rfl) : JA X XQ (e :: es) (ac f g) := by
  refine PA.mono (pa_cons ha hr hs) fun σ H Q ⟨mp, ρ, S, G, p⟩ => ?_
  refine bindP G p fun mp1 H1 x S1 v a1 G1 r1 p1 => ?_
  refine bindP G1 p1 fun mp2 H2 xs S2 vs a2 G2 r2 p2 => ?_
  exact PostG.ok p2 G2.rs (RepL.cons (Rep.aft a2 _ _ r1) r2)
theorem aft_new {K : PySem.W.Frag} {mp : List Addr} {H : Hp} {p : Addr} {o : HO} (h : H p = none) : Aft K mp H mp (upd H p o) := by
  refine ⟨fun _ _ e => e, fun a xs s => ?_⟩
  rcases s with (s | ⟨ob, s⟩) | s
  · exact .inl (.inl (by rw [upd_ne (ne_of_none s h)]; exact s))
  · exact .inl (.inr ⟨ob, by rw [upd_ne (ne_of_none s h)]; exact s⟩)
  · exact .inr s
theorem sqF_new {K : PySem.W.Frag} {H : Hp} {p a : Addr} {o : HO} {xs : List V} (h : H p = none) (s : SqF K H a xs) : SqF K (upd H p o) a xs := by
  rcases s with ⟨ob, s⟩ | s
  · exact .inl ⟨ob, by rw [upd_ne (ne_of_none s h)]; exact s⟩
  · exact .inr s
theorem CellOk.new {K : PySem.W.Frag} {mp mp' : List Addr} {H : Hp} {p a : Addr} {o : HO} {c : Cell} (h : H p = none) (af : Aft K mp H mp' (upd H p o)) (q : CellOk K mp H a c) : CellOk K mp' (upd H p o) a c := by
  obtain ⟨xs, r, e⟩ := q
  refine ⟨xs, RepL.aft af _ _ r, ?_⟩
  cases z : c.fz with
  | true => rw [z] at e; exact (if_pos rfl).mpr (sqF_new h ((if_pos rfl).mp e))
  | false =>
    rw [z, if_neg Bool.false_ne_true] at e
    rw [if_neg Bool.false_ne_true, upd_ne (ne_of_none e h)]
    exact e
theorem RS.new {K : PySem.W.Frag} {mp : List Addr} {H : Hp} {S : Sto} {p : Addr} {o : HO} (r : RS K mp H S) (h : H p = none) : RS K mp (upd H p o) S :=
  ⟨r.len, fun i a c e1 e2 => (r.cell i a c e1 e2).new h (aft_new h), r.inj⟩
theorem RS.newL {K : PySem.W.Frag} {mp : List Addr} {H : Hp} {S : Sto} {p : Addr} {ds : List D} {vs : List V} (r : RS K mp H S) (h : H p = none) (q : RepL K mp H ds vs) :
    Aft K mp H (mp ++ [p]) (upd H p (.lst vs)) ∧ RS K (mp ++ [p]) (upd H p (.lst vs)) (S ++ [⟨false, ds⟩]) ∧ (mp ++ [p])[S.length]? = some p := by
  have af : Aft K mp H (mp ++ [p]) (upd H p (.lst vs)) := ⟨fun i a e => by rw [List.getElem?_append_left (List.getElem?_eq_some_iff.mp e).1]; exact e, (aft_new (mp := mp) h).tup⟩
  have hl := r.len
  have lastp : (mp ++ [p])[S.length]? = some p := by rw [← hl]; simp
  refine ⟨af, ⟨by simp [hl], fun i a c e1 e2 => ?_, fun i j a ci cj e1 e2 e3 e4 f1 f2 => ?_⟩, lastp⟩
  · by_cases hi : i < S.length
    · rw [List.getElem?_append_left (by omega)] at e1
      rw [List.getElem?_append_left hi] at e2
      exact (r.cell i a c e1 e2).new h af
    · have hi' : i = S.length := by
        have := (List.getElem?_eq_some_iff.mp e2).1
        simp at this
        omega
      subst hi'
      rw [lastp] at e1
      cases e1
      simp at e2
      subst e2
      exact ⟨vs, RepL.aft af _ _ q, by simp [upd_same]⟩
  · have old : ∀ (i : Nat) (a : Addr) (c : Cell), i < S.length → (mp ++ [p])[i]? = some a → (S ++ [⟨false, ds⟩])[i]? = some c → c.fz = false → mp[i]? = some a ∧ S[i]? = some c ∧ a ≠ p := fun i a c hi e1 e2 f => by
      rw [List.getElem?_append_left (by omega)] at e1
      rw [List.getElem?_append_left hi] at e2
      refine ⟨e1, e2, ?_⟩
      obtain ⟨xs, _, e⟩ := r.cell i a c e1 e2
      rw [f, if_neg Bool.false_ne_true] at e
      exact ne_of_none e h
    have hi := (List.getElem?_eq_some_iff.mp e3).1
    have hj := (List.getElem?_eq_some_iff.mp e4).1
    simp at hi hj
    by_cases hi' : i < S.length
    · obtain ⟨o1, o2, o3⟩ := old i a ci hi' e1 e3 f1
      by_cases hj' : j < S.length
      · obtain ⟨u1, u2, u3⟩ := old j a cj hj' e2 e4 f2
        exact r.inj i j a ci cj o1 u1 o2 u2 f1 f2
      · have : j = S.length := by omega
        subst this
        rw [lastp] at e2
        cases e2
        exact absurd rfl o3
    · have : i = S.length := by omega
      subst this
      rw [lastp] at e1
      cases e1
      by_cases hj' : j < S.length
      · obtain ⟨u1, u2, u3⟩ := old j _ cj hj' e2 e4 f2
        exact absurd rfl u3
      · omega
theorem RS.setL {K : PySem.W.Frag} {mp : List Addr} {H : Hp} {S : Sto} {i : Nat} {a : Addr} {c : Cell} {xs vs : List V} {ds : List D} (r : RS K mp H S) (hi : mp[i]? = some a) (hc : S[i]? = some c) (hf : c.fz = false) (ha : H a = some (.lst xs)) (q : RepL K mp H ds vs) :
    Aft K mp H mp (upd H a (.lst vs)) ∧ RS K mp (upd H a (.lst vs)) (S.set i ⟨false, ds⟩) := by
  have af : Aft K mp H mp (upd H a (.lst vs)) := by
    refine ⟨fun _ _ e => e, fun b ys s => ?_⟩
    rcases s with (s | ⟨ob, s⟩) | s
    · exact .inl (.inl (by rw [upd_ne (ne_of s ha (by intro z; cases z))]; exact s))
    · exact .inl (.inr ⟨ob, by rw [upd_ne (ne_of s ha (by intro z; cases z))]; exact s⟩)
    · exact .inr s
  refine ⟨af, ⟨by simp [r.len], fun j b cj e1 e2 => ?_, fun j k b cj ck e1 e2 e3 e4 f1 f2 => ?_⟩⟩
  · by_cases hj : j = i
    · subst hj
      rw [hi] at e1
      cases e1
      rw [List.getElem?_set_self (List.getElem?_eq_some_iff.mp hc).1] at e2
      cases e2
      exact ⟨vs, RepL.aft af _ _ q, by simp [upd_same]⟩
    · rw [List.getElem?_set_ne (Ne.symm hj)] at e2
      obtain ⟨ys, h1, h2⟩ := r.cell j b cj e1 e2
      refine ⟨ys, RepL.aft af _ _ h1, ?_⟩
      cases z : cj.fz with
      | true =>
        rw [z] at h2
        have h2 : SqF K H b ys := (if_pos rfl).mp h2
        refine (if_pos rfl).mpr ?_
        rcases h2 with ⟨ob, s⟩ | s
        · exact .inl ⟨ob, by rw [upd_ne (ne_of s ha (by intro z; cases z))]; exact s⟩
        · exact .inr s
      | false =>
        rw [z, if_neg Bool.false_ne_true] at h2
        rw [if_neg Bool.false_ne_true]
        have hb : b ≠ a := fun hb => by
          subst hb
          exact hj (r.inj j i b cj c e1 hi e2 hc z hf)
        rw [upd_ne hb]
        exact h2
  · have fz : ∀ (j : Nat) (cj : Cell), (S.set i ⟨false, ds⟩)[j]? = some cj → cj.fz = false → ∃ c', S[j]? = some c' ∧ c'.fz = false := fun j cj e f => by
      by_cases hj : j = i
      · subst hj
        exact ⟨c, hc, hf⟩
      · rw [List.getElem?_set_ne (Ne.symm hj)] at e
        exact ⟨cj, e, f⟩
    obtain ⟨c1, g1, g2⟩ := fz j cj e3 f1
    obtain ⟨c2, g3, g4⟩ := fz k ck e4 f2
    exact r.inj j k b c1 c2 e1 e2 g1 g3 g2 g4
theorem RS.items {K : PySem.W.Frag} {mp : List Addr} {H : Hp} {S : Sto} {i : Nat} {c : Cell} {v : V} (r : RS K mp H S) (h : Rep K mp H (.lst i) v) (e : S[i]? = some c) : ∃ a xs, v = .ref a ∧ mp[i]? = some a ∧ SqL K H a xs ∧ RepL K mp H c.xs xs ∧ (c.fz = false → H a = some (.lst xs)) := by
  obtain ⟨a, ev, ea⟩ := (show ∃ a, v = .ref a ∧ mp[i]? = some a from h)
  obtain ⟨xs, q, z⟩ := r.cell i a c ea e
  cases f : c.fz with
  | true => rw [f] at z; exact ⟨a, xs, ev, ea, ((if_pos rfl).mp z : SqF K H a xs).sq, q, fun w => nomatch w⟩
  | false => rw [f, if_neg Bool.false_ne_true] at z; exact ⟨a, xs, ev, ea, SqL.of z, q, fun _ => z⟩
theorem Rep.tup {K : PySem.W.Frag} {mp : List Addr} {H : Hp} {l : List D} {v : V} (h : Rep K mp H (.tup l) v) : ∃ a xs, v = .ref a ∧ SqT K H a xs ∧ RepL K mp H l xs := h
def OpD (K : PySem.W.Frag) (r : R2) (o : D → D → Sto → Out D) : Prop :=
  ∀ (XQ : XW) (σ : L2.St) (ρ : Lc) (mp : List Addr) (H : Hp) (S : Sto) (x y : D) (v u : V) (Q : VK), RS K mp H S → Rep K mp H x v → Rep K mp H y u → Post K XQ σ ρ mp H (o x y S) Q → r v u H Q
def o2 (o : D → D → Sto → Out D) (fa fb : Ev D) : Ev D := fun ρ S => (fa ρ S).bind fun x S1 => (fb ρ S1).bind fun y S2 => o x y S2
theorem opR2 {r : R2} {o : D → D → Sto → Out D} {fa fb : Ev D} (hd : OpD X.K r o) : ∀ σ H Q, rdE X.K XQ (o2 o fa fb) σ H Q → tOp r (rdE X.K XQ fa) (rdE X.K XQ fb) σ H Q := by
  intro σ H Q ⟨mp, ρ, S, G, p⟩
  refine bindP G p fun mp1 H1 x S1 v a1 G1 r1 p1 => ?_
  refine bindP G1 p1 fun mp2 H2 y S2 u a2 G2 r2 p2 => ?_
  exact hd XQ σ ρ mp2 H2 S2 x y v u Q G2.rs (Rep.aft a2 _ _ r1) r2 p2
theorem je_op {a b : Expr} {fa fb : Ev D} {op : Operator} {r : R2} {o : D → D → Sto → Out D} {pos : Pos} (ho : OpR X (binaryOp op) r) (hd : OpD X.K r o) (ha : JE X XQ a fa) (hb : JE X XQ b fb) : JE X XQ (.BinOp a op b pos) (o2 o fa fb) :=
  PE.mono (pe_op ho ha hb) (opR2 hd)
theorem je_cmp {a b : Expr} {fa fb : Ev D} {op : CmpOp} {r : R2} {o : D → D → Sto → Out D} {pos : Pos} (ho : OpR X (compareOp op) r) (hd : OpD X.K r o) (ha : JE X XQ a fa) (hb : JE X XQ b fb) (hm : behindInMarks op b = false) : JE X XQ (.Compare a [op] [b] pos) (o2 o fa fb) :=
  PE.mono (pe_cmpR ho ha hb hm) (opR2 hd)
theorem je_ix {a b : Expr} {fa fb : Ev D} {r : R2} {o : D → D → Sto → Out D} {pos : Pos} (hr : IxR X r) (hd : OpD X.K r o) (ha : JE X XQ a fa) (hb : JE X XQ b fb) (hs : PlainIx b) : JE X XQ (.Subscript a b pos) (o2 o fa fb) :=
  PE.mono (pe_ix hr ha hb hs) (opR2 hd)
def UnD (K : PySem.W.Frag) (r : V → Hp → VK → Prop) (o : D → Sto → Out D) : Prop :=
  ∀ (XQ : XW) (σ : L2.St) (ρ : Lc) (mp : List Addr) (H : Hp) (S : Sto) (x : D) (v : V) (Q : VK), RS K mp H S → Rep K mp H x v → Post K XQ σ ρ mp H (o x S) Q → r v H Q
def o1 (o : D → Sto → Out D) (fa : Ev D) : Ev D := fun ρ S => (fa ρ S).bind fun x S1 => o x S1
theorem je_un {a : Expr} {fa : Ev D} {op : UnaryOp} {r : V → Hp → VK → Prop} {o : D → Sto → Out D} {pos : Pos} (ho : UnR X (unaryOp op) r) (hd : UnD X.K r o) (ha : JE X XQ a fa) : JE X XQ (.UnaryOp op a pos) (o1 o fa) := by
  refine PE.mono (pe_un ho ha) fun σ H Q ⟨mp, ρ, S, G, p⟩ => ?_
  exact bindP G p fun mp1 H1 x S1 v a1 G1 r1 p1 => hd XQ σ ρ mp1 H1 S1 x v Q G1.rs r1 p1
def tp (f : Ev (List D)) : Ev D := fun ρ S => (f ρ S).bind fun xs S1 => if xs.length ≤ 1000000 then .ok (.tup xs) S1 else .bad
def ls (f : Ev (List D)) : Ev D := fun ρ S => (f ρ S).bind fun xs S1 => if xs.length ≤ 1000000 then .ok (.lst S1.length) (S1 ++ [⟨false, xs⟩]) else .bad
theorem line_le {n : Nat} (h : n ≤ 1000000) : n ≤ sizeLine := Nat.le_trans h (by decide)
theorem post_tup {K : PySem.W.Frag} {σ : L2.St} {ρ : Lc} {mp : List Addr} {H : Hp} {S : Sto} {ds : List D} {vs : List V} {Q : VK} {p : Addr} (po : Post K XQ σ ρ mp H (.ok (.tup ds) S) Q) (r : RS K mp H S) (q : RepL K mp H ds vs) (h : H p = none) : Q (.ref p) (upd H p (.tup vs)) := by
  have af : Aft K mp H mp (upd H p (.tup vs)) := aft_new h
  exact po mp _ _ af (r.new h) ⟨p, vs, rfl, SqT.of upd_same, RepL.aft af _ _ q⟩
theorem post_lst {K : PySem.W.Frag} {σ : L2.St} {ρ : Lc} {mp : List Addr} {H : Hp} {S : Sto} {ds : List D} {vs : List V} {Q : VK} {p : Addr} (po : Post K XQ σ ρ mp H (.ok (.lst S.length) (S ++ [⟨false, ds⟩])) Q) (r : RS K mp H S) (q : RepL K mp H ds vs) (h : H p = none) : Q (.ref p) (upd H p (.lst vs)) := by
  obtain ⟨af, rs, e⟩ := r.newL h q
  exact po _ _ _ af rs ⟨p, rfl, e⟩
theorem je_tup {es : List Expr} {f : Ev (List D)} {x1} {pos : Pos} (h : JA X XQ es f) : JE X XQ (.Tuple es x1 pos) (tp f) := by
  refine PE.mono (pe_tup h) fun σ H Q ⟨mp, ρ, S, G, p⟩ => ?_
  refine bindP G p fun mp1 H1 xs S1 vs a1 G1 r1 p1 => ?_
  by_cases hl : xs.length ≤ 1000000
  · rw [if_pos hl] at p1
    exact ⟨by rw [r1.len]; exact line_le hl, fun q hq => post_tup p1 G1.rs r1 hq⟩
  · rw [if_neg hl] at p1; exact p1.elim
theorem je_lst {es : List Expr} {f : Ev (List D)} {pos : Pos} (h : JA X XQ es f) : JE X XQ (.List es pos) (ls f) := by
  refine PE.mono (pe_lst h) fun σ H Q ⟨mp, ρ, S, G, p⟩ => ?_
  refine bindP G p fun mp1 H1 xs S1 vs a1 G1 r1 p1 => ?_
  by_cases hl : xs.length ≤ 1000000
  · rw [if_pos hl] at p1
    exact ⟨by rw [r1.len]; exact line_le hl, fun q hq => post_lst p1 G1.rs r1 hq⟩
  · rw [if_neg hl] at p1; exact p1.elim
def truD : D → Sto → Option Bool
  | .non, _ => some false
  | .bl b, _ => some b
  | .int i, _ => some (i != 0)
  | .str y, _ => if y.length ≤ 1000000 then some ((y.length : Int) != 0) else none
  | .tup l, _ => some (!l.isEmpty)
  | .lst i, S => match S[i]? with
    | some c => some (!c.xs.isEmpty)
    | none => none
def tt (f : Ev D) : Ev Bool := fun ρ S => (f ρ S).bind fun x S1 => match truD x S1 with
  | some b => .ok b S1
  | none => .bad
theorem RepL.empty {K : PySem.W.Frag} {mp : List Addr} {H : Hp} {l : List D} {vs : List V} (h : RepL K mp H l vs) : (!l.isEmpty) = !vs.isEmpty := by
  have e := h.len
  cases l <;> cases vs <;> simp_all
theorem truV_of {K : PySem.W.Frag} {mp : List Addr} {H : Hp} {S : Sto} {x : D} {v : V} {b : Bool} (r : RS K mp H S) (h : Rep K mp H x v) (e : truD x S = some b) : TruV K v H b := by
  cases x with
  | non => cases (show v = .non from h); exact (Option.some.inj e).symm
  | bl c => cases (show v = .bl c from h); exact (Option.some.inj e).symm
  | int i => cases (show v = .int i from h); exact (Option.some.inj e).symm
  | str y =>
    cases (show v = .str y from h)
    have e : (if y.length ≤ 1000000 then some ((y.length : Int) != 0) else none) = some b := e
    by_cases hl : y.length ≤ 1000000
    · rw [if_pos hl] at e; exact ⟨line_le hl, (Option.some.inj e).symm⟩
    · rw [if_neg hl] at e; cases e
  | tup l =>
    obtain ⟨a, xs, rfl, s, q⟩ := Rep.tup h
    exact .inr (.inl ⟨xs, s, by rw [← q.empty]; exact (Option.some.inj e).symm⟩)
  | lst i =>
    have e : (match S[i]? with | some c => some (!c.xs.isEmpty) | none => none) = some b := e
    cases z : S[i]? with
    | none => rw [z] at e; cases e
    | some c =>
      rw [z] at e
      obtain ⟨a, xs, rfl, _, s, q, _⟩ := r.items h z
      exact .inl ⟨xs, s, by rw [← q.empty]; exact (Option.some.inj e).symm⟩
theorem jt_val {e : Expr} {f : Ev D} (h : JE X XQ e f) (he : ∀ whole, isTrue e X.env whole = (do let v ← whole; standAt e.pos; holding [v] (truthy v)) := by intro _; rfl) : JT X XQ e (tt f) := by
  refine PT.mono (pt_truth h he) fun σ H Q ⟨mp, ρ, S, G, p⟩ => ?_
  refine bindP G p fun mp1 H1 x S1 v a1 G1 r1 p1 => ?_
  cases z : truD x S1 with
  | none => rw [z] at p1; exact p1.elim
  | some b =>
    rw [z] at p1
    exact ⟨b, truV_of G1.rs r1 z, PostG.ok p1 G1.rs rfl⟩
def tb (f : Ev D) : Ev Bool := fun ρ S => (f ρ S).bind fun x S1 => match x with
  | .bl b => .ok b S1
  | _ => .bad
theorem tb_of {K : PySem.W.Frag} {f : Ev D} {σ : L2.St} {H : Hp} {Q : Bool → Hp → Prop} (h : rdT K XQ (tb f) σ H Q) : rdE K XQ f σ H fun x H1 => ∃ k, x = .bl k ∧ Q k H1 := by
  obtain ⟨mp, ρ, S, G, p⟩ := h
  refine bindP G p fun mp1 H1 x S1 v a1 G1 r1 p1 => ?_
  cases x with
  | bl b => exact ⟨b, r1, PostG.ok p1 G1.rs rfl⟩
  | _ => exact p1.elim
theorem jt_cmp {a b : Expr} {fa fb : Ev D} {op : CmpOp} {r : R2} {o : D → D → Sto → Out D} {pos : Pos} (ho : OpR X (compareOp op) r) (hd : OpD X.K r o) (ha : JE X XQ a fa) (hb : JE X XQ b fb) (hm : behindInMarks op b = false) : JT X XQ (.Compare a [op] [b] pos) (tb (o2 o fa fb)) :=
  PT.mono (pt_cmpR ho ha hb hm) fun σ H Q h => opR2 hd σ H _ (tb_of h)
def tn (f : Ev Bool) : Ev Bool := fun ρ S => (f ρ S).bind fun b S1 => .ok (!b) S1
def ta (f g : Ev Bool) : Ev Bool := fun ρ S => (f ρ S).bind fun b S1 => if b = true then g ρ S1 else .ok false S1
def to (f g : Ev Bool) : Ev Bool := fun ρ S => (f ρ S).bind fun b S1 => if b = true then .ok true S1 else g ρ S1
theorem jt_not {a : Expr} {f : Ev Bool} {pos : Pos} (h : JT X XQ a f) : JT X XQ (.UnaryOp .Not a pos) (tn f) :=
  PT.mono (pt_not h) fun σ H Q ⟨mp, ρ, S, G, p⟩ => bindP G p fun mp1 H1 b S1 c a1 G1 r1 p1 => by
    cases (show c = b from r1)
    exact PostG.ok p1 G1.rs rfl
theorem jw_and1 {a : Expr} {f : Ev Bool} {pos : Pos} (h : JT X XQ a f) : JW X XQ (.BoolOp .And [a] pos) f := pw_and1 h
theorem jw_or1 {a : Expr} {f : Ev Bool} {pos : Pos} (h : JT X XQ a f) : JW X XQ (.BoolOp .Or [a] pos) f := pw_or1 h
theorem jw_and {a b : Expr} {rest : List Expr} {f g : Ev Bool} {pos : Pos} (h : JT X XQ a f) (hb : JW X XQ (.BoolOp .And (b :: rest) pos) g) : JW X XQ (.BoolOp .And (a :: b :: rest) pos) (ta f g) :=
  PW.mono (pw_and h hb) fun σ H Q ⟨mp, ρ, S, G, p⟩ => bindP G p fun mp1 H1 b S1 c a1 G1 r1 p1 => by
    cases (show c = b from r1)
    cases b with
    | true => exact (if_pos rfl).mpr ⟨mp1, ρ, S1, G1, by simpa using p1⟩
    | false => exact (if_neg Bool.false_ne_true).mpr (PostG.ok (R := kB) (d := false) (S := S1) (by simpa using p1) G1.rs rfl)
theorem jw_or {a b : Expr} {rest : List Expr} {f g : Ev Bool} {pos : Pos} (h : JT X XQ a f) (hb : JW X XQ (.BoolOp .Or (b :: rest) pos) g) : JW X XQ (.BoolOp .Or (a :: b :: rest) pos) (to f g) :=
  PW.mono (pw_or h hb) fun σ H Q ⟨mp, ρ, S, G, p⟩ => bindP G p fun mp1 H1 b S1 c a1 G1 r1 p1 => by
    cases (show c = b from r1)
    cases b with
    | false => exact (if_neg Bool.false_ne_true).mpr ⟨mp1, ρ, S1, G1, by simpa using p1⟩
    | true => exact (if_pos rfl).mpr (PostG.ok (R := kB) (d := true) (S := S1) (by simpa using p1) G1.rs rfl)
theorem JW.jt {e : Expr} {f : Ev Bool} (h : JW X XQ e f) : JT X XQ e f := PW.pt h
def va (f g : Ev D) : Ev D := fun ρ S => (f ρ S).bind fun x S1 => match x with
  | .bl b => if b = true then g ρ S1 else .ok (.bl false) S1
  | _ => .bad
def vo (f g : Ev D) : Ev D := fun ρ S => (f ρ S).bind fun x S1 => match x with
  | .bl b => if b = true then .ok (.bl true) S1 else g ρ S1
  | _ => .bad
def vn (f : Ev D) : Ev D := fun ρ S => (f ρ S).bind fun x S1 => match x with
  | .bl b => .ok (.bl (!b)) S1
  | _ => .bad
theorem je_one {a : Expr} {op} {f : Ev D} {pos : Pos} (h : JE X XQ a f) : JE X XQ (.BoolOp op [a] pos) f := pe_one h
theorem je_and {a b : Expr} {rest : List Expr} {f g : Ev D} {pos : Pos} (ha : JE X XQ a f) (hb : JE X XQ (.BoolOp .And (b :: rest) pos) g) : JE X XQ (.BoolOp .And (a :: b :: rest) pos) (va f g) :=
  PE.mono (pe_and ha hb) fun σ H Q ⟨mp, ρ, S, G, p⟩ => bindP G p fun mp1 H1 x S1 v a1 G1 r1 p1 => by
    cases x with
    | bl b =>
      refine ⟨b, r1, ?_⟩
      cases b with
      | true => exact (if_pos rfl).mpr ⟨mp1, ρ, S1, G1, by simpa using p1⟩
      | false => exact (if_neg Bool.false_ne_true).mpr (PostG.ok (R := Rep X.K) (d := .bl false) (S := S1) (by simpa using p1) G1.rs rfl)
    | _ => exact p1.elim
theorem je_not {a : Expr} {f : Ev D} {pos : Pos} (ha : JE X XQ a f) : JE X XQ (.UnaryOp .Not a pos) (vn f) :=
  PE.mono (pe_not ha) fun σ H Q ⟨mp, ρ, S, G, p⟩ => bindP G p fun mp1 H1 x S1 v a1 G1 r1 p1 => by
    cases x with
    | bl b => exact ⟨b, r1, PostG.ok p1 G1.rs rfl⟩
    | _ => exact p1.elim
def ie (c : Ev Bool) (f g : Ev D) : Ev D := fun ρ S => (c ρ S).bind fun b S1 => if b = true then f ρ S1 else g ρ S1
theorem je_ifx {a b c : Expr} {fc : Ev Bool} {fa fb : Ev D} {pos : Pos} (hc : JT X XQ c fc) (ha : JE X XQ a fa) (hb : JE X XQ b fb) : JE X XQ (.IfExp c a b pos) (ie fc fa fb) :=
  PE.mono (pe_ifExp hc ha hb) fun σ H Q ⟨mp, ρ, S, G, p⟩ => bindP G p fun mp1 H1 b S1 c a1 G1 r1 p1 => by
    cases (show c = b from r1)
    cases b with
    | true => exact (if_pos rfl).mpr ⟨mp1, ρ, S1, G1, by simpa using p1⟩
    | false => exact (if_neg Bool.false_ne_true).mpr ⟨mp1, ρ, S1, G1, by simpa using p1⟩
end
end DL
set_option Elab.async false
set_option linter.all false
set_option maxRecDepth 100000
namespace DL
open PySem PySem.Spec PyProof.Rows L2
inductive OS where
  | nx (ρ : Lc) (S : Sto) | rt (d : D) (S : Sto) | bk (ρ : Lc) (S : Sto) | ct (ρ : Lc) (S : Sto) | exc (x : XD) (ρ : Lc) (S : Sto) | bad
abbrev Sv := Lc → Sto → OS
def PostS (K : PySem.W.Frag) (XQ : XW) (mp : List Addr) (H : Hp) (o : OS) (E : Ends) : Prop :=
  match o with
  | .nx ρ S => ∀ mp' H' σ', Aft K mp H mp' H' → Gd K mp' H' σ' ρ S → E.nx σ' H'
  | .rt d S => ∀ mp' H' v, Aft K mp H mp' H' → RS K mp' H' S → Rep K mp' H' d v → E.rt v H'
  | .bk ρ S => ∀ mp' H' σ', Aft K mp H mp' H' → Gd K mp' H' σ' ρ S → E.bk σ' H'
  | .ct ρ S => ∀ mp' H' σ', Aft K mp H mp' H' → Gd K mp' H' σ' ρ S → E.ct σ' H'
  | .exc x ρ S => ∀ mp' H' σ', Aft K mp H mp' H' → Gd K mp' H' σ' ρ S → XQ x mp' H' σ' ρ S
  | .bad => False
theorem PostS.aft {K : PySem.W.Frag} {XQ : XW} {mp mp' : List Addr} {H H' : Hp} {o : OS} {E : Ends} (p : PostS K XQ mp H o E) (a : Aft K mp H mp' H') : PostS K XQ mp' H' o E := by
  cases o with
  | nx ρ S => exact fun m h v b => p m h v (a.trans b)
  | rt d S => exact fun m h v b => p m h v (a.trans b)
  | bk ρ S => exact fun m h v b => p m h v (a.trans b)
  | ct ρ S => exact fun m h v b => p m h v (a.trans b)
  | exc x ρ S => exact fun m h v b => p m h v (a.trans b)
  | bad => exact p
def rdS (K : PySem.W.Frag) (XQ : XW) (f : Sv) : TS := fun E σ H => ∃ mp ρ S, Gd K mp H σ ρ S ∧ PostS K XQ mp H (f ρ S) E
def JS (X : Cx) (XQ : XW) (st : Stmt) (f : Sv) : Prop := PS X st (rdS X.K XQ f)
def JSs (X : Cx) (XQ : XW) (st : List Stmt) (f : Sv) : Prop := PSs X st (rdS X.K XQ f)
def bindS {α : Type} (o : Out α) (ρ : Lc) (k : α → Sto → OS) : OS :=
  match o with
  | .ok a S => k a S
  | .exc x S => .exc x ρ S
  | .bad => .bad
theorem bindSP {α β : Type} {K : PySem.W.Frag} {R : RL α β} {XQ : XW} {mp : List Addr} {H : Hp} {σ : L2.St} {ρ : Lc} {S : Sto} {f : Ev α} {g : α → Sto → OS} {E : Ends} {Q1 : β → Hp → Prop} (G : Gd K mp H σ ρ S) (p : PostS K XQ mp H (bindS (f ρ S) ρ g) E)
    (k : ∀ mp1 H1 d S1 v, Aft K mp H mp1 H1 → Gd K mp1 H1 σ ρ S1 → R mp1 H1 d v → PostS K XQ mp1 H1 (g d S1) E → Q1 v H1) : rdG K R XQ f σ H Q1 := by
  refine ⟨mp, ρ, S, G, ?_⟩
  cases e : f ρ S with
  | ok d S1 =>
    rw [e] at p
    exact fun mp1 H1 v a rs r => k mp1 H1 d S1 v a (G.aft a rs) r (PostS.aft p a)
  | exc x S1 => rw [e] at p; exact fun m h b c => p m h σ b c
  | bad => rw [e] at p; exact p
def skip : Sv := fun ρ S => .nx ρ S
def sq (f g : Sv) : Sv := fun ρ S => match f ρ S with
  | .nx ρ' S' => g ρ' S'
  | .rt d S' => .rt d S'
  | .bk ρ' S' => .bk ρ' S'
  | .ct ρ' S' => .ct ρ' S'
  | .exc x ρ' S' => .exc x ρ' S'
  | .bad => .bad
section
variable {X : Cx} {XQ : XW}
theorem PostS.nx {K : PySem.W.Frag} {mp : List Addr} {H : Hp} {σ : L2.St} {ρ : Lc} {S : Sto} {E : Ends} (p : PostS K XQ mp H (.nx ρ S) E) (G : Gd K mp H σ ρ S) : E.nx σ H := p mp H σ .refl G
theorem PostS.rt {K : PySem.W.Frag} {mp : List Addr} {H : Hp} {d : D} {v : V} {S : Sto} {E : Ends} (p : PostS K XQ mp H (.rt d S) E) (r : RS K mp H S) (h : Rep K mp H d v) : E.rt v H := p mp H v .refl r h
theorem jss_nil : JSs X XQ [] skip := PSs.mono pss_nil fun E σ H ⟨mp, ρ, S, G, p⟩ => PostS.nx p G
theorem jss_cons {st : Stmt} {rest : List Stmt} {f g : Sv} (h1 : JS X XQ st f) (h2 : JSs X XQ rest g) : JSs X XQ (st :: rest) (sq f g) := by
  refine PSs.mono (pss_cons h1 h2) fun E σ H ⟨mp, ρ, S, G, p⟩ => ⟨mp, ρ, S, G, ?_⟩
  unfold sq at p
  cases e : f ρ S with
  | nx ρ' S' => rw [e] at p; exact fun m h v a G' => ⟨m, ρ', S', G', PostS.aft p a⟩
  | rt d S' => rw [e] at p; exact p
  | bk ρ' S' => rw [e] at p; exact p
  | ct ρ' S' => rw [e] at p; exact p
  | exc x ρ' S' => rw [e] at p; exact p
  | bad => rw [e] at p; exact p
theorem jss_one {st : Stmt} {f : Sv} (h1 : JS X XQ st f) : JSs X XQ [st] f := pss_one h1
def sx (f : Ev D) : Sv := fun ρ S => bindS (f ρ S) ρ fun _ S1 => .nx ρ S1
theorem js_expr {e : Expr} {f : Ev D} {pos : Pos} (he : JE X XQ e f) (hs : swapsWith e none pos.line X.env = pure false := by rfl) : JS X XQ (.Expr e pos) (sx f) :=
  PS.mono (ps_expr he hs) fun E σ H ⟨mp, ρ, S, G, p⟩ => bindSP G p fun mp1 H1 d S1 v a1 G1 r1 p1 => PostS.nx p1 G1
def sret (f : Ev D) : Sv := fun ρ S => bindS (f ρ S) ρ fun d S1 => .rt d S1
theorem js_ret {e : Expr} {f : Ev D} {pos : Pos} (he : JE X XQ e f) : JS X XQ (.Return (some e) pos) (sret f) :=
  PS.mono (ps_ret he) fun E σ H ⟨mp, ρ, S, G, p⟩ => bindSP G p fun mp1 H1 d S1 v a1 G1 r1 p1 => PostS.rt p1 G1.rs r1
def sif (c : Ev Bool) (f g : Sv) : Sv := fun ρ S => bindS (c ρ S) ρ fun b S1 => if b = true then f ρ S1 else g ρ S1
theorem js_if {c : Expr} {a b : List Stmt} {fc : Ev Bool} {f g : Sv} {pos : Pos} (hc : JT X XQ c fc) (ha : JSs X XQ a f) (hb : JSs X XQ b g) : JS X XQ (.If c a b pos) (sif fc f g) :=
  PS.mono (ps_if hc ha hb) fun E σ H ⟨mp, ρ, S, G, p⟩ => bindSP G p fun mp1 H1 b S1 c a1 G1 r1 p1 => by
    cases (show c = b from r1)
    cases b with
    | true => exact (if_pos rfl).mpr ⟨mp1, ρ, S1, G1, by simpa using p1⟩
    | false => exact (if_neg Bool.false_ne_true).mpr ⟨mp1, ρ, S1, G1, by simpa using p1⟩
theorem Gd.set {K : PySem.W.Frag} {mp : List Addr} {H : Hp} {σ : L2.St} {ρ : Lc} {S : Sto} {d : D} {v : V} (G : Gd K mp H σ ρ S) (i : Nat) (r : Rep K mp H d v) : Gd K mp H (σ.set i (some v)) (ρ.set i (some d)) S := by
  refine ⟨G.rs, by simp [G.len], fun j e h => ?_⟩
  by_cases hj : j = i
  · subst hj
    have hl : j < ρ.length := by
      have := (List.getElem?_eq_some_iff.mp h).1
      simpa using this
    rw [List.getElem?_set_self hl] at h
    cases h
    exact ⟨v, by rw [List.getElem?_set_self (by rw [G.len]; exact hl)], r⟩
  · rw [List.getElem?_set_ne (Ne.symm hj)] at h ⊢
    exact G.loc j e h
abbrev Tg := D → Lc → Option Lc
def rdG1 (K : PySem.W.Frag) (g : Tg) : TG := fun v σ H Q => ∃ mp ρ S d ρ', Gd K mp H σ ρ S ∧ Rep K mp H d v ∧ g d ρ = some ρ' ∧ ∀ σ', Gd K mp H σ' ρ' S → Q σ' H
def JG (X : Cx) (tg : Expr) (g : Tg) : Prop := PG X tg (rdG1 X.K g)
theorem PG.mono {X : Cx} {e : Expr} {t t' : TG} (h : PG X e t) (m : ∀ v σ H Q, t' v σ H Q → t v σ H Q) : PG X e t' := fun pins s σ H v u Q I r q => h pins s σ H v u Q I r (m v σ H Q q)
def gn (i : Nat) : Tg := fun d ρ => some (ρ.set i (some d))
theorem jg_name (i : Nat) {x : Str} {pos : Pos} (hN : X.N.Nodup) (hi : X.N[i]? = some x := by rfl) (hx : Loc X.env.scope x := by first | exact Or.inl rfl | exact Or.inr rfl) (hf : X.fn x = true ∨ X.env.scope.names.lookup x = some .local := by first | exact .inl rfl | exact .inr rfl | assumption) : JG X (.Name x pos) (gn i) :=
  PG.mono (pg_name hN hi hx hf) fun v σ H Q ⟨mp, ρ, S, d, ρ', G, r, e, k⟩ => by
    cases (Option.some.inj e)
    exact k _ (G.set i r)
abbrev Tgs := List D → Lc → Option Lc
def rdGs (K : PySem.W.Frag) (g : Tgs) : TGs := fun vs σ H Q => ∃ mp ρ S ds ρ', Gd K mp H σ ρ S ∧ RepL K mp H ds vs ∧ g ds ρ = some ρ' ∧ ∀ σ', Gd K mp H σ' ρ' S → Q σ' H
def JGs (X : Cx) (ts : List Expr) (g : Tgs) : Prop := PGs X ts (rdGs X.K g)
theorem PGs.mono {X : Cx} {e : List Expr} {t t' : TGs} (h : PGs X e t) (m : ∀ v σ H Q, t' v σ H Q → t v σ H Q) : PGs X e t' := fun pins s σ H v u Q I r q => h pins s σ H v u Q I r (m v σ H Q q)
def gnil : Tgs := fun ds ρ => match ds with
  | [] => some ρ
  | _ :: _ => none
def gcons (g : Tg) (k : Tgs) : Tgs := fun ds ρ => match ds with
  | [] => none
  | d :: r => (g d ρ).bind fun ρ' => k r ρ'
theorem jgs_nil : JGs X [] gnil := PGs.mono pgs_nil fun vs σ H Q ⟨mp, ρ, S, ds, ρ', G, r, e, k⟩ => by
  cases ds with
  | nil =>
    cases (show some ρ = some ρ' from e)
    exact ⟨r, k _ G⟩
  | cons _ _ => cases (show (none : Option Lc) = some ρ' from e)
theorem jgs_cons {e : Expr} {es : List Expr} {g : Tg} {k : Tgs} (h1 : JG X e g) (h2 : JGs X es k)
    (hs : (assignEach (e :: es) X.env).map (·.2) = assign e X.env :: (assignEach es X.env).map (·.2) := by rfl) : JGs X (e :: es) (gcons g k) :=
  PGs.mono (pgs_cons h1 h2 hs) fun vs σ H Q ⟨mp, ρ, S, ds, ρ', G, r, e, q⟩ => by
    cases ds with
    | nil => cases (show (none : Option Lc) = some ρ' from e)
    | cons d ds =>
      have e : (g d ρ).bind (fun ρ' => k ds ρ') = some ρ' := e
      obtain ⟨v, vr, ev, h3, h4⟩ := (show ∃ v r, vs = v :: r ∧ Rep X.K mp H d v ∧ RepL X.K mp H ds r from r)
      cases z : g d ρ with
      | none => rw [z] at e; cases e
      | some ρ1 =>
        rw [z] at e
        exact ⟨v, vr, ev, mp, ρ, S, d, ρ1, G, h3, z, fun σ1 G1 => ⟨mp, ρ1, S, ds, ρ', G1, h4, e, q⟩⟩
def gt (k : Tgs) (n : Nat) : Tg := fun d ρ => match d with
  | .tup ds => if ds.length = n then k ds ρ else none
  | _ => none
theorem jg_tup {es : List Expr} {m : Nat} {k : Tgs} {n : Nat} {pos : Pos} (hc : X.calm = true) (h : JGs X es k)
    (hn : (assignEach es X.env).length = n := by rfl) (hst : (assignEach es X.env).findIdx? (·.1) = none := by rfl) : JG X (.Tuple es m pos) (gt k n) :=
  PG.mono (pg_tup hc h hn hst) fun v σ H Q ⟨mp, ρ, S, d, ρ', G, r, e, q⟩ => by
    cases d with
    | tup ds =>
      have e : (if ds.length = n then k ds ρ else none) = some ρ' := e
      obtain ⟨a, xs, ev, sq, rl⟩ := Rep.tup r
      by_cases hl : ds.length = n
      · rw [if_pos hl] at e
        exact ⟨a, xs, ev, sq, by rw [rl.len]; exact hl, mp, ρ, S, ds, ρ', G, rl, e, q⟩
      · rw [if_neg hl] at e; cases e
    | _ => cases (show (none : Option Lc) = some ρ' from e)
def sa (f : Ev D) (g : Tg) : Sv := fun ρ S => bindS (f ρ S) ρ fun d S1 => match g d ρ with
  | some ρ' => .nx ρ' S1
  | none => .bad
theorem asgP {K : PySem.W.Frag} {f : Ev D} {g : Tg} (E : Ends) (σ : L2.St) (H : Hp) (h : rdS K XQ (sa f g) E σ H) : tAsg (rdE K XQ f) (rdG1 K g) E σ H := by
  obtain ⟨mp, ρ, S, G, p⟩ := h
  refine bindSP G p fun mp1 H1 d S1 v a1 G1 r1 p1 => ?_
  cases z : g d ρ with
  | none => rw [z] at p1; exact p1.elim
  | some ρ' =>
    rw [z] at p1
    exact ⟨mp1, ρ, S1, d, ρ', G1, r1, z, fun σ' G' => PostS.nx p1 G'⟩
theorem js_asg {tg e : Expr} {f : Ev D} {g : Tg} {pos : Pos} (he : JE X XQ e f) (hg : JG X tg g) (hs : swapsWithSole [tg] e pos.line X.env = pure false := by rfl) (hw : swappedStores [tg] e X.env = pure none := by rfl)
    (h1 : (assignEach [tg] X.env).map (·.2) = [assign tg X.env] := by rfl) : JS X XQ (.Assign [tg] e pos) (sa f g) :=
  PS.mono (ps_asg he hg hs hw h1) asgP
theorem js_set (i : Nat) {x : Str} {e : Expr} {f : Ev D} {pos pos' : Pos} (hN : X.N.Nodup) (he : JE X XQ e f) (hi : X.N[i]? = some x := by rfl) (hx : Loc X.env.scope x := by first | exact Or.inl rfl | exact Or.inr rfl) (hs : swapsWith e (some (.Name x pos')) pos.line X.env = pure false := by rfl)
    (hf : X.fn x = true ∨ X.env.scope.names.lookup x = some .local := by first | exact .inl rfl | exact .inr rfl | assumption) : JS X XQ (.Assign [.Name x pos'] e pos) (sa f (gn i)) :=
  PS.mono (ps_set hN hi hx he hs hf) fun E σ H ⟨mp, ρ, S, G, p⟩ => bindSP G p fun mp1 H1 d S1 v a1 G1 r1 p1 => PostS.nx p1 (G1.set i r1)
def SetD (t : TSet) (K : PySem.W.Frag) (o : D → D → D → Sto → Option Sto) : Prop :=
  ∀ (mp : List Addr) (H : Hp) (S S' : Sto) (x y z : D) (v u w : V) (Q : Hp → Prop), RS K mp H S → Rep K mp H x v → Rep K mp H y u → Rep K mp H z w → o x y z S = some S' → (∀ H', Aft K mp H mp H' → RS K mp H' S' → Q H') → t v u w H Q
def ss (f fo fi : Ev D) (o : D → D → D → Sto → Option Sto) : Sv := fun ρ S => bindS (f ρ S) ρ fun d S1 => bindS (fo ρ S1) ρ fun x S2 => bindS (fi ρ S2) ρ fun y S3 => match o x y d S3 with
  | some S4 => .nx ρ S4
  | none => .bad
theorem js_sub {ob ix e : Expr} {f fo fi : Ev D} {t : TSet} {o : D → D → D → Sto → Option Sto} {pos p2 : Pos} (hset : PSet X t) (ho : SetD t X.K o) (he : JE X XQ e f) (hob : JE X XQ ob fo) (hix : JE X XQ ix fi)
    (hs : swapsWithSole [.Subscript ob ix p2] e pos.line X.env = pure false := by rfl) (hw : swappedStores [.Subscript ob ix p2] e X.env = pure none := by rfl)
    (h1 : (assignEach [.Subscript ob ix p2] X.env).map (·.2) = [assign (.Subscript ob ix p2) X.env] := by rfl) (ha : ∀ v, assign (.Subscript ob ix p2) X.env v = (do
      let ov ← holding [v] (eval ob X.env)
      let iv ← holding [v, ov] (eval ix X.env)
      standAt p2
      holding [v, ov, iv] (setItem ov iv v)
      release [v, ov, iv] []) := by intro _; rfl) : JS X XQ (.Assign [.Subscript ob ix p2] e pos) (ss f fo fi o) := by
  refine PS.mono (ps_asg he (pg_sub hob hix hset ha) hs hw h1) fun E σ H ⟨mp, ρ, S, G, p⟩ => ?_
  refine bindSP G p fun mp1 H1 d S1 v a1 G1 r1 p1 => ?_
  refine bindSP G1 p1 fun mp2 H2 x S2 vx a2 G2 r2 p2 => ?_
  refine bindSP G2 p2 fun mp3 H3 y S3 vy a3 G3 r3 p3 => ?_
  cases z : o x y d S3 with
  | none => rw [z] at p3; exact p3.elim
  | some S4 =>
    rw [z] at p3
    exact ho mp3 H3 S3 S4 x y d vx vy v _ G3.rs (Rep.aft a3 _ _ r2) r3 (Rep.aft (a2.trans a3) _ _ r1) z fun H' af rs => p3 mp3 H' σ af (G3.aft af rs)
structure Src where
  nxt : Nat → Sto → Option D
  fuel : Nat
def ItOk (K : PySem.W.Frag) (mp0 : List Addr) (H0 : Hp) (J : It) (nxt : Nat → Sto → Option D) : Prop :=
  ∀ (mp : List Addr) (H : Hp) (S : Sto), Aft K mp0 H0 mp H → RS K mp H S → ∀ k, match nxt k S with
    | some d => J.go k H ∧ ∀ x H', J.yld k H x H' → Aft K mp H mp H' ∧ RS K mp H' S ∧ Rep K mp H' d x
    | none => J.stop k H
def kI (K : PySem.W.Frag) : RL Src It := fun mp H s J => ItOk K mp H J s.nxt
abbrev rdI (K : PySem.W.Frag) (XQ : XW) (f : Ev Src) : TI := rdG K (kI K) XQ f
def JI (X : Cx) (XQ : XW) (tg iter : Expr) (f : Ev Src) : Prop := PI X tg iter (rdI X.K XQ f)
theorem PI.mono {X : Cx} {tg e : Expr} {t t' : TI} (h : PI X tg e t) (m : ∀ σ H Q, t' σ H Q → t σ H Q) : PI X tg e t' := fun pins s σ H Q I q => h pins s σ H Q I (m σ H Q q)
def forN (nxt : Nat → Sto → Option D) (g : Tg) (b : Sv) : Nat → Nat → Sv
  | 0, _, _, _ => .bad
  | n + 1, k, ρ, S => match nxt k S with
    | none => .nx ρ S
    | some d => match g d ρ with
      | none => .bad
      | some ρ1 => match b ρ1 S with
        | .nx ρ2 S2 => forN nxt g b n (k + 1) ρ2 S2
        | .ct ρ2 S2 => forN nxt g b n (k + 1) ρ2 S2
        | .bk ρ2 S2 => .nx ρ2 S2
        | .rt d S2 => .rt d S2
        | .exc x ρ2 S2 => .exc x ρ2 S2
        | .bad => .bad
def sfor (f : Ev Src) (g : Tg) (b : Sv) : Sv := fun ρ S => bindS (f ρ S) ρ fun s S1 => forN s.nxt g b s.fuel 0 ρ S1
theorem js_for {tg iter : Expr} {body : List Stmt} {f : Ev Src} {g : Tg} {b : Sv} {pos : Pos} (hp : PassesOwn (model X.prog X.w) X.A X.env X.xe) (hc : X.calm = true) (hi : JI X XQ tg iter f) (hg : JG X tg g) (hb : JSs X XQ body b)
    (hs : ∀ x, foldedSetIterable iter X.env x = pure x := by intro _; rfl) : JS X XQ (.For tg iter body [] pos) (sfor f g b) := by
  refine PS.mono (ps_for hp hc hi hg hb hs) fun E σ H ⟨mp, ρ, S, G, p⟩ => ?_
  refine bindSP G p fun mp1 H1 s S1 J a1 G1 j1 p1 => ?_
  refine ⟨fun i m σ' H' => ∃ mp' ρ' S', Aft X.K mp1 H1 mp' H' ∧ Gd X.K mp' H' σ' ρ' S' ∧ PostS X.K XQ mp' H' (forN s.nxt g b m i ρ' S') E, ⟨s.fuel, mp1, ρ, S1, .refl, G1, p1⟩, ?_⟩
  rintro i m σ' H' ⟨mp', ρ', S', a', G', p'⟩
  cases m with
  | zero => exact (show False from p').elim
  | succ n =>
    have j := j1 mp' H' S' a' G'.rs i
    unfold forN at p'
    cases z : s.nxt i S' with
    | none =>
      rw [z] at j p'
      exact .inl ⟨j, PostS.nx p' G'⟩
    | some d =>
      rw [z] at j p'
      obtain ⟨j1, j2⟩ := j
      refine .inr ⟨j1, fun σ2 H2 => ∃ mp2 ρ2 S2, Aft X.K mp1 H1 mp2 H2 ∧ Gd X.K mp2 H2 σ2 ρ2 S2 ∧ PostS X.K XQ mp2 H2 (forN s.nxt g b n (i + 1) ρ2 S2) E, fun σ2 H2 q => ⟨n, Nat.lt_succ_self n, q⟩, fun x H2 y => ?_⟩
      obtain ⟨a2, r2, x2⟩ := j2 x H2 y
      have G2 := G'.aft a2 r2
      cases zg : g d ρ' with
      | none => simp only [zg] at p'; exact p'.elim
      | some ρ1 =>
        simp only [zg] at p'
        refine ⟨mp', ρ', S', d, ρ1, G2, x2, zg, fun σ3 G3 => ⟨mp', ρ1, S', G3, ?_⟩⟩
        have p2 := PostS.aft p' a2
        cases zb : b ρ1 S' with
        | nx ρ2 S2 => simp only [zb] at p2; exact fun m h v af G4 => ⟨m, ρ2, S2, (a'.trans a2).trans af, G4, PostS.aft p2 af⟩
        | ct ρ2 S2 => simp only [zb] at p2; exact fun m h v af G4 => ⟨m, ρ2, S2, (a'.trans a2).trans af, G4, PostS.aft p2 af⟩
        | bk ρ2 S2 => simp only [zb] at p2; exact p2
        | rt d S2 => simp only [zb] at p2; exact p2
        | exc x ρ2 S2 => simp only [zb] at p2; exact p2
        | bad => simp only [zb] at p2; exact p2
def srcOf : D → Sto → Out Src
  | .tup l, S => .ok ⟨fun k _ => l[k]?, l.length + 1⟩ S
  | .lst i, S => match S[i]? with
    | some c => .ok ⟨fun k S => (S[i]?).bind fun c => c.xs[k]?, c.xs.length + 1⟩ S
    | none => .bad
  | _, _ => .bad
end
end DL
set_option Elab.async false
set_option linter.all false
set_option maxRecDepth 100000
namespace DL
open PySem PySem.Spec PyProof.Rows L2
section
variable {X : Cx} {XQ : XW}
def iSeq (K : PySem.W.Frag) (tl : TE) : TI := fun σ H R => tl σ H fun x H1 => ∃ a, x = .ref a ∧ (((∃ xs, SqL K H1 a xs) ∧ R (Itl K a) H1) ∨ ((∃ xs, SqT K H1 a xs) ∧ R (Itt K a) H1))
theorem pi_seq {tg l : Expr} {tl : TE} (hl : PE X l tl) : PI X tg l (iSeq X.K tl) := by
  intro pins s σ H R I h
  refine thn (hl pins s σ H _ I h) fun v s1 ⟨x, H1, I1, r1, q1⟩ => ?_
  obtain ⟨a, e, q⟩ := q1
  subst e
  cases r1
  rcases q with ⟨⟨xs, hq⟩, q⟩ | ⟨⟨xs, hq⟩, q⟩
  · obtain ⟨its, rv, p, hz⟩ := I1.list hq
    refine wpAny_pyIter_list p.isList ?_
    refine ⟨s1.heap.objs.size, [s1.heap.objs.size], _, _, H1, rfl, I1.kept (t' := s1.toks) fun b o e => Heap.get?_push_of_some _ e, turn_list a _, ⟨_, Heap.get?_push_size _ rfl, rfl, rfl⟩, fun b hb => ?_, q⟩
    have e : b = s1.heap.objs.size := by simpa using hb
    subst e
    exact I1.fpOk (Nat.le_refl _) (I1.hok.fresh (Nat.le_refl _))
  · obtain ⟨its, rv, p, hz⟩ := I1.tuple hq
    refine wpAny_pyIter_tuple (show s1.heap.IsTuple a its.toArray from p) ?_
    refine ⟨s1.heap.objs.size, [s1.heap.objs.size], _, _, H1, rfl, I1.kept (t' := s1.toks) fun b o e => Heap.get?_push_of_some _ e, turn_tuple a _, ⟨_, Heap.get?_push_size _ rfl, rfl, rfl⟩, fun b hb => ?_, q⟩
    have e : b = s1.heap.objs.size := by simpa using hb
    subst e
    exact I1.fpOk (Nat.le_refl _) (I1.hok.fresh (Nat.le_refl _))
def isrc (f : Ev D) : Ev Src := fun ρ S => (f ρ S).bind srcOf
theorem itt_ok {K : PySem.W.Frag} {mp : List Addr} {H : Hp} {a : Addr} {xs : List V} {l : List D} (s : SqT K H a xs) (r : RepL K mp H l xs) : ItOk K mp H (Itt K a) (fun k _ => l[k]?) := by
  intro mp' H' S' af rs k
  show match l[k]? with
    | some d => (Itt K a).go k H' ∧ ∀ x H2, (Itt K a).yld k H' x H2 → Aft K mp' H' mp' H2 ∧ RS K mp' H2 S' ∧ Rep K mp' H2 d x
    | none => (Itt K a).stop k H'
  cases z : l[k]? with
  | none =>
    refine ⟨xs, af.tup _ _ s, ?_⟩
    rw [r.len]
    exact List.getElem?_eq_none_iff.mp z
  | some d =>
    have r' := RepL.aft af _ _ r
    obtain ⟨v, e, q⟩ := r'.get z
    refine ⟨⟨xs, v, af.tup _ _ s, e⟩, fun x H2 ⟨h1, h2⟩ => ?_⟩
    subst h1
    have e2 := h2 xs (af.tup _ _ s)
    rw [e] at e2
    cases e2
    exact ⟨.refl, rs, q⟩
theorem itl_ok {K : PySem.W.Frag} {mp : List Addr} {H : Hp} {a : Addr} {i : Nat} (hi : mp[i]? = some a) : ItOk K mp H (Itl K a) (fun k S => (S[i]?).bind fun c => c.xs[k]?) := by
  intro mp' H' S' af rs k
  have hi' := af.pre i a hi
  have hl : i < S'.length := by rw [← rs.len]; exact (List.getElem?_eq_some_iff.mp hi').1
  have hc : S'[i]? = some S'[i] := List.getElem?_eq_getElem hl
  obtain ⟨a2, xs, e1, e2, sq, r, _⟩ := rs.items (v := .ref a) ⟨a, rfl, hi'⟩ hc
  cases e1
  simp only [hc, Option.bind_some]
  cases z : (S'[i]).xs[k]? with
  | none =>
    refine ⟨xs, sq, ?_⟩
    rw [r.len]
    exact List.getElem?_eq_none_iff.mp z
  | some d =>
    obtain ⟨v, e, q⟩ := r.get z
    refine ⟨⟨xs, v, sq, e⟩, fun x H2 ⟨h1, h2⟩ => ?_⟩
    subst h1
    have e2 := h2 xs sq
    rw [e] at e2
    cases e2
    exact ⟨.refl, rs, q⟩
theorem ji_seq {tg l : Expr} {f : Ev D} (hl : JE X XQ l f) : JI X XQ tg l (isrc f) := by
  refine PI.mono (pi_seq hl) fun σ H R ⟨mp, ρ, S, G, p⟩ => ?_
  refine bindP G p fun mp1 H1 d S1 v a1 G1 r1 p1 => ?_
  cases d with
  | tup ds =>
    obtain ⟨a, xs, rfl, s, q⟩ := Rep.tup r1
    exact ⟨a, rfl, .inr ⟨⟨xs, s⟩, PostG.ok (R := kI X.K) (d := ⟨fun k _ => ds[k]?, ds.length + 1⟩) (S := S1) p1 G1.rs (itt_ok s q)⟩⟩
  | lst i =>
    have p1 : PostG X.K (kI X.K) XQ σ ρ mp1 H1 (match S1[i]? with | some c => .ok ⟨fun k S => (S[i]?).bind fun c => c.xs[k]?, c.xs.length + 1⟩ S1 | none => .bad) R := p1
    cases z : S1[i]? with
    | none => rw [z] at p1; exact p1.elim
    | some c =>
      rw [z] at p1
      obtain ⟨a, xs, rfl, ha, s, q, _⟩ := G1.rs.items r1 z
      exact ⟨a, rfl, .inl ⟨⟨xs, s⟩, PostG.ok (R := kI X.K) (d := ⟨fun k S => (S[i]?).bind fun c => c.xs[k]?, c.xs.length + 1⟩) (S := S1) p1 G1.rs (itl_ok ha)⟩⟩
  | _ => exact (show False from p1).elim
def rsrc (lo : Int) (n : Nat) : Src := ⟨fun k _ => if k < n then some (.int (lo + k)) else none, n + 1⟩
theorem itr_ok {K : PySem.W.Frag} {mp : List Addr} {H : Hp} {lo : Int} {n : Nat} : ItOk K mp H (Itr lo n) (rsrc lo n).nxt := by
  intro mp' H' S' af rs k
  show match (if k < n then some (D.int (lo + k)) else none) with
    | some d => (Itr lo n).go k H' ∧ ∀ x H2, (Itr lo n).yld k H' x H2 → Aft K mp' H' mp' H2 ∧ RS K mp' H2 S' ∧ Rep K mp' H2 d x
    | none => (Itr lo n).stop k H'
  by_cases h : k < n
  · rw [if_pos h]
    refine ⟨h, fun x H2 ⟨h1, h2⟩ => ?_⟩
    subst h1 h2
    exact ⟨.refl, rs, rfl⟩
  · rw [if_neg h]
    exact Nat.not_lt.mp h
def ir1 (f : Ev (List D)) : Ev Src := fun ρ S => (f ρ S).bind fun ds S1 => match ds with
  | [.int j] => if -1000000000000 ≤ j ∧ j ≤ 1000000000000 then .ok (rsrc 0 j.toNat) S1 else .bad
  | _ => .bad
theorem RepL.one {K : PySem.W.Frag} {mp : List Addr} {H : Hp} {d : D} {vs : List V} (h : RepL K mp H [d] vs) : ∃ v, vs = [v] ∧ Rep K mp H d v := by
  obtain ⟨v, r, rfl, h1, h2⟩ := h
  cases (show r = [] from h2)
  exact ⟨v, rfl, h1⟩
theorem RepL.two {K : PySem.W.Frag} {mp : List Addr} {H : Hp} {d e : D} {vs : List V} (h : RepL K mp H [d, e] vs) : ∃ v w, vs = [v, w] ∧ Rep K mp H d v ∧ Rep K mp H e w := by
  obtain ⟨v, r, rfl, h1, h2⟩ := h
  obtain ⟨w, rfl, h3⟩ := RepL.one h2
  exact ⟨v, w, rfl, h1, h3⟩
theorem ji_range1 {tg a : Expr} {f : Ev (List D)} {p pos : Pos} (hg : Gl X "range") (hm : X.mg "range" = none) (ha : JA X XQ [a] f) (hs : starEach [a] X.env = [(false, eval a X.env)] := by rfl) : JI X XQ tg (.Call (.Name "range" p) [a] [] pos) (ir1 f) := by
  refine PI.mono (pi_range1 hg hm ha hs) fun σ H R ⟨mp, ρ, S, G, p⟩ => ?_
  refine bindP G p fun mp1 H1 ds S1 vs a1 G1 r1 p1 => ?_
  split at p1
  · rename_i j
    by_cases hb : -1000000000000 ≤ j ∧ j ≤ 1000000000000
    · rw [if_pos hb] at p1
      obtain ⟨v, rfl, h1⟩ := RepL.one r1
      cases (show v = .int j from h1)
      refine ⟨j, rfl, by omega, by omega, PostG.ok (R := kI X.K) (d := rsrc 0 j.toNat) (S := S1) p1 G1.rs itr_ok⟩
    · rw [if_neg hb] at p1; exact p1.elim
  · exact p1.elim
def whN (c : Ev Bool) (b : Sv) : Nat → Sv
  | 0, _, _ => .bad
  | n + 1, ρ, S => bindS (c ρ S) ρ fun t S1 => if t = true then (match b ρ S1 with
        | .nx ρ2 S2 => whN c b n ρ2 S2
        | .ct ρ2 S2 => whN c b n ρ2 S2
        | .bk ρ2 S2 => .nx ρ2 S2
        | .rt d S2 => .rt d S2
        | .exc x ρ2 S2 => .exc x ρ2 S2
        | .bad => .bad) else .nx ρ S1
theorem js_while (fuel : Nat) {c : Expr} {body : List Stmt} {fc : Ev Bool} {b : Sv} {pos : Pos} (hp : PassesOwn (model X.prog X.w) X.A X.env X.xe) (hc : JT X XQ c fc) (hb : JSs X XQ body b) : JS X XQ (.While c body [] pos) (whN fc b fuel) := by
  refine PS.mono (ps_while hp hc hb) fun E σ H ⟨mp, ρ, S, G, p⟩ => ?_
  refine ⟨fun m σ' H' => ∃ mp' ρ' S', Gd X.K mp' H' σ' ρ' S' ∧ PostS X.K XQ mp' H' (whN fc b m ρ' S') E, ⟨fuel, mp, ρ, S, G, p⟩, ?_⟩
  rintro m σ' H' ⟨mp', ρ', S', G', p'⟩
  cases m with
  | zero => exact (show False from p').elim
  | succ n =>
    refine bindSP G' p' fun mp1 H1 t S1 t' a1 G1 r1 p1 => ?_
    cases (show t' = t from r1)
    cases t with
    | false => exact (if_neg Bool.false_ne_true).mpr (PostS.nx (by simpa using p1) G1)
    | true =>
      refine (if_pos rfl).mpr ⟨fun σ2 H2 => ∃ mp2 ρ2 S2, Gd X.K mp2 H2 σ2 ρ2 S2 ∧ PostS X.K XQ mp2 H2 (whN fc b n ρ2 S2) E, fun σ2 H2 q => ⟨n, Nat.lt_succ_self n, q⟩, ⟨mp1, ρ', S1, G1, ?_⟩⟩
      simp only [if_true] at p1
      cases zb : b ρ' S1 with
      | nx ρ2 S2 => simp only [zb] at p1; exact fun m h v af G4 => ⟨m, ρ2, S2, G4, PostS.aft p1 af⟩
      | ct ρ2 S2 => simp only [zb] at p1; exact fun m h v af G4 => ⟨m, ρ2, S2, G4, PostS.aft p1 af⟩
      | bk ρ2 S2 => simp only [zb] at p1; exact p1
      | rt d S2 => simp only [zb] at p1; exact p1
      | exc x ρ2 S2 => simp only [zb] at p1; exact p1
      | bad => simp only [zb] at p1; exact p1
end
abbrev Fn := List D → Sto → Out D
def PostF (K : PySem.W.Frag) (mp : List Addr) (H : Hp) (o : Out D) (Q : VK) : Prop :=
  match o with
  | .ok d S => ∀ mp' H' v, Aft K mp H mp' H' → RS K mp' H' S → Rep K mp' H' d v → Q v H'
  | _ => False
def spD (K : PySem.W.Frag) (n : Nat) (fn : Fn) : Sp := fun vs H Q _ => ∃ mp ds S, RS K mp H S ∧ RepL K mp H ds vs ∧ ds.length = n ∧ PostF K mp H (fn ds S) Q
def fnB (m : Nat) (b : Sv) : Fn := fun ds S => match b (ds.map some ++ List.replicate (m - ds.length) none) S with
  | .rt d S' => .ok d S'
  | .nx _ S' => .ok .non S'
  | .exc x _ S' => .exc x S'
  | _ => .bad
theorem start_ok {K : PySem.W.Frag} {mp : List Addr} {H : Hp} {S : Sto} {N : List Str} {ds : List D} {vs : List V} (r : RS K mp H S) (h : RepL K mp H ds vs) : Gd K mp H (start N vs) (ds.map some ++ List.replicate (N.length - ds.length) none) S := by
  have hl := h.len
  refine ⟨r, by simp [L2.start, hl], fun i d e => ?_⟩
  by_cases hi : i < ds.length
  · rw [List.getElem?_append_left (by simpa using hi), List.getElem?_map] at e
    cases z : ds[i]? with
    | none => rw [z] at e; cases e
    | some d' =>
      rw [z] at e
      cases e
      obtain ⟨v, e1, q⟩ := h.get z
      refine ⟨v, ?_, q⟩
      unfold L2.start
      rw [List.getElem?_append_left (by simp [hl]; exact hi), List.getElem?_map, e1]
      rfl
  · rw [List.getElem?_append_right (by simpa using hi), List.getElem?_replicate] at e
    split at e
    · cases e
    · cases e
section
variable {P : Program} {w : World} {K : PySem.W.Frag} {mg : Str → Option Value} {base : Heap}
theorem fn_ok {x qual : Str} {st : Stmt} {f : Addr} {fd : FuncData} {N ps : List Str} {k : Nat} {b : Sv} (F : Fun K x qual st f fd) (Sc : FnScope N ps (defScope st))
    (hb : ∀ (cdv : Value) (A : Around) (outer : List PySem.Env) (s : Shared) (H : Hp) (E : XK), Room k (A.deeper (envOfC qual (defScope st) s.heap.objs.size f cdv)) →
      JSs (cxOf CX0 P w K mg base N qual (defScope st) f cdv A outer s H E).nox (fun _ _ _ _ _ _ => False) (defBody st) b) : FnOk P w K mg base CX0 (k + 1) f fd ps (spD K ps.length (fnB N.length b)) := by
  refine F.ok Sc (fun vs H Q E ⟨mp, ds, S, rs, r, hl, _⟩ => by rw [r.len]; exact hl) fun cdv A outer s H vs Q E hr ⟨mp, ds, S, rs, r, hl, p⟩ => ?_
  refine ⟨_, hb cdv A outer s H E hr, mp, _, S, start_ok rs r, ?_⟩
  unfold fnB at p
  show PostS K _ mp H (b (ds.map some ++ List.replicate (N.length - ds.length) none) S) _
  cases z : b (ds.map some ++ List.replicate (N.length - ds.length) none) S with
  | rt d S' => rw [z] at p; exact p
  | nx ρ' S' => rw [z] at p; exact fun m h v af G => p m h .non af G.rs rfl
  | bk ρ' S' => rw [z] at p; exact p.elim
  | ct ρ' S' => rw [z] at p; exact p.elim
  | exc x ρ' S' => rw [z] at p; exact p.elim
  | bad => rw [z] at p; exact p.elim
end
section
variable {X : Cx} {XQ : XW} {k : Nat} {f : Addr} {fd : FuncData} {ps : List Str} {fn : Fn} {x : Str} {p pos : Pos} {e : Expr} {es : List Expr} {t : Ev (List D)}
def cl (n : Nat) (fn : Fn) (t : Ev (List D)) : Ev D := fun ρ S => (t ρ S).bind fun ds S1 => if ds.length = n then fn ds S1 else .bad
def noExc (fn : Fn) : Fn := fun ds S => match fn ds S with
  | .ok d S' => .ok d S'
  | _ => .bad
theorem je_call {j : Nat} (F : FnOk X.prog X.w X.K X.mg X.base CX0 j f fd ps (spD X.K ps.length fn)) (hr : Room k X.A) (hj : j ≤ k) (hg : Gl X x) (hm : X.mg x = some (.ref f)) (hk : PySem.W.keepIn X.K (.ref f) = true) (hb : Binds X.K fd ps [])
    (ha : JA X XQ (e :: es) t) (hdb : (x == ("__debug__" : Str)) = false := by decide) (he : starEach (e :: es) X.env = (false, eval e X.env) :: starEach es X.env := by rfl) (hpl : (backTo pos (starEach es X.env)).any (·.1) = false := by rfl) :
    JE X XQ (.Call (.Name x p) (e :: es) [] pos) (cl ps.length (noExc fn) t) := by
  refine PE.mono (pe_call (F.mono hj) hr hg hm hk hb .nil (pass0) ha hdb he hpl) fun σ H Q ⟨mp, ρ, S, G, p⟩ => ?_
  refine bindP G p fun mp1 H1 ds S1 vs a1 G1 r1 p1 => ?_
  by_cases hl : ds.length = ps.length
  · rw [if_pos hl] at p1
    refine ⟨mp1, ds, S1, G1.rs, by rw [List.append_nil]; exact r1, hl, ?_⟩
    unfold noExc at p1
    cases z : fn ds S1 with
    | ok d S' => rw [z] at p1; exact p1
    | exc x S' => rw [z] at p1; exact p1.elim
    | bad => rw [z] at p1; exact p1.elim
  · rw [if_neg hl] at p1; exact p1.elim
end
end DL
set_option Elab.async false
set_option linter.all false
set_option maxRecDepth 100000
namespace DL
open PySem PySem.Spec PyProof.Rows L2
section
variable {prog : Program} {w : World} {A : Around} {E : Value → Shared → Prop} {R : Result → Shared → Prop} {s : Shared}
theorem compLoop_any {elt target iter : Expr} {ifs : List Expr} {scope : Scope} {pos : Pos} {it acc : Value} {env : PySem.Env} (I : Nat → Shared → Prop)
    (turn : ∀ n s, I n s → wpAny (model prog w) A (pyNext it) (fun r s₁ => match r with
      | none => R (.ok .next) s₁
      | some v => wpAny (model prog w) A (letOwnedTupleGo target it v) (fun _ s₁ => wpAny (model prog w) A (assign target env v) (fun _ s₂ =>
          wpAny (model prog w) A (forIn ifs true fun c r => if r = true then do let ok ← isTrue c env (eval c env); pure (ForInStep.yield ok) else pure (ForInStep.yield r)) (fun ok s₃ =>
            if ok = true then wpAny (model prog w) A (eval elt env) (fun x s₄ =>
              wpAny (model prog w) A (call (.builtin "list.append") [acc, x]) (fun _ s₅ => ∃ m, m < n ∧ I m s₅) (fun _ _ => False) s₄) (fun _ _ => False) s₃
            else ∃ m, m < n ∧ I m s₃) (fun _ _ => False) s₂) (fun _ _ => False) s₁) (fun _ _ => False) s₁) (fun _ _ => False) s)
    (n : Nat) (h : I n s) :
    codeAny (model prog w) A (.compLoop (.ListComp elt [⟨target, iter, ifs, 0⟩] scope pos) 0 it acc env) R s := by
  have noE : ∀ {α : Type} {m : Sem α} {Q : α → Shared → Prop} {E' : Value → Shared → Prop} {s : Shared}, wpAny (model prog w) A m Q (fun _ _ => False) s → wpAny (model prog w) A m Q E' s := fun h => wpAny_mono h (fun _ _ q => q) fun _ _ z => z.elim
  refine codeAny_loop rfl I (fun n s hI => ?_) n h
  show wpAny _ A ((compTurn (.ListComp elt [⟨target, iter, ifs, 0⟩] scope pos) 0 it acc env).onRaise (fun x => do noteFrame x env; theTreesLotGoes x)) _ _ s
  refine wpAny_noted ?_
  rw [compTurn_list]
  refine wpAny_bind (wpAny_standAt (wpAny_bind (noE (wpAny_mono (turn n s hI) (fun r s₁ h₁ => ?_) fun _ _ z => z))))
  cases r with
  | none => exact wpAny_pure h₁
  | some v =>
    refine wpAny_bind (noE (wpAny_mono h₁ (fun _ s₁ h₁ => ?_) fun _ _ z => z))
    refine wpAny_bind (noE (wpAny_mono h₁ (fun _ s₂ h₂ => wpAny_bind (noE (wpAny_mono h₂ (fun ok s₃ h₃ => ?_) fun _ _ z => z))) fun _ _ z => z))
    cases ok with
    | false => exact wpAny_pure ⟨rfl, h₃⟩
    | true =>
      exact wpAny_bind (wpAny_bind (noE (wpAny_mono h₃ (fun x s₄ h₄ => wpAny_bind (noE (wpAny_mono h₄ (fun _ s₅ h₅ => wpAny_pure (wpAny_pure ⟨rfl, h₅⟩)) fun _ _ z => z))) fun _ _ z => z)))
end
def blk (X : Cx) (s2 : Shared) (H2 : Hp) (C : Addr) (scope : Scope) (cl : List (Str × Addr)) (N' : List Str) (fp : List Addr) : Cx :=
  { X with N := N', s₀ := s2, H₀ := H2, env := compEnvC scope cl C X.env, outer := X.stack, ex := fp, fn := fun _ => false, pn := [], xe := fun _ _ => False }
structure CompSc (X : Cx) (scope : Scope) (cl : List (Str × Addr)) (N' : List Str) (pk : List (Option Nat)) : Prop where
  kind : scope.kind = .function
  cell : ∀ y ∈ scope.names, y.2 ≠ .cell
  names : ∀ y ∈ scope.names, y.2 = .local → scope.names.lookup y.1 = some .local
  clos : closureFor scope X.env = pure cl
  sub : ∀ x c, cl.lookup x = some c → X.env.cells.lookup x = some c
  has : ∀ x, ((relabel scope X.env).names.lookup x = some .cell ∨ (relabel scope X.env).names.lookup x = some .free) → ∃ c, cl.lookup x = some c
  len : pk.length = N'.length
  take : ∀ (i j : Nat) (x : Str), pk[i]? = some (some j) → N'[i]? = some x → X.N[j]? = some x ∧ (X.env.kindOf x = some .cell ∨ X.env.kindOf x = some .free) ∧ ((relabel scope X.env).names.lookup x = some .cell ∨ (relabel scope X.env).names.lookup x = some .free)
def pkS {α : Type} (pk : List (Option Nat)) (σ : List (Option α)) : List (Option α) := pk.map fun o => o.bind fun j => (σ[j]?).bind id
def PTs (Y : Cx) (ifs : List Expr) (t : TT) : Prop :=
  ∀ (pins : List (Addr × Obj)) (s : Shared) (σ : L2.St) (H : Hp) (Q : Bool → Hp → Prop), Inv Y pins σ H s → t σ H Q →
    wpAny (model Y.prog Y.w) Y.A (forIn ifs true fun c r => if r = true then do let ok ← isTrue c Y.env (eval c Y.env); pure (ForInStep.yield ok) else pure (ForInStep.yield r)) (TP Y pins σ Q) Y.xe s
theorem pts_nil {Y : Cx} : PTs Y [] (fun _ H Q => Q true H) := fun _ _ _ H _ I h => wpAny_tests_nil ⟨H, I, h⟩
def tComp (wi : TI) (pk : List (Option Nat)) (g : TG) (tt : TT) (te : TE) : TE := fun σ H Q => wi σ H fun J H1 => ∀ a, H1 a = none → ∃ W : Nat → Nat → L2.St → Hp → Prop, (∃ m, W 0 m (pkS pk σ) (upd H1 a (.lst []))) ∧ ∀ i m σ' H', W i m σ' H' →
  (J.stop i H' ∧ Q (.ref a) H') ∨ (J.go i H' ∧ ∀ x H2, J.yld i H' x H2 → g x σ' H2 fun σ3 H3 => tt σ3 H3 fun b H4 => if b = true then te σ3 H4 fun v H5 => ∃ xs, H5 a = some (.lst xs) ∧ xs.length < sizeLine ∧ ∃ m', m' < m ∧ W (i + 1) m' σ3 (upd H5 a (.lst (xs ++ [v])))
    else ∃ m', m' < m ∧ W (i + 1) m' σ3 H4)
theorem hok_same {P : Program} {w : World} {H : Hp} {h h' : Heap} {C : Addr} (k : HOk P w H h) (hn : H C = none) (hs : Heap.SameBut C h h') : HOk P w H h' := fun b ob e => by
  refine (k b ob e).stay (fun c w' hc q => (hs.2 c ?_).trans q) (fun _ q => q) fun _ _ q => q
  rintro rfl
  rcases hc with rfl | hc
  · rw [hn] at e; cases e
  · rw [hn] at hc; cases hc
section
variable {X : Cx}
theorem comp_block {elt tg iter : Expr} {ifs : List Expr} {scope : Scope} {pos : Pos} {cl : List (Str × Addr)} {N' : List Str} {pk : List (Option Nat)} {g : TG} {tt : TT} {te : TE} (cs : CompSc X scope cl N' pk) (hcm : X.calm = true)
    (hg : ∀ s2 H2 C fp, PG (blk X s2 H2 C scope cl N' fp) tg g) (ht : ∀ s2 H2 C fp, PTs (blk X s2 H2 C scope cl N' fp) ifs tt) (he : ∀ s2 H2 C fp, PE (blk X s2 H2 C scope cl N' fp) elt te)
    {pins : List (Addr × Obj)} {σ : L2.St} {H2 : Hp} {s2 : Shared} {it : Addr} {fp : List Addr} {tn : Nat → Heap → Prop} {J : It} (I2 : Inv X pins σ H2 s2) (T : Turn X.prog X.w X.K tg J fp it tn) (st2 : tn 0 s2.heap) (f2 : ∀ b ∈ fp, FpOk X pins H2 b)
    {Q : VK} (hQ : ∀ a, H2 a = none → ∃ W : Nat → Nat → L2.St → Hp → Prop, (∃ m, W 0 m (pkS pk σ) (upd H2 a (.lst []))) ∧ ∀ i m σ' H', W i m σ' H' →
      (J.stop i H' ∧ Q (.ref a) H') ∨ (J.go i H' ∧ ∀ x H3, J.yld i H' x H3 → g x σ' H3 fun σ3 H3 => tt σ3 H3 fun b H4 => if b = true then te σ3 H4 fun v H5 => ∃ xs, H5 a = some (.lst xs) ∧ xs.length < sizeLine ∧ ∃ m', m' < m ∧ W (i + 1) m' σ3 (upd H5 a (.lst (xs ++ [v])))
        else ∃ m', m' < m ∧ W (i + 1) m' σ3 H4)) {E : Value → Shared → Prop} {RR : Value → Addr → Result → Shared → Prop}
    (hRR : ∀ D C s' (H' : Hp), Q (.ref D) H' → (∃ m, s'.heap.Ns C m) → Inv X pins σ H' s' → H' C = none → s2.heap.objs.size ≤ C → RR (.ref D) C (.ok .next) s') :
    wpAny (model X.prog X.w) X.A (newList []) (fun acc s₃ => wpAny (model X.prog X.w) X.A (newFunctionEnv scope X.env.globals cl [] X.env.qual none .none (some X.env)) (fun cenv s₄ =>
      codeAny (model X.prog X.w) X.A (.compStart (.ListComp elt [⟨tg, iter, ifs, 0⟩] scope pos) 0 (.ref it) acc { cenv with scope := relabel scope X.env }) (RR acc cenv.locals) s₄) E s₃) E s2 := by
  have hD : H2 s2.heap.objs.size = none := I2.hok.fresh (Nat.le_refl _)
  obtain ⟨W, ⟨m0, w0⟩, turn⟩ := hQ s2.heap.objs.size hD
  refine wpAny_newObj_type (wpAny_newFunctionEnv cs.cell (by intro y hy; simp at hy) (fun h₁ hns₁ hsb₁ => ?_) cs.kind)
  dsimp only at hns₁ hsb₁ ⊢
  generalize hHh : s2.heap.push { cls := .type "list", dict := none, data := .seq ([] : List Value).toArray } = Hh at hns₁ hsb₁ ⊢
  have hC : Hh.objs.size = s2.heap.objs.size + 1 := by rw [← hHh, Heap.size_push]
  have hDC : s2.heap.objs.size ≠ Hh.objs.size := by rw [hC]; exact Nat.ne_of_lt (Nat.lt_succ_self _)
  have hCle : s2.heap.objs.size ≤ Hh.objs.size := by rw [hC]; exact Nat.le_succ _
  have below : ∀ b, b < s2.heap.objs.size → b ≠ Hh.objs.size ∧ b ≠ s2.heap.objs.size := fun b hb => ⟨by rw [hC]; exact Nat.ne_of_lt (Nat.lt_succ_of_lt hb), Nat.ne_of_lt hb⟩
  have old : ∀ b o, s2.heap.get? b = some o → h₁.get? b = some o := fun b o e => hsb₁.extBut b o (below b (Heap.lt_size e)).1 (Heap.get?_push_of_some _ (hHh ▸ Heap.get?_push_of_some _ e))
  have hacc : h₁.get? s2.heap.objs.size = some { cls := .type "list", dict := none, data := .seq ([] : List Value).toArray } := hsb₁.extBut _ _ hDC (Heap.get?_push_of_some _ (hHh ▸ Heap.get?_push_size _ rfl))
  let Y := blk X s2 H2 Hh.objs.size scope cl N' fp
  have fpLt : ∀ b ∈ fp, b < s2.heap.objs.size := fun b hb => by
    obtain ⟨o, e, _⟩ := T.obj _ _ st2 b hb
    exact Heap.lt_size e
  have okY : Y.Ok := by
    refine ⟨I2.ok.mod, (by show (relabel scope X.env).kind = .function; exact cs.kind), I2.ok.glob, I2.ok.blt, hCle, fun x y c h1 h2 => I2.ok.inj x y c (cs.sub x c h1) (cs.sub y c h2), cs.has, (fun _ _ z => nomatch z), I2.ok.hd, I2.ok.frames, .inl rfl, fun b hb => ⟨Nat.ne_of_lt (by rw [show Y.env.locals = Hh.objs.size from rfl, hC]; exact Nat.lt_succ_of_lt (fpLt b hb)), fun x c h => (f2 b hb).2.2.2.2.1 x c (cs.sub x c h)⟩, I2.bs, Nat.le_trans I2.ok.bsz I2.sz, fun b o e hb => ?_, fun b hb hs => ?_, I2.stack, I2.stkFree⟩
    · rcases (f2 b hb).2.2.2.1 with z | z
      · exact I2.ok.noex b o e z
      · exact absurd (Nat.lt_of_lt_of_le (Heap.lt_size e) (Nat.le_trans I2.ok.bsz z)) (Nat.lt_irrefl _)
    · rcases List.mem_cons.mp (I2.stkSub b hs) with z | z
      · exact (f2 b hb).2.1 z
      · exact (f2 b hb).2.2.1 z
  have hokY : HOk X.prog X.w (upd H2 s2.heap.objs.size (.lst [])) h₁ := I2.hok.laid old (Nat.le_refl _) ⟨by decide, [], 0, .nil, hacc⟩
  have IY : ∀ tk, Inv Y [] (pkS pk σ) (upd H2 s2.heap.objs.size (.lst [])) { s2 with heap := h₁, toks := tk } := fun tk => by
    refine ⟨okY, rfl, I2.bare, ?_, ⟨_, hns₁, fun i x v h1 h2 h3 => ?_⟩, fun x c h => ?_, ?_, fun x c h => ?_, fun p hp => absurd (show p ∈ ([] : List (Addr × Obj)) from hp) (by simp), hokY, by show (pkS pk σ).length = N'.length; rw [← cs.len]; simp [pkS]⟩
    · exact Un.laid old (Nat.le_refl _) hD
    · unfold pkS at h2
      rw [List.getElem?_map] at h2
      cases e : pk[i]? with
      | none => rw [e] at h2; cases h2
      | some o =>
        rw [e] at h2
        cases o with
        | none => cases h2
        | some j =>
          have h2 : (σ[j]?).bind id = some v := Option.some.inj h2
          have h2 : σ[j]? = some (some v) := by
            cases z : σ[j]? with
            | none => rw [z] at h2; cases h2
            | some q =>
              rw [z] at h2
              have h2 : q = some v := h2
              rw [h2]
          obtain ⟨n1, n2, n3⟩ := cs.take i j x e h1
          obtain ⟨m, _, hl⟩ := I2.loc
          have vis : Vis X.env.scope x := by
            rcases n2 with n2 | n2
            · exact .inr (.inl n2)
            · exact .inr (.inr n2)
          obtain ⟨u, r, l⟩ := hl j x v n1 h2 vis
          refine ⟨u, r, .inr ⟨n3, ?_⟩⟩
          rcases l with ⟨k, _⟩ | ⟨_, c, hc, ⟨o, ho, hd⟩⟩
          · rcases n2 with n2 | n2 <;> rw [k] at n2 <;> cases n2
          · obtain ⟨c', hc'⟩ := cs.has x n3
            have e2 := cs.sub x c' hc'
            rw [hc] at e2
            cases e2
            exact ⟨c, hc', o, old c o ho, hd⟩
    · obtain ⟨v, o, ho, hd⟩ := I2.cell x c (cs.sub x c h)
      exact ⟨v, o, old c o ho, hd⟩
    · show upd H2 s2.heap.objs.size (.lst []) Hh.objs.size = none
      rw [upd_ne (Ne.symm hDC)]
      exact I2.hok.fresh hCle
    · have q := I2.freeC x c (cs.sub x c h)
      obtain ⟨v, o, ho, hd⟩ := I2.cell x c (cs.sub x c h)
      show upd H2 s2.heap.objs.size (.lst []) c = none
      rw [upd_ne (below c (Heap.lt_size ho)).2]
      exact q
  have stat : ∀ {H' : Hp}, (∀ b ∈ fp, H' b = none) → ∀ b ∈ fp, FpOk Y [] H' b := fun hn b hb =>
    ⟨hn b hb, (okY.exf b hb).1, okY.exfs b hb, .inl hb, (okY.exf b hb).2, fun p hp => absurd (show p ∈ ([] : List (Addr × Obj)) from hp) (by simp)⟩
  have fin : ∀ (H' : Hp) (σ' : L2.St) (s' : Shared), Inv Y [] σ' H' s' → ∀ h', Heap.SameBut Hh.objs.size s'.heap h' → Inv X pins σ H' { s' with heap := h' } := fun H' σ' s' I' h' hs => by
    have sub : ∀ b o, s2.heap.get? b = some o → b ≠ Hh.objs.size := fun b o e => (below b (Heap.lt_size e)).1
    have un : Un (frs X.stack) fp H2 H' s2.heap s'.heap := I'.base
    refine I2.call' (ch := fp) I'.os ⟨fun b o e n hb hx => (hs.2 b (sub b o e)).trans (un.keep b o e n hb hx), fun b o e n hb hx => ?_, un.free, fun b o e hx => ?_, un.tups, un.frzs, un.tbls⟩ (hok_same I'.hok I'.free hs) I'.bare fun b hb => ⟨(f2 b hb).2.2.2.1, (f2 b hb).2.1, (f2 b hb).2.2.2.2.1, (f2 b hb).2.2.2.2.2⟩
    · obtain ⟨sl, q⟩ := un.slot b o e n hb hx
      exact ⟨sl, (hs.2 b (sub b o e)).trans q⟩
    · obtain ⟨o', q⟩ := un.there b o e hx
      exact ⟨o', (hs.2 b (sub b o e)).trans q⟩
  have loop : ∀ s3 : Shared, (∃ tk, s3 = { s2 with heap := h₁, toks := tk }) →
      codeAny (model X.prog X.w) X.A (.compLoop (.ListComp elt [⟨tg, iter, ifs, 0⟩] scope pos) 0 (.ref it) (.ref s2.heap.objs.size) (compEnvC scope cl Hh.objs.size X.env)) (RR (.ref s2.heap.objs.size) Hh.objs.size) s3 := by
    rintro s3 ⟨tk, rfl⟩
    refine compLoop_any (fun n s' => ∃ i σ' H', Inv Y [] σ' H' s' ∧ tn i s'.heap ∧ (∀ b ∈ fp, H' b = none) ∧ W i n σ' H') ?_ m0 ⟨0, _, _, IY tk, T.keep _ _ _ st2 (fun b _ o e => old b o e), fun b hb => by rw [upd_ne (below b (fpLt b hb)).2]; exact (f2 b hb).1, w0⟩
    rintro n s4 ⟨i, σ4, H4, I4, st4, fr4, w4⟩
    rcases turn i n σ4 H4 w4 with ⟨stop, qn⟩ | ⟨go, step⟩
    · refine wpAny_mono (T.done Y rfl rfl rfl hcm i [] s4 σ4 H4 (fun _ _ => False) I4 (stat fr4) st4 stop) (fun r s5 ⟨hr, I5⟩ => ?_) fun _ _ z => z
      subst hr
      obtain ⟨m, hn, _⟩ := I5.loc
      exact hRR _ _ s5 H4 qn ⟨m, hn⟩ (fin H4 σ4 s5 I5 s5.heap (.refl ..)) I5.free hCle
    · refine wpAny_mono (T.item Y rfl rfl rfl hcm i [] s4 σ4 H4 (fun _ _ => False) I4 (stat fr4) st4 go) (fun r s5 ⟨u, hr, h5⟩ => ?_) fun _ _ z => z
      subst hr
      refine wpAny_mono h5 (fun _ s6 ⟨x, H6, I6, r6, y6, st6, fr6⟩ => ?_) fun _ _ z => z
      have I6' := I6.pinned (stat fr6) (T.obj _ _ st6)
      refine wpAny_mono (hg s2 H2 Hh.objs.size fp _ s6 σ4 H6 x u _ I6' r6 (step x H6 y6)) (fun _ s7 ⟨σ7, H7, I7, q7⟩ => ?_) fun _ _ z => z
      refine wpAny_mono (ht s2 H2 Hh.objs.size fp _ s7 σ7 H7 _ I7 q7) (fun ok s8 ⟨H8, I8, q8⟩ => ?_) fun _ _ z => z
      have back : ∀ {σ9 : L2.St} {H9 : Hp} {s9 : Shared}, Inv Y ([] ++ pinsAt fp s6.heap) σ9 H9 s9 → Inv Y [] σ9 H9 s9 ∧ tn (i + 1) s9.heap ∧ ∀ b ∈ fp, H9 b = none := fun {σ9 H9 s9} I9 =>
        ⟨I9.unpinned, T.keep _ _ _ st6 fun b hb o e => (I9.pin (b, o) (List.mem_append_right _ (List.mem_append_right _ (mem_pinsAt hb e)))).1, fun b hb => by
          obtain ⟨o, e, d⟩ := T.obj _ _ st6 b hb
          exact (I9.pin (b, o) (List.mem_append_right _ (List.mem_append_right _ (mem_pinsAt hb e)))).2.1⟩
      cases ok with
      | false =>
        obtain ⟨m', hm, w'⟩ := (if_neg Bool.false_ne_true).mp q8
        obtain ⟨b1, b2, b3⟩ := back I8
        exact (if_neg Bool.false_ne_true).mpr ⟨m', hm, i + 1, σ7, H8, b1, b2, b3, w'⟩
      | true =>
        refine (if_pos rfl).mpr ?_
        refine wpAny_mono (he s2 H2 Hh.objs.size fp _ s8 σ7 H8 _ I8 ((if_pos rfl).mp q8)) (fun ux s9 ⟨v, H9, I9, r9, xs, ex, hx, m', hm, w'⟩ => ?_) fun _ _ z => z
        refine wpAny_mono (mt_append (X := Y) _ s9 σ7 H9 (.ref s2.heap.objs.size) [v] (.ref s2.heap.objs.size) [ux] (fun _ H' => H' = upd H9 s2.heap.objs.size (.lst (xs ++ [v]))) I9 rfl (.cons r9 .nil) ⟨_, xs, v, rfl, rfl, ex, hx, rfl⟩) (fun _ s10 ⟨_, H10, I10, _, e10⟩ => ?_) fun _ _ z => z
        subst e10
        obtain ⟨b1, b2, b3⟩ := back I10
        exact ⟨m', hm, i + 1, σ7, _, b1, b2, b3, w'⟩
  exact codeAny_compStart_list (loop _ ⟨_, rfl⟩) (T.self _ 0 _ _ _ (T.keep _ _ _ st2 fun b _ o e => old b o e) (loop _ ⟨_, rfl⟩))
theorem inv_let {pins : List (Addr × Obj)} {σ σ2 : L2.St} {H2 H' : Hp} {s2 s' : Shared} {C : Addr} {h' : Heap} (I2 : Inv X pins σ2 H2 s2) (I : Inv X pins σ H' s') (hn : H' C = none) (hC : s2.heap.objs.size ≤ C) (hs : Heap.SameBut C s'.heap h') : Inv X pins σ H' { s' with heap := h' } := by
  refine I.turned (t' := s'.toks) (it := C) (fun b o hb e => (hs.2 b hb).trans e) hn (fun z => ?_) (.inr (Nat.le_trans I2.sz hC)) (fun x c h z => ?_) fun p hp z => ?_
  · exact absurd (Nat.lt_of_lt_of_le I2.lt (by rw [← z]; exact hC)) (Nat.lt_irrefl _)
  · obtain ⟨v, q⟩ := I2.cell x c h
    exact absurd (Nat.lt_of_lt_of_le q.lt (by rw [z]; exact hC)) (Nat.lt_irrefl _)
  · exact absurd (Nat.lt_of_lt_of_le (Heap.lt_size (I2.pin p hp).1) (by rw [z]; exact hC)) (Nat.lt_irrefl _)
theorem closure_of {env : PySem.Env} : ∀ (names : List (Str × NameKind)) (acc : List (Str × Addr)), (∀ x ∈ names, x.2 = .free → ∃ c, env.cells.lookup x.1 = some c) → (∀ x c, acc.lookup x = some c → env.cells.lookup x = some c) →
    ∃ cl, (forIn names acc fun x cs => (if (x.2 == NameKind.free) = true then do let c ← cellOf env x.1; pure (ForInStep.yield ((x.1, c) :: cs)) else pure (ForInStep.yield cs) : Sem _)) = pure cl ∧ (∀ x c, cl.lookup x = some c → env.cells.lookup x = some c) ∧
      (∀ x, (∃ c, acc.lookup x = some c) ∨ (x, NameKind.free) ∈ names → ∃ c, cl.lookup x = some c)
  | [], acc, _, ha => ⟨acc, rfl, ha, fun x h => by
      rcases h with h | h
      · exact h
      · simp at h⟩
  | (n, k) :: r, acc, hn, ha => by
    have hr : ∀ x ∈ r, x.2 = .free → ∃ c, env.cells.lookup x.1 = some c := fun x hx => hn x (List.mem_cons_of_mem _ hx)
    by_cases hk : k = .free
    · subst hk
      obtain ⟨c, hc⟩ := hn (n, .free) List.mem_cons_self rfl
      obtain ⟨cl, e, h1, h2⟩ := closure_of r ((n, c) :: acc) hr (fun x c' h => by
        rw [List.lookup_cons] at h
        by_cases hx : (x == n) = true
        · rw [hx] at h
          cases h
          have : x = n := by simpa using hx
          rw [this]; exact hc
        · have hx : (x == n) = false := by simpa using hx
          rw [hx] at h
          exact ha x c' h)
      refine ⟨cl, ?_, h1, fun x h => h2 x ?_⟩
      · rw [List.forIn_cons]
        simp only [beq_self_eq_true, if_true]
        have q : cellOf env n = pure c := by unfold cellOf; rw [hc]
        rw [q]
        exact e
      · rcases h with ⟨c', h⟩ | h
        · left
          rw [List.lookup_cons]
          by_cases hx : (x == n) = true
          · rw [hx]; exact ⟨c, rfl⟩
          · have hx : (x == n) = false := by simpa using hx
            rw [hx]; exact ⟨c', h⟩
        · rcases List.mem_cons.mp h with h | h
          · left
            cases h
            exact ⟨c, by rw [List.lookup_cons, beq_self_eq_true]⟩
          · exact .inr h
    · have hb : (k == NameKind.free) = false := by simpa using hk
      obtain ⟨cl, e, h1, h2⟩ := closure_of r acc hr ha
      refine ⟨cl, ?_, h1, fun x h => h2 x ?_⟩
      · rw [List.forIn_cons]
        simp only [hb, Bool.false_eq_true, if_false]
        exact e
      · rcases h with h | h
        · exact .inl h
        · rcases List.mem_cons.mp h with h | h
          · cases h; exact absurd rfl hk
          · exact .inr h
theorem closure_ok {env : PySem.Env} {scope : Scope} (hn : ∀ x ∈ scope.names, x.2 = .free → ∃ c, env.cells.lookup x.1 = some c) : ∃ cl, closureFor scope env = pure cl ∧ (∀ x c, cl.lookup x = some c → env.cells.lookup x = some c) ∧ (∀ x, (x, NameKind.free) ∈ scope.names → ∃ c, cl.lookup x = some c) := by
  obtain ⟨cl, e, h1, h2⟩ := closure_of (env := env) scope.names [] hn (fun x c h => by simp at h)
  refine ⟨cl, ?_, h1, fun x h => h2 x (.inr h)⟩
  unfold closureFor
  have e2 : (forIn scope.names ([] : List (Str × Addr)) fun x r => (match x with
      | (name, kind) => if (kind == NameKind.free) = true then do let c ← cellOf env name; pure (ForInStep.yield ((name, c) :: r)) else pure (ForInStep.yield r) : Sem _)) = pure cl := e
  first
    | exact congrArg (fun m => m >>= fun cs => pure cs) e2
    | (show (do let cs ← forIn scope.names ([] : List (Str × Addr)) fun x r => _; pure cs) = _; rw [e2]; rfl)
structure CompTab (sc scope : Scope) (N N' : List Str) (pk : List (Option Nat)) : Prop where
  kind : scope.kind = .function
  cell : ∀ y ∈ scope.names, y.2 ≠ .cell
  names : ∀ y ∈ scope.names, y.2 = .local → scope.names.lookup y.1 = some .local
  free : ∀ y ∈ scope.names, y.2 = .free → sc.names.lookup y.1 = some .cell ∨ sc.names.lookup y.1 = some .free
  len : pk.length = N'.length
  take : ((List.range N'.length).all fun i => match pk[i]? with
    | some (some j) => match N[j]?, N'[i]? with
      | some x, some y => (x == y) && ((sc.names.lookup y == some NameKind.cell) || (sc.names.lookup y == some NameKind.free)) && (scope.names.lookup y == some NameKind.free)
      | _, _ => false
    | _ => true) = true
theorem relabel_lookup {scope : Scope} {env : PySem.Env} {x : Str} : ∀ (names : List (Str × NameKind)), ((names.map fun (n, k) => if (k == NameKind.free && env.scope.kind == .function && env.kindOf n == some .cell) = true then (n, NameKind.cell) else (n, k)).lookup x = some .cell ∨
      (names.map fun (n, k) => if (k == NameKind.free && env.scope.kind == .function && env.kindOf n == some .cell) = true then (n, NameKind.cell) else (n, k)).lookup x = some .free) → (∀ y ∈ names, y.2 ≠ .cell) → (x, NameKind.free) ∈ names
  | [], h, _ => by simp at h
  | (n, k) :: r, h, hc => by
    rw [List.map_cons] at h
    by_cases hx : (x == n) = true
    · have e : x = n := by simpa using hx
      subst e
      have hk := hc (x, k) List.mem_cons_self
      by_cases hq : (k == NameKind.free && env.scope.kind == .function && env.kindOf x == some .cell) = true
      · have : k = .free := by
          rw [Bool.and_eq_true, Bool.and_eq_true] at hq
          simpa using hq.1.1
        subst this
        exact List.mem_cons_self
      · simp only [hq, Bool.false_eq_true, if_false, List.lookup_cons, beq_self_eq_true] at h
        rcases h with h | h
        · exact absurd (by simpa using h) hk
        · have : k = .free := by simpa using h
          subst this
          exact List.mem_cons_self
    · have hx : (x == n) = false := by simpa using hx
      refine List.mem_cons_of_mem _ (relabel_lookup (scope := scope) (env := env) r ?_ fun y hy => hc y (List.mem_cons_of_mem _ hy))
      by_cases hq : (k == NameKind.free && env.scope.kind == .function && env.kindOf n == some .cell) = true
      · simpa only [hq, if_true, List.lookup_cons, hx] using h
      · simpa only [hq, Bool.false_eq_true, if_false, List.lookup_cons, hx] using h
theorem lookup_relabel_free {scope : Scope} {env : PySem.Env} {x : Str} : ∀ (names : List (Str × NameKind)), names.lookup x = some .free → ((names.map fun (n, k) => if (k == NameKind.free && env.scope.kind == .function && env.kindOf n == some .cell) = true then (n, NameKind.cell) else (n, k)).lookup x = some .cell ∨
      (names.map fun (n, k) => if (k == NameKind.free && env.scope.kind == .function && env.kindOf n == some .cell) = true then (n, NameKind.cell) else (n, k)).lookup x = some .free)
  | [], h => by simp at h
  | (n, k) :: r, h => by
    rw [List.map_cons]
    by_cases hx : (x == n) = true
    · rw [List.lookup_cons, hx] at h
      have : k = .free := by simpa using h
      subst this
      by_cases hq : (NameKind.free == NameKind.free && env.scope.kind == .function && env.kindOf n == some .cell) = true
      · left; simp only [hq, if_true, List.lookup_cons, hx]
      · right; simp only [hq, Bool.false_eq_true, if_false, List.lookup_cons, hx]
    · have hx : (x == n) = false := by simpa using hx
      rw [List.lookup_cons, hx] at h
      have := lookup_relabel_free (scope := scope) (env := env) r h
      by_cases hq : (k == NameKind.free && env.scope.kind == .function && env.kindOf n == some .cell) = true
      · simpa only [hq, if_true, List.lookup_cons, hx] using this
      · simpa only [hq, Bool.false_eq_true, if_false, List.lookup_cons, hx] using this
theorem CompTab.sc {scope : Scope} {N' : List Str} {pk : List (Option Nat)} (t : CompTab X.env.scope scope X.N N' pk) (ok : X.Ok) : ∃ cl, CompSc X scope cl N' pk := by
  obtain ⟨cl, e, h1, h2⟩ := closure_ok (env := X.env) (scope := scope) fun x hx hf => ok.has x.1 (t.free x hx hf)
  refine ⟨cl, t.kind, t.cell, t.names, e, h1, fun x h => h2 x (relabel_lookup (scope := scope) (env := X.env) scope.names h t.cell), t.len, fun i j x hp hn => ?_⟩
  have hi : i < N'.length := (List.getElem?_eq_some_iff.mp hn).1
  have q := List.all_eq_true.mp t.take i (List.mem_range.mpr hi)
  simp only [hp, hn] at q
  cases hj : X.N[j]? with
  | none => simp [hj] at q
  | some y =>
    simp only [hj, Bool.and_eq_true, Bool.or_eq_true, beq_iff_eq] at q
    obtain ⟨⟨e1, e2⟩, e3⟩ := q
    subst e1
    exact ⟨rfl, e2, lookup_relabel_free (scope := scope) (env := X.env) scope.names e3⟩
theorem pe_comp {elt tg iter : Expr} {ifs : List Expr} {scope : Scope} {pos : Pos} {N' : List Str} {pk : List (Option Nat)} {wi : TI} {g : TG} {tt : TT} {te : TE} (ct : CompTab X.env.scope scope X.N N' pk) (hcm : X.calm = true) (hi : PI X tg iter wi)
    (hg : ∀ cl s2 H2 C fp, PG (blk X s2 H2 C scope cl N' fp) tg g) (ht : ∀ cl s2 H2 C fp, PTs (blk X s2 H2 C scope cl N' fp) ifs tt) (he : ∀ cl s2 H2 C fp, PE (blk X s2 H2 C scope cl N' fp) elt te)
    (hs : ∀ x, foldedSetIterable iter X.env x = pure x := by intro _; rfl) : PE X (.ListComp elt [⟨tg, iter, ifs, 0⟩] scope pos) (tComp wi pk g tt te) := by
  intro pins s σ H Q I h
  obtain ⟨cl, cs⟩ := ct.sc I.ok
  rw [eval_ListComp]
  refine wpAny_comprehension_free (use := none) rfl hs cs.clos cs.kind cs.names (thn (hi pins s σ H _ I h) fun x s1 h1 => thn h1 fun itv s2 h2 => ?_)
  obtain ⟨it, fp, tn, J, H2, e, I2, T, st2, f2, hQ⟩ := h2
  subst e
  refine comp_block cs hcm (hg cl) (ht cl) (he cl) I2 T st2 f2 hQ (RR := fun acc C => compPost (model X.prog X.w) X.A X.xe none (EP X pins σ Q) acc C) fun D C s' H' q hn inv hf hC => ?_
  obtain ⟨m, hn⟩ := hn
  exact ⟨m, hn, fun h' hs' => ⟨.ref D, H', inv_let I2 inv hf hC hs', rfl, q⟩⟩
theorem ps_setComp {i : Nat} {y : Str} {py spos : Pos} {elt tg iter : Expr} {ifs : List Expr} {scope : Scope} {pos : Pos} {N' : List Str} {pk : List (Option Nat)} {wi : TI} {g : TG} {tt : TT} {te : TE} (ct : CompTab X.env.scope scope X.N N' pk) (hcm : X.calm = true) (hi : PI X tg iter wi)
    (hg : ∀ cl s2 H2 C fp, PG (blk X s2 H2 C scope cl N' fp) tg g) (ht : ∀ cl s2 H2 C fp, PTs (blk X s2 H2 C scope cl N' fp) ifs tt) (he : ∀ cl s2 H2 C fp, PE (blk X s2 H2 C scope cl N' fp) elt te)
    (hN : X.N.Nodup) (hy : X.N[i]? = some y) (hx : Loc X.env.scope y) (hsw : swapsWith (.ListComp elt [⟨tg, iter, ifs, 0⟩] scope pos) (some (.Name y py)) spos.line X.env = pure true)
    (hs : ∀ x, foldedSetIterable iter X.env x = pure x := by intro _; rfl) (hf : X.fn y = true ∨ X.env.scope.names.lookup y = some .local := by first | exact .inl rfl | exact .inr rfl | assumption) :
    PS X (.Assign [.Name y py] (.ListComp elt [⟨tg, iter, ifs, 0⟩] scope pos) spos) (tAsg (tComp wi pk g tt te) (gName i)) := by
  intro pins s σ H E I h
  obtain ⟨cl, cs⟩ := ct.sc I.ok
  rw [exec_Assign_Name_used _ _ _ _ hsw]
  refine wpAny_bind (wpAny_standAt (wpAny_bind ?_))
  show wpAny _ X.A (do let _ ← comprehension (.ListComp elt [⟨tg, iter, ifs, 0⟩] scope pos) scope X.env _ (newList []) false (eval iter X.env) (some (assign (.Name y py) X.env))) _ _ s
  refine wpAny_bind (wpAny_mono (wpAny_comprehension_free (use := some (assign (.Name y py) X.env)) (Q := fun _ s' => SP X pins E .next s') rfl hs cs.clos cs.kind cs.names
    (thn (hi pins s σ H _ I h) fun x s1 h1 => thn h1 fun itv s2 h2 => ?_)) (fun _ s' hq => wpAny_pure (wpAny_pure hq)) fun _ _ e => e)
  obtain ⟨it, fp, tn, J, H2, e, I2, T, st2, f2, hQ⟩ := h2
  subst e
  refine comp_block cs hcm (hg cl) (ht cl) (he cl) I2 T st2 f2 (Q := fun x H1 => gName i x σ H1 E.nx) hQ (RR := fun acc C => compPost (model X.prog X.w) X.A X.xe (some (assign (.Name y py) X.env)) (fun _ s' => SP X pins E .next s') acc C) fun D C s' H' q hn inv hfr hC => ?_
  obtain ⟨m, hn⟩ := hn
  show wpAny _ X.A (assign (.Name y py) X.env (.ref D)) _ _ _
  refine wpAny_assign_Name (store_ok2 inv hN hy hx (v := .ref D) rfl (fun s'' I'' hch => ?_) hf)
  obtain ⟨a, hsb, ha⟩ := hch
  have hCa : C ≠ a := by
    rcases ha with ha | ha
    · rintro rfl
      exact absurd (Nat.lt_of_lt_of_le I2.lt (by rw [← ha]; exact hC)) (Nat.lt_irrefl _)
    · rintro rfl
      obtain ⟨v, z⟩ := I2.cell y _ ha
      exact absurd (Nat.lt_of_lt_of_le z.lt hC) (Nat.lt_irrefl _)
  exact ⟨m, hn.sameBut hsb hCa, fun h' hs' => ⟨_, H', inv_let I2 I'' hfr hC hs', q⟩⟩
abbrev XN : XW := fun _ _ _ _ _ _ => False
def cbody (a : Nat) (t : Ev Bool) (e : Ev D) : Sv := fun ρ S => bindS (t ρ S) ρ fun b S1 => if b = true then bindS (e ρ S1) ρ fun d S2 => (match S2[a]? with
    | some c => if c.fz = false ∧ c.xs.length < 1000000 then .nx ρ (S2.set a ⟨false, c.xs ++ [d]⟩) else .bad
    | none => .bad) else .nx ρ S1
def cmp (f : Ev Src) (pk : List (Option Nat)) (g : Tg) (t : Ev Bool) (e : Ev D) : Ev D := fun ρ S => (f ρ S).bind fun src S1 => match forN src.nxt g (cbody S1.length t e) src.fuel 0 (pkS pk ρ) (S1 ++ [⟨false, []⟩]) with
  | .nx _ S' => .ok (.lst S1.length) S'
  | _ => .bad
def PostC (K : PySem.W.Frag) (XQ : XW) (σ : L2.St) (ρ : Lc) (a : Nat) (mp : List Addr) (H : Hp) (o : OS) (Q : VK) : Prop := match o with
  | .nx _ S => Post K XQ σ ρ mp H (.ok (.lst a) S) Q
  | _ => False
theorem PostC.aft {K : PySem.W.Frag} {XQ : XW} {σ : L2.St} {ρ : Lc} {a : Nat} {mp mp' : List Addr} {H H' : Hp} {o : OS} {Q : VK} (p : PostC K XQ σ ρ a mp H o Q) (af : Aft K mp H mp' H') : PostC K XQ σ ρ a mp' H' o Q := by
  cases o with
  | nx r S => exact PostG.aft (show Post K XQ σ ρ mp H (.ok (.lst a) S) Q from p) af
  | _ => exact p
theorem Gd.pick {K : PySem.W.Frag} {mp : List Addr} {H : Hp} {σ : L2.St} {ρ : Lc} {S : Sto} (G : Gd K mp H σ ρ S) (pk : List (Option Nat)) : Gd K mp H (pkS pk σ) (pkS pk ρ) S := by
  refine ⟨G.rs, by simp [pkS], fun i d h => ?_⟩
  unfold pkS at h ⊢
  rw [List.getElem?_map] at h ⊢
  cases e : pk[i]? with
  | none => rw [e] at h; cases h
  | some o =>
    rw [e] at h
    cases o with
    | none => cases h
    | some j =>
      have h : (ρ[j]?).bind id = some d := Option.some.inj h
      have h : ρ[j]? = some (some d) := by
        cases z : ρ[j]? with
        | none => rw [z] at h; cases h
        | some q =>
          rw [z] at h
          have h : q = some d := h
          rw [h]
      obtain ⟨v, e1, r⟩ := G.loc j d h
      refine ⟨v, ?_, r⟩
      show some ((σ[j]?).bind id) = some (some v)
      rw [e1]
      rfl
def JTs (Y : Cx) (XQ : XW) (ifs : List Expr) (t : Ev Bool) : Prop := PTs Y ifs (rdT Y.K XQ t)
def ttrue : Ev Bool := fun _ S => .ok true S
theorem jts_nil {Y : Cx} {XQ : XW} : JTs Y XQ [] ttrue := fun pins s σ H Q I ⟨mp, ρ, S, G, p⟩ => pts_nil pins s σ H Q I (PostG.ok (show PostG Y.K kB XQ σ ρ mp H (.ok true S) Q from p) G.rs rfl)
theorem compP {K : PySem.W.Frag} {XQ : XW} {f : Ev Src} {pk : List (Option Nat)} {g : Tg} {t : Ev Bool} {e : Ev D} (σ : L2.St) (H : Hp) (Q : VK) (h : rdE K XQ (cmp f pk g t e) σ H Q) : tComp (rdI K XQ f) pk (rdG1 K g) (rdT K XN t) (rdE K XN e) σ H Q := by
  obtain ⟨mp, ρ, S, G, p⟩ := h
  refine bindP G p fun mp1 H1 src S1 J a1 G1 j1 p1 => ?_
  intro a ha
  obtain ⟨af, rs, la⟩ := G1.rs.newL ha (RepL.nil : RepL K mp1 H1 [] [])
  have p1 : PostC K XQ σ ρ S1.length (mp1 ++ [a]) (upd H1 a (.lst [])) (forN src.nxt g (cbody S1.length t e) src.fuel 0 (pkS pk ρ) (S1 ++ [⟨false, []⟩])) Q := by
    cases z : forN src.nxt g (cbody S1.length t e) src.fuel 0 (pkS pk ρ) (S1 ++ [⟨false, []⟩]) with
    | nx r S' => rw [z] at p1; exact PostG.aft p1 af
    | rt d S' => rw [z] at p1; exact p1
    | bk r S' => rw [z] at p1; exact p1
    | ct r S' => rw [z] at p1; exact p1
    | exc x r S' => rw [z] at p1; exact p1
    | bad => rw [z] at p1; exact p1
  refine ⟨fun i m σ' H' => ∃ mp' ρ' S', Aft K mp1 H1 mp' H' ∧ Gd K mp' H' σ' ρ' S' ∧ mp'[S1.length]? = some a ∧ PostC K XQ σ ρ S1.length mp' H' (forN src.nxt g (cbody S1.length t e) m i ρ' S') Q, ⟨src.fuel, _, _, _, af, (G1.pick pk).aft af rs, la, p1⟩, ?_⟩
  rintro i m σ' H' ⟨mp', ρ', S', a', G', la', p'⟩
  cases m with
  | zero => exact (show False from p').elim
  | succ n =>
    have j := j1 mp' H' S' a' G'.rs i
    unfold forN at p'
    cases z : src.nxt i S' with
    | none =>
      rw [z] at j p'
      exact .inl ⟨j, PostG.ok (show Post K XQ σ ρ mp' H' (.ok (.lst S1.length) S') Q from p') G'.rs ⟨a, rfl, la'⟩⟩
    | some d =>
      rw [z] at j p'
      obtain ⟨j1, j2⟩ := j
      refine .inr ⟨j1, fun x H2 y => ?_⟩
      obtain ⟨a2, r2, x2⟩ := j2 x H2 y
      have G2 := G'.aft a2 r2
      cases zg : g d ρ' with
      | none => simp only [zg] at p'; exact p'.elim
      | some ρ1 =>
        simp only [zg] at p'
        refine ⟨mp', ρ', S', d, ρ1, G2, x2, zg, fun σ3 G3 => ⟨mp', ρ1, S', G3, ?_⟩⟩
        have p2 := PostC.aft p' a2
        unfold cbody at p2
        cases zt : t ρ1 S' with
        | exc x S2 => simp only [zt, bindS] at p2; exact p2.elim
        | bad => simp only [zt, bindS] at p2; exact p2.elim
        | ok b S2 =>
          simp only [zt, bindS] at p2
          intro mp3 H3 b' a3 rs3 e3
          cases (show b' = b from e3)
          have G4 := G3.aft a3 rs3
          cases b with
          | false =>
            simp only [Bool.false_eq_true, if_false] at p2
            exact (if_neg Bool.false_ne_true).mpr ⟨n, Nat.lt_succ_self n, mp3, ρ1, S2, (a'.trans a2).trans a3, G4, a3.pre _ _ la', PostC.aft p2 a3⟩
          | true =>
            simp only [if_true] at p2
            refine (if_pos rfl).mpr ⟨mp3, ρ1, S2, G4, ?_⟩
            cases ze : e ρ1 S2 with
            | exc x S3 => simp only [ze] at p2; exact p2.elim
            | bad => simp only [ze] at p2; exact p2.elim
            | ok d2 S3 =>
              simp only [ze] at p2
              intro mp4 H4 v a4 rs4 r4
              have la4 := a4.pre _ _ (a3.pre _ _ la')
              have G5 := G4.aft a4 rs4
              cases zc : S3[S1.length]? with
              | none => simp only [zc] at p2; exact p2.elim
              | some c =>
                simp only [zc] at p2
                by_cases hc : c.fz = false ∧ c.xs.length < 1000000
                · rw [if_pos hc] at p2
                  obtain ⟨a5, xs, e5, h5, s5, r5, f5⟩ := rs4.items (v := .ref a) ⟨a, rfl, la4⟩ zc
                  cases e5
                  have h5 := f5 hc.1
                  obtain ⟨af6, rs6⟩ := rs4.setL la4 zc hc.1 h5 (RepL.append r5 (RepL.cons r4 RepL.nil))
                  refine ⟨xs, h5, ?_, n, Nat.lt_succ_self n, mp4, ρ1, _, (((a'.trans a2).trans a3).trans a4).trans af6, G5.aft af6 rs6, la4, PostC.aft p2 ((a3.trans a4).trans af6)⟩
                  rw [r5.len]
                  exact Nat.lt_of_lt_of_le hc.2 (by decide)
                · rw [if_neg hc] at p2; exact p2.elim
variable {XQ : XW}
theorem je_comp {elt tg iter : Expr} {ifs : List Expr} {scope : Scope} {pos : Pos} {N' : List Str} {pk : List (Option Nat)} {f : Ev Src} {g : Tg} {t : Ev Bool} {e : Ev D} (ct : CompTab X.env.scope scope X.N N' pk) (hcm : X.calm = true) (hi : JI X XQ tg iter f)
    (hg : ∀ cl s2 H2 C fp, JG (blk X s2 H2 C scope cl N' fp) tg g) (ht : ∀ cl s2 H2 C fp, JTs (blk X s2 H2 C scope cl N' fp) XN ifs t) (he : ∀ cl s2 H2 C fp, JE (blk X s2 H2 C scope cl N' fp) XN elt e)
    (hs : ∀ x, foldedSetIterable iter X.env x = pure x := by intro _; rfl) : JE X XQ (.ListComp elt [⟨tg, iter, ifs, 0⟩] scope pos) (cmp f pk g t e) :=
  PE.mono (pe_comp (g := rdG1 X.K g) (tt := rdT X.K XN t) (te := rdE X.K XN e) ct hcm hi hg ht he hs) compP
theorem js_setComp (i : Nat) {y : Str} {py spos : Pos} {elt tg iter : Expr} {ifs : List Expr} {scope : Scope} {pos : Pos} {N' : List Str} {pk : List (Option Nat)} {f : Ev Src} {g : Tg} {t : Ev Bool} {e : Ev D} (ct : CompTab X.env.scope scope X.N N' pk) (hcm : X.calm = true) (hi : JI X XQ tg iter f)
    (hg : ∀ cl s2 H2 C fp, JG (blk X s2 H2 C scope cl N' fp) tg g) (ht : ∀ cl s2 H2 C fp, JTs (blk X s2 H2 C scope cl N' fp) XN ifs t) (he : ∀ cl s2 H2 C fp, JE (blk X s2 H2 C scope cl N' fp) XN elt e)
    (hN : X.N.Nodup) (hy : X.N[i]? = some y := by rfl) (hx : Loc X.env.scope y := by first | exact Or.inl rfl | exact Or.inr rfl) (hsw : swapsWith (.ListComp elt [⟨tg, iter, ifs, 0⟩] scope pos) (some (.Name y py)) spos.line X.env = pure true := by rfl)
    (hs : ∀ x, foldedSetIterable iter X.env x = pure x := by intro _; rfl) (hf : X.fn y = true ∨ X.env.scope.names.lookup y = some .local := by first | exact .inl rfl | exact .inr rfl | assumption) :
    JS X XQ (.Assign [.Name y py] (.ListComp elt [⟨tg, iter, ifs, 0⟩] scope pos) spos) (sa (cmp f pk g t e) (gn i)) := by
  refine PS.mono (ps_setComp (g := rdG1 X.K g) (tt := rdT X.K XN t) (te := rdE X.K XN e) ct hcm hi hg ht he hN hy hx hsw hs hf) fun E σ H ⟨mp, ρ, S, G, p⟩ => compP σ H _ ?_
  exact bindSP G p fun mp1 H1 d S1 v a1 G1 r1 p1 => PostS.nx p1 (G1.set i r1)
end
end DL
set_option Elab.async false
set_option linter.all false
set_option maxRecDepth 100000
namespace DL
open PySem PySem.Spec PyProof.Rows L2
theorem tm_nofill : fillsNumberSlot (.type "tuple") "mul" = pure false :=
  PySem.fillsNumberSlot_seq (id := "tuple.__mul__") (r := some (.builtin "tuple.__rmul__")) F.slot_tuple_mul.lookup (by decide +kernel) F.slot_tuple_rmul.lookup (by decide +kernel)
theorem tm_repeats : seqRepeat? (.type "tuple") = pure (some (.builtin "tuple.__mul__")) := by
  unfold seqRepeat?
  rw [PySem.seqSlot_of (T := "tuple") (name := "__mul__") (id := "tuple.__mul__") F.slot_tuple_mul.lookup (by decide +kernel), PySem.seqSlot_of (T := "tuple") (name := "__rmul__") (id := "tuple.__rmul__") F.slot_tuple_rmul.lookup (by decide +kernel)]
  rfl
theorem tm_int (x : Int) (t : Tok) (l : Addr) (xs : Array Value) (n : Nat) (d : Option Addr) (sl : Array (Option Value)) :
    Meets (Builtin.«int.__rmul__» ⟨[.int x t, .ref l], []⟩) (fun _ R s => s.heap.get? l = some { cls := .type "tuple", dict := d, data := .seq xs n, slots := sl } ∧ R (.ok (.ret Value.notImplemented)) s) :=
  .of_wp fun prog w A R s h => by obtain ⟨hp, g, d, tk, os⟩ := s; obtain ⟨hl, h⟩ := h; wp_walk; exact ⟨_, rfl, h⟩
theorem tm_tup (x : Int) (t : Tok) (l : Addr) (xs : Array Value) (n : Nat) (d : Option Addr) (sl : Array (Option Value)) (c0 : ¬ (decide (x < -2 ^ 63) || decide (x ≥ 2 ^ 63)) = true) (c1 : ¬ (xs.isEmpty || x == 1) = true) (c2 : ¬ (decide (x ≤ 0) || xs.isEmpty) = true) (c3 : ¬ (xs.size : Int) * x > (2 ^ 63 - 1) / 8) (c4 : ¬ Builtin.Tuple.tupleTooMany ((xs.size : Int) * x) = true) (c5 : (List.foldl (fun x1 x2 => x1 ++ x2) #[] (List.replicate x.toNat xs)).size ≤ sizeLine) :
    Meets (Builtin.«tuple.__mul__» ⟨[.ref l, .int x t], []⟩) (fun _ R s => s.heap.get? l = some { cls := .type "tuple", dict := d, data := .seq xs n, slots := sl } ∧ R (.ok (.ret (Value.ref s.heap.objs.size))) { s with heap := s.heap.push { cls := Value.type "tuple", data := Data.seq (List.foldl (fun x1 x2 => x1 ++ x2) #[] (List.replicate x.toNat xs)) }, toks := s.toks }) :=
  .of_wp fun prog w A R s h => by
    obtain ⟨hp, g, d, tk, os⟩ := s; obtain ⟨hl, h⟩ := h
    wp_walk
    refine wpAny_ite_false (decide_eq_false c0) ?_
    wp_walk using wpAny_loadPart' hl
    refine wpAny_ite_false (decide_eq_false c3) ?_
    wp_walk
    exact ⟨_, rfl, h⟩
section
variable {X : Cx}
def rRepT (K : PySem.W.Frag) : R2 := fun x y H Q => ∃ a k xs, x = .ref a ∧ y = .int k ∧ SqT K H a xs ∧ xs ≠ [] ∧ 2 ≤ k ∧ k ≤ 1000000 ∧ xs.length * k.toNat ≤ sizeLine ∧ ∀ p, H p = none → Q (.ref p) (upd H p (.tup (List.replicate k.toNat xs).flatten))
theorem op_repT : OpR X (binaryOp .Mult) (rRepT X.K) := by
  intro pins s σ H x y v u Q I rx ry ⟨a, k, xs, e1, e2, ha, hne, k2, k3, hz, q⟩
  subst e1 e2
  cases rx
  obtain ⟨t, rfl⟩ := ry
  obtain ⟨its, r1, p1, _⟩ := I.tuple ha
  obtain ⟨⟨cls, dd, data, sl⟩, ho, hc, n, hd⟩ := id p1
  simp only at hc hd
  subst hc hd
  have hl : xs.length = its.length := r1.length
  have hne' : its ≠ [] := fun z => hne (r1.nil_iff.mp z)
  have hie : its.toArray.isEmpty = false := by
    cases its with
    | nil => exact absurd rfl hne'
    | cons _ _ => rfl
  have hnew : List.foldl (fun x1 x2 => x1 ++ x2) #[] (List.replicate k.toNat its.toArray) = (List.replicate k.toNat its).flatten.toArray := by
    have := foldl_rep its k.toNat []
    rw [List.nil_append] at this
    exact this
  have hsz : (its.toArray.size : Int) * k ≤ (sizeLine : Int) := by
    rw [List.size_toArray, ← hl]
    have h1 : ((xs.length * k.toNat : Nat) : Int) ≤ (sizeLine : Int) := by exact_mod_cast hz
    rw [Int.natCast_mul, Int.toNat_of_nonneg (by omega)] at h1
    exact h1
  have hsl : (sizeLine : Int) ≤ (2 ^ 63 - 1) / 8 := by decide
  refine wpAny_binaryOp_repeat_ref (T := "tuple") (U := "int") (by decide) ⟨_, ho, rfl⟩ (fun s' => typeIs_int s' k t) tm_nofill F.fills_int_mul F.slot_int_rmul tm_repeats F.slot_int_index.lookup
    (call_meets F.slot_int_rmul (typeIs_int s k t) F.entry_int_rmul (F.args_int_rmul_2 _ _) (tm_int k t a its.toArray n dd sl)
      ⟨ho, rfl, ⟨_, ho, rfl⟩, call_meets F.slot_tuple_mul ⟨_, ho, rfl⟩ F.entry_tuple_mul (F.args_tuple_mul_2 _ _) (tm_tup k t a its.toArray n dd sl ?c0 ?c1 ?c2 ?c3 ?c4 ?c5) ⟨ho, ?_⟩⟩)
  case c0 => simp; omega
  case c1 => rw [hie]; simp; omega
  case c2 => rw [hie]; simp; omega
  case c3 => omega
  case c4 => unfold Builtin.Tuple.tupleTooMany; simp; omega
  case c5 => rw [hnew, List.size_toArray, len_rep, ← hl, Nat.mul_comm]; exact hz
  rw [hnew]
  refine ⟨.ref s.heap.objs.size, _, I.laid (t' := s.toks) (o := .tup (List.replicate k.toNat xs).flatten) (fun b ob q => Heap.get?_push_of_some _ q) (Nat.le_refl _) ?_, rfl, q _ (I.hok.fresh (Nat.le_refl _))⟩
  exact ⟨by rw [len_rep, Nat.mul_comm]; exact hz, _, r1.rep k.toNat, IsTup.new _ _⟩
end
end DL
set_option Elab.async false
set_option linter.all false
set_option maxRecDepth 100000
namespace DL
open PySem PySem.Spec PyProof.Rows L2
def mapO {α β : Type} (f : α → Option β) : List α → Option (List β)
  | [] => some []
  | x :: l => match f x, mapO f l with
    | some y, some ys => some (y :: ys)
    | _, _ => none
def toP (S : Sto) : Nat → D → Option PyData
  | 0, _ => none
  | n + 1, d => match d with
    | .non => some .none
    | .bl b => some (.bool b)
    | .int i => some (.int i)
    | .str x => some (.str x)
    | .tup l => (mapO (toP S n) l).map .tuple
    | .lst i => match S[i]? with
      | some c => (mapO (toP S n) c.xs).map .list
      | none => none
section
variable {X : Cx} {pins : List (Addr × Obj)} {σ : L2.St} {H : Hp} {s : Shared} {mp : List Addr} {S : Sto}
theorem readsPs {f : D → Option PyData} {K : PySem.W.Frag} (hf : ∀ (d : D) (v : V) (u : Value) (p : PyData), Rep K mp H d v → RelV v u → f d = some p → ∃ as, Reads s.heap u p as) : ∀ (l : List D) (vs : List V) (us : List Value) (ps : List PyData), RepL K mp H l vs → Vals vs us → mapO f l = some ps → ∃ as, ReadsAll s.heap us ps as
  | [], vs, us, ps, h, r, e => by
    cases (show vs = [] from h); cases r
    cases (Option.some.inj e)
    exact ⟨_, .nil⟩
  | d :: l, vs, us, ps, h, r, e => by
    obtain ⟨v, vr, rfl, h1, h2⟩ := (show ∃ v r, vs = v :: r ∧ Rep K mp H d v ∧ RepL K mp H l r from h)
    cases r with
    | cons r1 r2 =>
      cases z1 : f d with
      | none => simp only [mapO, z1] at e; cases e
      | some p =>
        cases z2 : mapO f l with
        | none => simp only [mapO, z1, z2] at e; cases e
        | some qs =>
          simp only [mapO, z1, z2] at e
          cases (Option.some.inj e)
          obtain ⟨as, ra⟩ := hf d v _ p h1 r1 z1
          obtain ⟨bs, rb⟩ := readsPs hf l vr _ qs h2 r2 z2
          exact ⟨_, .cons ra rb⟩
theorem readsP (I : Inv X pins σ H s) (rs : RS X.K mp H S) : ∀ (n : Nat) (d : D) (v : V) (u : Value) (p : PyData), Rep X.K mp H d v → RelV v u → toP S n d = some p → ∃ as, Reads s.heap u p as := by
  intro n
  induction n with
  | zero => intro d v u p h r e; cases e
  | succ n ih =>
    intro d v u p h r e
    cases d with
    | non =>
      cases (show v = .non from h); cases (show u = Value.none from r)
      cases (Option.some.inj e)
      exact ⟨_, .none⟩
    | bl b =>
      cases (show v = .bl b from h); cases (show u = Value.bool b from r)
      cases (Option.some.inj e)
      exact ⟨_, .bool b⟩
    | int i =>
      cases (show v = .int i from h); obtain ⟨t, rfl⟩ := (show ∃ t, u = Value.int i t from r)
      cases (Option.some.inj e)
      exact ⟨_, .int i t⟩
    | str x =>
      cases (show v = .str x from h); obtain ⟨t, rfl⟩ := (show ∃ t, u = Value.str x t from r)
      cases (Option.some.inj e)
      exact ⟨_, .str x t⟩
    | tup l =>
      obtain ⟨a, xs, rfl, sq, q⟩ := Rep.tup h
      cases (show u = Value.ref a from r)
      obtain ⟨its, rv, ⟨o, ho, hc, k, hd⟩, _⟩ := I.tuple sq
      have e : (mapO (toP S n) l).map PyData.tuple = some p := e
      cases z : mapO (toP S n) l with
      | none => rw [z] at e; cases e
      | some ps =>
        rw [z] at e
        cases (Option.some.inj e)
        obtain ⟨as, ra⟩ := readsPs ih l xs its ps q rv z
        exact ⟨as, .tuple ho hc hd (by simpa using ra)⟩
    | lst i =>
      have e : (match S[i]? with | some c => (mapO (toP S n) c.xs).map PyData.list | none => none) = some p := e
      cases zc : S[i]? with
      | none => rw [zc] at e; cases e
      | some c =>
        rw [zc] at e
        obtain ⟨a, xs, rfl, _, sq, q, _⟩ := rs.items h zc
        cases (show u = Value.ref a from r)
        obtain ⟨its, rv, ⟨o, k, ho, hc, _, hd⟩, _⟩ := I.list sq
        have e : (mapO (toP S n) c.xs).map PyData.list = some p := e
        cases z : mapO (toP S n) c.xs with
        | none => rw [z] at e; cases e
        | some ps =>
          rw [z] at e
          cases (Option.some.inj e)
          obtain ⟨as, ra⟩ := readsPs ih c.xs xs its ps q rv z
          exact ⟨_, .list ho hc hd (by simpa using ra)⟩
end
def eqD (x y : D) (S : Sto) : Out D := match toP S 40 x, toP S 40 y with
  | some p, some q => if (SeqAt.shaped p && SeqAt.shaped q) = true then .ok (.bl (PyData.eqv p q)) S else .bad
  | _, _ => .bad
def neD (x y : D) (S : Sto) : Out D := match toP S 40 x, toP S 40 y with
  | some p, some q => if (SeqAt.shaped p && SeqAt.shaped q) = true then .ok (.bl (!PyData.eqv p q)) S else .bad
  | _, _ => .bad
section
variable {X : Cx} {XQ : XW}
def OpX (X : Cx) (f : Value → Value → Sem Value) (o : D → D → Sto → Out D) : Prop :=
  ∀ (pins : List (Addr × Obj)) (s : Shared) (σ : L2.St) (ρ : Lc) (XQ : XW) (mp : List Addr) (H : Hp) (S : Sto) (x y : D) (v u : V) (vv uv : Value) (Q : VK), Inv X pins σ H s → RS X.K mp H S → Rep X.K mp H x v → Rep X.K mp H y u → RelV v vv → RelV u uv → Post X.K XQ σ ρ mp H (o x y S) Q →
    (∀ (e : XD) (S' : Sto), o x y S ≠ .exc e S') → wpAny (model X.prog X.w) X.A (f vv uv) (EP X pins σ Q) X.xe s
theorem pe_opX {a b : Expr} {op : CmpOp} {fa fb : Ev D} {o : D → D → Sto → Out D} {pos : Pos} (ho : OpX X (compareOp op) o) (hno : ∀ x y S e S', o x y S ≠ .exc e S') (ha : JE X XQ a fa) (hb : JE X XQ b fb) (hm : behindInMarks op b = false) : JE X XQ (.Compare a [op] [b] pos) (o2 o fa fb) := by
  intro pins s σ H Q I ⟨mp, ρ, S, G, p⟩
  refine wpAny_Compare1 (thn (ha pins s σ H _ I (bindP G p fun mp1 H1 x S1 v a1 G1 r1 p1 => (⟨mp1, ρ, S1, x, G1, r1, p1⟩ : ∃ mp1 ρ S1 x, Gd X.K mp1 H1 σ ρ S1 ∧ Rep X.K mp1 H1 x v ∧ Post X.K XQ σ ρ mp1 H1 ((fb ρ S1).bind fun y S2 => o x y S2) Q))) fun vv s1 ⟨v, H1, I1, rv, mp1, ρ1, S1, x, G1, r1, p1⟩ => ?_) hm
  refine thn (hb pins s1 σ H1 _ I1 (bindP G1 p1 fun mp2 H2 y S2 u a2 G2 r2 p2 => (⟨mp2, ρ1, S2, x, y, v, G2, Rep.aft a2 _ _ r1, r2, rfl, p2⟩ : ∃ mp2 ρ S2 x y v', Gd X.K mp2 H2 σ ρ S2 ∧ Rep X.K mp2 H2 x v' ∧ Rep X.K mp2 H2 y u ∧ v' = v ∧ Post X.K XQ σ ρ mp2 H2 (o x y S2) Q))) fun uv s2 ⟨u, H2, I2, ru, mp2, ρ2, S2, x2, y, v', G2, rx, ry, ev, p2⟩ => ?_
  subst ev
  exact ho pins s2 σ ρ2 XQ mp2 H2 S2 x2 y _ u vv uv Q I2 G2.rs rx ry rv ru p2 (hno _ _ _)
theorem pt_opX {a b : Expr} {op : CmpOp} {fa fb : Ev D} {o : D → D → Sto → Out D} {pos : Pos} (ho : OpX X (compareOp op) o) (hno : ∀ x y S e S', o x y S ≠ .exc e S') (ha : JE X XQ a fa) (hb : JE X XQ b fb) (hm : behindInMarks op b = false) : JT X XQ (.Compare a [op] [b] pos) (tb (o2 o fa fb)) := by
  intro pins s σ H Q I h
  obtain ⟨mp, ρ, S, G, p⟩ := tb_of h
  refine wpAny_isTrue_Compare1 (thn (ha pins s σ H _ I (bindP G p fun mp1 H1 x S1 v a1 G1 r1 p1 => (⟨mp1, ρ, S1, x, G1, r1, p1⟩ : ∃ mp1 ρ S1 x, Gd X.K mp1 H1 σ ρ S1 ∧ Rep X.K mp1 H1 x v ∧ Post X.K XQ σ ρ mp1 H1 ((fb ρ S1).bind fun y S2 => o x y S2) (fun x H1 => ∃ k, x = .bl k ∧ Q k H1)))) fun vv s1 ⟨v, H1, I1, rv, mp1, ρ1, S1, x, G1, r1, p1⟩ => ?_) hm
  refine thn (hb pins s1 σ H1 _ I1 (bindP G1 p1 fun mp2 H2 y S2 u a2 G2 r2 p2 => (⟨mp2, ρ1, S2, x, y, v, G2, Rep.aft a2 _ _ r1, r2, rfl, p2⟩ : ∃ mp2 ρ S2 x y v', Gd X.K mp2 H2 σ ρ S2 ∧ Rep X.K mp2 H2 x v' ∧ Rep X.K mp2 H2 y u ∧ v' = v ∧ Post X.K XQ σ ρ mp2 H2 (o x y S2) (fun x H1 => ∃ k, x = .bl k ∧ Q k H1)))) fun uv s2 ⟨u, H2, I2, ru, mp2, ρ2, S2, x2, y, v', G2, rx, ry, ev, p2⟩ => ?_
  subst ev
  refine thn (ho pins s2 σ ρ2 XQ mp2 H2 S2 x2 y _ u vv uv _ I2 G2.rs rx ry rv ru p2 (hno _ _ _)) fun c s3 ⟨z, H3, I3, r3, k, e, q3⟩ => ?_
  subst e
  cases r3
  exact wpAny_truthy_bool ⟨H3, I3, q3⟩
theorem eq_ok (hu : X.A.units + 64 < cLine) : OpX X (compareOp .Eq) eqD := by
  intro pins s σ ρ XQ mp H S x y v u vv uv Q I rs rx ry rv ru p _
  unfold eqD at p
  cases z1 : toP S 40 x with
  | none => simp only [z1] at p; exact p.elim
  | some a =>
    cases z2 : toP S 40 y with
    | none => simp only [z1, z2] at p; exact p.elim
    | some b =>
      simp only [z1, z2] at p
      by_cases hs : (SeqAt.shaped a && SeqAt.shaped b) = true
      · rw [if_pos hs] at p
        obtain ⟨as, ra⟩ := readsP I rs 40 x v vv a rx rv z1
        obtain ⟨bs, rb⟩ := readsP I rs 40 y u uv b ry ru z2
        rw [Bool.and_eq_true] at hs
        exact SeqAt.compareEq_shaped ra rb hs.1 hs.2 hu ⟨.bl _, H, I, rfl, PostG.ok (R := Rep X.K) p rs rfl⟩
      · rw [if_neg hs] at p; exact p.elim
theorem ne_ok (hu : X.A.units + 64 < cLine) : OpX X (compareOp .NotEq) neD := by
  intro pins s σ ρ XQ mp H S x y v u vv uv Q I rs rx ry rv ru p _
  unfold neD at p
  cases z1 : toP S 40 x with
  | none => simp only [z1] at p; exact p.elim
  | some a =>
    cases z2 : toP S 40 y with
    | none => simp only [z1, z2] at p; exact p.elim
    | some b =>
      simp only [z1, z2] at p
      by_cases hs : (SeqAt.shaped a && SeqAt.shaped b) = true
      · rw [if_pos hs] at p
        obtain ⟨as, ra⟩ := readsP I rs 40 x v vv a rx rv z1
        obtain ⟨bs, rb⟩ := readsP I rs 40 y u uv b ry ru z2
        rw [Bool.and_eq_true] at hs
        exact SeqAt.compareNe_shaped ra rb hs.1 hs.2 hu ⟨.bl _, H, I, rfl, PostG.ok (R := Rep X.K) p rs rfl⟩
      · rw [if_neg hs] at p; exact p.elim
theorem eq_no (x y : D) (S : Sto) (e : XD) (S' : Sto) : eqD x y S ≠ .exc e S' := by
  unfold eqD
  split
  · split <;> exact fun z => nomatch z
  · exact fun z => nomatch z
theorem ne_no (x y : D) (S : Sto) (e : XD) (S' : Sto) : neD x y S ≠ .exc e S' := by
  unfold neD
  split
  · split <;> exact fun z => nomatch z
  · exact fun z => nomatch z
theorem je_eq {a b : Expr} {fa fb : Ev D} {pos : Pos} (hu : X.A.units + 64 < cLine) (ha : JE X XQ a fa) (hb : JE X XQ b fb) : JE X XQ (.Compare a [.Eq] [b] pos) (o2 eqD fa fb) := pe_opX (eq_ok hu) eq_no ha hb (nomark _)
theorem jt_eq {a b : Expr} {fa fb : Ev D} {pos : Pos} (hu : X.A.units + 64 < cLine) (ha : JE X XQ a fa) (hb : JE X XQ b fb) : JT X XQ (.Compare a [.Eq] [b] pos) (tb (o2 eqD fa fb)) := pt_opX (eq_ok hu) eq_no ha hb (nomark _)
theorem jt_ne {a b : Expr} {fa fb : Ev D} {pos : Pos} (hu : X.A.units + 64 < cLine) (ha : JE X XQ a fa) (hb : JE X XQ b fb) : JT X XQ (.Compare a [.NotEq] [b] pos) (tb (o2 neD fa fb)) := pt_opX (ne_ok hu) ne_no ha hb (nomark _)
def i2 (C : Int → Int → Bool) (g : Int → Int → D) : D → D → Sto → Out D := fun x y S => match x, y with
  | .int i, .int j => if C i j = true then .ok (g i j) S else .bad
  | _, _ => .bad
theorem od_int {K : PySem.W.Frag} {C : Int → Int → Prop} {c : Int → Int → Bool} {g : Int → Int → V} {gd : Int → Int → D} (hc : ∀ i j, c i j = true → C i j) (hg : ∀ mp H i j, Rep K mp H (gd i j) (g i j)) : OpD K (rI C g) (i2 c gd) := by
  intro XQ σ ρ mp H S x y v u Q rs rx ry p
  cases x with
  | int i =>
    cases y with
    | int j =>
      have p : Post K XQ σ ρ mp H (if c i j = true then .ok (gd i j) S else .bad) Q := p
      by_cases h : c i j = true
      · rw [if_pos h] at p
        exact ⟨i, j, rx, ry, hc i j h, PostG.ok (R := Rep K) p rs (hg mp H i j)⟩
      · rw [if_neg h] at p; exact p.elim
    | _ => exact (show False from p).elim
  | _ => exact (show False from p).elim
theorem od_int0 {K : PySem.W.Frag} {g : Int → Int → V} {gd : Int → Int → D} (hg : ∀ mp H i j, Rep K mp H (gd i j) (g i j)) : OpD K (rI0 g) (i2 (fun _ _ => true) gd) := by
  intro XQ σ ρ mp H S x y v u Q rs rx ry p
  obtain ⟨i, j, h1, h2, _, h3⟩ := od_int (C := fun _ _ => True) (c := fun _ _ => true) (fun _ _ _ => trivial) hg XQ σ ρ mp H S x y v u Q rs rx ry p
  exact ⟨i, j, h1, h2, h3⟩
abbrev subD := i2 (fun _ _ => true) fun i j => .int (i - j)
abbrev modD := i2 (fun _ j => decide (0 < j)) fun i j => .int (i % j)
abbrev powD := i2 (fun i j => decide (0 ≤ j ∧ j ≤ 1000000 ∧ i.natAbs < 2 ^ 64)) fun i j => .int (i ^ j.toNat)
abbrev ltD := i2 (fun _ _ => true) fun i j => .bl (decide (i < j))
abbrev leD := i2 (fun _ _ => true) fun i j => .bl (decide (i ≤ j))
abbrev gtD := i2 (fun _ _ => true) fun i j => .bl (decide (j < i))
abbrev geD := i2 (fun _ _ => true) fun i j => .bl (decide (j ≤ i))
section
variable {a b : Expr} {fa fb : Ev D} {pos : Pos}
theorem je_sub (ha : JE X XQ a fa) (hb : JE X XQ b fb) : JE X XQ (.BinOp a .Sub b pos) (o2 subD fa fb) := je_op op_sub (od_int0 fun _ _ _ _ => rfl) ha hb
theorem je_mod (ha : JE X XQ a fa) (hb : JE X XQ b fb) : JE X XQ (.BinOp a .Mod b pos) (o2 modD fa fb) := je_op op_mod (od_int (fun _ _ h => of_decide_eq_true h) fun _ _ _ _ => rfl) ha hb
theorem je_pow (ha : JE X XQ a fa) (hb : JE X XQ b fb) : JE X XQ (.BinOp a .Pow b pos) (o2 powD fa fb) := je_op op_pow (od_int (fun i j h => (of_decide_eq_true h : 0 ≤ j ∧ j ≤ 1000000 ∧ i.natAbs < 2 ^ 64)) fun _ _ _ _ => rfl) ha hb
theorem je_lt (ha : JE X XQ a fa) (hb : JE X XQ b fb) : JE X XQ (.Compare a [.Lt] [b] pos) (o2 ltD fa fb) := je_cmp op_lt (od_int0 fun _ _ _ _ => rfl) ha hb (nomark _)
theorem je_le (ha : JE X XQ a fa) (hb : JE X XQ b fb) : JE X XQ (.Compare a [.LtE] [b] pos) (o2 leD fa fb) := je_cmp op_le (od_int0 fun _ _ _ _ => rfl) ha hb (nomark _)
theorem je_gt (ha : JE X XQ a fa) (hb : JE X XQ b fb) : JE X XQ (.Compare a [.Gt] [b] pos) (o2 gtD fa fb) := je_cmp op_gt (od_int0 fun _ _ _ _ => rfl) ha hb (nomark _)
theorem je_ge (ha : JE X XQ a fa) (hb : JE X XQ b fb) : JE X XQ (.Compare a [.GtE] [b] pos) (o2 geD fa fb) := je_cmp op_ge (od_int0 fun _ _ _ _ => rfl) ha hb (nomark _)
theorem jt_lt (ha : JE X XQ a fa) (hb : JE X XQ b fb) : JT X XQ (.Compare a [.Lt] [b] pos) (tb (o2 ltD fa fb)) := jt_cmp op_lt (od_int0 fun _ _ _ _ => rfl) ha hb (nomark _)
theorem jt_gt (ha : JE X XQ a fa) (hb : JE X XQ b fb) : JT X XQ (.Compare a [.Gt] [b] pos) (tb (o2 gtD fa fb)) := jt_cmp op_gt (od_int0 fun _ _ _ _ => rfl) ha hb (nomark _)
end
def addD (x y : D) (S : Sto) : Out D := match x, y with
  | .int i, .int j => .ok (.int (i + j)) S
  | .str a, .str b => if a.length + b.length ≤ 1000000 then .ok (.str (a ++ b)) S else .bad
  | .lst i, .lst j => match S[i]?, S[j]? with
    | some c, some e => if (c.fz = false ∧ e.fz = false) ∧ c.xs.length + e.xs.length ≤ 1000000 then .ok (.lst S.length) (S ++ [⟨false, c.xs ++ e.xs⟩]) else .bad
    | _, _ => .bad
  | .tup a, .tup b => if a.length + b.length ≤ 1000000 then .ok (.tup (a ++ b)) S else .bad
  | _, _ => .bad
def rCatE (K : PySem.W.Frag) : R2 := fun x y H Q => ∃ a b ys, x = .ref a ∧ y = .ref b ∧ SqT K H a [] ∧ SqT K H b ys ∧ Q (.ref b) H
theorem op_catE : OpR X (binaryOp .Add) (rCatE X.K) := by
  intro pins s σ H x y v u Q I rx ry ⟨a, b, ys, e1, e2, ha, hb, q⟩
  subst e1 e2
  cases rx; cases ry
  obtain ⟨its, r1, p1, _⟩ := I.tuple ha
  obtain ⟨its2, r2, p2, _⟩ := I.tuple hb
  have ei := r1.nil_iff.mpr rfl
  subst ei
  obtain ⟨⟨cls, dd, data, sl⟩, ho, hc, n, hd⟩ := id p1
  obtain ⟨⟨cls2, dd2, data2, sl2⟩, ho2, hc2, n2, hd2⟩ := id p2
  simp only at hc hd hc2 hd2
  subst hc hd hc2 hd2
  exact concat_meets ⟨_, ho, rfl⟩ ⟨_, ho2, rfl⟩ noFill_tuple_add seq_tuple_add PySem.F.slot_tuple_add PySem.F.entry_tuple_add (PySem.F.args_tuple_add_2 _ _)
    (tuple_addW0 a b [].toArray its2.toArray n n2 dd dd2 sl sl2 (by rfl)) ⟨ho, ho2, ⟨.ref b, H, I, rfl, q⟩⟩
def rAddA (K : PySem.W.Frag) : R2 := fun x y H Q => rI0 (fun i j => .int (i + j)) x y H Q ∨ (∃ i j, x = .str i ∧ y = .str j ∧ i.length + j.length ≤ sizeLine ∧ Q (.str (i ++ j)) H) ∨ rCat x y H Q ∨ rCatT K x y H Q ∨ rCatE K x y H Q
theorem op_addA : OpR X (binaryOp .Add) (rAddA X.K) := op_add.or (op_add_str.or (op_cat.or (op_catT.or op_catE)))
theorem od_add {K : PySem.W.Frag} : OpD K (rAddA K) addD := by
  intro XQ σ ρ mp H S x y v u Q rs rx ry p
  unfold addD at p
  split at p
  · exact .inl ⟨_, _, rx, ry, PostG.ok (R := Rep K) p rs rfl⟩
  · rename_i a b
    by_cases h : a.length + b.length ≤ 1000000
    · rw [if_pos h] at p
      exact .inr (.inl ⟨_, _, rx, ry, line_le h, PostG.ok (R := Rep K) p rs rfl⟩)
    · rw [if_neg h] at p; exact p.elim
  · rename_i i j
    split at p
    · rename_i c e zc ze
      by_cases h : (c.fz = false ∧ e.fz = false) ∧ c.xs.length + e.xs.length ≤ 1000000
      · rw [if_pos h] at p
        obtain ⟨a1, xs, rfl, _, _, q1, f1⟩ := rs.items rx zc
        obtain ⟨a2, ys, rfl, _, _, q2, f2⟩ := rs.items ry ze
        refine .inr (.inr (.inl ⟨a1, a2, xs, ys, rfl, rfl, f1 h.1.1, f2 h.1.2, by rw [q1.len, q2.len]; exact line_le h.2, fun q hq => post_lst p rs (q1.append q2) hq⟩))
      · rw [if_neg h] at p; exact p.elim
    · exact p.elim
  · rename_i a b
    by_cases h : a.length + b.length ≤ 1000000
    · rw [if_pos h] at p
      obtain ⟨a1, xs, rfl, s1, q1⟩ := Rep.tup rx
      obtain ⟨a2, ys, rfl, s2, q2⟩ := Rep.tup ry
      have l1 := q1.len
      have l2 := q2.len
      by_cases he : xs = []
      · subst he
        have ea : a = [] := by cases a with | nil => rfl | cons _ _ => simp at l1
        subst ea
        exact .inr (.inr (.inr (.inr ⟨a1, a2, ys, rfl, rfl, s1, s2, PostG.ok (R := Rep K) p rs ry⟩)))
      · refine .inr (.inr (.inr (.inl ⟨a1, a2, xs, ys, rfl, rfl, s1, s2, he, by rw [l1, l2]; exact line_le h, fun z => ?_, fun _ q hq => post_tup p rs (q1.append q2) hq⟩)))
        subst z
        have eb : b = [] := by cases b with | nil => rfl | cons _ _ => simp at l2
        subst eb
        rw [List.append_nil] at p
        exact PostG.ok (R := Rep K) p rs rx
    · rw [if_neg h] at p; exact p.elim
  · exact p.elim
theorem je_add {a b : Expr} {fa fb : Ev D} {pos : Pos} (ha : JE X XQ a fa) (hb : JE X XQ b fb) : JE X XQ (.BinOp a .Add b pos) (o2 addD fa fb) := je_op op_addA od_add ha hb
def mulD (x y : D) (S : Sto) : Out D := match x, y with
  | .int i, .int j => if (-(2 ^ 64) < i ∧ i < 2 ^ 64) ∨ (-(2 ^ 64) < j ∧ j < 2 ^ 64) then .ok (.int (i * j)) S else .bad
  | .lst i, .int k => match S[i]? with
    | some c => if c.fz = false ∧ (-1000000 ≤ k ∧ k ≤ 1000000) ∧ c.xs.length * k.toNat ≤ 1000000 then .ok (.lst S.length) (S ++ [⟨false, (List.replicate k.toNat c.xs).flatten⟩]) else .bad
    | none => .bad
  | .tup l, .int k => if 0 < l.length ∧ (2 ≤ k ∧ k ≤ 1000000) ∧ l.length * k.toNat ≤ 1000000 then .ok (.tup (List.replicate k.toNat l).flatten) S else .bad
  | _, _ => .bad
def rMulA (K : PySem.W.Frag) : R2 := fun x y H Q => rI CMul (fun i j => .int (i * j)) x y H Q ∨ rRep x y H Q ∨ rRepT K x y H Q
theorem op_mulA : OpR X (binaryOp .Mult) (rMulA X.K) := op_mul.or (op_rep.or op_repT)
theorem RepL.flat {K : PySem.W.Frag} {mp : List Addr} {H : Hp} {l : List D} {vs : List V} (h : RepL K mp H l vs) : ∀ k : Nat, RepL K mp H (List.replicate k l).flatten (List.replicate k vs).flatten
  | 0 => RepL.nil
  | k + 1 => by
    rw [List.replicate_succ, List.replicate_succ, List.flatten_cons, List.flatten_cons]
    exact RepL.append h (RepL.flat h k)
theorem od_mul {K : PySem.W.Frag} : OpD K (rMulA K) mulD := by
  intro XQ σ ρ mp H S x y v u Q rs rx ry p
  unfold mulD at p
  split at p
  · rename_i i j
    by_cases h : (-(2 ^ 64) < i ∧ i < 2 ^ 64) ∨ (-(2 ^ 64) < j ∧ j < 2 ^ 64)
    · rw [if_pos h] at p
      exact .inl ⟨_, _, rx, ry, h, PostG.ok (R := Rep K) p rs rfl⟩
    · rw [if_neg h] at p; exact p.elim
  · rename_i i k
    split at p
    · rename_i c zc
      by_cases h : c.fz = false ∧ (-1000000 ≤ k ∧ k ≤ 1000000) ∧ c.xs.length * k.toNat ≤ 1000000
      · rw [if_pos h] at p
        obtain ⟨a1, xs, rfl, _, _, q1, f1⟩ := rs.items rx zc
        exact .inr (.inl ⟨a1, k, xs, rfl, ry, f1 h.1, by omega, by omega, by rw [q1.len]; exact line_le h.2.2, fun q hq => post_lst p rs (q1.flat _) hq⟩)
      · rw [if_neg h] at p; exact p.elim
    · exact p.elim
  · rename_i l k
    by_cases h : 0 < l.length ∧ (2 ≤ k ∧ k ≤ 1000000) ∧ l.length * k.toNat ≤ 1000000
    · rw [if_pos h] at p
      obtain ⟨a1, xs, rfl, s1, q1⟩ := Rep.tup rx
      have hl := q1.len
      exact .inr (.inr ⟨a1, k, xs, rfl, ry, s1, fun z => by rw [z] at hl; simp at hl; omega, h.2.1.1, h.2.1.2, by rw [q1.len]; exact line_le h.2.2, fun q hq => post_tup p rs (q1.flat _) hq⟩)
    · rw [if_neg h] at p; exact p.elim
  · exact p.elim
theorem je_mul {a b : Expr} {fa fb : Ev D} {pos : Pos} (ha : JE X XQ a fa) (hb : JE X XQ b fb) : JE X XQ (.BinOp a .Mult b pos) (o2 mulD fa fb) := je_op op_mulA od_mul ha hb
def negD (x : D) (S : Sto) : Out D := match x with
  | .int i => .ok (.int (-i)) S
  | _ => .bad
def getD (x y : D) (S : Sto) : Out D := match x, y with
  | .tup l, .int i => match atI l i with
    | some d => .ok d S
    | none => .bad
  | .lst k, .int i => match S[k]? with
    | some c => match atI c.xs i with
      | some d => .ok d S
      | none => .bad
    | none => .bad
  | .str z, .int i => if z.length ≤ 1000000 then (match atI z.cps.toList i with
    | some c => .ok (.str ⟨#[c]⟩) S
    | none => .bad) else .bad
  | _, _ => .bad
theorem RepL.atI {K : PySem.W.Frag} {mp : List Addr} {H : Hp} {l : List D} {vs : List V} {i : Int} {d : D} (h : RepL K mp H l vs) (e : L2.atI l i = some d) : ∃ v, L2.atI vs i = some v ∧ Rep K mp H d v := by
  unfold L2.atI at e ⊢
  rw [h.len]
  cases z : ixN l.length i with
  | none => rw [z] at e; cases e
  | some j =>
    rw [z] at e
    exact h.get e
theorem od_get {K : PySem.W.Frag} : OpD K (rIx K) getD := by
  intro XQ σ ρ mp H S x y v u Q rs rx ry p
  unfold getD at p
  split at p
  · rename_i l i
    split at p
    · rename_i d zd
      obtain ⟨a, xs, rfl, sq, q⟩ := Rep.tup rx
      obtain ⟨w, hw, rw'⟩ := q.atI zd
      exact .inr (.inl ⟨a, xs, i, w, rfl, ry, sq, hw, PostG.ok (R := Rep K) p rs rw'⟩)
    · exact p.elim
  · rename_i k i
    split at p
    · rename_i c zc
      split at p
      · rename_i d zd
        obtain ⟨a, xs, rfl, _, sq, q, _⟩ := rs.items rx zc
        obtain ⟨w, hw, rw'⟩ := q.atI zd
        exact .inl ⟨a, xs, i, w, rfl, ry, sq, hw, PostG.ok (R := Rep K) p rs rw'⟩
      · exact p.elim
    · exact p.elim
  · rename_i z i
    by_cases h : z.length ≤ 1000000
    · rw [if_pos h] at p
      split at p
      · rename_i c zc
        exact .inr (.inr ⟨z, i, c, rx, ry, line_le h, zc, PostG.ok (R := Rep K) p rs rfl⟩)
      · exact p.elim
    · rw [if_neg h] at p; exact p.elim
  · exact p.elim
theorem je_get {a b : Expr} {fa fb : Ev D} {pos : Pos} (ha : JE X XQ a fa) (hb : JE X XQ b fb) (hs : PlainIx b := by intro _ _; rfl) : JE X XQ (.Subscript a b pos) (o2 getD fa fb) := je_ix ix_seq od_get ha hb hs
def setD (x y z : D) (S : Sto) : Option Sto := match x, y with
  | .lst k, .int i => match S[k]? with
    | some c => match ixN c.xs.length i with
      | some j => if c.fz = false then some (S.set k ⟨false, c.xs.set j z⟩) else none
      | none => none
    | none => none
  | _, _ => none
theorem sd_set {K : PySem.W.Frag} : SetD rSetL K setD := by
  intro mp H S S' x y z v u w Q rs rx ry rz e k
  unfold setD at e
  split at e
  · rename_i kk i
    split at e
    · rename_i c zc
      split at e
      · rename_i j zj
        by_cases hf : c.fz = false
        · rw [if_pos hf] at e
          cases (Option.some.inj e)
          obtain ⟨a, xs, rfl, ha, sq, q, f⟩ := rs.items rx zc
          have hH := f hf
          obtain ⟨af, rs'⟩ := rs.setL ha zc hf hH (q.set j rz)
          exact ⟨a, xs, i, j, rfl, ry, hH, by rw [q.len]; exact zj, k _ af rs'⟩
        · rw [if_neg hf] at e; cases e
      · cases e
    · cases e
  · cases e
theorem js_setix {ob ix e : Expr} {f fo fi : Ev D} {pos p2 : Pos} (he : JE X XQ e f) (hob : JE X XQ ob fo) (hix : JE X XQ ix fi)
    (hs : swapsWithSole [.Subscript ob ix p2] e pos.line X.env = pure false := by rfl) (hw : swappedStores [.Subscript ob ix p2] e X.env = pure none := by rfl)
    (h1 : (assignEach [.Subscript ob ix p2] X.env).map (·.2) = [assign (.Subscript ob ix p2) X.env] := by rfl) (ha : ∀ v, assign (.Subscript ob ix p2) X.env v = (do
      let ov ← holding [v] (eval ob X.env)
      let iv ← holding [v, ov] (eval ix X.env)
      standAt p2
      holding [v, ov, iv] (setItem ov iv v)
      release [v, ov, iv] []) := by intro _; rfl) : JS X XQ (.Assign [.Subscript ob ix p2] e pos) (ss f fo fi setD) := js_sub set_list sd_set he hob hix hs hw h1 ha
end
end DL
set_option Elab.async false
set_option linter.all false
set_option maxRecDepth 100000
namespace DL
open PySem PySem.Spec PyProof.Rows L2
section
variable {X : Cx} {XQ : XW}
def BlD (K : PySem.W.Frag) (r : List V → Hp → VK → Prop) (o : List D → Sto → Out D) : Prop :=
  ∀ (XQ : XW) (σ : L2.St) (ρ : Lc) (mp : List Addr) (H : Hp) (S : Sto) (xs : List D) (vs : List V) (Q : VK), RS K mp H S → RepL K mp H xs vs → Post K XQ σ ρ mp H (o xs S) Q → r vs H Q
def b1 (o : List D → Sto → Out D) (f : Ev (List D)) : Ev D := fun ρ S => (f ρ S).bind o
theorem cbR {r : List V → Hp → VK → Prop} {o : List D → Sto → Out D} {f : Ev (List D)} (hd : BlD X.K r o) (σ : L2.St) (H : Hp) (Q : VK) (h : rdE X.K XQ (b1 o f) σ H Q) : tCB r (rdA X.K XQ f) σ H Q := by
  obtain ⟨mp, ρ, S, G, p⟩ := h
  exact bindP G p fun mp1 H1 xs S1 vs a1 G1 r1 p1 => hd XQ σ ρ mp1 H1 S1 xs vs Q G1.rs r1 p1
theorem je_blt {id : String} {x : Str} {p pos : Pos} {e : Expr} {es : List Expr} {r : List V → Hp → VK → Prop} {o : List D → Sto → Out D} {f : Ev (List D)} (hc : CallR X (.builtin id) r) (hd : BlD X.K r o) (hg : Gl X x) (hm : X.mg x = none) (hv : bootBuiltins x = some (.builtin id)) (ha : JA X XQ (e :: es) f) (hn : x ≠ "__name__" := by decide) (hdb : (x == ("__debug__" : Str)) = false := by decide)
    (he : starEach (e :: es) X.env = (false, eval e X.env) :: starEach es X.env := by rfl) (hpl : (backTo pos (starEach es X.env)).any (·.1) = false := by rfl) : JE X XQ (.Call (.Name x p) (e :: es) [] pos) (b1 o f) :=
  PE.mono (pe_callB hc hg hm hv ha hn hdb he hpl) (cbR hd)
theorem je_ty {T : String} {x : Str} {p pos : Pos} {e : Expr} {es : List Expr} {r : List V → Hp → VK → Prop} {o : List D → Sto → Out D} {f : Ev (List D)} (hc : CallR X (.type T) r) (hd : BlD X.K r o) (hg : Gl X x) (hm : X.mg x = none) (hv : bootBuiltins x = some (.type T)) (ha : JA X XQ (e :: es) f) (hn : x ≠ "__name__" := by decide) (hdb : (x == ("__debug__" : Str)) = false := by decide)
    (he : starEach (e :: es) X.env = (false, eval e X.env) :: starEach es X.env := by rfl) (hpl : (backTo pos (starEach es X.env)).any (·.1) = false := by rfl) : JE X XQ (.Call (.Name x p) (e :: es) [] pos) (b1 o f) :=
  PE.mono (pe_callTy hc hg hm hv ha hn hdb he hpl) (cbR hd)
def lenD (xs : List D) (S : Sto) : Out D := match xs with
  | [.str z] => if z.length ≤ 1000000 then .ok (.int z.length) S else .bad
  | [.tup l] => .ok (.int l.length) S
  | [.lst i] => match S[i]? with
    | some c => .ok (.int c.xs.length) S
    | none => .bad
  | _ => .bad
theorem bd_len {K : PySem.W.Frag} : BlD K (fun xs H Q => ∃ x n, xs = [x] ∧ LenV K x H n ∧ Q (.int n) H) lenD := by
  intro XQ σ ρ mp H S xs vs Q rs r p
  unfold lenD at p
  split at p
  · rename_i z
    obtain ⟨v, rfl, h⟩ := RepL.one r
    cases (show v = .str z from h)
    by_cases hz : z.length ≤ 1000000
    · rw [if_pos hz] at p
      exact ⟨_, _, rfl, ⟨line_le hz, rfl⟩, PostG.ok (R := Rep K) p rs rfl⟩
    · rw [if_neg hz] at p; exact p.elim
  · rename_i l
    obtain ⟨v, rfl, h⟩ := RepL.one r
    obtain ⟨a, xs, rfl, sq, q⟩ := Rep.tup h
    exact ⟨_, xs.length, rfl, .inr ⟨xs, sq, rfl⟩, PostG.ok (R := Rep K) p rs (by rw [q.len]; rfl)⟩
  · rename_i i
    obtain ⟨v, rfl, h⟩ := RepL.one r
    split at p
    · rename_i c zc
      obtain ⟨a, xs, rfl, _, sq, q, _⟩ := rs.items h zc
      exact ⟨_, xs.length, rfl, .inl ⟨xs, sq, rfl⟩, PostG.ok (R := Rep K) p rs (by rw [q.len]; rfl)⟩
    · exact p.elim
  · exact p.elim
theorem je_len {p pos : Pos} {e : Expr} {f : Ev (List D)} (hg : Gl X "len") (hm : X.mg "len" = none) (ha : JA X XQ [e] f) (he : starEach [e] X.env = (false, eval e X.env) :: starEach [] X.env := by rfl) : JE X XQ (.Call (.Name "len" p) [e] [] pos) (b1 lenD f) := je_blt call_len bd_len hg hm PySem.boot_len ha (he := he)
def listD (xs : List D) (S : Sto) : Out D := match xs with
  | [.tup l] => .ok (.lst S.length) (S ++ [⟨false, l⟩])
  | [.lst i] => match S[i]? with
    | some c => .ok (.lst S.length) (S ++ [⟨false, c.xs⟩])
    | none => .bad
  | _ => .bad
theorem bd_list {K : PySem.W.Frag} : BlD K (fun xs H Q => ∃ p ys, xs = [.ref p] ∧ (SqL K H p ys ∨ SqT K H p ys) ∧ ∀ l, H l = none → Q (.ref l) (upd H l (.lst ys))) listD := by
  intro XQ σ ρ mp H S xs vs Q rs r p
  unfold listD at p
  split at p
  · obtain ⟨v, rfl, h⟩ := RepL.one r
    obtain ⟨a, xs, rfl, sq, q⟩ := Rep.tup h
    exact ⟨a, xs, rfl, .inr sq, fun l hl => post_lst p rs q hl⟩
  · obtain ⟨v, rfl, h⟩ := RepL.one r
    split at p
    · rename_i c zc
      obtain ⟨a, xs, rfl, _, sq, q, _⟩ := rs.items h zc
      exact ⟨a, xs, rfl, .inl sq, fun l hl => post_lst p rs q hl⟩
    · exact p.elim
  · exact p.elim
def tupD (xs : List D) (S : Sto) : Out D := match xs with
  | [.tup l] => .ok (.tup l) S
  | [.lst i] => match S[i]? with
    | some c => .ok (.tup c.xs) S
    | none => .bad
  | _ => .bad
theorem bd_tuple {K : PySem.W.Frag} : BlD K (fun xs H Q => ∃ p ys, xs = [.ref p] ∧ ((SqL K H p ys ∧ ∀ l, H l = none → Q (.ref l) (upd H l (.tup ys))) ∨ (SqT K H p ys ∧ Q (.ref p) H))) tupD := by
  intro XQ σ ρ mp H S xs vs Q rs r p
  unfold tupD at p
  split at p
  · obtain ⟨v, rfl, h⟩ := RepL.one r
    obtain ⟨a, xs, rfl, sq, q⟩ := Rep.tup h
    exact ⟨a, xs, rfl, .inr ⟨sq, PostG.ok (R := Rep K) p rs h⟩⟩
  · obtain ⟨v, rfl, h⟩ := RepL.one r
    split at p
    · rename_i c zc
      obtain ⟨a, xs, rfl, _, sq, q, _⟩ := rs.items h zc
      exact ⟨a, xs, rfl, .inl ⟨sq, fun l hl => post_tup p rs q hl⟩⟩
    · exact p.elim
  · exact p.elim
theorem je_list {p pos : Pos} {e : Expr} {f : Ev (List D)} (hg : Gl X "list") (hm : X.mg "list" = none) (ha : JA X XQ [e] f) (he : starEach [e] X.env = (false, eval e X.env) :: starEach [] X.env := by rfl) : JE X XQ (.Call (.Name "list" p) [e] [] pos) (b1 listD f) := je_ty call_list_of bd_list hg hm (by rfl) ha (he := he)
theorem je_tuple {p pos : Pos} {e : Expr} {f : Ev (List D)} (hg : Gl X "tuple") (hm : X.mg "tuple" = none) (ha : JA X XQ [e] f) (he : starEach [e] X.env = (false, eval e X.env) :: starEach [] X.env := by rfl) : JE X XQ (.Call (.Name "tuple" p) [e] [] pos) (b1 tupD f) := je_ty call_tuple_of bd_tuple hg hm (by rfl) ha (he := he)
def minD (xs : List D) (S : Sto) : Out D := match xs with
  | [.int i, .int j] => .ok (.int (if j < i then j else i)) S
  | _ => .bad
def intD (xs : List D) (S : Sto) : Out D := match xs with
  | [.int i] => .ok (.int i) S
  | [.bl b] => .ok (.int (if b then 1 else 0)) S
  | _ => .bad
theorem bd_int {K : PySem.W.Frag} : BlD K (fun xs H Q => (∃ i, xs = [.int i] ∧ Q (.int i) H) ∨ ∃ k, xs = [.bl k] ∧ Q (.int (if k then 1 else 0)) H) intD := by
  intro XQ σ ρ mp H S xs vs Q rs r p
  unfold intD at p
  split at p
  · rename_i i
    obtain ⟨v, rfl, h⟩ := RepL.one r
    cases (show v = .int i from h)
    exact .inl ⟨i, rfl, PostG.ok (R := Rep K) p rs rfl⟩
  · rename_i b
    obtain ⟨v, rfl, h⟩ := RepL.one r
    cases (show v = .bl b from h)
    exact .inr ⟨b, rfl, PostG.ok (R := Rep K) p rs rfl⟩
  · exact p.elim
theorem je_intc {p pos : Pos} {e : Expr} {f : Ev (List D)} (hg : Gl X "int") (hm : X.mg "int" = none) (ha : JA X XQ [e] f) (he : starEach [e] X.env = (false, eval e X.env) :: starEach [] X.env := by rfl) : JE X XQ (.Call (.Name "int" p) [e] [] pos) (b1 intD f) := je_ty call_int1 bd_int hg hm (by rfl) ha (he := he)
section
variable {a b : Expr} {fa fb : Ev D} {pos : Pos}
end
def cutD (xs : List D) (lo hi : Option Int) : List D := (xs.drop (HT.sIx xs.length 0 lo)).take (HT.sIx xs.length xs.length hi - HT.sIx xs.length 0 lo)
theorem RepL.cut {K : PySem.W.Frag} {mp : List Addr} {H : Hp} {l : List D} {vs : List V} (h : RepL K mp H l vs) (lo hi : Option Int) : RepL K mp H (cutD l lo hi) (cutV vs lo hi) := by
  unfold cutD cutV
  rw [h.len]
  exact (h.drop _).take _
def slD (x : D) (lo hi : Option Int) (S : Sto) : Out D := match x with
  | .tup l => if HT.sIx l.length 0 lo = 0 ∧ HT.sIx l.length l.length hi = l.length then .bad else .ok (.tup (cutD l lo hi)) S
  | .lst i => match S[i]? with
    | some c => .ok (.lst S.length) (S ++ [⟨false, cutD c.xs lo hi⟩])
    | none => .bad
  | _ => .bad
def sl (fe : Ev D) (fl fh : Ev (Option Int)) : Ev D := fun ρ S => (fe ρ S).bind fun x S1 => (fl ρ S1).bind fun l S2 => (fh ρ S2).bind fun u S3 => slD x l u S3
def onone : Ev (Option Int) := fun _ S => .ok none S
def osome (f : Ev D) : Ev (Option Int) := fun ρ S => (f ρ S).bind fun x S1 => match x with
  | .int i => .ok (some i) S1
  | _ => .bad
theorem jo_none : JO X XQ none onone := PO.mono po_none fun σ H Q ⟨mp, ρ, S, G, p⟩ => PostG.ok (R := kO) (show PostG X.K kO XQ σ ρ mp H (.ok none S) Q from p) G.rs rfl
theorem jo_some {e : Expr} {f : Ev D} (h : JE X XQ e f) : JO X XQ (some e) (osome f) := PO.mono (po_some h) fun σ H Q ⟨mp, ρ, S, G, p⟩ => bindP G p fun mp1 H1 x S1 v a1 G1 r1 p1 => by
  cases x with
  | int i => exact ⟨i, r1, PostG.ok (R := kO) p1 G1.rs rfl⟩
  | _ => exact (show False from p1).elim
def MeD (K : PySem.W.Frag) (r : V → List V → Hp → VK → Prop) (o : D → List D → Sto → Out D) : Prop :=
  ∀ (XQ : XW) (σ : L2.St) (ρ : Lc) (mp : List Addr) (H : Hp) (S : Sto) (x : D) (xs : List D) (v : V) (vs : List V) (Q : VK), RS K mp H S → Rep K mp H x v → RepL K mp H xs vs → Post K XQ σ ρ mp H (o x xs S) Q → r v vs H Q
def isLst (x : D) (S : Sto) : Bool := match x with
  | .lst i => match S[i]? with
    | some _ => true
    | none => false
  | _ => false
def mt (o : D → List D → Sto → Out D) (fo : Ev D) (f : Ev (List D)) : Ev D := fun ρ S => (fo ρ S).bind fun x S1 => if isLst x S1 = true then (f ρ S1).bind fun xs S2 => o x xs S2 else .bad
theorem je_meth {id : String} {name : Str} {o e : Expr} {es : List Expr} {apos cpos : Pos} {r : V → List V → Hp → VK → Prop} {od : D → List D → Sto → Out D} {fo : Ev D} {f : Ev (List D)} (slot : Slot "list" name id) (hty : typeOf (.builtin id) = pure (.type "method_descriptor")) (hm : MtM X id r) (hd : MeD X.K r od) (ho : JE X XQ o fo) (ha : JA X XQ (e :: es) f)
    (hbase : attributeBase o name X.env (eval o X.env) = eval o X.env := by rfl)
    (hfew : ((backTo cpos (starEach (e :: es) X.env)).all (fun x => !x.1) && (backToKw cpos (keywordEach [] X.env)).all (fun x => x.1.isSome)
      && decide ((e :: es).length + ([] : List Keyword).length + (if ([] : List Keyword).isEmpty then 0 else 1) < 30)) = true := by rfl)
    (hline : (apos.endLine == cpos.line) = true := by rfl) (hs : starEach (e :: es) X.env = (false, eval e X.env) :: starEach es X.env := by rfl) (hplain : (backTo cpos (starEach es X.env)).any (·.1) = false := by rfl) :
    JE X XQ (.Call (.Attribute o name apos) (e :: es) [] cpos) (mt od fo f) := by
  refine PE.mono (pe_bm PySem.F.plainAttrs_list slot hty hm ho ha hbase hfew hline hs hplain) fun σ H Q ⟨mp, ρ, S, G, p⟩ => ?_
  refine bindP G p fun mp1 H1 x S1 v a1 G1 r1 p1 => ?_
  by_cases hl : isLst x S1 = true
  · rw [if_pos hl] at p1
    have ty : tyV X.K "list" v H1 := by
      cases x with
      | lst i =>
        cases zc : S1[i]? with
        | none => simp [isLst, zc] at hl
        | some c =>
          obtain ⟨a, xs, rfl, _, sq, _⟩ := G1.rs.items r1 zc
          exact .inl ⟨rfl, xs, sq⟩
      | _ => simp [isLst] at hl
    exact ⟨ty, bindP G1 p1 fun mp2 H2 xs S2 vs a2 G2 r2 p2 => hd XQ σ ρ mp2 H2 S2 x xs v vs Q G2.rs (Rep.aft a2 _ _ r1) r2 p2⟩
  · rw [if_neg hl] at p1; exact p1.elim
def appD (x : D) (xs : List D) (S : Sto) : Out D := match x, xs with
  | .lst i, [d] => match S[i]? with
    | some c => if c.fz = false ∧ c.xs.length < 1000000 then .ok .non (S.set i ⟨false, c.xs ++ [d]⟩) else .bad
    | none => .bad
  | _, _ => .bad
theorem md_app {K : PySem.W.Frag} : MeD K rAppend appD := by
  intro XQ σ ρ mp H S x xs v vs Q rs rx r p
  unfold appD at p
  split at p
  · rename_i i d
    split at p
    · rename_i c zc
      by_cases hc : c.fz = false ∧ c.xs.length < 1000000
      · rw [if_pos hc] at p
        obtain ⟨w, rfl, hw⟩ := RepL.one r
        obtain ⟨a, ys, rfl, ha, sq, q, f⟩ := rs.items rx zc
        have hH := f hc.1
        obtain ⟨af, rs'⟩ := rs.setL ha zc hc.1 hH (RepL.append q (RepL.cons hw RepL.nil))
        exact ⟨a, ys, w, rfl, rfl, hH, by rw [q.len]; exact Nat.lt_of_lt_of_le hc.2 (by decide), p mp _ _ af rs' rfl⟩
      · rw [if_neg hc] at p; exact p.elim
    · exact p.elim
  · exact p.elim
theorem je_append {o e : Expr} {apos cpos : Pos} {fo : Ev D} {f : Ev (List D)} (ho : JE X XQ o fo) (ha : JA X XQ [e] f) (hbase : attributeBase o "append" X.env (eval o X.env) = eval o X.env := by rfl)
    (hfew : ((backTo cpos (starEach [e] X.env)).all (fun x => !x.1) && (backToKw cpos (keywordEach [] X.env)).all (fun x => x.1.isSome)
      && decide ([e].length + ([] : List Keyword).length + (if ([] : List Keyword).isEmpty then 0 else 1) < 30)) = true := by rfl)
    (hline : (apos.endLine == cpos.line) = true := by rfl) (hs : starEach [e] X.env = (false, eval e X.env) :: starEach [] X.env := by rfl) :
    JE X XQ (.Call (.Attribute o "append" apos) [e] [] cpos) (mt appD fo f) := je_meth PySem.F.slot_list_append PySem.F.type_list_append mt_append md_app ho ha hbase hfew hline hs rfl
end
end DL
set_option Elab.async false
set_option linter.all false
set_option maxRecDepth 100000
namespace DL
open PySem PySem.Spec PyProof.Rows L2
section
variable {X : Cx} {XQ : XW}
theorem ud_neg {K : PySem.W.Frag} : UnD K (rU fun i => .int (-i)) negD := by
  intro XQ σ ρ mp H S x v Q rs rx p
  cases x with
  | int i => exact ⟨i, rx, PostG.ok (R := Rep K) (show Post K XQ σ ρ mp H (.ok (.int (-i)) S) Q from p) rs rfl⟩
  | _ => exact (show False from p).elim
theorem je_neg {a : Expr} {fa : Ev D} {pos : Pos} (ha : JE X XQ a fa) : JE X XQ (.UnaryOp .USub a pos) (o1 negD fa) := je_un un_neg ud_neg ha
def ch (o o' : D → D → Sto → Out D) (fa fb fc : Ev D) : Ev D := fun ρ S => (fa ρ S).bind fun x S1 => (fb ρ S1).bind fun y S2 => (o x y S2).bind fun z S3 => match z with
  | .bl k => if k = true then (fc ρ S3).bind fun w S4 => o' y w S4 else .ok (.bl false) S3
  | _ => .bad
section
variable {a b : Expr} {fa fb : Ev D} {pos : Pos}
end
end
end DL
set_option Elab.async false
set_option linter.all false
set_option maxRecDepth 100000
namespace DL
open PySem PySem.Spec PyProof.Rows L2
def tyN : D → String
  | .non => "NoneType"
  | .bl _ => "bool"
  | .int _ => "int"
  | .str _ => "str"
  | .tup _ => "tuple"
  | .lst _ => "list"
def isT (T t : String) : Bool := t == T || (T == "int" && t == "bool")
def isD (T : String) (x : D) (S : Sto) : Out D := .ok (.bl (isT T (tyN x))) S
def Kit (K : PySem.W.Frag) (T : String) : Prop := ∀ t ∈ ["NoneType", "bool", "int", "str", "tuple", "list"], PySem.W.kitOne K (.type t) (.type T) = some (isT T t)
theorem kit_int {K : PySem.W.Frag} : Kit K "int" := by intro t h; simp only [List.mem_cons, List.mem_nil_iff, or_false] at h; rcases h with rfl | rfl | rfl | rfl | rfl | rfl <;> first | rfl | decide +kernel | (with_unfolding_all rfl)
theorem kit_bool {K : PySem.W.Frag} : Kit K "bool" := by intro t h; simp only [List.mem_cons, List.mem_nil_iff, or_false] at h; rcases h with rfl | rfl | rfl | rfl | rfl | rfl <;> first | rfl | decide +kernel | (with_unfolding_all rfl)
theorem kit_tuple {K : PySem.W.Frag} : Kit K "tuple" := by intro t h; simp only [List.mem_cons, List.mem_nil_iff, or_false] at h; rcases h with rfl | rfl | rfl | rfl | rfl | rfl <;> first | rfl | decide +kernel | (with_unfolding_all rfl)
section
variable {X : Cx} {XQ : XW}
def rIsi (K : PySem.W.Frag) (T : String) : List V → Hp → VK → Prop := fun vs H Q => ∃ x t, vs = [x, .ty T] ∧ (match x with
  | .non => t = "NoneType" | .bl _ => t = "bool" | .int _ => t = "int" | .str _ => t = "str"
  | .ref a => (t = "tuple" ∧ ∃ xs, SqT K H a xs) ∨ (t = "list" ∧ ∃ xs, SqL K H a xs)
  | _ => False) ∧ Q (.bl (isT T t)) H
theorem call_isi {T : String} (k : Kit X.K T) : CallR X (.builtin "isinstance") (rIsi X.K T) := by
  intro pins s σ H xs us Q I r ⟨x, t, e, h, q⟩
  subst e
  obtain ⟨u, w, rfl, ru, rw'⟩ := Vals.two r
  cases (show w = Value.type T from rw')
  have fin : ∀ tk, EP X pins σ Q (.bool (isT T t)) { s with toks := tk } := fun tk => ⟨.bl _, H, I.tok tk, rfl, q⟩
  cases x with
  | non => cases (show u = Value.none from ru); cases (show t = "NoneType" from h); exact PySem.W.kia_one PySem.W.kitx_none I.kIn True.intro (k _ (by decide)) (fun z => nomatch z) fin
  | bl y => cases (show u = Value.bool y from ru); cases (show t = "bool" from h); exact PySem.W.kia_one PySem.W.kitx_bool I.kIn True.intro (k _ (by decide)) (fun z => nomatch z) fin
  | int i => obtain ⟨tk, e⟩ := (show ∃ t, u = Value.int i t from ru); cases e; cases (show t = "int" from h); exact PySem.W.kia_one PySem.W.kitx_int I.kIn True.intro (k _ (by decide)) (fun z => nomatch z) fin
  | str y => obtain ⟨tk, e⟩ := (show ∃ t, u = Value.str y t from ru); cases e; cases (show t = "str" from h); exact PySem.W.kia_one PySem.W.kitx_str I.kIn True.intro (k _ (by decide)) (fun z => nomatch z) fin
  | ref a =>
    cases (show u = Value.ref a from ru)
    rcases h with ⟨rfl, xs, sq⟩ | ⟨rfl, xs, sq⟩
    · obtain ⟨its, _, ⟨o, h1, h2, _⟩, _⟩ := I.tuple sq
      exact PySem.W.kia_one PySem.W.kitx_tuple I.kIn ⟨o, h1, h2⟩ (k _ (by decide)) (fun z => nomatch z) fin
    · obtain ⟨its, _, ⟨o, n, h1, h2, _⟩, _⟩ := I.list sq
      exact PySem.W.kia_one PySem.W.kitx_list I.kIn ⟨o, h1, h2⟩ (k _ (by decide)) (fun z => nomatch z) fin
  | _ => exact h.elim
theorem je_isi {T : String} {x : Str} {e : Expr} {f : Ev D} {p p2 pos : Pos} (k : Kit X.K T) (hv : bootBuiltins x = some (.type T)) (hnx : x ≠ "__name__") (hdx : (x == ("__debug__" : Str)) = false) (hg : Gl X "isinstance") (hm : X.mg "isinstance" = none) (hgt : Gl X x) (hmt : X.mg x = none) (he : JE X XQ e f)
    (hs : starEach [e, .Name x p2] X.env = (false, eval e X.env) :: starEach [.Name x p2] X.env) (hpl : (backTo pos (starEach [.Name x p2] X.env)).any (·.1) = false) (hs2 : starEach [.Name x p2] X.env = (false, eval (.Name x p2) X.env) :: starEach [] X.env) :
    JE X XQ (.Call (.Name "isinstance" p) [e, .Name x p2] [] pos) (o1 (isD T) f) := by
  refine PE.mono (pe_callB (call_isi k) hg hm (by rfl) (pa_cons he (pa_cons (pe_bltn hgt hmt hv (v := .ty T) rfl hnx hdx) pa_nil hs2) hs) (by decide) (by decide) hs hpl) fun σ H Q ⟨mp, ρ, S, G, q⟩ => ?_
  refine bindP G q fun mp1 H1 d S1 v a1 G1 r1 p1 => ?_
  refine ⟨v, tyN d, rfl, ?_, PostG.ok (R := Rep X.K) (show Post X.K XQ σ ρ mp1 H1 (.ok (.bl (isT T (tyN d))) S1) Q from p1) G1.rs rfl⟩
  cases d with
  | non => cases (show v = .non from r1); exact rfl
  | bl b => cases (show v = .bl b from r1); exact rfl
  | int b => cases (show v = .int b from r1); exact rfl
  | str b => cases (show v = .str b from r1); exact rfl
  | tup l => obtain ⟨a, xs, rfl, sq, _⟩ := Rep.tup r1; exact .inl ⟨rfl, xs, sq⟩
  | lst i =>
    obtain ⟨a, rfl, ha⟩ := (show ∃ a, v = .ref a ∧ mp1[i]? = some a from r1)
    have hl : i < S1.length := by rw [← G1.rs.len]; exact (List.getElem?_eq_some_iff.mp ha).1
    obtain ⟨a2, xs, e2, _, sq, _⟩ := G1.rs.items r1 (List.getElem?_eq_getElem hl)
    cases e2
    exact .inr ⟨rfl, xs, sq⟩
end
end DL
set_option Elab.async false
set_option linter.all false
set_option maxRecDepth 100000
namespace DL
open PySem PySem.Spec PyProof.Rows L2
section
variable {X : Cx} {XQ : XW}
def blsOf : List D → Option (List Bool)
  | [] => some []
  | .bl b :: l => match blsOf l with
    | some r => some (b :: r)
    | none => none
  | _ :: _ => none
def allD (xs : List D) (S : Sto) : Out D := match xs with
  | [.lst i] => match S[i]? with
    | some c => match blsOf c.xs with
      | some bs => .ok (.bl (bs.all id)) S
      | none => .bad
    | none => .bad
  | _ => .bad
theorem bls_rep {K : PySem.W.Frag} {mp : List Addr} {H : Hp} : ∀ {l : List D} {vs : List V} {bs : List Bool}, RepL K mp H l vs → blsOf l = some bs → vs = bs.map V.bl
  | [], vs, bs, h, e => by cases (show vs = [] from h); cases (Option.some.inj e); rfl
  | .bl b :: l, vs, bs, h, e => by
    obtain ⟨v, r, rfl, h1, h2⟩ := (show ∃ v r, vs = v :: r ∧ Rep K mp H (.bl b) v ∧ RepL K mp H l r from h)
    cases (show v = .bl b from h1)
    cases z : blsOf l with
    | none => simp [blsOf, z] at e
    | some q =>
      simp only [blsOf, z] at e
      cases (Option.some.inj e)
      rw [bls_rep h2 z]
      rfl
  | .non :: l, vs, bs, h, e => by cases e
  | .int _ :: l, vs, bs, h, e => by cases e
  | .str _ :: l, vs, bs, h, e => by cases e
  | .tup _ :: l, vs, bs, h, e => by cases e
  | .lst _ :: l, vs, bs, h, e => by cases e
theorem vals_bls : ∀ {bs : List Bool} {us : List Value}, Vals (bs.map V.bl) us → us = bs.map Value.bool
  | [], us, h => by cases h; rfl
  | b :: r, us, h => by
    cases h with
    | cons h1 h2 =>
      cases (show _ = Value.bool b from h1)
      rw [vals_bls h2]
      rfl
theorem all_range (bs : List Bool) : ((List.range bs.length).all fun i => bs.getD i true) = bs.all id := by
  rw [Bool.eq_iff_iff, List.all_eq_true, List.all_eq_true]
  constructor
  · intro h b hb
    obtain ⟨i, hi, e⟩ := List.getElem_of_mem hb
    have := h i (List.mem_range.mpr hi)
    rw [List.getD_eq_getElem?_getD, List.getElem?_eq_getElem hi] at this
    simpa [e] using this
  · intro h i hi
    have hi := List.mem_range.mp hi
    rw [List.getD_eq_getElem?_getD, List.getElem?_eq_getElem hi]
    exact h _ (List.getElem_mem hi)
theorem call_all_bls (hc : X.calm = true) : CallR X (.builtin "all") (fun xs H Q => ∃ (p : Addr) (bs : List Bool), xs = [.ref p] ∧ SqL X.K H p (bs.map V.bl) ∧ Q (.bl (bs.all id)) H) := by
  intro pins s σ H xs us Q I r ⟨p, bs, e, sq, q⟩
  subst e
  obtain ⟨u, rfl, ru⟩ := r.one
  cases (show u = Value.ref p from ru)
  obtain ⟨its, rv, pl, hz⟩ := I.list sq
  have ei := vals_bls rv
  subst ei
  have hl := pl.isList
  refine call_all_walk (wpAny_pyIter_list hl ?_)
  have hne : p ≠ s.heap.objs.size := by
    obtain ⟨o, n, ho, _⟩ := pl
    exact Nat.ne_of_lt (Heap.lt_size ho)
  refine ⟨s.heap.objs.size, [s.heap.objs.size, p], [s.heap.objs.size], _, _, _, fun i => bs.getD i true, rfl, Walks.list (by exact I.ok.hd hc) s.heap.objs.size p hne (bs.map Value.bool).toArray, ⟨⟨_, Heap.get?_push_size _ rfl, rfl, rfl⟩, hl.push _⟩, fun i v s' Q' E' hP hQ' => ?_, fun h' tk hk => ?_⟩
  · have hP : (bs.map Value.bool)[i]? = some v := by simpa using hP
    rw [List.getElem?_map] at hP
    cases z : bs[i]? with
    | none => rw [z] at hP; cases hP
    | some b =>
      rw [z] at hP
      cases (Option.some.inj hP)
      refine wpAny_truthy_bool ?_
      have e : bs.getD i true = b := by rw [List.getD_eq_getElem?_getD, z]; rfl
      have hQ2 : Q' (bs.getD i true) s' := hQ'
      rw [e] at hQ2
      exact hQ2
  · have hs : ((List.range (bs.map Value.bool).toArray.size).all fun i => bs.getD i true) = bs.all id := by simpa using all_range bs
    rw [hs]
    refine ⟨.bl _, H, I.kept (h' := h') (t' := tk) fun b o e => hk b o (fun z => absurd (Heap.lt_size e) (by rw [show b = s.heap.objs.size from List.mem_singleton.mp z]; exact Nat.lt_irrefl _)) (Heap.get?_push_of_some _ e), rfl, q⟩
theorem bd_all {K : PySem.W.Frag} : BlD K (fun xs H Q => ∃ (p : Addr) (bs : List Bool), xs = [.ref p] ∧ SqL K H p (bs.map V.bl) ∧ Q (.bl (bs.all id)) H) allD := by
  intro XQ σ ρ mp H S xs vs Q rs r p
  unfold allD at p
  split at p
  · obtain ⟨v, rfl, h⟩ := RepL.one r
    split at p
    · rename_i c zc
      split at p
      · rename_i bs zb
        obtain ⟨a, xs, rfl, _, sq, q, _⟩ := rs.items h zc
        rw [bls_rep q zb] at sq
        exact ⟨a, bs, rfl, sq, PostG.ok (R := Rep K) p rs rfl⟩
      · exact p.elim
    · exact p.elim
  · exact p.elim
theorem je_all {p pos : Pos} {e : Expr} {f : Ev (List D)} (hc : X.calm = true) (hg : Gl X "all") (hm : X.mg "all" = none) (ha : JA X XQ [e] f) (he : starEach [e] X.env = (false, eval e X.env) :: starEach [] X.env := by rfl) : JE X XQ (.Call (.Name "all" p) [e] [] pos) (b1 allD f) := je_blt (call_all_bls hc) bd_all hg hm (by rfl) ha (he := he)
end
end DL
set_option Elab.async false
set_option linter.all false
set_option maxRecDepth 100000
namespace DL
open PySem PySem.Spec PyProof.Rows L2
section
variable {X : Cx} {XQ : XW}
def CallX (X : Cx) (id : String) (o : List D → Sto → Out D) : Prop :=
  ∀ (pins : List (Addr × Obj)) (s : Shared) (σ : L2.St) (ρ : Lc) (XQ : XW) (mp : List Addr) (H : Hp) (S : Sto) (ds : List D) (vs : List V) (us : List Value) (Q : VK), Inv X pins σ H s → RS X.K mp H S → RepL X.K mp H ds vs → Vals vs us → Post X.K XQ σ ρ mp H (o ds S) Q →
    (∀ (e : XD) (S' : Sto), o ds S ≠ .exc e S') → wpAny (model X.prog X.w) X.A (call (.builtin id) us) (EP X pins σ Q) X.xe s
theorem je_bltX {id : String} {x : Str} {p pos : Pos} {e : Expr} {es : List Expr} {o : List D → Sto → Out D} {f : Ev (List D)} (hc : CallX X id o) (hno : ∀ ds S e S', o ds S ≠ .exc e S') (hg : Gl X x) (hm : X.mg x = none) (hv : bootBuiltins x = some (.builtin id)) (ha : JA X XQ (e :: es) f) (hn : x ≠ "__name__" := by decide) (hdb : (x == ("__debug__" : Str)) = false := by decide)
    (he : starEach (e :: es) X.env = (false, eval e X.env) :: starEach es X.env := by rfl) (hpl : (backTo pos (starEach es X.env)).any (·.1) = false := by rfl) : JE X XQ (.Call (.Name x p) (e :: es) [] pos) (b1 o f) := by
  intro pins s σ H Q I ⟨mp, ρ, S, G, q⟩
  refine wpAny_Call_Name_kw (ld_blt I hg hm hv ?_ hn hdb)
  refine PyProof.Rows.callWith_builtin1 (thn (ha pos pins s σ H _ I (bindP G q fun mp1 H1 ds S1 vs a1 G1 r1 p1 => (⟨mp1, ρ, S1, ds, G1, r1, p1⟩ : ∃ mp1 ρ S1 ds, Gd X.K mp1 H1 σ ρ S1 ∧ RepL X.K mp1 H1 ds vs ∧ Post X.K XQ σ ρ mp1 H1 (o ds S1) Q))) fun us s1 ⟨vs, H1, I1, rv, mp1, ρ1, S1, ds, G1, r1, p1⟩ => ?_) he hpl
  exact hc pins s1 σ ρ1 XQ mp1 H1 S1 ds vs us Q I1 G1.rs r1 rv p1 (hno _ _)
def reprD (xs : List D) (S : Sto) : Out D := match xs with
  | [.non] => .ok (.str "None") S
  | [.bl b] => .ok (.str (if b then "True" else "False")) S
  | [.int i] => if i.natAbs.log2 < 1920 then .ok (.str (toString i)) S else .bad
  | [.str x] => if (reprText x).length ≤ 1000000 then .ok (.str (reprText x)) S else .bad
  | [d] => match toP S 40 d with
    | some p => if (p.showable && !p.hasDict && decide (p.depth ≤ 60)) = true ∧ p.shown.length ≤ 1000000 then .ok (.str p.shown) S else .bad
    | none => .bad
  | _ => .bad
theorem repr_no (ds : List D) (S : Sto) (e : XD) (S' : Sto) : reprD ds S ≠ .exc e S' := by
  unfold reprD
  split <;> (try split) <;> (try split) <;> exact fun z => nomatch z
theorem repr_ok {k : Nat} (hr : Room k X.A) : CallX X "repr" reprD := by
  intro pins s σ ρ XQ mp H S ds vs us Q I rs r rv p hno
  clear hno
  have big : ∀ (d : D) (v : V) (a : Addr) (u : Value), Rep X.K mp H d v → v = .ref a → RelV v u → Post X.K XQ σ ρ mp H (match toP S 40 d with
      | some p => if (p.showable && !p.hasDict && decide (p.depth ≤ 60)) = true ∧ p.shown.length ≤ 1000000 then .ok (.str p.shown) S else .bad
      | none => .bad) Q → wpAny (model X.prog X.w) X.A (call (.builtin "repr") [u]) (EP X pins σ Q) X.xe s := by
    intro d v a u rd ev ru p
    subst ev
    cases z : toP S 40 d with
    | none => rw [z] at p; exact p.elim
    | some q =>
      rw [z] at p
      by_cases h : (q.showable && !q.hasDict && decide (q.depth ≤ 60)) = true ∧ q.shown.length ≤ 1000000
      · have p : Post X.K XQ σ ρ mp H (.ok (.str q.shown) S) Q := by simpa only [if_pos h] using p
        obtain ⟨as, ra⟩ := readsP I rs 40 d _ u q rd ru z
        cases (show u = Value.ref a from ru)
        have h1 := h.1
        rw [Bool.and_eq_true, Bool.and_eq_true] at h1
        have hd : q.depth ≤ 60 := of_decide_eq_true h1.2
        have hu := hr.units
        refine repr_of_reads' ra h1.1.1 (fun z => by rw [z] at h1; simp at h1) hr.gd (by omega) (fun _ _ e => e) (fun h' u' tk hk => ?_) (line_le h.2)
        exact ⟨.str q.shown, H, I.kept (h' := h') (t' := tk) hk, ⟨_, rfl⟩, PostG.ok p rs rfl⟩
      · simp only [if_neg h] at p; exact p.elim
  unfold reprD at p
  split at p
  · obtain ⟨v, rfl, h⟩ := RepL.one r
    obtain ⟨u, rfl, ru⟩ := Vals.one rv
    cases (show v = .non from h); cases (show u = Value.none from ru)
    exact PySem.P.repr_of_none ⟨.str "None", H, I.tok _, ⟨_, rfl⟩, PostG.ok (R := Rep X.K) p rs rfl⟩
  · rename_i b
    obtain ⟨v, rfl, h⟩ := RepL.one r
    obtain ⟨u, rfl, ru⟩ := Vals.one rv
    cases (show v = .bl b from h); cases (show u = Value.bool b from ru)
    exact PySem.P.repr_of_bool ⟨.str _, H, I.tok _, ⟨_, rfl⟩, PostG.ok (R := Rep X.K) p rs (by cases b <;> rfl)⟩
  · rename_i i
    obtain ⟨v, rfl, h⟩ := RepL.one r
    obtain ⟨u, rfl, ru⟩ := Vals.one rv
    cases (show v = .int i from h); obtain ⟨t, rfl⟩ := (show ∃ t, u = Value.int i t from ru)
    by_cases hi : i.natAbs.log2 < 1920
    · rw [if_pos hi] at p
      exact PySem.P.repr_of_int hi ⟨.str _, H, I.tok _, ⟨_, rfl⟩, PostG.ok (R := Rep X.K) p rs rfl⟩
    · rw [if_neg hi] at p; exact p.elim
  · rename_i x
    obtain ⟨v, rfl, h⟩ := RepL.one r
    obtain ⟨u, rfl, ru⟩ := Vals.one rv
    cases (show v = .str x from h); obtain ⟨t, rfl⟩ := (show ∃ t, u = Value.str x t from ru)
    by_cases hi : (reprText x).length ≤ 1000000
    · rw [if_pos hi] at p
      exact PySem.P.repr_of_str ⟨.str _, H, I.tok _, ⟨_, rfl⟩, PostG.ok (R := Rep X.K) p rs rfl⟩ (line_le hi)
    · rw [if_neg hi] at p; exact p.elim
  · rename_i d n1 n2 n3 n4
    obtain ⟨v, rfl, h⟩ := RepL.one r
    obtain ⟨u, rfl, ru⟩ := Vals.one rv
    cases d with
    | non => exact absurd rfl n1
    | bl b => exact absurd rfl (n2 b)
    | int i => exact absurd rfl (n3 i)
    | str x => exact absurd rfl (n4 x)
    | tup l => obtain ⟨a, xs, ev, _⟩ := Rep.tup h; exact big _ v a u h ev ru p
    | lst i => obtain ⟨a, ev, _⟩ := (show ∃ a, v = .ref a ∧ mp[i]? = some a from h); exact big _ v a u h ev ru p
  · exact p.elim
theorem je_repr {k : Nat} {p pos : Pos} {e : Expr} {f : Ev (List D)} (hr : Room k X.A) (hg : Gl X "repr") (hm : X.mg "repr" = none) (ha : JA X XQ [e] f) (he : starEach [e] X.env = (false, eval e X.env) :: starEach [] X.env := by rfl) : JE X XQ (.Call (.Name "repr" p) [e] [] pos) (b1 reprD f) := je_bltX (repr_ok hr) repr_no hg hm (by rfl) ha (he := he)
end
end DL
set_option Elab.async false
set_option linter.all false
set_option maxRecDepth 100000
namespace DL
open PySem PySem.Spec PyProof.Rows L2
section
variable {X : Cx} {XQ : XW}
def popD (x : D) (xs : List D) (S : Sto) : Out D := match x, xs with
  | .lst k, [.int i] => match S[k]? with
    | some c => if c.fz = false ∧ 0 ≤ i ∧ i ≤ 1000000 then (match c.xs[i.toNat]? with
      | some d => .ok d (S.set k ⟨false, c.xs.eraseIdx i.toNat⟩)
      | none => .bad) else .bad
    | none => .bad
  | _, _ => .bad
theorem RepL.erase {K : PySem.W.Frag} {mp : List Addr} {H : Hp} : ∀ {l : List D} {vs : List V} (n : Nat), RepL K mp H l vs → RepL K mp H (l.eraseIdx n) (vs.eraseIdx n)
  | [], vs, n, h => by cases (show vs = [] from h); exact RepL.nil
  | d :: l, vs, 0, h => by
    obtain ⟨v, r, q, h1, h2⟩ := h
    subst q
    exact h2
  | d :: l, vs, n + 1, h => by
    obtain ⟨v, r, q, h1, h2⟩ := h
    subst q
    exact RepL.cons h1 (RepL.erase n h2)
theorem md_pop {K : PySem.W.Frag} : MeD K rPopAt popD := by
  intro XQ σ ρ mp H S x xs v vs Q rs rx r p
  unfold popD at p
  split at p
  · rename_i k i
    split at p
    · rename_i c zc
      by_cases hc : c.fz = false ∧ 0 ≤ i ∧ i ≤ 1000000
      · rw [if_pos hc] at p
        split at p
        · rename_i d zd
          obtain ⟨w, rfl, hw⟩ := RepL.one r
          cases (show w = .int i from hw)
          obtain ⟨a, ys, rfl, ha, sq, q, f⟩ := rs.items rx zc
          have hH := f hc.1
          obtain ⟨y, hy, ry⟩ := q.get zd
          obtain ⟨af, rs'⟩ := rs.setL ha zc hc.1 hH (q.erase i.toNat)
          have hl : i.toNat < ys.length := (List.getElem?_eq_some_iff.mp hy).1
          exact ⟨a, ys, i, i.toNat, y, rfl, rfl, hH, by omega, by omega, seqIndex_of hc.2.1 (by omega), hy, p mp _ _ af rs' (Rep.aft af _ _ ry)⟩
        · exact p.elim
      · rw [if_neg hc] at p; exact p.elim
    · exact p.elim
  · exact p.elim
theorem je_pop {o e : Expr} {apos cpos : Pos} {fo : Ev D} {f : Ev (List D)} (ho : JE X XQ o fo) (ha : JA X XQ [e] f) (hbase : attributeBase o "pop" X.env (eval o X.env) = eval o X.env := by rfl)
    (hfew : ((backTo cpos (starEach [e] X.env)).all (fun x => !x.1) && (backToKw cpos (keywordEach [] X.env)).all (fun x => x.1.isSome)
      && decide ([e].length + ([] : List Keyword).length + (if ([] : List Keyword).isEmpty then 0 else 1) < 30)) = true := by rfl)
    (hline : (apos.endLine == cpos.line) = true := by rfl) (hs : starEach [e] X.env = (false, eval e X.env) :: starEach [] X.env := by rfl) :
    JE X XQ (.Call (.Attribute o "pop" apos) [e] [] cpos) (mt popD fo f) := je_meth PySem.F.slot_list_pop PySem.F.type_list_pop mt_popAt md_pop ho ha hbase hfew hline hs rfl
end
end DL
set_option Elab.async false
set_option linter.all false
namespace DL
open PySem
theorem se_Constant {c j p} {es : List Expr} {env : PySem.Env} : starEach (.Constant c j p :: es) env = (false, eval (.Constant c j p) env) :: starEach es env := rfl
theorem se_Name {x p} {es : List Expr} {env : PySem.Env} : starEach (.Name x p :: es) env = (false, eval (.Name x p) env) :: starEach es env := rfl
theorem se_Tuple {a b p} {es : List Expr} {env : PySem.Env} : starEach (.Tuple a b p :: es) env = (false, eval (.Tuple a b p) env) :: starEach es env := rfl
theorem se_List {a p} {es : List Expr} {env : PySem.Env} : starEach (.List a p :: es) env = (false, eval (.List a p) env) :: starEach es env := rfl
theorem se_Call {f a k p} {es : List Expr} {env : PySem.Env} : starEach (.Call f a k p :: es) env = (false, eval (.Call f a k p) env) :: starEach es env := rfl
theorem se_Subscript {a b p} {es : List Expr} {env : PySem.Env} : starEach (.Subscript a b p :: es) env = (false, eval (.Subscript a b p) env) :: starEach es env := rfl
theorem se_BinOp {a o b p} {es : List Expr} {env : PySem.Env} : starEach (.BinOp a o b p :: es) env = (false, eval (.BinOp a o b p) env) :: starEach es env := rfl
theorem se_Compare {a o b p} {es : List Expr} {env : PySem.Env} : starEach (.Compare a o b p :: es) env = (false, eval (.Compare a o b p) env) :: starEach es env := rfl
theorem se_IfExp {a b c p} {es : List Expr} {env : PySem.Env} : starEach (.IfExp a b c p :: es) env = (false, eval (.IfExp a b c p) env) :: starEach es env := rfl
theorem se_ListComp {a b c p} {es : List Expr} {env : PySem.Env} : starEach (.ListComp a b c p :: es) env = (false, eval (.ListComp a b c p) env) :: starEach es env := rfl
end DL
set_option Elab.async false
set_option linter.all false
set_option maxRecDepth 100000
namespace DL
open PySem PySem.Spec PyProof.Rows L2
structure Cal (P : Program) (w : World) (K : PySem.W.Frag) (mg : Str → Option Value) (base : Heap) (x : Str) (ps : List Str) (fn : Fn) (j : Nat) : Prop where
  ex : ∃ f fd, FnOk P w K mg base CX0 j f fd ps (spD K ps.length fn) ∧ mg x = some (.ref f) ∧ PySem.W.keepIn K (.ref f) = true ∧ Binds K fd ps []
structure Dn (K : PySem.W.Frag) (mg : Str → Option Value) (x : Str) (st : Stmt) (ps : List Str) : Prop where
  ex : ∃ f fd, Fun K x x st f fd ∧ mg x = some (.ref f) ∧ Binds K fd ps []
section
variable {P : Program} {w : World} {K : PySem.W.Frag} {mg : Str → Option Value} {base : Heap}
theorem dn_mk {h : Heap} {x : Str} {st : Stmt} {ps : List Str} {f : Addr} {oc : Value} {od an : Option Addr} {osl : Array (Option Value)} {kV doc pm cdv ct : Value} (X : K.In h) (G : h.Ns mainGlobals mg) (a : PySem.W.nsIn K mainGlobals x = some (some (.ref f)))
    (l : K.lookup f = some ⟨oc, od, .func (PySem.W.fnOf x x (defArgs st) (defBody st) (defScope st) .none kV doc pm an cdv ct), osl⟩) (c : PySem.W.codeIn K cdv x = true) (k : PySem.W.keepIn K (.ref f) = true)
    (hb : ∀ (kV doc pm : Value) (an : Option Addr) (cdv ct : Value) (us : List Value), us.length = ps.length → bindArgs (PySem.W.fnOf x x (defArgs st) (defBody st) (defScope st) .none kV doc pm an cdv ct) ⟨us, []⟩ = pure (ps.zip us)) : Dn K mg x st ps :=
  ⟨f, _, fun_mk l c k, PySem.W.mg_of X G a, (fun_mk (st := st) l c k).binds hb⟩
theorem cal_of {x : Str} {st : Stmt} {ps : List Str} {fn : Fn} (N : List Str) (k : Nat) (b : Sv) (hfn : fn = fnB N.length b) (d : Dn K mg x st ps) (Sc : FnScope N ps (defScope st))
    (hb : ∀ (f : Addr) (cdv : Value) (A : Around) (outer : List PySem.Env) (s : Shared) (H : Hp) (E : XK), Room k (A.deeper (envOfC x (defScope st) s.heap.objs.size f cdv)) →
      JSs (cxOf CX0 P w K mg base N x (defScope st) f cdv A outer s H E).nox XN (defBody st) b) : Cal P w K mg base x ps fn (k + 1) := by
  subst hfn
  obtain ⟨f, fd, F, hm, hbi⟩ := d.ex
  exact ⟨f, fd, fn_ok F Sc (hb f), hm, F.kp, hbi⟩
end
section
variable {X : Cx} {XQ : XW}
theorem je_own {x : Str} {ps : List Str} {fn : Fn} {j k n : Nat} {p pos : Pos} {e : Expr} {es : List Expr} {t : Ev (List D)} (C : Cal X.prog X.w X.K X.mg X.base x ps fn j) (hr : Room k X.A) (ha : JA X XQ (e :: es) t) (hn : ps.length = n) (hj : j ≤ k := by decide) (hg : Gl X x := by rfl)
    (hdb : (x == ("__debug__" : Str)) = false := by decide) (he : starEach (e :: es) X.env = (false, eval e X.env) :: starEach es X.env := by rfl) (hpl : (backTo pos (starEach es X.env)).any (·.1) = false := by rfl) :
    JE X XQ (.Call (.Name x p) (e :: es) [] pos) (cl n (noExc fn) t) := by
  subst hn
  obtain ⟨f, fd, F, hm, hk, hb⟩ := C.ex
  exact je_call F hr hj hg hm hk hb ha hdb he hpl
theorem je_cst {x : Str} {v : V} {u : Value} {d : D} {pos : Pos} (hm : X.mg x = some u) (r : RelV v u) (rep : ∀ mp H, Rep X.K mp H d v) (hg : Gl X x) (hd : (x == ("__debug__" : Str)) = false) : JE X XQ (.Name x pos) (cn d) := je_const (pe_glob hg hm r hd) rep
def plainN (x : Str) : Bool := !(x == ("__debug__" : Str)) && !(x == ("__classdict__" : Str))
def okV (sc : Scope) (x : Str) : Bool := (match sc.names.lookup x with
  | some .local => true
  | some .cell => true
  | some .free => true
  | _ => false) && plainN x
def okL (sc : Scope) (x : Str) : Bool := match sc.names.lookup x with
  | some .local => true
  | some .cell => true
  | _ => false
def okG (sc : Scope) (x : Str) : Bool := (match sc.names.lookup x with
  | some .globalImplicit => true
  | _ => false) && plainN x
theorem plainN.of {x : Str} (h : plainN x = true) : (x == ("__debug__" : Str)) = false ∧ (x == ("__classdict__" : Str)) = false := by
  unfold plainN at h
  rw [Bool.and_eq_true] at h
  exact ⟨by simpa using h.1, by simpa using h.2⟩
theorem okV.vis {sc : Scope} {x : Str} (h : okV sc x = true) : Vis sc x ∧ plainN x = true := by
  unfold okV at h
  rw [Bool.and_eq_true] at h
  refine ⟨?_, h.2⟩
  have h := h.1
  split at h
  · rename_i e; exact .inl e
  · rename_i e; exact .inr (.inl e)
  · rename_i e; exact .inr (.inr e)
  · cases h
theorem okL.loc {sc : Scope} {x : Str} (h : okL sc x = true) : Loc sc x := by
  unfold okL at h
  split at h
  · rename_i e; exact .inl e
  · rename_i e; exact .inr e
  · cases h
theorem okG.gl {sc : Scope} {x : Str} (h : okG sc x = true) : sc.names.lookup x = some .globalImplicit ∧ plainN x = true := by
  unfold okG at h
  rw [Bool.and_eq_true] at h
  refine ⟨?_, h.2⟩
  have h := h.1
  split at h
  · rename_i e; exact e
  · cases h
structure OkV (sc : Scope) (x : Str) : Prop where
  h : okV sc x = true
structure OkL (sc : Scope) (x : Str) : Prop where
  h : okL sc x = true
structure OkC (sc : Scope) (x : Str) : Prop where
  h : sc.names.lookup x = some .local
structure OkG (sc : Scope) (x : Str) : Prop where
  h : okG sc x = true
theorem jv (i : Nat) {x : Str} {pos : Pos} (h : OkV X.env.scope x) (hN : X.N[i]? = some x := by rfl) : JE X XQ (.Name x pos) (vr i) := je_var i hN (okV.vis h.h).1 (plainN.of (okV.vis h.h).2).1 (plainN.of (okV.vis h.h).2).2
theorem gl {x : Str} (h : OkG X.env.scope x) : Gl X x := (okG.gl h.h).1
theorem jgn (i : Nat) {x : Str} {pos : Pos} (hN : X.N.Nodup) (h : OkL X.env.scope x) (hi : X.N[i]? = some x := by rfl) (hf : X.fn x = true := by rfl) : JG X (.Name x pos) (gn i) := jg_name i hN hi (okL.loc h.h) (.inl hf)
theorem jset (i : Nat) {x : Str} {e : Expr} {f : Ev D} {pos pos' : Pos} (hN : X.N.Nodup) (h : OkL X.env.scope x) (he : JE X XQ e f) (hi : X.N[i]? = some x := by rfl) (hs : swapsWith e (some (.Name x pos')) pos.line X.env = pure false := by rfl) (hf : X.fn x = true := by rfl) :
    JS X XQ (.Assign [.Name x pos'] e pos) (sa f (gn i)) := js_set i hN he hi (okL.loc h.h) hs (.inl hf)
theorem jown {x : Str} {ps : List Str} {fn : Fn} {j k n : Nat} {p pos : Pos} {e : Expr} {es : List Expr} {t : Ev (List D)} (C : Cal X.prog X.w X.K X.mg X.base x ps fn j) (hr : Room k X.A) (hg : Gl X x) (hp : plainN x = true) (ha : JA X XQ (e :: es) t) (hn : ps.length = n := by rfl) (hj : j ≤ k := by decide)
    (he : starEach (e :: es) X.env = (false, eval e X.env) :: starEach es X.env := by rfl) (hpl : (backTo pos (starEach es X.env)).any (·.1) = false := by rfl) :
    JE X XQ (.Call (.Name x p) (e :: es) [] pos) (cl n (noExc fn) t) := je_own C hr ha hn hj hg (plainN.of hp).1 he hpl
def okVC (sc : Scope) (x : Str) : Bool := (match sc.names.lookup x with
  | some .local => true
  | some .free => true
  | _ => false) && plainN x
theorem blk_vis {s2 : Shared} {H2 : Hp} {C : Addr} {scope : Scope} {c : List (Str × Addr)} {N' : List Str} {fp : List Addr} {x : Str} (h : okVC scope x = true) : Vis (blk X s2 H2 C scope c N' fp).env.scope x ∧ plainN x = true := by
  unfold okVC at h
  rw [Bool.and_eq_true] at h
  refine ⟨?_, h.2⟩
  have h := h.1
  split at h
  · rename_i e; exact .inl (lookup_relabel_local e)
  · rename_i e; exact .inr (lookup_relabel_free (scope := scope) (env := X.env) scope.names e)
  · cases h
theorem jvB (i : Nat) {s2 : Shared} {H2 : Hp} {C : Addr} {scope : Scope} {c : List (Str × Addr)} {N' : List Str} {fp : List Addr} {x : Str} {pos : Pos} (h : okVC scope x = true) (hN : N'[i]? = some x := by rfl) : JE (blk X s2 H2 C scope c N' fp) XQ (.Name x pos) (vr i) :=
  je_var i hN (blk_vis h).1 (plainN.of (blk_vis (X := X) (s2 := s2) (H2 := H2) (C := C) (c := c) (N' := N') (fp := fp) h).2).1 (plainN.of (blk_vis (X := X) (s2 := s2) (H2 := H2) (C := C) (c := c) (N' := N') (fp := fp) h).2).2
theorem lookup_relabel_other {scope : Scope} {env : PySem.Env} {x : Str} {k : NameKind} (hk : k ≠ .free) : ∀ (names : List (Str × NameKind)), names.lookup x = some k → (names.map fun (n, k) => if (k == NameKind.free && env.scope.kind == .function && env.kindOf n == some .cell) = true then (n, NameKind.cell) else (n, k)).lookup x = some k
  | [], h => by simp at h
  | (n, k') :: r, h => by
    rw [List.map_cons]
    by_cases hx : (x == n) = true
    · rw [List.lookup_cons, hx] at h
      have : k' = k := by simpa using h
      subst this
      have hb : (k' == NameKind.free) = false := by simpa using hk
      simp only [hb, Bool.false_and, Bool.false_eq_true, if_false, List.lookup_cons, hx]
    · have hx : (x == n) = false := by simpa using hx
      rw [List.lookup_cons, hx] at h
      have := lookup_relabel_other (scope := scope) (env := env) hk r h
      by_cases hq : (k' == NameKind.free && env.scope.kind == .function && env.kindOf n == some .cell) = true
      · simpa only [hq, if_true, List.lookup_cons, hx] using this
      · simpa only [hq, Bool.false_eq_true, if_false, List.lookup_cons, hx] using this
theorem glB {s2 : Shared} {H2 : Hp} {C : Addr} {scope : Scope} {c : List (Str × Addr)} {N' : List Str} {fp : List Addr} {x : Str} (h : okG scope x = true) : Gl (blk X s2 H2 C scope c N' fp) x :=
  lookup_relabel_other (scope := scope) (env := X.env) (by decide) scope.names (okG.gl h).1
def okLC (sc : Scope) (x : Str) : Bool := match sc.names.lookup x with
  | some .local => true
  | _ => false
theorem jgnB (i : Nat) {s2 : Shared} {H2 : Hp} {C : Addr} {scope : Scope} {c : List (Str × Addr)} {N' : List Str} {fp : List Addr} {x : Str} {pos : Pos} (hN : N'.Nodup) (h : okLC scope x = true) (hi : N'[i]? = some x := by rfl) : JG (blk X s2 H2 C scope c N' fp) (.Name x pos) (gn i) := by
  unfold okLC at h
  split at h
  · rename_i e
    exact jg_name i hN hi (.inl (lookup_relabel_local e)) (.inr (lookup_relabel_local e))
  · cases h
theorem jcomp {sc : Scope} {N : List Str} {elt tg iter : Expr} {ifs : List Expr} {scope : Scope} {pos : Pos} {N' : List Str} {pk : List (Option Nat)} {f : Ev Src} {g : Tg} {t : Ev Bool} {e : Ev D} (hsc : X.env.scope = sc) (hNN : X.N = N) (ct : CompTab sc scope N N' pk) (hcm : X.calm = true) (hi : JI X XQ tg iter f)
    (hg : ∀ cl s2 H2 C fp, JG (blk X s2 H2 C scope cl N' fp) tg g) (ht : ∀ cl s2 H2 C fp, JTs (blk X s2 H2 C scope cl N' fp) XN ifs t) (he : ∀ cl s2 H2 C fp, JE (blk X s2 H2 C scope cl N' fp) XN elt e)
    (hs : ∀ x, foldedSetIterable iter X.env x = pure x := by intro _; rfl) : JE X XQ (.ListComp elt [⟨tg, iter, ifs, 0⟩] scope pos) (cmp f pk g t e) := by
  subst hsc hNN
  exact je_comp ct hcm hi hg ht he hs
theorem jsetComp (i : Nat) {sc : Scope} {N : List Str} {y : Str} {py spos : Pos} {elt tg iter : Expr} {ifs : List Expr} {scope : Scope} {pos : Pos} {N' : List Str} {pk : List (Option Nat)} {f : Ev Src} {g : Tg} {t : Ev Bool} {e : Ev D} (hsc : X.env.scope = sc) (hNN : X.N = N) (ct : CompTab sc scope N N' pk) (hcm : X.calm = true) (hi : JI X XQ tg iter f)
    (hg : ∀ cl s2 H2 C fp, JG (blk X s2 H2 C scope cl N' fp) tg g) (ht : ∀ cl s2 H2 C fp, JTs (blk X s2 H2 C scope cl N' fp) XN ifs t) (he : ∀ cl s2 H2 C fp, JE (blk X s2 H2 C scope cl N' fp) XN elt e)
    (hN : X.N.Nodup) (hl : OkL X.env.scope y) (hsw : swapsWith (.ListComp elt [⟨tg, iter, ifs, 0⟩] scope pos) (some (.Name y py)) spos.line X.env = pure true) (hy : X.N[i]? = some y := by rfl)
    (hs : ∀ x, foldedSetIterable iter X.env x = pure x := by intro _; rfl) (hf : X.fn y = true := by rfl) :
    JS X XQ (.Assign [.Name y py] (.ListComp elt [⟨tg, iter, ifs, 0⟩] scope pos) spos) (sa (cmp f pk g t e) (gn i)) := by
  subst hsc hNN
  exact js_setComp i ct hcm hi hg ht he hN hy (okL.loc hl.h) hsw hs (.inl hf)
end
end DL
set_option Elab.async false
set_option linter.all false
set_option maxRecDepth 100000
namespace DL
open PySem PySem.Spec PyProof.Rows L2
section
variable {X : Cx} {XQ : XW}
theorem log_of {j : Int} (h1 : 0 < j) (h2 : j < 2 ^ 200) : j.natAbs.log2 < 9000 := by
  have h3 : j.natAbs < 2 ^ 200 := by omega
  exact Nat.lt_of_lt_of_le ((Nat.log2_lt (by omega)).mpr h3) (by decide)
theorem op_fdiv2 : OpR X (binaryOp .FloorDiv) (rI (fun _ j => 0 < j ∧ j < 2 ^ 200) fun i j => .int (i / j)) := opI fun i j _ _ _ _ _ hc q => by
  have h1 : (0 : Int) < j := hc.1
  have h2 : j < 2 ^ 200 := hc.2
  exact floordiv_int (by omega) (by rw [Int.fdiv_eq_ediv_of_nonneg i (by omega)]; exact q) (.inl (PyProof.noPylong_of_log2 (log_of h1 h2)))
abbrev divD2 := i2 (fun _ j => decide (0 < j ∧ j < 2 ^ 200)) fun i j => .int (i / j)
theorem je_div2 {a b : Expr} {fa fb : Ev D} {pos : Pos} (ha : JE X XQ a fa) (hb : JE X XQ b fb) : JE X XQ (.BinOp a .FloorDiv b pos) (o2 divD2 fa fb) := je_op op_fdiv2 (od_int (fun _ j h => (of_decide_eq_true h : 0 < j ∧ j < 2 ^ 200)) fun _ _ _ _ => rfl) ha hb
def intsOf : List D → Option (List Int)
  | [] => some []
  | .int i :: r => (intsOf r).map (i :: ·)
  | _ :: _ => none
theorem RepL.ints {K : PySem.W.Frag} {mp : List Addr} {H : Hp} : ∀ {l : List D} {vs : List V} {ns : List Int}, RepL K mp H l vs → intsOf l = some ns → vs = ns.map V.int
  | [], vs, ns, h, e => by
    cases (show vs = [] from h)
    cases (Option.some.inj (show some [] = some ns from e))
    rfl
  | d :: l, vs, ns, h, e => by
    obtain ⟨v, r, rfl, h1, h2⟩ := h
    cases d with
    | int i =>
      have e : (intsOf l).map (i :: ·) = some ns := e
      cases z : intsOf l with
      | none => rw [z] at e; cases e
      | some ms =>
        rw [z] at e
        cases (Option.some.inj e)
        cases (show v = .int i from h1)
        rw [RepL.ints h2 z]
        rfl
    | _ => cases (show (none : Option (List Int)) = some ns from e)
theorem items_of {ns : List Int} (its : List Value) (r' : Vals (ns.map V.int) its) : ∃ xs : Array (Int × Tok), its.toArray = intItems xs ∧ preSum (numAt xs) xs.size = ns.sum ∧ ns = xs.toList.map (·.1) := by
  have hi := intsAre_of r'
  obtain ⟨xs, hx⟩ := hi.allInts.items
  have hn : numsOf its.toArray.toList = ns := by rw [show its.toArray.toList = its from rfl, hi.numsOf]
  rw [hx, nums_intItems] at hn
  refine ⟨xs, hx, ?_, hn.symm⟩
  rw [preSum_eq, List.take_of_length_le (by simp), hn]
theorem call_sum (hc : X.calm = true) : CallR X (.builtin "sum") (fun xs H Q => ∃ (p : Addr) (ns : List Int), xs = [.ref p] ∧ (SqL X.K H p (ns.map V.int) ∨ SqT X.K H p (ns.map V.int)) ∧ Q (.int ns.sum) H) := by
  intro pins s σ H xs us Q I r h
  obtain ⟨p, ns, rfl, hq, q⟩ := h
  obtain ⟨u, rfl, rx⟩ := vals1 r
  cases rx
  rcases hq with hq | hq
  · obtain ⟨its, r', pl, hz⟩ := I.list hq
    obtain ⟨xs, hx, e, _⟩ := items_of its r'
    have hl := pl.isList
    rw [hx] at hl
    exact sum_intListG (I.ok.hd hc) hl fun h' tk t' hk => ⟨.int ns.sum, H, I.kept hk, ⟨t', by rw [e]⟩, q⟩
  · obtain ⟨its, r', pl, hz⟩ := I.tuple hq
    obtain ⟨xs, hx, e, _⟩ := items_of its r'
    have hl : s.heap.IsTuple p its.toArray := pl
    rw [hx] at hl
    exact PySem.W.ktm_sumG (I.ok.hd hc) hl fun h' tk t' hk => ⟨.int ns.sum, H, I.kept hk, ⟨t', by rw [e]⟩, q⟩
def seqOf (x : D) (S : Sto) : Option (List D) := match x with
  | .tup l => some l
  | .lst i => (S[i]?).map (·.xs)
  | _ => none
theorem seq_of {K : PySem.W.Frag} {mp : List Addr} {H : Hp} {S : Sto} {x : D} {v : V} {l : List D} (rs : RS K mp H S) (h : Rep K mp H x v) (e : seqOf x S = some l) : ∃ a xs, v = .ref a ∧ (SqL K H a xs ∨ SqT K H a xs) ∧ RepL K mp H l xs := by
  cases x with
  | tup ds =>
    cases (Option.some.inj (show some ds = some l from e))
    obtain ⟨a, xs, rfl, s, q⟩ := Rep.tup h
    exact ⟨a, xs, rfl, .inr s, q⟩
  | lst i =>
    have e : (S[i]?).map (·.xs) = some l := e
    cases z : S[i]? with
    | none => rw [z] at e; cases e
    | some c =>
      rw [z] at e
      cases (Option.some.inj e)
      obtain ⟨a, xs, rfl, _, s, q, _⟩ := rs.items h z
      exact ⟨a, xs, rfl, .inl s, q⟩
  | _ => cases (show (none : Option (List D)) = some l from e)
def sumD (xs : List D) (S : Sto) : Out D := match xs with
  | [x] => match (seqOf x S).bind intsOf with
    | some ns => .ok (.int ns.sum) S
    | none => .bad
  | _ => .bad
theorem bd_sum {K : PySem.W.Frag} : BlD K (fun xs H Q => ∃ (p : Addr) (ns : List Int), xs = [.ref p] ∧ (SqL K H p (ns.map V.int) ∨ SqT K H p (ns.map V.int)) ∧ Q (.int ns.sum) H) sumD := by
  intro XQ σ ρ mp H S xs vs Q rs r p
  unfold sumD at p
  split at p
  · rename_i x
    obtain ⟨v, rfl, h⟩ := RepL.one r
    split at p
    · rename_i ns z
      obtain ⟨l, e1, e2⟩ := Option.bind_eq_some_iff.mp z
      obtain ⟨a, ys, rfl, sq, q⟩ := seq_of rs h e1
      cases q.ints e2
      exact ⟨a, ns, rfl, sq, PostG.ok (R := Rep K) p rs rfl⟩
    · exact p.elim
  · exact p.elim
theorem je_sum {p pos : Pos} {e : Expr} {f : Ev (List D)} (hc : X.calm = true) (hg : Gl X "sum") (hm : X.mg "sum" = none) (ha : JA X XQ [e] f) (he : starEach [e] X.env = (false, eval e X.env) :: starEach [] X.env := by rfl) : JE X XQ (.Call (.Name "sum" p) [e] [] pos) (b1 sumD f) := je_blt (call_sum hc) bd_sum hg hm (by rfl) ha (he := he)
def maxD (xs : List D) (S : Sto) : Out D := match xs with
  | [.int i, .int j] => .ok (.int (if j > i then j else i)) S
  | _ => .bad
def sag (i : Nat) (g : Int → Int → Int) (f : Ev D) : Sv := fun ρ S => match ρ[i]? with
  | some (some (.int a)) => bindS (f ρ S) ρ fun d S1 => match d with
    | .int b => .nx (ρ.set i (some (.int (g a b)))) S1
    | _ => .bad
  | _ => .bad
end
section
variable {prog : Program} {w : World} {A : Around} {E : Value → Shared → Prop} {s : Shared}
theorem getItem_tuple_all {t sl : Addr} {items : Array Value} {vl vu : Value} {lo hi : Option Int} {Q : Value → Shared → Prop} (ht : IsTup s.heap t items) (hs : s.heap.IsSliceOf sl vl vu .none) (pl : IsPart vl lo) (pu : IsPart vu hi)
    (hw : HT.sIx items.size 0 lo = 0 ∧ HT.sIx items.size items.size hi = items.size)
    (h : Q (.ref t) s) : wpAny (model prog w) A (getItem (.ref t) (.ref sl)) Q E s := by
  obtain ⟨os, hos, hcs, hds⟩ := id hs
  have hTs : s.TypeIs (.ref sl) "slice" := ⟨os, hos, hcs⟩
  unfold getItem
  try with_reducible refine wpAny_holding ?_
  first | refine wpAny_bind (wpAny_pure ?_) | skip
  refine wpAny_bind (wpAny_sequenceKey ht.typeIs (by decide) ?_)
  refine wpAny_bind (wpAny_callSpecial?_slot (name := Str.ofString "__getitem__") ht.typeIs PyProof.Rows.slot_tuple_getitem
    (wpAny_call_entry PyProof.Rows.slot_tuple_getitem ht.typeIs entry_tuple_getitem ?_ (args_tuple_getitem _ _)))
  show wpAny _ _ (Builtin.Tuple.tupleItemsOf (.ref t) >>= _) _ _ s
  refine wpAny_bind (tupleItemsOf_ ht ?_)
  refine wpAny_bind (wpAny_typeOf hTs ?_)
  rw [if_pos (by decide)]
  refine wpAny_bind (HT.sliceApplied_gen hs pl pu ?_)
  show wpAny _ _ (if (((HT.sIx items.size 0 lo : Nat) : Int) == 0 && (1 : Int) == 1 && (HT.sIx items.size items.size hi - HT.sIx items.size 0 lo) == items.size) = true then _ else _) _ _ s
  rw [if_pos (by rw [hw.1, hw.2]; simp)]
  unfold Builtin.Tuple.tupleIsExact
  refine wpAny_bind (wpAny_bind (wpAny_typeOf ht.typeIs (wpAny_pure ?_)))
  rw [if_pos (by decide)]
  exact wpAny_bind (wpAny_rule (wpAny_pure ⟨_, rfl, wpAny_pure h⟩))
end
section
variable {X : Cx} {XQ : XW}
def rSlA (K : PySem.W.Frag) : V → Option Int → Option Int → Hp → VK → Prop := fun x lo hi H Q => ∃ a xs, x = .ref a ∧ SqT K H a xs ∧ (HT.sIx xs.length 0 lo = 0 ∧ HT.sIx xs.length xs.length hi = xs.length) ∧ Q (.ref a) H
theorem sl_all : SlR X (rSlA X.K) := by
  intro pins s σ H x v vl vu lo hi sl Q I rx hs pl pu h
  obtain ⟨a, xs, rfl, hx, hw, q⟩ := h
  cases rx
  obtain ⟨its, r, ht, hz⟩ := I.tuple hx
  have hlen : its.toArray.size = xs.length := by rw [List.size_toArray]; exact r.length.symm
  refine ⟨"tuple", _, PyProof.Rows.slot_tuple_getitem.lookup, ht.typeIs, ?_⟩
  exact getItem_tuple_all ht hs pl pu (by rw [hlen]; exact hw) ⟨.ref a, H, I, rfl, q⟩
def slD2 (x : D) (lo hi : Option Int) (S : Sto) : Out D := match x with
  | .tup l => if HT.sIx l.length 0 lo = 0 ∧ HT.sIx l.length l.length hi = l.length then .ok (.tup l) S else .ok (.tup (cutD l lo hi)) S
  | .lst i => match S[i]? with
    | some c => .ok (.lst S.length) (S ++ [⟨false, cutD c.xs lo hi⟩])
    | none => .bad
  | _ => .bad
def sl2 (fe : Ev D) (fl fh : Ev (Option Int)) : Ev D := fun ρ S => (fe ρ S).bind fun x S1 => (fl ρ S1).bind fun l S2 => (fh ρ S2).bind fun u S3 => slD2 x l u S3
theorem je_slice2 {e : Expr} {lo hi : Option Expr} {fe : Ev D} {fl fh : Ev (Option Int)} {pos p2 : Pos} (he : JE X XQ e fe) (hl : JO X XQ lo fl) (hh : JO X XQ hi fh) : JE X XQ (.Subscript e (.Slice lo hi none p2) pos) (sl2 fe fl fh) := by
  refine PE.mono (pe_slice ((sl_list.or sl_tup).or sl_all) he hl hh) fun σ H Q ⟨mp, ρ, S, G, p⟩ => ?_
  refine bindP G p fun mp1 H1 x S1 v a1 G1 r1 p1 => ?_
  refine bindP G1 p1 fun mp2 H2 l S2 l' a2 G2 r2 p2 => ?_
  refine bindP G2 p2 fun mp3 H3 u S3 u' a3 G3 r3 p3 => ?_
  cases (show l' = l from r2)
  cases (show u' = u from r3)
  have r1 := Rep.aft (a2.trans a3) _ _ r1
  cases x with
  | tup ds =>
    have p3 : Post X.K XQ σ ρ mp3 H3 (if HT.sIx ds.length 0 l = 0 ∧ HT.sIx ds.length ds.length u = ds.length then .ok (.tup ds) S3 else .ok (.tup (cutD ds l u)) S3) Q := p3
    obtain ⟨a, xs, rfl, sq, q⟩ := Rep.tup r1
    by_cases hw : HT.sIx ds.length 0 l = 0 ∧ HT.sIx ds.length ds.length u = ds.length
    · rw [if_pos hw] at p3
      exact .inr ⟨a, xs, rfl, sq, by rw [q.len]; exact hw, PostG.ok (R := Rep X.K) p3 G3.rs r1⟩
    · rw [if_neg hw] at p3
      exact .inl (.inr ⟨a, xs, rfl, sq, by rw [q.len]; exact hw, fun t ht => post_tup p3 G3.rs (q.cut l u) ht⟩)
  | lst i =>
    have p3 : Post X.K XQ σ ρ mp3 H3 (match S3[i]? with | some c => .ok (.lst S3.length) (S3 ++ [⟨false, cutD c.xs l u⟩]) | none => .bad) Q := p3
    cases zc : S3[i]? with
    | none => rw [zc] at p3; exact p3.elim
    | some c =>
      rw [zc] at p3
      obtain ⟨a, xs, rfl, _, sq, q, _⟩ := G3.rs.items r1 zc
      exact .inl (.inl ⟨a, xs, rfl, sq, fun t ht => post_lst p3 G3.rs (q.cut l u) ht⟩)
  | _ => exact (show False from p3).elim
end
end DL
set_option Elab.async false
set_option linter.all false
set_option maxRecDepth 100000
namespace DL
open PySem PySem.Spec PyProof.Rows L2
section
variable {X : Cx} {XQ : XW}
end
end DL
set_option Elab.async false
set_option linter.all false
set_option maxRecDepth 100000
namespace DL
open PySem PySem.Spec PyProof.Rows L2
theorem turnedL {X : Cx} {pins : List (Addr × Obj)} {σ : L2.St} {H : Hp} {s : Shared} {g : Heap} {tk : Nat} {ch : List Addr} (I : Inv X pins σ H s) (k : ∀ b o, b ∉ ch → s.heap.get? b = some o → g.get? b = some o) (hf : ∀ b ∈ ch, FpOk X pins H b) : Inv X pins σ H { s with heap := g, toks := tk } := by
  have nit : ∀ b u, H b = some u → b ∉ ch := fun b u e z => by have := (hf b z).1; rw [this] at e; cases e
  refine I.step (g' := s.gens) (d' := s.drawn) (ch := ch) (fun b hb => ?_) (fun b o _ _ hc e _ => k b o hc e) (fun b o _ _ hc e _ => ⟨o.slots, k b o hc e⟩) (fun _ _ _ _ n => n)
    (fun b o hc e => ⟨o, k b o hc e⟩) (fun _ _ e => e) (fun _ _ _ e => e) (fun b ps e => ⟨#[], by rw [e]; simp⟩) (fun m hm => ?_) (fun b u e => ?_) I.bare
  · obtain ⟨f0, f1, f2, f3, f4, f5⟩ := hf b hb
    exact ⟨f3, f1, f4, f5⟩
  · obtain ⟨o, es, ep, ho, r⟩ := hm
    exact ⟨o, es, ep, k _ o (fun z => (hf _ z).2.1 rfl) ho, r⟩
  · refine (I.hok b u e).stay (fun c v hc q => k c v ?_ q) (fun _ q => q) fun _ _ q => q
    rcases hc with z | z
    · rw [z]; exact nit b u e
    · exact nit c _ z
section
variable {prog : Program} {w : World} {A : Around} {E : Value → Shared → Prop} {s : Shared}
theorem nt_item {j t : Addr} {k : Nat} {vs : Array Value} {y : Value} {Q : Value → Shared → Prop} (pit : s.heap.IsTupleIter j t k) (pt : s.heap.IsTuple t vs) (py : vs[k]? = some y)
    (fin : ∀ g, g.IsTupleIter j t (k + 1) → Heap.SameBut j s.heap g → Q y { s with heap := g }) : wpAny (model prog w) A (Builtin.SmallTypes.nextOf (.ref j)) Q E s := by
  obtain ⟨u, pu, pc, pd⟩ := id pit
  obtain ⟨v, pv, _, m, pe⟩ := pt
  unfold Builtin.SmallTypes.nextOf
  refine wpAny_bind (wpAny_callSpecial?_slot (name := Str.ofString "__next__") pit.typeIs F.slot_tuple_iterator_next (wpAny_call_entry F.slot_tuple_iterator_next pit.typeIs F.entry_tuple_iterator_next ?_ (F.args_tuple_iterator_next_1 _)))
  show wpAny _ _ (field (.ref j) 0 >>= _) _ _ s
  refine wpAny_bind (wpAny_field pu pd (x := .ref t) rfl ?_)
  show wpAny _ _ (if (Value.ref t == Value.none) = true then _ else _) _ _ _
  rw [if_neg (by exact Bool.false_ne_true)]
  show wpAny _ _ (field (.ref j) 1 >>= _) _ _ s
  refine wpAny_bind (wpAny_field pu pd (x := .int k 0) rfl ?_)
  show wpAny _ _ (seqItems? (.ref t) >>= _) _ _ _
  refine wpAny_bind (wpAny_seqItems pv pe ?_)
  simp only [Int.toNat_natCast, py]
  refine wpAny_bind (wpAny_setField pu pd (by simp) (wpAny_pure ⟨y, rfl, wpAny_pure (fin _ ?_ (Heap.SameBut.update ..))⟩))
  exact ⟨_, Heap.get?_update_self _ pu (Obj.isFreed_of_fields (Obj.data_mapFields pd _)), (Obj.cls_mapFields ..).trans pc, by rw [Obj.data_mapFields pd]; simp [rawInt]⟩
theorem nt_end {j t : Addr} {k : Nat} {vs : Array Value} {Q : Value → Shared → Prop} (no : A.handled = none) (pit : s.heap.IsTupleIter j t k) (pt : s.heap.IsTuple t vs) (py : vs[k]? = none)
    (fin : ∀ g e, Heap.ExtBut j s.heap g → (∃ o, g.get? e = some o ∧ o.cls = .type "StopIteration") → E (.ref e) { s with heap := g }) : wpAny (model prog w) A (Builtin.SmallTypes.nextOf (.ref j)) Q E s := by
  obtain ⟨u, pu, pc, pd⟩ := id pit
  obtain ⟨v, pv, _, m, pe⟩ := pt
  unfold Builtin.SmallTypes.nextOf
  refine wpAny_bind (wpAny_callSpecial?_slot (name := Str.ofString "__next__") pit.typeIs F.slot_tuple_iterator_next (wpAny_call_entry F.slot_tuple_iterator_next pit.typeIs F.entry_tuple_iterator_next ?_ (F.args_tuple_iterator_next_1 _)))
  show wpAny _ _ (field (.ref j) 0 >>= _) _ _ s
  refine wpAny_bind (wpAny_field pu pd (x := .ref t) rfl ?_)
  show wpAny _ _ (if (Value.ref t == Value.none) = true then _ else _) _ _ _
  rw [if_neg (by exact Bool.false_ne_true)]
  show wpAny _ _ (field (.ref j) 1 >>= _) _ _ s
  refine wpAny_bind (wpAny_field pu pd (x := .int k 0) rfl ?_)
  show wpAny _ _ (seqItems? (.ref t) >>= _) _ _ _
  refine wpAny_bind (wpAny_seqItems pv pe ?_)
  simp only [Int.toNat_natCast, py]
  refine wpAny_bind (wpAny_rule (wpAny_bind (wpAny_setField pu pd (by simp) ?_)))
  show wpAny _ _ (newExc (.type "StopIteration") [] >>= _) _ _ (_ : Shared)
  refine wpAny_bind ?_
  simp only [newExc, newTuple]
  refine wpAny_bind (wpAny_newObj_type ?_ (by size_fits))
  refine wpAny_bind (m := firstArgMember _ _) (wpAny_of_eq (a := Value.none) (by (first | rfl | (simp only [firstArgMember]; rfl))) ?_)
  refine wpAny_newObj_type ?_ (by size_fits)
  simp only [raiseNew]
  refine wpAny_bind (wpAny_handled ?_)
  first
    | rw [show A.in1.handled = none from no]
    | rw [no]
  refine wpAny_bind (wpAny_pure (wpAny_throw ?_))
  exact fin _ _ (((Heap.SameBut.update ..).extBut.push _).push _) ⟨_, Heap.get?_push_size _ rfl, rfl⟩
theorem en_item {e j t : Addr} {k : Nat} {vs : Array Value} {y old : Value} {Q : Option Value → Shared → Prop} (pe : IsEnum s.heap e j k old) (pit : s.heap.IsTupleIter j t k) (pt : s.heap.IsTuple t vs) (py : vs[k]? = some y) (ne : e ≠ j)
    (fin : ∀ g, IsEnumOut g e j ((k : Int) + 1) y s.heap.objs.size → g.IsTupleIter j t (k + 1) → g.get? s.heap.objs.size = some { cls := .type "tuple", data := .seq #[.int k s.toks, y] } →
      (∀ b o, b ≠ e → b ≠ j → s.heap.get? b = some o → g.get? b = some o) → Q (some (.ref s.heap.objs.size)) { s with heap := g, toks := s.toks + 1 }) : wpAny (model prog w) A (pyNext (.ref e)) Q E s := by
  have ty : s.TypeIs (.ref e) "enumerate" := ⟨_, pe, rfl⟩
  unfold pyNext
  refine wpAny_bind (wpAny_attempt (wpAny_callSpecial?_slot (name := Str.ofString "__next__") ty F.slot_enumerate_next (wpAny_call_entry F.slot_enumerate_next ty F.entry_enumerate_next ?_ (F.args_enumerate_next_1 _))))
  obtain ⟨hp, gs, dr, tk, os⟩ := s
  show wpAny _ _ (field (.ref e) 2 >>= _) _ _ (_ : Shared)
  refine wpAny_bind (wpAny_field pe rfl (x := .ref j) rfl ?_)
  refine wpAny_bind (nt_item pit pt py fun g1 i1 b1 => ?_)
  replace b1 : Heap.SameBut j hp g1 := b1
  have q1 : IsEnum g1 e j k old := (b1.2 e ne).trans pe
  show wpAny _ _ (field (.ref e) 3 >>= _) _ _ ⟨g1, gs, dr, tk, os⟩
  refine wpAny_bind (wpAny_field q1 rfl (x := rawInt k) rfl ?_)
  show wpAny _ _ (field (.ref e) 4 >>= _) _ _ ⟨g1, gs, dr, tk, os⟩
  refine wpAny_bind (wpAny_field q1 rfl (x := .none) rfl ?_)
  show wpAny _ _ (mkInt k >>= _) _ _ ⟨g1, gs, dr, tk, os⟩
  refine wpAny_bind (wpAny_mkInt ?_)
  show wpAny _ _ (setField (.ref e) 3 (rawInt ((k : Int) + 1)) >>= _) _ _ ⟨g1, gs, dr, tk + 1, os⟩
  refine wpAny_bind (wpAny_setField_rec q1 (by simp) fun g2 q2 b2 => ?_)
  replace b2 : Heap.SameBut e g1 g2 := b2
  replace q2 : IsEnum g2 e j ((k : Int) + 1) old := q2
  show wpAny _ _ (setField (.ref e) 4 .none >>= _) _ _ ⟨g2, gs, dr, tk + 1, os⟩
  refine wpAny_bind (wpAny_setField_rec q2 (by simp) fun g3 q3 b3 => ?_)
  replace b3 : Heap.SameBut e g2 g3 := b3
  replace q3 : IsEnum g3 e j ((k : Int) + 1) old := q3
  show wpAny _ _ (newTuple [.int k tk, y] >>= _) _ _ ⟨g3, gs, dr, tk + 1, os⟩
  refine wpAny_bind (wpAny_newTuple ?_)
  have q4 : IsEnum (g3.push { cls := .type "tuple", data := .seq #[.int k tk, y] }) e j ((k : Int) + 1) old := Heap.get?_push_of_some _ q3
  have sz : g3.objs.size = hp.objs.size := by rw [b3.1, b2.1, b1.1]
  have el : e < hp.objs.size := Heap.lt_size pe
  have t4 : (g3.push { cls := .type "tuple", data := .seq #[.int k tk, y] }).get? hp.objs.size = some { cls := .type "tuple", data := .seq #[.int k tk, y] } := by rw [← sz]; exact Heap.get?_push_size _ rfl
  have k4 : ∀ b o, b ≠ e → b ≠ j → hp.get? b = some o → (g3.push { cls := .type "tuple", data := .seq #[.int k tk, y] }).get? b = some o := fun b o z1 z2 z3 =>
    Heap.get?_push_of_some _ (b3.extBut b o z1 (b2.extBut b o z1 (b1.extBut b o z2 z3)))
  have i4 : (g3.push { cls := .type "tuple", data := .seq #[.int k tk, y] }).IsTupleIter j t (k + 1) := by
    obtain ⟨o, ho, r⟩ := (i1.extBut b2.extBut (Ne.symm ne)).extBut b3.extBut (Ne.symm ne)
    exact ⟨o, Heap.get?_push_of_some _ ho, r⟩
  generalize g3.push { cls := .type "tuple", data := .seq #[.int k tk, y] } = g4 at *
  rw [sz]
  show wpAny _ _ (Builtin.SmallTypes.ownedTupleIsFree (.ref e) >>= _) _ _ ⟨g4, gs, dr, tk + 1, os⟩
  refine wpAny_bind ?_
  unfold Builtin.SmallTypes.ownedTupleIsFree
  refine wpAny_bind (wpAny_field q4 rfl (x := .none) rfl (wpAny_pure ?_))
  simp only [if_true]
  refine wpAny_bind (wpAny_rule ?_)
  refine wpAny_bind (wpAny_field q4 rfl (x := old) rfl ?_)
  refine wpAny_bind (wpAny_setField_rec q4 (by simp) fun g5 q5 b5 => ?_)
  replace b5 : Heap.SameBut e g4 g5 := b5
  replace q5 : IsEnum g5 e j ((k : Int) + 1) y := q5
  show wpAny _ _ (Builtin.SmallTypes.ownedTupleHandOut (.ref e) (.ref hp.objs.size) >>= _) _ _ ⟨g5, gs, dr, tk + 1, os⟩
  refine wpAny_bind ?_
  unfold Builtin.SmallTypes.ownedTupleHandOut
  refine wpAny_bind (wpAny_setField_rec q5 (by simp) fun g6 q6 b6 => ?_)
  replace b6 : Heap.SameBut e g5 g6 := b6
  replace q6 : IsEnumOut g6 e j ((k : Int) + 1) y hp.objs.size := q6
  refine wpAny_setField_rec q6 (by simp) fun g7 q7 b7 => ?_
  replace b7 : Heap.SameBut e g6 g7 := b7
  replace q7 : IsEnumOut g7 e j ((k : Int) + 1) y hp.objs.size := q7
  refine wpAny_bind (wpAny_letGo (wpAny_pure ⟨_, rfl, wpAny_pure (fin g7 q7 ?_ ?_ ?_)⟩))
  · exact ((i4.extBut b5.extBut (Ne.symm ne)).extBut b6.extBut (Ne.symm ne)).extBut b7.extBut (Ne.symm ne)
  · exact b7.extBut _ _ (Nat.ne_of_gt el) (b6.extBut _ _ (Nat.ne_of_gt el) (b5.extBut _ _ (Nat.ne_of_gt el) t4))
  · exact fun b o z1 z2 z3 => b7.extBut b o z1 (b6.extBut b o z1 (b5.extBut b o z1 (k4 b o z1 z2 z3)))
theorem en_end {e j t : Addr} {k : Nat} {vs : Array Value} {old : Value} {Q : Option Value → Shared → Prop} (no : A.handled = none) (pe : IsEnum s.heap e j k old) (pit : s.heap.IsTupleIter j t k) (pt : s.heap.IsTuple t vs) (py : vs[k]? = none)
    (fin : ∀ g, Heap.ExtBut j s.heap g → Q none { s with heap := g }) : wpAny (model prog w) A (pyNext (.ref e)) Q E s := by
  have ty : s.TypeIs (.ref e) "enumerate" := ⟨_, pe, rfl⟩
  unfold pyNext
  refine wpAny_bind (wpAny_attempt (wpAny_callSpecial?_slot (name := Str.ofString "__next__") ty F.slot_enumerate_next (wpAny_call_entry F.slot_enumerate_next ty F.entry_enumerate_next ?_ (F.args_enumerate_next_1 _))))
  show wpAny _ _ (field (.ref e) 2 >>= _) _ _ (_ : Shared)
  refine wpAny_bind (wpAny_field pe rfl (x := .ref j) rfl ?_)
  refine wpAny_bind (nt_end no pit pt py fun g x b1 ⟨o, ho, hc⟩ => ?_)
  refine wpAny_bind (wpAny_isInstance (T := "StopIteration") (b := true) ⟨o, ho, hc⟩ isSubtype_stop ?_)
  exact wpAny_pure (fin _ b1)
abbrev enG (g : Heap) (t : Addr) : Heap := g.push { cls := .type "tuple_iterator", data := .fields #[.ref t, .int 0 0] }
theorem meets_en (t : Addr) (vs : Array Value) (n : Nat) (dd : Option Addr) (sl : Array (Option Value)) :
    Meets (Builtin.«enumerate.__new__» ⟨[.type "enumerate", .ref t], []⟩) (fun _ R s => s.heap.get? t = some { cls := .type "tuple", dict := dd, data := .seq vs n, slots := sl } ∧
      R (.ok (.ret (.ref (enG s.heap t).objs.size))) { s with heap := (enG s.heap t).push { cls := .type "enumerate", data := .fields #[.none, .bool false, .ref s.heap.objs.size, rawInt 0, .none, .none] } }) :=
  .of_wp fun prog w A R s h => by
    obtain ⟨hp, g, d, tk, os⟩ := s; obtain ⟨hl, h⟩ := h
    have hsub := sub_enumerate
    have hT : Heap.IsTuple (Shared.heap ⟨hp, g, d, tk, os⟩) t vs := ⟨_, hl, rfl, n, rfl⟩
    wp_walk using AutoSeq1.wpAny_loadPart' hl
    refine wpAny_stack_any fun st => wpAny_pure ?_
    split
    · rename_i c _ _ _ _ _
      cases (c == Value.type "enumerate")
      · wp_walk using AutoSeq1.wpAny_loadPart' hl, wpAny_pyIter_tuple hT
        exact ⟨_, rfl, h⟩
      · wp_walk using AutoSeq1.wpAny_loadPart' hl, wpAny_pyIter_tuple hT
        exact ⟨_, rfl, h⟩
    · wp_walk using AutoSeq1.wpAny_loadPart' hl, wpAny_pyIter_tuple hT
      exact ⟨_, rfl, h⟩
theorem call_en {t : Addr} {vs : Array Value} {Q : Value → Shared → Prop} (pt : s.heap.IsTuple t vs)
    (fin : ∀ g, IsEnum g (s.heap.objs.size + 1) s.heap.objs.size 0 .none → g.IsTupleIter s.heap.objs.size t 0 → (∀ b o, s.heap.get? b = some o → g.get? b = some o) → Q (.ref (s.heap.objs.size + 1)) { s with heap := g }) :
    wpAny (model prog w) A (call (.type "enumerate") [.ref t]) Q E s := by
  obtain ⟨⟨oc, od, odt, osl⟩, ho, hc, n, hd⟩ := pt
  cases (show oc = .type "tuple" from hc)
  cases (show odt = .seq vs n from hd)
  refine callType_new F.called_enumerate (by decide) (F.typeCall_enumerate_1 _) (F.newCall_enumerate_1 _) (fun obj => F.args_object_init_2 obj _) F.entry_enumerate_new (meets_en t vs n od osl) ⟨ho, ?_⟩
  have hz : (enG s.heap t).objs.size = s.heap.objs.size + 1 := Heap.size_push ..
  have he : IsEnum ((enG s.heap t).push { cls := .type "enumerate", data := .fields #[.none, .bool false, .ref s.heap.objs.size, rawInt 0, .none, .none] }) (s.heap.objs.size + 1) s.heap.objs.size 0 .none := by
    have := Heap.get?_push_size (enG s.heap t) (o := { cls := .type "enumerate", data := .fields #[.none, .bool false, .ref s.heap.objs.size, rawInt 0, .none, .none] }) rfl
    rw [hz] at this
    exact this
  show _ ∧ _
  rw [hz]
  exact ⟨⟨_, he, rfl⟩, fin _ he ⟨_, Heap.get?_push_of_some _ (Heap.get?_push_size _ rfl), rfl, rfl⟩ fun b o x => Heap.get?_push_of_some _ (Heap.get?_push_of_some _ x)⟩
end
end DL
set_option Elab.async false
set_option linter.all false
set_option maxRecDepth 100000
namespace DL
open PySem PySem.Spec PyProof.Rows L2
theorem laid_turned {X : Cx} {pins : List (Addr × Obj)} {σ : L2.St} {H : Hp} {s : Shared} {g : Heap} {tk : Nat} {ch : List Addr} {vs : List V} {us : List Value} (I : Inv X pins σ H s) (hn : H s.heap.objs.size = none) (hz : vs.length ≤ sizeLine) (rv : Vals vs us)
    (tt : g.get? s.heap.objs.size = some { cls := .type "tuple", data := .seq us.toArray }) (k : ∀ b o, b ∉ ch → s.heap.get? b = some o → g.get? b = some o) (hf : ∀ b ∈ ch, FpOk X pins H b) (ltf : ∀ b ∈ ch, b ≠ s.heap.objs.size) :
    Inv X pins σ (upd H s.heap.objs.size (.tup vs)) { s with heap := g, toks := tk } := by
  have I1 : Inv X pins σ (upd H s.heap.objs.size (.tup vs)) { s with heap := s.heap.push { cls := .type "tuple", data := .seq us.toArray } } :=
    I.laid (t' := s.toks) (fun b o e => Heap.get?_push_of_some _ e) (Nat.le_refl _) (show ObjOk X.prog X.w _ _ _ (.tup vs) from ⟨hz, us, rv, IsTup.new _ _⟩)
  refine turnedL (ch := ch) (s := { s with heap := s.heap.push { cls := .type "tuple", data := .seq us.toArray } }) I1 (fun b o hb e => ?_) fun b hb => ?_
  · by_cases hs : b = s.heap.objs.size
    · subst hs
      rw [Heap.get?_push_size _ rfl] at e
      cases e
      exact tt
    · have : s.heap.get? b = some o := by
        rcases Heap.get?_push_cases e with ⟨z, _⟩ | z
        · exact absurd z hs
        · exact z
      exact k b o hb this
  · obtain ⟨f0, f⟩ := hf b hb
    exact ⟨by rw [upd_ne (ltf b hb)]; exact f0, f⟩
def Ite (K : PySem.W.Frag) (a : Addr) : It :=
  ⟨fun i H => ∃ xs x, SqT K H a xs ∧ xs[i]? = some x, fun i H x H' => ∃ y p, (∀ xs, SqT K H a xs → xs[i]? = some y) ∧ H p = none ∧ x = .ref p ∧ H' = upd H p (.tup [.int i, y]), fun i H => ∃ xs, SqT K H a xs ∧ xs.length ≤ i⟩
theorem turn_enum {P : Program} {w : World} {K : PySem.W.Frag} {es : List Expr} {x1} {pos : Pos} (a it e : Addr) (ne : e ≠ it) :
    Turn P w K (.Tuple es x1 pos) (Ite K a) [e, it] e (fun i h => (∃ old, IsEnum h e it i old) ∧ h.IsTupleIter it a i) where
  mem := by simp
  obj := fun i h ⟨⟨old, st⟩, o, e1, c, d⟩ b hb => by
    rcases List.mem_cons.mp hb with rfl | hb
    · exact ⟨_, st, fun v z => by
        have z' : Data.fields _ = Data.cell v := z
        cases z'⟩
    · have eb : b = it := by simpa using hb
      subst eb
      exact ⟨o, e1, fun v z => by rw [d] at z; cases z⟩
  keep := fun i h h' ⟨⟨old, st⟩, ti⟩ k => ⟨⟨old, k e (by simp) _ st⟩, ti.at fun o e1 => k it (by simp) o e1⟩
  item := by
    intro X hP hw hK hc i pins s σ H E I hf ⟨⟨old, st⟩, ti⟩ hg
    subst hP hw hK
    obtain ⟨xs, x, hq, hx⟩ := hg
    obtain ⟨its, rv, p, hz⟩ := I.tuple hq
    obtain ⟨u, hu, ru⟩ := rv.get hx
    have hn : H s.heap.objs.size = none := I.hok.fresh (Nat.le_refl _)
    refine en_item st ti (show s.heap.IsTuple a its.toArray from p) (y := u) (by simpa using hu) ne fun g oe ti' tt kk => ?_
    refine ⟨_, rfl, wpAny_letOwnedTupleGo_enum oe fun g2 e2 b2 => ?_⟩
    have kk2 : ∀ b o, b ∉ [e, it] → s.heap.get? b = some o → g2.get? b = some o := fun b o hb h1 =>
      b2.extBut b o (fun z => hb (by simp [z])) (kk b o (fun z => hb (by simp [z])) (fun z => hb (by simp [z])) h1)
    have el : s.heap.objs.size ≠ e := Nat.ne_of_gt (Heap.lt_size st)
    have tt2 : g2.get? s.heap.objs.size = some { cls := .type "tuple", data := .seq #[.int i s.toks, u] } := b2.extBut _ _ el tt
    have ltf : ∀ b ∈ [e, it], b ≠ s.heap.objs.size := fun b hb => by
      rcases List.mem_cons.mp hb with rfl | hb
      · exact Ne.symm el
      · have eb : b = it := by simpa using hb
        subst eb
        obtain ⟨o, e1, _⟩ := ti
        exact Nat.ne_of_lt (Heap.lt_size e1)
    have I2 : Inv X pins σ (upd H s.heap.objs.size (.tup [.int i, x])) { s with heap := g2, toks := s.toks + 1 } :=
      laid_turned I hn (by rw [sizeLine_eq]; simp only [List.length_cons, List.length_nil]; decide) (.cons ⟨s.toks, rfl⟩ (.cons ru .nil)) tt2 kk2 hf ltf
    exact ⟨.ref s.heap.objs.size, _, I2, rfl, ⟨x, _, fun ys hy => by rw [I.tuple_inj hy hq]; exact hx, hn, rfl, rfl⟩, ⟨⟨u, e2⟩, ti'.extBut b2.extBut (Ne.symm ne)⟩, fun b hb => by
      rw [upd_ne (ltf b hb)]
      exact (hf b hb).1⟩
  done := by
    intro X hP hw hK hc i pins s σ H E I hf ⟨⟨old, st⟩, ti⟩ hg
    subst hP hw hK
    obtain ⟨xs, hq, hx⟩ := hg
    obtain ⟨its, rv, p, hz⟩ := I.tuple hq
    have hl := rv.length
    exact en_end (I.ok.hd hc) st ti (show s.heap.IsTuple a its.toArray from p) (by simp; omega) fun g eb => ⟨rfl, turnedL I (fun b o hb e1 => eb b o (fun z => hb (by simp [z])) e1) hf⟩
  self := fun _ _ _ _ _ ⟨⟨_, st⟩, _⟩ h => wpAny_pyIter_enum st h
section
variable {X : Cx} {XQ : XW}
def iEnu (K : PySem.W.Frag) (ta : TA) : TI := fun σ H R => ta σ H fun xs H1 => ∃ a, xs = [.ref a] ∧ (∃ ys, SqT K H1 a ys) ∧ R (Ite K a) H1
theorem pi_enum {es : List Expr} {x1} {tp : Pos} {a : Expr} {ta : TA} {p pos : Pos} (hg : Gl X "enumerate") (hm : X.mg "enumerate" = none) (ha : PA X [a] ta) (hs : starEach [a] X.env = [(false, eval a X.env)] := by rfl) :
    PI X (.Tuple es x1 tp) (.Call (.Name "enumerate" p) [a] [] pos) (iEnu X.K ta) := by
  intro pins s σ H R I h
  refine wpAny_Call_Name_kw (ld_blt I hg hm (by rfl) ?_ (by decide) (by decide))
  refine PyProof.Rows.callWith_type1 (thn (ha pos pins s σ H _ I h) fun us s1 ⟨vs, H1, I1, r1, q1⟩ => ?_) hs rfl
  obtain ⟨c, e, ⟨ys, hq⟩, q⟩ := q1
  subst e
  obtain ⟨u, rfl, rx⟩ := vals1 r1
  cases rx
  obtain ⟨its, rv, pt, hz⟩ := I1.tuple hq
  refine call_en (show s1.heap.IsTuple c its.toArray from pt) fun g e1 i1 kk => ?_
  refine wpAny_pyIter_enum e1 ?_
  have I2 : Inv X pins σ H1 { s1 with heap := g } := I1.kept (t' := s1.toks) kk
  refine ⟨s1.heap.objs.size + 1, [s1.heap.objs.size + 1, s1.heap.objs.size], _, _, H1, rfl, I2, turn_enum c s1.heap.objs.size (s1.heap.objs.size + 1) (Nat.succ_ne_self _), ⟨⟨.none, e1⟩, i1⟩, fun b hb => ?_, q⟩
  have hb' : s1.heap.objs.size ≤ b := by
    rcases List.mem_cons.mp hb with rfl | hb
    · exact Nat.le_succ _
    · have eb : b = s1.heap.objs.size := by simpa using hb
      exact Nat.le_of_eq eb.symm
  exact I1.fpOk hb' (I1.hok.fresh hb')
def ienumerate (f : Ev (List D)) : Ev Src := fun ρ S => (f ρ S).bind fun ds S1 => match ds with
  | [.tup l] => .ok ⟨fun k _ => (l[k]?).map fun d => .tup [.int k, d], l.length + 1⟩ S1
  | _ => .bad
theorem ite_ok {K : PySem.W.Frag} {mp : List Addr} {H : Hp} {a : Addr} {xs : List V} {l : List D} (s : SqT K H a xs) (r : RepL K mp H l xs) : ItOk K mp H (Ite K a) (fun k _ => (l[k]?).map fun d => .tup [.int k, d]) := by
  intro mp' H' S' af rs k
  have s' := af.tup _ _ s
  have r' := RepL.aft af _ _ r
  show match (l[k]?).map (fun d => D.tup [.int k, d]) with
    | some d => (Ite K a).go k H' ∧ ∀ x H2, (Ite K a).yld k H' x H2 → Aft K mp' H' mp' H2 ∧ RS K mp' H2 S' ∧ Rep K mp' H2 d x
    | none => (Ite K a).stop k H'
  cases z : l[k]? with
  | none =>
    refine ⟨xs, s', ?_⟩
    rw [r.len]
    exact List.getElem?_eq_none_iff.mp z
  | some d =>
    obtain ⟨v, e, q⟩ := r'.get z
    refine ⟨⟨xs, v, s', e⟩, fun x H2 ⟨y, p, h2, h3, h4, h5⟩ => ?_⟩
    have h2 := h2 xs s'
    rw [e] at h2
    cases h2
    subst h4 h5
    have af2 : Aft K mp' H' mp' (upd H' p (.tup [.int k, v])) := aft_new h3
    exact ⟨af2, rs.new h3, p, _, rfl, SqT.of upd_same, RepL.cons rfl (RepL.cons (Rep.aft af2 _ _ q) RepL.nil)⟩
theorem ji_enumerate {es : List Expr} {x1} {tp : Pos} {a : Expr} {f : Ev (List D)} {p pos : Pos} (hg : Gl X "enumerate") (hm : X.mg "enumerate" = none) (ha : JA X XQ [a] f) (hs : starEach [a] X.env = [(false, eval a X.env)] := by rfl) :
    JI X XQ (.Tuple es x1 tp) (.Call (.Name "enumerate" p) [a] [] pos) (ienumerate f) := by
  refine PI.mono (pi_enum hg hm ha hs) fun σ H R ⟨mp, ρ, S, G, p⟩ => ?_
  refine bindP G p fun mp1 H1 ds S1 vs a1 G1 r1 p1 => ?_
  split at p1
  · rename_i l
    obtain ⟨v, rfl, h1⟩ := RepL.one r1
    obtain ⟨c, xs, rfl, s, q⟩ := Rep.tup h1
    exact ⟨c, rfl, ⟨xs, s⟩, PostG.ok (R := kI X.K) (d := ⟨fun k _ => (l[k]?).map fun d => .tup [.int k, d], l.length + 1⟩) (S := S1) p1 G1.rs (ite_ok s q)⟩
  · exact p1.elim
end
end DL
set_option Elab.async false
set_option linter.all false
set_option maxRecDepth 100000
namespace DL
open PySem PySem.Spec PyProof.Rows L2
structure Za (z ti to' i j a b : Addr) : Prop where
  q1 : ti ≠ z
  q2 : to' ≠ z
  q3 : i ≠ z
  q4 : j ≠ z
  q5 : ti ≠ to'
  q6 : ti ≠ i
  q7 : ti ≠ j
  q8 : to' ≠ i
  q9 : to' ≠ j
  q10 : i ≠ j
  q11 : a ≠ z
  q12 : a ≠ to'
  q13 : a ≠ i
  q14 : a ≠ j
  q15 : b ≠ z
  q16 : b ≠ to'
  q17 : b ≠ i
  q18 : b ≠ j
section
variable {prog : Program} {w : World} {A : Around} {E : Value → Shared → Prop} {s : Shared}
end
end DL
set_option Elab.async false
set_option linter.all false
set_option maxRecDepth 100000
namespace DL
open PySem PySem.Spec PyProof.Rows L2
section
variable {X : Cx} {XQ : XW}
end
end DL
set_option Elab.async false
set_option linter.all false
set_option maxRecDepth 100000
namespace DL
open PySem PySem.Spec PyProof.Rows L2
section
variable {prog : Program} {w : World} {A : Around} {E : Value → Shared → Prop} {s : Shared}
end
section
variable {X : Cx} {XQ : XW}
def rvD (x : D) (st : Option Int) (S : Sto) : Out D := match x, st with
  | .tup l, some (-1) => .ok (.tup l.reverse) S
  | _, _ => .bad
def rv (fe : Ev D) (fs : Ev (Option Int)) : Ev D := fun ρ S => (fe ρ S).bind fun x S1 => (fs ρ S1).bind fun o S2 => rvD x o S2
end
end DL
set_option Elab.async false
set_option linter.all false
set_option maxRecDepth 100000
namespace DL
open PySem PySem.Spec PyProof.Rows L2
section
variable {K : PySem.W.Frag} {mp : List Addr} {H : Hp}
end
section
variable {X : Cx} {XQ : XW} {a b : Expr} {fa fb : Ev D} {pos : Pos}
end
end DL
set_option Elab.async false
set_option linter.all false
set_option maxRecDepth 100000
namespace DL
open PySem PySem.Spec PyProof.Rows L2
section
variable {X : Cx} {XQ : XW}
def strsOf : List D → Option (List Str)
  | [] => some []
  | .str z :: r => (strsOf r).map (z :: ·)
  | _ :: _ => none
theorem RepL.strs {K : PySem.W.Frag} {mp : List Addr} {H : Hp} : ∀ {l : List D} {vs : List V} {ns : List Str}, RepL K mp H l vs → strsOf l = some ns → vs = ns.map V.str
  | [], vs, ns, h, e => by
    cases (show vs = [] from h)
    cases (Option.some.inj (show some [] = some ns from e))
    rfl
  | d :: l, vs, ns, h, e => by
    obtain ⟨v, r, rfl, h1, h2⟩ := h
    cases d with
    | str i =>
      have e : (strsOf l).map (i :: ·) = some ns := e
      cases z : strsOf l with
      | none => rw [z] at e; cases e
      | some ms =>
        rw [z] at e
        cases (Option.some.inj e)
        cases (show v = .str i from h1)
        rw [RepL.strs h2 z]
        rfl
    | _ => cases (show (none : Option (List Str)) = some ns from e)
theorem vals_strs : ∀ {ys : List Str} {its : List Value}, Vals (ys.map V.str) its → StrsAre its ys
  | [], _, .nil => .nil
  | y :: ys, _, .cons r t => by
    obtain ⟨tk, rfl⟩ := r
    exact .cons y tk (vals_strs t)
def rJoin (K : PySem.W.Frag) : V → List V → Hp → VK → Prop := fun x vs H Q => ∃ z a ys, x = .str z ∧ vs = [.ref a] ∧ SqL K H a (ys.map V.str) ∧ (ys.map (·.length)).sum + ys.length * z.length ≤ 1000000 ∧ Q (.str (Txt.join z ys)) H
theorem mt_join : MtM X "str.join" (rJoin X.K) := by
  intro pins s σ H x vs v us Q I rx rv h
  obtain ⟨z, a, ys, rfl, rfl, hs, hb, q⟩ := h
  obtain ⟨t, rfl⟩ := rx
  obtain ⟨u, rfl, ru⟩ := rv.one
  cases ru
  obtain ⟨its, r, pl, _⟩ := I.list hs
  exact join_list pl.isList (by simpa using vals_strs r) (Nat.le_trans hb (by decide)) fun t' k => ⟨.str _, H, I.tok k, ⟨t', rfl⟩, q⟩
def joinD (x : D) (xs : List D) (S : Sto) : Out D := match x, xs with
  | .str z, [.lst i] => match S[i]? with
    | some c => match strsOf c.xs with
      | some ys => if (ys.map (·.length)).sum + ys.length * z.length ≤ 1000000 then .ok (.str (Txt.join z ys)) S else .bad
      | none => .bad
    | none => .bad
  | _, _ => .bad
theorem md_join {K : PySem.W.Frag} : MeD K (rJoin K) joinD := by
  intro XQ σ ρ mp H S x xs v vs Q rs rx r p
  unfold joinD at p
  split at p
  · rename_i z i
    split at p
    · rename_i c zc
      split at p
      · rename_i ys zs
        by_cases hb : (ys.map (·.length)).sum + ys.length * z.length ≤ 1000000
        · rw [if_pos hb] at p
          obtain ⟨w, rfl, hw⟩ := RepL.one r
          cases (show v = .str z from rx)
          obtain ⟨a, us, rfl, ha, sq, q, f⟩ := rs.items hw zc
          rw [RepL.strs q zs] at sq
          exact ⟨z, a, ys, rfl, rfl, sq, hb, PostG.ok (R := Rep K) p rs rfl⟩
        · rw [if_neg hb] at p; exact p.elim
      · exact p.elim
    · exact p.elim
  · exact p.elim
def isStr : D → Bool
  | .str _ => true
  | _ => false
def mts (o : D → List D → Sto → Out D) (fo : Ev D) (f : Ev (List D)) : Ev D := fun ρ S => (fo ρ S).bind fun x S1 => if isStr x = true then (f ρ S1).bind fun xs S2 => o x xs S2 else .bad
theorem je_join {o e : Expr} {apos cpos : Pos} {fo : Ev D} {f : Ev (List D)} (ho : JE X XQ o fo) (ha : JA X XQ [e] f)
    (hbase : attributeBase o "join" X.env (eval o X.env) = eval o X.env := by rfl)
    (hfew : ((backTo cpos (starEach [e] X.env)).all (fun x => !x.1) && (backToKw cpos (keywordEach [] X.env)).all (fun x => x.1.isSome)
      && decide ([e].length + ([] : List Keyword).length + (if ([] : List Keyword).isEmpty then 0 else 1) < 30)) = true := by rfl)
    (hline : (apos.endLine == cpos.line) = true := by rfl) (hs : starEach [e] X.env = (false, eval e X.env) :: starEach [] X.env := by rfl) (hplain : (backTo cpos (starEach [] X.env)).any (·.1) = false := by rfl) :
    JE X XQ (.Call (.Attribute o "join" apos) [e] [] cpos) (mts joinD fo f) := by
  refine PE.mono (pe_bm PySem.F.plainAttrs_str PySem.F.slot_str_join PySem.F.type_str_join mt_join ho ha hbase hfew hline hs hplain) fun σ H Q ⟨mp, ρ, S, G, p⟩ => ?_
  refine bindP G p fun mp1 H1 x S1 v a1 G1 r1 p1 => ?_
  by_cases hl : isStr x = true
  · rw [if_pos hl] at p1
    have ty : tyV X.K "str" v H1 := by
      cases x with
      | str z => cases (show v = .str z from r1); exact rfl
      | _ => cases hl
    exact ⟨ty, bindP G1 p1 fun mp2 H2 xs S2 vs a2 G2 r2 p2 => md_join XQ σ ρ mp2 H2 S2 x xs v vs Q G2.rs (Rep.aft a2 _ _ r1) r2 p2⟩
  · rw [if_neg hl] at p1; exact p1.elim
inductive JFs (X : Cx) (XQ : XW) : List Expr → List (Ev D) → Prop
  | nil : JFs X XQ [] []
  | cons {e : Expr} {f : Ev D} {es : List Expr} {fs : List (Ev D)} : JE X XQ e f → JFs X XQ es fs → JFs X XQ (e :: es) (f :: fs)
end
theorem cal_bad {P : Program} {w : World} {K : PySem.W.Frag} {mg : Str → Option Value} {base : Heap} {x : Str} {st : Stmt} {ps : List Str} {j : Nat} (d : Dn K mg x st ps) : Cal P w K mg base x ps (fun _ _ => .bad) j := by
  obtain ⟨f, fd, F, hm, hb⟩ := d.ex
  exact ⟨f, fd, ⟨fun vs H Q E ⟨mp, ds, S, _, _, _, p⟩ => (show False from p).elim, fun A outer s H args us vs Q E _ _ _ _ ⟨mp, ds, S, _, _, _, p⟩ => (show False from p).elim⟩, hm, F.kp, hb⟩
end DL
set_option Elab.async false
set_option linter.all false
set_option maxRecDepth 100000
namespace DL
open PySem PySem.Spec PyProof.Rows L2
structure Zb (z ti to' i j l a b c : Addr) : Prop where
  tz : ti ≠ z
  oz : to' ≠ z
  iz : i ≠ z
  jz : j ≠ z
  lz : l ≠ z
  t_o : ti ≠ to'
  t_i : ti ≠ i
  t_j : ti ≠ j
  t_l : ti ≠ l
  oi : to' ≠ i
  oj : to' ≠ j
  ol : to' ≠ l
  ij : i ≠ j
  il : i ≠ l
  jl : j ≠ l
  az : a ≠ z
  ao : a ≠ to'
  ai : a ≠ i
  aj : a ≠ j
  al : a ≠ l
  bz : b ≠ z
  bo : b ≠ to'
  bi : b ≠ i
  bj : b ≠ j
  bl : b ≠ l
  cz : c ≠ z
  co : c ≠ to'
  ci : c ≠ i
  cj : c ≠ j
  cl : c ≠ l
section
variable {prog : Program} {w : World} {A : Around} {E : Value → Shared → Prop} {s : Shared}
end
end DL
set_option Elab.async false
set_option linter.all false
set_option maxRecDepth 100000
namespace DL
open PySem PySem.Spec PyProof.Rows L2
section
variable {X : Cx} {XQ : XW}
end
end DL
set_option Elab.async false
set_option linter.all false
set_option maxRecDepth 100000
namespace DL
open PySem PySem.Spec PyProof.Rows L2
structure GE (X : Cx) (XQ : XW) (e : Expr) (f : Ev D) : Prop where
  h : JE X XQ e f
structure GA (X : Cx) (XQ : XW) (es : List Expr) (f : Ev (List D)) : Prop where
  h : JA X XQ es f
structure GT (X : Cx) (XQ : XW) (e : Expr) (f : Ev Bool) : Prop where
  h : JT X XQ e f
structure GW (X : Cx) (XQ : XW) (e : Expr) (f : Ev Bool) : Prop where
  h : JW X XQ e f
structure GO (X : Cx) (XQ : XW) (e : Option Expr) (f : Ev (Option Int)) : Prop where
  h : JO X XQ e f
structure GS (X : Cx) (XQ : XW) (st : Stmt) (f : Sv) : Prop where
  h : JS X XQ st f
structure GSs (X : Cx) (XQ : XW) (st : List Stmt) (f : Sv) : Prop where
  h : JSs X XQ st f
structure GI (X : Cx) (XQ : XW) (tg it : Expr) (f : Ev Src) : Prop where
  h : JI X XQ tg it f
structure GG (X : Cx) (tg : Expr) (g : Tg) : Prop where
  h : JG X tg g
structure GGs (X : Cx) (ts : List Expr) (g : Tgs) : Prop where
  h : JGs X ts g
structure GTs (Y : Cx) (XQ : XW) (ifs : List Expr) (t : Ev Bool) : Prop where
  h : JTs Y XQ ifs t
section
variable {X : Cx} {XQ : XW}
theorem ge_join {o e : Expr} {apos cpos : Pos} {fo : Ev D} {f : Ev (List D)} (ho : GE X XQ o fo) (ha : GA X XQ [e] f) (hbase : attributeBase o "join" X.env (eval o X.env) = eval o X.env := by rfl) (hfew : ((backTo cpos (starEach [e] X.env)).all (fun x => !x.1) && (backToKw cpos (keywordEach [] X.env)).all (fun x => x.1.isSome)
      && decide ([e].length + ([] : List Keyword).length + (if ([] : List Keyword).isEmpty then 0 else 1) < 30)) = true := by rfl) (hline : (apos.endLine == cpos.line) = true := by rfl) (hs : starEach [e] X.env = (false, eval e X.env) :: starEach [] X.env := by rfl) (hplain : (backTo cpos (starEach [] X.env)).any (·.1) = false := by rfl) : GE X XQ (.Call (.Attribute o "join" apos) [e] [] cpos) (mts joinD fo f) := ⟨je_join ho.h ha.h hbase hfew hline hs hplain⟩
end
section
variable {X : Cx} {XQ : XW}
end
section
variable {X : Cx} {XQ : XW}
end
section
variable {X : Cx} {XQ : XW}
theorem ge_non {j pos} : GE X XQ (.Constant .none j pos) (cn .non) := ⟨je_non ⟩
end
section
variable {X : Cx} {XQ : XW}
theorem ge_bl {b : Bool} {j pos} : GE X XQ (.Constant (.bool b) j pos) (cn (.bl b)) := ⟨je_bl ⟩
end
section
variable {X : Cx} {XQ : XW}
theorem ge_int {i : Int} {j pos} : GE X XQ (.Constant (.int i) j pos) (cn (.int i)) := ⟨je_int ⟩
end
section
variable {X : Cx} {XQ : XW}
theorem ge_str {x : Str} {j pos} : GE X XQ (.Constant (.str x) j pos) (cn (.str x)) := ⟨je_str ⟩
end
section
variable {X : Cx} {XQ : XW}
theorem ge_add {a b : Expr} {fa fb : Ev D} {pos : Pos} (ha : GE X XQ a fa) (hb : GE X XQ b fb) : GE X XQ (.BinOp a .Add b pos) (o2 addD fa fb) := ⟨je_add ha.h hb.h⟩
end
section
variable {X : Cx} {XQ : XW} {a b : Expr} {fa fb : Ev D} {pos : Pos}
theorem ge_sub (ha : GE X XQ a fa) (hb : GE X XQ b fb) : GE X XQ (.BinOp a .Sub b pos) (o2 subD fa fb) := ⟨je_sub ha.h hb.h⟩
end
section
variable {X : Cx} {XQ : XW}
theorem ge_mul {a b : Expr} {fa fb : Ev D} {pos : Pos} (ha : GE X XQ a fa) (hb : GE X XQ b fb) : GE X XQ (.BinOp a .Mult b pos) (o2 mulD fa fb) := ⟨je_mul ha.h hb.h⟩
end
section
variable {X : Cx} {XQ : XW} {a b : Expr} {fa fb : Ev D} {pos : Pos}
theorem ge_mod (ha : GE X XQ a fa) (hb : GE X XQ b fb) : GE X XQ (.BinOp a .Mod b pos) (o2 modD fa fb) := ⟨je_mod ha.h hb.h⟩
end
section
variable {X : Cx} {XQ : XW}
theorem ge_div2 {a b : Expr} {fa fb : Ev D} {pos : Pos} (ha : GE X XQ a fa) (hb : GE X XQ b fb) : GE X XQ (.BinOp a .FloorDiv b pos) (o2 divD2 fa fb) := ⟨je_div2 ha.h hb.h⟩
end
section
variable {X : Cx} {XQ : XW} {a b : Expr} {fa fb : Ev D} {pos : Pos}
theorem ge_pow (ha : GE X XQ a fa) (hb : GE X XQ b fb) : GE X XQ (.BinOp a .Pow b pos) (o2 powD fa fb) := ⟨je_pow ha.h hb.h⟩
end
section
variable {X : Cx} {XQ : XW} {a b : Expr} {fa fb : Ev D} {pos : Pos}
theorem ge_lt (ha : GE X XQ a fa) (hb : GE X XQ b fb) : GE X XQ (.Compare a [.Lt] [b] pos) (o2 ltD fa fb) := ⟨je_lt ha.h hb.h⟩
end
section
variable {X : Cx} {XQ : XW} {a b : Expr} {fa fb : Ev D} {pos : Pos}
theorem ge_le (ha : GE X XQ a fa) (hb : GE X XQ b fb) : GE X XQ (.Compare a [.LtE] [b] pos) (o2 leD fa fb) := ⟨je_le ha.h hb.h⟩
end
section
variable {X : Cx} {XQ : XW} {a b : Expr} {fa fb : Ev D} {pos : Pos}
theorem ge_gt (ha : GE X XQ a fa) (hb : GE X XQ b fb) : GE X XQ (.Compare a [.Gt] [b] pos) (o2 gtD fa fb) := ⟨je_gt ha.h hb.h⟩
end
section
variable {X : Cx} {XQ : XW} {a b : Expr} {fa fb : Ev D} {pos : Pos}
theorem ge_ge (ha : GE X XQ a fa) (hb : GE X XQ b fb) : GE X XQ (.Compare a [.GtE] [b] pos) (o2 geD fa fb) := ⟨je_ge ha.h hb.h⟩
end
section
variable {X : Cx} {XQ : XW}
theorem ge_eq {a b : Expr} {fa fb : Ev D} {pos : Pos} (hu : X.A.units + 64 < cLine) (ha : GE X XQ a fa) (hb : GE X XQ b fb) : GE X XQ (.Compare a [.Eq] [b] pos) (o2 eqD fa fb) := ⟨je_eq hu ha.h hb.h⟩
end
section
variable {X : Cx} {XQ : XW}
end
section
variable {X : Cx} {XQ : XW} {a b : Expr} {fa fb : Ev D} {pos : Pos}
end
section
variable {X : Cx} {XQ : XW} {a b : Expr} {fa fb : Ev D} {pos : Pos}
end
section
variable {X : Cx} {XQ : XW} {a b : Expr} {fa fb : Ev D} {pos : Pos}
end
section
variable {X : Cx} {XQ : XW} {a b : Expr} {fa fb : Ev D} {pos : Pos}
end
section
variable {X : Cx} {XQ : XW} {a b : Expr} {fa fb : Ev D} {pos : Pos}
end
section
variable {X : Cx} {XQ : XW} {a b : Expr} {fa fb : Ev D} {pos : Pos}
end
section
variable {X : Cx} {XQ : XW}
theorem ge_and {a b : Expr} {rest : List Expr} {f g : Ev D} {pos : Pos} (ha : GE X XQ a f) (hb : GE X XQ (.BoolOp .And (b :: rest) pos) g) : GE X XQ (.BoolOp .And (a :: b :: rest) pos) (va f g) := ⟨je_and ha.h hb.h⟩
end
section
variable {X : Cx} {XQ : XW}
end
section
variable {X : Cx} {XQ : XW}
theorem ge_one {a : Expr} {op} {f : Ev D} {pos : Pos} (h : GE X XQ a f) : GE X XQ (.BoolOp op [a] pos) f := ⟨je_one h.h⟩
end
section
variable {X : Cx} {XQ : XW}
theorem ge_not {a : Expr} {f : Ev D} {pos : Pos} (ha : GE X XQ a f) : GE X XQ (.UnaryOp .Not a pos) (vn f) := ⟨je_not ha.h⟩
end
section
variable {X : Cx} {XQ : XW}
theorem ge_neg {a : Expr} {fa : Ev D} {pos : Pos} (ha : GE X XQ a fa) : GE X XQ (.UnaryOp .USub a pos) (o1 negD fa) := ⟨je_neg ha.h⟩
end
section
variable {X : Cx} {XQ : XW}
theorem ge_ifx {a b c : Expr} {fc : Ev Bool} {fa fb : Ev D} {pos : Pos} (hc : GT X XQ c fc) (ha : GE X XQ a fa) (hb : GE X XQ b fb) : GE X XQ (.IfExp c a b pos) (ie fc fa fb) := ⟨je_ifx hc.h ha.h hb.h⟩
end
section
variable {X : Cx} {XQ : XW}
theorem ge_get {a b : Expr} {fa fb : Ev D} {pos : Pos} (ha : GE X XQ a fa) (hb : GE X XQ b fb) (hs : PlainIx b := by intro _ _; rfl) : GE X XQ (.Subscript a b pos) (o2 getD fa fb) := ⟨je_get ha.h hb.h hs⟩
end
section
variable {X : Cx} {XQ : XW}
theorem ge_slice2 {e : Expr} {lo hi : Option Expr} {fe : Ev D} {fl fh : Ev (Option Int)} {pos p2 : Pos} (he : GE X XQ e fe) (hl : GO X XQ lo fl) (hh : GO X XQ hi fh) : GE X XQ (.Subscript e (.Slice lo hi none p2) pos) (sl2 fe fl fh) := ⟨je_slice2 he.h hl.h hh.h⟩
end
section
variable {X : Cx} {XQ : XW}
end
section
variable {X : Cx} {XQ : XW}
theorem ge_lst {es : List Expr} {f : Ev (List D)} {pos : Pos} (h : GA X XQ es f) : GE X XQ (.List es pos) (ls f) := ⟨je_lst h.h⟩
end
section
variable {X : Cx} {XQ : XW}
theorem ge_tup {es : List Expr} {f : Ev (List D)} {x1} {pos : Pos} (h : GA X XQ es f) : GE X XQ (.Tuple es x1 pos) (tp f) := ⟨je_tup h.h⟩
end
section
variable {X : Cx} {XQ : XW}
theorem ge_isi {T : String} {x : Str} {e : Expr} {f : Ev D} {p p2 pos : Pos} (k : Kit X.K T) (hv : bootBuiltins x = some (.type T)) (hnx : x ≠ "__name__") (hdx : (x == ("__debug__" : Str)) = false) (hg : Gl X "isinstance") (hm : X.mg "isinstance" = none) (hgt : Gl X x) (hmt : X.mg x = none) (he : GE X XQ e f) (hs : starEach [e, .Name x p2] X.env = (false, eval e X.env) :: starEach [.Name x p2] X.env) (hpl : (backTo pos (starEach [.Name x p2] X.env)).any (·.1) = false) (hs2 : starEach [.Name x p2] X.env = (false, eval (.Name x p2) X.env) :: starEach [] X.env) : GE X XQ (.Call (.Name "isinstance" p) [e, .Name x p2] [] pos) (o1 (isD T) f) := ⟨je_isi k hv hnx hdx hg hm hgt hmt he.h hs hpl hs2⟩
end
section
variable {X : Cx} {XQ : XW}
theorem ge_len {p pos : Pos} {e : Expr} {f : Ev (List D)} (hg : Gl X "len") (hm : X.mg "len" = none) (ha : GA X XQ [e] f) (he : starEach [e] X.env = (false, eval e X.env) :: starEach [] X.env := by rfl) : GE X XQ (.Call (.Name "len" p) [e] [] pos) (b1 lenD f) := ⟨je_len hg hm ha.h he⟩
end
section
variable {X : Cx} {XQ : XW}
theorem ge_list {p pos : Pos} {e : Expr} {f : Ev (List D)} (hg : Gl X "list") (hm : X.mg "list" = none) (ha : GA X XQ [e] f) (he : starEach [e] X.env = (false, eval e X.env) :: starEach [] X.env := by rfl) : GE X XQ (.Call (.Name "list" p) [e] [] pos) (b1 listD f) := ⟨je_list hg hm ha.h he⟩
end
section
variable {X : Cx} {XQ : XW}
theorem ge_tuple {p pos : Pos} {e : Expr} {f : Ev (List D)} (hg : Gl X "tuple") (hm : X.mg "tuple" = none) (ha : GA X XQ [e] f) (he : starEach [e] X.env = (false, eval e X.env) :: starEach [] X.env := by rfl) : GE X XQ (.Call (.Name "tuple" p) [e] [] pos) (b1 tupD f) := ⟨je_tuple hg hm ha.h he⟩
end
section
variable {X : Cx} {XQ : XW}
end
section
variable {X : Cx} {XQ : XW}
end
section
variable {X : Cx} {XQ : XW}
end
section
variable {X : Cx} {XQ : XW}
end
section
variable {X : Cx} {XQ : XW}
theorem ge_intc {p pos : Pos} {e : Expr} {f : Ev (List D)} (hg : Gl X "int") (hm : X.mg "int" = none) (ha : GA X XQ [e] f) (he : starEach [e] X.env = (false, eval e X.env) :: starEach [] X.env := by rfl) : GE X XQ (.Call (.Name "int" p) [e] [] pos) (b1 intD f) := ⟨je_intc hg hm ha.h he⟩
end
section
variable {X : Cx} {XQ : XW}
theorem ge_repr {k : Nat} {p pos : Pos} {e : Expr} {f : Ev (List D)} (hr : Room k X.A) (hg : Gl X "repr") (hm : X.mg "repr" = none) (ha : GA X XQ [e] f) (he : starEach [e] X.env = (false, eval e X.env) :: starEach [] X.env := by rfl) : GE X XQ (.Call (.Name "repr" p) [e] [] pos) (b1 reprD f) := ⟨je_repr hr hg hm ha.h he⟩
end
section
variable {X : Cx} {XQ : XW}
theorem ge_all {p pos : Pos} {e : Expr} {f : Ev (List D)} (hc : X.calm = true) (hg : Gl X "all") (hm : X.mg "all" = none) (ha : GA X XQ [e] f) (he : starEach [e] X.env = (false, eval e X.env) :: starEach [] X.env := by rfl) : GE X XQ (.Call (.Name "all" p) [e] [] pos) (b1 allD f) := ⟨je_all hc hg hm ha.h he⟩
end
section
variable {X : Cx} {XQ : XW}
theorem ge_sum {p pos : Pos} {e : Expr} {f : Ev (List D)} (hc : X.calm = true) (hg : Gl X "sum") (hm : X.mg "sum" = none) (ha : GA X XQ [e] f) (he : starEach [e] X.env = (false, eval e X.env) :: starEach [] X.env := by rfl) : GE X XQ (.Call (.Name "sum" p) [e] [] pos) (b1 sumD f) := ⟨je_sum hc hg hm ha.h he⟩
end
section
variable {X : Cx} {XQ : XW}
end
section
variable {X : Cx} {XQ : XW}
end
section
variable {X : Cx} {XQ : XW}
theorem ge_append {o e : Expr} {apos cpos : Pos} {fo : Ev D} {f : Ev (List D)} (ho : GE X XQ o fo) (ha : GA X XQ [e] f) (hbase : attributeBase o "append" X.env (eval o X.env) = eval o X.env := by rfl) (hfew : ((backTo cpos (starEach [e] X.env)).all (fun x => !x.1) && (backToKw cpos (keywordEach [] X.env)).all (fun x => x.1.isSome)
      && decide ([e].length + ([] : List Keyword).length + (if ([] : List Keyword).isEmpty then 0 else 1) < 30)) = true := by rfl) (hline : (apos.endLine == cpos.line) = true := by rfl) (hs : starEach [e] X.env = (false, eval e X.env) :: starEach [] X.env := by rfl) : GE X XQ (.Call (.Attribute o "append" apos) [e] [] cpos) (mt appD fo f) := ⟨je_append ho.h ha.h hbase hfew hline hs⟩
end
section
variable {X : Cx} {XQ : XW}
end
section
variable {X : Cx} {XQ : XW}
theorem ge_pop {o e : Expr} {apos cpos : Pos} {fo : Ev D} {f : Ev (List D)} (ho : GE X XQ o fo) (ha : GA X XQ [e] f) (hbase : attributeBase o "pop" X.env (eval o X.env) = eval o X.env := by rfl) (hfew : ((backTo cpos (starEach [e] X.env)).all (fun x => !x.1) && (backToKw cpos (keywordEach [] X.env)).all (fun x => x.1.isSome)
      && decide ([e].length + ([] : List Keyword).length + (if ([] : List Keyword).isEmpty then 0 else 1) < 30)) = true := by rfl) (hline : (apos.endLine == cpos.line) = true := by rfl) (hs : starEach [e] X.env = (false, eval e X.env) :: starEach [] X.env := by rfl) : GE X XQ (.Call (.Attribute o "pop" apos) [e] [] cpos) (mt popD fo f) := ⟨je_pop ho.h ha.h hbase hfew hline hs⟩
end
section
variable {X : Cx} {XQ : XW}
end
section
variable {X : Cx} {XQ : XW} {a b : Expr} {fa fb : Ev D} {pos : Pos}
theorem gt_lt (ha : GE X XQ a fa) (hb : GE X XQ b fb) : GT X XQ (.Compare a [.Lt] [b] pos) (tb (o2 ltD fa fb)) := ⟨jt_lt ha.h hb.h⟩
end
section
variable {X : Cx} {XQ : XW} {a b : Expr} {fa fb : Ev D} {pos : Pos}
end
section
variable {X : Cx} {XQ : XW} {a b : Expr} {fa fb : Ev D} {pos : Pos}
theorem gt_gt (ha : GE X XQ a fa) (hb : GE X XQ b fb) : GT X XQ (.Compare a [.Gt] [b] pos) (tb (o2 gtD fa fb)) := ⟨jt_gt ha.h hb.h⟩
end
section
variable {X : Cx} {XQ : XW} {a b : Expr} {fa fb : Ev D} {pos : Pos}
end
section
variable {X : Cx} {XQ : XW}
theorem gt_eq {a b : Expr} {fa fb : Ev D} {pos : Pos} (hu : X.A.units + 64 < cLine) (ha : GE X XQ a fa) (hb : GE X XQ b fb) : GT X XQ (.Compare a [.Eq] [b] pos) (tb (o2 eqD fa fb)) := ⟨jt_eq hu ha.h hb.h⟩
end
section
variable {X : Cx} {XQ : XW}
theorem gt_ne {a b : Expr} {fa fb : Ev D} {pos : Pos} (hu : X.A.units + 64 < cLine) (ha : GE X XQ a fa) (hb : GE X XQ b fb) : GT X XQ (.Compare a [.NotEq] [b] pos) (tb (o2 neD fa fb)) := ⟨jt_ne hu ha.h hb.h⟩
end
section
variable {X : Cx} {XQ : XW} {a b : Expr} {fa fb : Ev D} {pos : Pos}
end
section
variable {X : Cx} {XQ : XW} {a b : Expr} {fa fb : Ev D} {pos : Pos}
end
section
variable {X : Cx} {XQ : XW} {a b : Expr} {fa fb : Ev D} {pos : Pos}
end
section
variable {X : Cx} {XQ : XW} {a b : Expr} {fa fb : Ev D} {pos : Pos}
end
section
variable {X : Cx} {XQ : XW} {a b : Expr} {fa fb : Ev D} {pos : Pos}
end
section
variable {X : Cx} {XQ : XW} {a b : Expr} {fa fb : Ev D} {pos : Pos}
end
section
variable {X : Cx} {XQ : XW}
end
section
variable {X : Cx} {XQ : XW}
theorem gt_not {a : Expr} {f : Ev Bool} {pos : Pos} (h : GT X XQ a f) : GT X XQ (.UnaryOp .Not a pos) (tn f) := ⟨jt_not h.h⟩
end
section
variable {X : Cx} {XQ : XW}
theorem gt_val {e : Expr} {f : Ev D} (h : GE X XQ e f) (he : ∀ whole, isTrue e X.env whole = (do let v ← whole; standAt e.pos; holding [v] (truthy v)) := by intro _; rfl) : GT X XQ e (tt f) := ⟨jt_val h.h he⟩
end
section
variable {X : Cx} {XQ : XW}
theorem gw_and1 {a : Expr} {f : Ev Bool} {pos : Pos} (h : GT X XQ a f) : GW X XQ (.BoolOp .And [a] pos) f := ⟨jw_and1 h.h⟩
end
section
variable {X : Cx} {XQ : XW}
theorem gw_or1 {a : Expr} {f : Ev Bool} {pos : Pos} (h : GT X XQ a f) : GW X XQ (.BoolOp .Or [a] pos) f := ⟨jw_or1 h.h⟩
end
section
variable {X : Cx} {XQ : XW}
theorem gw_and {a b : Expr} {rest : List Expr} {f g : Ev Bool} {pos : Pos} (h : GT X XQ a f) (hb : GW X XQ (.BoolOp .And (b :: rest) pos) g) : GW X XQ (.BoolOp .And (a :: b :: rest) pos) (ta f g) := ⟨jw_and h.h hb.h⟩
end
section
variable {X : Cx} {XQ : XW}
theorem gw_or {a b : Expr} {rest : List Expr} {f g : Ev Bool} {pos : Pos} (h : GT X XQ a f) (hb : GW X XQ (.BoolOp .Or (b :: rest) pos) g) : GW X XQ (.BoolOp .Or (a :: b :: rest) pos) (to f g) := ⟨jw_or h.h hb.h⟩
end
section
variable {X : Cx} {XQ : XW}
theorem ga_nil  : GA X XQ [] an := ⟨ja_nil ⟩
end
section
variable {X : Cx} {XQ : XW}
theorem ga_cons {e : Expr} {es : List Expr} {f : Ev D} {g : Ev (List D)} (ha : GE X XQ e f) (hr : GA X XQ es g) (hs : starEach (e :: es) X.env = (false, eval e X.env) :: starEach es X.env := by rfl) : GA X XQ (e :: es) (ac f g) := ⟨ja_cons ha.h hr.h hs⟩
end
section
variable {X : Cx} {XQ : XW}
theorem go_none  : GO X XQ none onone := ⟨jo_none ⟩
end
section
variable {X : Cx} {XQ : XW}
theorem go_some {e : Expr} {f : Ev D} (h : GE X XQ e f) : GO X XQ (some e) (osome f) := ⟨jo_some h.h⟩
end
section
variable {X : Cx} {XQ : XW}
theorem gi_range1 {tg a : Expr} {f : Ev (List D)} {p pos : Pos} (hg : Gl X "range") (hm : X.mg "range" = none) (ha : GA X XQ [a] f) (hs : starEach [a] X.env = [(false, eval a X.env)] := by rfl) : GI X XQ tg (.Call (.Name "range" p) [a] [] pos) (ir1 f) := ⟨ji_range1 hg hm ha.h hs⟩
end
section
variable {X : Cx} {XQ : XW}
end
section
variable {X : Cx} {XQ : XW}
theorem gi_seq {tg l : Expr} {f : Ev D} (hl : GE X XQ l f) : GI X XQ tg l (isrc f) := ⟨ji_seq hl.h⟩
end
section
variable {X : Cx} {XQ : XW}
end
section
variable {X : Cx} {XQ : XW}
end
section
variable {X : Cx} {XQ : XW}
theorem gi_enumerate {es : List Expr} {x1} {tp : Pos} {a : Expr} {f : Ev (List D)} {p pos : Pos} (hg : Gl X "enumerate") (hm : X.mg "enumerate" = none) (ha : GA X XQ [a] f) (hs : starEach [a] X.env = [(false, eval a X.env)] := by rfl) : GI X XQ (.Tuple es x1 tp) (.Call (.Name "enumerate" p) [a] [] pos) (ienumerate f) := ⟨ji_enumerate hg hm ha.h hs⟩
end
section
variable {X : Cx} {XQ : XW}
theorem ggn (i : Nat) {x : Str} {pos : Pos} (hN : X.N.Nodup) (h : OkL X.env.scope x) (hi : X.N[i]? = some x := by rfl) (hf : X.fn x = true := by rfl) : GG X (.Name x pos) (gn i) := ⟨jgn i hN h hi hf⟩
end
section
variable {X : Cx} {XQ : XW}
theorem ggnB (i : Nat) {s2 : Shared} {H2 : Hp} {C : Addr} {scope : Scope} {c : List (Str × Addr)} {N' : List Str} {fp : List Addr} {x : Str} {pos : Pos} (hN : N'.Nodup) (h : okLC scope x = true) (hi : N'[i]? = some x := by rfl) : GG (blk X s2 H2 C scope c N' fp) (.Name x pos) (gn i) := ⟨jgnB i hN h hi⟩
end
section
variable {X : Cx} {XQ : XW}
theorem gg_tup {es : List Expr} {m : Nat} {k : Tgs} {n : Nat} {pos : Pos} (hc : X.calm = true) (h : GGs X es k) (hn : (assignEach es X.env).length = n := by rfl) (hst : (assignEach es X.env).findIdx? (·.1) = none := by rfl) : GG X (.Tuple es m pos) (gt k n) := ⟨jg_tup hc h.h hn hst⟩
end
section
variable {X : Cx} {XQ : XW}
theorem ggs_nil  : GGs X [] gnil := ⟨jgs_nil ⟩
end
section
variable {X : Cx} {XQ : XW}
theorem ggs_cons {e : Expr} {es : List Expr} {g : Tg} {k : Tgs} (h1 : GG X e g) (h2 : GGs X es k) (hs : (assignEach (e :: es) X.env).map (·.2) = assign e X.env :: (assignEach es X.env).map (·.2) := by rfl) : GGs X (e :: es) (gcons g k) := ⟨jgs_cons h1.h h2.h hs⟩
end
section
variable {X : Cx} {XQ : XW}
theorem gss_nil  : GSs X XQ [] skip := ⟨jss_nil ⟩
end
section
variable {X : Cx} {XQ : XW}
theorem gss_cons {st : Stmt} {rest : List Stmt} {f g : Sv} (h1 : GS X XQ st f) (h2 : GSs X XQ rest g) : GSs X XQ (st :: rest) (sq f g) := ⟨jss_cons h1.h h2.h⟩
end
section
variable {X : Cx} {XQ : XW}
theorem gss_one {st : Stmt} {f : Sv} (h1 : GS X XQ st f) : GSs X XQ [st] f := ⟨jss_one h1.h⟩
end
section
variable {X : Cx} {XQ : XW}
theorem gs_ret {e : Expr} {f : Ev D} {pos : Pos} (he : GE X XQ e f) : GS X XQ (.Return (some e) pos) (sret f) := ⟨js_ret he.h⟩
end
section
variable {X : Cx} {XQ : XW}
theorem gs_if {c : Expr} {a b : List Stmt} {fc : Ev Bool} {f g : Sv} {pos : Pos} (hc : GT X XQ c fc) (ha : GSs X XQ a f) (hb : GSs X XQ b g) : GS X XQ (.If c a b pos) (sif fc f g) := ⟨js_if hc.h ha.h hb.h⟩
end
section
variable {X : Cx} {XQ : XW}
theorem gset (i : Nat) {x : Str} {e : Expr} {f : Ev D} {pos pos' : Pos} (hN : X.N.Nodup) (h : OkL X.env.scope x) (he : GE X XQ e f) (hi : X.N[i]? = some x := by rfl) (hs : swapsWith e (some (.Name x pos')) pos.line X.env = pure false := by rfl) (hf : X.fn x = true := by rfl) : GS X XQ (.Assign [.Name x pos'] e pos) (sa f (gn i)) := ⟨jset i hN h he.h hi hs hf⟩
end
section
variable {X : Cx} {XQ : XW}
theorem gsetComp (i : Nat) {sc : Scope} {N : List Str} {y : Str} {py spos : Pos} {elt tg iter : Expr} {ifs : List Expr} {scope : Scope} {pos : Pos} {N' : List Str} {pk : List (Option Nat)} {f : Ev Src} {g : Tg} {t : Ev Bool} {e : Ev D} (hsc : X.env.scope = sc) (hNN : X.N = N) (ct : CompTab sc scope N N' pk) (hcm : X.calm = true) (hi : GI X XQ tg iter f) (hg : ∀ cl s2 H2 C fp, GG (blk X s2 H2 C scope cl N' fp) tg g) (ht : ∀ cl s2 H2 C fp, GTs (blk X s2 H2 C scope cl N' fp) XN ifs t) (he : ∀ cl s2 H2 C fp, GE (blk X s2 H2 C scope cl N' fp) XN elt e) (hN : X.N.Nodup) (hl : OkL X.env.scope y) (hsw : swapsWith (.ListComp elt [⟨tg, iter, ifs, 0⟩] scope pos) (some (.Name y py)) spos.line X.env = pure true) (hy : X.N[i]? = some y := by rfl) (hs : ∀ x, foldedSetIterable iter X.env x = pure x := by intro _; rfl) (hf : X.fn y = true := by rfl) : GS X XQ (.Assign [.Name y py] (.ListComp elt [⟨tg, iter, ifs, 0⟩] scope pos) spos) (sa (cmp f pk g t e) (gn i)) := ⟨jsetComp i hsc hNN ct hcm hi.h (fun z0 z1 z2 z3 z4 => (hg z0 z1 z2 z3 z4).h) (fun z0 z1 z2 z3 z4 => (ht z0 z1 z2 z3 z4).h) (fun z0 z1 z2 z3 z4 => (he z0 z1 z2 z3 z4).h) hN hl hsw hy hs hf⟩
end
section
variable {X : Cx} {XQ : XW}
theorem gs_asg {tg e : Expr} {f : Ev D} {g : Tg} {pos : Pos} (he : GE X XQ e f) (hg : GG X tg g) (hs : swapsWithSole [tg] e pos.line X.env = pure false := by rfl) (hw : swappedStores [tg] e X.env = pure none := by rfl) (h1 : (assignEach [tg] X.env).map (·.2) = [assign tg X.env] := by rfl) : GS X XQ (.Assign [tg] e pos) (sa f g) := ⟨js_asg he.h hg.h hs hw h1⟩
end
section
variable {X : Cx} {XQ : XW}
end
section
variable {X : Cx} {XQ : XW}
theorem gs_setix {ob ix e : Expr} {f fo fi : Ev D} {pos p2 : Pos} (he : GE X XQ e f) (hob : GE X XQ ob fo) (hix : GE X XQ ix fi) (hs : swapsWithSole [.Subscript ob ix p2] e pos.line X.env = pure false := by rfl) (hw : swappedStores [.Subscript ob ix p2] e X.env = pure none := by rfl) (h1 : (assignEach [.Subscript ob ix p2] X.env).map (·.2) = [assign (.Subscript ob ix p2) X.env] := by rfl) (ha : ∀ v, assign (.Subscript ob ix p2) X.env v = (do
      let ov ← holding [v] (eval ob X.env)
      let iv ← holding [v, ov] (eval ix X.env)
      standAt p2
      holding [v, ov, iv] (setItem ov iv v)
      release [v, ov, iv] []) := by intro _; rfl) : GS X XQ (.Assign [.Subscript ob ix p2] e pos) (ss f fo fi setD) := ⟨js_setix he.h hob.h hix.h hs hw h1 ha⟩
end
section
variable {X : Cx} {XQ : XW}
theorem gs_expr {e : Expr} {f : Ev D} {pos : Pos} (he : GE X XQ e f) (hs : swapsWith e none pos.line X.env = pure false := by rfl) : GS X XQ (.Expr e pos) (sx f) := ⟨js_expr he.h hs⟩
end
section
variable {X : Cx} {XQ : XW}
theorem gs_for {tg iter : Expr} {body : List Stmt} {f : Ev Src} {g : Tg} {b : Sv} {pos : Pos} (hp : PassesOwn (model X.prog X.w) X.A X.env X.xe) (hc : X.calm = true) (hi : GI X XQ tg iter f) (hg : GG X tg g) (hb : GSs X XQ body b) (hs : ∀ x, foldedSetIterable iter X.env x = pure x := by intro _; rfl) : GS X XQ (.For tg iter body [] pos) (sfor f g b) := ⟨js_for hp hc hi.h hg.h hb.h hs⟩
end
section
variable {X : Cx} {XQ : XW}
theorem gs_while (fuel : Nat) {c : Expr} {body : List Stmt} {fc : Ev Bool} {b : Sv} {pos : Pos} (hp : PassesOwn (model X.prog X.w) X.A X.env X.xe) (hc : GT X XQ c fc) (hb : GSs X XQ body b) : GS X XQ (.While c body [] pos) (whN fc b fuel) := ⟨js_while fuel hp hc.h hb.h⟩
end
section
variable {X : Cx} {XQ : XW}
end
section
variable {X : Cx} {XQ : XW}
end
section
variable {X : Cx} {XQ : XW}
end
section
variable {X : Cx} {XQ : XW}
end
section
variable {X : Cx} {XQ : XW}
end
section
variable {X : Cx} {XQ : XW}
theorem gv (i : Nat) {x : Str} {pos : Pos} (h : OkV X.env.scope x) (hN : X.N[i]? = some x := by rfl) : GE X XQ (.Name x pos) (vr i) := ⟨jv i h hN⟩
end
section
variable {X : Cx} {XQ : XW}
theorem gvB (i : Nat) {s2 : Shared} {H2 : Hp} {C : Addr} {scope : Scope} {c : List (Str × Addr)} {N' : List Str} {fp : List Addr} {x : Str} {pos : Pos} (h : okVC scope x = true) (hN : N'[i]? = some x := by rfl) : GE (blk X s2 H2 C scope c N' fp) XQ (.Name x pos) (vr i) := ⟨jvB i h hN⟩
end
section
variable {X : Cx} {XQ : XW}
theorem gown {x : Str} {ps : List Str} {fn : Fn} {j k n : Nat} {p pos : Pos} {e : Expr} {es : List Expr} {t : Ev (List D)} (C : Cal X.prog X.w X.K X.mg X.base x ps fn j) (hr : Room k X.A) (hg : Gl X x) (hp : plainN x = true) (ha : GA X XQ (e :: es) t) (hn : ps.length = n := by rfl) (hj : j ≤ k := by decide) (he : starEach (e :: es) X.env = (false, eval e X.env) :: starEach es X.env := by rfl) (hpl : (backTo pos (starEach es X.env)).any (·.1) = false := by rfl) : GE X XQ (.Call (.Name x p) (e :: es) [] pos) (cl n (noExc fn) t) := ⟨jown C hr hg hp ha.h hn hj he hpl⟩
end
section
variable {X : Cx} {XQ : XW}
theorem gcomp {sc : Scope} {N : List Str} {elt tg iter : Expr} {ifs : List Expr} {scope : Scope} {pos : Pos} {N' : List Str} {pk : List (Option Nat)} {f : Ev Src} {g : Tg} {t : Ev Bool} {e : Ev D} (hsc : X.env.scope = sc) (hNN : X.N = N) (ct : CompTab sc scope N N' pk) (hcm : X.calm = true) (hi : GI X XQ tg iter f) (hg : ∀ cl s2 H2 C fp, GG (blk X s2 H2 C scope cl N' fp) tg g) (ht : ∀ cl s2 H2 C fp, GTs (blk X s2 H2 C scope cl N' fp) XN ifs t) (he : ∀ cl s2 H2 C fp, GE (blk X s2 H2 C scope cl N' fp) XN elt e) (hs : ∀ x, foldedSetIterable iter X.env x = pure x := by intro _; rfl) : GE X XQ (.ListComp elt [⟨tg, iter, ifs, 0⟩] scope pos) (cmp f pk g t e) := ⟨jcomp hsc hNN ct hcm hi.h (fun z0 z1 z2 z3 z4 => (hg z0 z1 z2 z3 z4).h) (fun z0 z1 z2 z3 z4 => (ht z0 z1 z2 z3 z4).h) (fun z0 z1 z2 z3 z4 => (he z0 z1 z2 z3 z4).h) hs⟩
end
section
variable {X : Cx}
theorem gts_nil {Y : Cx} {XQ : XW} : GTs Y XQ [] ttrue := ⟨jts_nil ⟩
end
section
variable {X : Cx}
end
section
variable {X : Cx} {XQ : XW}
end
section
variable {X : Cx} {XQ : XW}
end
section
variable {X : Cx} {XQ : XW}
end
theorem GW.jt {X : Cx} {XQ : XW} {e : Expr} {f : Ev Bool} (h : GW X XQ e f) : GT X XQ e f := ⟨JW.jt h.h⟩
end DL
set_option Elab.async false
set_option linter.all false
set_option maxRecDepth 100000
namespace DL
open PySem PySem.Spec PyProof.Rows L2
section
variable {K : PySem.W.Frag} {h : Heap} {mg : Str → Option Value} {x : Str}
theorem cst_int {i : Int} {t : Tok} (X : K.In h) (G : h.Ns mainGlobals mg) (a : PySem.W.nsIn K mainGlobals x = some (some (.int i t))) : ∃ u v, mg x = some u ∧ RelV v u ∧ ∀ mp H, Rep K mp H (.int i) v :=
  ⟨_, .int i, PySem.W.mg_of X G a, ⟨t, rfl⟩, fun _ _ => rfl⟩
theorem cst_t1 {p : Addr} {y : Str} {t : Tok} {n : Nat} {sl : Array (Option Value)} (X : K.In h) (G : h.Ns mainGlobals mg) (a : PySem.W.nsIn K mainGlobals x = some (some (.ref p))) (l : K.lookup p = some { cls := .type "tuple", dict := none, data := .seq #[.str y t] n, slots := sl }) :
    ∃ u v, mg x = some u ∧ RelV v u ∧ ∀ mp H, Rep K mp H (.tup [.str y]) v :=
  ⟨_, .ref p, PySem.W.mg_of X G a, rfl, fun _ _ => ⟨p, [.str y], rfl, .inr ⟨_, _, n, l, rfl, rfl, by rw [sizeLine_eq]; simp, .cons ⟨t, rfl⟩ .nil⟩, RepL.cons rfl RepL.nil⟩⟩
end
end DL
set_option Elab.async false
set_option linter.all false
set_option maxRecDepth 100000
namespace Law
open PySem PySem.Spec PyProof.Rows L2 DL
def top (i : Nat) : Stmt := PySem.Challenge.pw_summitwater_k61_houses_known.main.body.getD i (.Pass ⟨0, 0, 0, 0⟩)
abbrev st_is_whole : Stmt := top 1
abbrev st_is_tuple : Stmt := top 2
abbrev st_most_water : Stmt := top 6
abbrev st_holds : Stmt := top 7
abbrev st_are_counts : Stmt := top 11
abbrev st_is_stand : Stmt := top 10
abbrev st_without_gone : Stmt := top 14
abbrev st_is_house : Stmt := top 13
abbrev st__law_mixed : Stmt := top 16
abbrev st__law_tape : Stmt := top 17
abbrev st__law_take : Stmt := top 18
abbrev st__law_large : Stmt := top 19
abbrev st__law_places : Stmt := top 20
abbrev st__law_canal : Stmt := top 21
abbrev st__law_house : Stmt := top 22
abbrev st__law_any : Stmt := top 23
abbrev st__law_put : Stmt := top 24
abbrev st__law_other : Stmt := top 25
abbrev st__law_else : Stmt := top 26
abbrev st__law_others : Stmt := top 27
abbrev st__law_things : Stmt := top 28
abbrev st__law_is_row : Stmt := top 29
abbrev st__law_fits : Stmt := top 30
abbrev st__law_due : Stmt := top 31
abbrev st_law : Stmt := top 32
def c_CHAMBER : D := (.tup [(.str "chamber")])
def c_END : D := (.tup [(.str "end")])
def c_MOST_BARGES : D := (.int 60)
structure Txt (K : PySem.W.Frag) (mg : Str → Option Value) : Prop where
  b_all : mg "all" = none
  b_bool : mg "bool" = none
  b_enumerate : mg "enumerate" = none
  b_int : mg "int" = none
  b_isinstance : mg "isinstance" = none
  b_len : mg "len" = none
  b_list : mg "list" = none
  b_range : mg "range" = none
  b_repr : mg "repr" = none
  b_sum : mg "sum" = none
  b_tuple : mg "tuple" = none
  k_CHAMBER : ∃ u v, mg "CHAMBER" = some u ∧ RelV v u ∧ ∀ mp H, Rep K mp H c_CHAMBER v
  k_END : ∃ u v, mg "END" = some u ∧ RelV v u ∧ ∀ mp H, Rep K mp H c_END v
  k_MOST_BARGES : ∃ u v, mg "MOST_BARGES" = some u ∧ RelV v u ∧ ∀ mp H, Rep K mp H c_MOST_BARGES v
theorem Txt.c_CHAMBER {X : Cx} {XQ : XW} {pos : Pos} (T : Txt X.K X.mg) (hg : Gl X "CHAMBER") : GE X XQ (.Name "CHAMBER" pos) (cn c_CHAMBER) := let ⟨u, v, h1, h2, h3⟩ := T.k_CHAMBER; ⟨je_cst h1 h2 h3 hg (by decide +kernel)⟩
theorem Txt.c_END {X : Cx} {XQ : XW} {pos : Pos} (T : Txt X.K X.mg) (hg : Gl X "END") : GE X XQ (.Name "END" pos) (cn c_END) := let ⟨u, v, h1, h2, h3⟩ := T.k_END; ⟨je_cst h1 h2 h3 hg (by decide +kernel)⟩
theorem Txt.c_MOST_BARGES {X : Cx} {XQ : XW} {pos : Pos} (T : Txt X.K X.mg) (hg : Gl X "MOST_BARGES") : GE X XQ (.Name "MOST_BARGES" pos) (cn c_MOST_BARGES) := let ⟨u, v, h1, h2, h3⟩ := T.k_MOST_BARGES; ⟨je_cst h1 h2 h3 hg (by decide +kernel)⟩
section
variable {P : Program} {w : World} {K : PySem.W.Frag} {mg : Str → Option Value} {base : Heap}
def b_is_whole : Sv := (sret (va (o1 (isD "int") (vr 0)) (vn (o1 (isD "bool") (vr 0)))))
def f_is_whole : Fn := fnB 1 b_is_whole
theorem sc_is_whole : FnScope ["thing"] ["thing"] (defScope st_is_whole) := ⟨rfl, rfl, rfl, by decide +kernel, rfl, by decide +kernel, by decide +kernel⟩
theorem g_is_whole_bool : OkG (defScope st_is_whole) "bool" := ⟨by decide +kernel⟩
theorem g_is_whole_int : OkG (defScope st_is_whole) "int" := ⟨by decide +kernel⟩
theorem g_is_whole_isinstance : OkG (defScope st_is_whole) "isinstance" := ⟨by decide +kernel⟩
theorem v_is_whole_thing : OkV (defScope st_is_whole) "thing" := ⟨by decide +kernel⟩
set_option maxHeartbeats 4000000 in
theorem cal_is_whole (T : Txt K mg) (d : Dn K mg "is_whole" st_is_whole ["thing"]) : Cal P w K mg base "is_whole" ["thing"] f_is_whole 1 := by
  have Sc := sc_is_whole
  refine cal_of ["thing"] 0 b_is_whole rfl d Sc fun f cdv A outer s H E hr => ?_
  conv => arg 3; whnf
  refine GSs.h ?_
  exact (gss_one (gs_ret (ge_and (ge_isi kit_int (by rfl) (by decide +kernel) (by decide +kernel) (gl g_is_whole_isinstance) T.b_isinstance (gl g_is_whole_int) T.b_int (gv 0 v_is_whole_thing) (by rfl) (by rfl) (by rfl)) (ge_one (ge_not (ge_isi kit_bool (by rfl) (by decide +kernel) (by decide +kernel) (gl g_is_whole_isinstance) T.b_isinstance (gl g_is_whole_bool) T.b_bool (gv 0 v_is_whole_thing) (by rfl) (by rfl) (by rfl)))))))
def b_is_tuple : Sv := (sret (va (o1 (isD "tuple") (vr 0)) (o2 eqD (b1 lenD (ac (vr 0) an)) (vr 1))))
def f_is_tuple : Fn := fnB 2 b_is_tuple
theorem sc_is_tuple : FnScope ["thing", "many"] ["thing", "many"] (defScope st_is_tuple) := ⟨rfl, rfl, rfl, by decide +kernel, rfl, by decide +kernel, by decide +kernel⟩
theorem g_is_tuple_isinstance : OkG (defScope st_is_tuple) "isinstance" := ⟨by decide +kernel⟩
theorem g_is_tuple_len : OkG (defScope st_is_tuple) "len" := ⟨by decide +kernel⟩
theorem g_is_tuple_tuple : OkG (defScope st_is_tuple) "tuple" := ⟨by decide +kernel⟩
theorem v_is_tuple_many : OkV (defScope st_is_tuple) "many" := ⟨by decide +kernel⟩
theorem v_is_tuple_thing : OkV (defScope st_is_tuple) "thing" := ⟨by decide +kernel⟩
set_option maxHeartbeats 4000000 in
theorem cal_is_tuple (T : Txt K mg) (d : Dn K mg "is_tuple" st_is_tuple ["thing", "many"]) : Cal P w K mg base "is_tuple" ["thing", "many"] f_is_tuple 1 := by
  have Sc := sc_is_tuple
  refine cal_of ["thing", "many"] 0 b_is_tuple rfl d Sc fun f cdv A outer s H E hr => ?_
  conv => arg 3; whnf
  refine GSs.h ?_
  exact (gss_one (gs_ret (ge_and (ge_isi kit_tuple (by rfl) (by decide +kernel) (by decide +kernel) (gl g_is_tuple_isinstance) T.b_isinstance (gl g_is_tuple_tuple) T.b_tuple (gv 0 v_is_tuple_thing) (by rfl) (by rfl) (by rfl)) (ge_one (ge_eq hr.units (ge_len (gl g_is_tuple_len) T.b_len (ga_cons (gv 0 v_is_tuple_thing) ga_nil se_Name)) (gv 1 v_is_tuple_many))))))
def b_most_water : Sv := (sq (sif (tb (o2 eqD (vr 0) (cn c_END)))
    (sret (cn (.int 0)))
    skip)
    (sret (ie (tb (o2 eqD (vr 0) (cn c_CHAMBER))) (cn (.int 1)) (o2 getD (vr 0) (cn (.int 1))))))
def f_most_water : Fn := fnB 1 b_most_water
theorem sc_most_water : FnScope ["place"] ["place"] (defScope st_most_water) := ⟨rfl, rfl, rfl, by decide +kernel, rfl, by decide +kernel, by decide +kernel⟩
theorem g_most_water_CHAMBER : OkG (defScope st_most_water) "CHAMBER" := ⟨by decide +kernel⟩
theorem g_most_water_END : OkG (defScope st_most_water) "END" := ⟨by decide +kernel⟩
theorem v_most_water_place : OkV (defScope st_most_water) "place" := ⟨by decide +kernel⟩
set_option maxHeartbeats 4000000 in
theorem cal_most_water (T : Txt K mg) (d : Dn K mg "most_water" st_most_water ["place"]) : Cal P w K mg base "most_water" ["place"] f_most_water 1 := by
  have Sc := sc_most_water
  refine cal_of ["place"] 0 b_most_water rfl d Sc fun f cdv A outer s H E hr => ?_
  conv => arg 3; whnf
  refine GSs.h ?_
  exact (gss_cons (gs_if (gt_eq hr.units (gv 0 v_most_water_place) (T.c_END (gl g_most_water_END)))
    (gss_one (gs_ret ge_int))
    gss_nil)
    (gss_one (gs_ret (ge_ifx (gt_eq hr.units (gv 0 v_most_water_place) (T.c_CHAMBER (gl g_most_water_CHAMBER))) ge_int (ge_get (gv 0 v_most_water_place) ge_int)))))
def b_holds : Sv := (sq (sif (tb (o2 eqD (vr 0) (cn c_END)))
    (sret (cn (.bl true)))
    skip)
    (sret (o2 leD (vr 1) (ie (tb (o2 eqD (vr 0) (cn c_CHAMBER))) (cn (.int 1)) (o2 getD (vr 0) (cn (.int 3)))))))
def f_holds : Fn := fnB 2 b_holds
theorem sc_holds : FnScope ["place", "barges"] ["place", "barges"] (defScope st_holds) := ⟨rfl, rfl, rfl, by decide +kernel, rfl, by decide +kernel, by decide +kernel⟩
theorem g_holds_CHAMBER : OkG (defScope st_holds) "CHAMBER" := ⟨by decide +kernel⟩
theorem g_holds_END : OkG (defScope st_holds) "END" := ⟨by decide +kernel⟩
theorem v_holds_barges : OkV (defScope st_holds) "barges" := ⟨by decide +kernel⟩
theorem v_holds_place : OkV (defScope st_holds) "place" := ⟨by decide +kernel⟩
set_option maxHeartbeats 4000000 in
theorem cal_holds (T : Txt K mg) (d : Dn K mg "holds" st_holds ["place", "barges"]) : Cal P w K mg base "holds" ["place", "barges"] f_holds 1 := by
  have Sc := sc_holds
  refine cal_of ["place", "barges"] 0 b_holds rfl d Sc fun f cdv A outer s H E hr => ?_
  conv => arg 3; whnf
  refine GSs.h ?_
  exact (gss_cons (gs_if (gt_eq hr.units (gv 0 v_holds_place) (T.c_END (gl g_holds_END)))
    (gss_one (gs_ret ge_bl))
    gss_nil)
    (gss_one (gs_ret (ge_le (gv 1 v_holds_barges) (ge_ifx (gt_eq hr.units (gv 0 v_holds_place) (T.c_CHAMBER (gl g_holds_CHAMBER))) ge_int (ge_get (gv 0 v_holds_place) ge_int))))))
def b_are_counts : Sv := (sret (va (cl 2 (noExc f_is_tuple) (ac (vr 0) (ac (vr 1) an))) (b1 allD (ac (cmp (isrc (vr 0)) [none] (gn 0) ttrue (va (cl 1 (noExc f_is_whole) (ac (vr 0) an)) (o2 geD (vr 0) (cn (.int 0))))) an))))
def f_are_counts : Fn := fnB 2 b_are_counts
theorem sc_are_counts : FnScope ["thing", "many"] ["thing", "many"] (defScope st_are_counts) := ⟨rfl, rfl, rfl, by decide +kernel, rfl, by decide +kernel, by decide +kernel⟩
theorem g_are_counts_all : OkG (defScope st_are_counts) "all" := ⟨by decide +kernel⟩
theorem g_are_counts_is_tuple : OkG (defScope st_are_counts) "is_tuple" := ⟨by decide +kernel⟩
theorem v_are_counts_many : OkV (defScope st_are_counts) "many" := ⟨by decide +kernel⟩
theorem v_are_counts_thing : OkV (defScope st_are_counts) "thing" := ⟨by decide +kernel⟩
theorem p_is_tuple : plainN "is_tuple" = true := by decide +kernel
theorem p_is_whole : plainN "is_whole" = true := by decide +kernel
set_option maxHeartbeats 4000000 in
theorem cal_are_counts (T : Txt K mg) (d : Dn K mg "are_counts" st_are_counts ["thing", "many"]) (C_is_tuple : Cal P w K mg base "is_tuple" ["thing", "many"] f_is_tuple 1) (C_is_whole : Cal P w K mg base "is_whole" ["thing"] f_is_whole 1) : Cal P w K mg base "are_counts" ["thing", "many"] f_are_counts 2 := by
  have Sc := sc_are_counts
  refine cal_of ["thing", "many"] 1 b_are_counts rfl d Sc fun f cdv A outer s H E hr => ?_
  conv => arg 3; whnf
  refine GSs.h ?_
  exact (gss_one (gs_ret (ge_and (gown C_is_tuple hr (gl g_are_counts_is_tuple) p_is_tuple (ga_cons (gv 0 v_are_counts_thing) (ga_cons (gv 1 v_are_counts_many) ga_nil se_Name) se_Name)) (ge_one (ge_all rfl (gl g_are_counts_all) T.b_all (ga_cons (gcomp (sc := defScope st_are_counts) (N := ["thing", "many"]) rfl rfl (N' := ["number"]) (pk := [none]) ⟨rfl, by decide +kernel, by decide +kernel, by decide +kernel, rfl, by decide +kernel⟩ rfl (gi_seq (gv 0 v_are_counts_thing)) (fun cl s2 H2 C fp => (ggnB 0 (by decide +kernel) (by decide +kernel))) (fun cl s2 H2 C fp => gts_nil) (fun cl s2 H2 C fp => (ge_and (gown C_is_whole hr (glB (by decide +kernel)) p_is_whole (ga_cons (gvB 0 (by decide +kernel)) ga_nil se_Name)) (ge_one (ge_ge (gvB 0 (by decide +kernel)) ge_int))))) ga_nil se_ListComp))))))
def lb_is_stand_1 : Sv := (sif (to (tb (o2 gtD (o2 getD (vr 3) (vr 6)) (cl 1 (noExc f_most_water) (ac (vr 7) an)))) (tn (tt (cl 2 (noExc f_holds) (ac (vr 7) (ac (o2 addD (o2 getD (vr 4) (vr 6)) (o2 getD (vr 5) (vr 6))) an))))))
    (sret (cn (.bl false)))
    skip)
def b_is_stand : Sv := (sq (sa (o2 getD (vr 0) (cn (.int 0))) (gn 2))
    (sq (sif (tn (tt (cl 2 (noExc f_is_tuple) (ac (vr 1) (ac (cn (.int 3)) an)))))
    (sret (cn (.bl false)))
    skip)
    (sq (sif (tn (tt (b1 allD (ac (cmp (isrc (vr 1)) [none, some 2] (gn 0) ttrue (cl 2 (noExc f_are_counts) (ac (vr 0) (ac (b1 lenD (ac (vr 1) an)) an)))) an))))
    (sret (cn (.bl false)))
    skip)
    (sq (sa (vr 1) (gt (gcons (gn 3) (gcons (gn 4) (gcons (gn 5) gnil))) 3))
    (sq (sfor (ienumerate (ac (vr 2) an)) (gt (gcons (gn 6) (gcons (gn 7) gnil)) 2) lb_is_stand_1)
    (sret (o2 leD (o2 addD (b1 sumD (ac (vr 4) an)) (b1 sumD (ac (vr 5) an))) (cn c_MOST_BARGES))))))))
def f_is_stand : Fn := fnB 8 b_is_stand
theorem sc_is_stand : FnScope ["canal", "thing", "places", "levels", "rights", "lefts", "number", "place"] ["canal", "thing"] (defScope st_is_stand) := ⟨rfl, rfl, rfl, by decide +kernel, rfl, by decide +kernel, by decide +kernel⟩
theorem g_is_stand_MOST_BARGES : OkG (defScope st_is_stand) "MOST_BARGES" := ⟨by decide +kernel⟩
theorem g_is_stand_all : OkG (defScope st_is_stand) "all" := ⟨by decide +kernel⟩
theorem g_is_stand_enumerate : OkG (defScope st_is_stand) "enumerate" := ⟨by decide +kernel⟩
theorem g_is_stand_holds : OkG (defScope st_is_stand) "holds" := ⟨by decide +kernel⟩
theorem g_is_stand_is_tuple : OkG (defScope st_is_stand) "is_tuple" := ⟨by decide +kernel⟩
theorem g_is_stand_most_water : OkG (defScope st_is_stand) "most_water" := ⟨by decide +kernel⟩
theorem g_is_stand_sum : OkG (defScope st_is_stand) "sum" := ⟨by decide +kernel⟩
theorem l_is_stand_lefts : OkL (defScope st_is_stand) "lefts" := ⟨by decide +kernel⟩
theorem l_is_stand_levels : OkL (defScope st_is_stand) "levels" := ⟨by decide +kernel⟩
theorem l_is_stand_number : OkL (defScope st_is_stand) "number" := ⟨by decide +kernel⟩
theorem l_is_stand_place : OkL (defScope st_is_stand) "place" := ⟨by decide +kernel⟩
theorem l_is_stand_places : OkL (defScope st_is_stand) "places" := ⟨by decide +kernel⟩
theorem l_is_stand_rights : OkL (defScope st_is_stand) "rights" := ⟨by decide +kernel⟩
theorem v_is_stand_canal : OkV (defScope st_is_stand) "canal" := ⟨by decide +kernel⟩
theorem v_is_stand_lefts : OkV (defScope st_is_stand) "lefts" := ⟨by decide +kernel⟩
theorem v_is_stand_levels : OkV (defScope st_is_stand) "levels" := ⟨by decide +kernel⟩
theorem v_is_stand_number : OkV (defScope st_is_stand) "number" := ⟨by decide +kernel⟩
theorem v_is_stand_place : OkV (defScope st_is_stand) "place" := ⟨by decide +kernel⟩
theorem v_is_stand_places : OkV (defScope st_is_stand) "places" := ⟨by decide +kernel⟩
theorem v_is_stand_rights : OkV (defScope st_is_stand) "rights" := ⟨by decide +kernel⟩
theorem v_is_stand_thing : OkV (defScope st_is_stand) "thing" := ⟨by decide +kernel⟩
theorem p_are_counts : plainN "are_counts" = true := by decide +kernel
theorem p_holds : plainN "holds" = true := by decide +kernel
theorem p_most_water : plainN "most_water" = true := by decide +kernel
set_option maxHeartbeats 4000000 in
theorem cal_is_stand (T : Txt K mg) (d : Dn K mg "is_stand" st_is_stand ["canal", "thing"]) (C_are_counts : Cal P w K mg base "are_counts" ["thing", "many"] f_are_counts 2) (C_holds : Cal P w K mg base "holds" ["place", "barges"] f_holds 1) (C_is_tuple : Cal P w K mg base "is_tuple" ["thing", "many"] f_is_tuple 1) (C_most_water : Cal P w K mg base "most_water" ["place"] f_most_water 1) : Cal P w K mg base "is_stand" ["canal", "thing"] f_is_stand 3 := by
  have Sc := sc_is_stand
  refine cal_of ["canal", "thing", "places", "levels", "rights", "lefts", "number", "place"] 2 b_is_stand rfl d Sc fun f cdv A outer s H E hr => ?_
  conv => arg 3; whnf
  refine GSs.h ?_
  exact (gss_cons (gset 2 Sc.nd l_is_stand_places (ge_get (gv 0 v_is_stand_canal) ge_int))
    (gss_cons (gs_if (gt_not (gt_val (gown C_is_tuple hr (gl g_is_stand_is_tuple) p_is_tuple (ga_cons (gv 1 v_is_stand_thing) (ga_cons ge_int ga_nil se_Constant) se_Name))))
    (gss_one (gs_ret ge_bl))
    gss_nil)
    (gss_cons (gs_if (gt_not (gt_val (ge_all rfl (gl g_is_stand_all) T.b_all (ga_cons (gcomp (sc := defScope st_is_stand) (N := ["canal", "thing", "places", "levels", "rights", "lefts", "number", "place"]) rfl rfl (N' := ["row", "places"]) (pk := [none, some 2]) ⟨rfl, by decide +kernel, by decide +kernel, by decide +kernel, rfl, by decide +kernel⟩ rfl (gi_seq (gv 1 v_is_stand_thing)) (fun cl s2 H2 C fp => (ggnB 0 (by decide +kernel) (by decide +kernel))) (fun cl s2 H2 C fp => gts_nil) (fun cl s2 H2 C fp => (gown C_are_counts hr (glB (by decide +kernel)) p_are_counts (ga_cons (gvB 0 (by decide +kernel)) (ga_cons (ge_len (glB (by decide +kernel)) T.b_len (ga_cons (gvB 1 (by decide +kernel)) ga_nil se_Name)) ga_nil se_Call) se_Name)))) ga_nil se_ListComp))))
    (gss_one (gs_ret ge_bl))
    gss_nil)
    (gss_cons (gs_asg (gv 1 v_is_stand_thing) (gg_tup rfl (ggs_cons (ggn 3 Sc.nd l_is_stand_levels) (ggs_cons (ggn 4 Sc.nd l_is_stand_rights) (ggs_cons (ggn 5 Sc.nd l_is_stand_lefts) ggs_nil)))))
    (gss_cons (gs_for PassesOwn.never rfl (gi_enumerate (gl g_is_stand_enumerate) T.b_enumerate (ga_cons (gv 2 v_is_stand_places) ga_nil se_Name)) (gg_tup rfl (ggs_cons (ggn 6 Sc.nd l_is_stand_number) (ggs_cons (ggn 7 Sc.nd l_is_stand_place) ggs_nil)))
    (gss_one (gs_if (GW.jt (gw_or (gt_gt (ge_get (gv 3 v_is_stand_levels) (gv 6 v_is_stand_number)) (gown C_most_water hr (gl g_is_stand_most_water) p_most_water (ga_cons (gv 7 v_is_stand_place) ga_nil se_Name))) (gw_or1 (gt_not (gt_val (gown C_holds hr (gl g_is_stand_holds) p_holds (ga_cons (gv 7 v_is_stand_place) (ga_cons (ge_add (ge_get (gv 4 v_is_stand_rights) (gv 6 v_is_stand_number)) (ge_get (gv 5 v_is_stand_lefts) (gv 6 v_is_stand_number))) ga_nil se_BinOp) se_Name)))))))
    (gss_one (gs_ret ge_bl))
    gss_nil)))
    (gss_one (gs_ret (ge_le (ge_add (ge_sum rfl (gl g_is_stand_sum) T.b_sum (ga_cons (gv 4 v_is_stand_rights) ga_nil se_Name)) (ge_sum rfl (gl g_is_stand_sum) T.b_sum (ga_cons (gv 5 v_is_stand_lefts) ga_nil se_Name))) (T.c_MOST_BARGES (gl g_is_stand_MOST_BARGES))))))))))
def b_without_gone : Sv := (sq (sa (vr 0) (gt (gcons (gn 1) (gcons (gn 2) (gcons (gn 3) gnil))) 3))
    (sret (tp (ac (vr 1) (ac (o2 addD (sl2 (vr 2) onone (osome (o1 negD (cn (.int 1))))) (tp (ac (cn (.int 0)) an))) (ac (o2 addD (tp (ac (cn (.int 0)) an)) (sl2 (vr 3) (osome (cn (.int 1))) onone)) an))))))
def f_without_gone : Fn := fnB 4 b_without_gone
theorem sc_without_gone : FnScope ["stand", "levels", "rights", "lefts"] ["stand"] (defScope st_without_gone) := ⟨rfl, rfl, rfl, by decide +kernel, rfl, by decide +kernel, by decide +kernel⟩
theorem l_without_gone_lefts : OkL (defScope st_without_gone) "lefts" := ⟨by decide +kernel⟩
theorem l_without_gone_levels : OkL (defScope st_without_gone) "levels" := ⟨by decide +kernel⟩
theorem l_without_gone_rights : OkL (defScope st_without_gone) "rights" := ⟨by decide +kernel⟩
theorem v_without_gone_lefts : OkV (defScope st_without_gone) "lefts" := ⟨by decide +kernel⟩
theorem v_without_gone_levels : OkV (defScope st_without_gone) "levels" := ⟨by decide +kernel⟩
theorem v_without_gone_rights : OkV (defScope st_without_gone) "rights" := ⟨by decide +kernel⟩
theorem v_without_gone_stand : OkV (defScope st_without_gone) "stand" := ⟨by decide +kernel⟩
set_option maxHeartbeats 4000000 in
theorem cal_without_gone (T : Txt K mg) (d : Dn K mg "without_gone" st_without_gone ["stand"]) : Cal P w K mg base "without_gone" ["stand"] f_without_gone 1 := by
  have Sc := sc_without_gone
  refine cal_of ["stand", "levels", "rights", "lefts"] 0 b_without_gone rfl d Sc fun f cdv A outer s H E hr => ?_
  conv => arg 3; whnf
  refine GSs.h ?_
  exact (gss_cons (gs_asg (gv 0 v_without_gone_stand) (gg_tup rfl (ggs_cons (ggn 1 Sc.nd l_without_gone_levels) (ggs_cons (ggn 2 Sc.nd l_without_gone_rights) (ggs_cons (ggn 3 Sc.nd l_without_gone_lefts) ggs_nil)))))
    (gss_one (gs_ret (ge_tup (ga_cons (gv 1 v_without_gone_levels) (ga_cons (ge_add (ge_slice2 (gv 2 v_without_gone_rights) go_none (go_some (ge_neg ge_int))) (ge_tup (ga_cons ge_int ga_nil se_Constant))) (ga_cons (ge_add (ge_tup (ga_cons ge_int ga_nil se_Constant)) (ge_slice2 (gv 3 v_without_gone_lefts) (go_some ge_int) go_none)) ga_nil se_BinOp) se_BinOp) se_Name)))))
def b_is_house : Sv := (sq (sif (to (tn (tt (cl 2 (noExc f_is_stand) (ac (vr 0) (ac (vr 2) an))))) (tb (o2 neD (cl 1 (noExc f_without_gone) (ac (vr 2) an)) (vr 2))))
    (sret (cn (.bl false)))
    skip)
    (sq (sa (vr 2) (gt (gcons (gn 3) (gcons (gn 4) (gcons (gn 5) gnil))) 3))
    (sret (va (o2 leD (o2 getD (vr 4) (cn (.int 0))) (vr 1)) (o2 leD (o2 getD (vr 5) (o1 negD (cn (.int 1)))) (vr 1))))))
def f_is_house : Fn := fnB 6 b_is_house
theorem sc_is_house : FnScope ["canal", "crowd", "thing", "levels", "rights", "lefts"] ["canal", "crowd", "thing"] (defScope st_is_house) := ⟨rfl, rfl, rfl, by decide +kernel, rfl, by decide +kernel, by decide +kernel⟩
theorem g_is_house_is_stand : OkG (defScope st_is_house) "is_stand" := ⟨by decide +kernel⟩
theorem g_is_house_without_gone : OkG (defScope st_is_house) "without_gone" := ⟨by decide +kernel⟩
theorem l_is_house_lefts : OkL (defScope st_is_house) "lefts" := ⟨by decide +kernel⟩
theorem l_is_house_levels : OkL (defScope st_is_house) "levels" := ⟨by decide +kernel⟩
theorem l_is_house_rights : OkL (defScope st_is_house) "rights" := ⟨by decide +kernel⟩
theorem v_is_house_canal : OkV (defScope st_is_house) "canal" := ⟨by decide +kernel⟩
theorem v_is_house_crowd : OkV (defScope st_is_house) "crowd" := ⟨by decide +kernel⟩
theorem v_is_house_lefts : OkV (defScope st_is_house) "lefts" := ⟨by decide +kernel⟩
theorem v_is_house_rights : OkV (defScope st_is_house) "rights" := ⟨by decide +kernel⟩
theorem v_is_house_thing : OkV (defScope st_is_house) "thing" := ⟨by decide +kernel⟩
theorem p_is_stand : plainN "is_stand" = true := by decide +kernel
theorem p_without_gone : plainN "without_gone" = true := by decide +kernel
set_option maxHeartbeats 4000000 in
theorem cal_is_house (T : Txt K mg) (d : Dn K mg "is_house" st_is_house ["canal", "crowd", "thing"]) (C_is_stand : Cal P w K mg base "is_stand" ["canal", "thing"] f_is_stand 3) (C_without_gone : Cal P w K mg base "without_gone" ["stand"] f_without_gone 1) : Cal P w K mg base "is_house" ["canal", "crowd", "thing"] f_is_house 4 := by
  have Sc := sc_is_house
  refine cal_of ["canal", "crowd", "thing", "levels", "rights", "lefts"] 3 b_is_house rfl d Sc fun f cdv A outer s H E hr => ?_
  conv => arg 3; whnf
  refine GSs.h ?_
  exact (gss_cons (gs_if (GW.jt (gw_or (gt_not (gt_val (gown C_is_stand hr (gl g_is_house_is_stand) p_is_stand (ga_cons (gv 0 v_is_house_canal) (ga_cons (gv 2 v_is_house_thing) ga_nil se_Name) se_Name)))) (gw_or1 (gt_ne hr.units (gown C_without_gone hr (gl g_is_house_without_gone) p_without_gone (ga_cons (gv 2 v_is_house_thing) ga_nil se_Name)) (gv 2 v_is_house_thing)))))
    (gss_one (gs_ret ge_bl))
    gss_nil)
    (gss_cons (gs_asg (gv 2 v_is_house_thing) (gg_tup rfl (ggs_cons (ggn 3 Sc.nd l_is_house_levels) (ggs_cons (ggn 4 Sc.nd l_is_house_rights) (ggs_cons (ggn 5 Sc.nd l_is_house_lefts) ggs_nil)))))
    (gss_one (gs_ret (ge_and (ge_le (ge_get (gv 4 v_is_house_rights) ge_int) (gv 1 v_is_house_crowd)) (ge_one (ge_le (ge_get (gv 5 v_is_house_lefts) (ge_neg ge_int)) (gv 1 v_is_house_crowd))))))))
def b__law_mixed : Sv := (sq (sa (o2 modD (o2 mulD (o2 addD (o2 addD (o2 modD (vr 0) (cn (.int 1000000007))) (o2 mulD (cn (.int 40692)) (vr 1))) (cn (.int 1))) (cn (.int 48271))) (cn (.int 2147483647))) (gn 2))
    (sq (sa (o2 modD (o2 mulD (vr 2) (vr 2)) (cn (.int 998244353))) (gn 2))
    (sret (o2 divD2 (o2 modD (o2 addD (o2 mulD (vr 2) (cn (.int 69621))) (o2 mulD (cn (.int 7919)) (vr 1))) (cn (.int 1000000007))) (cn (.int 7))))))
def f__law_mixed : Fn := fnB 3 b__law_mixed
theorem sc__law_mixed : FnScope ["cell", "turn", "stir"] ["cell", "turn"] (defScope st__law_mixed) := ⟨rfl, rfl, rfl, by decide +kernel, rfl, by decide +kernel, by decide +kernel⟩
theorem l__law_mixed_stir : OkL (defScope st__law_mixed) "stir" := ⟨by decide +kernel⟩
theorem v__law_mixed_cell : OkV (defScope st__law_mixed) "cell" := ⟨by decide +kernel⟩
theorem v__law_mixed_stir : OkV (defScope st__law_mixed) "stir" := ⟨by decide +kernel⟩
theorem v__law_mixed_turn : OkV (defScope st__law_mixed) "turn" := ⟨by decide +kernel⟩
set_option maxHeartbeats 4000000 in
theorem cal__law_mixed (T : Txt K mg) (d : Dn K mg "_law_mixed" st__law_mixed ["cell", "turn"]) : Cal P w K mg base "_law_mixed" ["cell", "turn"] f__law_mixed 1 := by
  have Sc := sc__law_mixed
  refine cal_of ["cell", "turn", "stir"] 0 b__law_mixed rfl d Sc fun f cdv A outer s H E hr => ?_
  conv => arg 3; whnf
  refine GSs.h ?_
  exact (gss_cons (gset 2 Sc.nd l__law_mixed_stir (ge_mod (ge_mul (ge_add (ge_add (ge_mod (gv 0 v__law_mixed_cell) ge_int) (ge_mul ge_int (gv 1 v__law_mixed_turn))) ge_int) ge_int) ge_int))
    (gss_cons (gset 2 Sc.nd l__law_mixed_stir (ge_mod (ge_mul (gv 2 v__law_mixed_stir) (gv 2 v__law_mixed_stir)) ge_int))
    (gss_one (gs_ret (ge_div2 (ge_mod (ge_add (ge_mul (gv 2 v__law_mixed_stir) ge_int) (ge_mul ge_int (gv 1 v__law_mixed_turn))) ge_int) ge_int)))))
def lb__law_tape_1 : Sv := (sa (o2 modD (o2 addD (o2 mulD (vr 1) (cn (.int 69621))) (vr 2)) (cn (.int 2147483647))) (gn 1))
def b__law_tape : Sv := (sq (sa (cn (.int 0)) (gn 1))
    (sq (sfor (isrc (sl2 (vr 0) onone (osome (cn (.int 63))))) (gn 2) lb__law_tape_1)
    (sret (ls (ac (b1 listD (ac (sl2 (vr 0) onone (osome (cn (.int 63)))) an)) (ac (cn (.int 0)) (ac (vr 1) (ac (cn (.int 0)) an))))))))
def f__law_tape : Fn := fnB 3 b__law_tape
theorem sc__law_tape : FnScope ["script", "seed", "cell"] ["script"] (defScope st__law_tape) := ⟨rfl, rfl, rfl, by decide +kernel, rfl, by decide +kernel, by decide +kernel⟩
theorem g__law_tape_list : OkG (defScope st__law_tape) "list" := ⟨by decide +kernel⟩
theorem l__law_tape_cell : OkL (defScope st__law_tape) "cell" := ⟨by decide +kernel⟩
theorem l__law_tape_seed : OkL (defScope st__law_tape) "seed" := ⟨by decide +kernel⟩
theorem v__law_tape_cell : OkV (defScope st__law_tape) "cell" := ⟨by decide +kernel⟩
theorem v__law_tape_script : OkV (defScope st__law_tape) "script" := ⟨by decide +kernel⟩
theorem v__law_tape_seed : OkV (defScope st__law_tape) "seed" := ⟨by decide +kernel⟩
set_option maxHeartbeats 4000000 in
theorem cal__law_tape (T : Txt K mg) (d : Dn K mg "_law_tape" st__law_tape ["script"]) : Cal P w K mg base "_law_tape" ["script"] f__law_tape 1 := by
  have Sc := sc__law_tape
  refine cal_of ["script", "seed", "cell"] 0 b__law_tape rfl d Sc fun f cdv A outer s H E hr => ?_
  conv => arg 3; whnf
  refine GSs.h ?_
  exact (gss_cons (gset 1 Sc.nd l__law_tape_seed ge_int)
    (gss_cons (gs_for PassesOwn.never rfl (gi_seq (ge_slice2 (gv 0 v__law_tape_script) go_none (go_some ge_int))) (ggn 2 Sc.nd l__law_tape_cell)
    (gss_one (gset 1 Sc.nd l__law_tape_seed (ge_mod (ge_add (ge_mul (gv 1 v__law_tape_seed) ge_int) (gv 2 v__law_tape_cell)) ge_int))))
    (gss_one (gs_ret (ge_lst (ga_cons (ge_list (gl g__law_tape_list) T.b_list (ga_cons (ge_slice2 (gv 0 v__law_tape_script) go_none (go_some ge_int)) ga_nil se_Subscript)) (ga_cons ge_int (ga_cons (gv 1 v__law_tape_seed) (ga_cons ge_int ga_nil se_Constant) se_Name) se_Constant) se_Call))))))
def b__law_take : Sv := (sq (ss (o2 addD (o2 getD (vr 0) (cn (.int 3))) (cn (.int 1))) (vr 0) (cn (.int 3)) setD)
    (sq (sif (ta (tb (o2 eqD (o2 getD (vr 0) (cn (.int 1))) (cn (.int 0)))) (tb (o2 gtD (b1 lenD (ac (o2 getD (vr 0) (cn (.int 0))) an)) (cn (.int 0)))))
    (sq (sa (mt popD (o2 getD (vr 0) (cn (.int 0))) (ac (cn (.int 0)) an)) (gn 2))
    (sq (sif (tb (o2 ltD (vr 2) (o2 powD (cn (.int 10)) (cn (.int 18)))))
    (sret (o2 modD (cl 2 (noExc f__law_mixed) (ac (vr 2) (ac (o2 getD (vr 0) (cn (.int 3))) an))) (vr 1)))
    skip)
    (ss (vr 2) (vr 0) (cn (.int 1)) setD)))
    skip)
    (sq (sif (tb (o2 gtD (o2 getD (vr 0) (cn (.int 1))) (cn (.int 0))))
    (sq (sa (o2 modD (o2 getD (vr 0) (cn (.int 1))) (vr 1)) (gn 3))
    (sq (ss (o2 divD2 (o2 getD (vr 0) (cn (.int 1))) (vr 1)) (vr 0) (cn (.int 1)) setD)
    (sret (vr 3))))
    skip)
    (sret (o2 modD (cl 2 (noExc f__law_mixed) (ac (o2 getD (vr 0) (cn (.int 2))) (ac (o2 getD (vr 0) (cn (.int 3))) an))) (vr 1))))))
def f__law_take : Fn := fnB 4 b__law_take
theorem sc__law_take : FnScope ["tape", "many", "cell", "found"] ["tape", "many"] (defScope st__law_take) := ⟨rfl, rfl, rfl, by decide +kernel, rfl, by decide +kernel, by decide +kernel⟩
theorem g__law_take__law_mixed : OkG (defScope st__law_take) "_law_mixed" := ⟨by decide +kernel⟩
theorem g__law_take_len : OkG (defScope st__law_take) "len" := ⟨by decide +kernel⟩
theorem l__law_take_cell : OkL (defScope st__law_take) "cell" := ⟨by decide +kernel⟩
theorem l__law_take_found : OkL (defScope st__law_take) "found" := ⟨by decide +kernel⟩
theorem v__law_take_cell : OkV (defScope st__law_take) "cell" := ⟨by decide +kernel⟩
theorem v__law_take_found : OkV (defScope st__law_take) "found" := ⟨by decide +kernel⟩
theorem v__law_take_many : OkV (defScope st__law_take) "many" := ⟨by decide +kernel⟩
theorem v__law_take_tape : OkV (defScope st__law_take) "tape" := ⟨by decide +kernel⟩
theorem p__law_mixed : plainN "_law_mixed" = true := by decide +kernel
set_option maxHeartbeats 4000000 in
theorem cal__law_take (T : Txt K mg) (d : Dn K mg "_law_take" st__law_take ["tape", "many"]) (C__law_mixed : Cal P w K mg base "_law_mixed" ["cell", "turn"] f__law_mixed 1) : Cal P w K mg base "_law_take" ["tape", "many"] f__law_take 2 := by
  have Sc := sc__law_take
  refine cal_of ["tape", "many", "cell", "found"] 1 b__law_take rfl d Sc fun f cdv A outer s H E hr => ?_
  conv => arg 3; whnf
  refine GSs.h ?_
  exact (gss_cons (gs_setix (ge_add (ge_get (gv 0 v__law_take_tape) ge_int) ge_int) (gv 0 v__law_take_tape) ge_int)
    (gss_cons (gs_if (GW.jt (gw_and (gt_eq hr.units (ge_get (gv 0 v__law_take_tape) ge_int) ge_int) (gw_and1 (gt_gt (ge_len (gl g__law_take_len) T.b_len (ga_cons (ge_get (gv 0 v__law_take_tape) ge_int) ga_nil se_Subscript)) ge_int))))
    (gss_cons (gset 2 Sc.nd l__law_take_cell (ge_pop (ge_get (gv 0 v__law_take_tape) ge_int) (ga_cons ge_int ga_nil se_Constant)))
    (gss_cons (gs_if (gt_lt (gv 2 v__law_take_cell) (ge_pow ge_int ge_int))
    (gss_one (gs_ret (ge_mod (gown C__law_mixed hr (gl g__law_take__law_mixed) p__law_mixed (ga_cons (gv 2 v__law_take_cell) (ga_cons (ge_get (gv 0 v__law_take_tape) ge_int) ga_nil se_Subscript) se_Name)) (gv 1 v__law_take_many))))
    gss_nil)
    (gss_one (gs_setix (gv 2 v__law_take_cell) (gv 0 v__law_take_tape) ge_int))))
    gss_nil)
    (gss_cons (gs_if (gt_gt (ge_get (gv 0 v__law_take_tape) ge_int) ge_int)
    (gss_cons (gset 3 Sc.nd l__law_take_found (ge_mod (ge_get (gv 0 v__law_take_tape) ge_int) (gv 1 v__law_take_many)))
    (gss_cons (gs_setix (ge_div2 (ge_get (gv 0 v__law_take_tape) ge_int) (gv 1 v__law_take_many)) (gv 0 v__law_take_tape) ge_int)
    (gss_one (gs_ret (gv 3 v__law_take_found)))))
    gss_nil)
    (gss_one (gs_ret (ge_mod (gown C__law_mixed hr (gl g__law_take__law_mixed) p__law_mixed (ga_cons (ge_get (gv 0 v__law_take_tape) ge_int) (ga_cons (ge_get (gv 0 v__law_take_tape) ge_int) ga_nil se_Subscript) se_Subscript)) (gv 1 v__law_take_many)))))))
def lb__law_large_1 : Sv := (sq (sa (o2 addD (o2 mulD (vr 2) (o2 powD (cn (.int 10)) (cn (.int 6)))) (cl 2 (noExc f__law_take) (ac (vr 0) (ac (o2 powD (cn (.int 10)) (cn (.int 6))) an)))) (gn 2))
    (sa (o2 mulD (vr 3) (o2 powD (cn (.int 10)) (cn (.int 6)))) (gn 3)))
def lc__law_large_1 : Ev Bool := (tb (o2 ltD (vr 3) (vr 1)))
def b__law_large : Sv := (sq (sa (cn (.int 0)) (gn 2))
    (sq (sa (cn (.int 1)) (gn 3))
    (sq (whN lc__law_large_1 lb__law_large_1 1000)
    (sret (o2 modD (vr 2) (vr 1))))))
def f__law_large : Fn := fnB 4 b__law_large
theorem sc__law_large : FnScope ["tape", "many", "found", "size"] ["tape", "many"] (defScope st__law_large) := ⟨rfl, rfl, rfl, by decide +kernel, rfl, by decide +kernel, by decide +kernel⟩
theorem g__law_large__law_take : OkG (defScope st__law_large) "_law_take" := ⟨by decide +kernel⟩
theorem l__law_large_found : OkL (defScope st__law_large) "found" := ⟨by decide +kernel⟩
theorem l__law_large_size : OkL (defScope st__law_large) "size" := ⟨by decide +kernel⟩
theorem v__law_large_found : OkV (defScope st__law_large) "found" := ⟨by decide +kernel⟩
theorem v__law_large_many : OkV (defScope st__law_large) "many" := ⟨by decide +kernel⟩
theorem v__law_large_size : OkV (defScope st__law_large) "size" := ⟨by decide +kernel⟩
theorem v__law_large_tape : OkV (defScope st__law_large) "tape" := ⟨by decide +kernel⟩
theorem p__law_take : plainN "_law_take" = true := by decide +kernel
set_option maxHeartbeats 4000000 in
theorem cal__law_large (T : Txt K mg) (d : Dn K mg "_law_large" st__law_large ["tape", "many"]) (C__law_take : Cal P w K mg base "_law_take" ["tape", "many"] f__law_take 2) : Cal P w K mg base "_law_large" ["tape", "many"] f__law_large 3 := by
  have Sc := sc__law_large
  refine cal_of ["tape", "many", "found", "size"] 2 b__law_large rfl d Sc fun f cdv A outer s H E hr => ?_
  conv => arg 3; whnf
  refine GSs.h ?_
  exact (gss_cons (gset 2 Sc.nd l__law_large_found ge_int)
    (gss_cons (gset 3 Sc.nd l__law_large_size ge_int)
    (gss_cons (gs_while 1000 PassesOwn.never (gt_lt (gv 3 v__law_large_size) (gv 1 v__law_large_many))
    (gss_cons (gset 2 Sc.nd l__law_large_found (ge_add (ge_mul (gv 2 v__law_large_found) (ge_pow ge_int ge_int)) (gown C__law_take hr (gl g__law_large__law_take) p__law_take (ga_cons (gv 0 v__law_large_tape) (ga_cons (ge_pow ge_int ge_int) ga_nil se_BinOp) se_Name))))
    (gss_one (gset 3 Sc.nd l__law_large_size (ge_mul (gv 3 v__law_large_size) (ge_pow ge_int ge_int))))))
    (gss_one (gs_ret (ge_mod (gv 2 v__law_large_found) (gv 1 v__law_large_many)))))))
def lb__law_places_1 : Sv := (sif (ta (tb (o2 eqD (o2 getD (vr 2) (o1 negD (cn (.int 1)))) (tp (ac (cn (.str "chamber")) an)))) (ta (tb (o2 ltD (vr 3) (o2 subD (vr 1) (cn (.int 1))))) (tb (o2 gtD (cl 2 (noExc f__law_take) (ac (vr 0) (ac (cn (.int 3)) an))) (cn (.int 0))))))
    (sq (sa (o2 addD (cn (.int 1)) (cl 2 (noExc f__law_take) (ac (vr 0) (ac (cn (.int 9)) an)))) (gn 4))
    (sq (sa (cl 2 (noExc f__law_take) (ac (vr 0) (ac (o2 addD (vr 4) (cn (.int 1))) an))) (gn 5))
    (sq (sa (o2 addD (cn (.int 1)) (cl 2 (noExc f__law_take) (ac (vr 0) (ac (cn (.int 4)) an)))) (gn 6))
    (sq (sa (cl 2 (noExc f__law_take) (ac (vr 0) (ac (cn (.int 134)) an))) (gn 7))
    (sx (mt appD (vr 2) (ac (tp (ac (cn (.str "pound")) (ac (vr 4) (ac (vr 5) (ac (vr 6) (ac (ie (tb (o2 ltD (vr 7) (cn (.int 100)))) (vr 7) (cn .non)) an)))))) an)))))))
    (sx (mt appD (vr 2) (ac (tp (ac (cn (.str "chamber")) an)) an))))
def b__law_places : Sv := (sq (sa (ls (ac (tp (ac (cn (.str "end")) an)) an)) (gn 2))
    (sq (sfor (ir1 (ac (vr 1) an)) (gn 3) lb__law_places_1)
    (sret (b1 tupD (ac (o2 addD (vr 2) (ls (ac (tp (ac (cn (.str "end")) an)) an))) an)))))
def f__law_places : Fn := fnB 8 b__law_places
theorem sc__law_places : FnScope ["tape", "many", "places", "at", "brim", "deep", "room", "price"] ["tape", "many"] (defScope st__law_places) := ⟨rfl, rfl, rfl, by decide +kernel, rfl, by decide +kernel, by decide +kernel⟩
theorem g__law_places__law_take : OkG (defScope st__law_places) "_law_take" := ⟨by decide +kernel⟩
theorem g__law_places_range : OkG (defScope st__law_places) "range" := ⟨by decide +kernel⟩
theorem g__law_places_tuple : OkG (defScope st__law_places) "tuple" := ⟨by decide +kernel⟩
theorem l__law_places_at : OkL (defScope st__law_places) "at" := ⟨by decide +kernel⟩
theorem l__law_places_brim : OkL (defScope st__law_places) "brim" := ⟨by decide +kernel⟩
theorem l__law_places_deep : OkL (defScope st__law_places) "deep" := ⟨by decide +kernel⟩
theorem l__law_places_places : OkL (defScope st__law_places) "places" := ⟨by decide +kernel⟩
theorem l__law_places_price : OkL (defScope st__law_places) "price" := ⟨by decide +kernel⟩
theorem l__law_places_room : OkL (defScope st__law_places) "room" := ⟨by decide +kernel⟩
theorem v__law_places_at : OkV (defScope st__law_places) "at" := ⟨by decide +kernel⟩
theorem v__law_places_brim : OkV (defScope st__law_places) "brim" := ⟨by decide +kernel⟩
theorem v__law_places_deep : OkV (defScope st__law_places) "deep" := ⟨by decide +kernel⟩
theorem v__law_places_many : OkV (defScope st__law_places) "many" := ⟨by decide +kernel⟩
theorem v__law_places_places : OkV (defScope st__law_places) "places" := ⟨by decide +kernel⟩
theorem v__law_places_price : OkV (defScope st__law_places) "price" := ⟨by decide +kernel⟩
theorem v__law_places_room : OkV (defScope st__law_places) "room" := ⟨by decide +kernel⟩
theorem v__law_places_tape : OkV (defScope st__law_places) "tape" := ⟨by decide +kernel⟩
set_option maxHeartbeats 4000000 in
theorem cal__law_places (T : Txt K mg) (d : Dn K mg "_law_places" st__law_places ["tape", "many"]) (C__law_take : Cal P w K mg base "_law_take" ["tape", "many"] f__law_take 2) : Cal P w K mg base "_law_places" ["tape", "many"] f__law_places 3 := by
  have Sc := sc__law_places
  refine cal_of ["tape", "many", "places", "at", "brim", "deep", "room", "price"] 2 b__law_places rfl d Sc fun f cdv A outer s H E hr => ?_
  conv => arg 3; whnf
  refine GSs.h ?_
  exact (gss_cons (gset 2 Sc.nd l__law_places_places (ge_lst (ga_cons (ge_tup (ga_cons ge_str ga_nil se_Constant)) ga_nil se_Tuple)))
    (gss_cons (gs_for PassesOwn.never rfl (gi_range1 (gl g__law_places_range) T.b_range (ga_cons (gv 1 v__law_places_many) ga_nil se_Name)) (ggn 3 Sc.nd l__law_places_at)
    (gss_one (gs_if (GW.jt (gw_and (gt_eq hr.units (ge_get (gv 2 v__law_places_places) (ge_neg ge_int)) (ge_tup (ga_cons ge_str ga_nil se_Constant))) (gw_and (gt_lt (gv 3 v__law_places_at) (ge_sub (gv 1 v__law_places_many) ge_int)) (gw_and1 (gt_gt (gown C__law_take hr (gl g__law_places__law_take) p__law_take (ga_cons (gv 0 v__law_places_tape) (ga_cons ge_int ga_nil se_Constant) se_Name)) ge_int)))))
    (gss_cons (gset 4 Sc.nd l__law_places_brim (ge_add ge_int (gown C__law_take hr (gl g__law_places__law_take) p__law_take (ga_cons (gv 0 v__law_places_tape) (ga_cons ge_int ga_nil se_Constant) se_Name))))
    (gss_cons (gset 5 Sc.nd l__law_places_deep (gown C__law_take hr (gl g__law_places__law_take) p__law_take (ga_cons (gv 0 v__law_places_tape) (ga_cons (ge_add (gv 4 v__law_places_brim) ge_int) ga_nil se_BinOp) se_Name)))
    (gss_cons (gset 6 Sc.nd l__law_places_room (ge_add ge_int (gown C__law_take hr (gl g__law_places__law_take) p__law_take (ga_cons (gv 0 v__law_places_tape) (ga_cons ge_int ga_nil se_Constant) se_Name))))
    (gss_cons (gset 7 Sc.nd l__law_places_price (gown C__law_take hr (gl g__law_places__law_take) p__law_take (ga_cons (gv 0 v__law_places_tape) (ga_cons ge_int ga_nil se_Constant) se_Name)))
    (gss_one (gs_expr (ge_append (gv 2 v__law_places_places) (ga_cons (ge_tup (ga_cons ge_str (ga_cons (gv 4 v__law_places_brim) (ga_cons (gv 5 v__law_places_deep) (ga_cons (gv 6 v__law_places_room) (ga_cons (ge_ifx (gt_lt (gv 7 v__law_places_price) ge_int) (gv 7 v__law_places_price) ge_non) ga_nil se_IfExp) se_Name) se_Name) se_Name) se_Constant)) ga_nil se_Tuple))))))))
    (gss_one (gs_expr (ge_append (gv 2 v__law_places_places) (ga_cons (ge_tup (ga_cons ge_str ga_nil se_Constant)) ga_nil se_Tuple)))))))
    (gss_one (gs_ret (ge_tuple (gl g__law_places_tuple) T.b_tuple (ga_cons (ge_add (gv 2 v__law_places_places) (ge_lst (ga_cons (ge_tup (ga_cons ge_str ga_nil se_Constant)) ga_nil se_Tuple))) ga_nil se_BinOp))))))
def lb__law_canal_1 : Sv := (sq (sa (o2 ltD (vr 6) (vr 3)) (gn 7))
    (sq (sif (tb (o2 eqD (vr 4) (cn (.int 0))))
    (sa (o2 eqD (cl 2 (noExc f__law_take) (ac (vr 0) (ac (cn (.int 2)) an))) (cn (.int 1))) (gn 7))
    skip)
    (sx (mt appD (vr 5) (ac (ie (tt (vr 7)) (cn (.str "up")) (cn (.str "down"))) an)))))
def b__law_canal : Sv := (sq (sa (o2 addD (cn (.int 1)) (cl 2 (noExc f__law_take) (ac (vr 0) (ac (o2 getD (ls (ac (cn (.int 1)) (ac (cn (.int 4)) (ac (cn (.int 11)) an)))) (cl 2 (noExc f__law_take) (ac (vr 0) (ac (cn (.int 3)) an)))) an)))) (gn 1))
    (sq (sa (cl 2 (noExc f__law_places) (ac (vr 0) (ac (vr 1) an))) (gn 2))
    (sq (sa (cl 2 (noExc f__law_take) (ac (vr 0) (ac (o2 addD (vr 1) (cn (.int 2))) an))) (gn 3))
    (sq (sa (cl 2 (noExc f__law_take) (ac (vr 0) (ac (cn (.int 2)) an))) (gn 4))
    (sq (sa (ls an) (gn 5))
    (sq (sfor (ir1 (ac (o2 addD (vr 1) (cn (.int 1))) an)) (gn 6) lb__law_canal_1)
    (sret (tp (ac (vr 2) (ac (b1 tupD (ac (vr 5) an)) an))))))))))
def f__law_canal : Fn := fnB 8 b__law_canal
theorem sc__law_canal : FnScope ["tape", "many", "places", "top", "hill", "gates", "gate", "up"] ["tape"] (defScope st__law_canal) := ⟨rfl, rfl, rfl, by decide +kernel, rfl, by decide +kernel, by decide +kernel⟩
theorem g__law_canal__law_places : OkG (defScope st__law_canal) "_law_places" := ⟨by decide +kernel⟩
theorem g__law_canal__law_take : OkG (defScope st__law_canal) "_law_take" := ⟨by decide +kernel⟩
theorem g__law_canal_range : OkG (defScope st__law_canal) "range" := ⟨by decide +kernel⟩
theorem g__law_canal_tuple : OkG (defScope st__law_canal) "tuple" := ⟨by decide +kernel⟩
theorem l__law_canal_gate : OkL (defScope st__law_canal) "gate" := ⟨by decide +kernel⟩
theorem l__law_canal_gates : OkL (defScope st__law_canal) "gates" := ⟨by decide +kernel⟩
theorem l__law_canal_hill : OkL (defScope st__law_canal) "hill" := ⟨by decide +kernel⟩
theorem l__law_canal_many : OkL (defScope st__law_canal) "many" := ⟨by decide +kernel⟩
theorem l__law_canal_places : OkL (defScope st__law_canal) "places" := ⟨by decide +kernel⟩
theorem l__law_canal_top : OkL (defScope st__law_canal) "top" := ⟨by decide +kernel⟩
theorem l__law_canal_up : OkL (defScope st__law_canal) "up" := ⟨by decide +kernel⟩
theorem v__law_canal_gate : OkV (defScope st__law_canal) "gate" := ⟨by decide +kernel⟩
theorem v__law_canal_gates : OkV (defScope st__law_canal) "gates" := ⟨by decide +kernel⟩
theorem v__law_canal_hill : OkV (defScope st__law_canal) "hill" := ⟨by decide +kernel⟩
theorem v__law_canal_many : OkV (defScope st__law_canal) "many" := ⟨by decide +kernel⟩
theorem v__law_canal_places : OkV (defScope st__law_canal) "places" := ⟨by decide +kernel⟩
theorem v__law_canal_tape : OkV (defScope st__law_canal) "tape" := ⟨by decide +kernel⟩
theorem v__law_canal_top : OkV (defScope st__law_canal) "top" := ⟨by decide +kernel⟩
theorem v__law_canal_up : OkV (defScope st__law_canal) "up" := ⟨by decide +kernel⟩
theorem p__law_places : plainN "_law_places" = true := by decide +kernel
set_option maxHeartbeats 4000000 in
theorem cal__law_canal (T : Txt K mg) (d : Dn K mg "_law_canal" st__law_canal ["tape"]) (C__law_places : Cal P w K mg base "_law_places" ["tape", "many"] f__law_places 3) (C__law_take : Cal P w K mg base "_law_take" ["tape", "many"] f__law_take 2) : Cal P w K mg base "_law_canal" ["tape"] f__law_canal 4 := by
  have Sc := sc__law_canal
  refine cal_of ["tape", "many", "places", "top", "hill", "gates", "gate", "up"] 3 b__law_canal rfl d Sc fun f cdv A outer s H E hr => ?_
  conv => arg 3; whnf
  refine GSs.h ?_
  exact (gss_cons (gset 1 Sc.nd l__law_canal_many (ge_add ge_int (gown C__law_take hr (gl g__law_canal__law_take) p__law_take (ga_cons (gv 0 v__law_canal_tape) (ga_cons (ge_get (ge_lst (ga_cons ge_int (ga_cons ge_int (ga_cons ge_int ga_nil se_Constant) se_Constant) se_Constant)) (gown C__law_take hr (gl g__law_canal__law_take) p__law_take (ga_cons (gv 0 v__law_canal_tape) (ga_cons ge_int ga_nil se_Constant) se_Name))) ga_nil se_Subscript) se_Name))))
    (gss_cons (gset 2 Sc.nd l__law_canal_places (gown C__law_places hr (gl g__law_canal__law_places) p__law_places (ga_cons (gv 0 v__law_canal_tape) (ga_cons (gv 1 v__law_canal_many) ga_nil se_Name) se_Name)))
    (gss_cons (gset 3 Sc.nd l__law_canal_top (gown C__law_take hr (gl g__law_canal__law_take) p__law_take (ga_cons (gv 0 v__law_canal_tape) (ga_cons (ge_add (gv 1 v__law_canal_many) ge_int) ga_nil se_BinOp) se_Name)))
    (gss_cons (gset 4 Sc.nd l__law_canal_hill (gown C__law_take hr (gl g__law_canal__law_take) p__law_take (ga_cons (gv 0 v__law_canal_tape) (ga_cons ge_int ga_nil se_Constant) se_Name)))
    (gss_cons (gset 5 Sc.nd l__law_canal_gates (ge_lst ga_nil))
    (gss_cons (gs_for PassesOwn.never rfl (gi_range1 (gl g__law_canal_range) T.b_range (ga_cons (ge_add (gv 1 v__law_canal_many) ge_int) ga_nil se_BinOp)) (ggn 6 Sc.nd l__law_canal_gate)
    (gss_cons (gset 7 Sc.nd l__law_canal_up (ge_lt (gv 6 v__law_canal_gate) (gv 3 v__law_canal_top)))
    (gss_cons (gs_if (gt_eq hr.units (gv 4 v__law_canal_hill) ge_int)
    (gss_one (gset 7 Sc.nd l__law_canal_up (ge_eq hr.units (gown C__law_take hr (gl g__law_canal__law_take) p__law_take (ga_cons (gv 0 v__law_canal_tape) (ga_cons ge_int ga_nil se_Constant) se_Name)) ge_int)))
    gss_nil)
    (gss_one (gs_expr (ge_append (gv 5 v__law_canal_gates) (ga_cons (ge_ifx (gt_val (gv 7 v__law_canal_up)) ge_str ge_str) ga_nil se_IfExp)))))))
    (gss_one (gs_ret (ge_tup (ga_cons (gv 2 v__law_canal_places) (ga_cons (ge_tuple (gl g__law_canal_tuple) T.b_tuple (ga_cons (gv 5 v__law_canal_gates) ga_nil se_Name)) ga_nil se_Call) se_Name))))))))))
def lb__law_house_1 : Sv := (sq (sa (b1 intD (ac (o2 eqD (o2 getD (vr 6) (cn (.int 0))) (cn (.str "chamber"))) an)) (gn 7))
    (sq (sa (b1 intD (ac (o2 eqD (o2 getD (vr 6) (cn (.int 0))) (cn (.str "chamber"))) an)) (gn 8))
    (sq (sif (tb (o2 eqD (o2 getD (vr 6) (cn (.int 0))) (cn (.str "pound"))))
    (sq (sa (o2 getD (vr 6) (cn (.int 1))) (gn 7))
    (sa (o2 getD (vr 6) (cn (.int 3))) (gn 8)))
    skip)
    (sq (sx (mt appD (vr 3) (ac (cl 2 (noExc f__law_take) (ac (vr 0) (ac (o2 addD (vr 7) (cn (.int 1))) an))) an)))
    (sq (sa (cl 2 (noExc f__law_take) (ac (vr 0) (ac (o2 addD (vr 8) (cn (.int 1))) an))) (gn 9))
    (sq (sx (mt appD (vr 4) (ac (cl 2 (noExc f__law_take) (ac (vr 0) (ac (o2 addD (vr 9) (cn (.int 1))) an))) an)))
    (sx (mt appD (vr 5) (ac (o2 subD (vr 9) (o2 getD (vr 4) (o1 negD (cn (.int 1))))) an)))))))))
def b__law_house : Sv := (sq (sa (ls an) (gn 3))
    (sq (sa (ls an) (gn 4))
    (sq (sa (ls an) (gn 5))
    (sq (sfor (isrc (o2 getD (vr 1) (cn (.int 0)))) (gn 6) lb__law_house_1)
    (sq (ss (cl 2 (noExc f__law_take) (ac (vr 0) (ac (o2 addD (vr 2) (cn (.int 1))) an))) (vr 4) (cn (.int 0)) setD)
    (sq (ss (cl 2 (noExc f__law_take) (ac (vr 0) (ac (o2 addD (vr 2) (cn (.int 1))) an))) (vr 5) (o1 negD (cn (.int 1))) setD)
    (sret (tp (ac (b1 tupD (ac (vr 3) an)) (ac (b1 tupD (ac (vr 4) an)) (ac (b1 tupD (ac (vr 5) an)) an)))))))))))
def f__law_house : Fn := fnB 10 b__law_house
theorem sc__law_house : FnScope ["tape", "canal", "crowd", "levels", "rights", "lefts", "place", "top", "room", "many"] ["tape", "canal", "crowd"] (defScope st__law_house) := ⟨rfl, rfl, rfl, by decide +kernel, rfl, by decide +kernel, by decide +kernel⟩
theorem g__law_house__law_take : OkG (defScope st__law_house) "_law_take" := ⟨by decide +kernel⟩
theorem g__law_house_int : OkG (defScope st__law_house) "int" := ⟨by decide +kernel⟩
theorem g__law_house_tuple : OkG (defScope st__law_house) "tuple" := ⟨by decide +kernel⟩
theorem l__law_house_lefts : OkL (defScope st__law_house) "lefts" := ⟨by decide +kernel⟩
theorem l__law_house_levels : OkL (defScope st__law_house) "levels" := ⟨by decide +kernel⟩
theorem l__law_house_many : OkL (defScope st__law_house) "many" := ⟨by decide +kernel⟩
theorem l__law_house_place : OkL (defScope st__law_house) "place" := ⟨by decide +kernel⟩
theorem l__law_house_rights : OkL (defScope st__law_house) "rights" := ⟨by decide +kernel⟩
theorem l__law_house_room : OkL (defScope st__law_house) "room" := ⟨by decide +kernel⟩
theorem l__law_house_top : OkL (defScope st__law_house) "top" := ⟨by decide +kernel⟩
theorem v__law_house_canal : OkV (defScope st__law_house) "canal" := ⟨by decide +kernel⟩
theorem v__law_house_crowd : OkV (defScope st__law_house) "crowd" := ⟨by decide +kernel⟩
theorem v__law_house_lefts : OkV (defScope st__law_house) "lefts" := ⟨by decide +kernel⟩
theorem v__law_house_levels : OkV (defScope st__law_house) "levels" := ⟨by decide +kernel⟩
theorem v__law_house_many : OkV (defScope st__law_house) "many" := ⟨by decide +kernel⟩
theorem v__law_house_place : OkV (defScope st__law_house) "place" := ⟨by decide +kernel⟩
theorem v__law_house_rights : OkV (defScope st__law_house) "rights" := ⟨by decide +kernel⟩
theorem v__law_house_room : OkV (defScope st__law_house) "room" := ⟨by decide +kernel⟩
theorem v__law_house_tape : OkV (defScope st__law_house) "tape" := ⟨by decide +kernel⟩
theorem v__law_house_top : OkV (defScope st__law_house) "top" := ⟨by decide +kernel⟩
set_option maxHeartbeats 4000000 in
theorem cal__law_house (T : Txt K mg) (d : Dn K mg "_law_house" st__law_house ["tape", "canal", "crowd"]) (C__law_take : Cal P w K mg base "_law_take" ["tape", "many"] f__law_take 2) : Cal P w K mg base "_law_house" ["tape", "canal", "crowd"] f__law_house 3 := by
  have Sc := sc__law_house
  refine cal_of ["tape", "canal", "crowd", "levels", "rights", "lefts", "place", "top", "room", "many"] 2 b__law_house rfl d Sc fun f cdv A outer s H E hr => ?_
  conv => arg 3; whnf
  refine GSs.h ?_
  exact (gss_cons (gset 3 Sc.nd l__law_house_levels (ge_lst ga_nil))
    (gss_cons (gset 4 Sc.nd l__law_house_rights (ge_lst ga_nil))
    (gss_cons (gset 5 Sc.nd l__law_house_lefts (ge_lst ga_nil))
    (gss_cons (gs_for PassesOwn.never rfl (gi_seq (ge_get (gv 1 v__law_house_canal) ge_int)) (ggn 6 Sc.nd l__law_house_place)
    (gss_cons (gset 7 Sc.nd l__law_house_top (ge_intc (gl g__law_house_int) T.b_int (ga_cons (ge_eq hr.units (ge_get (gv 6 v__law_house_place) ge_int) ge_str) ga_nil se_Compare)))
    (gss_cons (gset 8 Sc.nd l__law_house_room (ge_intc (gl g__law_house_int) T.b_int (ga_cons (ge_eq hr.units (ge_get (gv 6 v__law_house_place) ge_int) ge_str) ga_nil se_Compare)))
    (gss_cons (gs_if (gt_eq hr.units (ge_get (gv 6 v__law_house_place) ge_int) ge_str)
    (gss_cons (gset 7 Sc.nd l__law_house_top (ge_get (gv 6 v__law_house_place) ge_int))
    (gss_one (gset 8 Sc.nd l__law_house_room (ge_get (gv 6 v__law_house_place) ge_int))))
    gss_nil)
    (gss_cons (gs_expr (ge_append (gv 3 v__law_house_levels) (ga_cons (gown C__law_take hr (gl g__law_house__law_take) p__law_take (ga_cons (gv 0 v__law_house_tape) (ga_cons (ge_add (gv 7 v__law_house_top) ge_int) ga_nil se_BinOp) se_Name)) ga_nil se_Call)))
    (gss_cons (gset 9 Sc.nd l__law_house_many (gown C__law_take hr (gl g__law_house__law_take) p__law_take (ga_cons (gv 0 v__law_house_tape) (ga_cons (ge_add (gv 8 v__law_house_room) ge_int) ga_nil se_BinOp) se_Name)))
    (gss_cons (gs_expr (ge_append (gv 4 v__law_house_rights) (ga_cons (gown C__law_take hr (gl g__law_house__law_take) p__law_take (ga_cons (gv 0 v__law_house_tape) (ga_cons (ge_add (gv 9 v__law_house_many) ge_int) ga_nil se_BinOp) se_Name)) ga_nil se_Call)))
    (gss_one (gs_expr (ge_append (gv 5 v__law_house_lefts) (ga_cons (ge_sub (gv 9 v__law_house_many) (ge_get (gv 4 v__law_house_rights) (ge_neg ge_int))) ga_nil se_BinOp)))))))))))
    (gss_cons (gs_setix (gown C__law_take hr (gl g__law_house__law_take) p__law_take (ga_cons (gv 0 v__law_house_tape) (ga_cons (ge_add (gv 2 v__law_house_crowd) ge_int) ga_nil se_BinOp) se_Name)) (gv 4 v__law_house_rights) ge_int)
    (gss_cons (gs_setix (gown C__law_take hr (gl g__law_house__law_take) p__law_take (ga_cons (gv 0 v__law_house_tape) (ga_cons (ge_add (gv 2 v__law_house_crowd) ge_int) ga_nil se_BinOp) se_Name)) (gv 5 v__law_house_lefts) (ge_neg ge_int))
    (gss_one (gs_ret (ge_tup (ga_cons (ge_tuple (gl g__law_house_tuple) T.b_tuple (ga_cons (gv 3 v__law_house_levels) ga_nil se_Name)) (ga_cons (ge_tuple (gl g__law_house_tuple) T.b_tuple (ga_cons (gv 4 v__law_house_rights) ga_nil se_Name)) (ga_cons (ge_tuple (gl g__law_house_tuple) T.b_tuple (ga_cons (gv 5 v__law_house_lefts) ga_nil se_Name)) ga_nil se_Call) se_Call) se_Call))))))))))
def b__law_any (fr : Fn) : Sv := (sq (sa (cl 2 (noExc f__law_take) (ac (vr 0) (ac (ie (tb (o2 gtD (vr 1) (cn (.int 0)))) (cn (.int 9)) (cn (.int 5))) an))) (gn 2))
    (sq (sif (tb (o2 eqD (vr 2) (cn (.int 0))))
    (sret (o2 getD (ls (ac (cn .non) (ac (cn (.bl true)) (ac (cn (.bl false)) an)))) (cl 2 (noExc f__law_take) (ac (vr 0) (ac (cn (.int 3)) an)))))
    skip)
    (sq (sif (tb (o2 ltD (vr 2) (cn (.int 3))))
    (sret (o2 mulD (cl 2 (noExc f__law_large) (ac (vr 0) (ac (o2 getD (ls (ac (cn (.int 4)) (ac (cn (.int 15)) (ac (o2 powD (cn (.int 10)) (cn (.int 50))) an)))) (cl 2 (noExc f__law_take) (ac (vr 0) (ac (cn (.int 3)) an)))) an))) (o2 subD (cn (.int 1)) (o2 mulD (cn (.int 2)) (cl 2 (noExc f__law_take) (ac (vr 0) (ac (cn (.int 2)) an)))))))
    skip)
    (sq (sif (tb (o2 eqD (vr 2) (cn (.int 3))))
    (sret (o2 getD (ls (ac (cn (.str "least")) (ac (cn (.str "most")) (ac (cn (.str "right")) (ac (cn (.str "left")) (ac (cn (.str "let")) (ac (cn (.str "feed")) (ac (cn (.str "end")) (ac (cn (.str "a")) an))))))))) (cl 2 (noExc f__law_take) (ac (vr 0) (ac (cn (.int 8)) an)))))
    skip)
    (sq (sif (tb (o2 eqD (vr 2) (cn (.int 4))))
    (sret (mts joinD (cn (.str "")) (ac (cmp (ir1 (ac (cl 2 (noExc f__law_take) (ac (vr 0) (ac (cn (.int 6)) an))) an)) [none, some 0] (gn 0) ttrue (o2 getD (cn (.str "leftmostighrd 01")) (cl 2 (noExc f__law_take) (ac (vr 1) (ac (cn (.int 16)) an))))) an)))
    skip)
    (sq (sa (cmp (ir1 (ac (cl 2 (noExc f__law_take) (ac (vr 0) (ac (cn (.int 5)) an))) an)) [none, some 0, some 1] (gn 0) ttrue (cl 2 (noExc fr) (ac (vr 1) (ac (o2 subD (vr 2) (cn (.int 1))) an)))) (gn 3))
    (sret (ie (tb (o2 ltD (vr 2) (cn (.int 7)))) (b1 tupD (ac (vr 3) an)) (vr 3)))))))))
def f__law_any_0 : Fn := fun _ _ => .bad
def f__law_any_1 : Fn := fnB 4 (b__law_any f__law_any_0)
def f__law_any_2 : Fn := fnB 4 (b__law_any f__law_any_1)
def f__law_any_3 : Fn := fnB 4 (b__law_any f__law_any_2)
def f__law_any_4 : Fn := fnB 4 (b__law_any f__law_any_3)
def f__law_any : Fn := f__law_any_4
theorem sc__law_any : FnScope ["tape", "deep", "way", "parts"] ["tape", "deep"] (defScope st__law_any) := ⟨rfl, rfl, rfl, by decide +kernel, rfl, by decide +kernel, by decide +kernel⟩
theorem g__law_any__law_large : OkG (defScope st__law_any) "_law_large" := ⟨by decide +kernel⟩
theorem g__law_any__law_take : OkG (defScope st__law_any) "_law_take" := ⟨by decide +kernel⟩
theorem g__law_any_range : OkG (defScope st__law_any) "range" := ⟨by decide +kernel⟩
theorem g__law_any_tuple : OkG (defScope st__law_any) "tuple" := ⟨by decide +kernel⟩
theorem l__law_any_parts : OkL (defScope st__law_any) "parts" := ⟨by decide +kernel⟩
theorem l__law_any_way : OkL (defScope st__law_any) "way" := ⟨by decide +kernel⟩
theorem v__law_any_deep : OkV (defScope st__law_any) "deep" := ⟨by decide +kernel⟩
theorem v__law_any_parts : OkV (defScope st__law_any) "parts" := ⟨by decide +kernel⟩
theorem v__law_any_tape : OkV (defScope st__law_any) "tape" := ⟨by decide +kernel⟩
theorem v__law_any_way : OkV (defScope st__law_any) "way" := ⟨by decide +kernel⟩
theorem p__law_any : plainN "_law_any" = true := by decide +kernel
theorem p__law_large : plainN "_law_large" = true := by decide +kernel
theorem cal__law_any_0 (d : Dn K mg "_law_any" st__law_any ["tape", "deep"]) : Cal P w K mg base "_law_any" ["tape", "deep"] f__law_any_0 4 := cal_bad d
set_option maxHeartbeats 4000000 in
theorem cal__law_any_1 (T : Txt K mg) (d : Dn K mg "_law_any" st__law_any ["tape", "deep"]) (C__law_large : Cal P w K mg base "_law_large" ["tape", "many"] f__law_large 3) (C__law_take : Cal P w K mg base "_law_take" ["tape", "many"] f__law_take 2) (C_REC : Cal P w K mg base "_law_any" ["tape", "deep"] f__law_any_0 4) : Cal P w K mg base "_law_any" ["tape", "deep"] f__law_any_1 5 := by
  have Sc := sc__law_any
  refine cal_of ["tape", "deep", "way", "parts"] 4 (b__law_any f__law_any_0) rfl d Sc fun f cdv A outer s H E hr => ?_
  conv => arg 3; whnf
  refine GSs.h ?_
  exact (gss_cons (gset 2 Sc.nd l__law_any_way (gown C__law_take hr (gl g__law_any__law_take) p__law_take (ga_cons (gv 0 v__law_any_tape) (ga_cons (ge_ifx (gt_gt (gv 1 v__law_any_deep) ge_int) ge_int ge_int) ga_nil se_IfExp) se_Name)))
    (gss_cons (gs_if (gt_eq hr.units (gv 2 v__law_any_way) ge_int)
    (gss_one (gs_ret (ge_get (ge_lst (ga_cons ge_non (ga_cons ge_bl (ga_cons ge_bl ga_nil se_Constant) se_Constant) se_Constant)) (gown C__law_take hr (gl g__law_any__law_take) p__law_take (ga_cons (gv 0 v__law_any_tape) (ga_cons ge_int ga_nil se_Constant) se_Name)))))
    gss_nil)
    (gss_cons (gs_if (gt_lt (gv 2 v__law_any_way) ge_int)
    (gss_one (gs_ret (ge_mul (gown C__law_large hr (gl g__law_any__law_large) p__law_large (ga_cons (gv 0 v__law_any_tape) (ga_cons (ge_get (ge_lst (ga_cons ge_int (ga_cons ge_int (ga_cons (ge_pow ge_int ge_int) ga_nil se_BinOp) se_Constant) se_Constant)) (gown C__law_take hr (gl g__law_any__law_take) p__law_take (ga_cons (gv 0 v__law_any_tape) (ga_cons ge_int ga_nil se_Constant) se_Name))) ga_nil se_Subscript) se_Name)) (ge_sub ge_int (ge_mul ge_int (gown C__law_take hr (gl g__law_any__law_take) p__law_take (ga_cons (gv 0 v__law_any_tape) (ga_cons ge_int ga_nil se_Constant) se_Name)))))))
    gss_nil)
    (gss_cons (gs_if (gt_eq hr.units (gv 2 v__law_any_way) ge_int)
    (gss_one (gs_ret (ge_get (ge_lst (ga_cons ge_str (ga_cons ge_str (ga_cons ge_str (ga_cons ge_str (ga_cons ge_str (ga_cons ge_str (ga_cons ge_str (ga_cons ge_str ga_nil se_Constant) se_Constant) se_Constant) se_Constant) se_Constant) se_Constant) se_Constant) se_Constant)) (gown C__law_take hr (gl g__law_any__law_take) p__law_take (ga_cons (gv 0 v__law_any_tape) (ga_cons ge_int ga_nil se_Constant) se_Name)))))
    gss_nil)
    (gss_cons (gs_if (gt_eq hr.units (gv 2 v__law_any_way) ge_int)
    (gss_one (gs_ret (ge_join ge_str (ga_cons (gcomp (sc := defScope st__law_any) (N := ["tape", "deep", "way", "parts"]) rfl rfl (N' := ["k", "tape"]) (pk := [none, some 0]) ⟨rfl, by decide +kernel, by decide +kernel, by decide +kernel, rfl, by decide +kernel⟩ rfl (gi_range1 (gl g__law_any_range) T.b_range (ga_cons (gown C__law_take hr (gl g__law_any__law_take) p__law_take (ga_cons (gv 0 v__law_any_tape) (ga_cons ge_int ga_nil se_Constant) se_Name)) ga_nil se_Call)) (fun cl s2 H2 C fp => (ggnB 0 (by decide +kernel) (by decide +kernel))) (fun cl s2 H2 C fp => gts_nil) (fun cl s2 H2 C fp => (ge_get ge_str (gown C__law_take hr (glB (by decide +kernel)) p__law_take (ga_cons (gvB 1 (by decide +kernel)) (ga_cons ge_int ga_nil se_Constant) se_Name))))) ga_nil se_ListComp))))
    gss_nil)
    (gss_cons (gsetComp 3 (sc := defScope st__law_any) (N := ["tape", "deep", "way", "parts"]) rfl rfl (N' := ["k", "tape", "deep"]) (pk := [none, some 0, some 1]) ⟨rfl, by decide +kernel, by decide +kernel, by decide +kernel, rfl, by decide +kernel⟩ rfl (gi_range1 (gl g__law_any_range) T.b_range (ga_cons (gown C__law_take hr (gl g__law_any__law_take) p__law_take (ga_cons (gv 0 v__law_any_tape) (ga_cons ge_int ga_nil se_Constant) se_Name)) ga_nil se_Call)) (fun cl s2 H2 C fp => (ggnB 0 (by decide +kernel) (by decide +kernel))) (fun cl s2 H2 C fp => gts_nil) (fun cl s2 H2 C fp => (gown C_REC hr (glB (by decide +kernel)) p__law_any (ga_cons (gvB 1 (by decide +kernel)) (ga_cons (ge_sub (gvB 2 (by decide +kernel)) ge_int) ga_nil se_BinOp) se_Name))) Sc.nd l__law_any_parts (by rfl))
    (gss_one (gs_ret (ge_ifx (gt_lt (gv 2 v__law_any_way) ge_int) (ge_tuple (gl g__law_any_tuple) T.b_tuple (ga_cons (gv 3 v__law_any_parts) ga_nil se_Name)) (gv 3 v__law_any_parts))))))))))
set_option maxHeartbeats 4000000 in
theorem cal__law_any_2 (T : Txt K mg) (d : Dn K mg "_law_any" st__law_any ["tape", "deep"]) (C__law_large : Cal P w K mg base "_law_large" ["tape", "many"] f__law_large 3) (C__law_take : Cal P w K mg base "_law_take" ["tape", "many"] f__law_take 2) (C_REC : Cal P w K mg base "_law_any" ["tape", "deep"] f__law_any_1 5) : Cal P w K mg base "_law_any" ["tape", "deep"] f__law_any_2 6 := by
  have Sc := sc__law_any
  refine cal_of ["tape", "deep", "way", "parts"] 5 (b__law_any f__law_any_1) rfl d Sc fun f cdv A outer s H E hr => ?_
  conv => arg 3; whnf
  refine GSs.h ?_
  exact (gss_cons (gset 2 Sc.nd l__law_any_way (gown C__law_take hr (gl g__law_any__law_take) p__law_take (ga_cons (gv 0 v__law_any_tape) (ga_cons (ge_ifx (gt_gt (gv 1 v__law_any_deep) ge_int) ge_int ge_int) ga_nil se_IfExp) se_Name)))
    (gss_cons (gs_if (gt_eq hr.units (gv 2 v__law_any_way) ge_int)
    (gss_one (gs_ret (ge_get (ge_lst (ga_cons ge_non (ga_cons ge_bl (ga_cons ge_bl ga_nil se_Constant) se_Constant) se_Constant)) (gown C__law_take hr (gl g__law_any__law_take) p__law_take (ga_cons (gv 0 v__law_any_tape) (ga_cons ge_int ga_nil se_Constant) se_Name)))))
    gss_nil)
    (gss_cons (gs_if (gt_lt (gv 2 v__law_any_way) ge_int)
    (gss_one (gs_ret (ge_mul (gown C__law_large hr (gl g__law_any__law_large) p__law_large (ga_cons (gv 0 v__law_any_tape) (ga_cons (ge_get (ge_lst (ga_cons ge_int (ga_cons ge_int (ga_cons (ge_pow ge_int ge_int) ga_nil se_BinOp) se_Constant) se_Constant)) (gown C__law_take hr (gl g__law_any__law_take) p__law_take (ga_cons (gv 0 v__law_any_tape) (ga_cons ge_int ga_nil se_Constant) se_Name))) ga_nil se_Subscript) se_Name)) (ge_sub ge_int (ge_mul ge_int (gown C__law_take hr (gl g__law_any__law_take) p__law_take (ga_cons (gv 0 v__law_any_tape) (ga_cons ge_int ga_nil se_Constant) se_Name)))))))
    gss_nil)
    (gss_cons (gs_if (gt_eq hr.units (gv 2 v__law_any_way) ge_int)
    (gss_one (gs_ret (ge_get (ge_lst (ga_cons ge_str (ga_cons ge_str (ga_cons ge_str (ga_cons ge_str (ga_cons ge_str (ga_cons ge_str (ga_cons ge_str (ga_cons ge_str ga_nil se_Constant) se_Constant) se_Constant) se_Constant) se_Constant) se_Constant) se_Constant) se_Constant)) (gown C__law_take hr (gl g__law_any__law_take) p__law_take (ga_cons (gv 0 v__law_any_tape) (ga_cons ge_int ga_nil se_Constant) se_Name)))))
    gss_nil)
    (gss_cons (gs_if (gt_eq hr.units (gv 2 v__law_any_way) ge_int)
    (gss_one (gs_ret (ge_join ge_str (ga_cons (gcomp (sc := defScope st__law_any) (N := ["tape", "deep", "way", "parts"]) rfl rfl (N' := ["k", "tape"]) (pk := [none, some 0]) ⟨rfl, by decide +kernel, by decide +kernel, by decide +kernel, rfl, by decide +kernel⟩ rfl (gi_range1 (gl g__law_any_range) T.b_range (ga_cons (gown C__law_take hr (gl g__law_any__law_take) p__law_take (ga_cons (gv 0 v__law_any_tape) (ga_cons ge_int ga_nil se_Constant) se_Name)) ga_nil se_Call)) (fun cl s2 H2 C fp => (ggnB 0 (by decide +kernel) (by decide +kernel))) (fun cl s2 H2 C fp => gts_nil) (fun cl s2 H2 C fp => (ge_get ge_str (gown C__law_take hr (glB (by decide +kernel)) p__law_take (ga_cons (gvB 1 (by decide +kernel)) (ga_cons ge_int ga_nil se_Constant) se_Name))))) ga_nil se_ListComp))))
    gss_nil)
    (gss_cons (gsetComp 3 (sc := defScope st__law_any) (N := ["tape", "deep", "way", "parts"]) rfl rfl (N' := ["k", "tape", "deep"]) (pk := [none, some 0, some 1]) ⟨rfl, by decide +kernel, by decide +kernel, by decide +kernel, rfl, by decide +kernel⟩ rfl (gi_range1 (gl g__law_any_range) T.b_range (ga_cons (gown C__law_take hr (gl g__law_any__law_take) p__law_take (ga_cons (gv 0 v__law_any_tape) (ga_cons ge_int ga_nil se_Constant) se_Name)) ga_nil se_Call)) (fun cl s2 H2 C fp => (ggnB 0 (by decide +kernel) (by decide +kernel))) (fun cl s2 H2 C fp => gts_nil) (fun cl s2 H2 C fp => (gown C_REC hr (glB (by decide +kernel)) p__law_any (ga_cons (gvB 1 (by decide +kernel)) (ga_cons (ge_sub (gvB 2 (by decide +kernel)) ge_int) ga_nil se_BinOp) se_Name))) Sc.nd l__law_any_parts (by rfl))
    (gss_one (gs_ret (ge_ifx (gt_lt (gv 2 v__law_any_way) ge_int) (ge_tuple (gl g__law_any_tuple) T.b_tuple (ga_cons (gv 3 v__law_any_parts) ga_nil se_Name)) (gv 3 v__law_any_parts))))))))))
set_option maxHeartbeats 4000000 in
theorem cal__law_any_3 (T : Txt K mg) (d : Dn K mg "_law_any" st__law_any ["tape", "deep"]) (C__law_large : Cal P w K mg base "_law_large" ["tape", "many"] f__law_large 3) (C__law_take : Cal P w K mg base "_law_take" ["tape", "many"] f__law_take 2) (C_REC : Cal P w K mg base "_law_any" ["tape", "deep"] f__law_any_2 6) : Cal P w K mg base "_law_any" ["tape", "deep"] f__law_any_3 7 := by
  have Sc := sc__law_any
  refine cal_of ["tape", "deep", "way", "parts"] 6 (b__law_any f__law_any_2) rfl d Sc fun f cdv A outer s H E hr => ?_
  conv => arg 3; whnf
  refine GSs.h ?_
  exact (gss_cons (gset 2 Sc.nd l__law_any_way (gown C__law_take hr (gl g__law_any__law_take) p__law_take (ga_cons (gv 0 v__law_any_tape) (ga_cons (ge_ifx (gt_gt (gv 1 v__law_any_deep) ge_int) ge_int ge_int) ga_nil se_IfExp) se_Name)))
    (gss_cons (gs_if (gt_eq hr.units (gv 2 v__law_any_way) ge_int)
    (gss_one (gs_ret (ge_get (ge_lst (ga_cons ge_non (ga_cons ge_bl (ga_cons ge_bl ga_nil se_Constant) se_Constant) se_Constant)) (gown C__law_take hr (gl g__law_any__law_take) p__law_take (ga_cons (gv 0 v__law_any_tape) (ga_cons ge_int ga_nil se_Constant) se_Name)))))
    gss_nil)
    (gss_cons (gs_if (gt_lt (gv 2 v__law_any_way) ge_int)
    (gss_one (gs_ret (ge_mul (gown C__law_large hr (gl g__law_any__law_large) p__law_large (ga_cons (gv 0 v__law_any_tape) (ga_cons (ge_get (ge_lst (ga_cons ge_int (ga_cons ge_int (ga_cons (ge_pow ge_int ge_int) ga_nil se_BinOp) se_Constant) se_Constant)) (gown C__law_take hr (gl g__law_any__law_take) p__law_take (ga_cons (gv 0 v__law_any_tape) (ga_cons ge_int ga_nil se_Constant) se_Name))) ga_nil se_Subscript) se_Name)) (ge_sub ge_int (ge_mul ge_int (gown C__law_take hr (gl g__law_any__law_take) p__law_take (ga_cons (gv 0 v__law_any_tape) (ga_cons ge_int ga_nil se_Constant) se_Name)))))))
    gss_nil)
    (gss_cons (gs_if (gt_eq hr.units (gv 2 v__law_any_way) ge_int)
    (gss_one (gs_ret (ge_get (ge_lst (ga_cons ge_str (ga_cons ge_str (ga_cons ge_str (ga_cons ge_str (ga_cons ge_str (ga_cons ge_str (ga_cons ge_str (ga_cons ge_str ga_nil se_Constant) se_Constant) se_Constant) se_Constant) se_Constant) se_Constant) se_Constant) se_Constant)) (gown C__law_take hr (gl g__law_any__law_take) p__law_take (ga_cons (gv 0 v__law_any_tape) (ga_cons ge_int ga_nil se_Constant) se_Name)))))
    gss_nil)
    (gss_cons (gs_if (gt_eq hr.units (gv 2 v__law_any_way) ge_int)
    (gss_one (gs_ret (ge_join ge_str (ga_cons (gcomp (sc := defScope st__law_any) (N := ["tape", "deep", "way", "parts"]) rfl rfl (N' := ["k", "tape"]) (pk := [none, some 0]) ⟨rfl, by decide +kernel, by decide +kernel, by decide +kernel, rfl, by decide +kernel⟩ rfl (gi_range1 (gl g__law_any_range) T.b_range (ga_cons (gown C__law_take hr (gl g__law_any__law_take) p__law_take (ga_cons (gv 0 v__law_any_tape) (ga_cons ge_int ga_nil se_Constant) se_Name)) ga_nil se_Call)) (fun cl s2 H2 C fp => (ggnB 0 (by decide +kernel) (by decide +kernel))) (fun cl s2 H2 C fp => gts_nil) (fun cl s2 H2 C fp => (ge_get ge_str (gown C__law_take hr (glB (by decide +kernel)) p__law_take (ga_cons (gvB 1 (by decide +kernel)) (ga_cons ge_int ga_nil se_Constant) se_Name))))) ga_nil se_ListComp))))
    gss_nil)
    (gss_cons (gsetComp 3 (sc := defScope st__law_any) (N := ["tape", "deep", "way", "parts"]) rfl rfl (N' := ["k", "tape", "deep"]) (pk := [none, some 0, some 1]) ⟨rfl, by decide +kernel, by decide +kernel, by decide +kernel, rfl, by decide +kernel⟩ rfl (gi_range1 (gl g__law_any_range) T.b_range (ga_cons (gown C__law_take hr (gl g__law_any__law_take) p__law_take (ga_cons (gv 0 v__law_any_tape) (ga_cons ge_int ga_nil se_Constant) se_Name)) ga_nil se_Call)) (fun cl s2 H2 C fp => (ggnB 0 (by decide +kernel) (by decide +kernel))) (fun cl s2 H2 C fp => gts_nil) (fun cl s2 H2 C fp => (gown C_REC hr (glB (by decide +kernel)) p__law_any (ga_cons (gvB 1 (by decide +kernel)) (ga_cons (ge_sub (gvB 2 (by decide +kernel)) ge_int) ga_nil se_BinOp) se_Name))) Sc.nd l__law_any_parts (by rfl))
    (gss_one (gs_ret (ge_ifx (gt_lt (gv 2 v__law_any_way) ge_int) (ge_tuple (gl g__law_any_tuple) T.b_tuple (ga_cons (gv 3 v__law_any_parts) ga_nil se_Name)) (gv 3 v__law_any_parts))))))))))
set_option maxHeartbeats 4000000 in
theorem cal__law_any_4 (T : Txt K mg) (d : Dn K mg "_law_any" st__law_any ["tape", "deep"]) (C__law_large : Cal P w K mg base "_law_large" ["tape", "many"] f__law_large 3) (C__law_take : Cal P w K mg base "_law_take" ["tape", "many"] f__law_take 2) (C_REC : Cal P w K mg base "_law_any" ["tape", "deep"] f__law_any_3 7) : Cal P w K mg base "_law_any" ["tape", "deep"] f__law_any_4 8 := by
  have Sc := sc__law_any
  refine cal_of ["tape", "deep", "way", "parts"] 7 (b__law_any f__law_any_3) rfl d Sc fun f cdv A outer s H E hr => ?_
  conv => arg 3; whnf
  refine GSs.h ?_
  exact (gss_cons (gset 2 Sc.nd l__law_any_way (gown C__law_take hr (gl g__law_any__law_take) p__law_take (ga_cons (gv 0 v__law_any_tape) (ga_cons (ge_ifx (gt_gt (gv 1 v__law_any_deep) ge_int) ge_int ge_int) ga_nil se_IfExp) se_Name)))
    (gss_cons (gs_if (gt_eq hr.units (gv 2 v__law_any_way) ge_int)
    (gss_one (gs_ret (ge_get (ge_lst (ga_cons ge_non (ga_cons ge_bl (ga_cons ge_bl ga_nil se_Constant) se_Constant) se_Constant)) (gown C__law_take hr (gl g__law_any__law_take) p__law_take (ga_cons (gv 0 v__law_any_tape) (ga_cons ge_int ga_nil se_Constant) se_Name)))))
    gss_nil)
    (gss_cons (gs_if (gt_lt (gv 2 v__law_any_way) ge_int)
    (gss_one (gs_ret (ge_mul (gown C__law_large hr (gl g__law_any__law_large) p__law_large (ga_cons (gv 0 v__law_any_tape) (ga_cons (ge_get (ge_lst (ga_cons ge_int (ga_cons ge_int (ga_cons (ge_pow ge_int ge_int) ga_nil se_BinOp) se_Constant) se_Constant)) (gown C__law_take hr (gl g__law_any__law_take) p__law_take (ga_cons (gv 0 v__law_any_tape) (ga_cons ge_int ga_nil se_Constant) se_Name))) ga_nil se_Subscript) se_Name)) (ge_sub ge_int (ge_mul ge_int (gown C__law_take hr (gl g__law_any__law_take) p__law_take (ga_cons (gv 0 v__law_any_tape) (ga_cons ge_int ga_nil se_Constant) se_Name)))))))
    gss_nil)
    (gss_cons (gs_if (gt_eq hr.units (gv 2 v__law_any_way) ge_int)
    (gss_one (gs_ret (ge_get (ge_lst (ga_cons ge_str (ga_cons ge_str (ga_cons ge_str (ga_cons ge_str (ga_cons ge_str (ga_cons ge_str (ga_cons ge_str (ga_cons ge_str ga_nil se_Constant) se_Constant) se_Constant) se_Constant) se_Constant) se_Constant) se_Constant) se_Constant)) (gown C__law_take hr (gl g__law_any__law_take) p__law_take (ga_cons (gv 0 v__law_any_tape) (ga_cons ge_int ga_nil se_Constant) se_Name)))))
    gss_nil)
    (gss_cons (gs_if (gt_eq hr.units (gv 2 v__law_any_way) ge_int)
    (gss_one (gs_ret (ge_join ge_str (ga_cons (gcomp (sc := defScope st__law_any) (N := ["tape", "deep", "way", "parts"]) rfl rfl (N' := ["k", "tape"]) (pk := [none, some 0]) ⟨rfl, by decide +kernel, by decide +kernel, by decide +kernel, rfl, by decide +kernel⟩ rfl (gi_range1 (gl g__law_any_range) T.b_range (ga_cons (gown C__law_take hr (gl g__law_any__law_take) p__law_take (ga_cons (gv 0 v__law_any_tape) (ga_cons ge_int ga_nil se_Constant) se_Name)) ga_nil se_Call)) (fun cl s2 H2 C fp => (ggnB 0 (by decide +kernel) (by decide +kernel))) (fun cl s2 H2 C fp => gts_nil) (fun cl s2 H2 C fp => (ge_get ge_str (gown C__law_take hr (glB (by decide +kernel)) p__law_take (ga_cons (gvB 1 (by decide +kernel)) (ga_cons ge_int ga_nil se_Constant) se_Name))))) ga_nil se_ListComp))))
    gss_nil)
    (gss_cons (gsetComp 3 (sc := defScope st__law_any) (N := ["tape", "deep", "way", "parts"]) rfl rfl (N' := ["k", "tape", "deep"]) (pk := [none, some 0, some 1]) ⟨rfl, by decide +kernel, by decide +kernel, by decide +kernel, rfl, by decide +kernel⟩ rfl (gi_range1 (gl g__law_any_range) T.b_range (ga_cons (gown C__law_take hr (gl g__law_any__law_take) p__law_take (ga_cons (gv 0 v__law_any_tape) (ga_cons ge_int ga_nil se_Constant) se_Name)) ga_nil se_Call)) (fun cl s2 H2 C fp => (ggnB 0 (by decide +kernel) (by decide +kernel))) (fun cl s2 H2 C fp => gts_nil) (fun cl s2 H2 C fp => (gown C_REC hr (glB (by decide +kernel)) p__law_any (ga_cons (gvB 1 (by decide +kernel)) (ga_cons (ge_sub (gvB 2 (by decide +kernel)) ge_int) ga_nil se_BinOp) se_Name))) Sc.nd l__law_any_parts (by rfl))
    (gss_one (gs_ret (ge_ifx (gt_lt (gv 2 v__law_any_way) ge_int) (ge_tuple (gl g__law_any_tuple) T.b_tuple (ga_cons (gv 3 v__law_any_parts) ga_nil se_Name)) (gv 3 v__law_any_parts))))))))))
theorem cal__law_any (T : Txt K mg) (d : Dn K mg "_law_any" st__law_any ["tape", "deep"]) (C__law_large : Cal P w K mg base "_law_large" ["tape", "many"] f__law_large 3) (C__law_take : Cal P w K mg base "_law_take" ["tape", "many"] f__law_take 2) : Cal P w K mg base "_law_any" ["tape", "deep"] f__law_any 8 := (cal__law_any_4 T d C__law_large C__law_take (cal__law_any_3 T d C__law_large C__law_take (cal__law_any_2 T d C__law_large C__law_take (cal__law_any_1 T d C__law_large C__law_take (cal__law_any_0 d)))))
def b__law_put : Sv := (sret (o2 addD (o2 addD (sl2 (vr 0) onone (osome (vr 1))) (tp (ac (vr 2) an))) (sl2 (vr 0) (osome (o2 addD (vr 1) (cn (.int 1)))) onone)))
def f__law_put : Fn := fnB 3 b__law_put
theorem sc__law_put : FnScope ["rows", "at", "what"] ["rows", "at", "what"] (defScope st__law_put) := ⟨rfl, rfl, rfl, by decide +kernel, rfl, by decide +kernel, by decide +kernel⟩
theorem v__law_put_at : OkV (defScope st__law_put) "at" := ⟨by decide +kernel⟩
theorem v__law_put_rows : OkV (defScope st__law_put) "rows" := ⟨by decide +kernel⟩
theorem v__law_put_what : OkV (defScope st__law_put) "what" := ⟨by decide +kernel⟩
set_option maxHeartbeats 4000000 in
theorem cal__law_put (T : Txt K mg) (d : Dn K mg "_law_put" st__law_put ["rows", "at", "what"]) : Cal P w K mg base "_law_put" ["rows", "at", "what"] f__law_put 1 := by
  have Sc := sc__law_put
  refine cal_of ["rows", "at", "what"] 0 b__law_put rfl d Sc fun f cdv A outer s H E hr => ?_
  conv => arg 3; whnf
  refine GSs.h ?_
  exact (gss_one (gs_ret (ge_add (ge_add (ge_slice2 (gv 0 v__law_put_rows) go_none (go_some (gv 1 v__law_put_at))) (ge_tup (ga_cons (gv 2 v__law_put_what) ga_nil se_Name))) (ge_slice2 (gv 0 v__law_put_rows) (go_some (ge_add (gv 1 v__law_put_at) ge_int)) go_none))))
def b__law_other : Sv := (sret (cl 3 (noExc f__law_put) (ac (vr 0) (ac (vr 1) (ac (cl 3 (noExc f__law_put) (ac (o2 getD (vr 0) (vr 1)) (ac (vr 2) (ac (vr 3) an)))) an)))))
def f__law_other : Fn := fnB 4 b__law_other
theorem sc__law_other : FnScope ["house", "row", "at", "what"] ["house", "row", "at", "what"] (defScope st__law_other) := ⟨rfl, rfl, rfl, by decide +kernel, rfl, by decide +kernel, by decide +kernel⟩
theorem g__law_other__law_put : OkG (defScope st__law_other) "_law_put" := ⟨by decide +kernel⟩
theorem v__law_other_at : OkV (defScope st__law_other) "at" := ⟨by decide +kernel⟩
theorem v__law_other_house : OkV (defScope st__law_other) "house" := ⟨by decide +kernel⟩
theorem v__law_other_row : OkV (defScope st__law_other) "row" := ⟨by decide +kernel⟩
theorem v__law_other_what : OkV (defScope st__law_other) "what" := ⟨by decide +kernel⟩
theorem p__law_put : plainN "_law_put" = true := by decide +kernel
set_option maxHeartbeats 4000000 in
theorem cal__law_other (T : Txt K mg) (d : Dn K mg "_law_other" st__law_other ["house", "row", "at", "what"]) (C__law_put : Cal P w K mg base "_law_put" ["rows", "at", "what"] f__law_put 1) : Cal P w K mg base "_law_other" ["house", "row", "at", "what"] f__law_other 2 := by
  have Sc := sc__law_other
  refine cal_of ["house", "row", "at", "what"] 1 b__law_other rfl d Sc fun f cdv A outer s H E hr => ?_
  conv => arg 3; whnf
  refine GSs.h ?_
  exact (gss_one (gs_ret (gown C__law_put hr (gl g__law_other__law_put) p__law_put (ga_cons (gv 0 v__law_other_house) (ga_cons (gv 1 v__law_other_row) (ga_cons (gown C__law_put hr (gl g__law_other__law_put) p__law_put (ga_cons (ge_get (gv 0 v__law_other_house) (gv 1 v__law_other_row)) (ga_cons (gv 2 v__law_other_at) (ga_cons (gv 3 v__law_other_what) ga_nil se_Name) se_Name) se_Subscript)) ga_nil se_Call) se_Name) se_Name))))
def b__law_else : Sv := (sq (sa (cl 2 (noExc f__law_any) (ac (vr 0) (ac (cn (.int 3)) an))) (gn 2))
    (sq (sa (cl 2 (noExc f__law_take) (ac (vr 0) (ac (cn (.int 3)) an))) (gn 3))
    (sq (sa (cl 2 (noExc f__law_take) (ac (vr 0) (ac (cn (.int 4)) an))) (gn 4))
    (sq (sif (tb (o2 eqD (vr 4) (cn (.int 0))))
    (sret (vr 2))
    skip)
    (sq (sif (tb (o2 eqD (vr 4) (cn (.int 1))))
    (sret (cl 3 (noExc f__law_put) (ac (vr 1) (ac (vr 3) (ac (vr 2) an)))))
    skip)
    (sq (sif (tb (o2 eqD (vr 4) (cn (.int 2))))
    (sret (tp (ac (vr 2) (ac (cl 2 (noExc f__law_any) (ac (vr 0) (ac (cn (.int 2)) an))) (ac (cl 2 (noExc f__law_any) (ac (vr 0) (ac (cn (.int 2)) an))) an)))))
    skip)
    (sret (cl 4 (noExc f__law_other) (ac (vr 1) (ac (vr 3) (ac (cl 2 (noExc f__law_take) (ac (vr 0) (ac (b1 lenD (ac (o2 getD (vr 1) (cn (.int 0))) an)) an))) (ac (vr 2) an))))))))))))
def f__law_else : Fn := fnB 5 b__law_else
theorem sc__law_else : FnScope ["tape", "house", "what", "row", "way"] ["tape", "house"] (defScope st__law_else) := ⟨rfl, rfl, rfl, by decide +kernel, rfl, by decide +kernel, by decide +kernel⟩
theorem g__law_else__law_any : OkG (defScope st__law_else) "_law_any" := ⟨by decide +kernel⟩
theorem g__law_else__law_other : OkG (defScope st__law_else) "_law_other" := ⟨by decide +kernel⟩
theorem g__law_else__law_put : OkG (defScope st__law_else) "_law_put" := ⟨by decide +kernel⟩
theorem g__law_else__law_take : OkG (defScope st__law_else) "_law_take" := ⟨by decide +kernel⟩
theorem g__law_else_len : OkG (defScope st__law_else) "len" := ⟨by decide +kernel⟩
theorem l__law_else_row : OkL (defScope st__law_else) "row" := ⟨by decide +kernel⟩
theorem l__law_else_way : OkL (defScope st__law_else) "way" := ⟨by decide +kernel⟩
theorem l__law_else_what : OkL (defScope st__law_else) "what" := ⟨by decide +kernel⟩
theorem v__law_else_house : OkV (defScope st__law_else) "house" := ⟨by decide +kernel⟩
theorem v__law_else_row : OkV (defScope st__law_else) "row" := ⟨by decide +kernel⟩
theorem v__law_else_tape : OkV (defScope st__law_else) "tape" := ⟨by decide +kernel⟩
theorem v__law_else_way : OkV (defScope st__law_else) "way" := ⟨by decide +kernel⟩
theorem v__law_else_what : OkV (defScope st__law_else) "what" := ⟨by decide +kernel⟩
theorem p__law_other : plainN "_law_other" = true := by decide +kernel
set_option maxHeartbeats 4000000 in
theorem cal__law_else (T : Txt K mg) (d : Dn K mg "_law_else" st__law_else ["tape", "house"]) (C__law_any : Cal P w K mg base "_law_any" ["tape", "deep"] f__law_any 8) (C__law_other : Cal P w K mg base "_law_other" ["house", "row", "at", "what"] f__law_other 2) (C__law_put : Cal P w K mg base "_law_put" ["rows", "at", "what"] f__law_put 1) (C__law_take : Cal P w K mg base "_law_take" ["tape", "many"] f__law_take 2) : Cal P w K mg base "_law_else" ["tape", "house"] f__law_else 9 := by
  have Sc := sc__law_else
  refine cal_of ["tape", "house", "what", "row", "way"] 8 b__law_else rfl d Sc fun f cdv A outer s H E hr => ?_
  conv => arg 3; whnf
  refine GSs.h ?_
  exact (gss_cons (gset 2 Sc.nd l__law_else_what (gown C__law_any hr (gl g__law_else__law_any) p__law_any (ga_cons (gv 0 v__law_else_tape) (ga_cons ge_int ga_nil se_Constant) se_Name)))
    (gss_cons (gset 3 Sc.nd l__law_else_row (gown C__law_take hr (gl g__law_else__law_take) p__law_take (ga_cons (gv 0 v__law_else_tape) (ga_cons ge_int ga_nil se_Constant) se_Name)))
    (gss_cons (gset 4 Sc.nd l__law_else_way (gown C__law_take hr (gl g__law_else__law_take) p__law_take (ga_cons (gv 0 v__law_else_tape) (ga_cons ge_int ga_nil se_Constant) se_Name)))
    (gss_cons (gs_if (gt_eq hr.units (gv 4 v__law_else_way) ge_int)
    (gss_one (gs_ret (gv 2 v__law_else_what)))
    gss_nil)
    (gss_cons (gs_if (gt_eq hr.units (gv 4 v__law_else_way) ge_int)
    (gss_one (gs_ret (gown C__law_put hr (gl g__law_else__law_put) p__law_put (ga_cons (gv 1 v__law_else_house) (ga_cons (gv 3 v__law_else_row) (ga_cons (gv 2 v__law_else_what) ga_nil se_Name) se_Name) se_Name))))
    gss_nil)
    (gss_cons (gs_if (gt_eq hr.units (gv 4 v__law_else_way) ge_int)
    (gss_one (gs_ret (ge_tup (ga_cons (gv 2 v__law_else_what) (ga_cons (gown C__law_any hr (gl g__law_else__law_any) p__law_any (ga_cons (gv 0 v__law_else_tape) (ga_cons ge_int ga_nil se_Constant) se_Name)) (ga_cons (gown C__law_any hr (gl g__law_else__law_any) p__law_any (ga_cons (gv 0 v__law_else_tape) (ga_cons ge_int ga_nil se_Constant) se_Name)) ga_nil se_Call) se_Call) se_Name))))
    gss_nil)
    (gss_one (gs_ret (gown C__law_other hr (gl g__law_else__law_other) p__law_other (ga_cons (gv 1 v__law_else_house) (ga_cons (gv 3 v__law_else_row) (ga_cons (gown C__law_take hr (gl g__law_else__law_take) p__law_take (ga_cons (gv 0 v__law_else_tape) (ga_cons (ge_len (gl g__law_else_len) T.b_len (ga_cons (ge_get (gv 1 v__law_else_house) ge_int) ga_nil se_Subscript)) ga_nil se_Call) se_Name)) (ga_cons (gv 2 v__law_else_what) ga_nil se_Name) se_Call) se_Name) se_Name))))))))))
def b__law_others : Sv := (sq (sa (ls (ac (o2 addD (vr 0) (cn (.int 1))) (ac (o2 subD (vr 0) (cn (.int 1))) (ac (cn (.int 0)) (ac (cn (.int 1)) (ac (cn (.int 4)) (ac (cn (.int 5)) (ac (cn (.int 9)) (ac (cn (.int 61)) (ac (o2 subD (cn (.int 0)) (cn (.int 1))) (ac (o2 eqD (vr 0) (cn (.int 1))) (ac (o2 gtD (vr 0) (cn (.int 0))) (ac (cn .non) (ac (cn (.str "1")) (ac (ls (ac (vr 0) an)) (ac (tp (ac (vr 0) an)) an)))))))))))))))) (gn 1))
    (sret (o2 addD (vr 1) (ls (ac (o2 addD (o2 powD (cn (.int 10)) (cn (.int 30))) (vr 0)) an)))))
def f__law_others : Fn := fnB 2 b__law_others
theorem sc__law_others : FnScope ["old", "some"] ["old"] (defScope st__law_others) := ⟨rfl, rfl, rfl, by decide +kernel, rfl, by decide +kernel, by decide +kernel⟩
theorem l__law_others_some : OkL (defScope st__law_others) "some" := ⟨by decide +kernel⟩
theorem v__law_others_old : OkV (defScope st__law_others) "old" := ⟨by decide +kernel⟩
theorem v__law_others_some : OkV (defScope st__law_others) "some" := ⟨by decide +kernel⟩
set_option maxHeartbeats 4000000 in
theorem cal__law_others (T : Txt K mg) (d : Dn K mg "_law_others" st__law_others ["old"]) : Cal P w K mg base "_law_others" ["old"] f__law_others 1 := by
  have Sc := sc__law_others
  refine cal_of ["old", "some"] 0 b__law_others rfl d Sc fun f cdv A outer s H E hr => ?_
  conv => arg 3; whnf
  refine GSs.h ?_
  exact (gss_cons (gset 1 Sc.nd l__law_others_some (ge_lst (ga_cons (ge_add (gv 0 v__law_others_old) ge_int) (ga_cons (ge_sub (gv 0 v__law_others_old) ge_int) (ga_cons ge_int (ga_cons ge_int (ga_cons ge_int (ga_cons ge_int (ga_cons ge_int (ga_cons ge_int (ga_cons (ge_sub ge_int ge_int) (ga_cons (ge_eq hr.units (gv 0 v__law_others_old) ge_int) (ga_cons (ge_gt (gv 0 v__law_others_old) ge_int) (ga_cons ge_non (ga_cons ge_str (ga_cons (ge_lst (ga_cons (gv 0 v__law_others_old) ga_nil se_Name)) (ga_cons (ge_tup (ga_cons (gv 0 v__law_others_old) ga_nil se_Name)) ga_nil se_Tuple) se_List) se_Constant) se_Constant) se_Compare) se_Compare) se_BinOp) se_Constant) se_Constant) se_Constant) se_Constant) se_Constant) se_Constant) se_BinOp) se_BinOp)))
    (gss_one (gs_ret (ge_add (gv 1 v__law_others_some) (ge_lst (ga_cons (ge_add (ge_pow ge_int ge_int) (gv 0 v__law_others_old)) ga_nil se_BinOp))))))
def lb__law_things_1 : Sv := (sq (sa (cl 2 (noExc f__law_take) (ac (vr 0) (ac (cn (.int 3)) an))) (gn 9))
    (sq (sa (cl 2 (noExc f__law_take) (ac (vr 0) (ac (o2 addD (vr 6) (cn (.int 1))) an))) (gn 10))
    (sx (mt appD (vr 7) (ac (cl 4 (noExc f__law_other) (ac (vr 1) (ac (vr 9) (ac (vr 10) (ac (o2 getD (cl 1 (noExc f__law_others) (ac (o2 getD (o2 getD (vr 1) (vr 9)) (vr 10)) an)) (cl 2 (noExc f__law_take) (ac (vr 0) (ac (cn (.int 16)) an)))) an))))) an)))))
def lb__law_things_2 : Sv := (sa (o2 addD (vr 7) (ls (ac (cl 4 (noExc f__law_other) (ac (vr 1) (ac (vr 9) (ac (vr 10) (ac (vr 2) an))))) (ac (cl 4 (noExc f__law_other) (ac (vr 1) (ac (vr 9) (ac (vr 10) (ac (o2 addD (vr 2) (cn (.int 1))) an))))) an)))) (gn 7))
def b__law_things : Sv := (sq (sa (vr 1) (gt (gcons (gn 3) (gcons (gn 4) (gcons (gn 5) gnil))) 3))
    (sq (sa (o2 subD (b1 lenD (ac (vr 3) an)) (cn (.int 1))) (gn 6))
    (sq (sa (ls (ac (vr 1) an)) (gn 7))
    (sq (sfor (ir1 (ac (cn (.int 12)) an)) (gn 8) lb__law_things_1)
    (sq (sfor (isrc (ls (ac (tp (ac (cn (.int 0)) (ac (cn (.int 1)) an))) (ac (tp (ac (vr 6) (ac (cn (.int 2)) an))) an)))) (gt (gcons (gn 10) (gcons (gn 9) gnil)) 2) lb__law_things_2)
    (sq (sa (o2 addD (vr 7) (ls (ac (cl 4 (noExc f__law_other) (ac (vr 1) (ac (cn (.int 1)) (ac (vr 6) (ac (cn (.int 1)) an))))) (ac (cl 4 (noExc f__law_other) (ac (vr 1) (ac (cn (.int 2)) (ac (cn (.int 0)) (ac (cn (.int 1)) an))))) (ac (b1 listD (ac (vr 1) an)) (ac (sl2 (vr 1) onone (osome (cn (.int 2)))) an)))))) (gn 7))
    (sq (sa (o2 addD (vr 7) (ls (ac (b1 tupD (ac (cmp (isrc (vr 1)) [none] (gn 0) ttrue (sl2 (vr 0) onone (osome (o1 negD (cn (.int 1)))))) an)) (ac (b1 tupD (ac (cmp (isrc (vr 1)) [none] (gn 0) ttrue (o2 addD (vr 0) (tp (ac (cn (.int 0)) an)))) an)) (ac (tp (ac (tp an) (ac (tp an) (ac (tp an) an)))) an))))) (gn 7))
    (sq (sa (o2 addD (vr 7) (ls (ac (tp (ac (sl2 (vr 3) onone (osome (o1 negD (cn (.int 1))))) (ac (vr 4) (ac (vr 5) an)))) (ac (tp (ac (vr 3) (ac (o2 addD (vr 4) (tp (ac (cn (.int 0)) an))) (ac (vr 5) an)))) (ac (tp (ac (vr 3) (ac (vr 4) (ac (o2 addD (vr 5) (tp (ac (cn (.int 0)) an))) an)))) an))))) (gn 7))
    (sq (sa (o2 addD (o2 addD (vr 7) (ls (ac (o2 addD (vr 1) (tp (ac (vr 5) an))) an))) (cmp (ir1 (ac (cn (.int 8)) an)) [none, some 0, some 1] (gn 0) ttrue (cl 2 (noExc f__law_else) (ac (vr 1) (ac (vr 2) an))))) (gn 7))
    (sq (sa (o2 addD (vr 7) (ls (ac (tp (ac (o2 addD (vr 3) (tp (ac (cn (.int 0)) an))) (ac (vr 4) (ac (vr 5) an)))) (ac (tp (ac (vr 3) (ac (sl2 (vr 4) onone (osome (o1 negD (cn (.int 1))))) (ac (vr 5) an)))) (ac (tp (ac (vr 3) (ac (vr 4) (ac (sl2 (vr 5) onone (osome (o1 negD (cn (.int 1))))) an)))) an))))) (gn 7))
    (sq (sa (o2 addD (vr 7) (ls (ac (tp (ac (b1 listD (ac (vr 3) an)) (ac (vr 4) (ac (vr 5) an)))) (ac (tp (ac (vr 3) (ac (b1 listD (ac (vr 4) an)) (ac (vr 5) an)))) (ac (tp (ac (vr 3) (ac (vr 4) (ac (b1 listD (ac (vr 5) an)) an)))) an))))) (gn 7))
    (sret (o2 addD (vr 7) (ls (ac (tp (ac (vr 3) (ac (vr 4) (ac (cn .non) an)))) (ac (tp (ac (vr 3) (ac (vr 4) (ac (cn (.int 0)) an)))) (ac (tp (ac (vr 1) an)) (ac (tp an) (ac (cn .non) (ac (cn (.bl true)) (ac (cn (.str "")) (ac (cn (.int 0)) (ac (ls (ac (vr 3) (ac (vr 4) an))) an)))))))))))))))))))))))
def f__law_things : Fn := fnB 11 b__law_things
theorem sc__law_things : FnScope ["tape", "house", "crowd", "levels", "rights", "lefts", "last", "things", "k", "row", "at"] ["tape", "house", "crowd"] (defScope st__law_things) := ⟨rfl, rfl, rfl, by decide +kernel, rfl, by decide +kernel, by decide +kernel⟩
theorem g__law_things__law_other : OkG (defScope st__law_things) "_law_other" := ⟨by decide +kernel⟩
theorem g__law_things__law_others : OkG (defScope st__law_things) "_law_others" := ⟨by decide +kernel⟩
theorem g__law_things__law_take : OkG (defScope st__law_things) "_law_take" := ⟨by decide +kernel⟩
theorem g__law_things_len : OkG (defScope st__law_things) "len" := ⟨by decide +kernel⟩
theorem g__law_things_list : OkG (defScope st__law_things) "list" := ⟨by decide +kernel⟩
theorem g__law_things_range : OkG (defScope st__law_things) "range" := ⟨by decide +kernel⟩
theorem g__law_things_tuple : OkG (defScope st__law_things) "tuple" := ⟨by decide +kernel⟩
theorem l__law_things_at : OkL (defScope st__law_things) "at" := ⟨by decide +kernel⟩
theorem l__law_things_k : OkL (defScope st__law_things) "k" := ⟨by decide +kernel⟩
theorem l__law_things_last : OkL (defScope st__law_things) "last" := ⟨by decide +kernel⟩
theorem l__law_things_lefts : OkL (defScope st__law_things) "lefts" := ⟨by decide +kernel⟩
theorem l__law_things_levels : OkL (defScope st__law_things) "levels" := ⟨by decide +kernel⟩
theorem l__law_things_rights : OkL (defScope st__law_things) "rights" := ⟨by decide +kernel⟩
theorem l__law_things_row : OkL (defScope st__law_things) "row" := ⟨by decide +kernel⟩
theorem l__law_things_things : OkL (defScope st__law_things) "things" := ⟨by decide +kernel⟩
theorem v__law_things_at : OkV (defScope st__law_things) "at" := ⟨by decide +kernel⟩
theorem v__law_things_crowd : OkV (defScope st__law_things) "crowd" := ⟨by decide +kernel⟩
theorem v__law_things_house : OkV (defScope st__law_things) "house" := ⟨by decide +kernel⟩
theorem v__law_things_last : OkV (defScope st__law_things) "last" := ⟨by decide +kernel⟩
theorem v__law_things_lefts : OkV (defScope st__law_things) "lefts" := ⟨by decide +kernel⟩
theorem v__law_things_levels : OkV (defScope st__law_things) "levels" := ⟨by decide +kernel⟩
theorem v__law_things_rights : OkV (defScope st__law_things) "rights" := ⟨by decide +kernel⟩
theorem v__law_things_row : OkV (defScope st__law_things) "row" := ⟨by decide +kernel⟩
theorem v__law_things_tape : OkV (defScope st__law_things) "tape" := ⟨by decide +kernel⟩
theorem v__law_things_things : OkV (defScope st__law_things) "things" := ⟨by decide +kernel⟩
theorem p__law_else : plainN "_law_else" = true := by decide +kernel
theorem p__law_others : plainN "_law_others" = true := by decide +kernel
set_option maxHeartbeats 4000000 in
theorem cal__law_things (T : Txt K mg) (d : Dn K mg "_law_things" st__law_things ["tape", "house", "crowd"]) (C__law_else : Cal P w K mg base "_law_else" ["tape", "house"] f__law_else 9) (C__law_other : Cal P w K mg base "_law_other" ["house", "row", "at", "what"] f__law_other 2) (C__law_others : Cal P w K mg base "_law_others" ["old"] f__law_others 1) (C__law_take : Cal P w K mg base "_law_take" ["tape", "many"] f__law_take 2) : Cal P w K mg base "_law_things" ["tape", "house", "crowd"] f__law_things 10 := by
  have Sc := sc__law_things
  refine cal_of ["tape", "house", "crowd", "levels", "rights", "lefts", "last", "things", "k", "row", "at"] 9 b__law_things rfl d Sc fun f cdv A outer s H E hr => ?_
  conv => arg 3; whnf
  refine GSs.h ?_
  exact (gss_cons (gs_asg (gv 1 v__law_things_house) (gg_tup rfl (ggs_cons (ggn 3 Sc.nd l__law_things_levels) (ggs_cons (ggn 4 Sc.nd l__law_things_rights) (ggs_cons (ggn 5 Sc.nd l__law_things_lefts) ggs_nil)))))
    (gss_cons (gset 6 Sc.nd l__law_things_last (ge_sub (ge_len (gl g__law_things_len) T.b_len (ga_cons (gv 3 v__law_things_levels) ga_nil se_Name)) ge_int))
    (gss_cons (gset 7 Sc.nd l__law_things_things (ge_lst (ga_cons (gv 1 v__law_things_house) ga_nil se_Name)))
    (gss_cons (gs_for PassesOwn.never rfl (gi_range1 (gl g__law_things_range) T.b_range (ga_cons ge_int ga_nil se_Constant)) (ggn 8 Sc.nd l__law_things_k)
    (gss_cons (gset 9 Sc.nd l__law_things_row (gown C__law_take hr (gl g__law_things__law_take) p__law_take (ga_cons (gv 0 v__law_things_tape) (ga_cons ge_int ga_nil se_Constant) se_Name)))
    (gss_cons (gset 10 Sc.nd l__law_things_at (gown C__law_take hr (gl g__law_things__law_take) p__law_take (ga_cons (gv 0 v__law_things_tape) (ga_cons (ge_add (gv 6 v__law_things_last) ge_int) ga_nil se_BinOp) se_Name)))
    (gss_one (gs_expr (ge_append (gv 7 v__law_things_things) (ga_cons (gown C__law_other hr (gl g__law_things__law_other) p__law_other (ga_cons (gv 1 v__law_things_house) (ga_cons (gv 9 v__law_things_row) (ga_cons (gv 10 v__law_things_at) (ga_cons (ge_get (gown C__law_others hr (gl g__law_things__law_others) p__law_others (ga_cons (ge_get (ge_get (gv 1 v__law_things_house) (gv 9 v__law_things_row)) (gv 10 v__law_things_at)) ga_nil se_Subscript)) (gown C__law_take hr (gl g__law_things__law_take) p__law_take (ga_cons (gv 0 v__law_things_tape) (ga_cons ge_int ga_nil se_Constant) se_Name))) ga_nil se_Subscript) se_Name) se_Name) se_Name)) ga_nil se_Call)))))))
    (gss_cons (gs_for PassesOwn.never rfl (gi_seq (ge_lst (ga_cons (ge_tup (ga_cons ge_int (ga_cons ge_int ga_nil se_Constant) se_Constant)) (ga_cons (ge_tup (ga_cons (gv 6 v__law_things_last) (ga_cons ge_int ga_nil se_Constant) se_Name)) ga_nil se_Tuple) se_Tuple))) (gg_tup rfl (ggs_cons (ggn 10 Sc.nd l__law_things_at) (ggs_cons (ggn 9 Sc.nd l__law_things_row) ggs_nil)))
    (gss_one (gset 7 Sc.nd l__law_things_things (ge_add (gv 7 v__law_things_things) (ge_lst (ga_cons (gown C__law_other hr (gl g__law_things__law_other) p__law_other (ga_cons (gv 1 v__law_things_house) (ga_cons (gv 9 v__law_things_row) (ga_cons (gv 10 v__law_things_at) (ga_cons (gv 2 v__law_things_crowd) ga_nil se_Name) se_Name) se_Name) se_Name)) (ga_cons (gown C__law_other hr (gl g__law_things__law_other) p__law_other (ga_cons (gv 1 v__law_things_house) (ga_cons (gv 9 v__law_things_row) (ga_cons (gv 10 v__law_things_at) (ga_cons (ge_add (gv 2 v__law_things_crowd) ge_int) ga_nil se_BinOp) se_Name) se_Name) se_Name)) ga_nil se_Call) se_Call))))))
    (gss_cons (gset 7 Sc.nd l__law_things_things (ge_add (gv 7 v__law_things_things) (ge_lst (ga_cons (gown C__law_other hr (gl g__law_things__law_other) p__law_other (ga_cons (gv 1 v__law_things_house) (ga_cons ge_int (ga_cons (gv 6 v__law_things_last) (ga_cons ge_int ga_nil se_Constant) se_Name) se_Constant) se_Name)) (ga_cons (gown C__law_other hr (gl g__law_things__law_other) p__law_other (ga_cons (gv 1 v__law_things_house) (ga_cons ge_int (ga_cons ge_int (ga_cons ge_int ga_nil se_Constant) se_Constant) se_Constant) se_Name)) (ga_cons (ge_list (gl g__law_things_list) T.b_list (ga_cons (gv 1 v__law_things_house) ga_nil se_Name)) (ga_cons (ge_slice2 (gv 1 v__law_things_house) go_none (go_some ge_int)) ga_nil se_Subscript) se_Call) se_Call) se_Call))))
    (gss_cons (gset 7 Sc.nd l__law_things_things (ge_add (gv 7 v__law_things_things) (ge_lst (ga_cons (ge_tuple (gl g__law_things_tuple) T.b_tuple (ga_cons (gcomp (sc := defScope st__law_things) (N := ["tape", "house", "crowd", "levels", "rights", "lefts", "last", "things", "k", "row", "at"]) rfl rfl (N' := ["some"]) (pk := [none]) ⟨rfl, by decide +kernel, by decide +kernel, by decide +kernel, rfl, by decide +kernel⟩ rfl (gi_seq (gv 1 v__law_things_house)) (fun cl s2 H2 C fp => (ggnB 0 (by decide +kernel) (by decide +kernel))) (fun cl s2 H2 C fp => gts_nil) (fun cl s2 H2 C fp => (ge_slice2 (gvB 0 (by decide +kernel)) go_none (go_some (ge_neg ge_int))))) ga_nil se_ListComp)) (ga_cons (ge_tuple (gl g__law_things_tuple) T.b_tuple (ga_cons (gcomp (sc := defScope st__law_things) (N := ["tape", "house", "crowd", "levels", "rights", "lefts", "last", "things", "k", "row", "at"]) rfl rfl (N' := ["some"]) (pk := [none]) ⟨rfl, by decide +kernel, by decide +kernel, by decide +kernel, rfl, by decide +kernel⟩ rfl (gi_seq (gv 1 v__law_things_house)) (fun cl s2 H2 C fp => (ggnB 0 (by decide +kernel) (by decide +kernel))) (fun cl s2 H2 C fp => gts_nil) (fun cl s2 H2 C fp => (ge_add (gvB 0 (by decide +kernel)) (ge_tup (ga_cons ge_int ga_nil se_Constant))))) ga_nil se_ListComp)) (ga_cons (ge_tup (ga_cons (ge_tup ga_nil) (ga_cons (ge_tup ga_nil) (ga_cons (ge_tup ga_nil) ga_nil se_Tuple) se_Tuple) se_Tuple)) ga_nil se_Tuple) se_Call) se_Call))))
    (gss_cons (gset 7 Sc.nd l__law_things_things (ge_add (gv 7 v__law_things_things) (ge_lst (ga_cons (ge_tup (ga_cons (ge_slice2 (gv 3 v__law_things_levels) go_none (go_some (ge_neg ge_int))) (ga_cons (gv 4 v__law_things_rights) (ga_cons (gv 5 v__law_things_lefts) ga_nil se_Name) se_Name) se_Subscript)) (ga_cons (ge_tup (ga_cons (gv 3 v__law_things_levels) (ga_cons (ge_add (gv 4 v__law_things_rights) (ge_tup (ga_cons ge_int ga_nil se_Constant))) (ga_cons (gv 5 v__law_things_lefts) ga_nil se_Name) se_BinOp) se_Name)) (ga_cons (ge_tup (ga_cons (gv 3 v__law_things_levels) (ga_cons (gv 4 v__law_things_rights) (ga_cons (ge_add (gv 5 v__law_things_lefts) (ge_tup (ga_cons ge_int ga_nil se_Constant))) ga_nil se_BinOp) se_Name) se_Name)) ga_nil se_Tuple) se_Tuple) se_Tuple))))
    (gss_cons (gset 7 Sc.nd l__law_things_things (ge_add (ge_add (gv 7 v__law_things_things) (ge_lst (ga_cons (ge_add (gv 1 v__law_things_house) (ge_tup (ga_cons (gv 5 v__law_things_lefts) ga_nil se_Name))) ga_nil se_BinOp))) (gcomp (sc := defScope st__law_things) (N := ["tape", "house", "crowd", "levels", "rights", "lefts", "last", "things", "k", "row", "at"]) rfl rfl (N' := ["k", "tape", "house"]) (pk := [none, some 0, some 1]) ⟨rfl, by decide +kernel, by decide +kernel, by decide +kernel, rfl, by decide +kernel⟩ rfl (gi_range1 (gl g__law_things_range) T.b_range (ga_cons ge_int ga_nil se_Constant)) (fun cl s2 H2 C fp => (ggnB 0 (by decide +kernel) (by decide +kernel))) (fun cl s2 H2 C fp => gts_nil) (fun cl s2 H2 C fp => (gown C__law_else hr (glB (by decide +kernel)) p__law_else (ga_cons (gvB 1 (by decide +kernel)) (ga_cons (gvB 2 (by decide +kernel)) ga_nil se_Name) se_Name))))))
    (gss_cons (gset 7 Sc.nd l__law_things_things (ge_add (gv 7 v__law_things_things) (ge_lst (ga_cons (ge_tup (ga_cons (ge_add (gv 3 v__law_things_levels) (ge_tup (ga_cons ge_int ga_nil se_Constant))) (ga_cons (gv 4 v__law_things_rights) (ga_cons (gv 5 v__law_things_lefts) ga_nil se_Name) se_Name) se_BinOp)) (ga_cons (ge_tup (ga_cons (gv 3 v__law_things_levels) (ga_cons (ge_slice2 (gv 4 v__law_things_rights) go_none (go_some (ge_neg ge_int))) (ga_cons (gv 5 v__law_things_lefts) ga_nil se_Name) se_Subscript) se_Name)) (ga_cons (ge_tup (ga_cons (gv 3 v__law_things_levels) (ga_cons (gv 4 v__law_things_rights) (ga_cons (ge_slice2 (gv 5 v__law_things_lefts) go_none (go_some (ge_neg ge_int))) ga_nil se_Subscript) se_Name) se_Name)) ga_nil se_Tuple) se_Tuple) se_Tuple))))
    (gss_cons (gset 7 Sc.nd l__law_things_things (ge_add (gv 7 v__law_things_things) (ge_lst (ga_cons (ge_tup (ga_cons (ge_list (gl g__law_things_list) T.b_list (ga_cons (gv 3 v__law_things_levels) ga_nil se_Name)) (ga_cons (gv 4 v__law_things_rights) (ga_cons (gv 5 v__law_things_lefts) ga_nil se_Name) se_Name) se_Call)) (ga_cons (ge_tup (ga_cons (gv 3 v__law_things_levels) (ga_cons (ge_list (gl g__law_things_list) T.b_list (ga_cons (gv 4 v__law_things_rights) ga_nil se_Name)) (ga_cons (gv 5 v__law_things_lefts) ga_nil se_Name) se_Call) se_Name)) (ga_cons (ge_tup (ga_cons (gv 3 v__law_things_levels) (ga_cons (gv 4 v__law_things_rights) (ga_cons (ge_list (gl g__law_things_list) T.b_list (ga_cons (gv 5 v__law_things_lefts) ga_nil se_Name)) ga_nil se_Call) se_Name) se_Name)) ga_nil se_Tuple) se_Tuple) se_Tuple))))
    (gss_one (gs_ret (ge_add (gv 7 v__law_things_things) (ge_lst (ga_cons (ge_tup (ga_cons (gv 3 v__law_things_levels) (ga_cons (gv 4 v__law_things_rights) (ga_cons ge_non ga_nil se_Constant) se_Name) se_Name)) (ga_cons (ge_tup (ga_cons (gv 3 v__law_things_levels) (ga_cons (gv 4 v__law_things_rights) (ga_cons ge_int ga_nil se_Constant) se_Name) se_Name)) (ga_cons (ge_tup (ga_cons (gv 1 v__law_things_house) ga_nil se_Name)) (ga_cons (ge_tup ga_nil) (ga_cons ge_non (ga_cons ge_bl (ga_cons ge_str (ga_cons ge_int (ga_cons (ge_lst (ga_cons (gv 3 v__law_things_levels) (ga_cons (gv 4 v__law_things_rights) ga_nil se_Name) se_Name)) ga_nil se_List) se_Constant) se_Constant) se_Constant) se_Constant) se_Tuple) se_Tuple) se_Tuple) se_Tuple))))))))))))))))
def b__law_is_row : Sv := (sq (sif (to (tn (tt (o1 (isD "tuple") (vr 0)))) (tb (o2 neD (b1 lenD (ac (vr 0) an)) (vr 1))))
    (sret (cn (.bl false)))
    skip)
    (sret (b1 allD (ac (cmp (isrc (vr 0)) [none] (gn 0) ttrue (va (o1 (isD "int") (vr 0)) (va (vn (o1 (isD "bool") (vr 0))) (o2 geD (vr 0) (cn (.int 0)))))) an))))
def f__law_is_row : Fn := fnB 2 b__law_is_row
theorem sc__law_is_row : FnScope ["thing", "many"] ["thing", "many"] (defScope st__law_is_row) := ⟨rfl, rfl, rfl, by decide +kernel, rfl, by decide +kernel, by decide +kernel⟩
theorem g__law_is_row_all : OkG (defScope st__law_is_row) "all" := ⟨by decide +kernel⟩
theorem g__law_is_row_isinstance : OkG (defScope st__law_is_row) "isinstance" := ⟨by decide +kernel⟩
theorem g__law_is_row_len : OkG (defScope st__law_is_row) "len" := ⟨by decide +kernel⟩
theorem g__law_is_row_tuple : OkG (defScope st__law_is_row) "tuple" := ⟨by decide +kernel⟩
theorem v__law_is_row_many : OkV (defScope st__law_is_row) "many" := ⟨by decide +kernel⟩
theorem v__law_is_row_thing : OkV (defScope st__law_is_row) "thing" := ⟨by decide +kernel⟩
set_option maxHeartbeats 4000000 in
theorem cal__law_is_row (T : Txt K mg) (d : Dn K mg "_law_is_row" st__law_is_row ["thing", "many"]) : Cal P w K mg base "_law_is_row" ["thing", "many"] f__law_is_row 1 := by
  have Sc := sc__law_is_row
  refine cal_of ["thing", "many"] 0 b__law_is_row rfl d Sc fun f cdv A outer s H E hr => ?_
  conv => arg 3; whnf
  refine GSs.h ?_
  exact (gss_cons (gs_if (GW.jt (gw_or (gt_not (gt_val (ge_isi kit_tuple (by rfl) (by decide +kernel) (by decide +kernel) (gl g__law_is_row_isinstance) T.b_isinstance (gl g__law_is_row_tuple) T.b_tuple (gv 0 v__law_is_row_thing) (by rfl) (by rfl) (by rfl)))) (gw_or1 (gt_ne hr.units (ge_len (gl g__law_is_row_len) T.b_len (ga_cons (gv 0 v__law_is_row_thing) ga_nil se_Name)) (gv 1 v__law_is_row_many)))))
    (gss_one (gs_ret ge_bl))
    gss_nil)
    (gss_one (gs_ret (ge_all rfl (gl g__law_is_row_all) T.b_all (ga_cons (gcomp (sc := defScope st__law_is_row) (N := ["thing", "many"]) rfl rfl (N' := ["one"]) (pk := [none]) ⟨rfl, by decide +kernel, by decide +kernel, by decide +kernel, rfl, by decide +kernel⟩ rfl (gi_seq (gv 0 v__law_is_row_thing)) (fun cl s2 H2 C fp => (ggnB 0 (by decide +kernel) (by decide +kernel))) (fun cl s2 H2 C fp => gts_nil) (fun cl s2 H2 C fp => (ge_and (ge_isi kit_int (by rfl) (by decide +kernel) (by decide +kernel) (glB (by decide +kernel)) T.b_isinstance (glB (by decide +kernel)) T.b_int (gvB 0 (by decide +kernel)) (by rfl) (by rfl) (by rfl)) (ge_and (ge_not (ge_isi kit_bool (by rfl) (by decide +kernel) (by decide +kernel) (glB (by decide +kernel)) T.b_isinstance (glB (by decide +kernel)) T.b_bool (gvB 0 (by decide +kernel)) (by rfl) (by rfl) (by rfl))) (ge_one (ge_ge (gvB 0 (by decide +kernel)) ge_int)))))) ga_nil se_ListComp)))))
def b__law_fits : Sv := (sq (sif (tb (o2 eqD (o2 getD (vr 0) (cn (.int 0))) (cn (.str "end"))))
    (sret (o2 eqD (vr 1) (cn (.int 0))))
    skip)
    (sq (sif (tb (o2 eqD (o2 getD (vr 0) (cn (.int 0))) (cn (.str "chamber"))))
    (sret (va (o2 leD (vr 1) (cn (.int 1))) (o2 leD (vr 2) (cn (.int 1)))))
    skip)
    (sret (va (o2 leD (vr 1) (o2 getD (vr 0) (cn (.int 1)))) (o2 leD (vr 2) (o2 getD (vr 0) (cn (.int 3))))))))
def f__law_fits : Fn := fnB 3 b__law_fits
theorem sc__law_fits : FnScope ["place", "level", "many"] ["place", "level", "many"] (defScope st__law_fits) := ⟨rfl, rfl, rfl, by decide +kernel, rfl, by decide +kernel, by decide +kernel⟩
theorem v__law_fits_level : OkV (defScope st__law_fits) "level" := ⟨by decide +kernel⟩
theorem v__law_fits_many : OkV (defScope st__law_fits) "many" := ⟨by decide +kernel⟩
theorem v__law_fits_place : OkV (defScope st__law_fits) "place" := ⟨by decide +kernel⟩
set_option maxHeartbeats 4000000 in
theorem cal__law_fits (T : Txt K mg) (d : Dn K mg "_law_fits" st__law_fits ["place", "level", "many"]) : Cal P w K mg base "_law_fits" ["place", "level", "many"] f__law_fits 1 := by
  have Sc := sc__law_fits
  refine cal_of ["place", "level", "many"] 0 b__law_fits rfl d Sc fun f cdv A outer s H E hr => ?_
  conv => arg 3; whnf
  refine GSs.h ?_
  exact (gss_cons (gs_if (gt_eq hr.units (ge_get (gv 0 v__law_fits_place) ge_int) ge_str)
    (gss_one (gs_ret (ge_eq hr.units (gv 1 v__law_fits_level) ge_int)))
    gss_nil)
    (gss_cons (gs_if (gt_eq hr.units (ge_get (gv 0 v__law_fits_place) ge_int) ge_str)
    (gss_one (gs_ret (ge_and (ge_le (gv 1 v__law_fits_level) ge_int) (ge_one (ge_le (gv 2 v__law_fits_many) ge_int)))))
    gss_nil)
    (gss_one (gs_ret (ge_and (ge_le (gv 1 v__law_fits_level) (ge_get (gv 0 v__law_fits_place) ge_int)) (ge_one (ge_le (gv 2 v__law_fits_many) (ge_get (gv 0 v__law_fits_place) ge_int))))))))
def lb__law_due_1 : Sv := (sif (tn (tt (cl 3 (noExc f__law_fits) (ac (o2 getD (o2 getD (vr 0) (cn (.int 0))) (vr 6)) (ac (o2 getD (vr 3) (vr 6)) (ac (o2 addD (o2 getD (vr 4) (vr 6)) (o2 getD (vr 5) (vr 6))) an))))))
    (sret (cn (.bl false)))
    skip)
def b__law_due : Sv := (sq (sif (to (tn (tt (o1 (isD "tuple") (vr 2)))) (tb (o2 neD (b1 lenD (ac (vr 2) an)) (cn (.int 3)))))
    (sret (cn (.bl false)))
    skip)
    (sq (sif (tn (tt (b1 allD (ac (cmp (isrc (vr 2)) [none, some 0] (gn 0) ttrue (cl 2 (noExc f__law_is_row) (ac (vr 0) (ac (b1 lenD (ac (o2 getD (vr 1) (cn (.int 0))) an)) an)))) an))))
    (sret (cn (.bl false)))
    skip)
    (sq (sa (vr 2) (gt (gcons (gn 3) (gcons (gn 4) (gcons (gn 5) gnil))) 3))
    (sq (sfor (ir1 (ac (b1 lenD (ac (o2 getD (vr 0) (cn (.int 0))) an)) an)) (gn 6) lb__law_due_1)
    (sq (sif (to (tb (o2 gtD (o2 getD (vr 4) (cn (.int 0))) (vr 1))) (tb (o2 gtD (o2 getD (vr 5) (o1 negD (cn (.int 1)))) (vr 1))))
    (sret (cn (.bl false)))
    skip)
    (sret (va (o2 eqD (o2 getD (vr 4) (o1 negD (cn (.int 1)))) (cn (.int 0))) (o2 eqD (o2 getD (vr 5) (cn (.int 0))) (cn (.int 0))))))))))
def f__law_due : Fn := fnB 7 b__law_due
theorem sc__law_due : FnScope ["canal", "crowd", "thing", "levels", "rights", "lefts", "at"] ["canal", "crowd", "thing"] (defScope st__law_due) := ⟨rfl, rfl, rfl, by decide +kernel, rfl, by decide +kernel, by decide +kernel⟩
theorem g__law_due__law_fits : OkG (defScope st__law_due) "_law_fits" := ⟨by decide +kernel⟩
theorem g__law_due_all : OkG (defScope st__law_due) "all" := ⟨by decide +kernel⟩
theorem g__law_due_isinstance : OkG (defScope st__law_due) "isinstance" := ⟨by decide +kernel⟩
theorem g__law_due_len : OkG (defScope st__law_due) "len" := ⟨by decide +kernel⟩
theorem g__law_due_range : OkG (defScope st__law_due) "range" := ⟨by decide +kernel⟩
theorem g__law_due_tuple : OkG (defScope st__law_due) "tuple" := ⟨by decide +kernel⟩
theorem l__law_due_at : OkL (defScope st__law_due) "at" := ⟨by decide +kernel⟩
theorem l__law_due_lefts : OkL (defScope st__law_due) "lefts" := ⟨by decide +kernel⟩
theorem l__law_due_levels : OkL (defScope st__law_due) "levels" := ⟨by decide +kernel⟩
theorem l__law_due_rights : OkL (defScope st__law_due) "rights" := ⟨by decide +kernel⟩
theorem v__law_due_at : OkV (defScope st__law_due) "at" := ⟨by decide +kernel⟩
theorem v__law_due_canal : OkV (defScope st__law_due) "canal" := ⟨by decide +kernel⟩
theorem v__law_due_crowd : OkV (defScope st__law_due) "crowd" := ⟨by decide +kernel⟩
theorem v__law_due_lefts : OkV (defScope st__law_due) "lefts" := ⟨by decide +kernel⟩
theorem v__law_due_levels : OkV (defScope st__law_due) "levels" := ⟨by decide +kernel⟩
theorem v__law_due_rights : OkV (defScope st__law_due) "rights" := ⟨by decide +kernel⟩
theorem v__law_due_thing : OkV (defScope st__law_due) "thing" := ⟨by decide +kernel⟩
theorem p__law_fits : plainN "_law_fits" = true := by decide +kernel
theorem p__law_is_row : plainN "_law_is_row" = true := by decide +kernel
set_option maxHeartbeats 4000000 in
theorem cal__law_due (T : Txt K mg) (d : Dn K mg "_law_due" st__law_due ["canal", "crowd", "thing"]) (C__law_fits : Cal P w K mg base "_law_fits" ["place", "level", "many"] f__law_fits 1) (C__law_is_row : Cal P w K mg base "_law_is_row" ["thing", "many"] f__law_is_row 1) : Cal P w K mg base "_law_due" ["canal", "crowd", "thing"] f__law_due 2 := by
  have Sc := sc__law_due
  refine cal_of ["canal", "crowd", "thing", "levels", "rights", "lefts", "at"] 1 b__law_due rfl d Sc fun f cdv A outer s H E hr => ?_
  conv => arg 3; whnf
  refine GSs.h ?_
  exact (gss_cons (gs_if (GW.jt (gw_or (gt_not (gt_val (ge_isi kit_tuple (by rfl) (by decide +kernel) (by decide +kernel) (gl g__law_due_isinstance) T.b_isinstance (gl g__law_due_tuple) T.b_tuple (gv 2 v__law_due_thing) (by rfl) (by rfl) (by rfl)))) (gw_or1 (gt_ne hr.units (ge_len (gl g__law_due_len) T.b_len (ga_cons (gv 2 v__law_due_thing) ga_nil se_Name)) ge_int))))
    (gss_one (gs_ret ge_bl))
    gss_nil)
    (gss_cons (gs_if (gt_not (gt_val (ge_all rfl (gl g__law_due_all) T.b_all (ga_cons (gcomp (sc := defScope st__law_due) (N := ["canal", "crowd", "thing", "levels", "rights", "lefts", "at"]) rfl rfl (N' := ["row", "canal"]) (pk := [none, some 0]) ⟨rfl, by decide +kernel, by decide +kernel, by decide +kernel, rfl, by decide +kernel⟩ rfl (gi_seq (gv 2 v__law_due_thing)) (fun cl s2 H2 C fp => (ggnB 0 (by decide +kernel) (by decide +kernel))) (fun cl s2 H2 C fp => gts_nil) (fun cl s2 H2 C fp => (gown C__law_is_row hr (glB (by decide +kernel)) p__law_is_row (ga_cons (gvB 0 (by decide +kernel)) (ga_cons (ge_len (glB (by decide +kernel)) T.b_len (ga_cons (ge_get (gvB 1 (by decide +kernel)) ge_int) ga_nil se_Subscript)) ga_nil se_Call) se_Name)))) ga_nil se_ListComp))))
    (gss_one (gs_ret ge_bl))
    gss_nil)
    (gss_cons (gs_asg (gv 2 v__law_due_thing) (gg_tup rfl (ggs_cons (ggn 3 Sc.nd l__law_due_levels) (ggs_cons (ggn 4 Sc.nd l__law_due_rights) (ggs_cons (ggn 5 Sc.nd l__law_due_lefts) ggs_nil)))))
    (gss_cons (gs_for PassesOwn.never rfl (gi_range1 (gl g__law_due_range) T.b_range (ga_cons (ge_len (gl g__law_due_len) T.b_len (ga_cons (ge_get (gv 0 v__law_due_canal) ge_int) ga_nil se_Subscript)) ga_nil se_Call)) (ggn 6 Sc.nd l__law_due_at)
    (gss_one (gs_if (gt_not (gt_val (gown C__law_fits hr (gl g__law_due__law_fits) p__law_fits (ga_cons (ge_get (ge_get (gv 0 v__law_due_canal) ge_int) (gv 6 v__law_due_at)) (ga_cons (ge_get (gv 3 v__law_due_levels) (gv 6 v__law_due_at)) (ga_cons (ge_add (ge_get (gv 4 v__law_due_rights) (gv 6 v__law_due_at)) (ge_get (gv 5 v__law_due_lefts) (gv 6 v__law_due_at))) ga_nil se_BinOp) se_Subscript) se_Subscript))))
    (gss_one (gs_ret ge_bl))
    gss_nil)))
    (gss_cons (gs_if (GW.jt (gw_or (gt_gt (ge_get (gv 4 v__law_due_rights) ge_int) (gv 1 v__law_due_crowd)) (gw_or1 (gt_gt (ge_get (gv 5 v__law_due_lefts) (ge_neg ge_int)) (gv 1 v__law_due_crowd)))))
    (gss_one (gs_ret ge_bl))
    gss_nil)
    (gss_one (gs_ret (ge_and (ge_eq hr.units (ge_get (gv 4 v__law_due_rights) (ge_neg ge_int)) ge_int) (ge_one (ge_eq hr.units (ge_get (gv 5 v__law_due_lefts) ge_int) ge_int))))))))))
def lb_law_1 : Sv := (sq (sa (cl 3 (noExc f_is_house) (ac (vr 2) (ac (vr 3) (ac (vr 6) an)))) (gn 7))
    (sif (to (tn (tt (o1 (isD "bool") (vr 7)))) (tb (o2 neD (vr 7) (cl 3 (noExc f__law_due) (ac (vr 2) (ac (vr 3) (ac (vr 6) an)))))))
    (sret (cn (.bl false)))
    skip))
def b_law : Sv := (sq (sa (cl 1 (noExc f__law_tape) (ac (vr 0) an)) (gn 1))
    (sq (sa (cl 1 (noExc f__law_canal) (ac (vr 1) an)) (gn 2))
    (sq (sa (cl 2 (noExc f__law_take) (ac (vr 1) (ac (cn (.int 5)) an))) (gn 3))
    (sq (sa (cl 3 (noExc f__law_things) (ac (vr 1) (ac (cl 3 (noExc f__law_house) (ac (vr 1) (ac (vr 2) (ac (vr 3) an)))) (ac (vr 3) an)))) (gn 4))
    (sq (sa (b1 reprD (ac (vr 4) an)) (gn 5))
    (sq (sfor (isrc (vr 4)) (gn 6) lb_law_1)
    (sret (o2 eqD (b1 reprD (ac (vr 4) an)) (vr 5)))))))))
def f_law : Fn := fnB 8 b_law
theorem sc_law : FnScope ["script", "tape", "canal", "crowd", "things", "before", "thing", "found"] ["script"] (defScope st_law) := ⟨rfl, rfl, rfl, by decide +kernel, rfl, by decide +kernel, by decide +kernel⟩
theorem g_law__law_canal : OkG (defScope st_law) "_law_canal" := ⟨by decide +kernel⟩
theorem g_law__law_due : OkG (defScope st_law) "_law_due" := ⟨by decide +kernel⟩
theorem g_law__law_house : OkG (defScope st_law) "_law_house" := ⟨by decide +kernel⟩
theorem g_law__law_take : OkG (defScope st_law) "_law_take" := ⟨by decide +kernel⟩
theorem g_law__law_tape : OkG (defScope st_law) "_law_tape" := ⟨by decide +kernel⟩
theorem g_law__law_things : OkG (defScope st_law) "_law_things" := ⟨by decide +kernel⟩
theorem g_law_bool : OkG (defScope st_law) "bool" := ⟨by decide +kernel⟩
theorem g_law_is_house : OkG (defScope st_law) "is_house" := ⟨by decide +kernel⟩
theorem g_law_isinstance : OkG (defScope st_law) "isinstance" := ⟨by decide +kernel⟩
theorem g_law_repr : OkG (defScope st_law) "repr" := ⟨by decide +kernel⟩
theorem l_law_before : OkL (defScope st_law) "before" := ⟨by decide +kernel⟩
theorem l_law_canal : OkL (defScope st_law) "canal" := ⟨by decide +kernel⟩
theorem l_law_crowd : OkL (defScope st_law) "crowd" := ⟨by decide +kernel⟩
theorem l_law_found : OkL (defScope st_law) "found" := ⟨by decide +kernel⟩
theorem l_law_tape : OkL (defScope st_law) "tape" := ⟨by decide +kernel⟩
theorem l_law_thing : OkL (defScope st_law) "thing" := ⟨by decide +kernel⟩
theorem l_law_things : OkL (defScope st_law) "things" := ⟨by decide +kernel⟩
theorem v_law_before : OkV (defScope st_law) "before" := ⟨by decide +kernel⟩
theorem v_law_canal : OkV (defScope st_law) "canal" := ⟨by decide +kernel⟩
theorem v_law_crowd : OkV (defScope st_law) "crowd" := ⟨by decide +kernel⟩
theorem v_law_found : OkV (defScope st_law) "found" := ⟨by decide +kernel⟩
theorem v_law_script : OkV (defScope st_law) "script" := ⟨by decide +kernel⟩
theorem v_law_tape : OkV (defScope st_law) "tape" := ⟨by decide +kernel⟩
theorem v_law_thing : OkV (defScope st_law) "thing" := ⟨by decide +kernel⟩
theorem v_law_things : OkV (defScope st_law) "things" := ⟨by decide +kernel⟩
theorem p__law_canal : plainN "_law_canal" = true := by decide +kernel
theorem p__law_due : plainN "_law_due" = true := by decide +kernel
theorem p__law_house : plainN "_law_house" = true := by decide +kernel
theorem p__law_tape : plainN "_law_tape" = true := by decide +kernel
theorem p__law_things : plainN "_law_things" = true := by decide +kernel
theorem p_is_house : plainN "is_house" = true := by decide +kernel
set_option maxHeartbeats 4000000 in
theorem okl_law (T : Txt K mg) {f : Addr} {fd : FuncData} (F : Fun K "law" "law" st_law f fd) (C__law_canal : Cal P w K mg base "_law_canal" ["tape"] f__law_canal 4) (C__law_due : Cal P w K mg base "_law_due" ["canal", "crowd", "thing"] f__law_due 2) (C__law_house : Cal P w K mg base "_law_house" ["tape", "canal", "crowd"] f__law_house 3) (C__law_take : Cal P w K mg base "_law_take" ["tape", "many"] f__law_take 2) (C__law_tape : Cal P w K mg base "_law_tape" ["script"] f__law_tape 1) (C__law_things : Cal P w K mg base "_law_things" ["tape", "house", "crowd"] f__law_things 10) (C_is_house : Cal P w K mg base "is_house" ["canal", "crowd", "thing"] f_is_house 4) : FnOk P w K mg base CX0 11 f fd ["script"] (spD K 1 f_law) := by
  have Sc := sc_law
  refine fn_ok (b := b_law) F Sc fun cdv A outer s H E hr => ?_
  conv => arg 3; whnf
  refine GSs.h ?_
  exact (gss_cons (gset 1 Sc.nd l_law_tape (gown C__law_tape hr (gl g_law__law_tape) p__law_tape (ga_cons (gv 0 v_law_script) ga_nil se_Name)))
    (gss_cons (gset 2 Sc.nd l_law_canal (gown C__law_canal hr (gl g_law__law_canal) p__law_canal (ga_cons (gv 1 v_law_tape) ga_nil se_Name)))
    (gss_cons (gset 3 Sc.nd l_law_crowd (gown C__law_take hr (gl g_law__law_take) p__law_take (ga_cons (gv 1 v_law_tape) (ga_cons ge_int ga_nil se_Constant) se_Name)))
    (gss_cons (gset 4 Sc.nd l_law_things (gown C__law_things hr (gl g_law__law_things) p__law_things (ga_cons (gv 1 v_law_tape) (ga_cons (gown C__law_house hr (gl g_law__law_house) p__law_house (ga_cons (gv 1 v_law_tape) (ga_cons (gv 2 v_law_canal) (ga_cons (gv 3 v_law_crowd) ga_nil se_Name) se_Name) se_Name)) (ga_cons (gv 3 v_law_crowd) ga_nil se_Name) se_Call) se_Name)))
    (gss_cons (gset 5 Sc.nd l_law_before (ge_repr hr (gl g_law_repr) T.b_repr (ga_cons (gv 4 v_law_things) ga_nil se_Name)))
    (gss_cons (gs_for PassesOwn.never rfl (gi_seq (gv 4 v_law_things)) (ggn 6 Sc.nd l_law_thing)
    (gss_cons (gset 7 Sc.nd l_law_found (gown C_is_house hr (gl g_law_is_house) p_is_house (ga_cons (gv 2 v_law_canal) (ga_cons (gv 3 v_law_crowd) (ga_cons (gv 6 v_law_thing) ga_nil se_Name) se_Name) se_Name)))
    (gss_one (gs_if (GW.jt (gw_or (gt_not (gt_val (ge_isi kit_bool (by rfl) (by decide +kernel) (by decide +kernel) (gl g_law_isinstance) T.b_isinstance (gl g_law_bool) T.b_bool (gv 7 v_law_found) (by rfl) (by rfl) (by rfl)))) (gw_or1 (gt_ne hr.units (gv 7 v_law_found) (gown C__law_due hr (gl g_law__law_due) p__law_due (ga_cons (gv 2 v_law_canal) (ga_cons (gv 3 v_law_crowd) (ga_cons (gv 6 v_law_thing) ga_nil se_Name) se_Name) se_Name))))))
    (gss_one (gs_ret ge_bl))
    gss_nil))))
    (gss_one (gs_ret (ge_eq hr.units (ge_repr hr (gl g_law_repr) T.b_repr (ga_cons (gv 4 v_law_things) ga_nil se_Name)) (gv 5 v_law_before))))))))))
theorem allc (T : Txt K mg) (d_is_whole : Dn K mg "is_whole" st_is_whole ["thing"]) (d_is_tuple : Dn K mg "is_tuple" st_is_tuple ["thing", "many"]) (d_most_water : Dn K mg "most_water" st_most_water ["place"]) (d_holds : Dn K mg "holds" st_holds ["place", "barges"]) (d_are_counts : Dn K mg "are_counts" st_are_counts ["thing", "many"]) (d_is_stand : Dn K mg "is_stand" st_is_stand ["canal", "thing"]) (d_without_gone : Dn K mg "without_gone" st_without_gone ["stand"]) (d_is_house : Dn K mg "is_house" st_is_house ["canal", "crowd", "thing"]) (d__law_mixed : Dn K mg "_law_mixed" st__law_mixed ["cell", "turn"]) (d__law_tape : Dn K mg "_law_tape" st__law_tape ["script"]) (d__law_take : Dn K mg "_law_take" st__law_take ["tape", "many"]) (d__law_large : Dn K mg "_law_large" st__law_large ["tape", "many"]) (d__law_places : Dn K mg "_law_places" st__law_places ["tape", "many"]) (d__law_canal : Dn K mg "_law_canal" st__law_canal ["tape"]) (d__law_house : Dn K mg "_law_house" st__law_house ["tape", "canal", "crowd"]) (d__law_any : Dn K mg "_law_any" st__law_any ["tape", "deep"]) (d__law_put : Dn K mg "_law_put" st__law_put ["rows", "at", "what"]) (d__law_other : Dn K mg "_law_other" st__law_other ["house", "row", "at", "what"]) (d__law_else : Dn K mg "_law_else" st__law_else ["tape", "house"]) (d__law_others : Dn K mg "_law_others" st__law_others ["old"]) (d__law_things : Dn K mg "_law_things" st__law_things ["tape", "house", "crowd"]) (d__law_is_row : Dn K mg "_law_is_row" st__law_is_row ["thing", "many"]) (d__law_fits : Dn K mg "_law_fits" st__law_fits ["place", "level", "many"]) (d__law_due : Dn K mg "_law_due" st__law_due ["canal", "crowd", "thing"]) {f : Addr} {fd : FuncData} (F : Fun K "law" "law" st_law f fd) : FnOk P w K mg base CX0 11 f fd ["script"] (spD K 1 f_law) := by
  have C_is_whole : Cal P w K mg base "is_whole" ["thing"] f_is_whole 1 := cal_is_whole T d_is_whole
  have C_is_tuple : Cal P w K mg base "is_tuple" ["thing", "many"] f_is_tuple 1 := cal_is_tuple T d_is_tuple
  have C_most_water : Cal P w K mg base "most_water" ["place"] f_most_water 1 := cal_most_water T d_most_water
  have C_holds : Cal P w K mg base "holds" ["place", "barges"] f_holds 1 := cal_holds T d_holds
  have C_are_counts : Cal P w K mg base "are_counts" ["thing", "many"] f_are_counts 2 := cal_are_counts T d_are_counts C_is_tuple C_is_whole
  have C_is_stand : Cal P w K mg base "is_stand" ["canal", "thing"] f_is_stand 3 := cal_is_stand T d_is_stand C_are_counts C_holds C_is_tuple C_most_water
  have C_without_gone : Cal P w K mg base "without_gone" ["stand"] f_without_gone 1 := cal_without_gone T d_without_gone
  have C_is_house : Cal P w K mg base "is_house" ["canal", "crowd", "thing"] f_is_house 4 := cal_is_house T d_is_house C_is_stand C_without_gone
  have C__law_mixed : Cal P w K mg base "_law_mixed" ["cell", "turn"] f__law_mixed 1 := cal__law_mixed T d__law_mixed
  have C__law_tape : Cal P w K mg base "_law_tape" ["script"] f__law_tape 1 := cal__law_tape T d__law_tape
  have C__law_take : Cal P w K mg base "_law_take" ["tape", "many"] f__law_take 2 := cal__law_take T d__law_take C__law_mixed
  have C__law_large : Cal P w K mg base "_law_large" ["tape", "many"] f__law_large 3 := cal__law_large T d__law_large C__law_take
  have C__law_places : Cal P w K mg base "_law_places" ["tape", "many"] f__law_places 3 := cal__law_places T d__law_places C__law_take
  have C__law_canal : Cal P w K mg base "_law_canal" ["tape"] f__law_canal 4 := cal__law_canal T d__law_canal C__law_places C__law_take
  have C__law_house : Cal P w K mg base "_law_house" ["tape", "canal", "crowd"] f__law_house 3 := cal__law_house T d__law_house C__law_take
  have C__law_any : Cal P w K mg base "_law_any" ["tape", "deep"] f__law_any 8 := cal__law_any T d__law_any C__law_large C__law_take
  have C__law_put : Cal P w K mg base "_law_put" ["rows", "at", "what"] f__law_put 1 := cal__law_put T d__law_put
  have C__law_other : Cal P w K mg base "_law_other" ["house", "row", "at", "what"] f__law_other 2 := cal__law_other T d__law_other C__law_put
  have C__law_else : Cal P w K mg base "_law_else" ["tape", "house"] f__law_else 9 := cal__law_else T d__law_else C__law_any C__law_other C__law_put C__law_take
  have C__law_others : Cal P w K mg base "_law_others" ["old"] f__law_others 1 := cal__law_others T d__law_others
  have C__law_things : Cal P w K mg base "_law_things" ["tape", "house", "crowd"] f__law_things 10 := cal__law_things T d__law_things C__law_else C__law_other C__law_others C__law_take
  have C__law_is_row : Cal P w K mg base "_law_is_row" ["thing", "many"] f__law_is_row 1 := cal__law_is_row T d__law_is_row
  have C__law_fits : Cal P w K mg base "_law_fits" ["place", "level", "many"] f__law_fits 1 := cal__law_fits T d__law_fits
  have C__law_due : Cal P w K mg base "_law_due" ["canal", "crowd", "thing"] f__law_due 2 := cal__law_due T d__law_due C__law_fits C__law_is_row
  exact okl_law T F C__law_canal C__law_due C__law_house C__law_take C__law_tape C__law_things C_is_house
end
theorem all_mk {l : PySem.W.OpenLaw} {w : World} {K : PySem.W.Frag} {h : Heap} {mg : Str → Option Value} {fa : Addr} (X : K.In h) (G : h.Ns mainGlobals mg) (hfa : mg "law" = some (.ref fa))
    {fx_is_whole : Addr} {od_is_whole an_is_whole : Option Addr} {sl_is_whole : Array (Option Value)} {oc_is_whole kV_is_whole dc_is_whole pm_is_whole cd_is_whole ct_is_whole : Value}
    (a_is_whole : PySem.W.nsIn K mainGlobals "is_whole" = some (some (.ref fx_is_whole))) (l_is_whole : K.lookup fx_is_whole = some ⟨oc_is_whole, od_is_whole, .func (PySem.W.fnOf "is_whole" "is_whole" (defArgs st_is_whole) (defBody st_is_whole) (defScope st_is_whole) .none kV_is_whole dc_is_whole pm_is_whole an_is_whole cd_is_whole ct_is_whole), sl_is_whole⟩) (c_is_whole : PySem.W.codeIn K cd_is_whole "is_whole" = true) (k_is_whole : PySem.W.keepIn K (.ref fx_is_whole) = true)
    {fx_is_tuple : Addr} {od_is_tuple an_is_tuple : Option Addr} {sl_is_tuple : Array (Option Value)} {oc_is_tuple kV_is_tuple dc_is_tuple pm_is_tuple cd_is_tuple ct_is_tuple : Value}
    (a_is_tuple : PySem.W.nsIn K mainGlobals "is_tuple" = some (some (.ref fx_is_tuple))) (l_is_tuple : K.lookup fx_is_tuple = some ⟨oc_is_tuple, od_is_tuple, .func (PySem.W.fnOf "is_tuple" "is_tuple" (defArgs st_is_tuple) (defBody st_is_tuple) (defScope st_is_tuple) .none kV_is_tuple dc_is_tuple pm_is_tuple an_is_tuple cd_is_tuple ct_is_tuple), sl_is_tuple⟩) (c_is_tuple : PySem.W.codeIn K cd_is_tuple "is_tuple" = true) (k_is_tuple : PySem.W.keepIn K (.ref fx_is_tuple) = true)
    {fx_most_water : Addr} {od_most_water an_most_water : Option Addr} {sl_most_water : Array (Option Value)} {oc_most_water kV_most_water dc_most_water pm_most_water cd_most_water ct_most_water : Value}
    (a_most_water : PySem.W.nsIn K mainGlobals "most_water" = some (some (.ref fx_most_water))) (l_most_water : K.lookup fx_most_water = some ⟨oc_most_water, od_most_water, .func (PySem.W.fnOf "most_water" "most_water" (defArgs st_most_water) (defBody st_most_water) (defScope st_most_water) .none kV_most_water dc_most_water pm_most_water an_most_water cd_most_water ct_most_water), sl_most_water⟩) (c_most_water : PySem.W.codeIn K cd_most_water "most_water" = true) (k_most_water : PySem.W.keepIn K (.ref fx_most_water) = true)
    {fx_holds : Addr} {od_holds an_holds : Option Addr} {sl_holds : Array (Option Value)} {oc_holds kV_holds dc_holds pm_holds cd_holds ct_holds : Value}
    (a_holds : PySem.W.nsIn K mainGlobals "holds" = some (some (.ref fx_holds))) (l_holds : K.lookup fx_holds = some ⟨oc_holds, od_holds, .func (PySem.W.fnOf "holds" "holds" (defArgs st_holds) (defBody st_holds) (defScope st_holds) .none kV_holds dc_holds pm_holds an_holds cd_holds ct_holds), sl_holds⟩) (c_holds : PySem.W.codeIn K cd_holds "holds" = true) (k_holds : PySem.W.keepIn K (.ref fx_holds) = true)
    {fx_are_counts : Addr} {od_are_counts an_are_counts : Option Addr} {sl_are_counts : Array (Option Value)} {oc_are_counts kV_are_counts dc_are_counts pm_are_counts cd_are_counts ct_are_counts : Value}
    (a_are_counts : PySem.W.nsIn K mainGlobals "are_counts" = some (some (.ref fx_are_counts))) (l_are_counts : K.lookup fx_are_counts = some ⟨oc_are_counts, od_are_counts, .func (PySem.W.fnOf "are_counts" "are_counts" (defArgs st_are_counts) (defBody st_are_counts) (defScope st_are_counts) .none kV_are_counts dc_are_counts pm_are_counts an_are_counts cd_are_counts ct_are_counts), sl_are_counts⟩) (c_are_counts : PySem.W.codeIn K cd_are_counts "are_counts" = true) (k_are_counts : PySem.W.keepIn K (.ref fx_are_counts) = true)
    {fx_is_stand : Addr} {od_is_stand an_is_stand : Option Addr} {sl_is_stand : Array (Option Value)} {oc_is_stand kV_is_stand dc_is_stand pm_is_stand cd_is_stand ct_is_stand : Value}
    (a_is_stand : PySem.W.nsIn K mainGlobals "is_stand" = some (some (.ref fx_is_stand))) (l_is_stand : K.lookup fx_is_stand = some ⟨oc_is_stand, od_is_stand, .func (PySem.W.fnOf "is_stand" "is_stand" (defArgs st_is_stand) (defBody st_is_stand) (defScope st_is_stand) .none kV_is_stand dc_is_stand pm_is_stand an_is_stand cd_is_stand ct_is_stand), sl_is_stand⟩) (c_is_stand : PySem.W.codeIn K cd_is_stand "is_stand" = true) (k_is_stand : PySem.W.keepIn K (.ref fx_is_stand) = true)
    {fx_without_gone : Addr} {od_without_gone an_without_gone : Option Addr} {sl_without_gone : Array (Option Value)} {oc_without_gone kV_without_gone dc_without_gone pm_without_gone cd_without_gone ct_without_gone : Value}
    (a_without_gone : PySem.W.nsIn K mainGlobals "without_gone" = some (some (.ref fx_without_gone))) (l_without_gone : K.lookup fx_without_gone = some ⟨oc_without_gone, od_without_gone, .func (PySem.W.fnOf "without_gone" "without_gone" (defArgs st_without_gone) (defBody st_without_gone) (defScope st_without_gone) .none kV_without_gone dc_without_gone pm_without_gone an_without_gone cd_without_gone ct_without_gone), sl_without_gone⟩) (c_without_gone : PySem.W.codeIn K cd_without_gone "without_gone" = true) (k_without_gone : PySem.W.keepIn K (.ref fx_without_gone) = true)
    {fx_is_house : Addr} {od_is_house an_is_house : Option Addr} {sl_is_house : Array (Option Value)} {oc_is_house kV_is_house dc_is_house pm_is_house cd_is_house ct_is_house : Value}
    (a_is_house : PySem.W.nsIn K mainGlobals "is_house" = some (some (.ref fx_is_house))) (l_is_house : K.lookup fx_is_house = some ⟨oc_is_house, od_is_house, .func (PySem.W.fnOf "is_house" "is_house" (defArgs st_is_house) (defBody st_is_house) (defScope st_is_house) .none kV_is_house dc_is_house pm_is_house an_is_house cd_is_house ct_is_house), sl_is_house⟩) (c_is_house : PySem.W.codeIn K cd_is_house "is_house" = true) (k_is_house : PySem.W.keepIn K (.ref fx_is_house) = true)
    {fx__law_mixed : Addr} {od__law_mixed an__law_mixed : Option Addr} {sl__law_mixed : Array (Option Value)} {oc__law_mixed kV__law_mixed dc__law_mixed pm__law_mixed cd__law_mixed ct__law_mixed : Value}
    (a__law_mixed : PySem.W.nsIn K mainGlobals "_law_mixed" = some (some (.ref fx__law_mixed))) (l__law_mixed : K.lookup fx__law_mixed = some ⟨oc__law_mixed, od__law_mixed, .func (PySem.W.fnOf "_law_mixed" "_law_mixed" (defArgs st__law_mixed) (defBody st__law_mixed) (defScope st__law_mixed) .none kV__law_mixed dc__law_mixed pm__law_mixed an__law_mixed cd__law_mixed ct__law_mixed), sl__law_mixed⟩) (c__law_mixed : PySem.W.codeIn K cd__law_mixed "_law_mixed" = true) (k__law_mixed : PySem.W.keepIn K (.ref fx__law_mixed) = true)
    {fx__law_tape : Addr} {od__law_tape an__law_tape : Option Addr} {sl__law_tape : Array (Option Value)} {oc__law_tape kV__law_tape dc__law_tape pm__law_tape cd__law_tape ct__law_tape : Value}
    (a__law_tape : PySem.W.nsIn K mainGlobals "_law_tape" = some (some (.ref fx__law_tape))) (l__law_tape : K.lookup fx__law_tape = some ⟨oc__law_tape, od__law_tape, .func (PySem.W.fnOf "_law_tape" "_law_tape" (defArgs st__law_tape) (defBody st__law_tape) (defScope st__law_tape) .none kV__law_tape dc__law_tape pm__law_tape an__law_tape cd__law_tape ct__law_tape), sl__law_tape⟩) (c__law_tape : PySem.W.codeIn K cd__law_tape "_law_tape" = true) (k__law_tape : PySem.W.keepIn K (.ref fx__law_tape) = true)
    {fx__law_take : Addr} {od__law_take an__law_take : Option Addr} {sl__law_take : Array (Option Value)} {oc__law_take kV__law_take dc__law_take pm__law_take cd__law_take ct__law_take : Value}
    (a__law_take : PySem.W.nsIn K mainGlobals "_law_take" = some (some (.ref fx__law_take))) (l__law_take : K.lookup fx__law_take = some ⟨oc__law_take, od__law_take, .func (PySem.W.fnOf "_law_take" "_law_take" (defArgs st__law_take) (defBody st__law_take) (defScope st__law_take) .none kV__law_take dc__law_take pm__law_take an__law_take cd__law_take ct__law_take), sl__law_take⟩) (c__law_take : PySem.W.codeIn K cd__law_take "_law_take" = true) (k__law_take : PySem.W.keepIn K (.ref fx__law_take) = true)
    {fx__law_large : Addr} {od__law_large an__law_large : Option Addr} {sl__law_large : Array (Option Value)} {oc__law_large kV__law_large dc__law_large pm__law_large cd__law_large ct__law_large : Value}
    (a__law_large : PySem.W.nsIn K mainGlobals "_law_large" = some (some (.ref fx__law_large))) (l__law_large : K.lookup fx__law_large = some ⟨oc__law_large, od__law_large, .func (PySem.W.fnOf "_law_large" "_law_large" (defArgs st__law_large) (defBody st__law_large) (defScope st__law_large) .none kV__law_large dc__law_large pm__law_large an__law_large cd__law_large ct__law_large), sl__law_large⟩) (c__law_large : PySem.W.codeIn K cd__law_large "_law_large" = true) (k__law_large : PySem.W.keepIn K (.ref fx__law_large) = true)
    {fx__law_places : Addr} {od__law_places an__law_places : Option Addr} {sl__law_places : Array (Option Value)} {oc__law_places kV__law_places dc__law_places pm__law_places cd__law_places ct__law_places : Value}
    (a__law_places : PySem.W.nsIn K mainGlobals "_law_places" = some (some (.ref fx__law_places))) (l__law_places : K.lookup fx__law_places = some ⟨oc__law_places, od__law_places, .func (PySem.W.fnOf "_law_places" "_law_places" (defArgs st__law_places) (defBody st__law_places) (defScope st__law_places) .none kV__law_places dc__law_places pm__law_places an__law_places cd__law_places ct__law_places), sl__law_places⟩) (c__law_places : PySem.W.codeIn K cd__law_places "_law_places" = true) (k__law_places : PySem.W.keepIn K (.ref fx__law_places) = true)
    {fx__law_canal : Addr} {od__law_canal an__law_canal : Option Addr} {sl__law_canal : Array (Option Value)} {oc__law_canal kV__law_canal dc__law_canal pm__law_canal cd__law_canal ct__law_canal : Value}
    (a__law_canal : PySem.W.nsIn K mainGlobals "_law_canal" = some (some (.ref fx__law_canal))) (l__law_canal : K.lookup fx__law_canal = some ⟨oc__law_canal, od__law_canal, .func (PySem.W.fnOf "_law_canal" "_law_canal" (defArgs st__law_canal) (defBody st__law_canal) (defScope st__law_canal) .none kV__law_canal dc__law_canal pm__law_canal an__law_canal cd__law_canal ct__law_canal), sl__law_canal⟩) (c__law_canal : PySem.W.codeIn K cd__law_canal "_law_canal" = true) (k__law_canal : PySem.W.keepIn K (.ref fx__law_canal) = true)
    {fx__law_house : Addr} {od__law_house an__law_house : Option Addr} {sl__law_house : Array (Option Value)} {oc__law_house kV__law_house dc__law_house pm__law_house cd__law_house ct__law_house : Value}
    (a__law_house : PySem.W.nsIn K mainGlobals "_law_house" = some (some (.ref fx__law_house))) (l__law_house : K.lookup fx__law_house = some ⟨oc__law_house, od__law_house, .func (PySem.W.fnOf "_law_house" "_law_house" (defArgs st__law_house) (defBody st__law_house) (defScope st__law_house) .none kV__law_house dc__law_house pm__law_house an__law_house cd__law_house ct__law_house), sl__law_house⟩) (c__law_house : PySem.W.codeIn K cd__law_house "_law_house" = true) (k__law_house : PySem.W.keepIn K (.ref fx__law_house) = true)
    {fx__law_any : Addr} {od__law_any an__law_any : Option Addr} {sl__law_any : Array (Option Value)} {oc__law_any kV__law_any dc__law_any pm__law_any cd__law_any ct__law_any : Value}
    (a__law_any : PySem.W.nsIn K mainGlobals "_law_any" = some (some (.ref fx__law_any))) (l__law_any : K.lookup fx__law_any = some ⟨oc__law_any, od__law_any, .func (PySem.W.fnOf "_law_any" "_law_any" (defArgs st__law_any) (defBody st__law_any) (defScope st__law_any) .none kV__law_any dc__law_any pm__law_any an__law_any cd__law_any ct__law_any), sl__law_any⟩) (c__law_any : PySem.W.codeIn K cd__law_any "_law_any" = true) (k__law_any : PySem.W.keepIn K (.ref fx__law_any) = true)
    {fx__law_put : Addr} {od__law_put an__law_put : Option Addr} {sl__law_put : Array (Option Value)} {oc__law_put kV__law_put dc__law_put pm__law_put cd__law_put ct__law_put : Value}
    (a__law_put : PySem.W.nsIn K mainGlobals "_law_put" = some (some (.ref fx__law_put))) (l__law_put : K.lookup fx__law_put = some ⟨oc__law_put, od__law_put, .func (PySem.W.fnOf "_law_put" "_law_put" (defArgs st__law_put) (defBody st__law_put) (defScope st__law_put) .none kV__law_put dc__law_put pm__law_put an__law_put cd__law_put ct__law_put), sl__law_put⟩) (c__law_put : PySem.W.codeIn K cd__law_put "_law_put" = true) (k__law_put : PySem.W.keepIn K (.ref fx__law_put) = true)
    {fx__law_other : Addr} {od__law_other an__law_other : Option Addr} {sl__law_other : Array (Option Value)} {oc__law_other kV__law_other dc__law_other pm__law_other cd__law_other ct__law_other : Value}
    (a__law_other : PySem.W.nsIn K mainGlobals "_law_other" = some (some (.ref fx__law_other))) (l__law_other : K.lookup fx__law_other = some ⟨oc__law_other, od__law_other, .func (PySem.W.fnOf "_law_other" "_law_other" (defArgs st__law_other) (defBody st__law_other) (defScope st__law_other) .none kV__law_other dc__law_other pm__law_other an__law_other cd__law_other ct__law_other), sl__law_other⟩) (c__law_other : PySem.W.codeIn K cd__law_other "_law_other" = true) (k__law_other : PySem.W.keepIn K (.ref fx__law_other) = true)
    {fx__law_else : Addr} {od__law_else an__law_else : Option Addr} {sl__law_else : Array (Option Value)} {oc__law_else kV__law_else dc__law_else pm__law_else cd__law_else ct__law_else : Value}
    (a__law_else : PySem.W.nsIn K mainGlobals "_law_else" = some (some (.ref fx__law_else))) (l__law_else : K.lookup fx__law_else = some ⟨oc__law_else, od__law_else, .func (PySem.W.fnOf "_law_else" "_law_else" (defArgs st__law_else) (defBody st__law_else) (defScope st__law_else) .none kV__law_else dc__law_else pm__law_else an__law_else cd__law_else ct__law_else), sl__law_else⟩) (c__law_else : PySem.W.codeIn K cd__law_else "_law_else" = true) (k__law_else : PySem.W.keepIn K (.ref fx__law_else) = true)
    {fx__law_others : Addr} {od__law_others an__law_others : Option Addr} {sl__law_others : Array (Option Value)} {oc__law_others kV__law_others dc__law_others pm__law_others cd__law_others ct__law_others : Value}
    (a__law_others : PySem.W.nsIn K mainGlobals "_law_others" = some (some (.ref fx__law_others))) (l__law_others : K.lookup fx__law_others = some ⟨oc__law_others, od__law_others, .func (PySem.W.fnOf "_law_others" "_law_others" (defArgs st__law_others) (defBody st__law_others) (defScope st__law_others) .none kV__law_others dc__law_others pm__law_others an__law_others cd__law_others ct__law_others), sl__law_others⟩) (c__law_others : PySem.W.codeIn K cd__law_others "_law_others" = true) (k__law_others : PySem.W.keepIn K (.ref fx__law_others) = true)
    {fx__law_things : Addr} {od__law_things an__law_things : Option Addr} {sl__law_things : Array (Option Value)} {oc__law_things kV__law_things dc__law_things pm__law_things cd__law_things ct__law_things : Value}
    (a__law_things : PySem.W.nsIn K mainGlobals "_law_things" = some (some (.ref fx__law_things))) (l__law_things : K.lookup fx__law_things = some ⟨oc__law_things, od__law_things, .func (PySem.W.fnOf "_law_things" "_law_things" (defArgs st__law_things) (defBody st__law_things) (defScope st__law_things) .none kV__law_things dc__law_things pm__law_things an__law_things cd__law_things ct__law_things), sl__law_things⟩) (c__law_things : PySem.W.codeIn K cd__law_things "_law_things" = true) (k__law_things : PySem.W.keepIn K (.ref fx__law_things) = true)
    {fx__law_is_row : Addr} {od__law_is_row an__law_is_row : Option Addr} {sl__law_is_row : Array (Option Value)} {oc__law_is_row kV__law_is_row dc__law_is_row pm__law_is_row cd__law_is_row ct__law_is_row : Value}
    (a__law_is_row : PySem.W.nsIn K mainGlobals "_law_is_row" = some (some (.ref fx__law_is_row))) (l__law_is_row : K.lookup fx__law_is_row = some ⟨oc__law_is_row, od__law_is_row, .func (PySem.W.fnOf "_law_is_row" "_law_is_row" (defArgs st__law_is_row) (defBody st__law_is_row) (defScope st__law_is_row) .none kV__law_is_row dc__law_is_row pm__law_is_row an__law_is_row cd__law_is_row ct__law_is_row), sl__law_is_row⟩) (c__law_is_row : PySem.W.codeIn K cd__law_is_row "_law_is_row" = true) (k__law_is_row : PySem.W.keepIn K (.ref fx__law_is_row) = true)
    {fx__law_fits : Addr} {od__law_fits an__law_fits : Option Addr} {sl__law_fits : Array (Option Value)} {oc__law_fits kV__law_fits dc__law_fits pm__law_fits cd__law_fits ct__law_fits : Value}
    (a__law_fits : PySem.W.nsIn K mainGlobals "_law_fits" = some (some (.ref fx__law_fits))) (l__law_fits : K.lookup fx__law_fits = some ⟨oc__law_fits, od__law_fits, .func (PySem.W.fnOf "_law_fits" "_law_fits" (defArgs st__law_fits) (defBody st__law_fits) (defScope st__law_fits) .none kV__law_fits dc__law_fits pm__law_fits an__law_fits cd__law_fits ct__law_fits), sl__law_fits⟩) (c__law_fits : PySem.W.codeIn K cd__law_fits "_law_fits" = true) (k__law_fits : PySem.W.keepIn K (.ref fx__law_fits) = true)
    {fx__law_due : Addr} {od__law_due an__law_due : Option Addr} {sl__law_due : Array (Option Value)} {oc__law_due kV__law_due dc__law_due pm__law_due cd__law_due ct__law_due : Value}
    (a__law_due : PySem.W.nsIn K mainGlobals "_law_due" = some (some (.ref fx__law_due))) (l__law_due : K.lookup fx__law_due = some ⟨oc__law_due, od__law_due, .func (PySem.W.fnOf "_law_due" "_law_due" (defArgs st__law_due) (defBody st__law_due) (defScope st__law_due) .none kV__law_due dc__law_due pm__law_due an__law_due cd__law_due ct__law_due), sl__law_due⟩) (c__law_due : PySem.W.codeIn K cd__law_due "_law_due" = true) (k__law_due : PySem.W.keepIn K (.ref fx__law_due) = true)
    {fx_law : Addr} {od_law an_law : Option Addr} {sl_law : Array (Option Value)} {oc_law kV_law dc_law pm_law cd_law ct_law : Value}
    (a_law : PySem.W.nsIn K mainGlobals "law" = some (some (.ref fx_law))) (l_law : K.lookup fx_law = some ⟨oc_law, od_law, .func (PySem.W.fnOf "law" "law" (defArgs st_law) (defBody st_law) (defScope st_law) .none kV_law dc_law pm_law an_law cd_law ct_law), sl_law⟩) (c_law : PySem.W.codeIn K cd_law "law" = true) (k_law : PySem.W.keepIn K (.ref fx_law) = true)
    (z_all : PySem.W.nsIn K mainGlobals "all" = some none)
    (z_bool : PySem.W.nsIn K mainGlobals "bool" = some none)
    (z_enumerate : PySem.W.nsIn K mainGlobals "enumerate" = some none)
    (z_int : PySem.W.nsIn K mainGlobals "int" = some none)
    (z_isinstance : PySem.W.nsIn K mainGlobals "isinstance" = some none)
    (z_len : PySem.W.nsIn K mainGlobals "len" = some none)
    (z_list : PySem.W.nsIn K mainGlobals "list" = some none)
    (z_range : PySem.W.nsIn K mainGlobals "range" = some none)
    (z_repr : PySem.W.nsIn K mainGlobals "repr" = some none)
    (z_sum : PySem.W.nsIn K mainGlobals "sum" = some none)
    (z_tuple : PySem.W.nsIn K mainGlobals "tuple" = some none)
    {kp_CHAMBER : Addr} {kt_CHAMBER : Tok} {kn_CHAMBER : Nat} {ks_CHAMBER : Array (Option Value)} (ka_CHAMBER : PySem.W.nsIn K mainGlobals "CHAMBER" = some (some (.ref kp_CHAMBER))) (kl_CHAMBER : K.lookup kp_CHAMBER = some { cls := .type "tuple", dict := none, data := .seq #[.str "chamber" kt_CHAMBER] kn_CHAMBER, slots := ks_CHAMBER })
    {kp_END : Addr} {kt_END : Tok} {kn_END : Nat} {ks_END : Array (Option Value)} (ka_END : PySem.W.nsIn K mainGlobals "END" = some (some (.ref kp_END))) (kl_END : K.lookup kp_END = some { cls := .type "tuple", dict := none, data := .seq #[.str "end" kt_END] kn_END, slots := ks_END })
    {kt_MOST_BARGES : Tok} (ka_MOST_BARGES : PySem.W.nsIn K mainGlobals "MOST_BARGES" = some (some (.int 60 kt_MOST_BARGES)))
    : ∃ fd : FuncData, (∀ (s : Shared) (v : Value), BindsTo s fd ⟨[v], []⟩ [("script", v)]) ∧ ∀ base : Heap, K.In base → base.Ns mainGlobals mg → FnOk l.prog w K mg base CX0 11 fa fd ["script"] (spD K 1 f_law) := by
  have e := hfa.symm.trans (PySem.W.mg_of X G a_law)
  cases e
  have F := fun_mk (st := st_law) l_law c_law k_law
  have T : Txt K mg := ⟨PySem.W.mg_none_of X G z_all, PySem.W.mg_none_of X G z_bool, PySem.W.mg_none_of X G z_enumerate, PySem.W.mg_none_of X G z_int, PySem.W.mg_none_of X G z_isinstance, PySem.W.mg_none_of X G z_len, PySem.W.mg_none_of X G z_list, PySem.W.mg_none_of X G z_range, PySem.W.mg_none_of X G z_repr, PySem.W.mg_none_of X G z_sum, PySem.W.mg_none_of X G z_tuple, cst_t1 X G ka_CHAMBER kl_CHAMBER, cst_t1 X G ka_END kl_END, cst_int X G ka_MOST_BARGES⟩
  have d_is_whole : Dn K mg "is_whole" st_is_whole ["thing"] := dn_mk X G a_is_whole l_is_whole c_is_whole k_is_whole fun _ _ _ _ _ _ us hl => match us, hl with | [_], _ => rfl
  have d_is_tuple : Dn K mg "is_tuple" st_is_tuple ["thing", "many"] := dn_mk X G a_is_tuple l_is_tuple c_is_tuple k_is_tuple fun _ _ _ _ _ _ us hl => match us, hl with | [_, _], _ => rfl
  have d_most_water : Dn K mg "most_water" st_most_water ["place"] := dn_mk X G a_most_water l_most_water c_most_water k_most_water fun _ _ _ _ _ _ us hl => match us, hl with | [_], _ => rfl
  have d_holds : Dn K mg "holds" st_holds ["place", "barges"] := dn_mk X G a_holds l_holds c_holds k_holds fun _ _ _ _ _ _ us hl => match us, hl with | [_, _], _ => rfl
  have d_are_counts : Dn K mg "are_counts" st_are_counts ["thing", "many"] := dn_mk X G a_are_counts l_are_counts c_are_counts k_are_counts fun _ _ _ _ _ _ us hl => match us, hl with | [_, _], _ => rfl
  have d_is_stand : Dn K mg "is_stand" st_is_stand ["canal", "thing"] := dn_mk X G a_is_stand l_is_stand c_is_stand k_is_stand fun _ _ _ _ _ _ us hl => match us, hl with | [_, _], _ => rfl
  have d_without_gone : Dn K mg "without_gone" st_without_gone ["stand"] := dn_mk X G a_without_gone l_without_gone c_without_gone k_without_gone fun _ _ _ _ _ _ us hl => match us, hl with | [_], _ => rfl
  have d_is_house : Dn K mg "is_house" st_is_house ["canal", "crowd", "thing"] := dn_mk X G a_is_house l_is_house c_is_house k_is_house fun _ _ _ _ _ _ us hl => match us, hl with | [_, _, _], _ => rfl
  have d__law_mixed : Dn K mg "_law_mixed" st__law_mixed ["cell", "turn"] := dn_mk X G a__law_mixed l__law_mixed c__law_mixed k__law_mixed fun _ _ _ _ _ _ us hl => match us, hl with | [_, _], _ => rfl
  have d__law_tape : Dn K mg "_law_tape" st__law_tape ["script"] := dn_mk X G a__law_tape l__law_tape c__law_tape k__law_tape fun _ _ _ _ _ _ us hl => match us, hl with | [_], _ => rfl
  have d__law_take : Dn K mg "_law_take" st__law_take ["tape", "many"] := dn_mk X G a__law_take l__law_take c__law_take k__law_take fun _ _ _ _ _ _ us hl => match us, hl with | [_, _], _ => rfl
  have d__law_large : Dn K mg "_law_large" st__law_large ["tape", "many"] := dn_mk X G a__law_large l__law_large c__law_large k__law_large fun _ _ _ _ _ _ us hl => match us, hl with | [_, _], _ => rfl
  have d__law_places : Dn K mg "_law_places" st__law_places ["tape", "many"] := dn_mk X G a__law_places l__law_places c__law_places k__law_places fun _ _ _ _ _ _ us hl => match us, hl with | [_, _], _ => rfl
  have d__law_canal : Dn K mg "_law_canal" st__law_canal ["tape"] := dn_mk X G a__law_canal l__law_canal c__law_canal k__law_canal fun _ _ _ _ _ _ us hl => match us, hl with | [_], _ => rfl
  have d__law_house : Dn K mg "_law_house" st__law_house ["tape", "canal", "crowd"] := dn_mk X G a__law_house l__law_house c__law_house k__law_house fun _ _ _ _ _ _ us hl => match us, hl with | [_, _, _], _ => rfl
  have d__law_any : Dn K mg "_law_any" st__law_any ["tape", "deep"] := dn_mk X G a__law_any l__law_any c__law_any k__law_any fun _ _ _ _ _ _ us hl => match us, hl with | [_, _], _ => rfl
  have d__law_put : Dn K mg "_law_put" st__law_put ["rows", "at", "what"] := dn_mk X G a__law_put l__law_put c__law_put k__law_put fun _ _ _ _ _ _ us hl => match us, hl with | [_, _, _], _ => rfl
  have d__law_other : Dn K mg "_law_other" st__law_other ["house", "row", "at", "what"] := dn_mk X G a__law_other l__law_other c__law_other k__law_other fun _ _ _ _ _ _ us hl => match us, hl with | [_, _, _, _], _ => rfl
  have d__law_else : Dn K mg "_law_else" st__law_else ["tape", "house"] := dn_mk X G a__law_else l__law_else c__law_else k__law_else fun _ _ _ _ _ _ us hl => match us, hl with | [_, _], _ => rfl
  have d__law_others : Dn K mg "_law_others" st__law_others ["old"] := dn_mk X G a__law_others l__law_others c__law_others k__law_others fun _ _ _ _ _ _ us hl => match us, hl with | [_], _ => rfl
  have d__law_things : Dn K mg "_law_things" st__law_things ["tape", "house", "crowd"] := dn_mk X G a__law_things l__law_things c__law_things k__law_things fun _ _ _ _ _ _ us hl => match us, hl with | [_, _, _], _ => rfl
  have d__law_is_row : Dn K mg "_law_is_row" st__law_is_row ["thing", "many"] := dn_mk X G a__law_is_row l__law_is_row c__law_is_row k__law_is_row fun _ _ _ _ _ _ us hl => match us, hl with | [_, _], _ => rfl
  have d__law_fits : Dn K mg "_law_fits" st__law_fits ["place", "level", "many"] := dn_mk X G a__law_fits l__law_fits c__law_fits k__law_fits fun _ _ _ _ _ _ us hl => match us, hl with | [_, _, _], _ => rfl
  have d__law_due : Dn K mg "_law_due" st__law_due ["canal", "crowd", "thing"] := dn_mk X G a__law_due l__law_due c__law_due k__law_due fun _ _ _ _ _ _ us hl => match us, hl with | [_, _, _], _ => rfl
  exact ⟨_, fun s v => .of_eq rfl, fun base _ _ => allc T d_is_whole d_is_tuple d_most_water d_holds d_are_counts d_is_stand d_without_gone d_is_house d__law_mixed d__law_tape d__law_take d__law_large d__law_places d__law_canal d__law_house d__law_any d__law_put d__law_other d__law_else d__law_others d__law_things d__law_is_row d__law_fits d__law_due F⟩
end Law
set_option Elab.async false
set_option linter.all false
namespace WM
def stp (b l d : Int) : Int := min b (l + d)
def F (b : Int) (ds : List Int) (x : Int) : Int := ds.foldl (stp b) x
def AP (ds : List Int) (x : Int) : Prop := ∀ j, 1 ≤ j → j ≤ ds.length → 0 ≤ x + (ds.take j).sum
inductive R where
  | dry (k : Nat) | lev (l : Int)
def R.bind (o : R) (g : Int → R) : R := match o with
  | .dry k => .dry k
  | .lev l => g l
def most (b : Int) (ds : List Int) : Int := F b ds.tail b
def start (ds : List Int) (mn : Int) : Int := max 0 (-mn)
structure IsMin (ds : List Int) (mn : Int) : Prop where
  le : ∀ j, 1 ≤ j → j ≤ ds.length → mn ≤ (ds.take j).sum
  at' : ∃ j, 1 ≤ j ∧ j ≤ ds.length ∧ mn = (ds.take j).sum
end WM
set_option Elab.async false
set_option linter.all false
set_option maxRecDepth 100000
namespace DL
open PySem PySem.Spec PyProof.Rows L2
section
variable {ρ : Lc} {S : Sto} {α β : Type}
@[simp] theorem bind_ok {a : α} {g : α → Sto → Out β} : (Out.ok a S).bind g = g a S := id rfl
@[simp] theorem bind_bad {g : α → Sto → Out β} : (Out.bad : Out α).bind g = .bad := id rfl
@[simp] theorem bindS_ok {a : α} {g : α → Sto → OS} : bindS (Out.ok a S) ρ g = g a S := id rfl
@[simp] theorem bindS_bad {g : α → Sto → OS} : bindS (Out.bad : Out α) ρ g = .bad := id rfl
@[simp] theorem vr_ap {i : Nat} : vr i ρ S = match ρ[i]? with
  | some (some d) => .ok d S
  | _ => .bad := id rfl
@[simp] theorem cn_ap {d : D} : cn d ρ S = .ok d S := id rfl
@[simp] theorem an_ap : an ρ S = .ok [] S := id rfl
@[simp] theorem ac_ap {f : Ev D} {g : Ev (List D)} : ac f g ρ S = (f ρ S).bind fun x S1 => (g ρ S1).bind fun xs S2 => .ok (x :: xs) S2 := id rfl
@[simp] theorem o2_ap {o : D → D → Sto → Out D} {fa fb : Ev D} : o2 o fa fb ρ S = (fa ρ S).bind fun x S1 => (fb ρ S1).bind fun y S2 => o x y S2 := id rfl
@[simp] theorem o1_ap {o : D → Sto → Out D} {fa : Ev D} : o1 o fa ρ S = (fa ρ S).bind fun x S1 => o x S1 := id rfl
@[simp] theorem b1_ap {o : List D → Sto → Out D} {f : Ev (List D)} : b1 o f ρ S = (f ρ S).bind o := id rfl
@[simp] theorem cl_ap {n : Nat} {fn : Fn} {t : Ev (List D)} : cl n fn t ρ S = (t ρ S).bind fun ds S1 => if ds.length = n then fn ds S1 else .bad := id rfl
@[simp] theorem noExc_ap {fn : Fn} {ds : List D} : noExc fn ds S = match fn ds S with
  | .ok d S' => .ok d S'
  | _ => .bad := id rfl
@[simp] theorem tb_ap {f : Ev D} : tb f ρ S = (f ρ S).bind fun x S1 => match x with
  | .bl b => .ok b S1
  | _ => .bad := id rfl
@[simp] theorem tt_ap {f : Ev D} : tt f ρ S = (f ρ S).bind fun x S1 => match truD x S1 with
  | some b => .ok b S1
  | none => .bad := id rfl
@[simp] theorem tn_ap {f : Ev Bool} : tn f ρ S = (f ρ S).bind fun b S1 => .ok (!b) S1 := id rfl
@[simp] theorem ta_ap {f g : Ev Bool} : ta f g ρ S = (f ρ S).bind fun b S1 => if b = true then g ρ S1 else .ok false S1 := id rfl
@[simp] theorem to_ap {f g : Ev Bool} : to f g ρ S = (f ρ S).bind fun b S1 => if b = true then .ok true S1 else g ρ S1 := id rfl
@[simp] theorem va_ap {f g : Ev D} : va f g ρ S = (f ρ S).bind fun x S1 => match x with
  | .bl b => if b = true then g ρ S1 else .ok (.bl false) S1
  | _ => .bad := id rfl
@[simp] theorem vo_ap {f g : Ev D} : vo f g ρ S = (f ρ S).bind fun x S1 => match x with
  | .bl b => if b = true then .ok (.bl true) S1 else g ρ S1
  | _ => .bad := id rfl
@[simp] theorem vn_ap {f : Ev D} : vn f ρ S = (f ρ S).bind fun x S1 => match x with
  | .bl b => .ok (.bl (!b)) S1
  | _ => .bad := id rfl
@[simp] theorem ie_ap {c : Ev Bool} {f g : Ev D} : ie c f g ρ S = (c ρ S).bind fun b S1 => if b = true then f ρ S1 else g ρ S1 := id rfl
@[simp] theorem tp_ap {f : Ev (List D)} : tp f ρ S = (f ρ S).bind fun xs S1 => if xs.length ≤ 1000000 then .ok (.tup xs) S1 else .bad := id rfl
@[simp] theorem ls_ap {f : Ev (List D)} : ls f ρ S = (f ρ S).bind fun xs S1 => if xs.length ≤ 1000000 then .ok (.lst S1.length) (S1 ++ [⟨false, xs⟩]) else .bad := id rfl
@[simp] theorem sl2_ap {fe : Ev D} {fl fh : Ev (Option Int)} : sl2 fe fl fh ρ S = (fe ρ S).bind fun x S1 => (fl ρ S1).bind fun l S2 => (fh ρ S2).bind fun u S3 => slD2 x l u S3 := id rfl
@[simp] theorem onone_ap : onone ρ S = .ok none S := id rfl
@[simp] theorem osome_ap {f : Ev D} : osome f ρ S = (f ρ S).bind fun x S1 => match x with
  | .int i => .ok (some i) S1
  | _ => .bad := id rfl
@[simp] theorem mt_ap {o : D → List D → Sto → Out D} {fo : Ev D} {f : Ev (List D)} : mt o fo f ρ S = (fo ρ S).bind fun x S1 => if isLst x S1 = true then (f ρ S1).bind fun xs S2 => o x xs S2 else .bad := id rfl
@[simp] theorem ch_ap {o o' : D → D → Sto → Out D} {fa fb fc : Ev D} : ch o o' fa fb fc ρ S = (fa ρ S).bind fun x S1 => (fb ρ S1).bind fun y S2 => (o x y S2).bind fun z S3 => match z with
  | .bl b => if b = true then (fc ρ S3).bind fun w S4 => o' y w S4 else .ok (.bl false) S3
  | _ => .bad := id rfl
@[simp] theorem sq_ap {f g : Sv} : sq f g ρ S = match f ρ S with
  | .nx ρ' S' => g ρ' S'
  | .rt d S' => .rt d S'
  | .bk ρ' S' => .bk ρ' S'
  | .ct ρ' S' => .ct ρ' S'
  | .exc x ρ' S' => .exc x ρ' S'
  | .bad => .bad := id rfl
@[simp] theorem sa_ap {f : Ev D} {g : Tg} : sa f g ρ S = bindS (f ρ S) ρ fun d S1 => match g d ρ with
  | some ρ' => .nx ρ' S1
  | none => .bad := id rfl
@[simp] theorem gn_ap {i : Nat} {d : D} : gn i d ρ = some (ρ.set i (some d)) := id rfl
@[simp] theorem sret_ap {f : Ev D} : sret f ρ S = bindS (f ρ S) ρ fun d S1 => .rt d S1 := id rfl
@[simp] theorem sif_ap {c : Ev Bool} {f g : Sv} : sif c f g ρ S = bindS (c ρ S) ρ fun b S1 => if b = true then f ρ S1 else g ρ S1 := id rfl
@[simp] theorem sx_ap {f : Ev D} : sx f ρ S = bindS (f ρ S) ρ fun _ S1 => .nx ρ S1 := id rfl
@[simp] theorem skip_ap : skip ρ S = .nx ρ S := id rfl
@[simp] theorem ss_ap {f fo fi : Ev D} {o : D → D → D → Sto → Option Sto} : ss f fo fi o ρ S = bindS (f ρ S) ρ fun d S1 => bindS (fo ρ S1) ρ fun x S2 => bindS (fi ρ S2) ρ fun y S3 => match o x y d S3 with
  | some S4 => .nx ρ S4
  | none => .bad := id rfl
@[simp] theorem sag_ap {i : Nat} {g : Int → Int → Int} {f : Ev D} : sag i g f ρ S = match ρ[i]? with
  | some (some (.int a)) => bindS (f ρ S) ρ fun d S1 => match d with
    | .int b => .nx (ρ.set i (some (.int (g a b)))) S1
    | _ => .bad
  | _ => .bad := id rfl
@[simp] theorem isrc_ap {f : Ev D} : isrc f ρ S = (f ρ S).bind srcOf := id rfl
@[simp] theorem sfor_ap {f : Ev Src} {g : Tg} {b : Sv} : sfor f g b ρ S = bindS (f ρ S) ρ fun s S1 => forN s.nxt g b s.fuel 0 ρ S1 := id rfl
section
variable {i j : Int}
@[simp] theorem add_ii : addD (.int i) (.int j) S = .ok (.int (i + j)) S := id rfl
@[simp] theorem sub_ii : subD (.int i) (.int j) S = .ok (.int (i - j)) S := id rfl
@[simp] theorem neg_i : negD (.int i) S = .ok (.int (-i)) S := id rfl
theorem mul_r (h1 : -(2 ^ 64) < j) (h2 : j < 2 ^ 64) : mulD (.int i) (.int j) S = .ok (.int (i * j)) S := by
  show (if (-(2 ^ 64) < i ∧ i < 2 ^ 64) ∨ (-(2 ^ 64) < j ∧ j < 2 ^ 64) then Out.ok (D.int (i * j)) S else .bad) = _
  rw [if_pos (.inr ⟨h1, h2⟩)]
theorem mul_l (h1 : -(2 ^ 64) < i) (h2 : i < 2 ^ 64) : mulD (.int i) (.int j) S = .ok (.int (i * j)) S := by
  show (if (-(2 ^ 64) < i ∧ i < 2 ^ 64) ∨ (-(2 ^ 64) < j ∧ j < 2 ^ 64) then Out.ok (D.int (i * j)) S else .bad) = _
  rw [if_pos (.inl ⟨h1, h2⟩)]
theorem mod_ii (h : 0 < j) : modD (.int i) (.int j) S = .ok (.int (i % j)) S := by
  show (if decide (0 < j) = true then Out.ok (D.int (i % j)) S else .bad) = _
  rw [if_pos (by simpa using h)]
theorem div_ii (h : 0 < j) (h2 : j < 2 ^ 200) : divD2 (.int i) (.int j) S = .ok (.int (i / j)) S := by
  show (if decide (0 < j ∧ j < 2 ^ 200) = true then Out.ok (D.int (i / j)) S else .bad) = _
  rw [if_pos (decide_eq_true ⟨h, h2⟩)]
theorem pow_nn {n : Nat} (h : (n : Int) ≤ 1000000) (h2 : i.natAbs < 2 ^ 64) : powD (.int i) (.int n) S = .ok (.int (i ^ n)) S := by
  show (if decide (0 ≤ (n : Int) ∧ (n : Int) ≤ 1000000 ∧ i.natAbs < 2 ^ 64) = true then Out.ok (D.int (i ^ (n : Int).toNat)) S else .bad) = _
  rw [if_pos (decide_eq_true ⟨by omega, h, h2⟩)]
  rfl
@[simp] theorem pow_6 : powD (.int 10) (.int 6) S = .ok (.int 1000000) S := pow_nn (n := 6) (by decide) (by decide)
@[simp] theorem pow_15 : powD (.int 10) (.int 15) S = .ok (.int 1000000000000000) S := pow_nn (n := 15) (by decide) (by decide)
@[simp] theorem pow_18 : powD (.int 10) (.int 18) S = .ok (.int 1000000000000000000) S := pow_nn (n := 18) (by decide) (by decide)
@[simp] theorem lt_ii : ltD (.int i) (.int j) S = .ok (.bl (decide (i < j))) S := id rfl
@[simp] theorem le_ii : leD (.int i) (.int j) S = .ok (.bl (decide (i ≤ j))) S := id rfl
@[simp] theorem gt_ii : gtD (.int i) (.int j) S = .ok (.bl (decide (j < i))) S := id rfl
@[simp] theorem ge_ii : geD (.int i) (.int j) S = .ok (.bl (decide (j ≤ i))) S := id rfl
@[simp] theorem min_ii : minD [.int i, .int j] S = .ok (.int (min i j)) S := by
  show Out.ok (D.int (if j < i then j else i)) S = _
  congr 2
  omega
@[simp] theorem max_ii : maxD [.int i, .int j] S = .ok (.int (max i j)) S := by
  show Out.ok (D.int (if j > i then j else i)) S = _
  congr 2
  omega
@[simp] theorem eq_ii : eqD (.int i) (.int j) S = .ok (.bl (decide (i = j))) S := by
  simp only [eqD, toP]
  simp [SeqAt.shaped, PyData.eqv]
  rfl
@[simp] theorem ne_ii : neD (.int i) (.int j) S = .ok (.bl (!decide (i = j))) S := by
  simp only [neD, toP]
  simp [SeqAt.shaped, PyData.eqv]
  rfl
theorem eq_ss {x y : Str} (hx : PyData.strOk x = true) (hy : PyData.strOk y = true) : eqD (.str x) (.str y) S = .ok (.bl (x == y)) S := by
  simp only [eqD, toP]
  simp [SeqAt.shaped, PyData.eqv, PyData.canLay0, PyData.depth, hx, hy]
end
@[simp] theorem len_t {l : List D} : lenD [.tup l] S = .ok (.int l.length) S := id rfl
theorem len_l {k : Nat} {c : Cell} (h : S[k]? = some c) : lenD [.lst k] S = .ok (.int c.xs.length) S := by
  show (match S[k]? with | some c => Out.ok (D.int c.xs.length) S | none => .bad) = _
  rw [h]
theorem get_l {k : Nat} {c : Cell} {i : Int} {d : D} (h : S[k]? = some c) (e : atI c.xs i = some d) : getD (.lst k) (.int i) S = .ok d S := by
  show (match S[k]? with | some c => (match atI c.xs i with | some d => Out.ok d S | none => .bad) | none => .bad) = _
  rw [h]
  show (match atI c.xs i with | some d => Out.ok d S | none => .bad) = _
  rw [e]
theorem get_t {l : List D} {i : Int} {d : D} (e : atI l i = some d) : getD (.tup l) (.int i) S = .ok d S := by
  show (match atI l i with | some d => Out.ok d S | none => .bad) = _
  rw [e]
theorem atI_nn {α : Type} {l : List α} {i : Int} {d : α} (h0 : 0 ≤ i) (e : l[i.toNat]? = some d) : atI l i = some d := by
  unfold atI ixN
  have : i.toNat < l.length := (List.getElem?_eq_some_iff.mp e).1
  rw [if_pos h0, if_pos (by omega)]
  exact e
theorem set_l {k : Nat} {xs : List D} {i : Int} {d : D} (h : S[k]? = some ⟨false, xs⟩) (h0 : 0 ≤ i) (h1 : i < xs.length) : setD (.lst k) (.int i) d S = some (S.set k ⟨false, xs.set i.toNat d⟩) := by
  show (match S[k]? with | some c => (match ixN c.xs.length i with | some j => if c.fz = false then some (S.set k ⟨false, c.xs.set j d⟩) else none | none => none) | none => none) = _
  rw [h]
  show (match ixN xs.length i with | some j => if false = false then some (S.set k ⟨false, xs.set j d⟩) else none | none => none) = _
  unfold ixN
  rw [if_pos h0, if_pos h1]
  rfl
@[simp] theorem sum_t {l : List Int} : sumD [.tup (l.map D.int)] S = .ok (.int l.sum) S := by
  have : ∀ l : List Int, intsOf (l.map D.int) = some l := fun l => by
    induction l with
    | nil => rfl
    | cons a r ih => show (intsOf (r.map D.int)).map (a :: ·) = _; rw [ih]; rfl
  show (match (some (l.map D.int)).bind intsOf with | some ns => Out.ok (D.int ns.sum) S | none => .bad) = _
  rw [Option.bind_some, this]
end
end DL
set_option Elab.async false
set_option linter.all false
set_option maxRecDepth 100000
namespace Law
open PySem PySem.Spec PyProof.Rows L2 DL
theorem mixed_ok {c t : Int} {S : Sto} : ∃ r, f__law_mixed [.int c, .int t] S = .ok (.int r) S := by
  have sqr : ∀ x : Int, mulD (.int (x % 2147483647)) (.int (x % 2147483647)) S = .ok (.int (x % 2147483647 * (x % 2147483647))) S := fun x => mul_r (by omega) (by omega)
  simp [f__law_mixed, fnB, b__law_mixed, mod_ii, mul_r, mul_l, div_ii, sqr]
def tk_a : Sv := sif (ta (tb (o2 eqD (o2 DL.getD (vr 0) (cn (.int 1))) (cn (.int 0)))) (tb (o2 gtD (b1 lenD (ac (o2 DL.getD (vr 0) (cn (.int 0))) an)) (cn (.int 0)))))
    (sq (sa (mt popD (o2 DL.getD (vr 0) (cn (.int 0))) (ac (cn (.int 0)) an)) (gn 2))
    (sq (sif (tb (o2 ltD (vr 2) (o2 powD (cn (.int 10)) (cn (.int 18)))))
    (sret (o2 modD (cl 2 (noExc f__law_mixed) (ac (vr 2) (ac (o2 DL.getD (vr 0) (cn (.int 3))) an))) (vr 1)))
    DL.skip)
    (ss (vr 2) (vr 0) (cn (.int 1)) setD)))
    DL.skip
def tk_b : Sv := (sq (sif (tb (o2 gtD (o2 DL.getD (vr 0) (cn (.int 1))) (cn (.int 0))))
    (sq (sa (o2 modD (o2 DL.getD (vr 0) (cn (.int 1))) (vr 1)) (gn 3))
    (sq (ss (o2 divD2 (o2 DL.getD (vr 0) (cn (.int 1))) (vr 1)) (vr 0) (cn (.int 1)) setD)
    (sret (vr 3))))
    DL.skip)
    (sret (o2 modD (cl 2 (noExc f__law_mixed) (ac (o2 DL.getD (vr 0) (cn (.int 2))) (ac (o2 DL.getD (vr 0) (cn (.int 3))) an))) (vr 1))))
def fin (o : OS) : Out D := match o with
  | .rt d S' => .ok d S'
  | .nx _ S' => .ok .non S'
  | .exc x _ S' => .exc x S'
  | _ => .bad
theorem fnB_ap {m : Nat} {b : Sv} {ds : List D} {S : Sto} : fnB m b ds S = fin (b (ds.map some ++ List.replicate (m - ds.length) none) S) := rfl
@[simp] theorem fin_rt {d : D} {S : Sto} : fin (.rt d S) = .ok d S := rfl
structure Tp (S : Sto) (t k : Nat) : Prop where
  ex : ∃ (a sd n : Int) (xs : List Int), S[t]? = some ⟨false, [.lst k, .int a, .int sd, .int n]⟩ ∧ S[k]? = some ⟨false, xs.map D.int⟩
  ne : t ≠ k
structure Sm (S S' : Sto) (t k : Nat) : Prop where
  len : S'.length = S.length
  get : ∀ i, i ≠ t → i ≠ k → S'[i]? = S[i]?
theorem Sm.refl {S : Sto} {t k : Nat} : Sm S S t k := ⟨rfl, fun _ _ _ => rfl⟩
theorem Sm.trans {S S1 S2 : Sto} {t k : Nat} (a : Sm S S1 t k) (b : Sm S1 S2 t k) : Sm S S2 t k := ⟨b.len.trans a.len, fun i h1 h2 => (b.get i h1 h2).trans (a.get i h1 h2)⟩
theorem Sm.set {S : Sto} {t k j : Nat} {c : Cell} (h : j = t ∨ j = k) : Sm S (S.set j c) t k := ⟨by simp, fun i h1 h2 => by
  rw [List.getElem?_set_ne]
  rcases h with h | h
  · rw [h]; exact Ne.symm h1
  · rw [h]; exact Ne.symm h2⟩
theorem take_ok {S : Sto} {t k : Nat} {m : Int} (h : Tp S t k) (hm : 0 < m) (hm2 : m < 2 ^ 200) : ∃ r S', f__law_take [.lst t, .int m] S = .ok (.int r) S' ∧ 0 ≤ r ∧ r < m ∧ Tp S' t k ∧ Sm S S' t k := by
  obtain ⟨⟨a, sd, n, xs, e1, e2⟩, ne⟩ := h
  have lt : t < S.length := (List.getElem?_eq_some_iff.mp e1).1
  have lk : k < S.length := (List.getElem?_eq_some_iff.mp e2).1
  have g3 : getD (.lst t) (.int 3) S = .ok (.int n) S := get_l e1 rfl
  have s3 : setD (.lst t) (.int 3) (.int (n + 1)) S = some (S.set t ⟨false, [.lst k, .int a, .int sd, .int (n + 1)]⟩) := set_l e1 (by decide) (by simp)
  have e1' : (S.set t ⟨false, [.lst k, .int a, .int sd, .int (n + 1)]⟩)[t]? = some ⟨false, [.lst k, .int a, .int sd, .int (n + 1)]⟩ := List.getElem?_set_self lt
  have e2' : (S.set t ⟨false, [.lst k, .int a, .int sd, .int (n + 1)]⟩)[k]? = some ⟨false, xs.map D.int⟩ := by rw [List.getElem?_set_ne ne]; exact e2
  have sm1 : Sm S (S.set t ⟨false, [.lst k, .int a, .int sd, .int (n + 1)]⟩) t k := Sm.set (.inl rfl)
  generalize hS1 : S.set t ⟨false, [.lst k, .int a, .int sd, .int (n + 1)]⟩ = S1 at *
  have lt' : t < S1.length := (List.getElem?_eq_some_iff.mp e1').1
  have lk' : k < S1.length := (List.getElem?_eq_some_iff.mp e2').1
  have g0 : getD (.lst t) (.int 0) S1 = .ok (.lst k) S1 := get_l e1' rfl
  have g1 : getD (.lst t) (.int 1) S1 = .ok (.int a) S1 := get_l e1' rfl
  have g2 : getD (.lst t) (.int 2) S1 = .ok (.int sd) S1 := get_l e1' rfl
  have g3' : getD (.lst t) (.int 3) S1 = .ok (.int (n + 1)) S1 := get_l e1' rfl
  have ln : lenD [.lst k] S1 = .ok (.int xs.length) S1 := by rw [len_l e2']; simp
  -- the rest behind the first test
  have rest : ∀ (S2 : Sto) (a2 : Int) (q : Option D), S2[t]? = some ⟨false, [.lst k, .int a2, .int sd, .int (n + 1)]⟩ → (∃ ys : List Int, S2[k]? = some ⟨false, ys.map D.int⟩) → Sm S S2 t k → ∃ r S', fin (tk_b [some (.lst t), some (.int m), q, none] S2) = .ok (.int r) S' ∧ 0 ≤ r ∧ r < m ∧ Tp S' t k ∧ Sm S S' t k := by
    intro S2 a2 q h1 h2 sm
    have h0 : DL.getD (.lst t) (.int 1) S2 = .ok (.int a2) S2 := get_l h1 rfl
    have h02 : DL.getD (.lst t) (.int 2) S2 = .ok (.int sd) S2 := get_l h1 rfl
    have h03 : DL.getD (.lst t) (.int 3) S2 = .ok (.int (n + 1)) S2 := get_l h1 rfl
    have hs : ∀ d, setD (.lst t) (.int 1) d S2 = some (S2.set t ⟨false, [.lst k, d, .int sd, .int (n + 1)]⟩) := fun d => set_l h1 (by decide) (by simp)
    have lt2 : t < S2.length := (List.getElem?_eq_some_iff.mp h1).1
    by_cases c : 0 < a2
    · refine ⟨a2 % m, S2.set t ⟨false, [.lst k, .int (a2 / m), .int sd, .int (n + 1)]⟩, ?_, Int.emod_nonneg _ (by omega), Int.emod_lt_of_pos _ hm, ⟨?_, ne⟩, sm.trans (Sm.set (.inl rfl))⟩
      · simp [tk_b, h0, c, mod_ii hm, div_ii hm hm2, hs]
      · obtain ⟨ys, h2⟩ := h2
        exact ⟨_, _, _, ys, List.getElem?_set_self lt2, by rw [List.getElem?_set_ne ne]; exact h2⟩
    · obtain ⟨r, hr⟩ := mixed_ok (c := sd) (t := n + 1) (S := S2)
      refine ⟨r % m, S2, ?_, Int.emod_nonneg _ (by omega), Int.emod_lt_of_pos _ hm, ⟨?_, ne⟩, sm⟩
      · simp [tk_b, h0, h02, h03, c, hr, mod_ii hm]
      · obtain ⟨ys, h2⟩ := h2
        exact ⟨_, _, _, ys, h1, h2⟩
  show ∃ r S', fnB 4 (sq (ss (o2 addD (o2 DL.getD (vr 0) (cn (.int 3))) (cn (.int 1))) (vr 0) (cn (.int 3)) setD) (sq tk_a tk_b)) [.lst t, .int m] S = .ok (.int r) S' ∧ _
  rw [fnB_ap, sq_ap]
  have st1 : ss (o2 addD (o2 DL.getD (vr 0) (cn (.int 3))) (cn (.int 1))) (vr 0) (cn (.int 3)) setD ([D.lst t, D.int m].map some ++ List.replicate (4 - [D.lst t, D.int m].length) none) S = .nx [some (.lst t), some (.int m), none, none] S1 := by
    simp [g3, s3]
  rw [st1]
  by_cases c : a = 0 ∧ 0 < xs.length
  · obtain ⟨c1, c2⟩ := c
    cases xs with
    | nil => simp at c2
    | cons x ys =>
      have pp : popD (.lst k) [.int 0] S1 = .ok (.int x) (S1.set k ⟨false, ys.map D.int⟩) := by
        simp only [popD, e2']
        simp
      have il : isLst (.lst k) S1 = true := by simp only [isLst, e2']
      have q1 : (S1.set k ⟨false, ys.map D.int⟩)[t]? = some ⟨false, [.lst k, .int a, .int sd, .int (n + 1)]⟩ := by rw [List.getElem?_set_ne (Ne.symm ne)]; exact e1'
      have q2 : (S1.set k ⟨false, ys.map D.int⟩)[k]? = some ⟨false, ys.map D.int⟩ := List.getElem?_set_self lk'
      have sm2 : Sm S (S1.set k ⟨false, ys.map D.int⟩) t k := sm1.trans (Sm.set (.inr rfl))
      generalize hS2 : S1.set k ⟨false, ys.map D.int⟩ = S2 at *
      have g3'' : DL.getD (.lst t) (.int 3) S2 = .ok (.int (n + 1)) S2 := get_l q1 rfl
      by_cases c3 : x < 1000000000000000000
      · obtain ⟨r, hr⟩ := mixed_ok (c := x) (t := n + 1) (S := S2)
        refine ⟨r % m, S2, ?_, Int.emod_nonneg _ (by omega), Int.emod_lt_of_pos _ hm, ⟨⟨_, _, _, ys, q1, q2⟩, ne⟩, sm2⟩
        simp [tk_a, g0, g1, c1, ln, il, pp, c3, g3'', hr, mod_ii hm]
      · have lt2 : t < S2.length := (List.getElem?_eq_some_iff.mp q1).1
        have hs : setD (.lst t) (.int 1) (.int x) S2 = some (S2.set t ⟨false, [.lst k, .int x, .int sd, .int (n + 1)]⟩) := set_l q1 (by decide) (by simp)
        obtain ⟨r, S', h1, h2, h3, h4, h5⟩ := rest (S2.set t ⟨false, [.lst k, .int x, .int sd, .int (n + 1)]⟩) x (some (.int x)) (List.getElem?_set_self lt2) ⟨ys, by rw [List.getElem?_set_ne ne]; exact q2⟩ (sm2.trans (Sm.set (.inl rfl)))
        refine ⟨r, S', ?_, h2, h3, h4, h5⟩
        rw [← h1]
        have st2 : tk_a [some (.lst t), some (.int m), none, none] S1 = .nx [some (.lst t), some (.int m), some (.int x), none] (S2.set t ⟨false, [.lst k, .int x, .int sd, .int (n + 1)]⟩) := by
          simp [tk_a, g0, g1, c1, ln, il, pp, c3, hs]
        show fin (sq tk_a tk_b [some (.lst t), some (.int m), none, none] S1) = _
        rw [sq_ap, st2]
  · obtain ⟨r, S', h1, h2, h3, h4, h5⟩ := rest S1 a none e1' ⟨xs, e2'⟩ sm1
    refine ⟨r, S', ?_, h2, h3, h4, h5⟩
    rw [← h1]
    have st2 : tk_a [some (.lst t), some (.int m), none, none] S1 = .nx [some (.lst t), some (.int m), none, none] S1 := by
      by_cases ca : a = 0
      · have : ¬ 0 < xs.length := fun z => c ⟨ca, z⟩
        simp [tk_a, g0, g1, ca, ln, this]
      · simp [tk_a, g1, ca]
    show fin (sq tk_a tk_b [some (.lst t), some (.int m), none, none] S1) = _
    rw [sq_ap, st2]
theorem whN_succ {c : Ev Bool} {b : Sv} {n : Nat} {ρ : Lc} {S : Sto} : whN c b (n + 1) ρ S = bindS (c ρ S) ρ fun t S1 => if t = true then (match b ρ S1 with
        | .nx ρ2 S2 => whN c b n ρ2 S2
        | .ct ρ2 S2 => whN c b n ρ2 S2
        | .bk ρ2 S2 => .nx ρ2 S2
        | .rt d S2 => .rt d S2
        | .exc x ρ2 S2 => .exc x ρ2 S2
        | .bad => .bad) else .nx ρ S1 := rfl
theorem Tp.app {S : Sto} {t k : Nat} {c : Cell} (h : Tp S t k) : Tp (S ++ [c]) t k := by
  obtain ⟨⟨a, sd, n, xs, e1, e2⟩, ne⟩ := h
  have lt : t < S.length := (List.getElem?_eq_some_iff.mp e1).1
  have lk : k < S.length := (List.getElem?_eq_some_iff.mp e2).1
  exact ⟨⟨a, sd, n, xs, by rw [List.getElem?_append_left lt]; exact e1, by rw [List.getElem?_append_left lk]; exact e2⟩, ne⟩
theorem Tp.lt {S : Sto} {t k : Nat} (h : Tp S t k) : t < S.length ∧ k < S.length := by
  obtain ⟨⟨a, sd, n, xs, e1, e2⟩, ne⟩ := h
  exact ⟨(List.getElem?_eq_some_iff.mp e1).1, (List.getElem?_eq_some_iff.mp e2).1⟩
theorem Tp.set {S : Sto} {t k q : Nat} {c : Cell} (h : Tp S t k) (h1 : q ≠ t) (h2 : q ≠ k) : Tp (S.set q c) t k := by
  obtain ⟨⟨a, sd, n, xs, e1, e2⟩, ne⟩ := h
  exact ⟨⟨a, sd, n, xs, by rw [List.getElem?_set_ne h1]; exact e1, by rw [List.getElem?_set_ne h2]; exact e2⟩, ne⟩
theorem large_loop {t k : Nat} {m : Int} : ∀ (n j : Nat) (S : Sto) (fnd sz : Int), Tp S t k → 0 < sz → m ≤ sz * 1000000 ^ n → n < j →
    ∃ f' z' S', whN lc__law_large_1 lb__law_large_1 j [some (.lst t), some (.int m), some (.int fnd), some (.int sz)] S = .nx [some (.lst t), some (.int m), some (.int f'), some (.int z')] S' ∧ Tp S' t k ∧ Sm S S' t k
  | n, 0, S, fnd, sz, _, _, _, h => absurd h (Nat.not_lt_zero _)
  | n, j + 1, S, fnd, sz, h, h0, hm, hj => by
    rw [whN_succ]
    by_cases c : sz < m
    · cases n with
      | zero => simp at hm; omega
      | succ n =>
        obtain ⟨r, S1, e, _, _, t1, s1⟩ := take_ok (m := 1000000) h (by decide) (by decide)
        obtain ⟨f', z', S2, e2, t2, s2⟩ := large_loop n j S1 (fnd * 1000000 + r) (sz * 1000000) t1 (by omega) (by rw [Int.pow_succ] at hm; rw [Int.mul_assoc, Int.mul_comm 1000000]; exact hm) (by omega)
        refine ⟨f', z', S2, ?_, t2, s1.trans s2⟩
        rw [← e2]
        simp [lc__law_large_1, c, lb__law_large_1, mul_r, e]
    · exact ⟨fnd, sz, S, by simp [lc__law_large_1, c], h, .refl⟩
theorem large_ok {S : Sto} {t k : Nat} {m : Int} (h : Tp S t k) (hm : 0 < m) (hm2 : m < 2 ^ 200) : ∃ r S', f__law_large [.lst t, .int m] S = .ok (.int r) S' ∧ 0 ≤ r ∧ r < m ∧ Tp S' t k ∧ Sm S S' t k := by
  obtain ⟨f', z', S', e, t1, s1⟩ := large_loop (m := m) 40 1000 S 0 1 h (by decide) (by have : (2 : Int) ^ 200 ≤ 1 * 1000000 ^ 40 := (by decide); omega) (by decide)
  refine ⟨f' % m, S', ?_, Int.emod_nonneg _ (by omega), Int.emod_lt_of_pos _ hm, t1, s1⟩
  simp [f__law_large, fnB, b__law_large, e, mod_ii hm]
structure Kp (S S' : Sto) (t k : Nat) : Prop where
  len : S.length ≤ S'.length
  get : ∀ i, i < S.length → i ≠ t → i ≠ k → S'[i]? = S[i]?
theorem Kp.refl {S : Sto} {t k : Nat} : Kp S S t k := ⟨Nat.le_refl _, fun _ _ _ _ => rfl⟩
theorem Kp.trans {S S1 S2 : Sto} {t k : Nat} (a : Kp S S1 t k) (b : Kp S1 S2 t k) : Kp S S2 t k := ⟨Nat.le_trans a.len b.len, fun i h h1 h2 => (b.get i (Nat.lt_of_lt_of_le h a.len) h1 h2).trans (a.get i h h1 h2)⟩
theorem Kp.set {S : Sto} {t k j : Nat} {c : Cell} (h : j = t ∨ j = k) : Kp S (S.set j c) t k := ⟨by simp, fun i _ h1 h2 => by
  rw [List.getElem?_set_ne]
  rcases h with h | h
  · rw [h]; exact Ne.symm h1
  · rw [h]; exact Ne.symm h2⟩
theorem Kp.app {S : Sto} {t k : Nat} {c : Cell} : Kp S (S ++ [c]) t k := ⟨by simp, fun i h _ _ => by rw [List.getElem?_append_left h]⟩
theorem Kp.at {S S' : Sto} {t k q : Nat} {c : Cell} (a : Kp S S' t k) (e : S[q]? = some c) (h1 : q ≠ t) (h2 : q ≠ k) : S'[q]? = some c := (a.get q (List.getElem?_eq_some_iff.mp e).1 h1 h2).trans e
theorem app_at {S : Sto} {c : Cell} : (S ++ [c])[S.length]? = some c := by rw [List.getElem?_append_right (Nat.le_refl _)]; simp
theorem app_old {S : Sto} {c d : Cell} {q : Nat} (e : S[q]? = some d) : (S ++ [c])[q]? = some d := by
  rw [List.getElem?_append_left (List.getElem?_eq_some_iff.mp e).1]; exact e
theorem fin_nx {f g : Sv} {ρ ρ' : Lc} {S S' : Sto} (h : f ρ S = .nx ρ' S') : fin (sq f g ρ S) = fin (g ρ' S') := by rw [sq_ap, h]
theorem fin_ret {f g : Sv} {ρ : Lc} {S S' : Sto} {d : D} (h : f ρ S = .rt d S') : fin (sq f g ρ S) = .ok d S' := by rw [sq_ap, h]; rfl
theorem Sm.kp {S S' : Sto} {t k : Nat} (s : Sm S S' t k) : Kp S S' t k := ⟨Nat.le_of_eq s.len.symm, fun i _ h1 h2 => s.get i h1 h2⟩
theorem draw {S : Sto} {t k : Nat} {m : Int} (h : Tp S t k) (hm : 0 < m) (hm2 : m < 2 ^ 200) : ∃ r S', f__law_take [.lst t, .int m] S = .ok (.int r) S' ∧ 0 ≤ r ∧ r < m ∧ Tp S' t k ∧ Kp S S' t k := by
  obtain ⟨r, S', e, a, b, c, d⟩ := take_ok h hm hm2
  exact ⟨r, S', e, a, b, c, d.kp⟩
theorem pick {S S1 : Sto} {t k : Nat} {xs : List D} {r : Int} {x : D} (s : Kp (S ++ [⟨false, xs⟩]) S1 t k) (h : t < S.length ∧ k < S.length) (e : atI xs r = some x) : DL.getD (.lst S.length) (.int r) S1 = .ok x S1 :=
  get_l (c := ⟨false, xs⟩) (s.at app_at (by omega) (by omega)) e
theorem pick_ok {S : Sto} {t k : Nat} {xs : List D} {m : Int} (h : Tp S t k) (hm : m = xs.length) (h0 : 0 < xs.length) (h1 : xs.length < 1000) : ∃ r x S1, f__law_take [.lst t, .int m] (S ++ [⟨false, xs⟩]) = .ok (.int r) S1 ∧ DL.getD (.lst S.length) (.int r) S1 = .ok x S1 ∧ x ∈ xs ∧ Tp S1 t k ∧ Kp S S1 t k := by
  obtain ⟨r, S1, e1, r0, r1, d1, k1⟩ := draw (m := m) (h.app (c := ⟨false, xs⟩)) (by omega) (by omega)
  have hlt : r.toNat < xs.length := by omega
  have ea : atI xs r = some xs[r.toNat] := atI_nn r0 (by simp [hlt])
  exact ⟨r, _, S1, e1, pick k1 h.lt ea, List.getElem_mem hlt, d1, Kp.app.trans k1⟩
inductive Pl where
  | e | c | p (br de ro : Int) (pr : D)
def Pl.toD : Pl → D
  | .e => .tup [.str "end"]
  | .c => .tup [.str "chamber"]
  | .p br de ro pr => .tup [.str "pound", .int br, .int de, .int ro, pr]
def Pl.ok : Pl → Prop
  | .p br de ro pr => 1 ≤ br ∧ br ≤ 9 ∧ 0 ≤ de ∧ de ≤ br ∧ 1 ≤ ro ∧ ro ≤ 4 ∧ (pr = .non ∨ ∃ i, pr = .int i ∧ 0 ≤ i ∧ i ≤ 99)
  | _ => True
theorem app_l {S : Sto} {q : Nat} {xs : List D} {d : D} (e : S[q]? = some ⟨false, xs⟩) (h : xs.length < 1000000) : appD (.lst q) [d] S = .ok .non (S.set q ⟨false, xs ++ [d]⟩) := by
  simp only [appD, e]
  simp [h]
theorem isL {S : Sto} {q : Nat} {c : Cell} (e : S[q]? = some c) : isLst (.lst q) S = true := by simp only [isLst, e]
theorem for_inv {nxt : Nat → Sto → Option D} {g : Tg} {b : Sv} {l : List D} (I : Nat → Lc → Sto → Prop) (hn : ∀ k ρ S, I k ρ S → nxt k S = l[k]?) (hs : ∀ k d ρ S, l[k]? = some d → I k ρ S → ∃ ρ1 ρ2 S2, g d ρ = some ρ1 ∧ b ρ1 S = .nx ρ2 S2 ∧ I (k + 1) ρ2 S2) :
    ∀ (n k : Nat) (ρ : Lc) (S : Sto), k ≤ l.length → I k ρ S → l.length < n + k → ∃ ρ' S', forN nxt g b n k ρ S = .nx ρ' S' ∧ I l.length ρ' S'
  | 0, k, ρ, S, h1, _, h2 => by omega
  | n + 1, k, ρ, S, h1, hI, h2 => by
    unfold forN
    rw [hn k ρ S hI]
    cases z : l[k]? with
    | none =>
      have : k = l.length := by have := List.getElem?_eq_none_iff.mp z; omega
      subst this
      exact ⟨ρ, S, rfl, hI⟩
    | some d =>
      obtain ⟨ρ1, ρ2, S2, h3, h4, h5⟩ := hs k d ρ S z hI
      have hk : k < l.length := (List.getElem?_eq_some_iff.mp z).1
      obtain ⟨ρ', S', h6, h7⟩ := for_inv I hn hs n (k + 1) ρ2 S2 hk h5 (by omega)
      refine ⟨ρ', S', ?_, h7⟩
      simp only [h3, h4]
      exact h6
def srcT (l : List D) : Src := ⟨fun k _ => l[k]?, l.length + 1⟩
def srcL (i n : Nat) : Src := ⟨fun k S => (S[i]?).bind fun c => c.xs[k]?, n + 1⟩
theorem src_t {l : List D} {S : Sto} : srcOf (.tup l) S = .ok (srcT l) S := id rfl
theorem src_l {i : Nat} {c : Cell} {S : Sto} (e : S[i]? = some c) : srcOf (.lst i) S = .ok (srcL i c.xs.length) S := by
  simp only [srcOf, e]
  rfl
theorem fuelT {l : List D} : l.length < (srcT l).fuel + 0 := Nat.lt_succ_self _
theorem rng_get {n k : Nat} {S : Sto} : (rsrc 0 n).nxt k S = ((List.range n).map fun k : Nat => D.int (k : Int))[k]? := by
  show (if k < n then some (D.int (0 + k)) else none) = _
  rw [List.getElem?_map]
  by_cases c : k < n
  · rw [if_pos c, List.getElem?_range c]; simp
  · rw [if_neg c, List.getElem?_eq_none (by simp; omega)]; rfl
theorem rng_of {n k : Nat} {d : D} (h : ((List.range n).map fun k : Nat => D.int (k : Int))[k]? = some d) : k < n ∧ d = .int k := by
  have hk : k < n := by have := (List.getElem?_eq_some_iff.mp h).1; simpa using this
  rw [List.getElem?_map, List.getElem?_range hk] at h
  exact ⟨hk, (Option.some.inj h).symm⟩
theorem ir1_ok {f : Ev (List D)} {ρ : Lc} {S S' : Sto} {n : Nat} (h : f ρ S = .ok [.int n] S') (hn : n ≤ 1000000) : ir1 f ρ S = .ok (rsrc 0 n) S' := by
  unfold ir1
  rw [h]
  show (if -1000000000000 ≤ (n : Int) ∧ (n : Int) ≤ 1000000000000 then Out.ok (rsrc 0 (n : Int).toNat) S' else .bad) = _
  rw [if_pos (by omega)]; rfl
theorem Kp.setq {S0 S : Sto} {t k q : Nat} {c : Cell} (a : Kp S0 S t k) (h : S0.length ≤ q) : Kp S0 (S.set q c) t k := ⟨by simp; exact a.len, fun i hi h1 h2 => by
  rw [List.getElem?_set_ne (by omega)]; exact a.get i hi h1 h2⟩
theorem add_ll {S : Sto} {i j : Nat} {a b : List D} (h1 : S[i]? = some ⟨false, a⟩) (h2 : S[j]? = some ⟨false, b⟩) (h : a.length + b.length ≤ 1000000) : addD (.lst i) (.lst j) S = .ok (.lst S.length) (S ++ [⟨false, a ++ b⟩]) := by
  simp only [addD, h1, h2]
  simp [h]
theorem tup_l {S : Sto} {q : Nat} {c : Cell} (e : S[q]? = some c) : tupD [.lst q] S = .ok (.tup c.xs) S := by
  simp only [tupD, e]
def Pl.isC : Pl → Bool
  | .c => true
  | _ => false
def Pl.isE : Pl → Bool
  | .e => true
  | _ => false
theorem stok (s : String) : PyData.strOk (Str.ofString s) = true := by
  unfold PyData.strOk
  have hc : ∀ c : Char, c.toNat < 1114112 := fun c => by
    rcases c.valid with h | ⟨_, h⟩
    · exact Nat.lt_of_lt_of_le h (by decide)
    · exact h
  rw [Str.ofString_eq_toList]
  simp [hc]
theorem eq_cham {p : Pl} {S : Sto} (h : p.ok) : eqD p.toD (.tup [.str "chamber"]) S = .ok (.bl p.isC) S := by
  have n1 : (Str.ofString "end" == Str.ofString "chamber") = false := by decide +kernel
  have n2 : (Str.ofString "pound" == Str.ofString "chamber") = false := by decide +kernel
  cases p with
  | e => simp [Pl.toD, eqD, toP, mapO, SeqAt.shaped, PyData.canLay0, PyData.canLayAll0, PyData.depth, PyData.depthAll, stok, PyData.eqv, PyData.eqvAll, n1, Pl.isC]
  | c => simp [Pl.toD, eqD, toP, mapO, SeqAt.shaped, PyData.canLay0, PyData.canLayAll0, PyData.depth, PyData.depthAll, stok, PyData.eqv, PyData.eqvAll, Pl.isC]
  | p br de ro pr =>
    obtain ⟨_, _, _, _, _, _, h⟩ := h
    rcases h with rfl | ⟨i, rfl, _⟩
    · simp [Pl.toD, eqD, toP, mapO, SeqAt.shaped, PyData.canLay0, PyData.canLayAll0, PyData.depth, PyData.depthAll, stok, PyData.eqv, PyData.eqvAll, n2, Pl.isC]
    · simp [Pl.toD, eqD, toP, mapO, SeqAt.shaped, PyData.canLay0, PyData.canLayAll0, PyData.depth, PyData.depthAll, stok, PyData.eqv, PyData.eqvAll, n2, Pl.isC]
theorem eq_end {p : Pl} {S : Sto} (h : p.ok) : eqD p.toD (.tup [.str "end"]) S = .ok (.bl p.isE) S := by
  have n1 : (Str.ofString "chamber" == Str.ofString "end") = false := by decide +kernel
  have n2 : (Str.ofString "pound" == Str.ofString "end") = false := by decide +kernel
  cases p with
  | e => simp [Pl.toD, eqD, toP, mapO, SeqAt.shaped, PyData.canLay0, PyData.canLayAll0, PyData.depth, PyData.depthAll, stok, PyData.eqv, PyData.eqvAll, Pl.isE]
  | c => simp [Pl.toD, eqD, toP, mapO, SeqAt.shaped, PyData.canLay0, PyData.canLayAll0, PyData.depth, PyData.depthAll, stok, PyData.eqv, PyData.eqvAll, n1, Pl.isE]
  | p br de ro pr =>
    obtain ⟨_, _, _, _, _, _, h⟩ := h
    rcases h with rfl | ⟨i, rfl, _⟩
    · simp [Pl.toD, eqD, toP, mapO, SeqAt.shaped, PyData.canLay0, PyData.canLayAll0, PyData.depth, PyData.depthAll, stok, PyData.eqv, PyData.eqvAll, n2, Pl.isE]
    · simp [Pl.toD, eqD, toP, mapO, SeqAt.shaped, PyData.canLay0, PyData.canLayAll0, PyData.depth, PyData.depthAll, stok, PyData.eqv, PyData.eqvAll, n2, Pl.isE]
theorem of_map {l : List Int} {k : Nat} {d : D} (h : (l.map D.int)[k]? = some d) : ∃ i, d = .int i ∧ l[k]? = some i := by
  rw [List.getElem?_map] at h
  cases z : l[k]? with
  | none => rw [z] at h; cases h
  | some i => rw [z] at h; cases h; exact ⟨i, rfl, rfl⟩
theorem sl_l {S : Sto} {q : Nat} {c : Cell} {lo hi : Option Int} (e : S[q]? = some c) : slD2 (.lst q) lo hi S = .ok (.lst S.length) (S ++ [⟨false, DL.cutD c.xs lo hi⟩]) := by
  simp only [slD2, e]
theorem list_l {S : Sto} {q : Nat} {c : Cell} (e : S[q]? = some c) : listD [.lst q] S = .ok (.lst S.length) (S ++ [⟨false, c.xs⟩]) := by
  simp only [listD, e]
theorem cut_map {ns : List Int} {lo hi : Option Int} : ∃ ys : List Int, DL.cutD (ns.map D.int) lo hi = ys.map D.int :=
  ⟨(ns.drop (HT.sIx (ns.map D.int).length 0 lo)).take (HT.sIx (ns.map D.int).length (ns.map D.int).length hi - HT.sIx (ns.map D.int).length 0 lo), by unfold DL.cutD; rw [List.map_take, List.map_drop]⟩
theorem tape_ok {S : Sto} {q : Nat} {fz : Bool} {ns : List Int} (e : S[q]? = some ⟨fz, ns.map D.int⟩) : ∃ (t k : Nat) (S' : Sto), f__law_tape [.lst q] S = .ok (.lst t) S' ∧ Tp S' t k := by
  obtain ⟨ys, hy⟩ := cut_map (ns := ns) (lo := none) (hi := some 63)
  have s1 : slD2 (.lst q) none (some 63) S = .ok (.lst S.length) (S ++ [⟨false, ys.map D.int⟩]) := by rw [sl_l e, hy]
  have q1 : (S ++ [⟨false, ys.map D.int⟩])[S.length]? = some (⟨false, ys.map D.int⟩ : Cell) := app_at
  have e1 := app_old (c := ⟨false, ys.map D.int⟩) e
  generalize hS1 : S ++ [⟨false, ys.map D.int⟩] = S1 at *
  have hsrc : srcOf (.lst S.length) S1 = .ok (srcL S.length (ys.map D.int).length) S1 := src_l q1
  obtain ⟨ρ', S', ef, sd, g, e2, e3⟩ := for_inv (nxt := (srcL S.length (ys.map D.int).length).nxt) (g := gn 2) (b := lb__law_tape_1) (l := ys.map D.int) (fun k ρ S' => ∃ sd g, ρ = [some (.lst q), some (.int sd), g] ∧ S' = S1)
    (fun k ρ S2 ⟨_, _, _, h⟩ => by
      subst h
      show (S2[S.length]?).bind (fun c => c.xs[k]?) = _
      rw [q1]; rfl) (fun k d ρ S2 hd ⟨sd, g, h1, h2⟩ => by
      obtain ⟨i, rfl, _⟩ := of_map hd
      subst h1 h2
      exact ⟨_, [some (.lst q), some (.int ((sd * 69621 + i) % 2147483647)), some (.int i)], _, rfl, by simp [lb__law_tape_1, mul_r, mod_ii], _, _, rfl, rfl⟩) (srcL S.length (ys.map D.int).length).fuel 0 [some (.lst q), some (.int 0), none] S1 (Nat.zero_le _) ⟨0, none, rfl, rfl⟩ (Nat.lt_succ_self _)
  subst e2 e3
  have s2 : slD2 (.lst q) none (some 63) S' = .ok (.lst S'.length) (S' ++ [⟨false, ys.map D.int⟩]) := by rw [sl_l e1, hy]
  have q2 : (S' ++ [⟨false, ys.map D.int⟩])[S'.length]? = some (⟨false, ys.map D.int⟩ : Cell) := app_at
  generalize hS2 : S' ++ [⟨false, ys.map D.int⟩] = S2 at *
  have s3 := list_l q2
  have q3 : (S2 ++ [⟨false, ys.map D.int⟩])[S2.length]? = some (⟨false, ys.map D.int⟩ : Cell) := app_at
  have l3 : (S2 ++ [(⟨false, ys.map D.int⟩ : Cell)]).length = S2.length + 1 := by simp
  have s3 : listD [.lst S'.length] S2 = .ok (.lst S2.length) (S2 ++ [⟨false, ys.map D.int⟩]) := s3
  generalize hS3 : S2 ++ [⟨false, ys.map D.int⟩] = S3 at *
  refine ⟨S3.length, S2.length, S3 ++ [⟨false, [.lst S2.length, .int 0, .int sd, .int 0]⟩], ?_, ⟨⟨0, sd, 0, ys, app_at, app_old q3⟩, by omega⟩⟩
  refine (fnB_ap (m := 3) (b := b__law_tape)).trans ?_
  show fin (b__law_tape [some (.lst q), none, none] S) = _
  unfold b__law_tape
  refine (fin_nx (ρ' := [some (.lst q), some (.int 0), none]) (S' := S) (by simp)).trans ?_
  refine (fin_nx (ρ' := [some (.lst q), some (.int sd), g]) (S' := S') ?_).trans ?_
  · simp [s1, hsrc, -List.length_map]
    exact ef
  · simp [s2, s3]
end Law
set_option Elab.async false
set_option linter.all false
set_option maxRecDepth 100000
namespace Law
open PySem PySem.Spec PyProof.Rows L2 DL
theorem sif_t {c : Ev Bool} {f g : Sv} {ρ : Lc} {S S1 : Sto} (h : c ρ S = .ok true S1) : sif c f g ρ S = f ρ S1 := by
  rw [sif_ap, h, bindS_ok, if_pos rfl]
theorem sif_f {c : Ev Bool} {f g : Sv} {ρ : Lc} {S S1 : Sto} (h : c ρ S = .ok false S1) : sif c f g ρ S = g ρ S1 := by
  rw [sif_ap, h, bindS_ok, if_neg (by decide)]
theorem sq_nx {f g : Sv} {ρ ρ' : Lc} {S S1 : Sto} (h : f ρ S = .nx ρ' S1) : sq f g ρ S = g ρ' S1 := by rw [sq_ap, h]
theorem places_step {S0 S : Sto} {t k q : Nat} {many : Int} {ps : List Pl} {i : Nat} {x4 x5 x6 x7 : Option D} (hd : Tp S t k) (hk : Kp S0 S t k) (hq : S0.length ≤ q) (hqt : q ≠ t) (hqk : q ≠ k) (eq' : S[q]? = some ⟨false, ps.map Pl.toD⟩) (hp : ∀ p ∈ ps, p.ok) (hne : ps ≠ []) (hl : ps.length < 1000) :
    ∃ p S' y4 y5 y6 y7, lb__law_places_1 [some (.lst t), some (.int many), some (.lst q), some (.int i), x4, x5, x6, x7] S = .nx [some (.lst t), some (.int many), some (.lst q), some (.int i), y4, y5, y6, y7] S' ∧ Pl.ok p ∧ p.isE = false ∧ S'[q]? = some ⟨false, (ps ++ [p]).map Pl.toD⟩ ∧ Tp S' t k ∧ Kp S0 S' t k := by
  have hlast : DL.getD (.lst q) (.int (-1)) S = .ok (Pl.toD (ps.getLast hne)) S := by
    refine get_l eq' ?_
    have : 0 < ps.length := List.length_pos_iff.mpr hne
    show (ixN (ps.map Pl.toD).length (-1)).bind (fun j => (ps.map Pl.toD)[j]?) = _
    unfold ixN
    rw [if_neg (by decide), if_pos (by simp; omega), Option.bind_some]
    have : ((-1 : Int) + ((ps.map Pl.toD).length : Nat)).toNat = ps.length - 1 := by simp; omega
    rw [this, List.getElem?_map, List.getElem?_eq_getElem (by omega), List.getLast_eq_getElem]
    rfl
  have ec := eq_cham (S := S) (hp _ (List.getLast_mem hne))
  obtain ⟨b, S1, et, d1, k1⟩ : ∃ (b : Bool) (S1 : Sto), ta (tb (o2 eqD (o2 DL.getD (vr 2) (o1 negD (cn (.int 1)))) (tp (ac (cn (.str "chamber")) an)))) (ta (tb (o2 ltD (vr 3) (o2 subD (vr 1) (cn (.int 1))))) (tb (o2 gtD (cl 2 (noExc f__law_take) (ac (vr 0) (ac (cn (.int 3)) an))) (cn (.int 0))))) [some (.lst t), some (.int many), some (.lst q), some (.int i), x4, x5, x6, x7] S = .ok b S1 ∧ Tp S1 t k ∧ Kp S S1 t k := by
    cases c1 : (ps.getLast hne).isC with
    | false => rw [c1] at ec; exact ⟨false, S, by simp [hlast, ec], hd, .refl⟩
    | true =>
      rw [c1] at ec
      by_cases c2 : (i : Int) < many - 1
      · obtain ⟨r, S1, e1, r0, r1, d1, k1⟩ := draw (m := 3) hd (by decide) (by decide)
        exact ⟨decide (0 < r), S1, by simp [hlast, ec, c2, e1], d1, k1⟩
      · exact ⟨false, S, by simp [hlast, ec, c2], hd, .refl⟩
  have q1 := k1.at eq' hqt hqk
  unfold lb__law_places_1
  cases b with
  | false =>
    rw [sif_f et]
    have ap := app_l (d := .tup [.str "chamber"]) q1 (by simp; omega)
    have lq : q < S1.length := (List.getElem?_eq_some_iff.mp q1).1
    refine ⟨.c, S1.set q ⟨false, ps.map Pl.toD ++ [.tup [.str "chamber"]]⟩, x4, x5, x6, x7, by simp [isL q1, ap], trivial, rfl, ?_, d1.set hqt hqk, (hk.trans k1).setq hq⟩
    rw [List.getElem?_set_self lq, List.map_append]; rfl
  | true =>
    rw [sif_t et]
    obtain ⟨a, S2, e2, a0, a1, d2, k2⟩ := draw (m := 9) d1 (by decide) (by decide)
    obtain ⟨b, S3, e3, b0, b1, d3, k3⟩ := draw (m := 1 + a + 1) d2 (by omega) (by omega)
    obtain ⟨c, S4, e4, c0, c1, d4, k4⟩ := draw (m := 4) d3 (by decide) (by decide)
    obtain ⟨e, S5, e5, p0, p1, d5, k5⟩ := draw (m := 134) d4 (by decide) (by decide)
    have q5 := (((k2.trans k3).trans k4).trans k5).at q1 hqt hqk
    have lq : q < S5.length := (List.getElem?_eq_some_iff.mp q5).1
    obtain ⟨pr, epr, hpr⟩ : ∃ pr : D, ie (tb (o2 ltD (vr 7) (cn (.int 100)))) (vr 7) (cn .non) [some (.lst t), some (.int many), some (.lst q), some (.int i), some (.int (1 + a)), some (.int b), some (.int (1 + c)), some (.int e)] S5 = .ok pr S5 ∧ (pr = .non ∨ ∃ i : Int, pr = .int i ∧ 0 ≤ i ∧ i ≤ 99) := by
      by_cases h : e < 100
      · exact ⟨.int e, by simp [h], .inr ⟨e, rfl, p0, by omega⟩⟩
      · exact ⟨.non, by simp [h], .inl rfl⟩
    have ap := app_l (d := Pl.toD (.p (1 + a) b (1 + c) pr)) q5 (by simp; omega)
    refine ⟨.p (1 + a) b (1 + c) pr, S5.set q ⟨false, ps.map Pl.toD ++ [Pl.toD (.p (1 + a) b (1 + c) pr)]⟩, some (.int (1 + a)), some (.int b), some (.int (1 + c)), some (.int e), ?_, ⟨by omega, by omega, b0, by omega, by omega, by omega, hpr⟩, rfl, ?_, d5.set hqt hqk, ((((( hk.trans k1).trans k2).trans k3).trans k4).trans k5).setq hq⟩
    · rw [sq_nx (ρ' := [some (.lst t), some (.int many), some (.lst q), some (.int i), some (.int (1 + a)), x5, x6, x7]) (S1 := S2) (by simp [e2])]
      rw [sq_nx (ρ' := [some (.lst t), some (.int many), some (.lst q), some (.int i), some (.int (1 + a)), some (.int b), x6, x7]) (S1 := S3) (by simp [e3])]
      rw [sq_nx (ρ' := [some (.lst t), some (.int many), some (.lst q), some (.int i), some (.int (1 + a)), some (.int b), some (.int (1 + c)), x7]) (S1 := S4) (by simp [e4])]
      rw [sq_nx (ρ' := [some (.lst t), some (.int many), some (.lst q), some (.int i), some (.int (1 + a)), some (.int b), some (.int (1 + c)), some (.int e)]) (S1 := S5) (by simp [e5])]
      rw [sx_ap, mt_ap, vr_ap]
      simp only [List.getElem?_cons_zero, List.getElem?_cons_succ, bind_ok, isL q5, if_true, ac_ap, tp_ap, cn_ap, vr_ap, epr, an_ap, List.length_cons, List.length_nil]
      rw [if_pos (by decide), bind_ok, bind_ok]
      have ap' : appD (.lst q) [.tup [.str "pound", .int (1 + a), .int b, .int (1 + c), pr]] S5 = .ok .non (S5.set q ⟨false, ps.map Pl.toD ++ [Pl.toD (.p (1 + a) b (1 + c) pr)]⟩) := ap
      rw [ap', bindS_ok]
    · rw [List.getElem?_set_self lq, List.map_append]; rfl
theorem places_ok {S : Sto} {t k : Nat} {mn : Nat} (h : Tp S t k) (hm : mn ≤ 11) : ∃ (mid : List Pl) (S' : Sto), f__law_places [.lst t, .int mn] S = .ok (.tup ((.e :: (mid ++ [.e])).map Pl.toD)) S' ∧ (∀ p ∈ mid, p.ok ∧ p.isE = false) ∧ mid.length = mn ∧ Tp S' t k ∧ Kp S S' t k := by
  have lt := h.lt
  have q2 : (S ++ [(⟨false, [.tup [.str "end"]]⟩ : Cell)])[S.length]? = some ⟨false, [.tup [.str "end"]]⟩ := app_at
  have h2 := h.app (c := ⟨false, [.tup [.str "end"]]⟩)
  have k2 : Kp S (S ++ [(⟨false, [.tup [.str "end"]]⟩ : Cell)]) t k := Kp.app
  generalize hS2 : S ++ [(⟨false, [.tup [.str "end"]]⟩ : Cell)] = S2 at *
  obtain ⟨ρ3, S3, ef, mid, x3, x4, x5, x6, x7, eρ, q3, l3, ok3, d3, k3⟩ := for_inv (nxt := (rsrc 0 mn).nxt) (g := gn 3) (b := lb__law_places_1) (l := (List.range mn).map fun k : Nat => D.int (k : Int))
    (fun i ρ S' => ∃ mid x3 x4 x5 x6 x7, ρ = [some (.lst t), some (.int mn), some (.lst S.length), x3, x4, x5, x6, x7] ∧ S'[S.length]? = some ⟨false, (Pl.e :: mid).map Pl.toD⟩ ∧ mid.length = i ∧ (∀ p ∈ mid, p.ok ∧ p.isE = false) ∧ Tp S' t k ∧ Kp S S' t k)
    (fun i _ S _ => rng_get) (fun i d ρ S' hd ⟨mid, x3, x4, x5, x6, x7, h1, h2, h3, h4, h5, h6⟩ => by
      obtain ⟨hi, rfl⟩ := rng_of hd
      subst h1
      obtain ⟨p, S'', y4, y5, y6, y7, c1, c2, c3, c4, c5, c6⟩ := places_step (S0 := S) (q := S.length) (many := mn) (i := i) (x4 := x4) (x5 := x5) (x6 := x6) (x7 := x7) (ps := .e :: mid) h5 h6 (Nat.le_refl _) (by omega) (by omega) h2 (fun p hp => by
        rcases List.mem_cons.mp hp with rfl | hp
        · trivial
        · exact (h4 p hp).1) (by simp) (by simp; omega)
      refine ⟨_, _, S'', rfl, c1, mid ++ [p], some (.int i), y4, y5, y6, y7, rfl, c4, by simp [h3], fun p' hp' => ?_, c5, c6⟩
      rcases List.mem_append.mp hp' with hp' | hp'
      · exact h4 p' hp'
      · have : p' = p := by simpa using hp'
        subst this
        exact ⟨c2, c3⟩) (mn + 1) 0 [some (.lst t), some (.int mn), some (.lst S.length), none, none, none, none, none] S2 (Nat.zero_le _) ⟨[], none, none, none, none, none, rfl, q2, rfl, (fun p hp => by cases hp), h2, k2⟩ (by simp)
  have hlen : ((List.range mn).map fun k : Nat => D.int (k : Int)).length = mn := by simp
  rw [hlen] at l3
  subst eρ
  have lsE : ls (ac (tp (ac (cn (.str "end")) an)) an) [some (.lst t), some (.int mn), some (.lst S.length), x3, x4, x5, x6, x7] S3 = .ok (.lst S3.length) (S3 ++ [⟨false, [.tup [.str "end"]]⟩]) := by simp
  have ad := add_ll (app_old (c := ⟨false, [.tup [.str "end"]]⟩) q3) (app_at (S := S3) (c := ⟨false, [.tup [.str "end"]]⟩)) (by simp; omega)
  have tp1 := tup_l (app_at (S := S3 ++ [⟨false, [D.tup [.str "end"]]⟩]) (c := ⟨false, (Pl.e :: mid).map Pl.toD ++ [.tup [.str "end"]]⟩))
  refine ⟨mid, (S3 ++ [⟨false, [.tup [.str "end"]]⟩]) ++ [⟨false, (Pl.e :: mid).map Pl.toD ++ [.tup [.str "end"]]⟩], ?_, ok3, l3, (d3.app).app, (k3.trans Kp.app).trans Kp.app⟩
  refine (fnB_ap (m := 8) (b := b__law_places)).trans ?_
  show fin (b__law_places [some (.lst t), some (.int mn), none, none, none, none, none, none] S) = _
  unfold b__law_places
  refine (fin_nx (ρ' := [some (.lst t), some (.int mn), some (.lst S.length), none, none, none, none, none]) (S' := S2) (by rw [← hS2]; simp)).trans ?_
  refine (fin_nx (ρ' := [some (.lst t), some (.int mn), some (.lst S.length), x3, x4, x5, x6, x7]) (S' := S3) ?_).trans ?_
  · rw [sfor_ap, ir1_ok (n := mn) (S' := S2) (by simp) (by omega)]
    exact ef
  rw [sret_ap, b1_ap, ac_ap, o2_ap]
  simp only [vr_ap, List.getElem?_cons_zero, List.getElem?_cons_succ, bind_ok, lsE, ad, an_ap, tp1, bindS_ok, fin_rt]
  simp [Pl.toD]
theorem canal_ok {S : Sto} {t k : Nat} (h : Tp S t k) : ∃ (mid : List Pl) (gd : D) (S' : Sto), f__law_canal [.lst t] S = .ok (.tup [.tup ((.e :: (mid ++ [.e])).map Pl.toD), gd]) S' ∧ (∀ p ∈ mid, p.ok ∧ p.isE = false) ∧ 1 ≤ mid.length ∧ mid.length ≤ 11 ∧ Tp S' t k := by
  obtain ⟨r1, x1, S1, e1, p1, m1, d1, k1⟩ := pick_ok (xs := [.int 1, .int 4, .int 11]) (m := 3) h rfl (by simp) (by simp)
  obtain ⟨m, hm, hm0, hm1⟩ : ∃ i : Int, x1 = .int i ∧ 1 ≤ i ∧ i ≤ 11 := by
    simp only [List.mem_cons, List.not_mem_nil, or_false] at m1
    rcases m1 with rfl | rfl | rfl
    · exact ⟨_, rfl, by decide, by decide⟩
    · exact ⟨_, rfl, by decide, by decide⟩
    · exact ⟨_, rfl, by decide, by decide⟩
  subst hm
  obtain ⟨r2, S2, e2, r20, r21, d2, k2⟩ := draw (m := m) d1 (by omega) (by omega)
  obtain ⟨mn, hmn⟩ : ∃ m : Nat, 1 + r2 = m := ⟨(1 + r2).toNat, by omega⟩
  obtain ⟨mid, S3, e3, ok3, l3, d3, k3⟩ := places_ok (mn := mn) d2 (by omega)
  obtain ⟨r4, S4, e4, r40, r41, d4, k4⟩ := draw (m := (mn : Int) + 2) d3 (by omega) (by omega)
  obtain ⟨r5, S5, e5, r50, r51, d5, k5⟩ := draw (m := 2) d4 (by decide) (by decide)
  have lt5 := d5.lt
  have h6 := d5.app (c := ⟨false, []⟩)
  have q6 : (S5 ++ [(⟨false, []⟩ : Cell)])[S5.length]? = some ⟨false, []⟩ := app_at
  generalize hS6 : S5 ++ [(⟨false, []⟩ : Cell)] = S6 at *
  obtain ⟨ρ7, S7, ef, gl, x6, x7, eρ, q7, l7, d7⟩ := for_inv (nxt := (rsrc 0 (mn + 1)).nxt) (g := gn 6) (b := lb__law_canal_1) (l := (List.range (mn + 1)).map fun k : Nat => D.int (k : Int))
    (fun i ρ S' => ∃ gl x6 x7, ρ = [some (.lst t), some (.int mn), some (.tup ((.e :: (mid ++ [.e])).map Pl.toD)), some (.int r4), some (.int r5), some (.lst S5.length), x6, x7] ∧ S'[S5.length]? = some ⟨false, gl⟩ ∧ gl.length = i ∧ Tp S' t k)
    (fun i _ S _ => rng_get) (fun i d ρ S' hd ⟨gl, x6, x7, h1, h2, h3, h4⟩ => by
      obtain ⟨hi, rfl⟩ := rng_of hd
      subst h1
      obtain ⟨b, S'', eb, d'', q''⟩ : ∃ (b : Bool) (S'' : Sto), sq (sa (o2 ltD (vr 6) (vr 3)) (gn 7)) (sif (tb (o2 eqD (vr 4) (cn (.int 0)))) (sa (o2 eqD (cl 2 (noExc f__law_take) (ac (vr 0) (ac (cn (.int 2)) an))) (cn (.int 1))) (gn 7)) DL.skip) [some (.lst t), some (.int mn), some (.tup ((.e :: (mid ++ [.e])).map Pl.toD)), some (.int r4), some (.int r5), some (.lst S5.length), some (.int i), x7] S' = .nx [some (.lst t), some (.int mn), some (.tup ((.e :: (mid ++ [.e])).map Pl.toD)), some (.int r4), some (.int r5), some (.lst S5.length), some (.int i), some (.bl b)] S'' ∧ Tp S'' t k ∧ S''[S5.length]? = some ⟨false, gl⟩ := by
        by_cases c : r5 = 0
        · obtain ⟨r, S'', er, _, _, d'', k''⟩ := draw (m := 2) h4 (by decide) (by decide)
          exact ⟨decide (r = 1), S'', by simp [c, er], d'', k''.at h2 (by omega) (by omega)⟩
        · exact ⟨decide ((i : Int) < r4), S', by simp [c], h4, h2⟩
      have lq : S5.length < S''.length := (List.getElem?_eq_some_iff.mp q'').1
      have ap := fun x => app_l (d := .str x) q'' (by omega)
      refine ⟨_, [some (.lst t), some (.int mn), some (.tup ((.e :: (mid ++ [.e])).map Pl.toD)), some (.int r4), some (.int r5), some (.lst S5.length), some (.int i), some (.bl b)], S''.set S5.length ⟨false, gl ++ [.str (if b then "up" else "down")]⟩, rfl, ?_, gl ++ [.str (if b then "up" else "down")], some (.int i), some (.bl b), rfl, List.getElem?_set_self lq, by simp [h3], d''.set (by omega) (by omega)⟩
      have as : ∀ (f g h : Sv) (ρ : Lc) (S : Sto), sq f (sq g h) ρ S = sq (sq f g) h ρ S := fun f g h ρ S => by
        simp only [sq_ap]
        cases f ρ S <;> rfl
      unfold lb__law_canal_1
      rw [as]
      refine (sq_nx (ρ' := [some (.lst t), some (.int mn), some (.tup ((.e :: (mid ++ [.e])).map Pl.toD)), some (.int r4), some (.int r5), some (.lst S5.length), some (.int i), some (.bl b)]) (S1 := S'') eb).trans ?_
      cases b <;> simp [isL q'', truD, ap]) (mn + 1 + 1) 0 [some (.lst t), some (.int mn), some (.tup ((.e :: (mid ++ [.e])).map Pl.toD)), some (.int r4), some (.int r5), some (.lst S5.length), none, none] S6 (Nat.zero_le _) ⟨[], none, none, rfl, q6, rfl, h6⟩ (by simp)
  subst eρ
  have tp1 := tup_l q7
  refine ⟨mid, .tup gl, S7, ?_, ok3, by omega, by omega, d7⟩
  refine (fnB_ap (m := 8) (b := b__law_canal)).trans ?_
  show fin (b__law_canal [some (.lst t), none, none, none, none, none, none, none] S) = _
  unfold b__law_canal
  refine (fin_nx (ρ' := [some (.lst t), some (.int mn), none, none, none, none, none, none]) (S' := S2) (by rw [← hmn]; simp [e1, p1, e2])).trans ?_
  refine (fin_nx (ρ' := [some (.lst t), some (.int mn), some (.tup ((.e :: (mid ++ [.e])).map Pl.toD)), none, none, none, none, none]) (S' := S3) (by simp only [sa_ap, cl_ap, ac_ap, vr_ap, an_ap, List.getElem?_cons_zero, List.getElem?_cons_succ, bind_ok, List.length_cons, List.length_nil, Nat.reduceAdd, if_true, noExc_ap, e3, bindS_ok]; rfl)).trans ?_
  refine (fin_nx (ρ' := [some (.lst t), some (.int mn), some (.tup ((.e :: (mid ++ [.e])).map Pl.toD)), some (.int r4), none, none, none, none]) (S' := S4) (by simp [e4])).trans ?_
  refine (fin_nx (ρ' := [some (.lst t), some (.int mn), some (.tup ((.e :: (mid ++ [.e])).map Pl.toD)), some (.int r4), some (.int r5), none, none, none]) (S' := S5) (by simp [e5])).trans ?_
  refine (fin_nx (ρ' := [some (.lst t), some (.int mn), some (.tup ((.e :: (mid ++ [.e])).map Pl.toD)), some (.int r4), some (.int r5), some (.lst S5.length), none, none]) (S' := S6) (by rw [← hS6]; simp)).trans ?_
  refine (fin_nx (ρ' := [some (.lst t), some (.int mn), some (.tup ((.e :: (mid ++ [.e])).map Pl.toD)), some (.int r4), some (.int r5), some (.lst S5.length), x6, x7]) (S' := S7) ?_).trans ?_
  · rw [sfor_ap, ir1_ok (n := mn + 1) (S' := S6) (by simp) (by omega)]
    exact ef
  rw [sret_ap, tp_ap, ac_ap]
  simp [tp1]
end Law
set_option Elab.async false
set_option linter.all false
set_option maxRecDepth 100000
namespace Law
open PySem PySem.Spec PyProof.Rows L2 DL
structure Ex (S S' : Sto) : Prop where
  len : S.length ≤ S'.length
  get : ∀ i, i < S.length → S'[i]? = S[i]?
theorem Ex.refl {S : Sto} : Ex S S := ⟨Nat.le_refl _, fun _ _ => rfl⟩
theorem Ex.trans {S S1 S2 : Sto} (a : Ex S S1) (b : Ex S1 S2) : Ex S S2 := ⟨Nat.le_trans a.len b.len, fun i h => (b.get i (Nat.lt_of_lt_of_le h a.len)).trans (a.get i h)⟩
theorem Ex.app {S : Sto} {c : Cell} : Ex S (S ++ [c]) := ⟨by simp, fun i h => by rw [List.getElem?_append_left h]⟩
theorem Ex.setq {S0 S : Sto} {q : Nat} {c : Cell} (a : Ex S0 S) (h : S0.length ≤ q) : Ex S0 (S.set q c) := ⟨by simp; exact a.len, fun i hi => by rw [List.getElem?_set_ne (by omega)]; exact a.get i hi⟩
theorem Ex.at {S S' : Sto} {q : Nat} {c : Cell} (a : Ex S S') (e : S[q]? = some c) : S'[q]? = some c := (a.get q (List.getElem?_eq_some_iff.mp e).1).trans e
theorem Tp.ext {S S' : Sto} {t k : Nat} (h : Tp S t k) (x : Ex S S') : Tp S' t k := by
  obtain ⟨⟨a, b, c, xs, e1, e2⟩, ne⟩ := h
  exact ⟨⟨a, b, c, xs, x.at e1, x.at e2⟩, ne⟩
theorem cbody_ok {a : Nat} {e : Ev D} {ρ : Lc} {S S2 : Sto} {d : D} {xs : List D} (h : e ρ S = .ok d S2) (q : S2[a]? = some ⟨false, xs⟩) (hl : xs.length < 1000000) : cbody a ttrue e ρ S = .nx ρ (S2.set a ⟨false, xs ++ [d]⟩) := by
  show bindS (ttrue ρ S) ρ _ = _
  show bindS (e ρ S) ρ _ = _
  rw [h]
  simp only [bindS_ok, q]
  rw [if_pos (by simp [hl])]
theorem cmp_ok {f : Ev Src} {pk : List (Option Nat)} {g : Tg} {c : Ev Bool} {e : Ev D} {ρ ρ' : Lc} {S S1 S' : Sto} {s : Src} (h : f ρ S = .ok s S1) (l : forN s.nxt g (cbody S1.length c e) s.fuel 0 (pkS pk ρ) (S1 ++ [⟨false, []⟩]) = .nx ρ' S') : cmp f pk g c e ρ S = .ok (.lst S1.length) S' := by
  unfold cmp
  rw [h]
  simp only [bind_ok, l]
theorem p0e {S : Sto} {l : List D} {d : D} : DL.getD (.tup (d :: l)) (.int 0) S = .ok d S := get_t (atI_nn (by decide) rfl)
theorem p1e {S : Sto} {l : List D} {d e : D} : DL.getD (.tup (e :: d :: l)) (.int 1) S = .ok d S := get_t (atI_nn (by decide) rfl)
theorem p3e {S : Sto} {l : List D} {a b c d : D} : DL.getD (.tup (a :: b :: c :: d :: l)) (.int 3) S = .ok d S := get_t (atI_nn (by decide) rfl)
theorem bls_map : ∀ bs : List Bool, blsOf (bs.map D.bl) = some bs
  | [] => rfl
  | b :: r => by
    show (match blsOf (r.map D.bl) with | some r => some (b :: r) | none => none) = _
    rw [bls_map r]
theorem all_l {S : Sto} {i : Nat} {bs : List Bool} (e : S[i]? = some ⟨false, bs.map D.bl⟩) : allD [.lst i] S = .ok (.bl (bs.all id)) S := by
  simp only [allD, e, bls_map]
theorem all_comp {l : List D} {pk : List (Option Nat)} {e : Ev D} {ρ : Lc} {f : Ev D} {S : Sto} (rest : Lc) (v : D → Bool) (hf : f ρ S = .ok (.tup l) S) (hp : pkS pk ρ = none :: rest) (hl : l.length < 1000)
    (he : ∀ d ∈ l, ∀ S' : Sto, Ex S S' → ∃ S'', e (some d :: rest) S' = .ok (.bl (v d)) S'' ∧ Ex S' S'') :
    ∃ S', (cmp (isrc f) pk (gn 0) ttrue e ρ S).bind (fun x S1 => allD [x] S1) = .ok (.bl (l.all v)) S' ∧ Ex S S' := by
  obtain ⟨ρ', S', el, g, hρ, hq, hx⟩ := for_inv (nxt := (srcT l).nxt) (g := gn 0) (b := cbody S.length ttrue e) (l := l)
    (fun i ρ S' => ∃ g, ρ = g :: rest ∧ S'[S.length]? = some ⟨false, ((l.take i).map v).map D.bl⟩ ∧ Ex S S')
    (fun _ _ _ _ => rfl) (fun i d ρ S' hd ⟨g, h1, h2, h3⟩ => by
      subst h1
      have hi : i < l.length := (List.getElem?_eq_some_iff.mp hd).1
      obtain ⟨S'', e1, e2⟩ := he d (List.mem_of_getElem? hd) S' h3
      have q'' := e2.at h2
      have lq : S.length < S''.length := (List.getElem?_eq_some_iff.mp q'').1
      refine ⟨_, _, _, rfl, cbody_ok e1 q'' (by simp; omega), some d, rfl, ?_, (h3.trans e2).setq (Nat.le_refl _)⟩
      rw [List.getElem?_set_self lq]
      have : l.take (i + 1) = l.take i ++ [d] := by rw [List.take_add_one, hd]; rfl
      rw [this]
      simp) (srcT l).fuel 0 (none :: rest) (S ++ [⟨false, []⟩]) (Nat.zero_le _) ⟨none, rfl, by simp [app_at], Ex.app⟩ fuelT
  rw [List.take_length] at hq
  have hc := cmp_ok (pk := pk) (ρ := ρ) (S := S) (f := isrc f) (s := srcT l) (S1 := S) (by rw [isrc_ap, hf]; rfl) (by rw [hp]; exact el)
  refine ⟨S', ?_, hx⟩
  rw [hc, bind_ok, all_l hq]
  simp [List.all_map]
def isInt : D → Bool
  | .int _ => true
  | _ => false
theorem whole_ok {x : D} {S : Sto} : f_is_whole [x] S = .ok (.bl (isInt x)) S := by
  cases x <;> simp [f_is_whole, fnB, b_is_whole, isD, isT, tyN, isInt]
def nnI : D → Bool
  | .int i => decide (0 ≤ i)
  | _ => false
def isT' (m : Nat) : D → Bool
  | .tup l => l.length == m
  | _ => false
theorem tuple_ok {x : D} {m : Nat} {S : Sto} : f_is_tuple [x, .int m] S = .ok (.bl (isT' m x)) S := by
  cases x with
  | tup l =>
    by_cases h : l.length = m
    · simp [f_is_tuple, fnB, b_is_tuple, isD, isT, tyN, isT', h]
    · have h' : ¬ (l.length : Int) = m := by omega
      simp [f_is_tuple, fnB, b_is_tuple, isD, isT, tyN, isT', h, h']
  | _ => simp [f_is_tuple, fnB, b_is_tuple, isD, isT, tyN, isT']
def cnt (m : Nat) : D → Bool
  | .tup l => l.length == m && l.all nnI
  | _ => false
theorem counts_ok {x : D} {m : Nat} {S : Sto} (hm : m < 1000) : ∃ S', f_are_counts [x, .int m] S = .ok (.bl (cnt m x)) S' ∧ Ex S S' := by
  have tw := fun S => tuple_ok (x := x) (m := m) (S := S)
  by_cases c : isT' m x = true
  · cases x with
    | tup l =>
      have hl : l.length = m := by simpa [isT'] using c
      obtain ⟨S', e1, e2⟩ := all_comp (l := l) (pk := [none]) (e := va (cl 1 (noExc f_is_whole) (ac (vr 0) an)) (o2 geD (vr 0) (cn (.int 0)))) (ρ := [some (.tup l), some (.int m)]) (f := vr 0) (S := S) [] nnI (by simp) rfl (by omega) fun d _ S' _ => by
        refine ⟨S', ?_, .refl⟩
        have w := fun S => whole_ok (x := d) (S := S)
        cases d <;> simp [w, isInt, nnI]
      refine ⟨S', ?_, e2⟩
      refine (fnB_ap (m := 2) (b := b_are_counts)).trans ?_
      show fin (b_are_counts [some (.tup l), some (.int m)] S) = _
      unfold b_are_counts
      have e1' : b1 allD (ac (cmp (isrc (vr 0)) [none] (gn 0) ttrue (va (cl 1 (noExc f_is_whole) (ac (vr 0) an)) (o2 geD (vr 0) (cn (.int 0))))) an) [some (.tup l), some (.int m)] S = .ok (.bl (l.all nnI)) S' := by
        rw [b1_ap, ac_ap, ← e1]
        cases z : cmp (isrc (vr 0)) [none] (gn 0) ttrue (va (cl 1 (noExc f_is_whole) (ac (vr 0) an)) (o2 geD (vr 0) (cn (.int 0)))) [some (.tup l), some (.int m)] S with
        | ok d S1 => simp
        | exc x S1 => rfl
        | bad => rfl
      have hc : cnt m (.tup l) = l.all nnI := by simp [cnt, hl]
      rw [sret_ap, va_ap, hc]
      simp only [cl_ap, noExc_ap, ac_ap, an_ap, vr_ap, bind_ok, List.getElem?_cons_zero, List.getElem?_cons_succ, List.length_cons, List.length_nil, Nat.reduceAdd, if_true, tw, c, e1', bindS_ok, fin_rt]
    | _ => cases c
  · have c : isT' m x = false := by simpa using c
    have hc : cnt m x = false := by
      cases x with
      | tup l =>
        have : ¬ l.length = m := by simpa [isT'] using c
        simp [cnt, this]
      | _ => rfl
    refine ⟨S, ?_, .refl⟩
    rw [hc]
    simp [f_are_counts, fnB, b_are_counts, tw, c]
def wat : Pl → Int
  | .e => 0
  | .c => 1
  | .p br _ _ _ => br
theorem water_ok {p : Pl} {S : Sto} (h : p.ok) : f_most_water [p.toD] S = .ok (.int (wat p)) S := by
  have e1 := fun S => eq_end (S := S) h
  have e2 := fun S => eq_cham (S := S) h
  cases p with
  | e => simp [f_most_water, fnB, b_most_water, c_END, c_CHAMBER, e1, Pl.isE, wat]
  | c => simp [f_most_water, fnB, b_most_water, c_END, c_CHAMBER, e1, e2, Pl.isE, Pl.isC, wat]
  | p br de ro pr =>
    have g : ∀ S, DL.getD (Pl.toD (.p br de ro pr)) (.int 1) S = .ok (.int br) S := fun S => p1e
    simp [f_most_water, fnB, b_most_water, c_END, c_CHAMBER, e1, e2, Pl.isE, Pl.isC, wat, g]
def hol : Pl → Int → Bool
  | .e, _ => true
  | .c, b => decide (b ≤ 1)
  | .p _ _ ro _, b => decide (b ≤ ro)
theorem holds_ok {p : Pl} {b : Int} {S : Sto} (h : p.ok) : f_holds [p.toD, .int b] S = .ok (.bl (hol p b)) S := by
  have e1 := fun S => eq_end (S := S) h
  have e2 := fun S => eq_cham (S := S) h
  cases p with
  | e => simp [f_holds, fnB, b_holds, c_END, c_CHAMBER, e1, Pl.isE, hol]
  | c => simp [f_holds, fnB, b_holds, c_END, c_CHAMBER, e1, e2, Pl.isE, Pl.isC, hol]
  | p br de ro pr =>
    have g : ∀ S, DL.getD (Pl.toD (.p br de ro pr)) (.int 3) S = .ok (.int ro) S := fun S => p3e
    simp [f_holds, fnB, b_holds, c_END, c_CHAMBER, e1, e2, Pl.isE, Pl.isC, hol, g]
def stD (L R F : List Int) : D := .tup [.tup (L.map D.int), .tup (R.map D.int), .tup (F.map D.int)]
theorem for_chk {nxt : Nat → Sto → Option D} {g : Tg} {b : Sv} {l : List D} (gd : Nat → D → Bool) (I : Nat → Lc → Sto → Prop) (hn : ∀ k ρ S, I k ρ S → nxt k S = l[k]?)
    (hs : ∀ k d ρ S, l[k]? = some d → I k ρ S → ∃ ρ1, g d ρ = some ρ1 ∧ ((gd k d = true ∧ ∃ ρ2, b ρ1 S = .nx ρ2 S ∧ I (k + 1) ρ2 S) ∨ (gd k d = false ∧ b ρ1 S = .rt (.bl false) S))) :
    ∀ (n k : Nat) (ρ : Lc) (S : Sto), k ≤ l.length → I k ρ S → l.length < n + k →
      ((∀ j d, k ≤ j → l[j]? = some d → gd j d = true) ∧ ∃ ρ', forN nxt g b n k ρ S = .nx ρ' S ∧ I l.length ρ' S) ∨ ((∃ j d, k ≤ j ∧ l[j]? = some d ∧ gd j d = false) ∧ forN nxt g b n k ρ S = .rt (.bl false) S)
  | 0, k, ρ, S, h1, _, h2 => by omega
  | n + 1, k, ρ, S, h1, hI, h2 => by
    unfold forN
    rw [hn k ρ S hI]
    cases z : l[k]? with
    | none =>
      have : k = l.length := by have := List.getElem?_eq_none_iff.mp z; omega
      subst this
      refine .inl ⟨fun j d hj hd => ?_, ρ, rfl, hI⟩
      have := (List.getElem?_eq_some_iff.mp hd).1
      omega
    | some d =>
      have hk : k < l.length := (List.getElem?_eq_some_iff.mp z).1
      obtain ⟨ρ1, e1, h⟩ := hs k d ρ S z hI
      rcases h with ⟨hg, ρ2, e2, hI2⟩ | ⟨hg, e2⟩
      · simp only [e1, e2]
        rcases for_chk gd I hn hs n (k + 1) ρ2 S hk hI2 (by omega) with ⟨h3, ρ', e4, h5⟩ | ⟨⟨j, d', hj, hd', hg'⟩, e4⟩
        · refine .inl ⟨fun j d' hj hd' => ?_, ρ', e4, h5⟩
          by_cases hjk : j = k
          · subst hjk
            rw [z] at hd'
            cases hd'
            exact hg
          · exact h3 j d' (by omega) hd'
        · exact .inr ⟨⟨j, d', by omega, hd', hg'⟩, e4⟩
      · simp only [e1, e2]
        exact .inr ⟨⟨k, d, Nat.le_refl _, z, hg⟩, by first | rfl | trivial⟩
def enumL (l : List D) : List D := l.mapIdx fun k d => .tup [.int k, d]
def srcE (l : List D) : Src := ⟨fun k _ => (l[k]?).map fun d => .tup [.int k, d], l.length + 1⟩
theorem enum_src {f : Ev (List D)} {ρ : Lc} {S S' : Sto} {l : List D} (h : f ρ S = .ok [.tup l] S') : ienumerate f ρ S = .ok (srcE l) S' := by
  unfold ienumerate
  rw [h]
  rfl
theorem enum_get {l : List D} {k : Nat} {S : Sto} : (srcE l).nxt k S = (enumL l)[k]? := by
  show (l[k]?).map (fun d => D.tup [.int k, d]) = _
  unfold enumL
  rw [List.getElem?_mapIdx]
theorem enum_len {l : List D} : (enumL l).length = l.length := by unfold enumL; simp
theorem enum_of {l : List D} {k : Nat} {d : D} (h : (enumL l)[k]? = some d) : ∃ e, l[k]? = some e ∧ d = .tup [.int k, e] := by
  unfold enumL at h
  rw [List.getElem?_mapIdx] at h
  cases z : l[k]? with
  | none => rw [z] at h; cases h
  | some e => rw [z] at h; cases h; exact ⟨e, rfl, rfl⟩
def intOf : D → Int
  | .int i => i
  | _ => 0
theorem nn_vals : ∀ {l : List D}, l.all nnI = true → ∃ L : List Int, l = L.map D.int ∧ ∀ i ∈ L, 0 ≤ i
  | [], _ => ⟨[], rfl, fun i h => by cases h⟩
  | d :: l, h => by
    rw [List.all_cons, Bool.and_eq_true] at h
    obtain ⟨L, e, hL⟩ := nn_vals h.2
    cases d with
    | int i =>
      have hi : 0 ≤ i := by simpa [nnI] using h.1
      exact ⟨i :: L, by rw [e]; rfl, fun j hj => by
        rcases List.mem_cons.mp hj with rfl | hj
        · exact hi
        · exact hL j hj⟩
    | _ => cases h.1
def gk (ps : List Pl) (L R F : List Int) (k : Nat) : Bool := match ps[k]?, L[k]?, R[k]?, F[k]? with
  | some p, some l, some r, some f => decide (l ≤ wat p) && hol p (r + f)
  | _, _, _, _ => true
def intsD : D → List Int
  | .tup l => l.map intOf
  | _ => []
theorem ints_map' {L : List Int} : intsD (.tup (L.map D.int)) = L := by
  show (L.map D.int).map intOf = L
  rw [List.map_map]
  exact List.map_id'' (fun _ => rfl) L
def isSt (ps : List Pl) : D → Bool
  | .tup [a, b, c] => ((cnt ps.length a && cnt ps.length b) && cnt ps.length c) && ((List.range ps.length).all (gk ps (intsD a) (intsD b) (intsD c)) && decide ((intsD b).sum + (intsD c).sum ≤ 60))
  | _ => false
theorem cnt_of {m : Nat} {d : D} (h : cnt m d = true) : ∃ L : List Int, d = .tup (L.map D.int) ∧ L.length = m ∧ ∀ i ∈ L, 0 ≤ i := by
  cases d with
  | tup l =>
    have h : (l.length == m && l.all nnI) = true := h
    rw [Bool.and_eq_true] at h
    obtain ⟨L, e, hL⟩ := nn_vals h.2
    refine ⟨L, by rw [e], ?_, hL⟩
    have : l.length = m := by simpa using h.1
    rw [e] at this
    simpa using this
  | _ => cases h
theorem get_int {L : List Int} {k : Nat} {i : Int} {S : Sto} (h : L[k]? = some i) : DL.getD (.tup (L.map D.int)) (.int k) S = .ok (.int i) S :=
  get_t (atI_nn (by omega) (by rw [Int.toNat_natCast, List.getElem?_map, h]; rfl))
theorem is_stand_ok {ps : List Pl} {gd x : D} {S : Sto} (hp : ∀ p ∈ ps, p.ok) (hl : ps.length ≤ 13) : ∃ S', f_is_stand [.tup [.tup (ps.map Pl.toD), gd], x] S = .ok (.bl (isSt ps x)) S' ∧ Ex S S' := by
  have tw : ∀ S, f_is_tuple [x, .int 3] S = .ok (.bl (isT' 3 x)) S := fun S => tuple_ok (x := x) (m := 3) (S := S)
  have hf : ∀ X, f_is_stand [.tup [.tup (ps.map Pl.toD), gd], x] S = X ↔ fin (b_is_stand [some (.tup [.tup (ps.map Pl.toD), gd]), some x, none, none, none, none, none, none] S) = X := fun X => by rw [show f_is_stand [.tup [.tup (ps.map Pl.toD), gd], x] S = fin (b_is_stand [some (.tup [.tup (ps.map Pl.toD), gd]), some x, none, none, none, none, none, none] S) from fnB_ap (m := 8) (b := b_is_stand)]
  have e0 : sa (o2 DL.getD (vr 0) (cn (.int 0))) (gn 2) [some (.tup [.tup (ps.map Pl.toD), gd]), some x, none, none, none, none, none, none] S = .nx [some (.tup [.tup (ps.map Pl.toD), gd]), some x, some (.tup (ps.map Pl.toD)), none, none, none, none, none] S := by simp [p0e]
  by_cases c3 : isT' 3 x = true
  · cases x with
    | tup l =>
      have hl3 : l.length = 3 := by simpa [isT'] using c3
      obtain ⟨a, b, c, rfl⟩ : ∃ a b c, l = [a, b, c] := by
        match l, hl3 with
        | [a, b, c], _ => exact ⟨a, b, c, rfl⟩
      obtain ⟨S1, ec, x1⟩ := all_comp (l := [a, b, c]) (pk := [none, some 2]) (e := cl 2 (noExc f_are_counts) (ac (vr 0) (ac (b1 lenD (ac (vr 1) an)) an))) (ρ := [some (.tup [.tup (ps.map Pl.toD), gd]), some (.tup [a, b, c]), some (.tup (ps.map Pl.toD)), none, none, none, none, none]) (f := vr 1) (S := S) [some (.tup (ps.map Pl.toD))] (cnt ps.length) (by simp) rfl (by simp) fun d _ S' _ => by
        obtain ⟨S'', q1, q2⟩ := counts_ok (x := d) (m := ps.length) (S := S') (by omega)
        exact ⟨S'', by simp [q1], q2⟩
      have ec' : b1 allD (ac (cmp (isrc (vr 1)) [none, some 2] (gn 0) ttrue (cl 2 (noExc f_are_counts) (ac (vr 0) (ac (b1 lenD (ac (vr 1) an)) an)))) an) [some (.tup [.tup (ps.map Pl.toD), gd]), some (.tup [a, b, c]), some (.tup (ps.map Pl.toD)), none, none, none, none, none] S = .ok (.bl ([a, b, c].all (cnt ps.length))) S1 := by
        rw [b1_ap, ac_ap, ← ec]
        cases z : cmp (isrc (vr 1)) [none, some 2] (gn 0) ttrue (cl 2 (noExc f_are_counts) (ac (vr 0) (ac (b1 lenD (ac (vr 1) an)) an))) [some (.tup [.tup (ps.map Pl.toD), gd]), some (.tup [a, b, c]), some (.tup (ps.map Pl.toD)), none, none, none, none, none] S with
        | ok d S1 => simp
        | exc x S1 => rfl
        | bad => rfl
      have hall : [a, b, c].all (cnt ps.length) = ((cnt ps.length a && cnt ps.length b) && cnt ps.length c) := by simp [Bool.and_assoc]
      by_cases cc : ((cnt ps.length a && cnt ps.length b) && cnt ps.length c) = true
      · have cc' := cc
        rw [Bool.and_eq_true, Bool.and_eq_true] at cc'
        obtain ⟨L, rfl, lL, nL⟩ := cnt_of cc'.1.1
        obtain ⟨R, rfl, lR, nR⟩ := cnt_of cc'.1.2
        obtain ⟨F, rfl, lF, nF⟩ := cnt_of cc'.2
        have hst : isSt ps (.tup [.tup (L.map D.int), .tup (R.map D.int), .tup (F.map D.int)]) = ((List.range ps.length).all (gk ps L R F) && decide (R.sum + F.sum ≤ 60)) := by
          simp only [isSt, ints_map', cc, Bool.true_and]
        have chk := for_chk (nxt := (srcE (ps.map Pl.toD)).nxt) (g := gt (gcons (gn 6) (gcons (gn 7) gnil)) 2) (b := lb_is_stand_1) (l := enumL (ps.map Pl.toD)) (fun k _ => gk ps L R F k)
          (fun k ρ S' => S' = S1 ∧ ∃ g6 g7, ρ = [some (.tup [.tup (ps.map Pl.toD), gd]), some (.tup [.tup (L.map D.int), .tup (R.map D.int), .tup (F.map D.int)]), some (.tup (ps.map Pl.toD)), some (.tup (L.map D.int)), some (.tup (R.map D.int)), some (.tup (F.map D.int)), g6, g7])
          (fun k _ _ _ => enum_get) (fun k d ρ S' hd ⟨hS, g6, g7, h1⟩ => by
            subst h1 hS
            obtain ⟨e, he, rfl⟩ := enum_of hd
            rw [List.getElem?_map] at he
            cases hpk : ps[k]? with
            | none => rw [hpk] at he; cases he
            | some p =>
              rw [hpk] at he
              cases (Option.some.inj he)
              have hk : k < ps.length := (List.getElem?_eq_some_iff.mp hpk).1
              have hL : L[k]? = some L[k] := List.getElem?_eq_getElem (by omega)
              have hR : R[k]? = some R[k] := List.getElem?_eq_getElem (by omega)
              have hF : F[k]? = some F[k] := List.getElem?_eq_getElem (by omega)
              have ok := hp p (List.mem_of_getElem? hpk)
              have g1 := get_int (S := S') hL
              have g2 := get_int (S := S') hR
              have g3 := get_int (S := S') hF
              have w := water_ok (S := S') ok
              have ho := holds_ok (S := S') (b := R[k] + F[k]) ok
              have hg : gk ps L R F k = (decide (L[k] ≤ wat p) && hol p (R[k] + F[k])) := by simp only [gk, hpk, hL, hR, hF]
              refine ⟨_, rfl, ?_⟩
              by_cases q1 : L[k] ≤ wat p
              · have q1' : ¬ wat p < L[k] := by omega
                by_cases q2 : hol p (R[k] + F[k]) = true
                · exact .inl ⟨by rw [hg]; simp [q1, q2], [some (.tup [.tup (ps.map Pl.toD), gd]), some (.tup [.tup (L.map D.int), .tup (R.map D.int), .tup (F.map D.int)]), some (.tup (ps.map Pl.toD)), some (.tup (L.map D.int)), some (.tup (R.map D.int)), some (.tup (F.map D.int)), some (.int k), some p.toD], by simp [lb_is_stand_1, g1, w, q1', g2, g3, ho, q2, truD], rfl, _, _, rfl⟩
                · have q2 : hol p (R[k] + F[k]) = false := by simpa using q2
                  exact .inr ⟨by rw [hg]; simp [q1, q2], by simp [lb_is_stand_1, g1, w, q1', g2, g3, ho, q2, truD]⟩
              · have q1' : wat p < L[k] := by omega
                exact .inr ⟨by rw [hg]; simp [q1], by simp [lb_is_stand_1, g1, w, q1']⟩) (srcE (ps.map Pl.toD)).fuel 0 [some (.tup [.tup (ps.map Pl.toD), gd]), some (.tup [.tup (L.map D.int), .tup (R.map D.int), .tup (F.map D.int)]), some (.tup (ps.map Pl.toD)), some (.tup (L.map D.int)), some (.tup (R.map D.int)), some (.tup (F.map D.int)), none, none] S1 (Nat.zero_le _) ⟨rfl, none, none, rfl⟩ (by rw [enum_len]; exact Nat.lt_succ_self _)
        have es := enum_src (f := ac (vr 2) an) (ρ := [some (.tup [.tup (ps.map Pl.toD), gd]), some (.tup [.tup (L.map D.int), .tup (R.map D.int), .tup (F.map D.int)]), some (.tup (ps.map Pl.toD)), some (.tup (L.map D.int)), some (.tup (R.map D.int)), some (.tup (F.map D.int)), none, none]) (S := S1) (S' := S1) (l := ps.map Pl.toD) (by simp)
        refine ⟨S1, (hf _).mpr ?_, x1⟩
        rw [hst]
        unfold b_is_stand
        rw [fin_nx e0]
        refine (fin_nx (ρ' := [some (.tup [.tup (ps.map Pl.toD), gd]), some (.tup [.tup (L.map D.int), .tup (R.map D.int), .tup (F.map D.int)]), some (.tup (ps.map Pl.toD)), none, none, none, none, none]) (S' := S) (by simp [tw, c3, truD])).trans ?_
        refine (fin_nx (ρ' := [some (.tup [.tup (ps.map Pl.toD), gd]), some (.tup [.tup (L.map D.int), .tup (R.map D.int), .tup (F.map D.int)]), some (.tup (ps.map Pl.toD)), none, none, none, none, none]) (S' := S1) (by rw [sif_ap, tn_ap, tt_ap, ec', hall, cc]; rfl)).trans ?_
        refine (fin_nx (ρ' := [some (.tup [.tup (ps.map Pl.toD), gd]), some (.tup [.tup (L.map D.int), .tup (R.map D.int), .tup (F.map D.int)]), some (.tup (ps.map Pl.toD)), some (.tup (L.map D.int)), some (.tup (R.map D.int)), some (.tup (F.map D.int)), none, none]) (S' := S1) (by simp [gt, gcons, gnil])).trans ?_
        rcases chk with ⟨good, ρ', ef, _, g6, g7, hρ⟩ | ⟨⟨j, d, _, hd, hg⟩, ef⟩
        · have hgk : (List.range ps.length).all (gk ps L R F) = true := by
            rw [List.all_eq_true]
            intro k hk
            have hk : k < ps.length := List.mem_range.mp hk
            exact good k _ (Nat.zero_le _) (List.getElem?_eq_getElem (by rw [enum_len]; simpa using hk))
          rw [hgk, Bool.true_and]
          refine (fin_nx (ρ' := ρ') (S' := S1) (by rw [sfor_ap, es]; exact ef)).trans ?_
          rw [hρ]
          simp [c_MOST_BARGES]
        · have hgk : (List.range ps.length).all (gk ps L R F) = false := by
            rw [List.all_eq_false]
            have hj : j < ps.length := by have := (List.getElem?_eq_some_iff.mp hd).1; rw [enum_len] at this; simpa using this
            exact ⟨j, List.mem_range.mpr hj, by simpa using hg⟩
          rw [hgk, Bool.false_and]
          exact fin_ret (by rw [sfor_ap, es]; exact ef)
      · have cc : ((cnt ps.length a && cnt ps.length b) && cnt ps.length c) = false := by simpa using cc
        refine ⟨S1, (hf _).mpr ?_, x1⟩
        have hst : isSt ps (.tup [a, b, c]) = false := by
          show (((cnt ps.length a && cnt ps.length b) && cnt ps.length c) && _) = false
          rw [cc, Bool.false_and]
        rw [hst]
        unfold b_is_stand
        rw [fin_nx e0]
        refine (fin_nx (ρ' := [some (.tup [.tup (ps.map Pl.toD), gd]), some (.tup [a, b, c]), some (.tup (ps.map Pl.toD)), none, none, none, none, none]) (S' := S) (by simp [tw, c3, truD])).trans ?_
        exact fin_ret (by rw [sif_ap, tn_ap, tt_ap, ec', hall, cc]; rfl)
    | _ => cases c3
  · have c3 : isT' 3 x = false := by simpa using c3
    refine ⟨S, (hf _).mpr ?_, .refl⟩
    have hst : isSt ps x = false := by
      cases x with
      | tup l =>
        have hl3 : ¬ l.length = 3 := by simpa [isT'] using c3
        unfold isSt
        split
        · rename_i e; cases e; exact absurd rfl hl3
        · rfl
      | _ => rfl
    rw [hst]
    unfold b_is_stand
    rw [fin_nx e0]
    exact fin_ret (by simp [tw, c3, truD])
theorem toP_ints {S : Sto} {n : Nat} : ∀ L : List Int, mapO (toP S (n + 1)) (L.map D.int) = some (L.map PyData.int)
  | [] => rfl
  | i :: L => by
    have := toP_ints (S := S) (n := n) L
    rw [List.map_cons, List.map_cons]
    simp only [mapO, this]
    rfl
theorem toP_st {S : Sto} {L R F : List Int} : toP S 40 (stD L R F) = some (.tuple [.tuple (L.map .int), .tuple (R.map .int), .tuple (F.map .int)]) := by
  have h : ∀ L : List Int, toP S 39 (.tup (L.map D.int)) = some (.tuple (L.map PyData.int)) := fun L => by
    show (mapO (toP S 38) (L.map D.int)).map PyData.tuple = _
    rw [toP_ints (n := 37)]; rfl
  show (mapO (toP S 39) [.tup (L.map D.int), .tup (R.map D.int), .tup (F.map D.int)]).map PyData.tuple = _
  simp only [mapO, h]
  rfl
theorem lay_ints : ∀ L : List Int, PyData.canLayAll0 (L.map .int) = true
  | [] => rfl
  | i :: L => by simp [PyData.canLayAll0, PyData.canLay0, lay_ints L]
theorem dep_ints : ∀ L : List Int, PyData.depthAll (L.map .int) = 0
  | [] => rfl
  | i :: L => by simp [PyData.depthAll, PyData.depth, dep_ints L]
theorem eqv_ints : ∀ L M : List Int, PyData.eqvAll (L.map .int) (M.map .int) = decide (L = M)
  | [], [] => by simp [PyData.eqvAll]
  | [], j :: M => by simp [PyData.eqvAll]
  | i :: L, [] => by simp [PyData.eqvAll]
  | i :: L, j :: M => by
    simp only [List.map_cons, PyData.eqvAll, PyData.eqv, eqv_ints L M]
    by_cases h1 : i = j <;> by_cases h2 : L = M <;> simp [h1, h2]
theorem eq_st {S : Sto} {L R F L' R' F' : List Int} : eqD (stD L R F) (stD L' R' F') S = .ok (.bl (decide (L = L' ∧ R = R' ∧ F = F'))) S := by
  simp only [eqD, toP_st]
  rw [if_pos (by simp [SeqAt.shaped, PyData.canLay0, PyData.canLayAll0, lay_ints, PyData.depth, PyData.depthAll, dep_ints])]
  refine congrArg (fun v => Out.ok (D.bl v) S) ?_
  simp only [PyData.eqv, PyData.eqvAll, eqv_ints, Bool.and_true]
  by_cases h1 : L = L' <;> by_cases h2 : R = R' <;> by_cases h3 : F = F' <;> simp [h1, h2, h3]
theorem add_tt {a b : List D} {S : Sto} (h : a.length + b.length ≤ 1000000) : addD (.tup a) (.tup b) S = .ok (.tup (a ++ b)) S := by
  show (if a.length + b.length ≤ 1000000 then Out.ok (D.tup (a ++ b)) S else .bad) = _
  rw [if_pos h]
theorem isSt_of {ps : List Pl} {x : D} (h : isSt ps x = true) : ∃ L R F : List Int, x = stD L R F ∧ L.length = ps.length ∧ R.length = ps.length ∧ F.length = ps.length ∧ (∀ i ∈ R, 0 ≤ i) ∧ ∀ i ∈ F, 0 ≤ i := by
  unfold isSt at h
  split at h
  · rw [Bool.and_eq_true, Bool.and_eq_true, Bool.and_eq_true] at h
    obtain ⟨L, rfl, lL, _⟩ := cnt_of h.1.1.1
    obtain ⟨R, rfl, lR, nR⟩ := cnt_of h.1.1.2
    obtain ⟨F, rfl, lF, nF⟩ := cnt_of h.1.2
    exact ⟨L, R, F, rfl, lL, lR, lF, nR, nF⟩
  · cases h
theorem sok_app {a b : Str} (h1 : PyData.strOk a = true) (h2 : PyData.strOk b = true) : PyData.strOk (a ++ b) = true := by
  unfold PyData.strOk at *
  show ((a.cps ++ b.cps).all fun x => decide (x < 1114112)) = true
  rw [Array.all_append, h1, h2]
  rfl
theorem sl_less {M : List Int} {S : Sto} (h : 1 ≤ M.length) : slD2 (.tup (M.map D.int)) none (some (-1)) S = .ok (.tup ((M.take (M.length - 1)).map D.int)) S := by
  have e2 : HT.sIx (M.map D.int).length (M.map D.int).length (some (-1)) = M.length - 1 := by
    show (if (-1 : Int) < 0 then ((-1 : Int) + ((M.map D.int).length : Int)).toNat else min (-1 : Int).toNat (M.map D.int).length) = _
    rw [if_pos (by decide)]
    simp
    omega
  show (if HT.sIx (M.map D.int).length 0 none = 0 ∧ HT.sIx (M.map D.int).length (M.map D.int).length (some (-1)) = (M.map D.int).length then Out.ok (D.tup (M.map D.int)) S else .ok (.tup (DL.cutD (M.map D.int) none (some (-1)))) S) = _
  rw [if_neg (by rw [e2, List.length_map]; omega)]
  unfold DL.cutD
  rw [e2, HT.sIx_none, List.map_take]
  rfl
theorem sl_from1 {x : D} {l : List D} {S : Sto} : slD2 (.tup (x :: l)) (some 1) none S = .ok (.tup l) S := by
  have e1 : HT.sIx (x :: l).length 0 (some 1) = 1 := by
    have := HT.sIx_nat (x :: l).length 0 1
    rw [show ((1 : Nat) : Int) = 1 from rfl] at this
    rw [this]
    simp
  show (if HT.sIx (x :: l).length 0 (some 1) = 0 ∧ HT.sIx (x :: l).length (x :: l).length none = (x :: l).length then Out.ok (D.tup (x :: l)) S else .ok (.tup (DL.cutD (x :: l) (some 1) none)) S) = _
  rw [if_neg (by rw [e1]; simp)]
  unfold DL.cutD
  rw [e1, HT.sIx_none]
  simp
theorem sl_drop {M : List Int} {S : Sto} (h : 1 ≤ M.length) : slD2 (.tup (M.map D.int)) (some 1) none S = .ok (.tup ((M.drop 1).map D.int)) S := by
  cases M with
  | nil => simp at h
  | cons a M => exact sl_from1
theorem list_t {l : List D} {S : Sto} : listD [.tup l] S = .ok (.lst S.length) (S ++ [⟨false, l⟩]) := id rfl
end Law
set_option Elab.async false
set_option linter.all false
set_option maxRecDepth 100000
namespace Law
open PySem PySem.Spec PyProof.Rows L2 DL
theorem sum_by (v : Pl → Int) : ∀ (ps : List Pl) (R F : List Int), R.length = ps.length → F.length = ps.length → (∀ (i : Nat) (p : Pl), ps[i]? = some p → ∃ r f, R[i]? = some r ∧ F[i]? = some f ∧ r + f ≤ v p) → R.sum + F.sum ≤ (ps.map v).sum
  | [], R, F, h1, h2, _ => by
    have : R = [] := List.length_eq_zero_iff.mp h1
    have : F = [] := List.length_eq_zero_iff.mp h2
    subst R F
    simp
  | p :: ps, [], F, h1, _, _ => by simp at h1
  | p :: ps, r :: R, [], _, h2, _ => by simp at h2
  | p :: ps, r :: R, f :: F, h1, h2, h => by
    obtain ⟨r', f', e1, e2, e3⟩ := h 0 p rfl
    cases (Option.some.inj e1)
    cases (Option.some.inj e2)
    have := sum_by v ps R F (by simpa using h1) (by simpa using h2) fun i q hq => h (i + 1) q hq
    simp only [List.sum_cons, List.map_cons]
    omega
def plc (mid : List Pl) : List Pl := .e :: (mid ++ [.e])
theorem plc_len {mid : List Pl} : (plc mid).length = mid.length + 2 := by simp [plc]
theorem plc_at {mid : List Pl} {i : Nat} {p : Pl} (h : (plc mid)[i]? = some p) : (i = 0 ∧ p = .e) ∨ (i = mid.length + 1 ∧ p = .e) ∨ (1 ≤ i ∧ i ≤ mid.length ∧ p ∈ mid) := by
  unfold plc at h
  cases i with
  | zero => exact .inl ⟨rfl, (Option.some.inj h).symm⟩
  | succ i =>
    rw [List.getElem?_cons_succ] at h
    by_cases c : i < mid.length
    · rw [List.getElem?_append_left c] at h
      exact .inr (.inr ⟨by omega, by omega, List.mem_of_getElem? h⟩)
    · have hl := (List.getElem?_eq_some_iff.mp h).1
      have : i = mid.length := by simp at hl; omega
      subst this
      rw [List.getElem?_append_right (Nat.le_refl _)] at h
      exact .inr (.inl ⟨rfl, by simpa using h.symm⟩)
theorem plc_ok {mid : List Pl} (h : ∀ p ∈ mid, p.ok ∧ p.isE = false) : ∀ p ∈ plc mid, p.ok := fun p hp => by
  unfold plc at hp
  rcases List.mem_cons.mp hp with rfl | hp
  · trivial
  · rcases List.mem_append.mp hp with hp | hp
    · exact (h p hp).1
    · have : p = .e := by simpa using hp
      subst this
      trivial
theorem sum4 : ∀ ps : List Pl, (ps.map fun _ => (4 : Int)).sum = 4 * ps.length
  | [] => by simp
  | p :: ps => by simp only [List.map_cons, List.sum_cons, List.length_cons]; rw [sum4 ps]; omega
theorem sixty {mid : List Pl} {L R F : List Int} {cr r0 fl : Int} {n : Nat} (hm : ∀ p ∈ mid, p.ok ∧ p.isE = false) (h11 : mid.length ≤ 11) (hn : (plc mid).length = n) (lL : L.length = n) (lR : R.length = n) (lF : F.length = n) (hg : (List.range n).all (gk (plc mid) L R F) = true) (c4 : cr ≤ 4) (e0 : R[0]? = some r0) (e1 : F[n - 1]? = some fl) (h0 : r0 ≤ cr) (h1 : fl ≤ cr) (z0 : R[n - 1]? = some 0) (z1 : F[0]? = some 0) : R.sum + F.sum ≤ 60 := by
  have pl := plc_len (mid := mid)
  have := sum_by (fun _ => 4) (plc mid) R F (by omega) (by omega) fun i p hp => by
    have hi := (List.getElem?_eq_some_iff.mp hp).1
    obtain ⟨r, er⟩ : ∃ r, R[i]? = some r := ⟨_, List.getElem?_eq_getElem (by omega)⟩
    obtain ⟨f, ef⟩ : ∃ r, F[i]? = some r := ⟨_, List.getElem?_eq_getElem (by omega)⟩
    obtain ⟨l, el⟩ : ∃ r, L[i]? = some r := ⟨_, List.getElem?_eq_getElem (by omega)⟩
    refine ⟨r, f, er, ef, ?_⟩
    rcases plc_at hp with ⟨rfl, _⟩ | ⟨hi', _⟩ | ⟨_, _, hmem⟩
    · rw [e0] at er; rw [z1] at ef
      cases (Option.some.inj er); cases (Option.some.inj ef)
      show r0 + 0 ≤ 4
      omega
    · have : i = n - 1 := by omega
      subst this
      rw [z0] at er; rw [e1] at ef
      cases (Option.some.inj er); cases (Option.some.inj ef)
      show 0 + fl ≤ 4
      omega
    · have g := List.all_eq_true.mp hg i (List.mem_range.mpr (by omega))
      unfold gk at g
      rw [hp, el, er, ef] at g
      rw [Bool.and_eq_true] at g
      have g2 := g.2
      obtain ⟨ok, ne⟩ := hm p hmem
      cases p with
      | e => cases ne
      | c =>
        have : r + f ≤ 1 := of_decide_eq_true g2
        show r + f ≤ 4
        omega
      | p br de ro pr =>
        have : r + f ≤ ro := of_decide_eq_true g2
        obtain ⟨_, _, _, _, _, a6, _⟩ := ok
        show r + f ≤ 4
        omega
  rw [sum4] at this
  omega
theorem last_of {X : List Int} {n : Nat} (h : X.length = n) (h0 : 0 < n) : ∃ Y y, X = Y ++ [y] ∧ X[n - 1]? = some y ∧ Y.length = n - 1 := by
  have hne : X ≠ [] := by intro z; rw [z] at h; simp at h; omega
  refine ⟨X.dropLast, X.getLast hne, (List.dropLast_concat_getLast hne).symm, ?_, by simp; omega⟩
  rw [List.getLast_eq_getElem, ← List.getElem?_eq_getElem]
  congr 1
  omega
theorem get_lastI {X : List Int} {n : Nat} {y : Int} {S : Sto} (h : X.length = n) (h0 : 0 < n) (e : X[n - 1]? = some y) : DL.getD (.tup (X.map D.int)) (.int (-1)) S = .ok (.int y) S := by
  refine get_t ?_
  show (ixN (X.map D.int).length (-1)).bind (fun j => (X.map D.int)[j]?) = _
  unfold ixN
  rw [if_neg (by decide), if_pos (by simp; omega), Option.bind_some]
  have : ((-1 : Int) + ((X.map D.int).length : Nat)).toNat = n - 1 := by simp; omega
  rw [this, List.getElem?_map, e]
  rfl
theorem lrow_ok {x : D} {m : Nat} {S : Sto} (hm : m < 1000) : ∃ S', f__law_is_row [x, .int m] S = .ok (.bl (cnt m x)) S' ∧ Ex S S' := by
  have hf : f__law_is_row [x, .int m] S = fin (b__law_is_row [some x, some (.int m)] S) := fnB_ap (m := 2) (b := b__law_is_row)
  rw [hf]
  unfold b__law_is_row
  by_cases c : isT' m x = true
  · cases x with
    | tup l =>
      have hl : l.length = m := by simpa [isT'] using c
      rw [fin_nx (ρ' := [some (.tup l), some (.int m)]) (S' := S) (by simp [isD, isT, tyN, truD, hl])]
      obtain ⟨S', e1, e2⟩ := all_comp (l := l) (pk := [none]) (e := va (o1 (isD "int") (vr 0)) (va (vn (o1 (isD "bool") (vr 0))) (o2 geD (vr 0) (cn (.int 0))))) (ρ := [some (.tup l), some (.int m)]) (f := vr 0) (S := S) [] nnI (by simp) rfl (by omega) fun d _ S' _ => by
        refine ⟨S', ?_, .refl⟩
        cases d <;> simp [isD, isT, tyN, nnI]
      refine ⟨S', ?_, e2⟩
      have e1' : b1 allD (ac (cmp (isrc (vr 0)) [none] (gn 0) ttrue (va (o1 (isD "int") (vr 0)) (va (vn (o1 (isD "bool") (vr 0))) (o2 geD (vr 0) (cn (.int 0)))))) an) [some (.tup l), some (.int m)] S = .ok (.bl (l.all nnI)) S' := by
        rw [b1_ap, ac_ap, ← e1]
        cases z : cmp (isrc (vr 0)) [none] (gn 0) ttrue (va (o1 (isD "int") (vr 0)) (va (vn (o1 (isD "bool") (vr 0))) (o2 geD (vr 0) (cn (.int 0))))) [some (.tup l), some (.int m)] S with
        | ok d S1 => simp
        | exc x S1 => rfl
        | bad => rfl
      have hc : cnt m (.tup l) = l.all nnI := by simp [cnt, hl]
      rw [sret_ap, hc, e1']
      rfl
    | _ => cases c
  · have c : isT' m x = false := by simpa using c
    have hc : cnt m x = false := by
      cases x with
      | tup l =>
        have : ¬ l.length = m := by simpa [isT'] using c
        simp [cnt, this]
      | _ => rfl
    refine ⟨S, fin_ret ?_, .refl⟩
    rw [hc]
    cases x with
    | tup l =>
      have : ¬ (l.length : Int) = m := by have : ¬ l.length = m := by simpa [isT'] using c
                                          omega
      simp [isD, isT, tyN, truD, this]
    | _ => simp [isD, isT, tyN, truD]
theorem e1 {S : Sto} : eqD (.str "end") (.str "chamber") S = .ok (.bl false) S := by rw [eq_ss (stok _) (stok _)]; rfl
theorem e2 {S : Sto} : eqD (.str "end") (.str "end") S = .ok (.bl true) S := by rw [eq_ss (stok _) (stok _)]; rfl
theorem e3 {S : Sto} : eqD (.str "chamber") (.str "chamber") S = .ok (.bl true) S := by rw [eq_ss (stok _) (stok _)]; rfl
theorem e4 {S : Sto} : eqD (.str "chamber") (.str "end") S = .ok (.bl false) S := by rw [eq_ss (stok _) (stok _)]; rfl
theorem e5 {S : Sto} : eqD (.str "pound") (.str "chamber") S = .ok (.bl false) S := by rw [eq_ss (stok _) (stok _)]; rfl
theorem e6 {S : Sto} : eqD (.str "pound") (.str "end") S = .ok (.bl false) S := by rw [eq_ss (stok _) (stok _)]; rfl
theorem fits_ok {p : Pl} {l m : Int} {S : Sto} (hl : 0 ≤ l) : f__law_fits [p.toD, .int l, .int m] S = .ok (.bl (decide (l ≤ wat p) && hol p m)) S := by
  have hf : f__law_fits [p.toD, .int l, .int m] S = fin (b__law_fits [some p.toD, some (.int l), some (.int m)] S) := fnB_ap (m := 3) (b := b__law_fits)
  rw [hf]
  unfold b__law_fits
  cases p with
  | e =>
    have : (decide (l ≤ wat .e) && hol .e m) = decide (l = 0) := by
      have h1 : hol .e m = true := rfl
      rw [h1, Bool.and_true]
      show decide (l ≤ 0) = _
      exact decide_eq_decide.mpr ⟨fun z => by omega, fun z => by omega⟩
    rw [this]
    exact fin_ret (by simp [Pl.toD, p0e, e2])
  | c =>
    rw [fin_nx (ρ' := [some (Pl.toD .c), some (.int l), some (.int m)]) (S' := S) (by simp [Pl.toD, p0e, e4])]
    refine fin_ret ?_
    show _ = OS.rt (.bl (decide (l ≤ 1) && decide (m ≤ 1))) S
    by_cases c : l ≤ 1 <;> simp [Pl.toD, p0e, e3, c]
  | p br de ro pr =>
    rw [fin_nx (ρ' := [some (Pl.toD (.p br de ro pr)), some (.int l), some (.int m)]) (S' := S) (by simp [Pl.toD, p0e, e6])]
    rw [fin_nx (ρ' := [some (Pl.toD (.p br de ro pr)), some (.int l), some (.int m)]) (S' := S) (by simp [Pl.toD, p0e, e5])]
    show fin (sret _ _ _) = Out.ok (D.bl (decide (l ≤ br) && decide (m ≤ ro))) S
    by_cases c : l ≤ br <;> simp [Pl.toD, p1e, p3e, c]
end Law
set_option Elab.async false
set_option linter.all false
set_option maxRecDepth 100000
namespace Law
open PySem PySem.Spec PyProof.Rows L2 DL
def dueR (cr r0 rl f0 fl : Int) : Bool := (decide (r0 ≤ cr) && decide (fl ≤ cr)) && (decide (rl = 0) && decide (f0 = 0))
abbrev CD (mid : List Pl) (gd : D) : D := .tup [.tup ((plc mid).map Pl.toD), gd]
theorem get0 {X : List Int} {y : Int} {S : Sto} (e : X[0]? = some y) : DL.getD (.tup (X.map D.int)) (.int 0) S = .ok (.int y) S := get_int (k := 0) e
theorem due3 {mid : List Pl} {gd a b c : D} {cr : Int} {S : Sto} (hm : ∀ p ∈ mid, p.ok ∧ p.isE = false) (h11 : mid.length ≤ 11) (v : Bool) (hv : ((cnt (plc mid).length a && cnt (plc mid).length b) && cnt (plc mid).length c) = false → v = false)
    (hv2 : ∀ (L R F : List Int) (r0 rl f0 fl : Int), a = .tup (L.map D.int) → b = .tup (R.map D.int) → c = .tup (F.map D.int) → L.length = (plc mid).length → R.length = (plc mid).length → F.length = (plc mid).length → (∀ i ∈ L, 0 ≤ i) → (∀ i ∈ R, 0 ≤ i) → (∀ i ∈ F, 0 ≤ i) → R[0]? = some r0 → R[(plc mid).length - 1]? = some rl → F[0]? = some f0 → F[(plc mid).length - 1]? = some fl → v = ((List.range (plc mid).length).all (gk (plc mid) L R F) && dueR cr r0 rl f0 fl)) :
    ∃ S', f__law_due [CD mid gd, .int cr, .tup [a, b, c]] S = .ok (.bl v) S' ∧ Ex S S' := by
  have pl := plc_len (mid := mid)
  have hp := plc_ok hm
  have hf : f__law_due [CD mid gd, .int cr, .tup [a, b, c]] S = fin (b__law_due [some (CD mid gd), some (.int cr), some (.tup [a, b, c]), none, none, none, none] S) := fnB_ap (m := 7) (b := b__law_due)
  rw [hf]
  unfold b__law_due
  rw [fin_nx (ρ' := [some (CD mid gd), some (.int cr), some (.tup [a, b, c]), none, none, none, none]) (S' := S) (by simp [isD, isT, tyN, truD])]
  obtain ⟨S1, ec, x1⟩ := all_comp (l := [a, b, c]) (pk := [none, some 0]) (e := cl 2 (noExc f__law_is_row) (ac (vr 0) (ac (b1 lenD (ac (o2 DL.getD (vr 1) (cn (.int 0))) an)) an))) (ρ := [some (CD mid gd), some (.int cr), some (.tup [a, b, c]), none, none, none, none]) (f := vr 2) (S := S) [some (CD mid gd)] (cnt (plc mid).length) (by simp) rfl (by simp) fun d _ S' _ => by
    obtain ⟨S'', q1, q2⟩ := lrow_ok (x := d) (m := (plc mid).length) (S := S') (by omega)
    exact ⟨S'', by simp [p0e, q1], q2⟩
  have ec' : b1 allD (ac (cmp (isrc (vr 2)) [none, some 0] (gn 0) ttrue (cl 2 (noExc f__law_is_row) (ac (vr 0) (ac (b1 lenD (ac (o2 DL.getD (vr 1) (cn (.int 0))) an)) an)))) an) [some (CD mid gd), some (.int cr), some (.tup [a, b, c]), none, none, none, none] S = .ok (.bl ([a, b, c].all (cnt (plc mid).length))) S1 := by
    rw [b1_ap, ac_ap, ← ec]
    cases z : cmp (isrc (vr 2)) [none, some 0] (gn 0) ttrue (cl 2 (noExc f__law_is_row) (ac (vr 0) (ac (b1 lenD (ac (o2 DL.getD (vr 1) (cn (.int 0))) an)) an))) [some (CD mid gd), some (.int cr), some (.tup [a, b, c]), none, none, none, none] S with
    | ok d S1 => simp
    | exc x S1 => rfl
    | bad => rfl
  have tst : ∀ w : Bool, [a, b, c].all (cnt (plc mid).length) = w → tn (tt (b1 allD (ac (cmp (isrc (vr 2)) [none, some 0] (gn 0) ttrue (cl 2 (noExc f__law_is_row) (ac (vr 0) (ac (b1 lenD (ac (o2 DL.getD (vr 1) (cn (.int 0))) an)) an)))) an))) [some (CD mid gd), some (.int cr), some (.tup [a, b, c]), none, none, none, none] S = .ok (!w) S1 := fun w hw => by
    rw [tn_ap, tt_ap, ec', hw]; rfl
  have alleq : [a, b, c].all (cnt (plc mid).length) = ((cnt (plc mid).length a && cnt (plc mid).length b) && cnt (plc mid).length c) := by simp [Bool.and_assoc]
  cases zc : [a, b, c].all (cnt (plc mid).length) with
  | false =>
    rw [hv (by rw [← alleq]; exact zc)]
    exact ⟨S1, fin_ret ((sif_t (tst false zc)).trans (by simp)), x1⟩
  | true =>
    rw [alleq, Bool.and_eq_true, Bool.and_eq_true] at zc
    obtain ⟨L, rfl, lL, nL⟩ := cnt_of zc.1.1
    obtain ⟨R, rfl, lR, nR⟩ := cnt_of zc.1.2
    obtain ⟨F, rfl, lF, nF⟩ := cnt_of zc.2
    obtain ⟨r0, er0⟩ : ∃ r, R[0]? = some r := ⟨_, List.getElem?_eq_getElem (by omega)⟩
    obtain ⟨rl, erl⟩ : ∃ r, R[(plc mid).length - 1]? = some r := ⟨_, List.getElem?_eq_getElem (by omega)⟩
    obtain ⟨f0, ef0⟩ : ∃ r, F[0]? = some r := ⟨_, List.getElem?_eq_getElem (by omega)⟩
    obtain ⟨fl, efl⟩ : ∃ r, F[(plc mid).length - 1]? = some r := ⟨_, List.getElem?_eq_getElem (by omega)⟩
    have hv3 := hv2 L R F r0 rl f0 fl rfl rfl rfl lL lR lF nL nR nF er0 erl ef0 efl
    refine ⟨S1, ?_, x1⟩
    refine (fin_nx (ρ' := [some (CD mid gd), some (.int cr), some (stD L R F), none, none, none, none]) (S' := S1) ((sif_f (tst true (by rw [alleq, zc.1.1, zc.1.2, zc.2]; rfl))).trans skip_ap)).trans ?_
    refine (fin_nx (ρ' := [some (CD mid gd), some (.int cr), some (stD L R F), some (.tup (L.map D.int)), some (.tup (R.map D.int)), some (.tup (F.map D.int)), none]) (S' := S1) (by rfl)).trans ?_
    have hlen : ((List.range (plc mid).length).map fun k : Nat => D.int (k : Int)).length = (plc mid).length := by simp
    have ir := ir1_ok (f := ac (b1 lenD (ac (o2 DL.getD (vr 0) (cn (.int 0))) an)) an) (ρ := [some (CD mid gd), some (.int cr), some (stD L R F), some (.tup (L.map D.int)), some (.tup (R.map D.int)), some (.tup (F.map D.int)), none]) (S := S1) (S' := S1) (n := (plc mid).length) (by simp [p0e]) (by omega)
    rcases for_chk (nxt := (rsrc 0 (plc mid).length).nxt) (g := gn 6) (b := lb__law_due_1) (l := (List.range (plc mid).length).map fun k : Nat => D.int (k : Int)) (fun k _ => gk (plc mid) L R F k)
      (fun i ρ S' => S' = S1 ∧ ∃ k0, ρ = [some (CD mid gd), some (.int cr), some (stD L R F), some (.tup (L.map D.int)), some (.tup (R.map D.int)), some (.tup (F.map D.int)), k0]) (fun i _ _ _ => rng_get)
      (fun k d ρ S' hd ⟨hS, k0, hρ⟩ => by
        obtain ⟨hk, rfl⟩ := rng_of hd
        subst hρ hS
        refine ⟨_, rfl, ?_⟩
        obtain ⟨p, ep⟩ : ∃ p, (plc mid)[k]? = some p := ⟨_, List.getElem?_eq_getElem hk⟩
        obtain ⟨l, el⟩ : ∃ r, L[k]? = some r := ⟨_, List.getElem?_eq_getElem (by omega)⟩
        obtain ⟨r, er⟩ : ∃ r, R[k]? = some r := ⟨_, List.getElem?_eq_getElem (by omega)⟩
        obtain ⟨f, ef⟩ : ∃ r, F[k]? = some r := ⟨_, List.getElem?_eq_getElem (by omega)⟩
        have hg : gk (plc mid) L R F k = (decide (l ≤ wat p) && hol p (r + f)) := by unfold gk; rw [ep, el, er, ef]
        have gp : DL.getD (.tup ((plc mid).map Pl.toD)) (.int k) S' = .ok p.toD S' := get_t (atI_nn (by omega) (by rw [Int.toNat_natCast, List.getElem?_map, ep]; rfl))
        have fo := fits_ok (p := p) (l := l) (m := r + f) (S := S') (nL l (List.mem_of_getElem? el))
        have gl := get_int (S := S') el
        have gr := get_int (S := S') er
        have gf := get_int (S := S') ef
        have base : ∀ w : Bool, (decide (l ≤ wat p) && hol p (r + f)) = w → tn (tt (cl 3 (noExc f__law_fits) (ac (o2 DL.getD (o2 DL.getD (vr 0) (cn (.int 0))) (vr 6)) (ac (o2 DL.getD (vr 3) (vr 6)) (ac (o2 addD (o2 DL.getD (vr 4) (vr 6)) (o2 DL.getD (vr 5) (vr 6))) an))))) [some (CD mid gd), some (.int cr), some (stD L R F), some (.tup (L.map D.int)), some (.tup (R.map D.int)), some (.tup (F.map D.int)), some (.int k)] S' = .ok (!w) S' := fun w hw => by
          rw [hw] at fo
          simp only [tn_ap, tt_ap, cl_ap, ac_ap, o2_ap, vr_ap, cn_ap, an_ap, List.getElem?_cons_zero, List.getElem?_cons_succ, bind_ok, p0e, gp, gl, gr, gf, add_ii, List.length_cons, List.length_nil, Nat.reduceAdd, if_true, noExc_ap, fo]
          rfl
        cases z : gk (plc mid) L R F k with
        | true =>
          rw [hg] at z
          exact .inl ⟨rfl, _, (sif_f (base true z)).trans skip_ap, rfl, some (.int k), rfl⟩
        | false =>
          rw [hg] at z
          exact .inr ⟨rfl, (sif_t (base false z)).trans (by simp)⟩) ((plc mid).length + 1) 0 [some (CD mid gd), some (.int cr), some (stD L R F), some (.tup (L.map D.int)), some (.tup (R.map D.int)), some (.tup (F.map D.int)), none] S1 (Nat.zero_le _) ⟨rfl, none, rfl⟩ (by simp) with ⟨good, ρ', e3, _, k0, hρ⟩ | ⟨⟨j, d, _, hj, hz⟩, e3⟩
    · have ga : (List.range (plc mid).length).all (gk (plc mid) L R F) = true := by
        rw [List.all_eq_true]
        intro k hk
        have hk := List.mem_range.mp hk
        exact good k (.int k) (Nat.zero_le _) (by rw [List.getElem?_map, List.getElem?_range hk]; rfl)
      rw [hv3, ga, Bool.true_and]
      subst hρ
      refine (fin_nx (ρ' := [some (CD mid gd), some (.int cr), some (stD L R F), some (.tup (L.map D.int)), some (.tup (R.map D.int)), some (.tup (F.map D.int)), k0]) (S' := S1) (by rw [sfor_ap, ir]; exact e3)).trans ?_
      have g1' := get0 (S := S1) er0
      have g2' := get_lastI (S := S1) lF (by omega) efl
      have g3' := get_lastI (S := S1) lR (by omega) erl
      have g4' := get0 (S := S1) ef0
      unfold dueR
      by_cases c1 : r0 ≤ cr
      · by_cases c2 : fl ≤ cr
        · have n1 : ¬ cr < r0 := by omega
          have n2 : ¬ cr < fl := by omega
          refine (fin_nx (ρ' := [some (CD mid gd), some (.int cr), some (stD L R F), some (.tup (L.map D.int)), some (.tup (R.map D.int)), some (.tup (F.map D.int)), k0]) (S' := S1) (by simp [g1', g2', n1, n2])).trans ?_
          by_cases c3 : rl = 0 <;> simp [g3', g4', c1, c2, c3]
        · have n1 : ¬ cr < r0 := by omega
          have n2 : cr < fl := by omega
          refine (fin_ret ?_).trans (b := .ok (.bl false) S1) (by simp [c2])
          simp [g1', g2', n1, n2]
      · have n1 : cr < r0 := by omega
        refine (fin_ret ?_).trans (b := .ok (.bl false) S1) (by simp [c1])
        simp [g1', n1]
    · have ga : (List.range (plc mid).length).all (gk (plc mid) L R F) = false := by
        have hj' := (List.getElem?_eq_some_iff.mp hj).1
        rw [hlen] at hj'
        cases z : (List.range (plc mid).length).all (gk (plc mid) L R F) with
        | false => rfl
        | true => rw [List.all_eq_true.mp z j (List.mem_range.mpr hj')] at hz; cases hz
      rw [hv3, ga, Bool.false_and]
      exact fin_ret (by rw [sfor_ap, ir]; exact e3)
end Law
set_option Elab.async false
set_option linter.all false
set_option maxRecDepth 100000
namespace Law
open PySem PySem.Spec PyProof.Rows L2 DL
theorem ne_st {S : Sto} {L R F L' R' F' : List Int} : neD (stD L R F) (stD L' R' F') S = .ok (.bl (!decide (L = L' ∧ R = R' ∧ F = F'))) S := by
  have h := eq_st (S := S) (L := L) (R := R) (F := F) (L' := L') (R' := R') (F' := F')
  simp only [eqD, neD, toP_st] at h ⊢
  split at h
  · rename_i hc
    rw [if_pos hc]
    have h := Out.ok.inj h
    have h := D.bl.inj h.1
    rw [h]
  · cases h
theorem gone_ok {L R F : List Int} {n : Nat} {S : Sto} (h0 : 0 < n) (lR : R.length = n) (lF : F.length = n) (h13 : n ≤ 13) : f_without_gone [stD L R F] S = .ok (stD L (R.take (n - 1) ++ [0]) (0 :: F.tail)) S := by
  have hf : f_without_gone [stD L R F] S = fin (b_without_gone [some (stD L R F), none, none, none] S) := fnB_ap (m := 4) (b := b_without_gone)
  rw [hf]
  unfold b_without_gone
  refine (fin_nx (ρ' := [some (stD L R F), some (.tup (L.map D.int)), some (.tup (R.map D.int)), some (.tup (F.map D.int))]) (S' := S) (by rfl)).trans ?_
  have s1 := sl_less (M := R) (S := S) (by omega)
  have s2 := sl_drop (M := F) (S := S) (by omega)
  have a1 := add_tt (S := S) (a := (R.take (R.length - 1)).map D.int) (b := [.int 0]) (by simp; omega)
  have s2 : slD2 (.tup (F.map D.int)) (some 1) none S = .ok (.tup (F.tail.map D.int)) S := by rw [s2, List.drop_one]
  have a2 := add_tt (S := S) (a := [.int 0]) (b := F.tail.map D.int) (by simp; omega)
  rw [sret_ap, tp_ap]
  simp only [ac_ap, o2_ap, sl2_ap, osome_ap, onone_ap, o1_ap, neg_i, vr_ap, cn_ap, an_ap, tp_ap, List.getElem?_cons_zero, List.getElem?_cons_succ, bind_ok, List.length_cons, List.length_nil, Nat.reduceAdd, Nat.reduceLeDiff, if_true, s1, s2, a1, a2, bindS_ok, fin_rt]
  rw [lR]
  unfold stD
  rw [List.map_append]
  rfl
theorem house_val {mid : List Pl} {gd x : D} {cr : Int} {S : Sto} (hm : ∀ p ∈ mid, p.ok ∧ p.isE = false) (h11 : mid.length ≤ 11) (c4 : cr ≤ 4) : ∃ (v : Bool) (S' : Sto), f_is_house [CD mid gd, .int cr, x] S = .ok (.bl v) S' ∧ Ex S S' ∧ (isT' 3 x = false → v = false) ∧ ∀ a b c, x = .tup [a, b, c] → (((cnt (plc mid).length a && cnt (plc mid).length b) && cnt (plc mid).length c) = false → v = false) ∧
    (∀ (L R F : List Int) (r0 rl f0 fl : Int), a = .tup (L.map D.int) → b = .tup (R.map D.int) → c = .tup (F.map D.int) → L.length = (plc mid).length → R.length = (plc mid).length → F.length = (plc mid).length → (∀ i ∈ L, 0 ≤ i) → (∀ i ∈ R, 0 ≤ i) → (∀ i ∈ F, 0 ≤ i) → R[0]? = some r0 → R[(plc mid).length - 1]? = some rl → F[0]? = some f0 → F[(plc mid).length - 1]? = some fl → v = ((List.range (plc mid).length).all (gk (plc mid) L R F) && dueR cr r0 rl f0 fl)) := by
  have pl := plc_len (mid := mid)
  have hp := plc_ok hm
  have hf : f_is_house [CD mid gd, .int cr, x] S = fin (b_is_house [some (CD mid gd), some (.int cr), some x, none, none, none] S) := fnB_ap (m := 6) (b := b_is_house)
  obtain ⟨S1, es, x1⟩ := is_stand_ok (ps := plc mid) (gd := gd) (x := x) (S := S) hp (by omega)
  cases zs : isSt (plc mid) x with
  | false =>
    rw [zs] at es
    refine ⟨false, S1, ?_, x1, fun _ => rfl, fun a b c hx => ⟨fun _ => rfl, fun L R F r0 rl f0 fl ha hb hc lL lR lF nL nR nF e0 el e0' el' => ?_⟩⟩
    · rw [hf]
      unfold b_is_house
      exact fin_ret (by simp [es, truD])
    · subst ha hb hc hx
      have cL : cnt (plc mid).length (.tup (L.map D.int)) = true := by
        simp only [cnt, List.length_map, lL, beq_self_eq_true, Bool.true_and, List.all_map, List.all_eq_true]
        intro i hi; exact decide_eq_true (nL i hi)
      have cR : cnt (plc mid).length (.tup (R.map D.int)) = true := by
        simp only [cnt, List.length_map, lR, beq_self_eq_true, Bool.true_and, List.all_map, List.all_eq_true]
        intro i hi; exact decide_eq_true (nR i hi)
      have cF : cnt (plc mid).length (.tup (F.map D.int)) = true := by
        simp only [cnt, List.length_map, lF, beq_self_eq_true, Bool.true_and, List.all_map, List.all_eq_true]
        intro i hi; exact decide_eq_true (nF i hi)
      have hst : isSt (plc mid) (.tup [.tup (L.map D.int), .tup (R.map D.int), .tup (F.map D.int)]) = ((List.range (plc mid).length).all (gk (plc mid) L R F) && decide (R.sum + F.sum ≤ 60)) := by
        simp only [isSt, ints_map', cL, cR, cF, Bool.true_and]
      rw [hst] at zs
      cases zg : (List.range (plc mid).length).all (gk (plc mid) L R F) && dueR cr r0 rl f0 fl with
      | false => rfl
      | true =>
        rw [Bool.and_eq_true] at zg
        unfold dueR at zg
        rw [Bool.and_eq_true, Bool.and_eq_true, Bool.and_eq_true] at zg
        obtain ⟨zg, ⟨q1, q2⟩, q3, q4⟩ := zg
        have q1 := of_decide_eq_true q1
        have q2 := of_decide_eq_true q2
        have q3 := of_decide_eq_true q3
        have q4 := of_decide_eq_true q4
        subst q3 q4
        have := sixty hm h11 rfl lL lR lF zg c4 e0 el' q1 q2 el e0'
        rw [zg, decide_eq_true this] at zs
        cases zs
  | true =>
    rw [zs] at es
    obtain ⟨L, R, F, hx, lL, lR, lF, nR, nF⟩ := isSt_of zs
    have hx' := hx
    obtain ⟨r0, er0⟩ : ∃ r, R[0]? = some r := ⟨_, List.getElem?_eq_getElem (by omega)⟩
    obtain ⟨Y, rl, hY, erl, lY⟩ := last_of lR (by omega)
    obtain ⟨f0, ef0⟩ : ∃ r, F[0]? = some r := ⟨_, List.getElem?_eq_getElem (by omega)⟩
    obtain ⟨fl, efl⟩ : ∃ r, F[(plc mid).length - 1]? = some r := ⟨_, List.getElem?_eq_getElem (by omega)⟩
    have go := fun S => gone_ok (L := L) (S := S) (by omega) lR lF (by omega)
    have ne := fun S => ne_st (S := S) (L := L) (R := R.take ((plc mid).length - 1) ++ [0]) (F := 0 :: F.tail) (L' := L) (R' := R) (F' := F)
    have hdec : decide (L = L ∧ R.take ((plc mid).length - 1) ++ [0] = R ∧ 0 :: F.tail = F) = (decide (rl = 0) && decide (f0 = 0)) := by
      have h1 : (R.take ((plc mid).length - 1) ++ [0] = R) ↔ rl = 0 := by
        rw [hY, ← lY, List.take_left]
        exact ⟨fun z => by have := List.append_cancel_left z; simpa using this.symm, fun z => by rw [z]⟩
      have h2 : (0 :: F.tail = F) ↔ f0 = 0 := by
        cases F with
        | nil => simp at ef0
        | cons f F => simp at ef0; subst ef0; simp [eq_comm]
      by_cases c1 : rl = 0 <;> by_cases c2 : f0 = 0 <;> simp [h1, h2, c1, c2]
    have ck := get0 (S := S1) er0
    have ck2 := get_lastI (S := S1) lF (by omega) efl
    refine ⟨dueR cr r0 rl f0 fl, S1, ?_, x1, fun h => ?_, fun a b c hxx => ?_⟩
    · rw [hf]
      unfold b_is_house
      subst hx
      have ne' := ne S1
      rw [hdec] at ne'
      cases zz : decide (rl = 0) && decide (f0 = 0) with
      | false =>
        rw [zz] at ne'
        have : dueR cr r0 rl f0 fl = false := by unfold dueR; rw [zz, Bool.and_false]
        rw [this]
        exact fin_ret (by simp [es, truD, go, ne'])
      | true =>
        rw [zz] at ne'
        refine (fin_nx (ρ' := [some (CD mid gd), some (.int cr), some (stD L R F), none, none, none]) (S' := S1) (by simp [es, truD, go, ne'])).trans ?_
        refine (fin_nx (ρ' := [some (CD mid gd), some (.int cr), some (stD L R F), some (.tup (L.map D.int)), some (.tup (R.map D.int)), some (.tup (F.map D.int))]) (S' := S1) (by rfl)).trans ?_
        unfold dueR
        rw [zz, Bool.and_true]
        by_cases c1 : r0 ≤ cr <;> simp [ck, ck2, c1]
    · subst hx; cases h
    · have hcc : ((cnt (plc mid).length a && cnt (plc mid).length b) && cnt (plc mid).length c) = true ∧ ((List.range (plc mid).length).all (gk (plc mid) (intsD a) (intsD b) (intsD c)) && decide ((intsD b).sum + (intsD c).sum ≤ 60)) = true := by
        rw [hxx] at zs
        simp only [isSt, Bool.and_eq_true] at zs ⊢
        exact zs
      refine ⟨(fun z => by rw [hcc.1] at z; cases z), fun L2 R2 F2 r0' rl' f0' fl' ha hb hc _ _ _ _ _ _ q1 q2 q3 q4 => ?_⟩
      subst ha hb hc
      rw [hxx] at hx
      unfold stD at hx
      injection hx with hx
      injection hx with h1 hx
      injection hx with h2 hx
      injection hx with h3 hx
      have i1 : L2 = L := by have := congrArg intsD h1; rwa [ints_map', ints_map'] at this
      have i2 : R2 = R := by have := congrArg intsD h2; rwa [ints_map', ints_map'] at this
      have i3 : F2 = F := by have := congrArg intsD h3; rwa [ints_map', ints_map'] at this
      subst i1 i2 i3
      rw [er0] at q1; rw [erl] at q2; rw [ef0] at q3; rw [efl] at q4
      cases (Option.some.inj q1); cases (Option.some.inj q2); cases (Option.some.inj q3); cases (Option.some.inj q4)
      have hg := hcc.2
      simp only [ints_map'] at hg
      rw [Bool.and_eq_true] at hg
      rw [hg.1, Bool.true_and]
theorem both {mid : List Pl} {gd x : D} {cr : Int} {S : Sto} (hm : ∀ p ∈ mid, p.ok ∧ p.isE = false) (h11 : mid.length ≤ 11) (c4 : cr ≤ 4) : ∃ (v : Bool) (S1 S2 : Sto), f_is_house [CD mid gd, .int cr, x] S = .ok (.bl v) S1 ∧ Ex S S1 ∧ f__law_due [CD mid gd, .int cr, x] S1 = .ok (.bl v) S2 ∧ Ex S1 S2 := by
  obtain ⟨v, S1, e1, x1, h1, h2⟩ := house_val (gd := gd) (x := x) (S := S) hm h11 c4
  cases z : isT' 3 x with
  | false =>
    rw [h1 z] at e1
    refine ⟨false, S1, S1, e1, x1, ?_, .refl⟩
    refine (fnB_ap (m := 7) (b := b__law_due)).trans ?_
    show fin (b__law_due [some (CD mid gd), some (.int cr), some x, none, none, none, none] S1) = _
    unfold b__law_due
    refine fin_ret ?_
    cases x with
    | tup l =>
      have q : ¬ l.length = 3 := by simpa [isT'] using z
      have q' : ¬ (l.length : Int) = 3 := by omega
      simp [isD, isT, tyN, truD, q, q']
    | _ => simp [isD, isT, tyN, truD]
  | true =>
    obtain ⟨a, b, c, rfl⟩ : ∃ a b c, x = .tup [a, b, c] := by
      cases x with
      | tup l =>
        have : l.length = 3 := by simpa [isT'] using z
        match l, this with
        | [a, b, c], _ => exact ⟨a, b, c, rfl⟩
      | _ => cases z
    obtain ⟨g1, g2⟩ := h2 a b c rfl
    obtain ⟨S2, e2, x2⟩ := due3 (gd := gd) (cr := cr) (S := S1) hm h11 v g1 g2
    exact ⟨v, S1, S2, e1, x1, e2, x2⟩
end Law
set_option Elab.async false
set_option linter.all false
set_option maxRecDepth 100000
namespace Law
open PySem PySem.Spec PyProof.Rows L2 DL
structure Kx (lo : Nat) (S S' : Sto) : Prop where
  len : S.length ≤ S'.length
  get : ∀ i, lo ≤ i → i < S.length → S'[i]? = S[i]?
theorem Kx.refl {lo : Nat} {S : Sto} : Kx lo S S := ⟨Nat.le_refl _, fun _ _ _ => rfl⟩
theorem Kx.trans {lo : Nat} {S S1 S2 : Sto} (a : Kx lo S S1) (b : Kx lo S1 S2) : Kx lo S S2 := ⟨Nat.le_trans a.len b.len, fun i h h2 => (b.get i h (Nat.lt_of_lt_of_le h2 a.len)).trans (a.get i h h2)⟩
theorem Kx.kp {lo t k : Nat} {S S' : Sto} (h : Kp S S' t k) (ht : t < lo) (hk : k < lo) : Kx lo S S' := ⟨h.len, fun i hi hl => h.get i hl (by omega) (by omega)⟩
theorem Kx.ex {lo : Nat} {S S' : Sto} (h : Ex S S') : Kx lo S S' := ⟨h.len, fun i _ hl => h.get i hl⟩
theorem Kx.set {lo q : Nat} {S : Sto} {c : Cell} (h : q < lo) : Kx lo S (S.set q c) := ⟨by simp, fun i hi hl => List.getElem?_set_ne (by omega)⟩
theorem Kx.app {lo : Nat} {S : Sto} {c : Cell} : Kx lo S (S ++ [c]) := .ex .app
theorem Kx.lo {lo lo' : Nat} {S S' : Sto} (h : Kx lo S S') (hl : lo ≤ lo') : Kx lo' S S' := ⟨h.len, fun i hi => h.get i (by omega)⟩
theorem Kx.at {lo q : Nat} {S S' : Sto} {c : Cell} (h : Kx lo S S') (e : S[q]? = some c) (hq : lo ≤ q) : S'[q]? = some c := (h.get q hq (List.getElem?_eq_some_iff.mp e).1).trans e
structure Gq (p : PyData) (e : Nat) : Prop where
  sh : p.showable = true
  nd : p.hasDict = false
  dp : p.depth ≤ e
  ok : PyData.strOk p.shown = true
theorem Gq.mono {p : PyData} {e e' : Nat} (h : Gq p e) (h2 : e ≤ e') : Gq p e' := ⟨h.sh, h.nd, Nat.le_trans h.dp h2, h.ok⟩
def Shx (lo : Nat) (S : Sto) (d : D) (b e : Nat) : Prop := ∃ p, (∀ S', Kx lo S S' → ∀ n, e < n → toP S' n d = some p) ∧ Gq p e ∧ p.shown.length ≤ b
def Shs (lo : Nat) (S : Sto) (l : List D) (tot e : Nat) : Prop := ∃ ps, (∀ S', Kx lo S S' → ∀ n, e < n → mapO (toP S' n) l = some ps) ∧ ps.length = l.length ∧ (∀ p ∈ ps, Gq p e) ∧ (ps.map fun p => p.shown.length).sum ≤ tot
section
variable {lo lo' : Nat} {S S1 : Sto} {d x : D} {b b' e e' tot tot' : Nat} {l m : List D}
theorem Shx.mono (h : Shx lo S d b e) (h1 : b ≤ b') (h2 : e ≤ e') : Shx lo S d b' e' := by
  obtain ⟨p, a, g, hl⟩ := h
  exact ⟨p, fun S' x n hn => a S' x n (by omega), g.mono h2, Nat.le_trans hl h1⟩
theorem Shx.to (h : Shx lo S d b e) (x : Kx lo S S1) : Shx lo S1 d b e := by
  obtain ⟨p, a, g⟩ := h
  exact ⟨p, fun S' x' n hn => a S' (x.trans x') n hn, g⟩
theorem Shx.low (h : Shx lo S d b e) (hl : lo' ≤ lo) : Shx lo' S d b e := by
  obtain ⟨p, a, g⟩ := h
  exact ⟨p, fun S' x' n hn => a S' (x'.lo hl) n hn, g⟩
theorem Shs.mono (h : Shs lo S l tot e) (h1 : tot ≤ tot') (h2 : e ≤ e') : Shs lo S l tot' e' := by
  obtain ⟨ps, a, hl, g, ht⟩ := h
  exact ⟨ps, fun S' x n hn => a S' x n (by omega), hl, fun p hp => (g p hp).mono h2, Nat.le_trans ht h1⟩
theorem Shs.to (h : Shs lo S l tot e) (x : Kx lo S S1) : Shs lo S1 l tot e := by
  obtain ⟨ps, a, g⟩ := h
  exact ⟨ps, fun S' x' n hn => a S' (x.trans x') n hn, g⟩
theorem Shs.low (h : Shs lo S l tot e) (hl : lo' ≤ lo) : Shs lo' S l tot e := by
  obtain ⟨ps, a, g⟩ := h
  exact ⟨ps, fun S' x' n hn => a S' (x'.lo hl) n hn, g⟩
theorem shs_nil : Shs lo S [] 0 e := ⟨[], fun _ _ _ _ => rfl, rfl, (fun p hp => by cases hp), by simp⟩
theorem shs_cons (h : Shx lo S x b e) (hs : Shs lo S l tot e) : Shs lo S (x :: l) (b + tot) e := by
  obtain ⟨p, a, g, hb⟩ := h
  obtain ⟨ps, a2, hl, g2, ht⟩ := hs
  refine ⟨p :: ps, fun S' x' n hn => by simp only [mapO, a S' x' n hn, a2 S' x' n hn], by simp [hl], fun q hq => ?_, by simp only [List.map_cons, List.sum_cons]; omega⟩
  rcases List.mem_cons.mp hq with rfl | hq
  · exact g
  · exact g2 q hq
theorem mapO_app {α β : Type} {f : α → Option β} : ∀ {l m : List α} {ys zs : List β}, mapO f l = some ys → mapO f m = some zs → mapO f (l ++ m) = some (ys ++ zs)
  | [], m, ys, zs, h1, h2 => by cases (Option.some.inj h1); exact h2
  | x :: l, m, ys, zs, h1, h2 => by
    simp only [mapO] at h1
    split at h1
    · rename_i y r e1 e2
      cases h1
      show mapO f (x :: (l ++ m)) = some (y :: (r ++ zs))
      simp only [mapO, e1, mapO_app e2 h2]
    · cases h1
theorem shs_app (h : Shs lo S l tot e) (h2 : Shs lo S m tot' e) : Shs lo S (l ++ m) (tot + tot') e := by
  obtain ⟨ps, a, hl, g, ht⟩ := h
  obtain ⟨qs, a2, hl2, g2, ht2⟩ := h2
  refine ⟨ps ++ qs, fun S' x' n hn => mapO_app (a S' x' n hn) (a2 S' x' n hn), by simp [hl, hl2], fun p hp => ?_, by simp only [List.map_append, List.sum_append]; omega⟩
  rcases List.mem_append.mp hp with hp | hp
  · exact g p hp
  · exact g2 p hp
theorem shs_all : ∀ {l : List D}, (∀ d ∈ l, Shx lo S d b e) → Shs lo S l (b * l.length) e
  | [], _ => shs_nil
  | x :: l, h => by
    have := shs_cons (h x List.mem_cons_self) (shs_all fun d hd => h d (List.mem_cons_of_mem _ hd))
    exact this.mono (by rw [List.length_cons, Nat.mul_add]; omega) (Nat.le_refl _)
theorem join_len : ∀ ts : List Str, (Str.join ", " ts).length ≤ (ts.map (·.length)).sum + 2 * ts.length
  | [] => Nat.le_of_eq (by rfl)
  | [x] => by show x.length ≤ _; simp
  | x :: y :: r => by
    have := join_len (y :: r)
    show (x ++ ", " ++ Str.join ", " (y :: r)).length ≤ _
    rw [Str.length_append, Str.length_append]
    have e2 : ((", " : String) : Str).length = 2 := rfl
    rw [e2]
    simp only [List.map_cons, List.sum_cons, List.length_cons] at this ⊢
    omega
theorem sok_join : ∀ ts : List Str, (∀ t ∈ ts, PyData.strOk t = true) → PyData.strOk (Str.join ", " ts) = true
  | [], _ => by decide +kernel
  | [x], h => h x List.mem_cons_self
  | x :: y :: r, h => by
    show PyData.strOk (x ++ ", " ++ Str.join ", " (y :: r)) = true
    exact sok_app (sok_app (h x List.mem_cons_self) (stok _)) (sok_join (y :: r) fun t ht => h t (List.mem_cons_of_mem _ ht))
theorem from_len : ∀ (ts : List Str) (k : Nat) (acc : Str), (textFrom k acc ts).length ≤ acc.length + (ts.map (·.length)).sum + 2 * ts.length
  | [], k, acc => by show acc.length ≤ _; simp
  | t :: ts, k, acc => by
    have e2 : ∀ b : Bool, (((if b = true then ", " else "" : String) : Str)).length ≤ 2 := fun b => by cases b <;> decide +kernel
    have h := from_len ts (k + 1) (acc ++ ((if k > 0 then ", " else "" : String) : Str) ++ t)
    refine Nat.le_trans h ?_
    have := e2 (decide (k > 0))
    rw [Str.length_append, Str.length_append]
    simp only [List.map_cons, List.sum_cons, List.length_cons]
    by_cases c : k > 0
    · rw [decide_eq_true c] at this; simp only [if_true] at this; rw [if_pos c]; omega
    · rw [decide_eq_false c] at this; simp only [Bool.false_eq_true, if_false] at this; rw [if_neg c]; omega
theorem sok_from : ∀ (ts : List Str) (k : Nat) (acc : Str), PyData.strOk acc = true → (∀ t ∈ ts, PyData.strOk t = true) → PyData.strOk (textFrom k acc ts) = true
  | [], k, acc, h, _ => h
  | t :: ts, k, acc, h, ht => sok_from ts (k + 1) _ (sok_app (sok_app h (stok _)) (ht t List.mem_cons_self)) fun u hu => ht u (List.mem_cons_of_mem _ hu)
theorem all_map : ∀ ps : List PyData, PyData.shownAll ps = ps.map PyData.shown
  | [] => rfl
  | p :: r => by show p.shown :: PyData.shownAll r = _; rw [all_map r]; rfl
theorem gq_all {e : Nat} : ∀ {ps : List PyData}, (∀ p ∈ ps, Gq p e) → PyData.showableAll ps = true ∧ PyData.hasDictAll ps = false ∧ PyData.depthAll ps ≤ e
  | [], _ => ⟨rfl, rfl, Nat.zero_le _⟩
  | p :: r, h => by
    have hp := h p List.mem_cons_self
    obtain ⟨a1, a2, a3⟩ := gq_all (ps := r) fun q hq => h q (List.mem_cons_of_mem _ hq)
    refine ⟨?_, ?_, ?_⟩
    · show (p.showable && PyData.showableAll r) = true; rw [hp.sh, a1]; rfl
    · show (p.hasDict || PyData.hasDictAll r) = false; rw [hp.nd, a2]; rfl
    · show max p.depth (PyData.depthAll r) ≤ e; exact Nat.max_le.mpr ⟨hp.dp, a3⟩
theorem gq_tup {ps : List PyData} (h : ∀ p ∈ ps, Gq p e) : Gq (.tuple ps) (e + 1) ∧ (PyData.tuple ps).shown.length ≤ (ps.map fun p => p.shown.length).sum + 2 * ps.length + 3 := by
  obtain ⟨a1, a2, a3⟩ := gq_all h
  have hs : ∀ t ∈ ps.map PyData.shown, PyData.strOk t = true := fun t ht => by obtain ⟨p, hp, rfl⟩ := List.mem_map.mp ht; exact (h p hp).ok
  refine ⟨⟨by simpa [PyData.showable] using a1, by simpa [PyData.hasDict] using a2, by simp only [PyData.depth]; omega, ?_⟩, ?_⟩
  · show PyData.strOk (tupleText (PyData.shownAll ps)) = true
    rw [all_map]
    unfold tupleText
    exact sok_app (sok_app (stok _) (sok_join _ hs)) (stok _)
  · show (tupleText (PyData.shownAll ps)).length ≤ _
    rw [all_map]
    unfold tupleText
    rw [Str.length_append, Str.length_append]
    have h1 := join_len (ps.map PyData.shown)
    rw [List.map_map, List.length_map] at h1
    have e1 : (("(" : String) : Str).length = 1 := rfl
    have e2 : ∀ b : Bool, (((if b = true then ",)" else ")" : String) : Str)).length ≤ 2 := fun b => by cases b <;> decide +kernel
    have := e2 ((ps.map PyData.shown).length == 1)
    rw [e1]
    have h1 : (Str.join ", " (ps.map PyData.shown)).length ≤ (ps.map fun p => p.shown.length).sum + 2 * ps.length := h1
    omega
theorem gq_lst {ps : List PyData} (h : ∀ p ∈ ps, Gq p e) : Gq (.list ps) (e + 1) ∧ (PyData.list ps).shown.length ≤ (ps.map fun p => p.shown.length).sum + 2 * ps.length + 3 := by
  obtain ⟨a1, a2, a3⟩ := gq_all h
  have hs : ∀ t ∈ ps.map PyData.shown, PyData.strOk t = true := fun t ht => by obtain ⟨p, hp, rfl⟩ := List.mem_map.mp ht; exact (h p hp).ok
  refine ⟨⟨by simpa [PyData.showable] using a1, by simpa [PyData.hasDict] using a2, by simp only [PyData.depth]; omega, ?_⟩, ?_⟩
  · show PyData.strOk (listText (PyData.shownAll ps)) = true
    rw [all_map]
    unfold listText
    exact sok_app (sok_from _ 0 _ (stok _) hs) (stok _)
  · show (listText (PyData.shownAll ps)).length ≤ _
    rw [all_map]
    unfold listText
    rw [Str.length_append]
    have h1 := from_len (ps.map PyData.shown) 0 "["
    rw [List.map_map, List.length_map] at h1
    have e1 : (("[" : String) : Str).length = 1 := rfl
    have e2 : (("]" : String) : Str).length = 1 := rfl
    rw [e1] at h1
    rw [e2]
    have h1 : (textFrom 0 "[" (ps.map PyData.shown)).length ≤ 1 + (ps.map fun p => p.shown.length).sum + 2 * ps.length := h1
    omega
theorem shx_tup (h : Shs lo S l tot e) : Shx lo S (.tup l) (tot + 2 * l.length + 3) (e + 1) := by
  obtain ⟨ps, a, hl, g, ht⟩ := h
  obtain ⟨g1, g2⟩ := gq_tup g
  refine ⟨.tuple ps, fun S' x n hn => ?_, g1, by omega⟩
  obtain ⟨m, rfl⟩ : ∃ m, n = m + 1 := ⟨n - 1, by omega⟩
  show (mapO (toP S' m) l).map PyData.tuple = _
  rw [a S' x m (by omega)]
  rfl
theorem shx_lst {q : Nat} {fz : Bool} (hq : S[q]? = some ⟨fz, l⟩) (h : Shs lo S l tot e) (hlo : lo ≤ q) : Shx lo S (.lst q) (tot + 2 * l.length + 3) (e + 1) := by
  obtain ⟨ps, a, hl, g, ht⟩ := h
  obtain ⟨g1, g2⟩ := gq_lst g
  refine ⟨.list ps, fun S' x n hn => ?_, g1, by omega⟩
  obtain ⟨m, rfl⟩ : ∃ m, n = m + 1 := ⟨n - 1, by omega⟩
  show (match S'[q]? with | some c => (mapO (toP S' m) c.xs).map PyData.list | none => none) = _
  rw [x.at hq hlo]
  show (mapO (toP S' m) l).map PyData.list = _
  rw [a S' x m (by omega)]
  rfl
theorem flat_of {P : PyData} (h : ∀ (S' : Sto) m, toP S' (m + 1) d = some P) (g : Gq P 0) (hb : P.shown.length ≤ b) : Shx lo S d b 0 := ⟨P, fun S' _ n hn => by obtain ⟨m, rfl⟩ : ∃ m, n = m + 1 := ⟨n - 1, by omega⟩; exact h S' m, g, hb⟩
theorem str_len (s : String) : (Str.ofString s).length = s.toList.length := by
  rw [Str.ofString_eq_toList]
  show (Array.size _) = _
  simp
theorem int_len {i : Int} (h : i.natAbs < 10 ^ 60) : (Str.ofString (toString i)).length ≤ 61 := by
  rw [str_len]
  cases i with
  | ofNat m =>
    show (Nat.repr m).toList.length ≤ 61
    have := (Nat.length_toDigits_le_iff (b := 10) (n := m) (k := 60) (by decide) (by decide)).mpr h
    simp only [Nat.repr, String.toList_ofList]
    omega
  | negSucc m =>
    show ("-" ++ Nat.repr (m + 1)).toList.length ≤ 61
    have := (Nat.length_toDigits_le_iff (b := 10) (n := m + 1) (k := 60) (by decide) (by decide)).mpr h
    simp only [Nat.repr, String.toList_append, String.toList_ofList, List.length_append]
    have : ("-" : String).toList.length = 1 := rfl
    omega
theorem shx_int {i : Int} (h : i.natAbs < 10 ^ 60) : Shx lo S (.int i) 61 0 := by
  refine flat_of (P := .int i) (fun _ _ => rfl) ⟨?_, rfl, Nat.le_refl _, ?_⟩ ?_
  · show decide (i.natAbs.log2 < 1920) = true
    refine decide_eq_true ?_
    by_cases c : i.natAbs = 0
    · rw [c]; decide
    · refine Nat.lt_of_lt_of_le ((Nat.log2_lt c).mpr (show i.natAbs < 2 ^ 200 from Nat.lt_trans h (by decide))) (by decide)
  · show PyData.strOk (Str.ofString (toString i)) = true; exact stok _
  · show (Str.ofString (toString i)).length ≤ 61; exact int_len h
theorem len_small : ∀ n : Nat, n < 1001 → (Str.ofString (toString (n : Int))).length ≤ 5 := by decide +kernel
theorem shx_small {i : Int} (h0 : 0 ≤ i) (h1 : i ≤ 1000) : Shx lo S (.int i) 5 0 := by
  have big : (1001 : Nat) < 10 ^ 60 := by decide
  obtain ⟨p, a, g, _⟩ := shx_int (lo := lo) (S := S) (i := i) (by omega)
  have : p = .int i := by have := a S .refl 1 (by decide); exact (Option.some.inj this).symm
  subst this
  refine ⟨.int i, a, g, ?_⟩
  obtain ⟨n, rfl⟩ : ∃ n : Nat, i = n := ⟨i.toNat, by omega⟩
  exact len_small n (by omega)
theorem shx_bl {v : Bool} : Shx lo S (.bl v) 61 0 := by
  refine flat_of (P := .bool v) (fun _ _ => rfl) ⟨rfl, rfl, Nat.le_refl _, ?_⟩ ?_
  · cases v <;> decide +kernel
  · cases v <;> decide +kernel
theorem shx_non : Shx lo S .non 61 0 := flat_of (P := .none) (fun _ _ => rfl) ⟨rfl, rfl, Nat.le_refl _, by decide +kernel⟩ (by decide +kernel)
theorem shx_str {s : Str} (h : PyData.strOk (reprText s) = true) (hl : (reprText s).length ≤ 61) : Shx lo S (.str s) 61 0 := flat_of (P := .str s) (fun _ _ => rfl) ⟨rfl, rfl, Nat.le_refl _, h⟩ hl
end
end Law
set_option Elab.async false
set_option linter.all false
set_option maxRecDepth 100000
namespace Law
open PySem PySem.Spec PyProof.Rows L2 DL
def bnd : Nat → Nat
  | 0 => 61
  | n + 1 => 4 * bnd n + 11
theorem bnd_ge : ∀ e, 61 ≤ bnd e
  | 0 => Nat.le_refl _
  | n + 1 => by have := bnd_ge n; show 61 ≤ 4 * bnd n + 11; omega
def AnyS (f : Fn) (e : Nat) : Prop := ∀ (S : Sto) (t k : Nat), Tp S t k → ∃ x S', f [.lst t, .int e] S = .ok x S' ∧ Shx S.length S' x (bnd e) e ∧ Tp S' t k ∧ Kp S S' t k
def CS : List Nat := (Str.ofString "leftmostighrd 01").cps.toList
theorem cs_small : ∀ c ∈ CS, c < 16 ^ 8 := by decide +kernel
theorem cs_repr : ∀ c ∈ CS, ((PySem.Builtin.Str.reprChar 34 c).all (fun x => decide (x < 1114112)) && (PySem.Builtin.Str.reprChar 39 c).all (fun x => decide (x < 1114112))) = true := by decide +kernel
theorem cs_len : CS.length = 16 := by decide +kernel
theorem fold_repr {q : Nat} (hq : q = 34 ∨ q = 39) : ∀ (l : List Nat) (acc : Array Nat), acc.all (fun x => decide (x < 1114112)) = true → (∀ c ∈ l, c ∈ CS) → (l.foldl (fun out c => out ++ (PySem.Builtin.Str.reprChar q c).toArray) acc).all (fun x => decide (x < 1114112)) = true
  | [], acc, h, _ => h
  | c :: r, acc, h, hc => by
    rw [List.foldl_cons]
    refine fold_repr hq r _ ?_ fun d hd => hc d (List.mem_cons_of_mem _ hd)
    rw [Array.all_append, h]
    have := cs_repr c (hc c List.mem_cons_self)
    rw [Bool.and_eq_true] at this
    rcases hq with rfl | rfl
    · simpa using this.1
    · simpa using this.2
theorem rep_ok {x : Str} (hx : ∀ c ∈ x.cps.toList, c ∈ CS) : PyData.strOk (reprText x) = true := by
  have hq : reprQuote x = 34 ∨ reprQuote x = 39 := by unfold reprQuote; split; exact .inl rfl; exact .inr rfl
  unfold PyData.strOk reprText
  rw [Array.all_push, ← Array.foldl_toList, fold_repr hq _ _ ?_ hx]
  · rcases hq with h | h <;> rw [h] <;> rfl
  · rcases hq with h | h <;> rw [h] <;> decide +kernel
theorem fold_mem {P : Nat → Prop} : ∀ (ps : List Str) (acc : Array Nat), (∀ c ∈ acc.toList, P c) → (∀ p ∈ ps, ∀ c ∈ p.cps.toList, P c) → ∀ c ∈ (ps.foldl (fun acc p => acc ++ Str.empty.cps ++ p.cps) acc).toList, P c
  | [], acc, h, _ => h
  | p :: r, acc, h, hp => by
    rw [List.foldl_cons]
    refine fold_mem r _ (fun c hc => ?_) fun q hq => hp q (List.mem_cons_of_mem _ hq)
    have : (acc ++ Str.empty.cps ++ p.cps).toList = acc.toList ++ p.cps.toList := by
      have : Str.empty.cps = #[] := rfl
      rw [this]; simp
    rw [this] at hc
    rcases List.mem_append.mp hc with z | z
    · exact h c z
    · exact hp p List.mem_cons_self c z
theorem fold_size : ∀ (ps : List Str) (acc : Array Nat), (∀ p ∈ ps, p.cps.size ≤ 1) → (ps.foldl (fun acc p => acc ++ Str.empty.cps ++ p.cps) acc).size ≤ acc.size + ps.length
  | [], acc, _ => by simp
  | p :: r, acc, h => by
    rw [List.foldl_cons]
    have := fold_size r (acc ++ Str.empty.cps ++ p.cps) fun q hq => h q (List.mem_cons_of_mem _ hq)
    have hp := h p List.mem_cons_self
    have e0 : Str.empty.cps.size = 0 := rfl
    rw [Array.size_append, Array.size_append, e0] at this
    rw [List.length_cons]
    omega
theorem strs_map : ∀ ps : List Str, strsOf (ps.map D.str) = some ps
  | [] => rfl
  | p :: r => by show (strsOf (r.map D.str)).map (p :: ·) = _; rw [strs_map r]; rfl
theorem sum_le {n : Nat} : ∀ {ps : List Str}, (∀ p ∈ ps, p.length ≤ n) → (ps.map (·.length)).sum ≤ n * ps.length
  | [], _ => by simp
  | p :: r, h => by
    have := sum_le (ps := r) fun q hq => h q (List.mem_cons_of_mem _ hq)
    have := h p List.mem_cons_self
    simp only [List.map_cons, List.sum_cons, List.length_cons, Nat.mul_add, Nat.mul_one]
    omega
theorem join_ok' {S : Sto} {q : Nat} {ss : List Str} (e : S[q]? = some ⟨false, ss.map D.str⟩) (hl : ss.length ≤ 5) (h : ∀ s ∈ ss, ∃ c ∈ CS, s = ⟨#[c]⟩) : ∃ y : Str, joinD (.str "") [.lst q] S = .ok (.str y) S ∧ PyData.strOk (reprText y) = true ∧ (reprText y).length ≤ 61 := by
  refine ⟨Txt.join "" ss, ?_, ?_⟩
  · simp only [joinD, e, strs_map]
    have := sum_le (n := 1) (ps := ss) fun p hp => by obtain ⟨c, _, rfl⟩ := h p hp; exact Nat.le_refl 1
    have e1 : ("" : Str).length = 0 := rfl
    rw [if_pos (by rw [e1]; omega)]
  have emp : (("" : String) : Str) = Str.empty := by decide +kernel
  have hc : ∀ c ∈ (Txt.join "" ss).cps.toList, c ∈ CS := by
    rw [emp]
    show ∀ c ∈ ((ss.drop 1).foldl (fun acc p => acc ++ Str.empty.cps ++ p.cps) (ss.headD Str.empty).cps).toList, c ∈ CS
    refine fold_mem _ _ (fun c hc => ?_) fun p hp c hc => ?_
    · cases ss with
      | nil => cases hc
      | cons s r =>
        obtain ⟨c', h1, rfl⟩ := h s List.mem_cons_self
        have : c = c' := by simpa using hc
        rw [this]; exact h1
    · obtain ⟨c', h1, rfl⟩ := h p (List.mem_of_mem_drop hp)
      have : c = c' := by simpa using hc
      rw [this]; exact h1
  have hz : (Txt.join "" ss).length ≤ 5 := by
    rw [emp]
    show ((ss.drop 1).foldl (fun acc p => acc ++ Str.empty.cps ++ p.cps) (ss.headD Str.empty).cps).size ≤ 5
    have := fold_size (ss.drop 1) (ss.headD Str.empty).cps fun p hp => by obtain ⟨c, _, rfl⟩ := h p (List.mem_of_mem_drop hp); exact Nat.le_refl 1
    cases ss with
    | nil => exact Nat.zero_le _
    | cons s r =>
      obtain ⟨c', _, rfl⟩ := h s List.mem_cons_self
      refine Nat.le_trans this ?_
      show 1 + (List.drop 1 (_ :: r)).length ≤ 5
      simp at hl ⊢
      omega
  refine ⟨rep_ok hc, ?_⟩
  have := StrLaws.reprText_len (Txt.join "" ss) fun c hcc => cs_small c (hc c hcc)
  omega
theorem letter {r : Int} {S : Sto} (h0 : 0 ≤ r) (h1 : r < 16) : ∃ c ∈ CS, DL.getD (.str "leftmostighrd 01") (.int r) S = .ok (.str ⟨#[c]⟩) S := by
  have hl : r.toNat < CS.length := by rw [cs_len]; omega
  refine ⟨CS[r.toNat], List.getElem_mem hl, ?_⟩
  have ea : atI (Str.ofString "leftmostighrd 01").cps.toList r = some CS[r.toNat] := atI_nn h0 (by show CS[r.toNat]? = _; simp [hl])
  show (if (Str.ofString "leftmostighrd 01").length ≤ 1000000 then (match atI (Str.ofString "leftmostighrd 01").cps.toList r with | some c => Out.ok (D.str ⟨#[c]⟩) S | none => .bad) else .bad) = _
  rw [if_pos (by decide +kernel), ea]
theorem any_step {fr : Fn} {e : Nat} (he : e = 0 ∨ ∃ e', e = e' + 1 ∧ AnyS fr e') : AnyS (fnB 4 (b__law_any fr)) e := by
  intro S t k d
  have lt := d.lt
  have bg := bnd_ge e
  obtain ⟨m, hm, m0, m1, m2⟩ : ∃ m : Int, (ie (tb (o2 gtD (vr 1) (cn (.int 0)))) (cn (.int 9)) (cn (.int 5)) [some (.lst t), some (.int e), none, none] S = .ok (.int m) S) ∧ 0 < m ∧ m ≤ 9 ∧ (e = 0 → m = 5) := by
    by_cases c : (0 : Int) < e
    · exact ⟨9, by simp; omega, by decide, by decide, fun z => by omega⟩
    · exact ⟨5, by simp; omega, by decide, by decide, fun _ => rfl⟩
  obtain ⟨w, S1, e1, w0, w1, d1, k1⟩ := draw (m := m) d m0 (by omega)
  have lt1 := d1.lt
  have l1 := k1.len
  have hf : fnB 4 (b__law_any fr) [.lst t, .int e] S = fin (b__law_any fr [some (.lst t), some (.int e), none, none] S) := fnB_ap (m := 4) (b := b__law_any fr)
  have p50 : ∀ S, powD (.int 10) (.int 50) S = .ok (.int (10 ^ 50)) S := fun S => pow_nn (n := 50) (by decide) (by decide)
  rw [hf]
  unfold b__law_any
  rw [fin_nx (ρ' := [some (.lst t), some (.int e), some (.int w), none]) (S' := S1) (by
    rw [sa_ap, cl_ap, ac_ap, vr_ap]
    simp only [List.getElem?_cons_zero, bind_ok]
    rw [ac_ap, hm, bind_ok, an_ap, bind_ok, bind_ok, bind_ok]
    simp only [List.length_cons, List.length_nil, Nat.reduceAdd, if_true, noExc_ap]
    rw [e1]
    rfl)]
  by_cases c0 : w = 0
  · obtain ⟨r, x, S2, e2, p2, m2', d2, k2⟩ := pick_ok (xs := [.non, .bl true, .bl false]) (m := 3) d1 rfl (by simp) (by simp)
    refine ⟨x, S2, fin_ret (by simp [c0, e2, p2]), ?_, d2, k1.trans k2⟩
    simp only [List.mem_cons, List.not_mem_nil, or_false] at m2'
    rcases m2' with rfl | rfl | rfl
    · exact shx_non.mono bg (Nat.zero_le _)
    · exact shx_bl.mono bg (Nat.zero_le _)
    · exact shx_bl.mono bg (Nat.zero_le _)
  rw [fin_nx (ρ' := [some (.lst t), some (.int e), some (.int w), none]) (S' := S1) (by simp [c0])]
  by_cases c3 : w < 3
  · obtain ⟨P50, hP50⟩ : ∃ P : Int, P = 10 ^ 50 := ⟨_, rfl⟩
    have p50' : ∀ S, powD (.int 10) (.int 50) S = .ok (.int P50) S := fun S => by rw [hP50]; exact p50 S
    obtain ⟨r, x, S2, e2, p2, m2', d2, k2⟩ := pick_ok (xs := [.int 4, .int 15, .int P50]) (m := 3) d1 rfl (by simp) (by simp)
    obtain ⟨q, hq, q0, q1⟩ : ∃ q : Int, x = .int q ∧ 0 < q ∧ q ≤ 10 ^ 50 := by
      simp only [List.mem_cons, List.not_mem_nil, or_false] at m2'
      rcases m2' with rfl | rfl | rfl
      · exact ⟨_, rfl, by decide, by decide⟩
      · exact ⟨_, rfl, by decide, by decide⟩
      · exact ⟨_, rfl, by rw [hP50]; decide, by rw [hP50]; decide⟩
    subst hq
    have b1 : (10 : Int) ^ 50 < 2 ^ 200 := by decide
    obtain ⟨v, S3, e3, v0, v1, d3, s3⟩ := large_ok (m := q) d2 q0 (by omega)
    obtain ⟨b, S4, e4, b0, b1', d4, k4⟩ := draw (m := 2) d3 (by decide) (by decide)
    have mb : mulD (.int 2) (.int b) S4 = .ok (.int (2 * b)) S4 := mul_l (by decide) (by decide)
    have mv : mulD (.int v) (.int (1 - 2 * b)) S4 = .ok (.int (v * (1 - 2 * b))) S4 := mul_r (by omega) (by omega)
    have hn : (v * (1 - 2 * b)).natAbs < 10 ^ 60 := by
      have h60 : ((10 : Int) ^ 50) < ((10 : Nat) ^ 60 : Nat) := by decide
      rcases (by omega : b = 0 ∨ b = 1) with rfl | rfl
      · have : v * (1 - 2 * 0) = v := by omega
        rw [this]; omega
      · have : v * (1 - 2 * 1) = -v := by omega
        rw [this]; omega
    exact ⟨.int (v * (1 - 2 * b)), S4, fin_ret (by simp [c3, p50', e2, p2, e3, e4, mb, mv]), (shx_int hn).mono bg (Nat.zero_le _), d4, ((k1.trans k2).trans s3.kp).trans k4⟩
  rw [fin_nx (ρ' := [some (.lst t), some (.int e), some (.int w), none]) (S' := S1) (by simp [c3])]
  by_cases c4 : w = 3
  · obtain ⟨r, x, S2, e2, p2, m2', d2, k2⟩ := pick_ok (xs := [.str "least", .str "most", .str "right", .str "left", .str "let", .str "feed", .str "end", .str "a"]) (m := 8) d1 rfl (by simp) (by simp)
    refine ⟨x, S2, fin_ret (by simp [c4, e2, p2]), ?_, d2, k1.trans k2⟩
    simp only [List.mem_cons, List.not_mem_nil, or_false] at m2'
    rcases m2' with rfl | rfl | rfl | rfl | rfl | rfl | rfl | rfl <;> exact (shx_str (by decide +kernel) (by decide +kernel)).mono bg (Nat.zero_le _)
  rw [fin_nx (ρ' := [some (.lst t), some (.int e), some (.int w), none]) (S' := S1) (by simp [c4])]
  by_cases c5 : w = 4
  · obtain ⟨r, S2, e2, r0, r1, d2, k2⟩ := draw (m := 6) d1 (by decide) (by decide)
    obtain ⟨rn, hrn⟩ : ∃ m : Nat, r = m := ⟨r.toNat, by omega⟩
    have lt2 := d2.lt
    obtain ⟨ρ', S3, el, g, ss, hρ, hq, hl, hcs, d3, k3⟩ := for_inv (nxt := (rsrc 0 rn).nxt) (g := gn 0) (b := cbody S2.length ttrue (o2 DL.getD (cn (.str "leftmostighrd 01")) (cl 2 (noExc f__law_take) (ac (vr 1) (ac (cn (.int 16)) an))))) (l := (List.range rn).map fun k : Nat => D.int (k : Int))
      (fun i ρ S' => ∃ g ss, ρ = [g, some (.lst t)] ∧ S'[S2.length]? = some ⟨false, ss.map D.str⟩ ∧ ss.length = i ∧ (∀ s ∈ ss, ∃ c ∈ CS, s = ⟨#[c]⟩) ∧ Tp S' t k ∧ Kp S2 S' t k)
      (fun i _ S _ => rng_get) (fun i d' ρ S' hd ⟨g, ss, h1, h2, h3, hu, h4, h5⟩ => by
        obtain ⟨hi, rfl⟩ := rng_of hd
        subst h1
        obtain ⟨r', S'', er, r0', r1', dr, kr⟩ := draw (m := 16) h4 (by decide) (by decide)
        obtain ⟨c, hc, gc⟩ := letter (S := S'') r0' r1'
        have q'' := kr.at h2 (by omega) (by omega)
        have lq : S2.length < S''.length := (List.getElem?_eq_some_iff.mp q'').1
        refine ⟨_, _, _, rfl, cbody_ok (d := .str ⟨#[c]⟩) (S2 := S'') ?_ q'' (by simp; omega), some (.int i), ss ++ [⟨#[c]⟩], rfl, ?_, by simp [h3], (fun s hs => ?_), dr.set (by omega) (by omega), (h5.trans kr).setq (Nat.le_refl _)⟩
        · simp [er, gc]
        · rw [List.getElem?_set_self lq]; simp
        · rcases List.mem_append.mp hs with z | z
          · exact hu s z
          · have : s = ⟨#[c]⟩ := by simpa using z
            exact ⟨c, hc, this⟩) (rn + 1) 0 [none, some (.lst t)] (S2 ++ [⟨false, []⟩]) (Nat.zero_le _) ⟨none, [], rfl, by simp [app_at], rfl, (fun s hs => by cases hs), d2.app, Kp.app⟩ (by simp)
    have hlen : ((List.range rn).map fun k : Nat => D.int (k : Int)).length = rn := by simp
    rw [hlen] at hl
    have hc := cmp_ok (pk := [none, some 0]) (ρ := [some (.lst t), some (.int e), some (.int w), none]) (S := S1) (ir1_ok (f := ac (cl 2 (noExc f__law_take) (ac (vr 0) (ac (cn (.int 6)) an))) an) (n := rn) (S' := S2) (by rw [← hrn]; simp [e2]) (by omega)) el
    obtain ⟨y, jy, so, ly⟩ := join_ok' hq (by omega) hcs
    refine ⟨.str y, S3, fin_ret ?_, (shx_str so ly).mono bg (Nat.zero_le _), d3, (k1.trans k2).trans k3⟩
    refine (sif_t (S1 := S1) (by simp [c5])).trans ?_
    rw [sret_ap]
    show bindS ((Out.ok (D.str "") S1).bind _) _ _ = _
    rw [bind_ok, if_pos (show isStr (D.str "") = true from rfl), ac_ap, hc, bind_ok, an_ap, bind_ok, bind_ok, jy]
    rfl
  rw [fin_nx (ρ' := [some (.lst t), some (.int e), some (.int w), none]) (S' := S1) (by simp [c5])]
  rcases he with rfl | ⟨e', rfl, hfr⟩
  · have := m2 rfl; omega
  obtain ⟨r, S2, e2, r0, r1, d2, k2⟩ := draw (m := 5) d1 (by decide) (by decide)
  obtain ⟨rn, hrn⟩ : ∃ m : Nat, r = m := ⟨r.toNat, by omega⟩
  have lt2 := d2.lt
  have l2 := k2.len
  obtain ⟨ρ', S3, el, g, xs, hρ, hq, hl, hsh, d3, k3⟩ := for_inv (nxt := (rsrc 0 rn).nxt) (g := gn 0) (b := cbody S2.length ttrue (cl 2 (noExc fr) (ac (vr 1) (ac (o2 subD (vr 2) (cn (.int 1))) an)))) (l := (List.range rn).map fun k : Nat => D.int (k : Int))
    (fun i ρ S' => ∃ g xs, ρ = [g, some (.lst t), some (.int ((e' + 1 : Nat) : Int))] ∧ S'[S2.length]? = some ⟨false, xs⟩ ∧ xs.length = i ∧ (∀ x ∈ xs, Shx (S2.length + 1) S' x (bnd e') e') ∧ Tp S' t k ∧ Kp S2 S' t k)
    (fun i _ S _ => rng_get) (fun i d' ρ S' hd ⟨g, xs, h1, h2, h3, hu, h4, h5⟩ => by
      obtain ⟨hi, rfl⟩ := rng_of hd
      subst h1
      obtain ⟨x, S'', ex, shx, dx, kx⟩ := hfr S' t k h4
      have q'' := kx.at h2 (by omega) (by omega)
      have lq : S2.length < S''.length := (List.getElem?_eq_some_iff.mp q'').1
      have lq' : S2.length < S'.length := (List.getElem?_eq_some_iff.mp h2).1
      have hsub : ((e' + 1 : Nat) : Int) - 1 = (e' : Int) := by omega
      refine ⟨_, _, _, rfl, cbody_ok (d := x) (S2 := S'') ?_ q'' (by omega), some (.int i), xs ++ [x], rfl, List.getElem?_set_self lq, by simp [h3], (fun y hy => ?_), dx.set (by omega) (by omega), (h5.trans kx).setq (Nat.le_refl _)⟩
      · simp only [cl_ap, ac_ap, o2_ap, vr_ap, cn_ap, an_ap, List.getElem?_cons_zero, List.getElem?_cons_succ, List.set_cons_zero, bind_ok, sub_ii, hsub, List.length_cons, List.length_nil, Nat.reduceAdd, if_true, noExc_ap, ex, gn_ap]
      · rcases List.mem_append.mp hy with z | z
        · exact ((hu y z).to (.kp kx (by omega) (by omega))).to (.set (by omega))
        · have : y = x := by simpa using z
          subst this
          exact (shx.low (by omega)).to (.set (by omega))) (rn + 1) 0 [none, some (.lst t), some (.int ((e' + 1 : Nat) : Int))] (S2 ++ [⟨false, []⟩]) (Nat.zero_le _) ⟨none, [], rfl, app_at, rfl, (fun s hs => by cases hs), d2.app, Kp.app⟩ (by simp)
  have hlen : ((List.range rn).map fun k : Nat => D.int (k : Int)).length = rn := by simp
  rw [hlen] at hl
  have hc := cmp_ok (pk := [none, some 0, some 1]) (ρ := [some (.lst t), some (.int ((e' + 1 : Nat) : Int)), some (.int w), none]) (S := S1) (ir1_ok (f := ac (cl 2 (noExc f__law_take) (ac (vr 0) (ac (cn (.int 5)) an))) an) (n := rn) (S' := S2) (by rw [← hrn]; simp [e2]) (by omega)) el
  have shs := shs_all hsh
  have sb : bnd e' * xs.length + 2 * xs.length + 3 ≤ bnd (e' + 1) := by
    show _ ≤ 4 * bnd e' + 11
    have : xs.length ≤ 4 := by omega
    have h2 : bnd e' * xs.length ≤ bnd e' * 4 := Nat.mul_le_mul_left _ this
    omega
  rw [fin_nx (ρ' := [some (.lst t), some (.int ((e' + 1 : Nat) : Int)), some (.int w), some (.lst S2.length)]) (S' := S3) (by rw [sa_ap, hc]; rfl)]
  have tp1 := tup_l hq
  by_cases c7 : w < 7
  · exact ⟨.tup xs, S3, by simp [c7, tp1], ((shx_tup shs).mono sb (Nat.le_refl _)).low (by omega), d3, (k1.trans k2).trans k3⟩
  · refine ⟨.lst S2.length, S3, by simp [c7], ((shx_lst (lo := S2.length) hq (shs.low (by omega)) (Nat.le_refl _)).mono sb (Nat.le_refl _)).low (by omega), d3, (k1.trans k2).trans k3⟩
theorem any3 : AnyS f__law_any 3 := any_step (.inr ⟨2, rfl, any_step (.inr ⟨1, rfl, any_step (.inr ⟨0, rfl, any_step (.inl rfl)⟩)⟩)⟩)
theorem any2 : AnyS f__law_any 2 := any_step (.inr ⟨1, rfl, any_step (.inr ⟨0, rfl, any_step (.inl rfl)⟩)⟩)
end Law
set_option Elab.async false
set_option linter.all false
set_option maxRecDepth 100000
namespace Law
open PySem PySem.Spec PyProof.Rows L2 DL
structure H3 (S : Sto) (a : Nat) (M : Nat → List Int) : Prop where
  hj : ∀ j, j < 3 → S[a + j]? = some ⟨false, (M j).map D.int⟩
theorem H3.kp {S S' : Sto} {a t k : Nat} {M : Nat → List Int} (h : H3 S a M) (kp : Kp S S' t k) (ht : t < a) (hk : k < a) : H3 S' a M := ⟨fun j hj => kp.at (h.hj j hj) (by omega) (by omega)⟩
theorem H3.set {S : Sto} {a j : Nat} {X : List Int} {M : Nat → List Int} (h : H3 S a M) (hj : j < 3) : H3 (S.set (a + j) ⟨false, X.map D.int⟩) a (fun i => if i = j then X else M i) := by
  have lt : a + j < S.length := (List.getElem?_eq_some_iff.mp (h.hj j hj)).1
  refine ⟨fun i hi => ?_⟩
  by_cases c : i = j
  · subst c
    rw [List.getElem?_set_self lt]; simp
  · rw [List.getElem?_set_ne (by omega), h.hj i hi]; simp [c]
theorem H3.eq {S : Sto} {a : Nat} {M M' : Nat → List Int} (h : H3 S a M) (e : ∀ j, j < 3 → M j = M' j) : H3 S a M' := ⟨fun j hj => by rw [← e j hj]; exact h.hj j hj⟩
def tops : Pl → Int
  | .p br _ _ _ => br
  | .c => 1
  | .e => 0
def rooms : Pl → Int
  | .p _ _ ro _ => ro
  | .c => 1
  | .e => 0
theorem e7 {S : Sto} : eqD (.str "end") (.str "pound") S = .ok (.bl false) S := by rw [eq_ss (stok _) (stok _)]; rfl
theorem e8 {S : Sto} : eqD (.str "chamber") (.str "pound") S = .ok (.bl false) S := by rw [eq_ss (stok _) (stok _)]; rfl
theorem e9 {S : Sto} : eqD (.str "pound") (.str "pound") S = .ok (.bl true) S := by rw [eq_ss (stok _) (stok _)]; rfl
theorem int_b {b : Bool} {S : Sto} : intD [.bl b] S = .ok (.int (if b then 1 else 0)) S := id rfl
theorem last_int {S : Sto} {q : Nat} {X : List Int} {x : Int} (h : S[q]? = some ⟨false, (X ++ [x]).map D.int⟩) : DL.getD (.lst q) (.int (-1)) S = .ok (.int x) S := by
  refine get_l h ?_
  show (ixN ((X ++ [x]).map D.int).length (-1)).bind (fun j => ((X ++ [x]).map D.int)[j]?) = _
  unfold ixN
  rw [if_neg (by decide), if_pos (by simp; omega), Option.bind_some]
  have : ((-1 : Int) + (((X ++ [x]).map D.int).length : Nat)).toNat = X.length := by simp; omega
  rw [this, List.map_append, List.getElem?_append_right (by simp)]
  simp
theorem house_step {S : Sto} {t k a : Nat} {cn' : D} {cr : Int} {p : Pl} {M : Nat → List Int} {x7 x8 x9 : Option D} (hp : p.ok) (h : H3 S a M) (d : Tp S t k) (ht : t < a) (hk : k < a) (hM : ∀ j, j < 3 → (M j).length < 1000) :
    ∃ (l r f : Int) (S' : Sto) (y7 y8 y9 : Option D), lb__law_house_1 [some (.lst t), some cn', some (.int cr), some (.lst a), some (.lst (a + 1)), some (.lst (a + 2)), some p.toD, x7, x8, x9] S = .nx [some (.lst t), some cn', some (.int cr), some (.lst a), some (.lst (a + 1)), some (.lst (a + 2)), some p.toD, y7, y8, y9] S' ∧ 0 ≤ l ∧ l ≤ 9 ∧ 0 ≤ r ∧ r ≤ 9 ∧ 0 ≤ f ∧ f ≤ 9 ∧ H3 S' a (fun j => M j ++ [if j = 0 then l else if j = 1 then r else f]) ∧ Tp S' t k := by
  have tb' : 0 ≤ tops p ∧ tops p ≤ 9 ∧ 0 ≤ rooms p ∧ rooms p ≤ 4 := by
    cases p with
    | e => exact ⟨by decide, by decide, by decide, by decide⟩
    | c => exact ⟨by decide, by decide, by decide, by decide⟩
    | p br de ro pr => obtain ⟨a1, a2, a3, a4, a5, a6, _⟩ := hp; exact ⟨by show 0 ≤ br; omega, a2, by show 0 ≤ ro; omega, a6⟩
  obtain ⟨t0, t9, r0, r4⟩ := tb'
  have pre : ∀ f : Sv, sq (sa (b1 intD (ac (o2 eqD (o2 DL.getD (vr 6) (cn (.int 0))) (cn (.str "chamber"))) an)) (gn 7)) (sq (sa (b1 intD (ac (o2 eqD (o2 DL.getD (vr 6) (cn (.int 0))) (cn (.str "chamber"))) an)) (gn 8)) (sq (sif (tb (o2 eqD (o2 DL.getD (vr 6) (cn (.int 0))) (cn (.str "pound")))) (sq (sa (o2 DL.getD (vr 6) (cn (.int 1))) (gn 7)) (sa (o2 DL.getD (vr 6) (cn (.int 3))) (gn 8))) DL.skip) f)) [some (.lst t), some cn', some (.int cr), some (.lst a), some (.lst (a + 1)), some (.lst (a + 2)), some p.toD, x7, x8, x9] S = f [some (.lst t), some cn', some (.int cr), some (.lst a), some (.lst (a + 1)), some (.lst (a + 2)), some p.toD, some (.int (tops p)), some (.int (rooms p)), x9] S := fun f => by
    cases p with
    | e => simp [Pl.toD, p0e, e1, e7, int_b, tops, rooms]
    | c => simp [Pl.toD, p0e, e3, e8, int_b, tops, rooms]
    | p br de ro pr => simp [Pl.toD, p0e, p1e, p3e, e5, e9, int_b, tops, rooms]
  unfold lb__law_house_1
  rw [pre]
  obtain ⟨l, S1, f1, l0, l1, d1, k1⟩ := draw (m := tops p + 1) d (by omega) (by omega)
  have h1 := h.kp k1 ht hk
  have c0 : S1[a]? = some ⟨false, (M 0).map D.int⟩ := h1.hj 0 (by decide)
  have i0 := isL (show S[a]? = some ⟨false, (M 0).map D.int⟩ from h.hj 0 (by decide))
  have a1 := app_l (d := .int l) c0 (by have := hM 0 (by decide); simp; omega)
  have h2 : H3 (S1.set a ⟨false, (M 0).map D.int ++ [.int l]⟩) a (fun j => if j = 0 then M 0 ++ [l] else M j) := by
    have := h1.set (j := 0) (X := M 0 ++ [l]) (by decide)
    rw [List.map_append] at this
    exact this
  have d2 := d1.set (q := a) (c := ⟨false, (M 0).map D.int ++ [.int l]⟩) (by omega) (by omega)
  rw [sq_nx (ρ' := [some (.lst t), some cn', some (.int cr), some (.lst a), some (.lst (a + 1)), some (.lst (a + 2)), some p.toD, some (.int (tops p)), some (.int (rooms p)), x9]) (S1 := S1.set a ⟨false, (M 0).map D.int ++ [.int l]⟩) (by simp [i0, f1, a1])]
  generalize S1.set a ⟨false, (M 0).map D.int ++ [.int l]⟩ = S2 at *
  obtain ⟨m, S3, f3, m0, m1, d3, k3⟩ := draw (m := rooms p + 1) d2 (by omega) (by omega)
  have h3 := h2.kp k3 ht hk
  rw [sq_nx (ρ' := [some (.lst t), some cn', some (.int cr), some (.lst a), some (.lst (a + 1)), some (.lst (a + 2)), some p.toD, some (.int (tops p)), some (.int (rooms p)), some (.int m)]) (S1 := S3) (by simp [f3])]
  obtain ⟨r, S4, f4, r0', r1, d4, k4⟩ := draw (m := m + 1) d3 (by omega) (by omega)
  have h4 := h3.kp k4 ht hk
  have c1 : S3[a + 1]? = some ⟨false, (M 1).map D.int⟩ := h3.hj 1 (by decide)
  have c1' : S4[a + 1]? = some ⟨false, (M 1).map D.int⟩ := h4.hj 1 (by decide)
  have i1 := isL c1
  have a4 := app_l (d := .int r) c1' (by have := hM 1 (by decide); simp; omega)
  have h5 : H3 (S4.set (a + 1) ⟨false, (M 1).map D.int ++ [.int r]⟩) a (fun j => if j = 1 then M 1 ++ [r] else if j = 0 then M 0 ++ [l] else M j) := by
    have := h4.set (j := 1) (X := M 1 ++ [r]) (by decide)
    rw [List.map_append] at this
    exact this
  have d5 := d4.set (q := a + 1) (c := ⟨false, (M 1).map D.int ++ [.int r]⟩) (by omega) (by omega)
  rw [sq_nx (ρ' := [some (.lst t), some cn', some (.int cr), some (.lst a), some (.lst (a + 1)), some (.lst (a + 2)), some p.toD, some (.int (tops p)), some (.int (rooms p)), some (.int m)]) (S1 := S4.set (a + 1) ⟨false, (M 1).map D.int ++ [.int r]⟩) (by simp [i1, f4, a4])]
  generalize S4.set (a + 1) ⟨false, (M 1).map D.int ++ [.int r]⟩ = S5 at *
  have c2 : S5[a + 2]? = some ⟨false, (M 2).map D.int⟩ := h5.hj 2 (by decide)
  have cr' : S5[a + 1]? = some ⟨false, (M 1 ++ [r]).map D.int⟩ := h5.hj 1 (by decide)
  have gl := last_int cr'
  have i2 := isL c2
  have a5 := app_l (d := .int (m - r)) c2 (by have := hM 2 (by decide); simp; omega)
  refine ⟨l, r, m - r, S5.set (a + 2) ⟨false, (M 2).map D.int ++ [.int (m - r)]⟩, some (.int (tops p)), some (.int (rooms p)), some (.int m), by simp [i2, gl, a5], l0, by omega, r0', by omega, by omega, by omega, ?_, d5.set (by omega) (by omega)⟩
  have := h5.set (j := 2) (X := M 2 ++ [m - r]) (by decide)
  rw [List.map_append] at this
  refine this.eq fun j hj => ?_
  rcases (by omega : j = 0 ∨ j = 1 ∨ j = 2) with rfl | rfl | rfl <;> rfl
theorem set_last {S : Sto} {k : Nat} {xs : List D} {d : D} (h : S[k]? = some ⟨false, xs⟩) (h1 : 0 < xs.length) : setD (.lst k) (.int (-1)) d S = some (S.set k ⟨false, xs.set (xs.length - 1) d⟩) := by
  show (match S[k]? with | some c => (match ixN c.xs.length (-1) with | some j => if c.fz = false then some (S.set k ⟨false, c.xs.set j d⟩) else none | none => none) | none => none) = _
  rw [h]
  show (match ixN xs.length (-1) with | some j => if false = false then some (S.set k ⟨false, xs.set j d⟩) else none | none => none) = _
  unfold ixN
  rw [if_neg (by decide), if_pos (by omega)]
  have : ((-1 : Int) + (xs.length : Nat)).toNat = xs.length - 1 := by omega
  simp [this]
theorem house_ok {S : Sto} {t k : Nat} {ps : List Pl} {gd : D} {cr : Int} (d : Tp S t k) (hp : ∀ p ∈ ps, p.ok) (h1 : 1 ≤ ps.length) (h2 : ps.length ≤ 13) (c0 : 0 ≤ cr) (c4 : cr ≤ 4) : ∃ (L R F : List Int) (S' : Sto), f__law_house [.lst t, .tup [.tup (ps.map Pl.toD), gd], .int cr] S = .ok (stD L R F) S' ∧ L.length = ps.length ∧ R.length = ps.length ∧ F.length = ps.length ∧ (∀ x ∈ L, 0 ≤ x ∧ x ≤ 60) ∧ (∀ x ∈ R, 0 ≤ x ∧ x ≤ 60) ∧ (∀ x ∈ F, 0 ≤ x ∧ x ≤ 60) ∧ Tp S' t k := by
  have lt := d.lt
  have n1 : (S ++ [(⟨false, []⟩ : Cell)]).length = S.length + 1 := by simp
  have n2 : ((S ++ [(⟨false, []⟩ : Cell)]) ++ [(⟨false, []⟩ : Cell)]).length = S.length + 2 := by simp
  have hr : H3 (((S ++ [(⟨false, []⟩ : Cell)]) ++ [(⟨false, []⟩ : Cell)]) ++ [(⟨false, []⟩ : Cell)]) S.length (fun _ => []) := by
    refine ⟨fun j hj => ?_⟩
    have : (S ++ [(⟨false, []⟩ : Cell), ⟨false, []⟩, ⟨false, []⟩])[S.length + j]? = some ⟨false, []⟩ := by
      rw [List.getElem?_append_right (by omega)]
      have : S.length + j - S.length = j := by omega
      rw [this]
      rcases (by omega : j = 0 ∨ j = 1 ∨ j = 2) with rfl | rfl | rfl <;> rfl
    simpa using this
  have dr := ((d.app (c := (⟨false, []⟩ : Cell))).app (c := (⟨false, []⟩ : Cell))).app (c := (⟨false, []⟩ : Cell))
  obtain ⟨ρ5, S5, ef, M, x6, x7, x8, x9, eρ, r5, lM, bM, d5⟩ := for_inv (nxt := (srcT (ps.map Pl.toD)).nxt) (g := gn 6) (b := lb__law_house_1) (l := ps.map Pl.toD)
    (fun i ρ S' => ∃ (M : Nat → List Int) (x6 x7 x8 x9 : Option D), ρ = [some (.lst t), some (.tup [.tup (ps.map Pl.toD), gd]), some (.int cr), some (.lst S.length), some (.lst (S.length + 1)), some (.lst (S.length + 2)), x6, x7, x8, x9] ∧ H3 S' S.length M ∧ (∀ j, (M j).length = i) ∧ (∀ j, ∀ x ∈ M j, 0 ≤ x ∧ x ≤ 60) ∧ Tp S' t k)
    (fun _ _ _ _ => rfl) (fun i dd ρ S' hd ⟨M, x6, x7, x8, x9, q1, q2, q3, q4, q5⟩ => by
      have hi : i < ps.length := by have := (List.getElem?_eq_some_iff.mp hd).1; simpa using this
      rw [List.getElem?_map] at hd
      obtain ⟨p, hp1, rfl⟩ : ∃ p, ps[i]? = some p ∧ dd = p.toD := by
        cases z : ps[i]? with
        | none => rw [z] at hd; cases hd
        | some p => rw [z] at hd; exact ⟨p, rfl, (Option.some.inj hd).symm⟩
      subst q1
      obtain ⟨l, r, f, S'', y7, y8, y9, w1, w2, w3, w4, w5, w6, w7, w8, w9⟩ := house_step (cn' := .tup [.tup (ps.map Pl.toD), gd]) (cr := cr) (x7 := x7) (x8 := x8) (x9 := x9) (hp p (List.mem_of_getElem? hp1)) q2 q5 lt.1 lt.2 (fun j _ => by rw [q3 j]; omega)
      refine ⟨_, _, S'', rfl, w1, _, some p.toD, y7, y8, y9, rfl, w8, fun j => by simp [q3 j], fun j x hx => ?_, w9⟩
      rcases List.mem_append.mp hx with z | z
      · exact q4 j x z
      · have hx : x = if j = 0 then l else if j = 1 then r else f := by simpa using z
        by_cases z0 : j = 0
        · rw [if_pos z0] at hx; omega
        · rw [if_neg z0] at hx
          by_cases z1 : j = 1
          · rw [if_pos z1] at hx; omega
          · rw [if_neg z1] at hx; omega) (srcT (ps.map Pl.toD)).fuel 0 [some (.lst t), some (.tup [.tup (ps.map Pl.toD), gd]), some (.int cr), some (.lst S.length), some (.lst (S.length + 1)), some (.lst (S.length + 2)), none, none, none, none] (((S ++ [(⟨false, []⟩ : Cell)]) ++ [(⟨false, []⟩ : Cell)]) ++ [(⟨false, []⟩ : Cell)]) (Nat.zero_le _) ⟨fun _ => [], none, none, none, none, rfl, hr, (fun _ => rfl), (fun _ x hx => by cases hx), dr⟩ fuelT
  have lM : ∀ j, (M j).length = ps.length := fun j => by rw [lM j, List.length_map]
  subst eρ
  obtain ⟨v, S6, f6, v0, v1, d6, k6⟩ := draw (m := cr + 1) d5 (by omega) (by omega)
  have r6 := r5.kp k6 lt.1 lt.2
  have s6 := set_l (d := .int v) (r6.hj 1 (by decide)) (i := 0) (by decide) (by simp [lM]; omega)
  have r7 : H3 (S6.set (S.length + 1) ⟨false, ((M 1).map D.int).set ((0 : Int)).toNat (.int v)⟩) S.length (fun i => if i = 1 then (M 1).set 0 v else M i) := by
    have := r6.set (j := 1) (X := (M 1).set 0 v) (by decide)
    rw [List.map_set] at this
    exact this
  have d7 := d6.set (q := S.length + 1) (c := ⟨false, ((M 1).map D.int).set ((0 : Int)).toNat (.int v)⟩) (by omega) (by omega)
  generalize hS7 : S6.set (S.length + 1) ⟨false, ((M 1).map D.int).set ((0 : Int)).toNat (.int v)⟩ = S7 at *
  obtain ⟨u, S8, f8, u0, u1, d8, k8⟩ := draw (m := cr + 1) d7 (by omega) (by omega)
  have r8 := r7.kp k8 lt.1 lt.2
  have c8 : S8[S.length + 2]? = some ⟨false, (M 2).map D.int⟩ := r8.hj 2 (by decide)
  have s8 := set_last (d := .int u) c8 (by simp [lM]; omega)
  have r9 : H3 (S8.set (S.length + 2) ⟨false, ((M 2).map D.int).set (((M 2).map D.int).length - 1) (.int u)⟩) S.length (fun i => if i = 2 then (M 2).set (ps.length - 1) u else if i = 1 then (M 1).set 0 v else M i) := by
    have := r8.set (j := 2) (X := (M 2).set (ps.length - 1) u) (by decide)
    rw [List.map_set] at this
    rw [List.length_map, lM 2]
    exact this
  have d9 := d8.set (q := S.length + 2) (c := ⟨false, ((M 2).map D.int).set (((M 2).map D.int).length - 1) (.int u)⟩) (by omega) (by omega)
  generalize hS9 : S8.set (S.length + 2) ⟨false, ((M 2).map D.int).set (((M 2).map D.int).length - 1) (.int u)⟩ = S9 at *
  have t0 : tupD [.lst S.length] S9 = .ok (.tup ((M 0).map D.int)) S9 := tup_l (r9.hj 0 (by decide))
  have t1 : tupD [.lst (S.length + 1)] S9 = .ok (.tup (((M 1).set 0 v).map D.int)) S9 := tup_l (r9.hj 1 (by decide))
  have t2 : tupD [.lst (S.length + 2)] S9 = .ok (.tup (((M 2).set (ps.length - 1) u).map D.int)) S9 := tup_l (r9.hj 2 (by decide))
  refine ⟨M 0, (M 1).set 0 v, (M 2).set (ps.length - 1) u, S9, ?_, lM 0, by simp [lM 1], by simp [lM 2], bM 0, fun x hx => ?_, fun x hx => ?_, d9⟩
  · refine (fnB_ap (m := 10) (b := b__law_house)).trans ?_
    show fin (b__law_house [some (.lst t), some (.tup [.tup (ps.map Pl.toD), gd]), some (.int cr), none, none, none, none, none, none, none] S) = _
    unfold b__law_house
    refine (fin_nx (ρ' := [some (.lst t), some (.tup [.tup (ps.map Pl.toD), gd]), some (.int cr), some (.lst S.length), none, none, none, none, none, none]) (S' := S ++ [⟨false, []⟩]) (by simp)).trans ?_
    refine (fin_nx (ρ' := [some (.lst t), some (.tup [.tup (ps.map Pl.toD), gd]), some (.int cr), some (.lst S.length), some (.lst (S.length + 1)), none, none, none, none, none]) (S' := (S ++ [⟨false, []⟩]) ++ [⟨false, []⟩]) (by simp)).trans ?_
    refine (fin_nx (ρ' := [some (.lst t), some (.tup [.tup (ps.map Pl.toD), gd]), some (.int cr), some (.lst S.length), some (.lst (S.length + 1)), some (.lst (S.length + 2)), none, none, none, none]) (S' := ((S ++ [⟨false, []⟩]) ++ [⟨false, []⟩]) ++ [⟨false, []⟩]) (by simp)).trans ?_
    refine (fin_nx (ρ' := [some (.lst t), some (.tup [.tup (ps.map Pl.toD), gd]), some (.int cr), some (.lst S.length), some (.lst (S.length + 1)), some (.lst (S.length + 2)), x6, x7, x8, x9]) (S' := S5) ?_).trans ?_
    · rw [sfor_ap, isrc_ap, o2_ap]
      simp only [vr_ap, cn_ap, List.getElem?_cons_zero, List.getElem?_cons_succ, bind_ok, p0e, src_t, bindS_ok]
      exact ef
    refine (fin_nx (ρ' := [some (.lst t), some (.tup [.tup (ps.map Pl.toD), gd]), some (.int cr), some (.lst S.length), some (.lst (S.length + 1)), some (.lst (S.length + 2)), x6, x7, x8, x9]) (S' := S7) (by simp only [ss_ap, cl_ap, ac_ap, o2_ap, vr_ap, cn_ap, an_ap, List.getElem?_cons_zero, List.getElem?_cons_succ, bind_ok, add_ii, List.length_cons, List.length_nil, Nat.reduceAdd, if_true, noExc_ap, f6, bindS_ok, s6])).trans ?_
    refine (fin_nx (ρ' := [some (.lst t), some (.tup [.tup (ps.map Pl.toD), gd]), some (.int cr), some (.lst S.length), some (.lst (S.length + 1)), some (.lst (S.length + 2)), x6, x7, x8, x9]) (S' := S9) (by simp only [ss_ap, cl_ap, ac_ap, o2_ap, o1_ap, neg_i, vr_ap, cn_ap, an_ap, List.getElem?_cons_zero, List.getElem?_cons_succ, bind_ok, add_ii, List.length_cons, List.length_nil, Nat.reduceAdd, if_true, noExc_ap, f8, bindS_ok, s8])).trans ?_
    simp [t0, t1, t2, stD]
  · rcases List.mem_or_eq_of_mem_set hx with z | rfl
    · exact bM 1 x z
    · exact ⟨v0, by omega⟩
  · rcases List.mem_or_eq_of_mem_set hx with z | rfl
    · exact bM 2 x z
    · exact ⟨u0, by omega⟩
end Law
set_option Elab.async false
set_option linter.all false
set_option maxRecDepth 100000
namespace Law
open PySem PySem.Spec PyProof.Rows L2 DL
theorem sl_take {l : List D} {n : Nat} {S : Sto} : slD2 (.tup l) none (some (n : Int)) S = .ok (.tup (l.take n)) S := by
  have e2 : HT.sIx l.length l.length (some (n : Int)) = min n l.length := HT.sIx_nat l.length l.length n
  show (if HT.sIx l.length 0 none = 0 ∧ HT.sIx l.length l.length (some (n : Int)) = l.length then Out.ok (D.tup l) S else .ok (.tup (DL.cutD l none (some (n : Int)))) S) = _
  rw [e2, HT.sIx_none]
  by_cases c : min n l.length = l.length
  · rw [if_pos ⟨rfl, c⟩, List.take_of_length_le (by omega)]
  · rw [if_neg (fun z => c z.2)]
    unfold DL.cutD
    rw [e2, HT.sIx_none, List.drop_zero, Nat.sub_zero]
    have : min n l.length = n := by omega
    rw [this]
theorem sl_dropn {l : List D} {n : Nat} {S : Sto} : slD2 (.tup l) (some (n : Int)) none S = .ok (.tup (l.drop n)) S := by
  have e2 : HT.sIx l.length 0 (some (n : Int)) = min n l.length := HT.sIx_nat l.length 0 n
  show (if HT.sIx l.length 0 (some (n : Int)) = 0 ∧ HT.sIx l.length l.length none = l.length then Out.ok (D.tup l) S else .ok (.tup (DL.cutD l (some (n : Int)) none)) S) = _
  rw [e2, HT.sIx_none]
  by_cases c : min n l.length = 0
  · rw [if_pos ⟨c, rfl⟩]
    rcases (by omega : n = 0 ∨ l.length = 0) with z | z
    · rw [z]; rfl
    · rw [List.length_eq_zero_iff.mp z]; simp
  · rw [if_neg (fun z => c z.1)]
    unfold DL.cutD
    rw [e2, HT.sIx_none]
    by_cases h : n ≤ l.length
    · have : min n l.length = n := by omega
      rw [this, List.take_of_length_le (by simp)]
    · have : min n l.length = l.length := by omega
      rw [this, List.drop_of_length_le (Nat.le_refl _), List.drop_of_length_le (by omega)]
      simp
def putL (l : List D) (at' : Nat) (x : D) : List D := (l.take at' ++ [x]) ++ l.drop (at' + 1)
theorem put_ok {l : List D} {at' : Nat} {x : D} {S : Sto} (hl : l.length ≤ 1000) : f__law_put [.tup l, .int at', x] S = .ok (.tup (putL l at' x)) S := by
  have s1 := sl_take (l := l) (n := at') (S := S)
  have s2 := sl_dropn (l := l) (n := at' + 1) (S := S)
  have a1 := add_tt (S := S) (a := l.take at') (b := [x]) (by simp; omega)
  have a2 := add_tt (S := S) (a := l.take at' ++ [x]) (b := l.drop (at' + 1)) (by simp; omega)
  have hi : (at' : Int) + 1 = ((at' + 1 : Nat) : Int) := by omega
  refine (fnB_ap (m := 3) (b := b__law_put)).trans ?_
  show fin (b__law_put [some (.tup l), some (.int at'), some x] S) = _
  unfold b__law_put
  rw [sret_ap]
  simp only [o2_ap, sl2_ap, onone_ap, osome_ap, vr_ap, cn_ap, tp_ap, ac_ap, an_ap, List.getElem?_cons_zero, List.getElem?_cons_succ, bind_ok, List.length_cons, List.length_nil, Nat.reduceAdd, Nat.reduceLeDiff, if_true, s1, a1, add_ii, hi, s2, a2, bindS_ok, fin_rt]
  rfl
theorem other_ok {rows r : List D} {row at' : Nat} {x : D} {S : Sto} (hl : rows.length ≤ 1000) (hr : rows[row]? = some (.tup r)) (hl2 : r.length ≤ 1000) : f__law_other [.tup rows, .int row, .int at', x] S = .ok (.tup (putL rows row (.tup (putL r at' x)))) S := by
  have g : DL.getD (.tup rows) (.int row) S = .ok (.tup r) S := get_t (atI_nn (by omega) (by rw [Int.toNat_natCast]; exact hr))
  have p1 := put_ok (l := r) (at' := at') (x := x) (S := S) hl2
  have p2 := put_ok (l := rows) (at' := row) (x := .tup (putL r at' x)) (S := S) hl
  refine (fnB_ap (m := 4) (b := b__law_other)).trans ?_
  show fin (b__law_other [some (.tup rows), some (.int row), some (.int at'), some x] S) = _
  unfold b__law_other
  simp only [sret_ap, cl_ap, o2_ap, vr_ap, ac_ap, an_ap, List.getElem?_cons_zero, List.getElem?_cons_succ, bind_ok, g, List.length_cons, List.length_nil, Nat.reduceAdd, if_true, noExc_ap, p1, p2, bindS_ok, fin_rt]
section
variable {lo : Nat} {S : Sto} {x : D} {b e : Nat}
theorem sh_putr {X : List Int} {at' : Nat} (h : ∀ i ∈ X, 0 ≤ i ∧ i ≤ 60) (hl : X.length ≤ 13) (hx : Shx lo S x b e) : Shx lo S (.tup (putL (X.map D.int) at' x)) (b + 200) (e + 1) := by
  have sm : ∀ d ∈ X.map D.int, Shx lo S d 5 e := fun d hd => by
    obtain ⟨i, hi, rfl⟩ := List.mem_map.mp hd
    exact (shx_small (h i hi).1 (by have := (h i hi).2; omega)).mono (Nat.le_refl _) (Nat.zero_le _)
  have s1 := shs_all (l := (X.map D.int).take at') fun d hd => sm d (List.mem_of_mem_take hd)
  have s2 := shs_all (l := (X.map D.int).drop (at' + 1)) fun d hd => sm d (List.mem_of_mem_drop hd)
  have l1 : ((X.map D.int).take at').length ≤ 13 := by simp; omega
  have l2 : ((X.map D.int).drop (at' + 1)).length ≤ 13 := by simp; omega
  refine (shx_tup (shs_app (shs_app s1 (shs_cons hx shs_nil)) s2)).mono ?_ (Nat.le_refl _)
  simp only [List.length_append, List.length_cons, List.length_nil]
  omega
theorem sh_row {X : List Int} (h : ∀ i ∈ X, 0 ≤ i ∧ i ≤ 60) (hl : X.length ≤ 14) : Shx lo S (.tup (X.map D.int)) 110 1 := by
  have s1 := shs_all (lo := lo) (S := S) (e := 0) (b := 5) (l := X.map D.int) fun d hd => by
    obtain ⟨i, hi, rfl⟩ := List.mem_map.mp hd
    exact shx_small (h i hi).1 (by have := (h i hi).2; omega)
  refine (shx_tup s1).mono ?_ (Nat.le_refl _)
  simp only [List.length_map]
  omega
theorem shx_3 {y z : D} {b2 b3 : Nat} (h1 : Shx lo S x b e) (h2 : Shx lo S y b2 e) (h3 : Shx lo S z b3 e) : Shx lo S (.tup [x, y, z]) (b + b2 + b3 + 9) (e + 1) :=
  (shx_tup (shs_cons h1 (shs_cons h2 (shs_cons h3 shs_nil)))).mono (by simp; omega) (Nat.le_refl _)
end
structure Hs (n : Nat) (L R F : List Int) : Prop where
  l1 : L.length = n
  l2 : R.length = n
  l3 : F.length = n
  b1 : ∀ x ∈ L, 0 ≤ x ∧ x ≤ 60
  b2 : ∀ x ∈ R, 0 ≤ x ∧ x ≤ 60
  b3 : ∀ x ∈ F, 0 ≤ x ∧ x ≤ 60
  n1 : 1 ≤ n
  n13 : n ≤ 13
def rw' (L R F : List Int) : Nat → List Int
  | 0 => L
  | 1 => R
  | _ => F
abbrev rows (L R F : List Int) : List D := [.tup (L.map D.int), .tup (R.map D.int), .tup (F.map D.int)]
section
variable {lo : Nat} {S : Sto} {x : D} {b e n : Nat} {L R F : List Int}
theorem Hs.len (h : Hs n L R F) (j : Nat) : (rw' L R F j).length = n := by
  match j with
  | 0 => exact h.l1
  | 1 => exact h.l2
  | j + 2 => exact h.l3
theorem Hs.bd (h : Hs n L R F) (j : Nat) : ∀ x ∈ rw' L R F j, 0 ≤ x ∧ x ≤ 60 := by
  match j with
  | 0 => exact h.b1
  | 1 => exact h.b2
  | j + 2 => exact h.b3
theorem Hs.get (h : Hs n L R F) {j : Nat} (hj : j < 3) : (rows L R F)[j]? = some (.tup ((rw' L R F j).map D.int)) := by
  rcases (by omega : j = 0 ∨ j = 1 ∨ j = 2) with rfl | rfl | rfl <;> rfl
theorem Hs.put (h : Hs n L R F) {row : Nat} (hx : Shx lo S x b e) (he : 1 ≤ e) : Shx lo S (.tup (putL (rows L R F) row x)) (b + 700) (e + 1) := by
  have sm : ∀ d ∈ rows L R F, Shx lo S d 110 e := fun d hd => by
    simp only [List.mem_cons, List.not_mem_nil, or_false] at hd
    rcases hd with rfl | rfl | rfl
    · exact (sh_row h.b1 (by have := h.l1; have := h.n13; omega)).mono (Nat.le_refl _) he
    · exact (sh_row h.b2 (by have := h.l2; have := h.n13; omega)).mono (Nat.le_refl _) he
    · exact (sh_row h.b3 (by have := h.l3; have := h.n13; omega)).mono (Nat.le_refl _) he
  have s1 := shs_all (l := (rows L R F).take row) fun d hd => sm d (List.mem_of_mem_take hd)
  have s2 := shs_all (l := (rows L R F).drop (row + 1)) fun d hd => sm d (List.mem_of_mem_drop hd)
  have l1 : ((rows L R F).take row).length ≤ 3 := by simp; omega
  have l2 : ((rows L R F).drop (row + 1)).length ≤ 3 := by simp; omega
  refine (shx_tup (shs_app (shs_app s1 (shs_cons hx shs_nil)) s2)).mono ?_ (Nat.le_refl _)
  simp only [List.length_append, List.length_cons, List.length_nil] at *
  omega
theorem Hs.other (h : Hs n L R F) {row at' : Nat} (hj : row < 3) (hx : Shx lo S x b e) : ∃ y, (∀ S, f__law_other [stD L R F, .int row, .int at', x] S = .ok y S) ∧ Shx lo S y (b + 910) (e + 2) := by
  have hl := h.len row
  have n13 := h.n13
  refine ⟨_, fun S => other_ok (rows := rows L R F) (S := S) (by simp) (h.get hj) (by simp; omega), ?_⟩
  exact (h.put (sh_putr (h.bd row) (by omega) hx) (by omega)).mono (by omega) (Nat.le_refl _)
theorem Hs.self (h : Hs n L R F) : Shx lo S (stD L R F) 340 2 := by
  have n13 := h.n13
  have l1 := h.l1
  have l2 := h.l2
  have l3 := h.l3
  exact (shx_3 (sh_row h.b1 (by omega)) (sh_row h.b2 (by omega)) (sh_row h.b3 (by omega))).mono (by omega) (Nat.le_refl _)
end
abbrev G (lo : Nat) (S : Sto) (x : D) : Prop := Shx lo S x 9000 8
theorem else_ok {S : Sto} {t k n : Nat} {L R F : List Int} (h : Hs n L R F) (d : Tp S t k) : ∃ x S', f__law_else [.lst t, stD L R F] S = .ok x S' ∧ G S.length S' x ∧ Tp S' t k ∧ Kp S S' t k := by
  have lt := d.lt
  have e3 : bnd 3 = 4135 := rfl
  have e2 : bnd 2 = 1031 := rfl
  obtain ⟨x, S1, f1, s1, d1, k1⟩ := any3 S t k d
  have f1 : f__law_any [.lst t, .int 3] S = .ok x S1 := f1
  have s1 : Shx S.length S1 x 4135 3 := s1
  obtain ⟨r, S2, f2, r0, r1, d2, k2⟩ := draw (m := 3) d1 (by decide) (by decide)
  obtain ⟨w, S3, f3, w0, w1, d3, k3⟩ := draw (m := 4) d2 (by decide) (by decide)
  obtain ⟨rn, hrn⟩ : ∃ m : Nat, r = m := ⟨r.toNat, by omega⟩
  subst hrn
  have s3 := (s1.to (.kp k2 lt.1 lt.2)).to (.kp k3 lt.1 lt.2)
  have kk := (k1.trans k2).trans k3
  have hf : f__law_else [.lst t, stD L R F] S = fin (b__law_else [some (.lst t), some (stD L R F), none, none, none] S) := fnB_ap (m := 5) (b := b__law_else)
  rw [hf]
  unfold b__law_else
  rw [fin_nx (ρ' := [some (.lst t), some (stD L R F), some x, none, none]) (S' := S1) (by simp [f1])]
  rw [fin_nx (ρ' := [some (.lst t), some (stD L R F), some x, some (.int rn), none]) (S' := S2) (by simp [f2])]
  rw [fin_nx (ρ' := [some (.lst t), some (stD L R F), some x, some (.int rn), some (.int w)]) (S' := S3) (by simp [f3])]
  by_cases c0 : w = 0
  · exact ⟨x, S3, fin_ret (by simp [c0]), s3.mono (by decide) (by decide), d3, kk⟩
  rw [fin_nx (ρ' := [some (.lst t), some (stD L R F), some x, some (.int rn), some (.int w)]) (S' := S3) (by simp [c0])]
  by_cases c1 : w = 1
  · have p := put_ok (l := rows L R F) (at' := rn) (x := x) (S := S3) (by simp)
    have p : f__law_put [stD L R F, .int rn, x] S3 = .ok (.tup (putL (rows L R F) rn x)) S3 := p
    exact ⟨.tup (putL (rows L R F) rn x), S3, fin_ret ((sif_t (S1 := S3) (by simp [c1])).trans (by simp only [sret_ap, cl_ap, ac_ap, an_ap, vr_ap, List.getElem?_cons_zero, List.getElem?_cons_succ, bind_ok, List.length_cons, List.length_nil, Nat.reduceAdd, if_true, noExc_ap, p, bindS_ok])), (h.put (row := rn) s3 (by decide)).mono (by decide) (by decide), d3, kk⟩
  rw [fin_nx (ρ' := [some (.lst t), some (stD L R F), some x, some (.int rn), some (.int w)]) (S' := S3) (by simp [c1])]
  by_cases c2 : w = 2
  · obtain ⟨y, S4, f4, s4, d4, k4⟩ := any2 S3 t k d3
    have f4 : f__law_any [.lst t, .int 2] S3 = .ok y S4 := f4
    have s4 : Shx S3.length S4 y 1031 2 := s4
    obtain ⟨z, S5, f5, s5, d5, k5⟩ := any2 S4 t k d4
    have f5 : f__law_any [.lst t, .int 2] S4 = .ok z S5 := f5
    have s5 : Shx S4.length S5 z 1031 2 := s5
    have l3 := kk.len
    have l4 := k4.len
    refine ⟨.tup [x, y, z], S5, fin_ret (by simp [c2, f4, f5]), ?_, d5, (kk.trans k4).trans k5⟩
    refine (shx_3 (((s3.to (.kp k4 lt.1 lt.2)).to (.kp k5 lt.1 lt.2)).mono (Nat.le_refl _) (Nat.le_refl 3)) (((s4.low (by omega)).to (.kp k5 lt.1 lt.2)).mono (Nat.le_refl _) (by decide)) ((s5.low (by omega)).mono (Nat.le_refl _) (by decide))).mono (by decide) (by decide)
  rw [fin_nx (ρ' := [some (.lst t), some (stD L R F), some x, some (.int rn), some (.int w)]) (S' := S3) (by simp [c2])]
  have ln : ∀ S, lenD [.tup (L.map D.int)] S = .ok (.int n) S := fun S => by rw [len_t]; simp [h.l1]
  obtain ⟨a, S4, f4, a0, a1, d4, k4⟩ := draw (m := n) d3 (by have := h.n1; omega) (by have := h.n13; omega)
  obtain ⟨an', han⟩ : ∃ m : Nat, a = m := ⟨a.toNat, by omega⟩
  subst han
  obtain ⟨y, fy, sy⟩ := h.other (row := rn) (at' := an') (by omega) (s3.to (.kp k4 lt.1 lt.2))
  refine ⟨y, S4, ?_, sy.mono (by decide) (by decide), d4, kk.trans k4⟩
  have g0' : ∀ S, DL.getD (stD L R F) (.int 0) S = .ok (.tup (L.map D.int)) S := fun S => get_t rfl
  rw [sret_ap]
  simp only [cl_ap, ac_ap, an_ap, b1_ap, o2_ap, vr_ap, cn_ap, List.getElem?_cons_zero, List.getElem?_cons_succ, bind_ok, g0', ln, List.length_cons, List.length_nil, Nat.reduceAdd, if_true, noExc_ap, f4, fy, bindS_ok, fin_rt]
end Law
set_option Elab.async false
set_option linter.all false
set_option maxRecDepth 100000
namespace Law
open PySem PySem.Spec PyProof.Rows L2 DL
theorem others_ok {S : Sto} {old : Int} (h0 : 0 ≤ old) (h1 : old ≤ 60) : ∃ (q : Nat) (S' : Sto) (ys : List D), f__law_others [.int old] S = .ok (.lst q) S' ∧ S'[q]? = some ⟨false, ys⟩ ∧ ys.length = 16 ∧ Ex S S' ∧ S.length ≤ q ∧ ∀ y ∈ ys, Shx S.length S' y 200 1 := by
  obtain ⟨P30, hP30⟩ : ∃ P : Int, P = 10 ^ 30 := ⟨_, rfl⟩
  have p30 : ∀ S, powD (.int 10) (.int 30) S = .ok (.int P30) S := fun S => by rw [hP30]; exact pow_nn (n := 30) (by decide) (by decide)
  have hf : f__law_others [.int old] S = fin (b__law_others [some (.int old), none] S) := fnB_ap (m := 2) (b := b__law_others)
  have hq1 := app_at (S := S) (c := (⟨false, [.int old]⟩ : Cell))
  have n1 : (S ++ [(⟨false, [.int old]⟩ : Cell)]).length = S.length + 1 := by simp
  have x1 : Ex S (S ++ [(⟨false, [.int old]⟩ : Cell)]) := Ex.app
  have s1 : sa (ls (ac (o2 addD (vr 0) (cn (.int 1))) (ac (o2 subD (vr 0) (cn (.int 1))) (ac (cn (.int 0)) (ac (cn (.int 1)) (ac (cn (.int 4)) (ac (cn (.int 5)) (ac (cn (.int 9)) (ac (cn (.int 61)) (ac (o2 subD (cn (.int 0)) (cn (.int 1))) (ac (o2 eqD (vr 0) (cn (.int 1))) (ac (o2 gtD (vr 0) (cn (.int 0))) (ac (cn .non) (ac (cn (.str "1")) (ac (ls (ac (vr 0) an)) (ac (tp (ac (vr 0) an)) an)))))))))))))))) (gn 1) [some (.int old), none] S = .nx [some (.int old), some (.lst (S.length + 1))] ((S ++ [(⟨false, [.int old]⟩ : Cell)]) ++ [(⟨false, [.int (old + 1), .int (old - 1), .int 0, .int 1, .int 4, .int 5, .int 9, .int 61, .int (0 - 1), .bl (decide (old = 1)), .bl (decide (0 < old)), .non, .str "1", .lst S.length, .tup [.int old]]⟩ : Cell)]) := by simp
  generalize S ++ [(⟨false, [.int old]⟩ : Cell)] = T1 at *
  have hq2 := app_at (S := T1) (c := (⟨false, [.int (old + 1), .int (old - 1), .int 0, .int 1, .int 4, .int 5, .int 9, .int 61, .int (0 - 1), .bl (decide (old = 1)), .bl (decide (0 < old)), .non, .str "1", .lst S.length, .tup [.int old]]⟩ : Cell))
  have x2 : Ex T1 (T1 ++ [(⟨false, [.int (old + 1), .int (old - 1), .int 0, .int 1, .int 4, .int 5, .int 9, .int 61, .int (0 - 1), .bl (decide (old = 1)), .bl (decide (0 < old)), .non, .str "1", .lst S.length, .tup [.int old]]⟩ : Cell)]) := Ex.app
  rw [n1] at hq2
  generalize hT2 : T1 ++ [(⟨false, [.int (old + 1), .int (old - 1), .int 0, .int 1, .int 4, .int 5, .int 9, .int 61, .int (0 - 1), .bl (decide (old = 1)), .bl (decide (0 < old)), .non, .str "1", .lst S.length, .tup [.int old]]⟩ : Cell)] = T2 at *
  have ad := add_ll (S := T2 ++ [(⟨false, [.int (P30 + old)]⟩ : Cell)]) (app_old hq2) app_at (by simp)
  have lE : ls (ac (o2 addD (o2 powD (cn (.int 10)) (cn (.int 30))) (vr 0)) an) [some (.int old), some (.lst (S.length + 1))] T2 = .ok (.lst T2.length) (T2 ++ [(⟨false, [.int (P30 + old)]⟩ : Cell)]) := by simp [p30]
  refine ⟨_, _, [.int (old + 1), .int (old - 1), .int 0, .int 1, .int 4, .int 5, .int 9, .int 61, .int (0 - 1), .bl (decide (old = 1)), .bl (decide (0 < old)), .non, .str "1", .lst S.length, .tup [.int old]] ++ [.int (P30 + old)], ?_, app_at (S := T2 ++ [(⟨false, [.int (P30 + old)]⟩ : Cell)]), by simp, ((x1.trans x2).trans Ex.app).trans Ex.app, ?_, ?_⟩
  · rw [hf]
    unfold b__law_others
    rw [fin_nx s1, sret_ap, o2_ap, vr_ap]
    simp only [List.getElem?_cons_zero, List.getElem?_cons_succ, bind_ok]
    rw [lE, bind_ok, ad]
    rfl
  · have := x1.len; have := x2.len; simp; omega
  · intro y hy
    have x3 : Ex T1 ((T2 ++ [(⟨false, [.int (P30 + old)]⟩ : Cell)]) ++ [(⟨false, [.int (old + 1), .int (old - 1), .int 0, .int 1, .int 4, .int 5, .int 9, .int 61, .int (0 - 1), .bl (decide (old = 1)), .bl (decide (0 < old)), .non, .str "1", .lst S.length, .tup [.int old]] ++ [.int (P30 + old)]⟩ : Cell)]) := (x2.trans Ex.app).trans Ex.app
    have hq3 := x3.at hq1
    generalize (T2 ++ [(⟨false, [.int (P30 + old)]⟩ : Cell)]) ++ [(⟨false, [.int (old + 1), .int (old - 1), .int 0, .int 1, .int 4, .int 5, .int 9, .int 61, .int (0 - 1), .bl (decide (old = 1)), .bl (decide (0 < old)), .non, .str "1", .lst S.length, .tup [.int old]] ++ [.int (P30 + old)]⟩ : Cell)] = T at *
    have big : (1001 : Nat) < 10 ^ 60 := by decide
    have big2 : ((10 : Int) ^ 30) + 1000 < ((10 : Nat) ^ 60 : Nat) := by decide
    have big3 : (0 : Int) < 10 ^ 30 := by decide
    have I : ∀ {i : Int}, i.natAbs < 10 ^ 60 → Shx S.length T (.int i) 200 1 := fun h => (shx_int h).mono (by decide) (by decide)
    rcases List.mem_append.mp hy with hy | hy
    · simp only [List.mem_cons, List.not_mem_nil, or_false] at hy
      rcases hy with rfl | rfl | rfl | rfl | rfl | rfl | rfl | rfl | rfl | rfl | rfl | rfl | rfl | rfl | rfl
      · exact I (by omega)
      · exact I (by omega)
      · exact I (by decide)
      · exact I (by decide)
      · exact I (by decide)
      · exact I (by decide)
      · exact I (by decide)
      · exact I (by decide)
      · exact I (by decide)
      · exact shx_bl.mono (by decide) (by decide)
      · exact shx_bl.mono (by decide) (by decide)
      · exact shx_non.mono (by decide) (by decide)
      · exact (shx_str (by decide +kernel) (by decide +kernel)).mono (by decide) (by decide)
      · exact (shx_lst hq3 (shs_cons (shx_small h0 (by omega)) shs_nil) (Nat.le_refl _)).mono (by simp) (by decide)
      · exact (shx_tup (shs_cons (shx_small h0 (by omega)) shs_nil)).mono (by simp) (by decide)
    · have : y = .int (P30 + old) := by simpa using hy
      subst this
      exact I (by rw [hP30]; omega)
structure TI (lo c : Nat) (S : Sto) (t k N : Nat) (xs : List D) : Prop where
  d : Tp S t k
  hc : S[c]? = some ⟨false, xs⟩
  len : xs.length ≤ N
  ok : ∀ x ∈ xs, G lo S x
  ll : lo ≤ S.length
abbrev rt (t : Nat) (H : D) (cr : Int) (L R F : List Int) (n : Nat) (c : Nat) (x8 x9 x10 : Option D) : Lc := [some (.lst t), some H, some (.int cr), some (.tup (L.map D.int)), some (.tup (R.map D.int)), some (.tup (F.map D.int)), some (.int ((n : Int) - 1)), some (.lst c), x8, x9, x10]
theorem stage {lo c t k N M n : Nat} {S S1 : Sto} {xs ys : List D} {H : D} {cr : Int} {L R F : List Int} {x8 x9 x10 : Option D} {A : Ev (List D)} (h : TI lo c S t k N xs) (hA : A (rt t H cr L R F n c x8 x9 x10) S = .ok ys S1) (d1 : Tp S1 t k) (hx : Kx lo S S1) (hc : S1[c]? = some ⟨false, xs⟩) (hy : ∀ y ∈ ys, G lo S1 y) (hM : ys.length ≤ M) (hN : N + M ≤ 1000) :
    ∃ c' S' zs, o2 addD (vr 7) (ls A) (rt t H cr L R F n c x8 x9 x10) S = .ok (.lst c') S' ∧ TI lo c' S' t k (N + M) zs ∧ lo ≤ c' ∧ Ex S1 S' := by
  have l1 := hx.len
  have ll := h.ll
  have hl := h.len
  have lE : ls A (rt t H cr L R F n c x8 x9 x10) S = .ok (.lst S1.length) (S1 ++ [(⟨false, ys⟩ : Cell)]) := by rw [ls_ap, hA, bind_ok, if_pos (by omega)]
  have ad := add_ll (S := S1 ++ [(⟨false, ys⟩ : Cell)]) (i := c) (j := S1.length) (a := xs) (b := ys) (app_old hc) app_at (by omega)
  refine ⟨(S1 ++ [(⟨false, ys⟩ : Cell)]).length, (S1 ++ [(⟨false, ys⟩ : Cell)]) ++ [(⟨false, xs ++ ys⟩ : Cell)], xs ++ ys, ?_, ⟨(d1.app).app, app_at, by simp; omega, fun x hx' => ?_, by simp; omega⟩, by simp; omega, Ex.app.trans Ex.app⟩
  · rw [o2_ap, vr_ap]
    simp only [List.getElem?_cons_zero, List.getElem?_cons_succ, bind_ok]
    rw [lE, bind_ok, ad]
  · have k2 : Kx lo S1 ((S1 ++ [(⟨false, ys⟩ : Cell)]) ++ [(⟨false, xs ++ ys⟩ : Cell)]) := Kx.app.trans Kx.app
    rcases List.mem_append.mp hx' with z | z
    · exact ((h.ok x z).to hx).to k2
    · exact (hy x z).to k2
theorem map_comp {l : List D} {e : Ev D} {ρ : Lc} {f : Ev D} {S : Sto} (g : D → D) (hf : f ρ S = .ok (.tup l) S) (hl : l.length < 1000) (he : ∀ d ∈ l, ∀ S', e [some d] S' = .ok (g d) S') : cmp (isrc f) [none] (gn 0) ttrue e ρ S = .ok (.lst S.length) (S ++ [⟨false, l.map g⟩]) := by
  obtain ⟨ρ', S', el, g', hρ, hS⟩ := for_inv (nxt := (srcT l).nxt) (g := gn 0) (b := cbody S.length ttrue e) (l := l)
    (fun i ρ S' => ∃ g', ρ = [g'] ∧ S' = S ++ [⟨false, (l.take i).map g⟩])
    (fun _ _ _ _ => rfl) (fun i d ρ S' hd ⟨g', h1, h2⟩ => by
      subst h1 h2
      have hi : i < l.length := (List.getElem?_eq_some_iff.mp hd).1
      refine ⟨_, _, _, rfl, cbody_ok (he d (List.mem_of_getElem? hd) _) app_at (by simp; omega), some d, rfl, ?_⟩
      have : l.take (i + 1) = l.take i ++ [d] := by rw [List.take_add_one, hd]; rfl
      rw [this]
      simp) (srcT l).fuel 0 [none] (S ++ [⟨false, []⟩]) (Nat.zero_le _) ⟨none, rfl, by simp⟩ fuelT
  subst hS
  rw [List.take_length] at el
  exact cmp_ok (pk := [none]) (ρ := ρ) (S := S) (f := isrc f) (s := srcT l) (S1 := S) (by rw [isrc_ap, hf]; rfl) el
end Law
set_option Elab.async false
set_option linter.all false
set_option maxRecDepth 100000
namespace Law
open PySem PySem.Spec PyProof.Rows L2 DL
section
variable {lo c t k N n : Nat} {S : Sto} {xs : List D} {cr : Int} {L R F : List Int} {x8 x9 x10 : Option D}
theorem gH {j : Nat} (h : Hs n L R F) (hj : j < 3) (S : Sto) : DL.getD (stD L R F) (.int j) S = .ok (.tup ((rw' L R F j).map D.int)) S := get_t (atI_nn (by omega) (by rw [Int.toNat_natCast]; exact h.get hj))
theorem th1 (hh : Hs n L R F) (h : TI lo c S t k N xs) (ht : t < c) (hk : k < c) (hcl : c < lo) (hN : N < 900) : ∃ S' zs y9 y10, lb__law_things_1 (rt t (stD L R F) cr L R F n c x8 x9 x10) S = .nx (rt t (stD L R F) cr L R F n c x8 y9 y10) S' ∧ TI lo c S' t k (N + 1) zs := by
  have ll := h.ll
  have n1 := hh.n1
  have n13 := hh.n13
  obtain ⟨r, S1, f1, r0, r1, d1, k1⟩ := draw (m := 3) h.d (by decide) (by decide)
  obtain ⟨rn, hrn⟩ : ∃ m : Nat, r = m := ⟨r.toNat, by omega⟩
  subst hrn
  have hn' : (n : Int) - 1 + 1 = n := by omega
  obtain ⟨a, S2, f2, a0, a1, d2, k2⟩ := draw (m := (n : Int)) d1 (by omega) (by omega)
  obtain ⟨an', han⟩ : ∃ m : Nat, a = m := ⟨a.toNat, by omega⟩
  subst han
  unfold lb__law_things_1
  rw [sq_nx (ρ' := rt t (stD L R F) cr L R F n c x8 (some (.int rn)) x10) (S1 := S1) (by simp [f1])]
  rw [sq_nx (ρ' := rt t (stD L R F) cr L R F n c x8 (some (.int rn)) (some (.int an'))) (S1 := S2) (by simp only [sa_ap, cl_ap, ac_ap, o2_ap, vr_ap, cn_ap, an_ap, List.getElem?_cons_zero, List.getElem?_cons_succ, bind_ok, add_ii, hn', List.length_cons, List.length_nil, Nat.reduceAdd, if_true, noExc_ap, f2, bindS_ok]; rfl)]
  have hlen := hh.len rn
  obtain ⟨old, eold⟩ : ∃ o, (rw' L R F rn)[an']? = some o := ⟨_, List.getElem?_eq_getElem (by omega)⟩
  have bo := hh.bd rn old (List.mem_of_getElem? eold)
  have g1 := gH hh (j := rn) (by omega) S2
  have g2 := get_int (S := S2) eold
  obtain ⟨q, S3, ys, f3, q3, l3, x3, lq, s3⟩ := others_ok (S := S2) bo.1 bo.2
  have d3 := d2.ext x3
  obtain ⟨r', S4, f4, r0', r1', d4, k4⟩ := draw (m := 16) d3 (by decide) (by decide)
  have kk := (k1.trans k2)
  have l2 := kk.len
  have lS := h.d.lt
  have q4 := k4.at q3 (by omega) (by omega)
  have hlt : r'.toNat < ys.length := by omega
  have gy : DL.getD (.lst q) (.int r') S4 = .ok ys[r'.toNat] S4 := get_l q4 (atI_nn r0' (by simp [hlt]))
  have sy := ((s3 _ (List.getElem_mem hlt)).low (show lo ≤ S2.length by omega)).to (.kp k4 (show t < lo by omega) (by omega))
  obtain ⟨z, fz, sz⟩ := hh.other (row := rn) (at' := an') (by omega) sy
  have c2 := kk.at h.hc (by omega) (by omega)
  have c4 := k4.at (x3.at c2) (by omega) (by omega)
  have hl := h.len
  have ap := app_l (d := z) c4 (by omega)
  have il := isL c2
  have lc : c < S4.length := (List.getElem?_eq_some_iff.mp c4).1
  have kx : Kx lo S S4 := ((Kx.kp kk (by omega) (by omega)).trans (.ex x3)).trans (.kp k4 (by omega) (by omega))
  refine ⟨S4.set c ⟨false, xs ++ [z]⟩, xs ++ [z], some (.int rn), some (.int an'), ?_, ⟨d4.set (by omega) (by omega), List.getElem?_set_self lc, by simp; omega, fun x hx => ?_, by have := kx.len; simp; omega⟩⟩
  · rw [sx_ap, mt_ap, vr_ap]
    simp only [List.getElem?_cons_zero, List.getElem?_cons_succ, bind_ok, il, if_true]
    simp only [cl_ap, ac_ap, an_ap, o2_ap, vr_ap, cn_ap, List.getElem?_cons_zero, List.getElem?_cons_succ, bind_ok, g1, g2, List.length_cons, List.length_nil, Nat.reduceAdd, if_true, noExc_ap, f3, f4, gy, fz, ap, bindS_ok]
  · have ks : Kx lo S4 (S4.set c ⟨false, xs ++ [z]⟩) := .set hcl
    rcases List.mem_append.mp hx with z' | z'
    · exact ((h.ok x z').to kx).to ks
    · have : x = z := by simpa using z'
      subst this
      exact (sz.mono (by decide) (by decide)).to ks
theorem th2 (hh : Hs n L R F) (h : TI lo c S t k N xs) (c0 : 0 ≤ cr) (c4 : cr ≤ 4) {row at' : Nat} (hr : row < 3) (hN : N ≤ 900) : ∃ c' S' zs, lb__law_things_2 (rt t (stD L R F) cr L R F n c x8 (some (.int row)) (some (.int at'))) S = .nx (rt t (stD L R F) cr L R F n c' x8 (some (.int row)) (some (.int at'))) S' ∧ TI lo c' S' t k (N + 2) zs ∧ Ex S S' := by
  have big : (1001 : Nat) < 10 ^ 60 := by decide
  obtain ⟨y1, f1, s1⟩ := hh.other (lo := lo) (S := S) (row := row) (at' := at') hr (shx_int (i := cr) (by omega))
  obtain ⟨y2, f2, s2⟩ := hh.other (lo := lo) (S := S) (row := row) (at' := at') hr (shx_int (i := cr + 1) (by omega))
  obtain ⟨c', S', zs, e, ti, _, x⟩ := stage (H := stD L R F) (cr := cr) (L := L) (R := R) (F := F) (n := n) (x8 := x8) (x9 := some (.int row)) (x10 := some (.int at')) (S1 := S) (ys := [y1, y2]) (M := 2) (A := ac (cl 4 (noExc f__law_other) (ac (vr 1) (ac (vr 9) (ac (vr 10) (ac (vr 2) an))))) (ac (cl 4 (noExc f__law_other) (ac (vr 1) (ac (vr 9) (ac (vr 10) (ac (o2 addD (vr 2) (cn (.int 1))) an))))) an)) h (by
    simp only [cl_ap, ac_ap, an_ap, o2_ap, vr_ap, cn_ap, List.getElem?_cons_zero, List.getElem?_cons_succ, bind_ok, add_ii, List.length_cons, List.length_nil, Nat.reduceAdd, if_true, noExc_ap, f1, f2]) h.d .refl h.hc (fun y hy => by
    simp only [List.mem_cons, List.not_mem_nil, or_false] at hy
    rcases hy with rfl | rfl
    · exact s1.mono (by decide) (by decide)
    · exact s2.mono (by decide) (by decide)) (by simp) (by omega)
  exact ⟨c', S', zs, by unfold lb__law_things_2; rw [sa_ap, e]; rfl, ti, x⟩
theorem gRow {X : List Int} (hb : ∀ i ∈ X, 0 ≤ i ∧ i ≤ 60) (hl : X.length ≤ 14) : Shx lo S (.tup (X.map D.int)) 200 6 := (sh_row hb hl).mono (by decide) (by decide)
theorem bTake {X : List Int} {m : Nat} (hb : ∀ i ∈ X, 0 ≤ i ∧ i ≤ 60) : ∀ i ∈ X.take m, 0 ≤ i ∧ i ≤ 60 := fun i hi => hb i (List.mem_of_mem_take hi)
theorem bSnoc {X : List Int} (hb : ∀ i ∈ X, 0 ≤ i ∧ i ≤ 60) : ∀ i ∈ X ++ [0], 0 ≤ i ∧ i ≤ 60 := fun i hi => by
  rcases List.mem_append.mp hi with z | z
  · exact hb i z
  · have : i = 0 := by simpa using z
    omega
theorem addZ {X : List Int} (hl : X.length ≤ 14) (S : Sto) : addD (.tup (X.map D.int)) (.tup [.int 0]) S = .ok (.tup ((X ++ [0]).map D.int)) S := by
  rw [add_tt (by simp; omega), List.map_append]; rfl
theorem G3 {x y z : D} (h1 : Shx lo S x 200 6) (h2 : Shx lo S y 200 6) (h3 : Shx lo S z 200 6) : G lo S (.tup [x, y, z]) := (shx_3 h1 h2 h3).mono (by decide) (by decide)
end
end Law
set_option Elab.async false
set_option linter.all false
set_option maxRecDepth 100000
namespace Law
open PySem PySem.Spec PyProof.Rows L2 DL
section
variable {lo c t k N n : Nat} {S : Sto} {xs : List D} {cr : Int} {L R F : List Int} {x8 x9 x10 : Option D}
theorem t6 (hh : Hs n L R F) (h : TI lo c S t k N xs) (hN : N ≤ 900) : ∃ c' S' zs, o2 addD (vr 7) (ls (ac (cl 4 (noExc f__law_other) (ac (vr 1) (ac (cn (.int 1)) (ac (vr 6) (ac (cn (.int 1)) an))))) (ac (cl 4 (noExc f__law_other) (ac (vr 1) (ac (cn (.int 2)) (ac (cn (.int 0)) (ac (cn (.int 1)) an))))) (ac (b1 listD (ac (vr 1) an)) (ac (sl2 (vr 1) onone (osome (cn (.int 2)))) an))))) (rt t (stD L R F) cr L R F n c x8 x9 x10) S = .ok (.lst c') S' ∧ TI lo c' S' t k (N + 4) zs ∧ lo ≤ c' := by
  have big : (1001 : Nat) < 10 ^ 60 := by decide
  have n1 := hh.n1
  have hn' : (n : Int) - 1 = ((n - 1 : Nat) : Int) := by omega
  have x1 : Ex S (S ++ [(⟨false, rows L R F⟩ : Cell)]) := Ex.app
  have q1 := app_at (S := S) (c := (⟨false, rows L R F⟩ : Cell))
  obtain ⟨y1, f1, s1⟩ := hh.other (lo := lo) (S := S ++ [(⟨false, rows L R F⟩ : Cell)]) (row := 1) (at' := n - 1) (by decide) (shx_int (i := 1) (by decide))
  obtain ⟨y2, f2, s2⟩ := hh.other (lo := lo) (S := S ++ [(⟨false, rows L R F⟩ : Cell)]) (row := 2) (at' := 0) (by decide) (shx_int (i := 1) (by decide))
  have f1 : ∀ S, f__law_other [stD L R F, .int 1, .int ((n : Int) - 1), .int 1] S = .ok y1 S := fun S => by rw [hn']; exact f1 S
  have f2 : ∀ S, f__law_other [stD L R F, .int 2, .int 0, .int 1] S = .ok y2 S := f2
  have sl : ∀ S, slD2 (stD L R F) none (some 2) S = .ok (.tup [.tup (L.map D.int), .tup (R.map D.int)]) S := fun S => sl_take (l := rows L R F) (n := 2)
  have li : listD [stD L R F] S = .ok (.lst S.length) (S ++ [(⟨false, rows L R F⟩ : Cell)]) := list_t
  have rr : ∀ {S : Sto}, ∀ d ∈ rows L R F, Shx lo S d 110 1 := fun {S} d hd => by
    have n13 := hh.n13
    have l1 := hh.l1
    have l2 := hh.l2
    have l3 := hh.l3
    simp only [List.mem_cons, List.not_mem_nil, or_false] at hd
    rcases hd with rfl | rfl | rfl
    · exact sh_row hh.b1 (by omega)
    · exact sh_row hh.b2 (by omega)
    · exact sh_row hh.b3 (by omega)
  obtain ⟨c', S', zs, e, ti, lc, _⟩ := stage (H := stD L R F) (cr := cr) (L := L) (R := R) (F := F) (n := n) (x8 := x8) (x9 := x9) (x10 := x10) (S1 := S ++ [(⟨false, rows L R F⟩ : Cell)]) (ys := [y1, y2, .lst S.length, .tup [.tup (L.map D.int), .tup (R.map D.int)]]) (M := 4) (A := (ac (cl 4 (noExc f__law_other) (ac (vr 1) (ac (cn (.int 1)) (ac (vr 6) (ac (cn (.int 1)) an))))) (ac (cl 4 (noExc f__law_other) (ac (vr 1) (ac (cn (.int 2)) (ac (cn (.int 0)) (ac (cn (.int 1)) an))))) (ac (b1 listD (ac (vr 1) an)) (ac (sl2 (vr 1) onone (osome (cn (.int 2)))) an))))) h (by
    simp only [cl_ap, ac_ap, an_ap, b1_ap, o2_ap, sl2_ap, onone_ap, osome_ap, vr_ap, cn_ap, List.getElem?_cons_zero, List.getElem?_cons_succ, bind_ok, List.length_cons, List.length_nil, Nat.reduceAdd, if_true, noExc_ap, f1, f2, li, sl]) (h.d.ext x1) (.ex x1) (x1.at h.hc) (fun y hy => by
    simp only [List.mem_cons, List.not_mem_nil, or_false] at hy
    rcases hy with rfl | rfl | rfl | rfl
    · exact s1.mono (by decide) (by decide)
    · exact s2.mono (by decide) (by decide)
    · exact (shx_lst q1 (shs_all rr) h.ll).mono (by simp) (by decide)
    · exact (shx_tup (shs_all (l := [.tup (L.map D.int), .tup (R.map D.int)]) fun d hd => rr d (by simp only [List.mem_cons, List.not_mem_nil, or_false] at hd ⊢; rcases hd with rfl | rfl; exact .inl rfl; exact .inr (.inl rfl)))).mono (by simp) (by decide)) (by simp) (by omega)
  exact ⟨c', S', zs, e, ti, lc⟩
def gLess : D → D
  | .tup l => .tup (l.take (l.length - 1))
  | x => x
def gMore : D → D
  | .tup l => .tup (l ++ [.int 0])
  | x => x
theorem t7 (hh : Hs n L R F) (h : TI lo c S t k N xs) (hN : N ≤ 900) : ∃ c' S' zs, o2 addD (vr 7) (ls (ac (b1 tupD (ac (cmp (isrc (vr 1)) [none] (gn 0) ttrue (sl2 (vr 0) onone (osome (o1 negD (cn (.int 1)))))) an)) (ac (b1 tupD (ac (cmp (isrc (vr 1)) [none] (gn 0) ttrue (o2 addD (vr 0) (tp (ac (cn (.int 0)) an)))) an)) (ac (tp (ac (tp an) (ac (tp an) (ac (tp an) an)))) an)))) (rt t (stD L R F) cr L R F n c x8 x9 x10) S = .ok (.lst c') S' ∧ TI lo c' S' t k (N + 3) zs ∧ lo ≤ c' := by
  have n13 := hh.n13
  have l1 := hh.l1
  have l2 := hh.l2
  have l3 := hh.l3
  have n1 := hh.n1
  have mem : ∀ {P : D → Prop}, (∀ j, P (.tup ((rw' L R F j).map D.int))) → ∀ d ∈ rows L R F, P d := fun hP d hd => by
    simp only [List.mem_cons, List.not_mem_nil, or_false] at hd
    rcases hd with rfl | rfl | rfl
    · exact hP 0
    · exact hP 1
    · exact hP 2
  have m1 := fun S => map_comp (S := S) (ρ := rt t (stD L R F) cr L R F n c x8 x9 x10) (f := vr 1) (l := rows L R F) (e := sl2 (vr 0) onone (osome (o1 negD (cn (.int 1))))) gLess (by simp [stD]) (by simp) (mem (P := fun d => ∀ S', sl2 (vr 0) onone (osome (o1 negD (cn (.int 1)))) [some d] S' = .ok (gLess d) S') fun j S' => by
    have := sl_less (M := rw' L R F j) (S := S') (by rw [hh.len j]; omega)
    simp only [sl2_ap, onone_ap, osome_ap, o1_ap, neg_i, vr_ap, cn_ap, List.getElem?_cons_zero, bind_ok]
    rw [show (-(1 : Int)) = -1 from rfl, this]
    unfold gLess
    simp only [List.length_map, List.map_take])
  have m2 := fun S => map_comp (S := S) (ρ := rt t (stD L R F) cr L R F n c x8 x9 x10) (f := vr 1) (l := rows L R F) (e := o2 addD (vr 0) (tp (ac (cn (.int 0)) an))) gMore (by simp [stD]) (by simp) (mem (P := fun d => ∀ S', o2 addD (vr 0) (tp (ac (cn (.int 0)) an)) [some d] S' = .ok (gMore d) S') fun j S' => by
    have := add_tt (S := S') (a := (rw' L R F j).map D.int) (b := [.int 0]) (by simp [hh.len j]; omega)
    simp only [o2_ap, tp_ap, ac_ap, an_ap, vr_ap, cn_ap, List.getElem?_cons_zero, bind_ok, List.length_cons, List.length_nil, Nat.reduceAdd, Nat.reduceLeDiff, if_true, this]
    rfl)
  have tu1 := tup_l (app_at (S := S) (c := (⟨false, (rows L R F).map gLess⟩ : Cell)))
  have x1 : Ex S (S ++ [(⟨false, (rows L R F).map gLess⟩ : Cell)]) := Ex.app
  have m1' := m1 S
  generalize S ++ [(⟨false, (rows L R F).map gLess⟩ : Cell)] = S1 at *
  have tu2 := tup_l (app_at (S := S1) (c := (⟨false, (rows L R F).map gMore⟩ : Cell)))
  have x2 : Ex S1 (S1 ++ [(⟨false, (rows L R F).map gMore⟩ : Cell)]) := Ex.app
  have m2' := m2 S1
  generalize S1 ++ [(⟨false, (rows L R F).map gMore⟩ : Cell)] = S2 at *
  have sh : ∀ (g : D → D), (∀ j, Shx lo S2 (g (.tup ((rw' L R F j).map D.int))) 200 6) → G lo S2 (.tup ((rows L R F).map g)) := fun g hg => G3 (hg 0) (hg 1) (hg 2)
  obtain ⟨c', S', zs, e, ti, lc, _⟩ := stage (H := stD L R F) (cr := cr) (L := L) (R := R) (F := F) (n := n) (x8 := x8) (x9 := x9) (x10 := x10) (S1 := S2) (ys := [.tup ((rows L R F).map gLess), .tup ((rows L R F).map gMore), .tup [.tup [], .tup [], .tup []]]) (M := 3) (A := (ac (b1 tupD (ac (cmp (isrc (vr 1)) [none] (gn 0) ttrue (sl2 (vr 0) onone (osome (o1 negD (cn (.int 1)))))) an)) (ac (b1 tupD (ac (cmp (isrc (vr 1)) [none] (gn 0) ttrue (o2 addD (vr 0) (tp (ac (cn (.int 0)) an)))) an)) (ac (tp (ac (tp an) (ac (tp an) (ac (tp an) an)))) an)))) h (by
    rw [ac_ap, b1_ap, ac_ap, m1', bind_ok, an_ap, bind_ok, bind_ok, tu1, bind_ok, ac_ap, b1_ap, ac_ap, m2', bind_ok, an_ap, bind_ok, bind_ok, tu2, bind_ok]
    simp) ((h.d.ext x1).ext x2) (.ex (x1.trans x2)) ((x1.trans x2).at h.hc) (fun y hy => by
    simp only [List.mem_cons, List.not_mem_nil, or_false] at hy
    rcases hy with rfl | rfl | rfl
    · refine sh gLess fun j => ?_
      show Shx lo S2 (.tup (((rw' L R F j).map D.int).take (((rw' L R F j).map D.int).length - 1))) 200 6
      rw [← List.map_take]
      exact gRow (bTake (hh.bd j)) (by have := hh.len j; simp; omega)
    · refine sh gMore fun j => ?_
      show Shx lo S2 (.tup ((rw' L R F j).map D.int ++ [.int 0])) 200 6
      rw [show (rw' L R F j).map D.int ++ [D.int 0] = (rw' L R F j ++ [0]).map D.int by simp]
      exact gRow (bSnoc (hh.bd j)) (by have := hh.len j; simp; omega)
    · exact G3 ((shx_tup shs_nil).mono (by simp) (Nat.le_refl 6)) ((shx_tup shs_nil).mono (by simp) (Nat.le_refl 6)) ((shx_tup shs_nil).mono (by simp) (Nat.le_refl 6))) (by simp) (by omega)
  exact ⟨c', S', zs, e, ti, lc⟩
theorem t8 (hh : Hs n L R F) (h : TI lo c S t k N xs) (hN : N ≤ 900) : ∃ c' S' zs, o2 addD (vr 7) (ls (ac (tp (ac (sl2 (vr 3) onone (osome (o1 negD (cn (.int 1))))) (ac (vr 4) (ac (vr 5) an)))) (ac (tp (ac (vr 3) (ac (o2 addD (vr 4) (tp (ac (cn (.int 0)) an))) (ac (vr 5) an)))) (ac (tp (ac (vr 3) (ac (vr 4) (ac (o2 addD (vr 5) (tp (ac (cn (.int 0)) an))) an)))) an)))) (rt t (stD L R F) cr L R F n c x8 x9 x10) S = .ok (.lst c') S' ∧ TI lo c' S' t k (N + 3) zs ∧ lo ≤ c' := by
  have n13 := hh.n13
  have l1 := hh.l1
  have l2 := hh.l2
  have l3 := hh.l3
  have n1 := hh.n1
  have sl := sl_less (M := L) (S := S) (by omega)
  have a2 := addZ (X := R) (by omega) S
  have a3 := addZ (X := F) (by omega) S
  obtain ⟨c', S', zs, e, ti, lc, _⟩ := stage (H := stD L R F) (cr := cr) (L := L) (R := R) (F := F) (n := n) (x8 := x8) (x9 := x9) (x10 := x10) (S1 := S) (ys := [.tup [.tup ((L.take (L.length - 1)).map D.int), .tup (R.map D.int), .tup (F.map D.int)], .tup [.tup (L.map D.int), .tup ((R ++ [0]).map D.int), .tup (F.map D.int)], .tup [.tup (L.map D.int), .tup (R.map D.int), .tup ((F ++ [0]).map D.int)]]) (M := 3) (A := (ac (tp (ac (sl2 (vr 3) onone (osome (o1 negD (cn (.int 1))))) (ac (vr 4) (ac (vr 5) an)))) (ac (tp (ac (vr 3) (ac (o2 addD (vr 4) (tp (ac (cn (.int 0)) an))) (ac (vr 5) an)))) (ac (tp (ac (vr 3) (ac (vr 4) (ac (o2 addD (vr 5) (tp (ac (cn (.int 0)) an))) an)))) an)))) h (by
    simp only [ac_ap, an_ap, tp_ap, o2_ap, o1_ap, neg_i, sl2_ap, onone_ap, osome_ap, vr_ap, cn_ap, List.getElem?_cons_zero, List.getElem?_cons_succ, bind_ok, List.length_cons, List.length_nil, Nat.reduceAdd, Nat.reduceLeDiff, if_true, sl, a2, a3]) h.d .refl h.hc (fun y hy => by
    simp only [List.mem_cons, List.not_mem_nil, or_false] at hy
    rcases hy with rfl | rfl | rfl
    · exact G3 (gRow (bTake hh.b1) (by simp; omega)) (gRow hh.b2 (by omega)) (gRow hh.b3 (by omega))
    · exact G3 (gRow hh.b1 (by omega)) (gRow (bSnoc hh.b2) (by simp; omega)) (gRow hh.b3 (by omega))
    · exact G3 (gRow hh.b1 (by omega)) (gRow hh.b2 (by omega)) (gRow (bSnoc hh.b3) (by simp; omega))) (by simp) (by omega)
  exact ⟨c', S', zs, e, ti, lc⟩
theorem t10 (hh : Hs n L R F) (h : TI lo c S t k N xs) (hN : N ≤ 900) : ∃ c' S' zs, o2 addD (vr 7) (ls (ac (tp (ac (o2 addD (vr 3) (tp (ac (cn (.int 0)) an))) (ac (vr 4) (ac (vr 5) an)))) (ac (tp (ac (vr 3) (ac (sl2 (vr 4) onone (osome (o1 negD (cn (.int 1))))) (ac (vr 5) an)))) (ac (tp (ac (vr 3) (ac (vr 4) (ac (sl2 (vr 5) onone (osome (o1 negD (cn (.int 1))))) an)))) an)))) (rt t (stD L R F) cr L R F n c x8 x9 x10) S = .ok (.lst c') S' ∧ TI lo c' S' t k (N + 3) zs ∧ lo ≤ c' := by
  have n13 := hh.n13
  have l1 := hh.l1
  have l2 := hh.l2
  have l3 := hh.l3
  have n1 := hh.n1
  have a1 := addZ (X := L) (by omega) S
  have s2 := sl_less (M := R) (S := S) (by omega)
  have s3 := sl_less (M := F) (S := S) (by omega)
  obtain ⟨c', S', zs, e, ti, lc, _⟩ := stage (H := stD L R F) (cr := cr) (L := L) (R := R) (F := F) (n := n) (x8 := x8) (x9 := x9) (x10 := x10) (S1 := S) (ys := [.tup [.tup ((L ++ [0]).map D.int), .tup (R.map D.int), .tup (F.map D.int)], .tup [.tup (L.map D.int), .tup ((R.take (R.length - 1)).map D.int), .tup (F.map D.int)], .tup [.tup (L.map D.int), .tup (R.map D.int), .tup ((F.take (F.length - 1)).map D.int)]]) (M := 3) (A := (ac (tp (ac (o2 addD (vr 3) (tp (ac (cn (.int 0)) an))) (ac (vr 4) (ac (vr 5) an)))) (ac (tp (ac (vr 3) (ac (sl2 (vr 4) onone (osome (o1 negD (cn (.int 1))))) (ac (vr 5) an)))) (ac (tp (ac (vr 3) (ac (vr 4) (ac (sl2 (vr 5) onone (osome (o1 negD (cn (.int 1))))) an)))) an)))) h (by
    simp only [ac_ap, an_ap, tp_ap, o2_ap, o1_ap, neg_i, sl2_ap, onone_ap, osome_ap, vr_ap, cn_ap, List.getElem?_cons_zero, List.getElem?_cons_succ, bind_ok, List.length_cons, List.length_nil, Nat.reduceAdd, Nat.reduceLeDiff, if_true, a1, s2, s3]) h.d .refl h.hc (fun y hy => by
    simp only [List.mem_cons, List.not_mem_nil, or_false] at hy
    rcases hy with rfl | rfl | rfl
    · exact G3 (gRow (bSnoc hh.b1) (by simp; omega)) (gRow hh.b2 (by omega)) (gRow hh.b3 (by omega))
    · exact G3 (gRow hh.b1 (by omega)) (gRow (bTake hh.b2) (by simp; omega)) (gRow hh.b3 (by omega))
    · exact G3 (gRow hh.b1 (by omega)) (gRow hh.b2 (by omega)) (gRow (bTake hh.b3) (by simp; omega))) (by simp) (by omega)
  exact ⟨c', S', zs, e, ti, lc⟩
theorem t11 (hh : Hs n L R F) (h : TI lo c S t k N xs) (hN : N ≤ 900) : ∃ c' S' zs, o2 addD (vr 7) (ls (ac (tp (ac (b1 listD (ac (vr 3) an)) (ac (vr 4) (ac (vr 5) an)))) (ac (tp (ac (vr 3) (ac (b1 listD (ac (vr 4) an)) (ac (vr 5) an)))) (ac (tp (ac (vr 3) (ac (vr 4) (ac (b1 listD (ac (vr 5) an)) an)))) an)))) (rt t (stD L R F) cr L R F n c x8 x9 x10) S = .ok (.lst c') S' ∧ TI lo c' S' t k (N + 3) zs ∧ lo ≤ c' := by
  have n13 := hh.n13
  have l1 := hh.l1
  have l2 := hh.l2
  have l3 := hh.l3
  have ll := h.ll
  have x3 : Ex S (((S ++ [(⟨false, L.map D.int⟩ : Cell)]) ++ [(⟨false, R.map D.int⟩ : Cell)]) ++ [(⟨false, F.map D.int⟩ : Cell)]) := (Ex.app.trans Ex.app).trans Ex.app
  have q1 := app_old (c := (⟨false, F.map D.int⟩ : Cell)) (app_old (c := (⟨false, R.map D.int⟩ : Cell)) (app_at (S := S) (c := (⟨false, L.map D.int⟩ : Cell))))
  have q2 := app_old (c := (⟨false, F.map D.int⟩ : Cell)) (app_at (S := S ++ [(⟨false, L.map D.int⟩ : Cell)]) (c := (⟨false, R.map D.int⟩ : Cell)))
  have q3 := app_at (S := (S ++ [(⟨false, L.map D.int⟩ : Cell)]) ++ [(⟨false, R.map D.int⟩ : Cell)]) (c := (⟨false, F.map D.int⟩ : Cell))
  rw [show (S ++ [(⟨false, L.map D.int⟩ : Cell)]).length = S.length + 1 by simp] at q2
  rw [show ((S ++ [(⟨false, L.map D.int⟩ : Cell)]) ++ [(⟨false, R.map D.int⟩ : Cell)]).length = S.length + 2 by simp] at q3
  have sm : ∀ {S' : Sto} {X : List Int}, (∀ i ∈ X, 0 ≤ i ∧ i ≤ 60) → X.length ≤ 13 → Shs lo S' (X.map D.int) 65 0 := fun {S' X} hb hl => (shs_all (b := 5) fun d hd => by
    obtain ⟨i, hi, rfl⟩ := List.mem_map.mp hd
    exact shx_small (hb i hi).1 (by have := (hb i hi).2; omega)).mono (by simp; omega) (Nat.le_refl _)
  obtain ⟨c', S', zs, e, ti, lc, _⟩ := stage (H := stD L R F) (cr := cr) (L := L) (R := R) (F := F) (n := n) (x8 := x8) (x9 := x9) (x10 := x10) (S1 := ((S ++ [(⟨false, L.map D.int⟩ : Cell)]) ++ [(⟨false, R.map D.int⟩ : Cell)]) ++ [(⟨false, F.map D.int⟩ : Cell)]) (ys := [.tup [.lst S.length, .tup (R.map D.int), .tup (F.map D.int)], .tup [.tup (L.map D.int), .lst (S.length + 1), .tup (F.map D.int)], .tup [.tup (L.map D.int), .tup (R.map D.int), .lst (S.length + 2)]]) (M := 3) (A := (ac (tp (ac (b1 listD (ac (vr 3) an)) (ac (vr 4) (ac (vr 5) an)))) (ac (tp (ac (vr 3) (ac (b1 listD (ac (vr 4) an)) (ac (vr 5) an)))) (ac (tp (ac (vr 3) (ac (vr 4) (ac (b1 listD (ac (vr 5) an)) an)))) an)))) h (by simp [list_t]) (h.d.ext x3) (.ex x3) (x3.at h.hc) (fun y hy => by
    generalize ((S ++ [(⟨false, L.map D.int⟩ : Cell)]) ++ [(⟨false, R.map D.int⟩ : Cell)]) ++ [(⟨false, F.map D.int⟩ : Cell)] = T at *
    simp only [List.mem_cons, List.not_mem_nil, or_false] at hy
    rcases hy with rfl | rfl | rfl
    · exact G3 ((shx_lst q1 (sm hh.b1 (by omega)) (by omega)).mono (by simp; omega) (by decide)) (gRow hh.b2 (by omega)) (gRow hh.b3 (by omega))
    · exact G3 (gRow hh.b1 (by omega)) ((shx_lst q2 (sm hh.b2 (by omega)) (by omega)).mono (by simp; omega) (by decide)) (gRow hh.b3 (by omega))
    · exact G3 (gRow hh.b1 (by omega)) (gRow hh.b2 (by omega)) ((shx_lst q3 (sm hh.b3 (by omega)) (by omega)).mono (by simp; omega) (by decide))) (by simp) (by omega)
  exact ⟨c', S', zs, e, ti, lc⟩
theorem t12 (hh : Hs n L R F) (h : TI lo c S t k N xs) (hN : N ≤ 900) : ∃ c' S' zs, o2 addD (vr 7) (ls (ac (tp (ac (vr 3) (ac (vr 4) (ac (cn .non) an)))) (ac (tp (ac (vr 3) (ac (vr 4) (ac (cn (.int 0)) an)))) (ac (tp (ac (vr 1) an)) (ac (tp an) (ac (cn .non) (ac (cn (.bl true)) (ac (cn (.str "")) (ac (cn (.int 0)) (ac (ls (ac (vr 3) (ac (vr 4) an))) an)))))))))) (rt t (stD L R F) cr L R F n c x8 x9 x10) S = .ok (.lst c') S' ∧ TI lo c' S' t k (N + 9) zs ∧ lo ≤ c' := by
  have n13 := hh.n13
  have l1 := hh.l1
  have l2 := hh.l2
  have l3 := hh.l3
  have x1 : Ex S (S ++ [(⟨false, [.tup (L.map D.int), .tup (R.map D.int)]⟩ : Cell)]) := Ex.app
  have q1 := app_at (S := S) (c := (⟨false, [.tup (L.map D.int), .tup (R.map D.int)]⟩ : Cell))
  obtain ⟨c', S', zs, e, ti, lc, _⟩ := stage (H := stD L R F) (cr := cr) (L := L) (R := R) (F := F) (n := n) (x8 := x8) (x9 := x9) (x10 := x10) (S1 := S ++ [(⟨false, [.tup (L.map D.int), .tup (R.map D.int)]⟩ : Cell)]) (ys := [.tup [.tup (L.map D.int), .tup (R.map D.int), .non], .tup [.tup (L.map D.int), .tup (R.map D.int), .int 0], .tup [stD L R F], .tup [], .non, .bl true, .str "", .int 0, .lst S.length]) (M := 9) (A := (ac (tp (ac (vr 3) (ac (vr 4) (ac (cn .non) an)))) (ac (tp (ac (vr 3) (ac (vr 4) (ac (cn (.int 0)) an)))) (ac (tp (ac (vr 1) an)) (ac (tp an) (ac (cn .non) (ac (cn (.bl true)) (ac (cn (.str "")) (ac (cn (.int 0)) (ac (ls (ac (vr 3) (ac (vr 4) an))) an)))))))))) h (by simp) (h.d.ext x1) (.ex x1) (x1.at h.hc) (fun y hy => by
    generalize S ++ [(⟨false, [.tup (L.map D.int), .tup (R.map D.int)]⟩ : Cell)] = T at *
    have gL : Shx lo T (.tup (L.map D.int)) 200 6 := gRow hh.b1 (by omega)
    have gR : Shx lo T (.tup (R.map D.int)) 200 6 := gRow hh.b2 (by omega)
    simp only [List.mem_cons, List.not_mem_nil, or_false] at hy
    rcases hy with rfl | rfl | rfl | rfl | rfl | rfl | rfl | rfl | rfl
    · exact G3 gL gR (shx_non.mono (by decide) (by decide))
    · exact G3 gL gR ((shx_int (by decide)).mono (by decide) (by decide))
    · exact (shx_tup (shs_cons hh.self shs_nil)).mono (by simp) (by decide)
    · exact (shx_tup (e := 0) shs_nil).mono (by simp) (by decide)
    · exact shx_non.mono (by decide) (by decide)
    · exact shx_bl.mono (by decide) (by decide)
    · exact (shx_str (by decide +kernel) (by decide +kernel)).mono (by decide) (by decide)
    · exact (shx_int (by decide)).mono (by decide) (by decide)
    · exact (shx_lst q1 (shs_cons gL (shs_cons gR shs_nil)) h.ll).mono (by simp) (by decide)) (by simp) (by omega)
  exact ⟨c', S', zs, e, ti, lc⟩
theorem t9 (hh : Hs n L R F) (h : TI lo c S t k N xs) (hlo : lo ≤ c) (ht : t < lo) (hk : k < lo) (hN : N ≤ 900) : ∃ c' S' zs, o2 addD (o2 addD (vr 7) (ls (ac (o2 addD (vr 1) (tp (ac (vr 5) an))) an))) (cmp (ir1 (ac (cn (.int 8)) an)) [none, some 0, some 1] (gn 0) ttrue (cl 2 (noExc f__law_else) (ac (vr 1) (ac (vr 2) an)))) (rt t (stD L R F) cr L R F n c x8 x9 x10) S = .ok (.lst c') S' ∧ TI lo c' S' t k (N + 9) zs ∧ lo ≤ c' := by
  have n13 := hh.n13
  have l1 := hh.l1
  have l2 := hh.l2
  have l3 := hh.l3
  have a1 := add_tt (S := S) (a := rows L R F) (b := [.tup (F.map D.int)]) (by simp)
  have a1 : addD (stD L R F) (.tup [.tup (F.map D.int)]) S = .ok (.tup (rows L R F ++ [.tup (F.map D.int)])) S := a1
  obtain ⟨c1, S1, zs, e1, ti, lc, _⟩ := stage (H := stD L R F) (cr := cr) (L := L) (R := R) (F := F) (n := n) (x8 := x8) (x9 := x9) (x10 := x10) (S1 := S) (ys := [.tup (rows L R F ++ [.tup (F.map D.int)])]) (M := 1) (A := (ac (o2 addD (vr 1) (tp (ac (vr 5) an))) an)) h (by
    simp only [ac_ap, an_ap, tp_ap, o2_ap, vr_ap, List.getElem?_cons_zero, List.getElem?_cons_succ, bind_ok, List.length_cons, List.length_nil, Nat.reduceAdd, Nat.reduceLeDiff, if_true, a1]) h.d .refl h.hc (fun y hy => by
    have : y = .tup (rows L R F ++ [.tup (F.map D.int)]) := by simpa using hy
    subst this
    have gL : Shx lo S (.tup (L.map D.int)) 200 6 := gRow hh.b1 (by omega)
    have gR : Shx lo S (.tup (R.map D.int)) 200 6 := gRow hh.b2 (by omega)
    have gF : Shx lo S (.tup (F.map D.int)) 200 6 := gRow hh.b3 (by omega)
    exact (shx_tup (shs_cons gL (shs_cons gR (shs_cons gF (shs_cons gF shs_nil))))).mono (by simp) (by decide)) (by simp) (by omega)
  have ll1 := ti.ll
  have lt1 := ti.d.lt
  have lc1 : c1 < S1.length := (List.getElem?_eq_some_iff.mp ti.hc).1
  obtain ⟨ρ', S2, el, g, ys, hρ, hq, hl, hsh, d2, k2⟩ := for_inv (nxt := (rsrc 0 8).nxt) (g := gn 0) (b := cbody S1.length ttrue (cl 2 (noExc f__law_else) (ac (vr 1) (ac (vr 2) an)))) (l := (List.range 8).map fun k : Nat => D.int (k : Int))
    (fun i ρ S' => ∃ g ys, ρ = [g, some (.lst t), some (stD L R F)] ∧ S'[S1.length]? = some ⟨false, ys⟩ ∧ ys.length = i ∧ (∀ x ∈ ys, G (S1.length + 1) S' x) ∧ Tp S' t k ∧ Kp S1 S' t k)
    (fun i _ S _ => rng_get) (fun i d' ρ S' hd ⟨g, ys, h1, h2, h3, hu, h4, h5⟩ => by
      obtain ⟨hi, rfl⟩ := rng_of hd
      subst h1
      obtain ⟨x, S'', ex, shx, dx, kx⟩ := else_ok hh h4
      have q'' := kx.at h2 (by omega) (by omega)
      have lq : S1.length < S''.length := (List.getElem?_eq_some_iff.mp q'').1
      have lq' : S1.length < S'.length := (List.getElem?_eq_some_iff.mp h2).1
      refine ⟨_, _, _, rfl, cbody_ok (d := x) (S2 := S'') ?_ q'' (by omega), some (.int i), ys ++ [x], rfl, List.getElem?_set_self lq, by simp [h3], (fun y hy => ?_), dx.set (by omega) (by omega), (h5.trans kx).setq (Nat.le_refl _)⟩
      · simp only [cl_ap, ac_ap, vr_ap, an_ap, List.getElem?_cons_zero, List.getElem?_cons_succ, List.set_cons_zero, bind_ok, List.length_cons, List.length_nil, Nat.reduceAdd, if_true, noExc_ap, ex, gn_ap]
      · rcases List.mem_append.mp hy with z | z
        · exact ((hu y z).to (.kp kx (by omega) (by omega))).to (.set (by omega))
        · have : y = x := by simpa using z
          subst this
          exact (shx.low (by omega)).to (.set (by omega))) (8 + 1) 0 [none, some (.lst t), some (stD L R F)] (S1 ++ [⟨false, []⟩]) (Nat.zero_le _) ⟨none, [], rfl, app_at, rfl, (fun s hs => by cases hs), ti.d.app, Kp.app⟩ (by simp)
  have hlen : ((List.range 8).map fun k : Nat => D.int (k : Int)).length = 8 := by simp
  rw [hlen] at hl
  have hc := cmp_ok (pk := [none, some 0, some 1]) (ρ := rt t (stD L R F) cr L R F n c x8 x9 x10) (S := S1) (ir1_ok (f := ac (cn (.int 8)) an) (n := 8) (S' := S1) (by simp) (by decide)) el
  have c2 := k2.at ti.hc (by omega) (by omega)
  have hzl := ti.len
  have ad := add_ll c2 hq (by omega)
  refine ⟨S2.length, S2 ++ [⟨false, zs ++ ys⟩], zs ++ ys, ?_, ⟨d2.app, app_at, by simp; omega, fun x hx => ?_, by have := k2.len; simp; omega⟩, by have := k2.len; omega⟩
  · rw [o2_ap, e1, bind_ok, hc, bind_ok, ad]
  · rcases List.mem_append.mp hx with z | z
    · exact ((ti.ok x z).to (.kp k2 ht hk)).to .app
    · exact ((hsh x z).low (by omega)).to .app
end
end Law
set_option Elab.async false
set_option linter.all false
set_option maxRecDepth 100000
namespace Law
open PySem PySem.Spec PyProof.Rows L2 DL
theorem Shx.repr_l {lo : Nat} {S : Sto} {i b e : Nat} (h : Shx lo S (.lst i) b e) (h1 : b ≤ 1000000) (h2 : e < 40) : ∃ s : Str, PyData.strOk s = true ∧ ∀ S', Kx lo S S' → reprD [.lst i] S' = .ok (.str s) S' := by
  obtain ⟨p, a, g, hb⟩ := h
  refine ⟨p.shown, g.ok, fun S' x => ?_⟩
  have ha := a S' x 40 h2
  show (match toP S' 40 (.lst i) with
      | some p => if (p.showable && !p.hasDict && decide (p.depth ≤ 60)) = true ∧ p.shown.length ≤ 1000000 then Out.ok (D.str p.shown) S' else .bad
      | none => .bad) = _
  rw [ha]
  show (if (p.showable && !p.hasDict && decide (p.depth ≤ 60)) = true ∧ p.shown.length ≤ 1000000 then Out.ok (D.str p.shown) S' else .bad) = _
  rw [if_pos]
  refine ⟨?_, Nat.le_trans hb h1⟩
  rw [g.sh, g.nd]
  have := g.dp
  simp
  omega
theorem things_ok {S : Sto} {t k n : Nat} {cr : Int} {L R F : List Int} (hh : Hs n L R F) (d : Tp S t k) (c0 : 0 ≤ cr) (c4 : cr ≤ 4) : ∃ c' S' zs, f__law_things [.lst t, stD L R F, .int cr] S = .ok (.lst c') S' ∧ TI (S.length + 1) c' S' t k 60 zs ∧ S.length + 1 ≤ c' := by
  have lt := d.lt
  have n1 := hh.n1
  have hn' : (n : Int) - 1 = ((n - 1 : Nat) : Int) := by omega
  have hf : f__law_things [.lst t, stD L R F, .int cr] S = fin (b__law_things [some (.lst t), some (stD L R F), some (.int cr), none, none, none, none, none, none, none, none] S) := fnB_ap (m := 11) (b := b__law_things)
  have ln : lenD [.tup (L.map D.int)] S = .ok (.int n) S := by rw [len_t]; simp [hh.l1]
  have ti0 : TI (S.length + 1) S.length (S ++ [(⟨false, [stD L R F]⟩ : Cell)]) t k 1 [stD L R F] := ⟨d.app, app_at, by simp, fun x hx => by
    have : x = stD L R F := by simpa using hx
    subst this
    exact hh.self.mono (by decide) (by decide), by simp⟩
  obtain ⟨ρ1, S1, ef1, xs1, x8, x9, x10, eρ1, ti1⟩ := for_inv (nxt := (rsrc 0 12).nxt) (g := gn 8) (b := lb__law_things_1) (l := (List.range 12).map fun k : Nat => D.int (k : Int))
    (fun i ρ S' => ∃ xs x8 x9 x10, ρ = rt t (stD L R F) cr L R F n S.length x8 x9 x10 ∧ TI (S.length + 1) S.length S' t k (1 + i) xs)
    (fun i _ S _ => rng_get) (fun i dd ρ S' hd ⟨xs, x8, x9, x10, h1, h2⟩ => by
      obtain ⟨hi, rfl⟩ := rng_of hd
      subst h1
      obtain ⟨S'', zs, y9, y10, w1, w2⟩ := th1 (cr := cr) (x8 := some (.int i)) (x9 := x9) (x10 := x10) hh h2 lt.1 lt.2 (by omega) (by omega)
      exact ⟨_, _, S'', rfl, w1, zs, some (.int i), y9, y10, rfl, w2⟩) (12 + 1) 0 (rt t (stD L R F) cr L R F n S.length none none none) (S ++ [(⟨false, [stD L R F]⟩ : Cell)]) (Nat.zero_le _) ⟨_, none, none, none, rfl, ti0⟩ (by simp)
  have hlen : ((List.range 12).map fun k : Nat => D.int (k : Int)).length = 12 := by simp
  rw [hlen] at ti1
  subst eρ1
  -- the pairs
  have hls : ls (ac (tp (ac (cn (.int 0)) (ac (cn (.int 1)) an))) (ac (tp (ac (vr 6) (ac (cn (.int 2)) an))) an)) (rt t (stD L R F) cr L R F n S.length x8 x9 x10) S1 = .ok (.lst S1.length) (S1 ++ [(⟨false, [.tup [.int (0 : Nat), .int (1 : Nat)], .tup [.int ((n - 1 : Nat) : Int), .int (2 : Nat)]]⟩ : Cell)]) := by
    rw [← hn']; simp
  have q2 := app_at (S := S1) (c := (⟨false, [.tup [.int (0 : Nat), .int (1 : Nat)], .tup [.int ((n - 1 : Nat) : Int), .int (2 : Nat)]]⟩ : Cell))
  have x2 : Ex S1 (S1 ++ [(⟨false, [.tup [.int (0 : Nat), .int (1 : Nat)], .tup [.int ((n - 1 : Nat) : Int), .int (2 : Nat)]]⟩ : Cell)]) := Ex.app
  have ti2 : TI (S.length + 1) S.length (S1 ++ [(⟨false, [.tup [.int (0 : Nat), .int (1 : Nat)], .tup [.int ((n - 1 : Nat) : Int), .int (2 : Nat)]]⟩ : Cell)]) t k 13 xs1 := ⟨ti1.d.app, app_old ti1.hc, ti1.len, fun x hx => (ti1.ok x hx).to .app, by have := ti1.ll; simp; omega⟩
  generalize S1 ++ [(⟨false, [.tup [.int (0 : Nat), .int (1 : Nat)], .tup [.int ((n - 1 : Nat) : Int), .int (2 : Nat)]]⟩ : Cell)] = S2 at *
  have hsrc : srcOf (.lst S1.length) S2 = .ok (srcL S1.length 2) S2 := src_l q2
  obtain ⟨ρ3, S3, ef3, c3, xs3, y9, y10, eρ3, ti3, _⟩ := for_inv (nxt := (srcL S1.length 2).nxt) (g := gt (gcons (gn 10) (gcons (gn 9) gnil)) 2) (b := lb__law_things_2) (l := [.tup [.int (0 : Nat), .int (1 : Nat)], .tup [.int ((n - 1 : Nat) : Int), .int (2 : Nat)]])
    (fun i ρ S' => ∃ c xs x9 x10, ρ = rt t (stD L R F) cr L R F n c x8 x9 x10 ∧ TI (S.length + 1) c S' t k (13 + 2 * i) xs ∧ Ex S2 S')
    (fun i ρ S' ⟨_, _, _, _, _, _, x⟩ => by
      show (S'[S1.length]?).bind (fun c => c.xs[i]?) = _
      rw [x.at q2]; rfl) (fun i dd ρ S' hd ⟨c, xs, x9, x10, h1, h2, h3⟩ => by
      subst h1
      have hi : i < 2 := (List.getElem?_eq_some_iff.mp hd).1
      obtain ⟨a, r, hdd, hr⟩ : ∃ a r : Nat, dd = .tup [.int a, .int r] ∧ r < 3 := by
        rcases (by omega : i = 0 ∨ i = 1) with rfl | rfl
        · exact ⟨0, 1, (Option.some.inj hd).symm, by decide⟩
        · exact ⟨n - 1, 2, (Option.some.inj hd).symm, by decide⟩
      subst hdd
      obtain ⟨c', S'', zs, w1, w2, w3⟩ := th2 (x8 := x8) (row := r) (at' := a) hh h2 c0 c4 hr (by omega)
      exact ⟨rt t (stD L R F) cr L R F n c x8 (some (.int r)) (some (.int a)), _, S'', rfl, w1, c', zs, some (.int r), some (.int a), rfl, w2, h3.trans w3⟩) (2 + 1) 0 (rt t (stD L R F) cr L R F n S.length x8 x9 x10) S2 (Nat.zero_le _) ⟨_, _, x9, x10, rfl, ti2, .refl⟩ (by simp)
  subst eρ3
  have ti3 : TI (S.length + 1) c3 S3 t k 17 xs3 := ti3
  obtain ⟨c6, S6, z6, e6, ti6, l6⟩ := t6 (cr := cr) (x8 := x8) (x9 := y9) (x10 := y10) hh ti3 (by decide)
  obtain ⟨c7, S7, z7, e7, ti7, l7⟩ := t7 (cr := cr) (x8 := x8) (x9 := y9) (x10 := y10) hh ti6 (by decide)
  obtain ⟨c8, S8, z8, e8, ti8, l8⟩ := t8 (cr := cr) (x8 := x8) (x9 := y9) (x10 := y10) hh ti7 (by decide)
  obtain ⟨c9, S9, z9, e9, ti9, l9⟩ := t9 (cr := cr) (x8 := x8) (x9 := y9) (x10 := y10) hh ti8 l8 (by omega) (by omega) (by decide)
  obtain ⟨c10, S10, z10, e10, ti10, l10⟩ := t10 (cr := cr) (x8 := x8) (x9 := y9) (x10 := y10) hh ti9 (by decide)
  obtain ⟨c11, S11, z11, e11, ti11, l11⟩ := t11 (cr := cr) (x8 := x8) (x9 := y9) (x10 := y10) hh ti10 (by decide)
  obtain ⟨c12, S12, z12, e12, ti12, l12⟩ := t12 (cr := cr) (x8 := x8) (x9 := y9) (x10 := y10) hh ti11 (by decide)
  refine ⟨c12, S12, z12, ?_, ⟨ti12.d, ti12.hc, Nat.le_trans ti12.len (by decide), ti12.ok, ti12.ll⟩, l12⟩
  rw [hf]
  unfold b__law_things
  refine (fin_nx (ρ' := [some (.lst t), some (stD L R F), some (.int cr), some (.tup (L.map D.int)), some (.tup (R.map D.int)), some (.tup (F.map D.int)), none, none, none, none, none]) (S' := S) (by rfl)).trans ?_
  refine (fin_nx (ρ' := [some (.lst t), some (stD L R F), some (.int cr), some (.tup (L.map D.int)), some (.tup (R.map D.int)), some (.tup (F.map D.int)), some (.int ((n : Int) - 1)), none, none, none, none]) (S' := S) (by simp only [sa_ap, o2_ap, b1_ap, ac_ap, an_ap, vr_ap, cn_ap, List.getElem?_cons_zero, List.getElem?_cons_succ, bind_ok, ln, sub_ii, bindS_ok]; rfl)).trans ?_
  refine (fin_nx (ρ' := rt t (stD L R F) cr L R F n S.length none none none) (S' := S ++ [(⟨false, [stD L R F]⟩ : Cell)]) (by simp)).trans ?_
  refine (fin_nx (ρ' := rt t (stD L R F) cr L R F n S.length x8 x9 x10) (S' := S1) (by rw [sfor_ap, ir1_ok (n := 12) (S' := S ++ [(⟨false, [stD L R F]⟩ : Cell)]) (by simp) (by decide)]; exact ef1)).trans ?_
  refine (fin_nx (ρ' := rt t (stD L R F) cr L R F n c3 x8 y9 y10) (S' := S3) (by rw [sfor_ap, isrc_ap, hls, bind_ok, hsrc]; exact ef3)).trans ?_
  refine (fin_nx (ρ' := rt t (stD L R F) cr L R F n c6 x8 y9 y10) (S' := S6) (by rw [sa_ap, e6]; rfl)).trans ?_
  refine (fin_nx (ρ' := rt t (stD L R F) cr L R F n c7 x8 y9 y10) (S' := S7) (by rw [sa_ap, e7]; rfl)).trans ?_
  refine (fin_nx (ρ' := rt t (stD L R F) cr L R F n c8 x8 y9 y10) (S' := S8) (by rw [sa_ap, e8]; rfl)).trans ?_
  refine (fin_nx (ρ' := rt t (stD L R F) cr L R F n c9 x8 y9 y10) (S' := S9) (by rw [sa_ap, e9]; rfl)).trans ?_
  refine (fin_nx (ρ' := rt t (stD L R F) cr L R F n c10 x8 y9 y10) (S' := S10) (by rw [sa_ap, e10]; rfl)).trans ?_
  refine (fin_nx (ρ' := rt t (stD L R F) cr L R F n c11 x8 y9 y10) (S' := S11) (by rw [sa_ap, e11]; rfl)).trans ?_
  rw [sret_ap, e12]
  rfl
theorem ne_bb {a : Bool} {S : Sto} : neD (.bl a) (.bl a) S = .ok (.bl false) S := by
  simp only [neD, toP]
  cases a <;> simp [SeqAt.shaped, PyData.eqv, PyData.canLay0, PyData.depth]
theorem law_ok {S : Sto} {q : Nat} {fz : Bool} {ns : List Int} (e : S[q]? = some ⟨fz, ns.map D.int⟩) : ∃ S', f_law [.lst q] S = .ok (.bl true) S' := by
  obtain ⟨t, k, S1, f1, d1⟩ := tape_ok e
  obtain ⟨mid, gd, S2, f2, hm, h1, h2, d2⟩ := canal_ok d1
  have f2 : f__law_canal [.lst t] S1 = .ok (CD mid gd) S2 := f2
  obtain ⟨cr, S3, f3, c0, c5, d3, k3⟩ := draw (m := 5) d2 (by decide) (by decide)
  have pl := plc_len (mid := mid)
  obtain ⟨L, R, F, S4, f4, l1, l2, l3, b1, b2, b3, d4⟩ := house_ok (ps := plc mid) (gd := gd) (cr := cr) d3 (plc_ok hm) (by omega) (by omega) c0 (by omega)
  have hh : Hs (plc mid).length L R F := ⟨l1, l2, l3, b1, b2, b3, by omega, by omega⟩
  obtain ⟨c, S5, zs, f5, ti, lc⟩ := things_ok hh d4 c0 (by omega)
  have shl := shx_lst ti.hc (shs_all ti.ok) lc
  have hzl := ti.len
  obtain ⟨s, so, hr⟩ := shl.repr_l (by omega) (by decide)
  obtain ⟨ρ6, S6, ef, x6, x7, eρ, x⟩ := for_inv (nxt := (srcL c zs.length).nxt) (g := gn 6) (b := lb_law_1) (l := zs)
    (fun i ρ S' => ∃ x6 x7, ρ = [some (.lst q), some (.lst t), some (CD mid gd), some (.int cr), some (.lst c), some (.str s), x6, x7] ∧ Ex S5 S')
    (fun i ρ S' ⟨_, _, _, x⟩ => by
      show (S'[c]?).bind (fun c => c.xs[i]?) = _
      rw [x.at ti.hc]; rfl) (fun i dd ρ S' hd ⟨x6, x7, w1, w2⟩ => by
      subst w1
      obtain ⟨v, Sa, Sb, fa, xa, fb, xb⟩ := both (gd := gd) (x := dd) (cr := cr) (S := S') hm h2 (by omega)
      have nb := ne_bb (a := v) (S := Sb)
      refine ⟨[some (.lst q), some (.lst t), some (CD mid gd), some (.int cr), some (.lst c), some (.str s), some dd, x7], [some (.lst q), some (.lst t), some (CD mid gd), some (.int cr), some (.lst c), some (.str s), some dd, some (.bl v)], Sb, rfl, ?_, some dd, some (.bl v), rfl, (w2.trans xa).trans xb⟩
      unfold lb_law_1
      rw [sq_nx (ρ' := [some (.lst q), some (.lst t), some (CD mid gd), some (.int cr), some (.lst c), some (.str s), some dd, some (.bl v)]) (S1 := Sa) (by simp only [sa_ap, cl_ap, ac_ap, an_ap, vr_ap, List.getElem?_cons_zero, List.getElem?_cons_succ, bind_ok, List.length_cons, List.length_nil, Nat.reduceAdd, if_true, noExc_ap, fa, bindS_ok]; rfl)]
      refine (sif_f (S1 := Sb) ?_).trans skip_ap
      simp only [to_ap, tn_ap, tt_ap, tb_ap, o1_ap, o2_ap, cl_ap, ac_ap, an_ap, vr_ap, List.getElem?_cons_zero, List.getElem?_cons_succ, bind_ok, isD, isT, tyN, truD, List.length_cons, List.length_nil, Nat.reduceAdd, if_true, noExc_ap, fb, nb]
      simp [nb]) (zs.length + 1) 0 [some (.lst q), some (.lst t), some (CD mid gd), some (.int cr), some (.lst c), some (.str s), none, none] S5 (Nat.zero_le _) ⟨none, none, rfl, .refl⟩ (by omega)
  subst eρ
  have r5 := hr S5 .refl
  have r6 := hr S6 (.ex x)
  have ee := eq_ss (S := S6) so so
  rw [show (s == s) = true by simp] at ee
  refine ⟨S6, ?_⟩
  refine (fnB_ap (m := 8) (b := b_law)).trans ?_
  show fin (b_law [some (.lst q), none, none, none, none, none, none, none] S) = _
  unfold b_law
  refine (fin_nx (ρ' := [some (.lst q), some (.lst t), none, none, none, none, none, none]) (S' := S1) (by simp [f1])).trans ?_
  refine (fin_nx (ρ' := [some (.lst q), some (.lst t), some (CD mid gd), none, none, none, none, none]) (S' := S2) (by simp only [sa_ap, cl_ap, ac_ap, an_ap, vr_ap, List.getElem?_cons_zero, List.getElem?_cons_succ, bind_ok, List.length_cons, List.length_nil, Nat.reduceAdd, if_true, noExc_ap, f2, bindS_ok]; rfl)).trans ?_
  refine (fin_nx (ρ' := [some (.lst q), some (.lst t), some (CD mid gd), some (.int cr), none, none, none, none]) (S' := S3) (by simp [f3])).trans ?_
  refine (fin_nx (ρ' := [some (.lst q), some (.lst t), some (CD mid gd), some (.int cr), some (.lst c), none, none, none]) (S' := S5) (by simp only [sa_ap, cl_ap, ac_ap, an_ap, vr_ap, List.getElem?_cons_zero, List.getElem?_cons_succ, bind_ok, List.length_cons, List.length_nil, Nat.reduceAdd, if_true, noExc_ap, f4, f5, bindS_ok]; rfl)).trans ?_
  refine (fin_nx (ρ' := [some (.lst q), some (.lst t), some (CD mid gd), some (.int cr), some (.lst c), some (.str s), none, none]) (S' := S5) (by simp [r5])).trans ?_
  refine (fin_nx (ρ' := [some (.lst q), some (.lst t), some (CD mid gd), some (.int cr), some (.lst c), some (.str s), x6, x7]) (S' := S6) ?_).trans ?_
  · rw [sfor_ap, isrc_ap, vr_ap]
    simp only [List.getElem?_cons_zero, List.getElem?_cons_succ, bind_ok, src_l ti.hc, bindS_ok]
    exact ef
  simp [r6, ee]
theorem rep_ints {K : PySem.W.Frag} {mp : List Addr} {H : Hp} : ∀ ns : List Int, RepL K mp H (ns.map D.int) (ns.map V.int)
  | [] => RepL.nil
  | a :: r => RepL.cons rfl (rep_ints r)
theorem hsp (K : PySem.W.Frag) (H : Hp) (a : Addr) (ns : List Int) (hl : ns.length ≤ 63) (hO : Only H) (hS : SqL K H a (ns.map V.int)) : spD K 1 f_law [.ref a] H (fun v _ => v = .bl true) fun _ _ _ => False := by
  have hF : SqF K H a (ns.map V.int) := by
    rcases hS with (h | h) | h
    · rcases hO a with z | ⟨o, xs, z⟩
      · rw [z] at h; cases h
      · rw [z] at h; cases h
    · exact .inl h
    · exact .inr h
  obtain ⟨S', e⟩ := law_ok (S := [⟨true, ns.map D.int⟩]) (q := 0) (fz := true) (ns := ns) rfl
  refine ⟨[a], [.lst 0], [⟨true, ns.map D.int⟩], ⟨rfl, fun i b c h1 h2 => ?_, fun i j b ci cj h1 h2 h3 h4 h5 h6 => ?_⟩, RepL.cons ⟨a, rfl, rfl⟩ RepL.nil, rfl, ?_⟩
  · cases i with
    | zero =>
      cases (Option.some.inj h1)
      cases (Option.some.inj h2)
      exact ⟨ns.map V.int, rep_ints ns, (if_pos rfl).mpr hF⟩
    | succ i => simp at h1
  · cases i with
    | zero => cases (Option.some.inj h3); cases h5
    | succ i => simp at h1
  · show PostF K [a] H (f_law [.lst 0] [⟨true, ns.map D.int⟩]) _
    rw [e]
    exact fun mp' H' v _ _ h => h
end Law
set_option Elab.async false
open PySem PySem.W PyProof.Rows
set_option maxRecDepth 100000 in
set_option maxHeartbeats 0 in
theorem PySem.Challenge.cw_summitwater_k61_houses_known_holds : PySem.Challenge.rw_summitwater_k61_houses_known.Holds := by
  w_on; o_law; k_head; (case hw => w_witness2)
  k_fill
  refine L2.walk_ofK (l := PySem.Challenge.rw_summitwater_k61_houses_known) (n := 63) (k := 11) (x := "script") (CX := L2.CX0) (sp := fun K => DL.spD K 1 Law.f_law) rfl (by decide) rfl ⟨rfl, by decide, by decide, rfl⟩ (fun w h Y => PySem.W.kIn_of Y) ?F Law.hsp (fun _ _ _ _ z => z)
  case F =>
    intro w mg fa h KX G hmg
    refine' Law.all_mk KX G hmg ?a_is_whole ?l_is_whole ?c_is_whole ?k_is_whole ?a_is_tuple ?l_is_tuple ?c_is_tuple ?k_is_tuple ?a_most_water ?l_most_water ?c_most_water ?k_most_water ?a_holds ?l_holds ?c_holds ?k_holds ?a_are_counts ?l_are_counts ?c_are_counts ?k_are_counts ?a_is_stand ?l_is_stand ?c_is_stand ?k_is_stand ?a_without_gone ?l_without_gone ?c_without_gone ?k_without_gone ?a_is_house ?l_is_house ?c_is_house ?k_is_house ?a__law_mixed ?l__law_mixed ?c__law_mixed ?k__law_mixed ?a__law_tape ?l__law_tape ?c__law_tape ?k__law_tape ?a__law_take ?l__law_take ?c__law_take ?k__law_take ?a__law_large ?l__law_large ?c__law_large ?k__law_large ?a__law_places ?l__law_places ?c__law_places ?k__law_places ?a__law_canal ?l__law_canal ?c__law_canal ?k__law_canal ?a__law_house ?l__law_house ?c__law_house ?k__law_house ?a__law_any ?l__law_any ?c__law_any ?k__law_any ?a__law_put ?l__law_put ?c__law_put ?k__law_put ?a__law_other ?l__law_other ?c__law_other ?k__law_other ?a__law_else ?l__law_else ?c__law_else ?k__law_else ?a__law_others ?l__law_others ?c__law_others ?k__law_others ?a__law_things ?l__law_things ?c__law_things ?k__law_things ?a__law_is_row ?l__law_is_row ?c__law_is_row ?k__law_is_row ?a__law_fits ?l__law_fits ?c__law_fits ?k__law_fits ?a__law_due ?l__law_due ?c__law_due ?k__law_due ?a_law ?l_law ?c_law ?k_law ?z_all ?z_bool ?z_enumerate ?z_int ?z_isinstance ?z_len ?z_list ?z_range ?z_repr ?z_sum ?z_tuple ?ka_CHAMBER ?kl_CHAMBER ?ka_END ?kl_END ?ka_MOST_BARGES
    (case a_is_whole => k_is); (case l_is_whole => k_is); (case c_is_whole => k_is); (case k_is_whole => k_is)
    (case a_is_tuple => k_is); (case l_is_tuple => k_is); (case c_is_tuple => k_is); (case k_is_tuple => k_is)
    (case a_most_water => k_is); (case l_most_water => k_is); (case c_most_water => k_is); (case k_most_water => k_is)
    (case a_holds => k_is); (case l_holds => k_is); (case c_holds => k_is); (case k_holds => k_is)
    (case a_are_counts => k_is); (case l_are_counts => k_is); (case c_are_counts => k_is); (case k_are_counts => k_is)
    (case a_is_stand => k_is); (case l_is_stand => k_is); (case c_is_stand => k_is); (case k_is_stand => k_is)
    (case a_without_gone => k_is); (case l_without_gone => k_is); (case c_without_gone => k_is); (case k_without_gone => k_is)
    (case a_is_house => k_is); (case l_is_house => k_is); (case c_is_house => k_is); (case k_is_house => k_is)
    (case a__law_mixed => k_is); (case l__law_mixed => k_is); (case c__law_mixed => k_is); (case k__law_mixed => k_is)
    (case a__law_tape => k_is); (case l__law_tape => k_is); (case c__law_tape => k_is); (case k__law_tape => k_is)
    (case a__law_take => k_is); (case l__law_take => k_is); (case c__law_take => k_is); (case k__law_take => k_is)
    (case a__law_large => k_is); (case l__law_large => k_is); (case c__law_large => k_is); (case k__law_large => k_is)
    (case a__law_places => k_is); (case l__law_places => k_is); (case c__law_places => k_is); (case k__law_places => k_is)
    (case a__law_canal => k_is); (case l__law_canal => k_is); (case c__law_canal => k_is); (case k__law_canal => k_is)
    (case a__law_house => k_is); (case l__law_house => k_is); (case c__law_house => k_is); (case k__law_house => k_is)
    (case a__law_any => k_is); (case l__law_any => k_is); (case c__law_any => k_is); (case k__law_any => k_is)
    (case a__law_put => k_is); (case l__law_put => k_is); (case c__law_put => k_is); (case k__law_put => k_is)
    (case a__law_other => k_is); (case l__law_other => k_is); (case c__law_other => k_is); (case k__law_other => k_is)
    (case a__law_else => k_is); (case l__law_else => k_is); (case c__law_else => k_is); (case k__law_else => k_is)
    (case a__law_others => k_is); (case l__law_others => k_is); (case c__law_others => k_is); (case k__law_others => k_is)
    (case a__law_things => k_is); (case l__law_things => k_is); (case c__law_things => k_is); (case k__law_things => k_is)
    (case a__law_is_row => k_is); (case l__law_is_row => k_is); (case c__law_is_row => k_is); (case k__law_is_row => k_is)
    (case a__law_fits => k_is); (case l__law_fits => k_is); (case c__law_fits => k_is); (case k__law_fits => k_is)
    (case a__law_due => k_is); (case l__law_due => k_is); (case c__law_due => k_is); (case k__law_due => k_is)
    (case a_law => k_is); (case l_law => k_is); (case c_law => k_is); (case k_law => k_is)
    (case z_all => k_is)
    (case z_bool => k_is)
    (case z_enumerate => k_is)
    (case z_int => k_is)
    (case z_isinstance => k_is)
    (case z_len => k_is)
    (case z_list => k_is)
    (case z_range => k_is)
    (case z_repr => k_is)
    (case z_sum => k_is)
    (case z_tuple => k_is)
    (case ka_CHAMBER => k_is)
    (case kl_CHAMBER => k_is)
    (case ka_END => k_is)
    (case kl_END => k_is)
    (case ka_MOST_BARGES => k_is)
