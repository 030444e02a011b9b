import PyProof.Rows.All
import Wide.All
import OpenK.AllK
import Wide.FinOn
import Lean
import PyProof.EqAt
import PyProof.EqKinds
import PyProof.TupleCall
import PyProof.FactsAll.tuple_2
import PyProof.ListMulRoad
import PyProof.ZipIter
import PyProof.EnumFor
import PySem.Challenge.RW_summitwater_k05_stands_known
set_option Elab.async false
set_option linter.all false
set_option maxRecDepth 100000
namespace L2
open PySem PySem.Spec PyProof.Rows
abbrev Key := Sum Int Str
def keyIs : Key → Value → Bool
  | .inl k, v => Value.isInt k v
  | .inr x, v => Value.isStrOf x v
def keyH (w : World) : Key → Int
  | .inl k => hashInt k
  | .inr x => hashStr w x
theorem keyIs_shape : ∀ {k : Key} {v : Value}, keyIs k v = true → (∃ i t, k = Sum.inl i ∧ v = Value.int i t) ∨ (∃ x t, k = Sum.inr x ∧ v = Value.str x t)
  | .inl i, v, h => by
    obtain ⟨t, e⟩ := Value.isInt_shape (k := i) (v := v) h
    exact .inl ⟨i, t, rfl, e⟩
  | .inr x, v, h => by
    obtain ⟨t, e⟩ := Value.isStrOf_shape (x := x) (v := v) h
    exact .inr ⟨x, t, rfl, e⟩
theorem key_ll (a b : Int) : decide ((Sum.inl a : Key) = Sum.inl b) = (a == b) := by
  by_cases e : a = b
  · subst e; simp
  · have h : ¬ (Sum.inl a : Key) = Sum.inl b := fun q => e (Sum.inl.inj q)
    rw [decide_eq_false h]
    exact (beq_eq_false_iff_ne.mpr e).symm
theorem key_rr (a b : Str) : decide ((Sum.inr a : Key) = Sum.inr b) = decide (a = b) := by
  by_cases e : a = b
  · subst e; simp
  · have h : ¬ (Sum.inr a : Key) = Sum.inr b := fun q => e (Sum.inr.inj q)
    rw [decide_eq_false h, decide_eq_false e]
theorem key_lr (a : Int) (b : Str) : decide ((Sum.inl a : Key) = Sum.inr b) = false := decide_eq_false (fun q => nomatch q)
theorem key_rl (a : Str) (b : Int) : decide ((Sum.inr a : Key) = Sum.inl b) = false := decide_eq_false (fun q => nomatch q)
def mixKind (prog : Program) (w : World) : PySem.KeyKind prog w Key where
  is := keyIs
  hash := keyH w
  inj := fun v a b ha hb => by
    rcases keyIs_shape ha with ⟨i, t, rfl, rfl⟩ | ⟨x, t, rfl, rfl⟩
    · rcases keyIs_shape hb with ⟨j, u, rfl, e⟩ | ⟨y, u, rfl, e⟩
      · injection e with e1 _; rw [e1]
      · exact nomatch e
    · rcases keyIs_shape hb with ⟨j, u, rfl, e⟩ | ⟨y, u, rfl, e⟩
      · exact nomatch e
      · injection e with e1 _; rw [e1]
  byValue := fun k v h => by
    rcases keyIs_shape h with ⟨i, t, rfl, rfl⟩ | ⟨x, t, rfl, rfl⟩ <;> rfl
  pyHash := fun hv h => by
    rcases keyIs_shape hv with ⟨i, t, rfl, rfl⟩ | ⟨x, t, rfl, rfl⟩
    · exact wpAny_pyHash_int h
    · exact wpAny_pyHash_str h
  eqBool := fun hu hv h => by
    rcases keyIs_shape hu with ⟨i, t, rfl, rfl⟩ | ⟨x, t, rfl, rfl⟩
    · rcases keyIs_shape hv with ⟨j, u, rfl, rfl⟩ | ⟨y, u, rfl, rfl⟩
      · rw [key_ll] at h; exact wpAny_eqBool_int h
      · rw [key_lr] at h; exact SeqAt.EqAt.int_str i t y u _ _ _ _ h
    · rcases keyIs_shape hv with ⟨j, u, rfl, rfl⟩ | ⟨y, u, rfl, rfl⟩
      · rw [key_rl] at h; exact SeqAt.EqAt.str_int x t j u _ _ _ _ h
      · rw [key_rr] at h; exact wpAny_eqBool_str h
  «strs» := fun k x t v h => by
    rcases keyIs_shape h with ⟨i, u, rfl, e⟩ | ⟨y, u, rfl, e⟩
    · exact nomatch e
    · injection e with e1 _
      subst e1
      cases v <;> rfl
end L2
namespace L2
open PySem PySem.Spec PyProof.Rows
inductive V where
  | non | bl (b : Bool) | int (i : Int) | str (x : Str) | byt (b : Array UInt8) | flt (b : UInt64) | ref (a : Addr) | ty (n : String)
  deriving DecidableEq
def RelV : V → Value → Prop
  | .non, u => u = Value.none
  | .bl b, u => u = Value.bool b
  | .int i, u => ∃ t, u = Value.int i t
  | .str x, u => ∃ t, u = Value.str x t
  | .byt b, u => ∃ t, u = Value.bytes b t
  | .flt b, u => ∃ t, u = Value.float b t
  | .ref a, u => u = Value.ref a
  | .ty n, u => u = Value.type n
abbrev Vals : List V → List Value → Prop := Paired RelV
theorem Vals.length {xs : List V} {us : List Value} (r : Vals xs us) : xs.length = us.length := Paired.length r
theorem Vals.get : ∀ {xs : List V} {us : List Value} {i : Nat} {x : V}, Vals xs us → xs[i]? = some x → ∃ u, us[i]? = some u ∧ RelV x u
  | _, _, _, _, .nil, e => by simp at e
  | _, _, 0, _, .cons r _, e => by simp at e; subst e; exact ⟨_, rfl, r⟩
  | _, _, i + 1, x, .cons _ t, e => by
    obtain ⟨u, h1, h2⟩ := Vals.get (i := i) (x := x) t (by simpa using e)
    exact ⟨u, by simpa using h1, h2⟩
theorem Vals.set {x : V} {u : Value} (r : RelV x u) : ∀ {xs : List V} {us : List Value} (i : Nat), Vals xs us → Vals (xs.set i x) (us.set i u)
  | _, _, _, .nil => .nil
  | _, _, 0, .cons _ t => .cons r t
  | _, _, i + 1, .cons q t => .cons q (Vals.set r i t)
theorem Vals.append : ∀ {xs ys : List V} {us ws : List Value}, Vals xs us → Vals ys ws → Vals (xs ++ ys) (us ++ ws)
  | _, _, _, _, .nil, s => s
  | _, _, _, _, .cons r t, s => .cons r (Vals.append t s)
theorem Vals.take : ∀ {xs : List V} {us : List Value} (n : Nat), Vals xs us → Vals (xs.take n) (us.take n)
  | _, _, 0, _ => .nil
  | _, _, _ + 1, .nil => .nil
  | _, _, n + 1, .cons r t => .cons r (Vals.take n t)
theorem Vals.drop : ∀ {xs : List V} {us : List Value} (n : Nat), Vals xs us → Vals (xs.drop n) (us.drop n)
  | _, _, 0, r => r
  | _, _, _ + 1, .nil => .nil
  | _, _, n + 1, .cons _ t => Vals.drop n t
def RelO : Option V → Option Value → Prop
  | some v, some u => RelV v u
  | none, none => True
  | _, _ => False
def KV {κ : Type} : List (κ × V) → List (κ × Value) → Prop := Paired fun (p : κ × V) (q : κ × Value) => p.1 = q.1 ∧ RelV p.2 q.2
def kV : Key → V
  | .inl i => .int i
  | .inr x => .str x
inductive HO where
  /-- a list -/
  | lst (xs : List V)
  /-- a tuple (never changes) -/
  | tup (xs : List V)
  /-- a dict whose keys are ints and texts; one whose keys are tuples of ints and texts (the empty one is both) -/
  | dK (kvs : List (Key × V)) | dT (kvs : List (List Key × V))
  /-- a set of ints: its members, its size -/
  | set (S : Int → Bool) (n : Nat)
  /-- an instance of the class at C, its dict at dx, its attributes -/
  | ins (C dx : Addr) (fs : List (Str × V))
  /-- the dict of the instance at x -/
  | own (x : Addr)
  /-- the dict of an exception -/
  | xd (fs : List (Str × V))
  /-- a bound method, f of x -/
  | met (f x : Addr)
  /-- a range object lo, lo + 1, .. below hi -/
  | rng (lo hi : Int)
  /-- a thing that is known to the object (the script; a dict while a loop walks it): read, never written while it is so -/
  | frz (o : Obj) (u : HO)
  /-- a code object's table -/
  | tbl (ps : Array Value)
  /-- any other thing, by what is true of its one object (a def of one's own: SetO a S n := HO.ext fun h => ..) -/
  | ext (φ : Heap → Prop)
abbrev Hp := Addr → Option HO
def upd (H : Hp) (a : Addr) (o : HO) : Hp := fun b => if b = a then some o else H b
theorem upd_same {H : Hp} {a : Addr} {o : HO} : upd H a o a = some o := by unfold upd; rw [if_pos rfl]
theorem upd_ne {H : Hp} {a b : Addr} {o : HO} (h : b ≠ a) : upd H a o b = H b := by unfold upd; rw [if_neg h]
theorem ne_of {H : Hp} {a b : Addr} {o u : HO} (h : H a = some o) (h' : H b = some u) (d : o ≠ u) : a ≠ b := by
  intro e; subst e; rw [h] at h'; exact d (Option.some.inj h')
theorem ne_of_none {H : Hp} {a b : Addr} {o : HO} (h : H a = some o) (h' : H b = none) : a ≠ b := by
  intro e; subst e; rw [h] at h'; cases h'
section
variable (P : Program) (w : World)
def ObjOk (H : Hp) (h : Heap) (a : Addr) : HO → Prop
  | .lst xs => xs.length ≤ sizeLine ∧ ∃ (its : List Value) (n : Nat), Vals xs its ∧ h.get? a = some { cls := .type "list", data := .seq its.toArray n }
  | .tup xs => xs.length ≤ sizeLine ∧ ∃ its : List Value, Vals xs its ∧ IsTup h a its.toArray
  | .dK kvs => kvs.length ≤ sizeLine ∧ (a == sysModules) = false ∧ ∃ vs, KV kvs vs ∧ h.DictOf (mixKind P w) a vs
  | .dT kvs => kvs.length ≤ sizeLine ∧ (a == sysModules) = false ∧ ∃ xs : List (List Key × Addr × Value),
      Paired (fun (p : List Key × V) (q : List Key × Addr × Value) => p.1 = q.1 ∧ H q.2.1 = some (.tup (p.1.map kV)) ∧ RelV p.2 q.2.2) kvs xs ∧
      ∃ o es ep, h.get? a = some o ∧ o.ExactDict ∧ o.data = .dict es ep ∧ es.toList = xs.map (entryOfKey (tupleKind (mixKind P w))) ∧ (xs.map (·.1)).Nodup
  | .set S n => h.SetOf (intKind P w) a S n
  | .ins C dx fs => H dx = some (.own a) ∧ fs.length ≤ 1000 ∧ dx ≠ a ∧ h.get? a = some (PySem.W.instObj C dx) ∧
      ∃ mA, h.Ns1 dx mA ∧ (∀ f, RelO (fs.lookup f) (mA f)) ∧ PySem.Within mA (fs.map (·.1))
  | .own _ => ∃ o, h.get? a = some o
  | .xd fs => ∃ mA, h.Ns1 a mA ∧ ∀ f, RelO (fs.lookup f) (mA f)
  | .rng lo hi => ∃ t u v, h.get? a = some { cls := .type "range", data := .fields #[.int lo t, .int hi u, .int 1 v] }
  | .frz o u => h.get? a = some o ∧ ObjOk H h a u
  | .tbl ps => h.get? a = some { cls := .none, data := .fields ps }
  | .met f x => h.get? a = some (PySem.W.methodObj (.ref f) (.ref x))
  | .ext φ => φ h ∧ (∃ o, h.get? a = some o) ∧ ∀ h1 h2 : Heap, φ h1 → (∀ o, h1.get? a = some o → h2.get? a = some o) → φ h2
def HOk (H : Hp) (h : Heap) : Prop := ∀ a o, H a = some o → ObjOk P w H h a o
end
section
variable {P : Program} {w : World} {H H' : Hp} {h h' : Heap} {a : Addr} {o : HO}
theorem ObjOk.lt (x : ObjOk P w H h a o) : a < h.objs.size := by
  cases o with
  | lst xs => obtain ⟨_, _, _, _, e⟩ := x; exact Heap.lt_size e
  | tup xs => obtain ⟨_, _, _, p⟩ := x; exact p.lt
  | dK kvs => obtain ⟨_, _, _, _, o, _, _, e, _⟩ := x; exact Heap.lt_size e
  | dT kvs => obtain ⟨_, _, _, _, o, _, _, e, _⟩ := x; exact Heap.lt_size e
  | set S n => obtain ⟨o, _, _, _, e, _⟩ := x; exact Heap.lt_size e
  | ins C dx fs => obtain ⟨_, _, _, e, _⟩ := x; exact Heap.lt_size e
  | own y => obtain ⟨_, e⟩ := x; exact Heap.lt_size e
  | xd fs => obtain ⟨_, ⟨_, _, _, e, _⟩, _⟩ := x; exact Heap.lt_size e
  | rng lo hi => obtain ⟨_, _, _, e⟩ := x; exact Heap.lt_size e
  | frz ob u => obtain ⟨e, _⟩ := x; exact Heap.lt_size e
  | tbl ps => exact Heap.lt_size (show h.get? a = some _ from x)
  | met f y => exact Heap.lt_size (show h.get? a = some _ from x)
  | ext φ => obtain ⟨_, ⟨_, e⟩, _⟩ := x; exact Heap.lt_size e
theorem Paired.mapP {α β : Type} {F G : α → β → Prop} : ∀ {l₁ : List α} {l₂ : List β}, Paired F l₁ l₂ → (∀ a b, F a b → G a b) → Paired G l₁ l₂
  | _, _, .nil, _ => .nil
  | _, _, .cons r t, f => .cons (f _ _ r) (Paired.mapP t f)
theorem ObjOk.stay (x : ObjOk P w H h a o) (k : ∀ b u, (b = a ∨ H b = some (.own a)) → h.get? b = some u → h'.get? b = some u)
    (ho : ∀ b, H b = some (.own a) → H' b = some (.own a)) (ht : ∀ b xs, H b = some (.tup xs) → H' b = some (.tup xs)) : ObjOk P w H' h' a o := by
  induction o with
  | lst xs => obtain ⟨z, its, n, r, e⟩ := x; exact ⟨z, its, n, r, k _ _ (.inl rfl) e⟩
  | tup xs => obtain ⟨z, its, r, ob, e, c⟩ := x; exact ⟨z, its, r, ob, k _ _ (.inl rfl) e, c⟩
  | dK kvs => obtain ⟨z, y, vs, r, ob, es, ep, e, c⟩ := x; exact ⟨z, y, vs, r, ob, es, ep, k _ _ (.inl rfl) e, c⟩
  | dT kvs =>
    obtain ⟨z, y, xs, r, ob, es, ep, e, c⟩ := x
    exact ⟨z, y, xs, Paired.mapP r fun p q z => ⟨z.1, ht _ _ z.2.1, z.2.2⟩, ob, es, ep, k _ _ (.inl rfl) e, c⟩
  | set S n => obtain ⟨ob, es, ep, t, e, c⟩ := x; exact ⟨ob, es, ep, t, k _ _ (.inl rfl) e, c⟩
  | ins C dx fs =>
    obtain ⟨d, z, ne, e, mA, ⟨od, es, ep, e2, c⟩, r⟩ := x
    exact ⟨ho _ d, z, ne, k _ _ (.inl rfl) e, mA, ⟨od, es, ep, k _ _ (.inr d) e2, c⟩, r⟩
  | own y => obtain ⟨ob, e⟩ := x; exact ⟨ob, k _ _ (.inl rfl) e⟩
  | xd fs => obtain ⟨mA, ⟨od, es, ep, e, c⟩, r⟩ := x; exact ⟨mA, ⟨od, es, ep, k _ _ (.inl rfl) e, c⟩, r⟩
  | rng lo hi => obtain ⟨t, u, v, e⟩ := x; exact ⟨t, u, v, k _ _ (.inl rfl) e⟩
  | frz ob u ih => obtain ⟨e, q⟩ := x; exact ⟨k _ _ (.inl rfl) e, ih q⟩
  | tbl ps =>
    have e : h.get? a = some { cls := .none, data := .fields ps } := x
    show h'.get? a = some { cls := .none, data := .fields ps }
    exact k a _ (.inl rfl) e
  | met f y =>
    have e : h.get? a = some (PySem.W.methodObj (.ref f) (.ref y)) := x
    show h'.get? a = some (PySem.W.methodObj (.ref f) (.ref y))
    exact k a _ (.inl rfl) e
  | ext φ => obtain ⟨p, ⟨o, e⟩, st⟩ := x; exact ⟨st _ _ p fun o q => k _ _ (.inl rfl) q, ⟨o, k _ _ (.inl rfl) e⟩, st⟩
theorem HOk.lt (x : HOk P w H h) (e : H a = some o) : a < h.objs.size := (x a o e).lt
theorem HOk.fresh (x : HOk P w H h) (e : h.objs.size ≤ a) : H a = none := by
  cases q : H a with
  | none => rfl
  | some u => exact absurd (Nat.lt_of_lt_of_le (x.lt q) e) (Nat.lt_irrefl _)
theorem HOk.kept (x : HOk P w H h) (k : ∀ b u, h.get? b = some u → h'.get? b = some u) : HOk P w H h' := fun a o e =>
  (x a o e).stay (fun b u _ q => k b u q) (fun _ q => q) fun _ _ q => q
theorem HOk.laid (x : HOk P w H h) (k : ∀ b u, h.get? b = some u → h'.get? b = some u) (hp : h.objs.size ≤ a) (new : ObjOk P w (upd H a o) h' a o) : HOk P w (upd H a o) h' := fun b u e => by
  have hn := x.fresh hp
  by_cases hb : b = a
  · subst hb; rw [upd_same] at e; cases e; exact new
  · rw [upd_ne hb] at e
    exact (x b u e).stay (fun c v _ q => k c v q) (fun c q => by rw [upd_ne (ne_of_none q hn)]; exact q) fun c xs q => by rw [upd_ne (ne_of_none q hn)]; exact q
end
def Rd (H : Hp) (a : Addr) (u : HO) : Prop := H a = some u ∨ ∃ o, H a = some (.frz o u)
theorem Rd.of {H : Hp} {a : Addr} {u : HO} (h : H a = some u) : Rd H a u := .inl h
theorem Rd.ok {P : Program} {w : World} {H : Hp} {h : Heap} {a : Addr} {u : HO} (r : Rd H a u) (x : HOk P w H h) : ObjOk P w H h a u := by
  rcases r with r | ⟨o, r⟩
  · exact x a u r
  · obtain ⟨_, q⟩ := x a _ r
    exact q
def Mut : Option HO → Prop
  | some (.lst _) => True
  | some (.dK _) => True
  | some (.dT _) => True
  | some (.set _ _) => True
  | some (.ins _ _ _) => True
  | some (.ext _) => True
  | _ => False
section
variable {P : Program} {w : World} {H : Hp} {h h' : Heap} {x e : Addr} {o' : HO}
theorem HOk.write (ok : HOk P w H h) (mu : Mut (H x)) (he : e = x ∨ H e = some (.own x)) (k : ∀ b u, b ≠ e → h.get? b = some u → h'.get? b = some u) (heo : ∃ u, h'.get? e = some u)
    (new : ObjOk P w (upd H x o') h' x o') : HOk P w (upd H x o') h' := fun b u q => by
  have nown : ∀ c y, H c = some (.own y) → c ≠ x := fun c y r z => by subst z; rw [r] at mu; exact mu
  have ntup : ∀ c xs, H c = some (.tup xs) → c ≠ x := fun c xs r z => by subst z; rw [r] at mu; exact mu
  by_cases hb : b = x
  · subst hb; rw [upd_same] at q; cases q; exact new
  · rw [upd_ne hb] at q
    by_cases hbe : b = e
    · have q' : H b = some (.own x) := by
        rcases he with z | z
        · exact absurd (hbe.trans z) hb
        · rw [hbe]; exact z
      rw [q] at q'; cases q'
      obtain ⟨v, hv⟩ := heo
      exact ⟨v, by rw [hbe]; exact hv⟩
    · refine (ok b u q).stay (fun c v hc r => k c v ?_ r) (fun c r => by rw [upd_ne (nown c b r)]; exact r) fun c xs r => by rw [upd_ne (ntup c xs r)]; exact r
      rcases hc with rfl | hc
      · exact hbe
      · rintro rfl
        rcases he with z | z
        · exact nown c b hc z
        · rw [hc] at z; cases z; exact hb rfl
end
structure Un (fs ex : List Addr) (H H' : Hp) (h h' : Heap) : Prop where
  keep : ∀ b o, h.get? b = some o → H b = none → b ∉ fs → b ∉ ex → h'.get? b = some o
  slot : ∀ b o, h.get? b = some o → H b = none → b ∈ fs → b ∉ ex → ∃ sl, h'.get? b = some { o with slots := sl }
  free : ∀ b o, h.get? b = some o → H b = none → b ∉ ex → H' b = none
  there : ∀ b o, h.get? b = some o → b ∉ ex → ∃ o', h'.get? b = some o'
  tups : ∀ b xs, H b = some (.tup xs) → H' b = some (.tup xs)
  frzs : ∀ b o u, H b = some (.frz o u) → H' b = some (.frz o u)
  tbls : ∀ b ps, H b = some (.tbl ps) → ∃ more, H' b = some (.tbl (ps ++ more))
section
variable {fs fs' ex ex' : List Addr} {H H1 H2 : Hp} {h h1 h2 h' : Heap} {a x e : Addr} {o : HO}
theorem Un.any (u : Un fs ex H H1 h h1) {b : Addr} {ob : Obj} (q : h.get? b = some ob) (n : H b = none) (hx : b ∉ ex) : ∃ sl, h1.get? b = some { ob with slots := sl } := by
  by_cases hb : b ∈ fs
  · exact u.slot b ob q n hb hx
  · exact ⟨ob.slots, u.keep b ob q n hb hx⟩
theorem Un.trans (a : Un fs ex H H1 h h1) (b : Un fs ex H1 H2 h1 h2) : Un fs ex H H2 h h2 where
  keep := fun c ob q n hc hx => b.keep c ob (a.keep c ob q n hc hx) (a.free c ob q n hx) hc hx
  slot := fun c ob q n hc hx => by
    obtain ⟨sl, e1⟩ := a.slot c ob q n hc hx
    obtain ⟨sl', e2⟩ := b.slot c _ e1 (a.free c ob q n hx) hc hx
    exact ⟨sl', e2⟩
  free := fun c ob q n hx => by
    obtain ⟨o', e1⟩ := a.there c ob q hx
    exact b.free c o' e1 (a.free c ob q n hx) hx
  there := fun c ob q hx => by
    obtain ⟨o', e1⟩ := a.there c ob q hx
    exact b.there c o' e1 hx
  tups := fun c xs q => b.tups c xs (a.tups c xs q)
  frzs := fun c ob xs q => b.frzs c ob xs (a.frzs c ob xs q)
  tbls := fun c ps q => by
    obtain ⟨m1, e1⟩ := a.tbls c ps q
    obtain ⟨m2, e2⟩ := b.tbls c _ e1
    exact ⟨m1 ++ m2, by rw [e2, Array.append_assoc]⟩
theorem Un.kept (k : ∀ b u, h.get? b = some u → h'.get? b = some u) : Un fs ex H H h h' :=
  ⟨fun b ob q _ _ _ => k b ob q, fun b ob q _ _ _ => ⟨ob.slots, k b ob q⟩, fun _ _ _ n _ => n, fun b ob q _ => ⟨ob, k b ob q⟩, fun _ _ q => q, fun _ _ _ q => q, fun _ ps q => ⟨#[], by rw [q]; simp⟩⟩
theorem Un.refl : Un fs ex H H h h := Un.kept fun _ _ q => q
theorem Un.laid (k : ∀ b u, h.get? b = some u → h'.get? b = some u) (hp : h.objs.size ≤ a) (hn : H a = none) : Un fs ex H (upd H a o) h h' where
  keep := fun b u q _ _ _ => k b u q
  slot := fun b u q _ _ _ => ⟨u.slots, k b u q⟩
  free := fun b u q n _ => by rw [upd_ne (Nat.ne_of_lt (Nat.lt_of_lt_of_le (Heap.lt_size q) hp))]; exact n
  there := fun b u q _ => ⟨u, k b u q⟩
  tups := fun b xs q => by rw [upd_ne (ne_of_none q hn)]; exact q
  frzs := fun b u xs q => by rw [upd_ne (ne_of_none q hn)]; exact q
  tbls := fun b ps q => ⟨#[], by rw [upd_ne (ne_of_none q hn), q]; simp⟩
theorem Un.write (mu : Mut (H x)) (he : e = x ∨ H e = some (.own x)) (k : ∀ b u, b ≠ e → h.get? b = some u → h'.get? b = some u) (heo : ∃ u, h'.get? e = some u) : Un fs ex H (upd H x o) h h' := by
  have hx : ∀ b, H b = none → b ≠ x := fun b n z => by subst z; rw [n] at mu; exact mu
  have hb : ∀ b, H b = none → b ≠ e := fun b n z => by
    subst z
    rcases he with r | r
    · exact hx b n r
    · rw [n] at r; cases r
  have hm : ∀ b u, H b = some u → ¬ Mut (some u) → b ≠ x := fun b u q nm z => by subst z; rw [q] at mu; exact nm mu
  refine ⟨fun b u q n _ _ => k b u (hb b n) q, fun b u q n _ _ => ⟨u.slots, k b u (hb b n) q⟩, fun b u q n _ => by rw [upd_ne (hx b n)]; exact n, fun b u q _ => ?_,
    fun b xs q => by rw [upd_ne (hm b _ q fun z => z)]; exact q, fun b u xs q => by rw [upd_ne (hm b _ q fun z => z)]; exact q, fun b ps q => ⟨#[], by rw [upd_ne (hm b _ q fun z => z), q]; simp⟩⟩
  by_cases hbe : b = e
  · subst hbe; exact heo
  · exact ⟨u, k b u hbe q⟩
theorem Un.mono (u : Un fs ex H H1 h h1) (hs : ∀ b ∈ fs, b ∈ fs') (hx : ∀ b ∈ ex, b ∈ ex') : Un fs' ex' H H1 h h1 :=
  ⟨fun b ob q n hb he => u.keep b ob q n (fun z => hb (hs b z)) fun z => he (hx b z), fun _ _ q n _ he => u.any q n fun z => he (hx _ z), fun b ob q n he => u.free b ob q n fun z => he (hx b z), fun b ob q he => u.there b ob q fun z => he (hx b z), u.tups, u.frzs, u.tbls⟩
end
def trk (h : Heap) (H : Hp) : List Addr := (List.range h.objs.size).filter fun a => (H a).isSome
def hidT (h : Heap) (H : Hp) : Heap := PySem.W.hideAll h (trk h H)
theorem hidT_size (h : Heap) (H : Hp) : (hidT h H).objs.size = h.objs.size := PySem.W.hideAll_size _ _
theorem hidT_get {h : Heap} {H : Hp} {b : Addr} {o : Obj} (e : h.get? b = some o) (n : H b = none) : (hidT h H).get? b = some o :=
  PySem.W.hideAll_get _ e fun hm => by
    have q : (H b).isSome = true := (List.mem_filter.mp hm).2
    rw [n] at q; simp at q
theorem of_hidT {h : Heap} {H : Hp} {b : Addr} {o : Obj} (e : (hidT h H).get? b = some o) : h.get? b = some o ∧ H b = none := by
  have e' : h.get? b = some o := PySem.W.of_hideAll (trk h H) e
  refine ⟨e', ?_⟩
  cases q : H b with
  | none => rfl
  | some x =>
    have hm : b ∈ trk h H := List.mem_filter.mpr ⟨List.mem_range.mpr (Heap.lt_size e'), by simp [q]⟩
    have z : (hidT h H).get? b = none := PySem.W.hideAll_none (trk h H) hm
    rw [z] at e; cases e
def allNews (g h : Heap) (L : Addr) : List (Addr × Obj) := (List.range h.objs.size).filterMap fun a => if a = L ∨ (g.get? a).isSome = true then none else (h.get? a).map fun o => (a, o)
def rest (g h : Heap) (L d : Addr) : List (Addr × Obj) := (allNews g h L).filter fun p => decide (p.1 ≠ d)
end L2
namespace L2
open PySem PySem.Spec PyProof.Rows
structure Mod (K : PySem.W.Frag) (mg : Str → Option Value) (base : Heap) : Prop where
  kin : K.In base
  glob : base.Ns mainGlobals mg
  blt : ∃ mb, base.Ns builtinsNs mb ∧ ∀ x : Str, x ≠ "__name__" → mb x = bootBuiltins x
  nolimit : base.NoLimit
structure Cx where
  prog : Program
  w : World
  K : PySem.W.Frag
  mg : Str → Option Value
  base : Heap
  A : Around
  N : List Str
  s₀ : Shared
  H₀ : Hp
  env : Env
  outer : List Env
  stack : List Env
  ex : List Addr
  fn : Str → Bool
  calm : Bool
  pn : List (Addr × Obj)
  xe : Value → Shared → Prop
def frs (l : List Env) : List Addr := l.filterMap (·.frame)
abbrev Cx.fs (X : Cx) : List Addr := frs X.outer
def Vis (sc : Scope) (x : Str) : Prop := sc.names.lookup x = some .local ∨ sc.names.lookup x = some .cell ∨ sc.names.lookup x = some .free
def Loc (sc : Scope) (x : Str) : Prop := sc.names.lookup x = some .local ∨ sc.names.lookup x = some .cell
def Look (env : Env) (h : Heap) (m : Str → Option Value) (x : Str) (u : Value) : Prop :=
  (env.kindOf x = some .local ∧ m x = some u) ∨ ((env.kindOf x = some .cell ∨ env.kindOf x = some .free) ∧ ∃ c, env.cells.lookup x = some c ∧ h.IsCell c (some u))
structure Cx.Ok (X : Cx) : Prop where
  mod : Mod X.K X.mg X.base
  kind : X.env.scope.kind = .function
  glob : X.env.globals = mainGlobals
  blt : X.env.builtins = builtinsNs
  above : X.s₀.heap.objs.size ≤ X.env.locals
  inj : ∀ x y c, X.env.cells.lookup x = some c → X.env.cells.lookup y = some c → x = y
  has : ∀ x, (X.env.kindOf x = some .cell ∨ X.env.kindOf x = some .free) → ∃ c, X.env.cells.lookup x = some c
  cab : ∀ x c, X.fn x = true → X.env.cells.lookup x = some c → X.s₀.heap.objs.size ≤ c
  hd : X.calm = true → X.A.handled = none
  frames : X.A.frames = some X.stack
  stk : X.stack = X.outer ∨ (X.stack = X.env :: X.outer ∧ X.env.frame = some X.env.locals)
  exf : ∀ b ∈ X.ex, b ≠ X.env.locals ∧ ∀ x c, X.env.cells.lookup x = some c → c ≠ b
  bs : ∀ b o, X.base.get? b = some o → X.s₀.heap.get? b = some o ∧ X.H₀ b = none
  bsz : X.base.objs.size ≤ X.s₀.heap.objs.size
  noex : ∀ b o, X.base.get? b = some o → b ∉ X.ex
  exfs : ∀ b ∈ X.ex, b ∉ X.fs
  funs : X.s₀.heap.FunFrames X.base X.outer
  frf : ∀ b ∈ X.fs, X.H₀ b = none
structure Inv (X : Cx) (pins : List (Addr × Obj)) (σ : List (Option V)) (H : Hp) (s : Shared) : Prop where
  ok : X.Ok
  os : s.os = X.s₀.os
  bare : AllBare s.gens
  base : Un X.fs X.ex X.H₀ H X.s₀.heap s.heap
  loc : ∃ m, s.heap.Ns X.env.locals m ∧ ∀ (i : Nat) (x : Str) (v : V), X.N[i]? = some x → σ[i]? = some (some v) → Vis X.env.scope x → ∃ u, RelV v u ∧ Look X.env s.heap m x u
  cell : ∀ x c, X.env.cells.lookup x = some c → ∃ v, s.heap.IsCell c v
  free : H X.env.locals = none
  freeC : ∀ x c, X.env.cells.lookup x = some c → H c = none
  pin : ∀ p ∈ X.pn ++ pins, s.heap.get? p.1 = some p.2 ∧ H p.1 = none ∧ p.1 ≠ X.env.locals ∧ p.1 ∉ X.fs ∧ ∀ v, p.2.data ≠ .cell v
  hok : HOk X.prog X.w H s.heap
  len : σ.length = X.N.length
section
variable {X : Cx} {pins : List (Addr × Obj)} {σ : List (Option V)} {H H' : Hp} {s : Shared} {h' : Heap}
theorem Cx.Ok.nofr (ok : X.Ok) {b : Addr} {o : Obj} (e : X.base.get? b = some o) : b ∉ X.fs := fun hb => by
  have := (ok.funs.mem hb).1
  rw [e] at this; cases this
theorem Inv.bs (I : Inv X pins σ H s) : ∀ b o, X.base.get? b = some o → s.heap.get? b = some o ∧ H b = none := fun b o e =>
  ⟨I.base.keep b o (I.ok.bs b o e).1 (I.ok.bs b o e).2 (I.ok.nofr e) (I.ok.noex b o e), I.base.free b o (I.ok.bs b o e).1 (I.ok.bs b o e).2 (I.ok.noex b o e)⟩
theorem Inv.bk (I : Inv X pins σ H s) : ∀ b o, X.base.get? b = some o → s.heap.get? b = some o := fun b o e => (I.bs b o e).1
theorem Inv.mod (I : Inv X pins σ H s) : Mod X.K X.mg X.base := I.ok.mod
theorem Inv.kIn (I : Inv X pins σ H s) : X.K.In s.heap := I.ok.mod.kin.keeps I.bk
theorem Inv.nolimit (I : Inv X pins σ H s) : s.heap.NoLimit := I.ok.mod.nolimit.keeps I.bk
theorem Inv.lt (I : Inv X pins σ H s) : X.env.locals < s.heap.objs.size := let ⟨_, hn, _⟩ := I.loc; hn.lt
theorem Inv.sz (I : Inv X pins σ H s) : X.s₀.heap.objs.size ≤ s.heap.objs.size := Nat.le_trans I.ok.above (Nat.le_of_lt I.lt)
theorem Inv.nofs (I : Inv X pins σ H s) {a : Addr} (h : s.heap.objs.size ≤ a) : a ∉ X.fs := fun hb => by
  obtain ⟨_, o, ho, _⟩ := I.ok.funs.mem hb
  exact absurd (Nat.lt_of_lt_of_le (Heap.lt_size ho) (Nat.le_trans I.sz h)) (Nat.lt_irrefl _)
theorem Inv.cne (I : Inv X pins σ H s) : ∀ x c, X.env.cells.lookup x = some c → c ≠ X.env.locals := fun x c e z => by
  obtain ⟨v, o, ho, hd⟩ := I.cell x c e
  obtain ⟨m, ⟨o', es, ep, ho', hd', _⟩, _⟩ := I.loc
  rw [z, ho'] at ho; cases ho; rw [hd'] at hd; cases hd
theorem Inv.funs (I : Inv X pins σ H s) : s.heap.FunFrames X.base X.outer := by
  have all : ∀ (l : List Env), (∀ b ∈ frs l, b ∈ X.fs) → X.s₀.heap.FunFrames X.base l → s.heap.FunFrames X.base l := by
    intro l
    induction l with
    | nil => intro _ _; trivial
    | cons env r ih =>
      intro hs hl
      obtain ⟨hk, ⟨L, o, hf, hn, ho, hd⟩, hr⟩ := hl
      have hL : L ∈ X.fs := hs L (by unfold frs; rw [List.filterMap_cons, hf]; exact List.mem_cons_self)
      obtain ⟨sl, e⟩ := I.base.slot L o ho (I.ok.frf L hL) hL fun z => I.ok.exfs L z hL
      exact ⟨hk, ⟨L, _, hf, hn, e, hd⟩, ih (fun b hb => hs b (by unfold frs; rw [List.filterMap_cons, hf]; exact List.mem_cons_of_mem _ hb)) hr⟩
  exact all X.outer (fun _ hb => hb) I.ok.funs
theorem Inv.stack (I : Inv X pins σ H s) : s.heap.FunFrames X.base X.stack := by
  rcases I.ok.stk with e | ⟨e, hf⟩
  · rw [e]; exact I.funs
  · rw [e]
    obtain ⟨m, hn, _⟩ := I.loc
    refine .cons (by rw [I.ok.kind]; decide) hf hn ?_ I.funs
    exact Heap.get?_none_of_le (Nat.le_trans I.ok.bsz I.ok.above)
theorem Inv.stkSub (I : Inv X pins σ H s) : ∀ b ∈ frs X.stack, b ∈ X.env.locals :: X.fs := fun b hb => by
  rcases I.ok.stk with e | ⟨e, hf⟩
  · rw [e] at hb; exact List.mem_cons_of_mem _ hb
  · rw [e] at hb
    unfold frs at hb
    rw [List.filterMap_cons, hf] at hb
    exact hb
theorem Inv.stkFree (I : Inv X pins σ H s) : ∀ b ∈ frs X.stack, H b = none := fun b hb => by
  rcases List.mem_cons.mp (I.stkSub b hb) with e | hb
  · rw [e]; exact I.free
  · obtain ⟨_, o, ho, _⟩ := I.ok.funs.mem hb
    exact I.base.free b o ho (I.ok.frf b hb) fun z => I.ok.exfs b z hb
theorem Inv.step {g' : Array GenState} {t' : Nat} {d' : Drawn} {ch : List Addr} (I : Inv X pins σ H s)
    (hch : ∀ b ∈ ch, (b ∈ X.ex ∨ X.s₀.heap.objs.size ≤ b) ∧ b ≠ X.env.locals ∧ (∀ x c, X.env.cells.lookup x = some c → c ≠ b) ∧ ∀ p ∈ X.pn ++ pins, p.1 ≠ b)
    (keep : ∀ b o, b ≠ X.env.locals → b ∉ X.fs → b ∉ ch → s.heap.get? b = some o → H b = none → h'.get? b = some o)
    (slot : ∀ b o, b ≠ X.env.locals → b ∈ X.fs → b ∉ ch → s.heap.get? b = some o → H b = none → ∃ sl, h'.get? b = some { o with slots := sl }) (free : ∀ b o, b ∉ ch → s.heap.get? b = some o → H b = none → H' b = none)
    (there : ∀ b o, b ∉ ch → s.heap.get? b = some o → ∃ o', h'.get? b = some o')
    (tups : ∀ b xs, H b = some (.tup xs) → H' b = some (.tup xs)) (frzs : ∀ b o u, H b = some (.frz o u) → H' b = some (.frz o u)) (tbls : ∀ b ps, H b = some (.tbl ps) → ∃ more, H' b = some (.tbl (ps ++ more)))
    (ns : ∀ m, s.heap.Ns X.env.locals m → h'.Ns X.env.locals m) (hok : HOk X.prog X.w H' h') (hg : AllBare g') :
    Inv X pins σ H' { s with heap := h', gens := g', drawn := d', toks := t' } := by
  have neL : ∀ b o, X.s₀.heap.get? b = some o → b ≠ X.env.locals := fun b o e => Nat.ne_of_lt (Nat.lt_of_lt_of_le (Heap.lt_size e) I.ok.above)
  have neC : ∀ b o, X.s₀.heap.get? b = some o → b ∉ X.ex → b ∉ ch := fun b o e hx hb => by
    rcases (hch b hb).1 with z | z
    · exact hx z
    · exact absurd (Nat.lt_of_lt_of_le (Heap.lt_size e) z) (Nat.lt_irrefl _)
  have cellK : ∀ x c, X.env.cells.lookup x = some c → ∀ v, s.heap.IsCell c v → h'.IsCell c v := fun x c e v ⟨o, ho, hd⟩ => by
    have nch : c ∉ ch := fun z => (hch c z).2.2.1 x c e rfl
    by_cases hc : c ∈ X.fs
    · obtain ⟨sl, q⟩ := slot c o (I.cne x c e) hc nch ho (I.freeC x c e)
      exact ⟨_, q, hd⟩
    · exact ⟨o, keep c o (I.cne x c e) hc nch ho (I.freeC x c e), hd⟩
  refine ⟨I.ok, I.os, hg, ⟨fun b o e n hb hx => ?_, fun b o e n hb hx => ?_, fun b o e n hx => ?_, fun b o e hx => ?_, fun b xs e => tups b xs (I.base.tups b xs e), fun b o xs e => frzs b o xs (I.base.frzs b o xs e), fun b ps e => ?_⟩, ?_, fun x c e => ?_, ?_, fun x c e => ?_, fun p hp => ?_, hok, I.len⟩
  · exact keep b o (neL b o e) hb (neC b o e hx) (I.base.keep b o e n hb hx) (I.base.free b o e n hx)
  · obtain ⟨sl, e1⟩ := I.base.slot b o e n hb hx
    obtain ⟨sl', e2⟩ := slot b _ (neL b o e) hb (neC b o e hx) e1 (I.base.free b o e n hx)
    exact ⟨sl', e2⟩
  · obtain ⟨o', e1⟩ := I.base.there b o e hx
    exact free b o' (neC b o e hx) e1 (I.base.free b o e n hx)
  · obtain ⟨o', e1⟩ := I.base.there b o e hx
    exact there b o' (neC b o e hx) e1
  · obtain ⟨m1, e1⟩ := I.base.tbls b ps e
    obtain ⟨m2, e2⟩ := tbls b _ e1
    exact ⟨m1 ++ m2, by rw [e2, Array.append_assoc]⟩
  · obtain ⟨m, hn, hl⟩ := I.loc
    refine ⟨m, ns m hn, fun i x v e1 e2 e3 => ?_⟩
    obtain ⟨u, r, l⟩ := hl i x v e1 e2 e3
    refine ⟨u, r, ?_⟩
    rcases l with l | ⟨k, c, e, z⟩
    · exact .inl l
    · exact .inr ⟨k, c, e, cellK x c e _ z⟩
  · obtain ⟨v, z⟩ := I.cell x c e
    exact ⟨v, cellK x c e v z⟩
  · obtain ⟨m, ⟨o, _, _, ho, _⟩, _⟩ := I.loc
    exact free _ o (fun z => (hch _ z).2.1 rfl) ho I.free
  · obtain ⟨v, o, ho, hd⟩ := I.cell x c e
    exact free c o (fun z => (hch c z).2.2.1 x c e rfl) ho (I.freeC x c e)
  · obtain ⟨e, n, ne, nf, d⟩ := I.pin p hp
    have nch : p.1 ∉ ch := fun z => (hch p.1 z).2.2.2 p hp rfl
    exact ⟨keep p.1 p.2 ne nf nch e n, free p.1 p.2 nch e n, ne, nf, d⟩
theorem Inv.un {t' : Nat} (I : Inv X pins σ H s) (u : Un X.fs [] H H' s.heap h') (hok : HOk X.prog X.w H' h') : Inv X pins σ H' { s with heap := h', toks := t' } := by
  obtain ⟨m, ⟨o, es, ep, ho, r⟩, _⟩ := id I.loc
  obtain ⟨sl, hL⟩ := u.any ho I.free (by simp)
  exact I.step (g' := s.gens) (d' := s.drawn) (ch := []) (fun _ z => nomatch z) (fun b o _ hb _ e n => u.keep b o e n hb (by simp)) (fun b o _ hb _ e n => u.slot b o e n hb (by simp)) (fun b o _ e n => u.free b o e n (by simp)) (fun b o _ e => u.there b o e (by simp)) u.tups u.frzs u.tbls (fun m' hm => by
    obtain ⟨o', es', ep', ho', r'⟩ := hm
    rw [ho] at ho'; cases ho'
    exact ⟨_, es', ep', hL, r'⟩) hok I.bare
theorem Inv.call {g' : Array GenState} {t' : Nat} {d' : Drawn} {ch : List Addr} (I : Inv X pins σ H s) (u : Un (frs X.stack) ch H H' s.heap h') (hok : HOk X.prog X.w H' h') (hg : AllBare g')
    (hch : ∀ b ∈ ch, (b ∈ X.ex ∨ X.s₀.heap.objs.size ≤ b) ∧ b ≠ X.env.locals ∧ (∀ x c, X.env.cells.lookup x = some c → c ≠ b) ∧ ∀ p ∈ X.pn ++ pins, p.1 ≠ b) :
    Inv X pins σ H' { s with heap := h', gens := g', drawn := d', toks := t' } := by
  obtain ⟨m, ⟨o, es, ep, ho, r⟩, _⟩ := id I.loc
  obtain ⟨sl, hL⟩ := u.any ho I.free fun z => (hch _ z).2.1 rfl
  exact I.step (ch := ch) hch (fun b o hL hb hc e n => u.keep b o e n (fun z => (List.mem_cons.mp (I.stkSub b z)).elim hL hb) hc) (fun b o _ _ hc e n => u.any e n hc) (fun b o hc e n => u.free b o e n hc) (fun b o hc e => u.there b o e hc) u.tups u.frzs u.tbls (fun m' hm => by
    obtain ⟨o', es', ep', ho', r'⟩ := hm
    rw [ho] at ho'; cases ho'
    exact ⟨_, es', ep', hL, r'⟩) hok hg
theorem Inv.turned {t' : Nat} {it : Addr} (I : Inv X pins σ H s) (k : ∀ b o, b ≠ it → s.heap.get? b = some o → h'.get? b = some o) (hn : H it = none) (hL : it ≠ X.env.locals)
    (h1 : it ∈ X.ex ∨ X.s₀.heap.objs.size ≤ it) (h2 : ∀ x c, X.env.cells.lookup x = some c → c ≠ it) (h3 : ∀ p ∈ X.pn ++ pins, p.1 ≠ it) : Inv X pins σ H { s with heap := h', toks := t' } := by
  have nit : ∀ b u, H b = some u → b ≠ it := fun b u e z => by rw [z, hn] at e; cases e
  refine I.step (g' := s.gens) (d' := s.drawn) (ch := [it]) (fun b hb => ?_) (fun b o _ _ hc e _ => k b o (fun z => hc (by simp [z])) e) (fun b o _ _ hc e _ => ⟨o.slots, k b o (fun z => hc (by simp [z])) e⟩) (fun _ _ _ _ n => n)
    (fun b o hc e => ⟨o, k b o (fun z => hc (by simp [z])) e⟩) (fun _ _ e => e) (fun _ _ _ e => e) (fun b ps e => ⟨#[], by rw [e]; simp⟩) (fun m hm => ?_) (fun b u e => ?_) I.bare
  · have e : b = it := by simpa using hb
    subst e
    exact ⟨h1, hL, h2, h3⟩
  · obtain ⟨o, es, ep, ho, r⟩ := hm
    exact ⟨o, es, ep, k _ o (Ne.symm hL) ho, r⟩
  · refine (I.hok b u e).stay (fun c v hc q => k c v ?_ q) (fun _ q => q) fun _ _ q => q
    rcases hc with z | z
    · rw [z]; exact nit b u e
    · exact nit c _ z
theorem Inv.tok (I : Inv X pins σ H s) (t : Nat) : Inv X pins σ H { s with toks := t } := I.un (h' := s.heap) (t' := t) Un.refl I.hok
theorem Inv.kept {t' : Nat} (I : Inv X pins σ H s) (k : ∀ b u, s.heap.get? b = some u → h'.get? b = some u) : Inv X pins σ H { s with heap := h', toks := t' } := I.un (Un.kept k) (I.hok.kept k)
theorem Inv.laid {a : Addr} {o : HO} {t' : Nat} (I : Inv X pins σ H s) (k : ∀ b u, s.heap.get? b = some u → h'.get? b = some u) (hp : s.heap.objs.size ≤ a) (new : ObjOk X.prog X.w (upd H a o) h' a o) :
    Inv X pins σ (upd H a o) { s with heap := h', toks := t' } := I.un (Un.laid k hp (I.hok.fresh hp)) (I.hok.laid k hp new)
theorem Inv.write {x e : Addr} {o : HO} {t' : Nat} (I : Inv X pins σ H s) (mu : Mut (H x)) (he : e = x ∨ H e = some (.own x)) (k : ∀ b u, b ≠ e → s.heap.get? b = some u → h'.get? b = some u) (heo : ∃ u, h'.get? e = some u)
    (new : ObjOk X.prog X.w (upd H x o) h' x o) : Inv X pins σ (upd H x o) { s with heap := h', toks := t' } := I.un (Un.write mu he k heo) (I.hok.write mu he k heo new)
theorem Inv.pins_of {pins' : List (Addr × Obj)} (I : Inv X pins σ H s) (h : ∀ p ∈ pins', s.heap.get? p.1 = some p.2 ∧ H p.1 = none ∧ p.1 ≠ X.env.locals ∧ p.1 ∉ X.fs ∧ ∀ v, p.2.data ≠ .cell v) : Inv X pins' σ H s :=
  ⟨I.ok, I.os, I.bare, I.base, I.loc, I.cell, I.free, I.freeC, fun p hp => (List.mem_append.mp hp).elim (fun z => I.pin p (List.mem_append_left _ z)) (h p), I.hok, I.len⟩
theorem nodup_ix {N : List Str} (hN : N.Nodup) {i j : Nat} {x : Str} (a : N[i]? = some x) (b : N[j]? = some x) : i = j := by
  obtain ⟨h1, e1⟩ := List.getElem?_eq_some_iff.mp a
  obtain ⟨h2, e2⟩ := List.getElem?_eq_some_iff.mp b
  exact (List.getElem_inj hN).mp (e1.trans e2.symm)
theorem store_ok2 {M : Model} {A : Around} {E : Value → Shared → Prop} {i : Nat} {x : Str} {v : V} {u : Value} {Q : Unit → Shared → Prop} (I : Inv X pins σ H s) (hN : X.N.Nodup) (hi : X.N[i]? = some x) (hx : Loc X.env.scope x) (r : RelV v u)
    (h : ∀ s', Inv X pins (σ.set i (some v)) H s' → (∃ a, Heap.SameBut a s.heap s'.heap ∧ (a = X.env.locals ∨ X.env.cells.lookup x = some a)) → Q () s') (hf : X.fn x = true ∨ X.env.scope.names.lookup x = some .local := by first | exact .inl rfl | exact .inr rfl | assumption) : wpAny M A (storeName X.env x u) Q E s := by
  obtain ⟨m, hn, hl⟩ := id I.loc
  have hcls : (X.env.scope.kind == .class || (X.env.scope.kind == .module && X.env.locals != X.env.globals)) = false := by rw [I.ok.kind]; rfl
  have hiσ : i < σ.length := by rw [I.len]; exact (List.getElem?_eq_some_iff.mp hi).1
  have cne := I.cne
  have tracked : ∀ {a : Addr} {h' : Heap}, (∃ o, s.heap.get? a = some o ∧ H a = none) → Heap.SameBut a s.heap h' → HOk X.prog X.w H h' := fun {a h'} ha hs b ob e => by
    obtain ⟨_, _, hfree⟩ := ha
    refine (I.hok b ob e).stay (fun c w' hc q => (hs.2 c ?_).trans q) (fun _ q => q) fun _ _ q => q
    rintro rfl
    rcases hc with rfl | hc
    · rw [hfree] at e; cases e
    · rw [hfree] at hc; cases hc
  rcases hx with hk | hk
  · refine wpAny_storeName_local hk hn (fun h' hn' hs => ?_) hcls
    obtain ⟨oL, _, _, hoL, _⟩ := id hn
    refine h _ ⟨I.ok, I.os, I.bare, ⟨fun b o e n hb hx => ?_, fun b o e n hb hx => ?_, I.base.free, fun b o e hx => ?_, I.base.tups, I.base.frzs, I.base.tbls⟩, ⟨_, hn', fun j y v' e1 e2 e3 => ?_⟩, fun y c e => ?_, I.free, I.freeC, fun p hp => ?_, tracked ⟨oL, hoL, I.free⟩ hs, by simpa using I.len⟩ ⟨_, hs, .inl rfl⟩
    · exact (hs.2 b (Nat.ne_of_lt (Nat.lt_of_lt_of_le (Heap.lt_size e) I.ok.above))).trans (I.base.keep b o e n hb hx)
    · obtain ⟨sl, e1⟩ := I.base.slot b o e n hb hx
      exact ⟨sl, (hs.2 b (Nat.ne_of_lt (Nat.lt_of_lt_of_le (Heap.lt_size e) I.ok.above))).trans e1⟩
    · obtain ⟨o', e1⟩ := I.base.there b o e hx
      exact ⟨o', (hs.2 b (Nat.ne_of_lt (Nat.lt_of_lt_of_le (Heap.lt_size e) I.ok.above))).trans e1⟩
    · by_cases hj : j = i
      · subst hj
        rw [hi] at e1; cases e1
        rw [List.getElem?_set_self hiσ] at e2
        cases e2
        exact ⟨u, r, .inl ⟨hk, by simp⟩⟩
      · rw [List.getElem?_set_ne (Ne.symm hj)] at e2
        obtain ⟨u', r', q⟩ := hl j y v' e1 e2 e3
        refine ⟨u', r', ?_⟩
        rcases q with ⟨k, e⟩ | ⟨k, c, e, z⟩
        · refine .inl ⟨k, ?_⟩
          have : y ≠ x := fun e => hj (nodup_ix hN e1 (e ▸ hi))
          simp [this, e]
        · exact .inr ⟨k, c, e, z.sameBut hs (cne y c e)⟩
    · obtain ⟨w', z⟩ := I.cell y c e
      exact ⟨w', z.sameBut hs (cne y c e)⟩
    · obtain ⟨e, n, ne, nf, d⟩ := I.pin p hp
      exact ⟨(hs.2 p.1 ne).trans e, n, ne, nf, d⟩
  · have hfn : X.fn x = true := by
      rcases hf with z | z
      · exact z
      · rw [z] at hk; cases hk
    obtain ⟨c, hc⟩ := I.ok.has x (.inl hk)
    obtain ⟨w', z⟩ := I.cell x c hc
    refine wpAny_storeName_cell I.ok.kind hk hc z (fun h' hc' hs => ?_)
    obtain ⟨oc, hoc, hocd⟩ := id z
    refine h { s with heap := h' } ⟨I.ok, I.os, I.bare, ⟨fun b o e n hb hx => ?_, fun b o e n hb hx => ?_, I.base.free, fun b o e hx => ?_, I.base.tups, I.base.frzs, I.base.tbls⟩, ⟨m, hn.sameBut hs (Ne.symm (cne x c hc)), fun j y v' e1 e2 e3 => ?_⟩, fun y c' e => ?_, I.free, I.freeC, fun p hp => ?_, tracked ⟨oc, hoc, I.freeC x c hc⟩ hs, by simpa using I.len⟩ ⟨c, hs, .inr hc⟩
    · exact (hs.2 b (Nat.ne_of_lt (Nat.lt_of_lt_of_le (Heap.lt_size e) (I.ok.cab x c hfn hc)))).trans (I.base.keep b o e n hb hx)
    · obtain ⟨sl, e1⟩ := I.base.slot b o e n hb hx
      exact ⟨sl, (hs.2 b (Nat.ne_of_lt (Nat.lt_of_lt_of_le (Heap.lt_size e) (I.ok.cab x c hfn hc)))).trans e1⟩
    · obtain ⟨o', e1⟩ := I.base.there b o e hx
      exact ⟨o', (hs.2 b (Nat.ne_of_lt (Nat.lt_of_lt_of_le (Heap.lt_size e) (I.ok.cab x c hfn hc)))).trans e1⟩
    · by_cases hj : j = i
      · subst hj
        rw [hi] at e1; cases e1
        rw [List.getElem?_set_self hiσ] at e2
        cases e2
        exact ⟨u, r, .inr ⟨.inl hk, c, hc, hc'⟩⟩
      · rw [List.getElem?_set_ne (Ne.symm hj)] at e2
        obtain ⟨u', r', q⟩ := hl j y v' e1 e2 e3
        refine ⟨u', r', ?_⟩
        rcases q with q | ⟨k, c', e, z'⟩
        · exact .inl q
        · refine .inr ⟨k, c', e, z'.sameBut hs ?_⟩
          rintro rfl
          exact hj (nodup_ix hN e1 (I.ok.inj _ _ _ e hc ▸ hi))
    · by_cases hcc : c' = c
      · subst hcc; exact ⟨_, hc'⟩
      · obtain ⟨w2, z2⟩ := I.cell y c' e
        exact ⟨w2, z2.sameBut hs hcc⟩
    · obtain ⟨e, n, ne, nf, d⟩ := I.pin p hp
      refine ⟨(hs.2 p.1 ?_).trans e, n, ne, nf, d⟩
      intro q
      rw [q, hoc] at e
      have q' : oc = p.2 := Option.some.inj e
      exact d w' (by rw [← q']; exact hocd)
theorem store_ok {M : Model} {A : Around} {E : Value → Shared → Prop} {i : Nat} {x : Str} {v : V} {u : Value} {Q : Unit → Shared → Prop} (I : Inv X pins σ H s) (hN : X.N.Nodup) (hi : X.N[i]? = some x) (hx : Loc X.env.scope x) (r : RelV v u)
    (h : ∀ s', Inv X pins (σ.set i (some v)) H s' → Q () s') (hf : X.fn x = true ∨ X.env.scope.names.lookup x = some .local := by first | exact .inl rfl | exact .inr rfl | assumption) : wpAny M A (storeName X.env x u) Q E s :=
  store_ok2 I hN hi hx r (fun s' I' _ => h s' I') hf
theorem Inv.call' {s' : Shared} {ch : List Addr} (I : Inv X pins σ H s) (ho : s'.os = s.os) (u : Un (frs X.stack) ch H H' s.heap s'.heap) (hok : HOk X.prog X.w H' s'.heap) (hg : AllBare s'.gens)
    (hch : ∀ b ∈ ch, (b ∈ X.ex ∨ X.s₀.heap.objs.size ≤ b) ∧ b ≠ X.env.locals ∧ (∀ x c, X.env.cells.lookup x = some c → c ≠ b) ∧ ∀ p ∈ X.pn ++ pins, p.1 ≠ b) : Inv X pins σ H' s' := by
  obtain ⟨h', g', d', t', o'⟩ := s'
  have e : o' = s.os := ho
  subst e
  exact I.call (g' := g') (t' := t') (d' := d') u hok hg hch
end
abbrev XK := Value → Option Addr → Hp → Prop
abbrev St := List (Option V)
abbrev VK := V → Hp → Prop
abbrev TE := St → Hp → VK → Prop
abbrev TT := St → Hp → (Bool → Hp → Prop) → Prop
abbrev TA := St → Hp → (List V → Hp → Prop) → Prop
structure Ends where
  nx : St → Hp → Prop
  rt : VK
  bk : St → Hp → Prop := fun _ _ => False
  ct : St → Hp → Prop := fun _ _ => False
abbrev TS := Ends → St → Hp → Prop
def EP (X : Cx) (pins : List (Addr × Obj)) (σ : St) (Q : VK) (u : Value) (s' : Shared) : Prop := ∃ v H', Inv X pins σ H' s' ∧ RelV v u ∧ Q v H'
def TP (X : Cx) (pins : List (Addr × Obj)) (σ : St) (Q : Bool → Hp → Prop) (b : Bool) (s' : Shared) : Prop := ∃ H', Inv X pins σ H' s' ∧ Q b H'
def AP (X : Cx) (pins : List (Addr × Obj)) (σ : St) (Q : List V → Hp → Prop) (us : List Value) (s' : Shared) : Prop := ∃ vs H', Inv X pins σ H' s' ∧ Vals vs us ∧ Q vs H'
def SP (X : Cx) (pins : List (Addr × Obj)) (D : Ends) (f : Flow) (s' : Shared) : Prop :=
  match f with
  | .next => ∃ σ' H', Inv X pins σ' H' s' ∧ D.nx σ' H'
  | .brk => ∃ σ' H', Inv X pins σ' H' s' ∧ D.bk σ' H'
  | .cont => ∃ σ' H', Inv X pins σ' H' s' ∧ D.ct σ' H'
  | .ret u => ∃ v σ' H', Inv X pins σ' H' s' ∧ RelV v u ∧ D.rt v H'
def PE (X : Cx) (e : Expr) (t : TE) : Prop :=
  ∀ (pins : List (Addr × Obj)) (s : Shared) (σ : St) (H : Hp) (Q : VK), Inv X pins σ H s → t σ H Q → wpAny (model X.prog X.w) X.A (eval e X.env) (EP X pins σ Q) X.xe s
def PT (X : Cx) (e : Expr) (t : TT) : Prop :=
  ∀ (pins : List (Addr × Obj)) (s : Shared) (σ : St) (H : Hp) (Q : Bool → Hp → Prop), Inv X pins σ H s → t σ H Q → wpAny (model X.prog X.w) X.A (isTrue e X.env (eval e X.env)) (TP X pins σ Q) X.xe s
def PW (X : Cx) (e : Expr) (t : TT) : Prop :=
  ∀ (whole : Sem Value) (pins : List (Addr × Obj)) (s : Shared) (σ : St) (H : Hp) (Q : Bool → Hp → Prop), Inv X pins σ H s → t σ H Q → wpAny (model X.prog X.w) X.A (isTrue e X.env whole) (TP X pins σ Q) X.xe s
theorem PW.pt {X : Cx} {e : Expr} {t : TT} (h : PW X e t) : PT X e t := h _
def PA (X : Cx) (es : List Expr) (t : TA) : Prop :=
  ∀ (pos : Pos) (pins : List (Addr × Obj)) (s : Shared) (σ : St) (H : Hp) (Q : List V → Hp → Prop), Inv X pins σ H s → t σ H Q → wpAny (model X.prog X.w) X.A (spliced (backTo pos (starEach es X.env))) (AP X pins σ Q) X.xe s
def PS (X : Cx) (st : Stmt) (t : TS) : Prop :=
  ∀ (pins : List (Addr × Obj)) (s : Shared) (σ : St) (H : Hp) (D : Ends), Inv X pins σ H s → t D σ H → wpAny (model X.prog X.w) X.A (exec st X.env) (SP X pins D) X.xe s
def PSs (X : Cx) (st : List Stmt) (t : TS) : Prop :=
  ∀ (pins : List (Addr × Obj)) (s : Shared) (σ : St) (H : Hp) (D : Ends), Inv X pins σ H s → t D σ H → wpAny (model X.prog X.w) X.A (execs st X.env) (SP X pins D) X.xe s
theorem thn {α : Type} {t : Sem α} {Q Q' : α → Shared → Prop} {M : Model} {A : Around} {E : Value → Shared → Prop} {s : Shared} (h : wpAny M A t Q E s) (hQ : ∀ a s, Q a s → Q' a s) : wpAny M A t Q' E s := wpAny_mono h hQ fun _ _ x => x
end L2
namespace L2
open PySem PySem.Spec PyProof.Rows
section
variable {X : Cx}
def tVar (i : Nat) : TE := fun σ H Q => ∃ v, σ[i]? = some (some v) ∧ Q v H
def tC (v : V) : TE := fun _ H Q => Q v H
theorem pe_var {i : Nat} {x : Str} {pos : Pos} (hN : X.N[i]? = some x) (hv : Vis X.env.scope x) (hd : (x == ("__debug__" : Str)) = false := by decide) (hcd : (x == ("__classdict__" : Str)) = false := by decide) : PE X (.Name x pos) (tVar i) := by
  intro pins s σ H Q I h
  obtain ⟨v, e, h⟩ := h
  obtain ⟨m, hn, hl⟩ := I.loc
  obtain ⟨u, r, l⟩ := hl i x v hN e hv
  have fin : EP X pins σ Q u s := ⟨v, H, I, r, h⟩
  rcases l with ⟨hk, hm⟩ | ⟨hk, c, hc, hcell⟩
  · exact wpAny_Name (wpAny_loadName_local I.ok.kind hk hn hm fin) hd
  · rcases hk with hk | hk
    · exact wpAny_Name (wpAny_loadName_cell I.ok.kind hk hc hcell fin) hd
    · exact wpAny_Name (wpAny_loadName_free I.ok.kind hk hc hcell fin hcd) hd
theorem pe_int {i j pos} : PE X (.Constant (.int i) j pos) (tC (.int i)) := fun _ _ _ H _ I h => wpAny_Constant_int ⟨.int i, H, I.tok _, ⟨_, rfl⟩, h⟩
theorem pe_bl {b j pos} : PE X (.Constant (.bool b) j pos) (tC (.bl b)) := fun _ _ _ H _ I h => Constant_bool ⟨.bl b, H, I, rfl, h⟩
theorem pe_non {j pos} : PE X (.Constant .none j pos) (tC .non) := fun _ _ _ H _ I h => Constant_none ⟨.non, H, I, rfl, h⟩
theorem pe_str {x j pos} : PE X (.Constant (.str x) j pos) (tC (.str x)) := fun _ _ _ H _ I h => Calls.Constant_str ⟨.str x, H, I.tok _, ⟨_, rfl⟩, h⟩
def Gl (X : Cx) (x : Str) : Prop := X.env.kindOf x = some .globalImplicit
theorem ld_glob {E : Value → Shared → Prop} {pins : List (Addr × Obj)} {s : Shared} {σ : St} {H : Hp} {x : Str} {u : Value} {pos : Pos} {Q : Value → Shared → Prop} (I : Inv X pins σ H s) (hg : Gl X x) (hm : X.mg x = some u) (h : Q u s)
    (hd : (x == ("__debug__" : Str)) = false := by decide) : wpAny (model X.prog X.w) X.A (eval (.Name x pos) X.env) Q E s :=
  Calls.Name_function_global I.ok.kind hg (Calls.loadGlobal_global (by rw [I.ok.glob]; exact I.mod.glob.keeps I.bk) hm h) hd
theorem ld_blt {E : Value → Shared → Prop} {pins : List (Addr × Obj)} {s : Shared} {σ : St} {H : Hp} {x : Str} {u : Value} {pos : Pos} {Q : Value → Shared → Prop} (I : Inv X pins σ H s) (hg : Gl X x) (hm : X.mg x = none) (hv : bootBuiltins x = some u) (h : Q u s)
    (hn : x ≠ "__name__" := by decide) (hd : (x == ("__debug__" : Str)) = false := by decide) : wpAny (model X.prog X.w) X.A (eval (.Name x pos) X.env) Q E s := by
  obtain ⟨mb, h1, h2⟩ := I.mod.blt
  exact Calls.Name_function_global I.ok.kind hg (Calls.loadGlobal_builtin (by rw [I.ok.glob]; exact I.mod.glob.keeps I.bk) hm (by rw [I.ok.blt]; exact h1.keeps I.bk) ((h2 x hn).trans hv) h) hd
theorem pe_glob {x : Str} {v : V} {u : Value} {pos : Pos} (hg : Gl X x) (hm : X.mg x = some u) (r : RelV v u) (hd : (x == ("__debug__" : Str)) = false := by decide) : PE X (.Name x pos) (tC v) :=
  fun _ _ _ H _ I h => ld_glob I hg hm ⟨v, H, I, r, h⟩ hd
theorem pe_bltn {x : Str} {v : V} {u : Value} {pos : Pos} (hg : Gl X x) (hm : X.mg x = none) (hv : bootBuiltins x = some u) (r : RelV v u) (hn : x ≠ "__name__" := by decide) (hd : (x == ("__debug__" : Str)) = false := by decide) : PE X (.Name x pos) (tC v) :=
  fun _ _ _ H _ I h => ld_blt I hg hm hv ⟨v, H, I, r, h⟩ hn hd
variable {a b : Expr} {ta tb : TE} {pos : Pos}
variable {tA tB' : TT} {rest : List Expr}
def tAnd (t u : TT) : TT := fun σ H Q => t σ H fun c H1 => if c = true then u σ H1 Q else Q false H1
def tOr (t u : TT) : TT := fun σ H Q => t σ H fun c H1 => if c = true then Q true H1 else u σ H1 Q
def tNot (t : TT) : TT := fun σ H Q => t σ H fun c H1 => Q (!c) H1
theorem pw_and1 (ha : PT X a tA) : PW X (.BoolOp .And [a] pos) tA := by
  intro wh pins s σ H Q I h
  refine isTrue_and (thn (ha pins s σ H Q I h) fun c s1 e => ?_)
  cases c with
  | true => exact isTrue_and_nil e
  | false => exact e
theorem pw_or1 (ha : PT X a tA) : PW X (.BoolOp .Or [a] pos) tA := by
  intro wh pins s σ H Q I h
  refine isTrue_or (thn (ha pins s σ H Q I h) fun c s1 e => ?_)
  cases c with
  | false => exact isTrue_or_nil e
  | true => exact e
theorem pw_and (ha : PT X a tA) (hb : PW X (.BoolOp .And (b :: rest) pos) tB') : PW X (.BoolOp .And (a :: b :: rest) pos) (tAnd tA tB') := by
  intro wh pins s σ H Q I h
  refine isTrue_and (thn (ha pins s σ H _ I h) fun c s1 ⟨H1, I1, q1⟩ => ?_)
  cases c with
  | true => exact hb wh pins s1 σ H1 Q I1 q1
  | false => exact ⟨H1, I1, q1⟩
theorem pw_or (ha : PT X a tA) (hb : PW X (.BoolOp .Or (b :: rest) pos) tB') : PW X (.BoolOp .Or (a :: b :: rest) pos) (tOr tA tB') := by
  intro wh pins s σ H Q I h
  refine isTrue_or (thn (ha pins s σ H _ I h) fun c s1 ⟨H1, I1, q1⟩ => ?_)
  cases c with
  | true => exact ⟨H1, I1, q1⟩
  | false => exact hb wh pins s1 σ H1 Q I1 q1
theorem pt_not (ha : PT X a tA) : PT X (.UnaryOp .Not a pos) (tNot tA) := by
  intro pins s σ H Q I h
  exact isTrue_not (ha pins s σ H (fun c H1 => Q (!c) H1) I h)
def tAndV (ta tb : TE) : TE := fun σ H Q => ta σ H fun x H1 => ∃ c, x = .bl c ∧ if c = true then tb σ H1 Q else Q (.bl false) H1
def tNotV (ta : TE) : TE := fun σ H Q => ta σ H fun x H1 => ∃ c, x = .bl c ∧ Q (.bl (!c)) H1
theorem pe_one {op} {t : TE} (h : PE X a t) : PE X (.BoolOp op [a] pos) t := fun pins s σ H Q I hw => BoolOp_one (h pins s σ H Q I hw)
theorem pe_and (ha : PE X a ta) (hb : PE X (.BoolOp .And (b :: rest) pos) tb) : PE X (.BoolOp .And (a :: b :: rest) pos) (tAndV ta tb) := by
  intro pins s σ H Q I h
  refine BoolOp_and (thn (ha pins s σ H _ I h) fun v s1 ⟨x, H1, I1, r1, q1⟩ => ?_)
  obtain ⟨c, rfl, q1⟩ := q1
  cases r1
  refine wpAny_truthy_bool ?_
  cases c with
  | true => exact hb pins s1 σ H1 Q I1 q1
  | false => exact ⟨.bl false, H1, I1, rfl, q1⟩
theorem pe_not (ha : PE X a ta) : PE X (.UnaryOp .Not a pos) (tNotV ta) := by
  intro pins s σ H Q I h
  refine UnaryOp_ (thn (ha pins s σ H _ I h) fun v s1 ⟨x, H1, I1, r1, q1⟩ => ?_)
  obtain ⟨c, rfl, q1⟩ := q1
  cases r1
  exact not_of (wpAny_truthy_bool ⟨.bl (!c), H1, I1, rfl, q1⟩)
def tIf (t : TT) (ta tb : TE) : TE := fun σ H Q => t σ H fun c H1 => if c = true then ta σ H1 Q else tb σ H1 Q
theorem pe_ifExp {c : Expr} (hc : PT X c tA) (ha : PE X a ta) (hb : PE X b tb) : PE X (.IfExp c a b pos) (tIf tA ta tb) := by
  intro pins s σ H Q I h
  refine wpAny_IfExp (thn (hc pins s σ H _ I h) fun d s1 ⟨H1, I1, q1⟩ => ?_)
  cases d with
  | true => exact ha pins s1 σ H1 Q I1 q1
  | false => exact hb pins s1 σ H1 Q I1 q1
end
end L2
namespace L2
open PySem PySem.Spec PyProof.Rows
def SqL (K : PySem.W.Frag) (H : Hp) (a : Addr) (xs : List V) : Prop :=
  Rd H a (.lst xs) ∨
    ∃ (o : Obj) (its : Array Value) (n : Nat), K.lookup a = some o ∧ o.cls = .type "list" ∧ o.dict = none ∧ o.data = .seq its n ∧ its.size ≤ sizeLine ∧ Vals xs its.toList
def SqT (K : PySem.W.Frag) (H : Hp) (a : Addr) (xs : List V) : Prop :=
  Rd H a (.tup xs) ∨
    ∃ (o : Obj) (its : Array Value) (n : Nat), K.lookup a = some o ∧ o.cls = .type "tuple" ∧ o.data = .seq its n ∧ its.size ≤ sizeLine ∧ Vals xs its.toList
def absV : Value → Option V
  | .none => some .non
  | .bool b => some (.bl b)
  | .int i _ => some (.int i)
  | .str x _ => some (.str x)
  | .bytes b _ => some (.byt b)
  | .float b _ => some (.flt b)
  | .ref a => some (.ref a)
  | .type n => some (.ty n)
  | _ => none
theorem RelV.abs {x : V} {u : Value} (r : RelV x u) : absV u = some x := by
  cases x with
  | non => cases r; rfl
  | bl _ => cases r; rfl
  | int _ => obtain ⟨t, rfl⟩ := r; rfl
  | str _ => obtain ⟨t, rfl⟩ := r; rfl
  | byt _ => obtain ⟨t, rfl⟩ := r; rfl
  | flt _ => obtain ⟨t, rfl⟩ := r; rfl
  | ref _ => cases r; rfl
  | ty _ => cases r; rfl
theorem RelV.inj {x y : V} {u : Value} (r : RelV x u) (q : RelV y u) : x = y := Option.some.inj (r.abs.symm.trans q.abs)
theorem Vals.inj : ∀ {xs ys : List V} {us : List Value}, Vals xs us → Vals ys us → xs = ys
  | _, _, _, .nil, .nil => rfl
  | _, _, _, .cons r t, .cons r' t' => by rw [r.inj r', Vals.inj t t']
section
variable {X : Cx} {pins : List (Addr × Obj)} {σ : St} {H : Hp} {s : Shared} {a : Addr} {xs ys : List V}
theorem SqL.of {K : PySem.W.Frag} (h : H a = some (.lst xs)) : SqL K H a xs := .inl (.inl h)
theorem SqT.of {K : PySem.W.Frag} (h : H a = some (.tup xs)) : SqT K H a xs := .inl (.inl h)
theorem Inv.list (I : Inv X pins σ H s) (h : SqL X.K H a xs) : ∃ its : List Value, Vals xs its ∧ PlainL s.heap a its.toArray ∧ xs.length ≤ sizeLine := by
  rcases h with h | ⟨o, its, n, hk, hc, hd, hs, hz, r⟩
  · obtain ⟨z, its, n, r, e⟩ := h.ok I.hok
    exact ⟨its, r, ⟨_, n, e, rfl, rfl, rfl⟩, z⟩
  · refine ⟨its.toList, r, ⟨o, n, I.kIn a o hk, hc, hd, by simpa using hs⟩, ?_⟩
    have e := r.length
    simp only [Array.length_toList] at e
    omega
theorem Inv.tuple (I : Inv X pins σ H s) (h : SqT X.K H a xs) : ∃ its : List Value, Vals xs its ∧ IsTup s.heap a its.toArray ∧ xs.length ≤ sizeLine := by
  rcases h with h | ⟨o, its, n, hk, hc, hs, hz, r⟩
  · obtain ⟨z, its, r, p⟩ := h.ok I.hok
    exact ⟨its, r, p, z⟩
  · refine ⟨its.toList, r, ⟨o, I.kIn a o hk, hc, n, by simpa using hs⟩, ?_⟩
    have e := r.length
    simp only [Array.length_toList] at e
    omega
theorem Inv.list_inj (I : Inv X pins σ H s) (h : SqL X.K H a xs) (h' : SqL X.K H a ys) : xs = ys := by
  obtain ⟨its, r, ⟨o, n, e, _, _, d⟩, _⟩ := I.list h
  obtain ⟨its', r', ⟨o', n', e', _, _, d'⟩, _⟩ := I.list h'
  rw [e] at e'; cases e'
  rw [d] at d'
  injection d' with d1 _
  have : its = its' := by simpa using congrArg Array.toList d1
  subst this
  exact r.inj r'
theorem Inv.tuple_inj (I : Inv X pins σ H s) (h : SqT X.K H a xs) (h' : SqT X.K H a ys) : xs = ys := by
  obtain ⟨its, r, ⟨o, e, _, n, d⟩, _⟩ := I.tuple h
  obtain ⟨its', r', ⟨o', e', _, n', d'⟩, _⟩ := I.tuple h'
  rw [e] at e'; cases e'
  rw [d] at d'
  injection d' with d1 _
  have : its = its' := by simpa using congrArg Array.toList d1
  subst this
  exact r.inj r'
end
abbrev Cx.wish (X : Cx) (E : Value → Shared → Prop) : Cx := { X with xe := E }
abbrev Cx.nox (X : Cx) : Cx := X.wish fun _ _ => False
theorem Cx.Ok.wish {X : Cx} (ok : X.Ok) (E : Value → Shared → Prop) : (X.wish E).Ok :=
  ⟨ok.mod, ok.kind, ok.glob, ok.blt, ok.above, ok.inj, ok.has, ok.cab, ok.hd, ok.frames, ok.stk, ok.exf, ok.bs, ok.bsz, ok.noex, ok.exfs, ok.funs, ok.frf⟩
theorem Cx.Ok.unwish {X : Cx} {E : Value → Shared → Prop} (ok : (X.wish E).Ok) : X.Ok :=
  ⟨ok.mod, ok.kind, ok.glob, ok.blt, ok.above, ok.inj, ok.has, ok.cab, ok.hd, ok.frames, ok.stk, ok.exf, ok.bs, ok.bsz, ok.noex, ok.exfs, ok.funs, ok.frf⟩
section
variable {X : Cx} {pins : List (Addr × Obj)} {σ : St} {H : Hp} {s : Shared} {E : Value → Shared → Prop}
theorem Inv.wish (I : Inv X pins σ H s) (E : Value → Shared → Prop) : Inv (X.wish E) pins σ H s := ⟨I.ok.wish E, I.os, I.bare, I.base, I.loc, I.cell, I.free, I.freeC, I.pin, I.hok, I.len⟩
theorem Inv.unwish (I : Inv (X.wish E) pins σ H s) : Inv X pins σ H s := ⟨I.ok.unwish, I.os, I.bare, I.base, I.loc, I.cell, I.free, I.freeC, I.pin, I.hok, I.len⟩
theorem SP.unwish {D : Ends} {f : Flow} {s' : Shared} (h : SP (X.wish E) pins D f s') : SP X pins D f s' := by
  cases f with
  | next => obtain ⟨σ', H', I, q⟩ := h; exact ⟨σ', H', I.unwish, q⟩
  | brk => obtain ⟨σ', H', I, q⟩ := h; exact ⟨σ', H', I.unwish, q⟩
  | cont => obtain ⟨σ', H', I, q⟩ := h; exact ⟨σ', H', I.unwish, q⟩
  | ret u => obtain ⟨v, σ', H', I, r, q⟩ := h; exact ⟨v, σ', H', I.unwish, r, q⟩
theorem PE.nox {e : Expr} {t : TE} (h : PE X.nox e t) : PE X e t := fun pins s σ H Q I hw =>
  wpAny_mono (h pins s σ H Q (I.wish _) hw) (fun _ _ ⟨v, H', I', r, q⟩ => ⟨v, H', I'.unwish, r, q⟩) fun _ _ z => False.elim z
theorem PT.nox {e : Expr} {t : TT} (h : PT X.nox e t) : PT X e t := fun pins s σ H Q I hw =>
  wpAny_mono (h pins s σ H Q (I.wish _) hw) (fun _ _ ⟨H', I', q⟩ => ⟨H', I'.unwish, q⟩) fun _ _ z => False.elim z
theorem PSs.nox {st : List Stmt} {t : TS} (h : PSs X.nox st t) : PSs X st t := fun pins s σ H D I hw =>
  wpAny_mono (h pins s σ H D (I.wish _) hw) (fun _ _ q => q.unwish) fun _ _ z => False.elim z
end
section
variable {X : Cx} {st : Stmt} {rest : List Stmt} {t u : TS} {e : Expr} {te : TE} {pos : Pos}
def tNext : TS := fun D σ H => D.nx σ H
def tSeq (t u : TS) : TS := fun D σ H => t { D with nx := u D } σ H
theorem pss_nil : PSs X [] tNext := fun _ _ σ H _ I h => wpAny_execs_nil ⟨σ, H, I, h⟩
theorem pss_cons (h1 : PS X st t) (h2 : PSs X rest u) : PSs X (st :: rest) (tSeq t u) := by
  intro pins s σ H D I h
  refine wpAny_execs_cons (thn (h1 pins s σ H { D with nx := u D } I h) fun f s1 q => ?_)
  cases f with
  | next =>
    obtain ⟨σ', H', I', q⟩ := q
    exact h2 pins s1 σ' H' D I' q
  | ret v => exact q
  | brk => exact q
  | cont => exact q
theorem pss_one (h1 : PS X st t) : PSs X [st] t := by
  intro pins s σ H D I h
  refine wpAny_execs_cons (thn (h1 pins s σ H D I h) fun f s1 q => ?_)
  cases f with
  | next => exact wpAny_execs_nil q
  | ret v => exact q
  | brk => exact q
  | cont => exact q
theorem Inv.quiet {pins : List (Addr × Obj)} {σ : St} {H : Hp} {s : Shared} (I : Inv X pins σ H s) : interactive X.env = false := by simp [interactive, I.ok.kind]
def tDrop (te : TE) : TS := fun D σ H => te σ H fun _ H1 => D.nx σ H1
theorem ps_expr (he : PE X e te) (hs : swapsWith e none pos.line X.env = pure false := by rfl) : PS X (.Expr e pos) (tDrop te) := by
  intro pins s σ H D I h
  exact wpAny_Expr_any (thn (he pins s σ H _ I h) fun v s1 ⟨x, H1, I1, r1, q1⟩ => ⟨σ, H1, I1, q1⟩) I.quiet hs
def tRet (te : TE) : TS := fun D σ H => te σ H D.rt
theorem ps_ret (he : PE X e te) : PS X (.Return (some e) pos) (tRet te) := by
  intro pins s σ H D I h
  exact wpAny_Return_some (thn (he pins s σ H _ I h) fun v s1 ⟨x, H1, I1, r1, q1⟩ => ⟨x, σ, H1, I1, r1, q1⟩)
def tIfS (c : TT) (t u : TS) : TS := fun D σ H => c σ H fun b H1 => if b = true then t D σ H1 else u D σ H1
theorem ps_if {c : Expr} {a b : List Stmt} {tc : TT} (hc : PT X c tc) (ha : PSs X a t) (hb : PSs X b u) : PS X (.If c a b pos) (tIfS tc t u) := by
  intro pins s σ H D I h
  refine wpAny_If (thn (hc pins s σ H _ I h) fun d s1 ⟨H1, I1, q1⟩ => ?_)
  cases d with
  | true => exact ha pins s1 σ H1 D I1 q1
  | false => exact hb pins s1 σ H1 D I1 q1
end
abbrev TG := V → St → Hp → (St → Hp → Prop) → Prop
abbrev TGs := List V → St → Hp → (St → Hp → Prop) → Prop
def PG (X : Cx) (target : Expr) (t : TG) : Prop :=
  ∀ (pins : List (Addr × Obj)) (s : Shared) (σ : St) (H : Hp) (v : V) (u : Value) (Q : St → Hp → Prop), Inv X pins σ H s → RelV v u → t v σ H Q →
    wpAny (model X.prog X.w) X.A (assign target X.env u) (fun _ s' => ∃ σ' H', Inv X pins σ' H' s' ∧ Q σ' H') X.xe s
def PGs (X : Cx) (ts : List Expr) (t : TGs) : Prop :=
  ∀ (pins : List (Addr × Obj)) (s : Shared) (σ : St) (H : Hp) (vs : List V) (us : List Value) (Q : St → Hp → Prop), Inv X pins σ H s → Vals vs us → t vs σ H Q →
    wpAny (model X.prog X.w) X.A (assignInOrder ((assignEach ts X.env).map (·.2)) us) (fun _ s' => ∃ σ' H', Inv X pins σ' H' s' ∧ Q σ' H') X.xe s
abbrev TSet := V → V → V → Hp → (Hp → Prop) → Prop
def PSet (X : Cx) (t : TSet) : Prop :=
  ∀ (pins : List (Addr × Obj)) (s : Shared) (σ : St) (H : Hp) (o i v : V) (ov iv u : Value) (Q : Hp → Prop), Inv X pins σ H s → RelV o ov → RelV i iv → RelV v u → t o i v H Q →
    wpAny (model X.prog X.w) X.A (setItem ov iv u) (fun _ s' => ∃ H', Inv X pins σ H' s' ∧ Q H') X.xe s
section
variable {X : Cx} {pos : Pos}
def gName (i : Nat) : TG := fun v σ H Q => Q (σ.set i (some v)) H
theorem pg_name {i : Nat} {x : Str} (hN : X.N.Nodup) (hi : X.N[i]? = some x) (hx : Loc X.env.scope x) (hf : X.fn x = true ∨ X.env.scope.names.lookup x = some .local := by first | exact .inl rfl | exact .inr rfl | assumption) : PG X (.Name x pos) (gName i) := by
  intro pins s σ H v u Q I r h
  exact wpAny_assign_Name (store_ok I hN hi hx r (fun s' I' => ⟨_, H, I', h⟩) hf)
def gNil : TGs := fun vs σ H Q => vs = [] ∧ Q σ H
def gCons (t : TG) (u : TGs) : TGs := fun vs σ H Q => ∃ v r, vs = v :: r ∧ t v σ H fun σ' H' => u r σ' H' Q
theorem pgs_nil : PGs X [] gNil := by
  intro pins s σ H vs us Q I r h
  obtain ⟨e, h⟩ := h
  subst e
  cases r
  exact assignInOrder_nil ⟨σ, H, I, h⟩
theorem pgs_cons {e : Expr} {es : List Expr} {t : TG} {u : TGs} (h1 : PG X e t) (h2 : PGs X es u)
    (hs : (assignEach (e :: es) X.env).map (·.2) = assign e X.env :: (assignEach es X.env).map (·.2) := by rfl) : PGs X (e :: es) (gCons t u) := by
  intro pins s σ H vs us Q I r h
  obtain ⟨v, vr, e1, h⟩ := h
  subst e1
  cases r with
  | cons r rr =>
    rw [hs]
    refine assignInOrder_cons (thn (h1 pins s σ H _ _ _ I r h) fun _ s1 ⟨σ1, H1, I1, q1⟩ => ?_)
    exact h2 pins s1 σ1 H1 _ _ Q I1 rr q1
def gTup (K : PySem.W.Frag) (n : Nat) (t : TGs) : TG := fun v σ H Q => ∃ a xs, v = .ref a ∧ SqT K H a xs ∧ xs.length = n ∧ t xs σ H Q
theorem pg_tup {es : List Expr} {k : Nat} {t : TGs} {n : Nat} (hc : X.calm = true) (h : PGs X es t)
    (hn : (assignEach es X.env).length = n := by rfl) (hst : (assignEach es X.env).findIdx? (·.1) = none := by rfl) : PG X (.Tuple es k pos) (gTup X.K n t) := by
  intro pins s σ H v u Q I r hw
  obtain ⟨a, xs, e1, hq, hl, hw⟩ := hw
  subst e1
  cases r
  obtain ⟨its, rv, ht, hz⟩ := I.tuple hq
  refine assign_Tuple_tuple (I.ok.hd hc) ht (by simp [hn, ← hl, rv.length]) hst fun h' hx => ?_
  have I1 : Inv X pins σ H { s with heap := h' } := I.kept (t' := s.toks) fun b o e => hx b o (Nat.ne_of_lt (Heap.lt_size e)) e
  exact h pins _ σ H xs _ Q I1 (by simpa using rv) hw
def gSub (to ti : TE) (t : TSet) : TG := fun v σ H Q => to σ H fun o H1 => ti σ H1 fun i H2 => t o i v H2 fun H3 => Q σ H3
theorem pg_sub {o i : Expr} {to ti : TE} {t : TSet} (ho : PE X o to) (hi : PE X i ti) (hs : PSet X t)
    (ha : ∀ v, assign (.Subscript o i pos) X.env v = (do
      let ov ← holding [v] (eval o X.env)
      let iv ← holding [v, ov] (eval i X.env)
      standAt pos
      holding [v, ov, iv] (setItem ov iv v)
      release [v, ov, iv] []) := by intro _; rfl) : PG X (.Subscript o i pos) (gSub to ti t) := by
  intro pins s σ H v u Q I r h
  rw [ha]
  refine wpAny_bind (wpAny_holding (thn (ho pins s σ H _ I h) fun ov s1 ⟨x, H1, I1, r1, q1⟩ => ?_))
  refine wpAny_bind (wpAny_holding (thn (hi pins s1 σ H1 _ I1 q1) fun iv s2 ⟨y, H2, I2, r2, q2⟩ => ?_))
  refine wpAny_bind (wpAny_standAt (wpAny_bind (wpAny_holding (thn (hs pins s2 σ H2 x y v ov iv u _ I2 r1 r2 r q2) fun _ s3 ⟨H3, I3, q3⟩ => ?_))))
  exact wpAny_release ⟨σ, H3, I3, q3⟩
def tAsg (te : TE) (g : TG) : TS := fun D σ H => te σ H fun x H1 => g x σ H1 D.nx
theorem ps_asg {tg e : Expr} {te : TE} {g : TG} (he : PE X e te) (hg : PG X tg g) (hs : swapsWithSole [tg] e pos.line X.env = pure false := by rfl) (hw : swappedStores [tg] e X.env = pure none := by rfl)
    (h1 : (assignEach [tg] X.env).map (·.2) = [assign tg X.env] := by rfl) : PS X (.Assign [tg] e pos) (tAsg te g) := by
  intro pins s σ H D I h
  refine wpAny_Assign_stores (thn (he pins s σ H _ I h) fun v s1 ⟨x, H1, I1, r1, q1⟩ => ?_) hs hw
  rw [h1]
  exact thn (hg pins s1 σ H1 x v _ I1 r1 q1) fun _ s2 q => q
theorem ps_set {i : Nat} {x : Str} {e : Expr} {te : TE} {pos' : Pos} (hN : X.N.Nodup) (hi : X.N[i]? = some x) (hx : Loc X.env.scope x) (he : PE X e te) (hs : swapsWith e (some (.Name x pos')) pos.line X.env = pure false := by rfl) (hf : X.fn x = true ∨ X.env.scope.names.lookup x = some .local := by first | exact .inl rfl | exact .inr rfl | assumption) :
    PS X (.Assign [.Name x pos'] e pos) (tAsg te (gName i)) := by
  intro pins s σ H D I h
  refine wpAny_Assign_Name (thn (he pins s σ H _ I h) fun v s1 ⟨y, H1, I1, r1, q1⟩ => ?_) hs
  exact store_ok I1 hN hi hx r1 (fun s2 I2 => ⟨_, H1, I2, q1⟩) hf
def tPar (i j : Nat) (ta : TA) : TS := fun D σ H => ta σ H fun vs H1 => ∃ v w, vs = [v, w] ∧ D.nx ((σ.set i (some v)).set j (some w)) H1
theorem ps_par {i j : Nat} {x y : Str} {a b : Expr} {ta : TA} {px py pt : Pos} {kt k2 pt2} (hc : X.calm = true) (hN : X.N.Nodup) (hi : X.N[i]? = some x) (hj : X.N[j]? = some y) (hij : i ≠ j)
    (hx : X.env.scope.names.lookup x = some .local) (hy : X.env.scope.names.lookup y = some .local) (ha : PA X [a, b] ta)
    (hw : swappedStores [.Tuple [.Name x px, .Name y py] kt pt] (.Tuple [a, b] k2 pt2) X.env = pure (some [x, y]))
    (hs : swapsWithSole [.Tuple [.Name x px, .Name y py] kt pt] (.Tuple [a, b] k2 pt2) pos.line X.env = pure false := by rfl) :
    PS X (.Assign [.Tuple [.Name x px, .Name y py] kt pt] (.Tuple [a, b] k2 pt2) pos) (tPar i j ta) := by
  intro pins s σ H D I h
  rw [exec_Assign_arm]
  refine wpAny_bind (wpAny_standAt ?_)
  rw [hs]
  refine wpAny_bind (wpAny_pure ?_)
  rw [if_neg (by decide)]
  refine wpAny_bind (Tuple_ (thn (ha _ pins s σ H _ I h) fun us s1 ⟨vs, H1, I1, r1, q1⟩ => ?_))
  obtain ⟨v, w, e1, q1⟩ := q1
  subst e1
  obtain ⟨u1, u2, rfl, rv, rw'⟩ : ∃ u1 u2, us = [u1, u2] ∧ RelV v u1 ∧ RelV w u2 := by
    cases r1 with
    | cons p q =>
      cases q with
      | cons p' q' =>
        cases q'
        exact ⟨_, _, rfl, p, p'⟩
  refine wpAny_newObj_type ?_ (by show 2 ≤ sizeLine; decide)
  have I2 : Inv X pins σ H1 { s1 with heap := s1.heap.push { cls := .type "tuple", data := .seq [u1, u2].toArray } } := I1.kept (t' := s1.toks) fun b o e => Heap.get?_push_of_some _ e
  rw [hw]
  refine wpAny_bind (wpAny_pure ?_)
  show wpAny (model X.prog X.w) X.A (do rule "assign.swapped-stores"; let items ← unpackItems (.ref s1.heap.objs.size) 2 none; assignInOrder [fun v => bindName X.env y v, fun v => bindName X.env x v] items.reverse; pure Flow.next) _ _ _
  refine wpAny_bind (wpAny_rule (wpAny_bind (unpackItems_tuple (items := #[u1, u2]) (I.ok.hd hc) (IsTup.new s1.heap _) fun h' hx' => ?_)))
  have I3 := I2.kept (h' := h') (t' := s1.toks) fun b o e => hx' b o (Nat.ne_of_lt (Heap.lt_size e)) e
  show wpAny _ _ (assignInOrder [fun v => bindName X.env y v, fun v => bindName X.env x v] [u2, u1] >>= fun _ => pure Flow.next) _ _ _
  refine wpAny_bind (assignInOrder_cons (wpAny_bindName (store_ok I3 hN hj (.inl hy) rw' (fun s2 I4 => ?_) (.inr hy))))
  refine assignInOrder_cons (wpAny_bindName (store_ok I4 hN hi (.inl hx) rv (fun s3 I5 => assignInOrder_nil (wpAny_pure ?_)) (.inr hx)))
  rw [List.set_comm _ _ (Ne.symm hij)] at I5
  exact ⟨_, H1, I5, q1⟩
end
section
variable {X : Cx} {pos : Pos}
end
structure It where
  go : Nat → Hp → Prop
  yld : Nat → Hp → V → Hp → Prop
  stop : Nat → Hp → Prop
def FpOk (X : Cx) (pins : List (Addr × Obj)) (H : Hp) (b : Addr) : Prop :=
  H b = none ∧ b ≠ X.env.locals ∧ b ∉ X.fs ∧ (b ∈ X.ex ∨ X.s₀.heap.objs.size ≤ b) ∧ (∀ x c, X.env.cells.lookup x = some c → c ≠ b) ∧ ∀ p ∈ X.pn ++ pins, p.1 ≠ b
theorem Inv.fpOk {X : Cx} {pins : List (Addr × Obj)} {σ : St} {H H' : Hp} {s : Shared} {b : Addr} (I : Inv X pins σ H s) (hb : s.heap.objs.size ≤ b) (hn : H' b = none) : FpOk X pins H' b := by
  refine ⟨hn, Nat.ne_of_gt (Nat.lt_of_lt_of_le I.lt hb), I.nofs hb, .inr (Nat.le_trans I.sz hb), fun x c e z => ?_, fun p hp z => ?_⟩
  · obtain ⟨v, q⟩ := I.cell x c e
    exact absurd (Nat.lt_of_lt_of_le q.lt (by rw [z]; exact hb)) (Nat.lt_irrefl _)
  · exact absurd (Nat.lt_of_lt_of_le (Heap.lt_size (I.pin p hp).1) (by rw [z]; exact hb)) (Nat.lt_irrefl _)
structure Turn (P : Program) (w : World) (K : PySem.W.Frag) (tg : Expr) (J : It) (fp : List Addr) (it : Addr) (tn : Nat → Heap → Prop) : Prop where
  mem : it ∈ fp
  obj : ∀ i h, tn i h → ∀ b ∈ fp, ∃ o, h.get? b = some o ∧ ∀ v, o.data ≠ .cell v
  keep : ∀ i h h', tn i h → (∀ b ∈ fp, ∀ o, h.get? b = some o → h'.get? b = some o) → tn i h'
  item : ∀ (X : Cx), X.prog = P → X.w = w → X.K = K → X.calm = true → ∀ (i : Nat) (pins : List (Addr × Obj)) (s : Shared) (σ : St) (H : Hp) (E : Value → Shared → Prop), Inv X pins σ H s → (∀ b ∈ fp, FpOk X pins H b) → tn i s.heap → J.go i H →
    wpAny (model P w) X.A (pyNext (.ref it)) (fun r s1 => ∃ u, r = some u ∧
      wpAny (model P w) X.A (letOwnedTupleGo tg (.ref it) u) (fun _ s2 => ∃ x H', Inv X pins σ H' s2 ∧ RelV x u ∧ J.yld i H x H' ∧ tn (i + 1) s2.heap ∧ ∀ b ∈ fp, H' b = none) E s1) E s
  done : ∀ (X : Cx), X.prog = P → X.w = w → X.K = K → X.calm = true → ∀ (i : Nat) (pins : List (Addr × Obj)) (s : Shared) (σ : St) (H : Hp) (E : Value → Shared → Prop), Inv X pins σ H s → (∀ b ∈ fp, FpOk X pins H b) → tn i s.heap → J.stop i H →
    wpAny (model P w) X.A (pyNext (.ref it)) (fun r s1 => r = none ∧ Inv X pins σ H s1) E s
  self : ∀ (A : Around) (i : Nat) (s : Shared) (Q : Value → Shared → Prop) (E : Value → Shared → Prop), tn i s.heap → Q (.ref it) s → wpAny (model P w) A (pyIter (.ref it)) Q E s
abbrev TI := St → Hp → (It → Hp → Prop) → Prop
def PIE (X : Cx) (pins : List (Addr × Obj)) (σ : St) (tg : Expr) (R : It → Hp → Prop) (itv : Value) (s2 : Shared) : Prop :=
  ∃ (it : Addr) (fp : List Addr) (tn : Nat → Heap → Prop) (J : It) (H' : Hp), itv = .ref it ∧ Inv X pins σ H' s2 ∧ Turn X.prog X.w X.K tg J fp it tn ∧ tn 0 s2.heap ∧ (∀ b ∈ fp, FpOk X pins H' b) ∧ R J H'
def PI (X : Cx) (tg iter : Expr) (wi : TI) : Prop :=
  ∀ (pins : List (Addr × Obj)) (s : Shared) (σ : St) (H : Hp) (R : It → Hp → Prop), Inv X pins σ H s → wi σ H R →
    wpAny (model X.prog X.w) X.A (eval iter X.env) (fun v s1 => wpAny (model X.prog X.w) X.A (pyIter v) (PIE X pins σ tg R) X.xe s1) X.xe s
theorem go_of {M : Model} {A : Around} {E : Value → Shared → Prop} {s : Shared} {tg : Expr} {it : Addr} {u : Value} {o : Obj} {n : String} {vs : Array Value} {Q : Unit → Shared → Prop} (ho : s.heap.get? it = some o) (hc : o.cls = .type n) (hd : o.data = .fields vs)
    (hn : ["enumerate", "zip", "dict_itemiterator", "dict_reverseitemiterator", "odict_iterator", "itertools.zip_longest", "itertools.pairwise"].contains n = false) (hQ : Q () s) : wpAny M A (letOwnedTupleGo tg (.ref it) u) Q E s := by
  unfold letOwnedTupleGo
  cases tg <;> first
    | exact wpAny_pure hQ
    | (cases u <;> first
        | exact wpAny_pure hQ
        | (refine wpAny_bind (wpAny_load ho ?_)
           rw [hc, hd]
           show wpAny M A (if (["enumerate", "zip", "dict_itemiterator", "dict_reverseitemiterator", "odict_iterator", "itertools.zip_longest", "itertools.pairwise"].contains n && vs[0]? == some (rawInt _)) = true then _ else _) Q E s
           rw [if_neg (by intro h; rw [hn, Bool.false_and] at h; cases h)]
           exact wpAny_pure hQ))
def Itl (K : PySem.W.Frag) (a : Addr) : It :=
  ⟨fun i H => ∃ xs x, SqL K H a xs ∧ xs[i]? = some x, fun i H x H' => H' = H ∧ ∀ xs, SqL K H a xs → xs[i]? = some x, fun i H => ∃ xs, SqL K H a xs ∧ xs.length ≤ i⟩
def Itt (K : PySem.W.Frag) (a : Addr) : It :=
  ⟨fun i H => ∃ xs x, SqT K H a xs ∧ xs[i]? = some x, fun i H x H' => H' = H ∧ ∀ xs, SqT K H a xs → xs[i]? = some x, fun i H => ∃ xs, SqT K H a xs ∧ xs.length ≤ i⟩
def Itr (lo : Int) (n : Nat) : It := ⟨fun i _ => i < n, fun i H x H' => H' = H ∧ x = .int (lo + i), fun i _ => n ≤ i⟩
theorem turn_list {P : Program} {w : World} {K : PySem.W.Frag} {tg : Expr} (a it : Addr) : Turn P w K tg (Itl K a) [it] it (fun i h => h.IsListIter it a i) where
  mem := by simp
  obj := fun i h st b hb => by
    have e : b = it := by simpa using hb
    subst e
    obtain ⟨o, e, c, d⟩ := st
    exact ⟨o, e, fun v z => by rw [d] at z; cases z⟩
  keep := fun i h h' st k => st.at fun o e => k it (by simp) o e
  item := by
    intro X hP hw hK hc i pins s σ H E I hf st hg
    subst hP hw hK
    obtain ⟨xs, x, hq, hx⟩ := hg
    obtain ⟨its, rv, p, hz⟩ := I.list hq
    obtain ⟨u, hu, ru⟩ := rv.get hx
    obtain ⟨f0, f1, f2, f3, f4, f5⟩ := hf it (by simp)
    refine wpAny_pyNext_list_item st p.isList (x := u) (by simpa using hu) fun h' st' sb => ?_
    have I1 : Inv X pins σ H { s with heap := h' } := I.turned (t' := s.toks) (fun b o hb e => (sb.2 b hb).trans e) f0 f1 f3 f4 f5
    obtain ⟨o, e, c, d⟩ := id st'
    exact ⟨u, rfl, go_of (s := { s with heap := h' }) e c d (by decide) ⟨x, H, I1, ru, ⟨rfl, fun ys hy => by rw [I.list_inj hy hq]; exact hx⟩, st', fun b hb => (hf b hb).1⟩⟩
  done := by
    intro X hP hw hK hc i pins s σ H E I hf st hg
    subst hP hw hK
    obtain ⟨xs, hq, hx⟩ := hg
    obtain ⟨its, rv, p, hz⟩ := I.list hq
    obtain ⟨f0, f1, f2, f3, f4, f5⟩ := hf it (by simp)
    have hl := rv.length
    exact wpAny_pyNext_list_end (I.ok.hd hc) st p.isList (by simp; omega) fun h' eb => ⟨rfl, I.turned (t' := s.toks) (fun b o hb e => eb b o hb e) f0 f1 f3 f4 f5⟩
  self := fun _ _ _ _ _ st h => wpAny_pyIter_listiter st h
theorem turn_tuple {P : Program} {w : World} {K : PySem.W.Frag} {tg : Expr} (a it : Addr) : Turn P w K tg (Itt K a) [it] it (fun i h => h.IsTupleIter it a i) where
  mem := by simp
  obj := fun i h st b hb => by
    have e : b = it := by simpa using hb
    subst e
    obtain ⟨o, e, c, d⟩ := st
    exact ⟨o, e, fun v z => by rw [d] at z; cases z⟩
  keep := fun i h h' st k => st.at fun o e => k it (by simp) o e
  item := by
    intro X hP hw hK hc i pins s σ H E I hf st hg
    subst hP hw hK
    obtain ⟨xs, x, hq, hx⟩ := hg
    obtain ⟨its, rv, p, hz⟩ := I.tuple hq
    obtain ⟨u, hu, ru⟩ := rv.get hx
    obtain ⟨f0, f1, f2, f3, f4, f5⟩ := hf it (by simp)
    refine wpAny_pyNext_tuple_item st (show s.heap.IsTuple a its.toArray from p) (x := u) (by simpa using hu) fun h' st' sb => ?_
    have I1 : Inv X pins σ H { s with heap := h' } := I.turned (t' := s.toks) (fun b o hb e => (sb.2 b hb).trans e) f0 f1 f3 f4 f5
    obtain ⟨o, e, c, d⟩ := id st'
    exact ⟨u, rfl, go_of (s := { s with heap := h' }) e c d (by decide) ⟨x, H, I1, ru, ⟨rfl, fun ys hy => by rw [I.tuple_inj hy hq]; exact hx⟩, st', fun b hb => (hf b hb).1⟩⟩
  done := by
    intro X hP hw hK hc i pins s σ H E I hf st hg
    subst hP hw hK
    obtain ⟨xs, hq, hx⟩ := hg
    obtain ⟨its, rv, p, hz⟩ := I.tuple hq
    obtain ⟨f0, f1, f2, f3, f4, f5⟩ := hf it (by simp)
    have hl := rv.length
    exact wpAny_pyNext_tuple_end (I.ok.hd hc) st (show s.heap.IsTuple a its.toArray from p) (by simp; omega) fun h' eb => ⟨rfl, I.turned (t' := s.toks) (fun b o hb e => eb b o hb e) f0 f1 f3 f4 f5⟩
  self := fun _ _ _ _ _ st h => wpAny_pyIter_tupleiter st h
theorem turn_range {P : Program} {w : World} {K : PySem.W.Frag} {tg : Expr} (it : Addr) (lo : Int) (n : Nat) : Turn P w K tg (Itr lo n) [it] it (fun i h => IsRangeIter h it (lo + (i : Nat) * 1) ((n : Int) - (i : Nat)) 1) where
  mem := by simp
  obj := fun i h st b hb => by
    have e : b = it := by simpa using hb
    subst e
    exact ⟨_, st, fun v z => by
      have z' : Data.fields _ = Data.cell v := z
      cases z'⟩
  keep := fun i h h' st k => k it (by simp) _ st
  item := by
    intro X hP hw hK hc i pins s σ H E I hf st hg
    subst hP hw hK
    obtain ⟨f0, f1, f2, f3, f4, f5⟩ := hf it (by simp)
    have W := Walks.range (prog := X.prog) (w := X.w) (I.ok.hd hc) it lo 1 n
    refine W.item i s _ _ hg st fun v h' tk hv st' kk => ?_
    obtain ⟨t, rfl⟩ := hv
    have I1 : Inv X pins σ H { s with heap := h', toks := tk } := I.turned (fun b o hb e => kk b o (by simpa using hb) e) f0 f1 f3 f4 f5
    refine ⟨_, rfl, go_of (s := { s with heap := h', toks := tk }) (n := "range_iterator") st' rfl rfl (by decide) ⟨.int (lo + i), H, I1, ⟨t, ?_⟩, ⟨rfl, rfl⟩, st', fun b hb => (hf b hb).1⟩⟩
    rw [Int.mul_one]
  done := by
    intro X hP hw hK hc i pins s σ H E I hf st hg
    subst hP hw hK
    obtain ⟨f0, f1, f2, f3, f4, f5⟩ := hf it (by simp)
    exact wpAny_pyNext_range_end (I.ok.hd hc) st (by have : n ≤ i := hg; omega) fun h' eb => ⟨rfl, I.turned (t' := s.toks) (fun b o hb e => eb b o hb e) f0 f1 f3 f4 f5⟩
  self := fun _ _ _ _ _ st h => wpAny_pyIter_rangeiter st h
end L2
namespace L2
open PySem PySem.Spec PyProof.Rows
section
variable {X : Cx} {tg : Expr}
theorem range_it {pins : List (Addr × Obj)} {σ : St} {H : Hp} {s : Shared} {R : It → Hp → Prop} {E : Value → Shared → Prop} {lo hi : Int} {t u v : Tok} {tk : Nat} (I : Inv X pins σ H s) (h1 : -(2 ^ 62) ≤ lo) (h2 : lo < 2 ^ 62) (h3 : -(2 ^ 62) ≤ hi) (h4 : hi < 2 ^ 62)
    (q : R (Itr lo (hi - lo).toNat) H) : wpAny (model X.prog X.w) X.A (pyIter (.ref s.heap.objs.size)) (PIE X pins σ tg R) E { s with heap := s.heap.push { cls := .type "range", data := .fields #[.int lo t, .int hi u, .int 1 v] }, toks := tk } := by
  refine wpAny_pyIter_range (IsRange.new ..) (small_one h1 h2 h3 h4) ?_
  have I1 : Inv X pins σ H { s with heap := s.heap.push { cls := .type "range", data := .fields #[.int lo t, .int hi u, .int 1 v] }, toks := tk } := I.kept fun b o e => Heap.get?_push_of_some _ e
  refine ⟨(s.heap.push { cls := .type "range", data := .fields #[.int lo t, .int hi u, .int 1 v] }).objs.size, [(s.heap.push { cls := .type "range", data := .fields #[.int lo t, .int hi u, .int 1 v] }).objs.size], _, _, H, rfl,
    I1.kept (t' := tk) fun b o e => Heap.get?_push_of_some _ e, turn_range _ lo (hi - lo).toNat, ?_, fun b hb => ?_, q⟩
  · have e1 : lo + ((0 : Nat) : Int) * 1 = lo := by simp
    have e2 : (((hi - lo).toNat : Nat) : Int) - ((0 : Nat) : Int) = Builtin.Range.rangeSize lo hi 1 := by rw [rangeSize_one]; split <;> omega
    show IsRangeIter _ _ (lo + ((0 : Nat) : Int) * 1) ((((hi - lo).toNat : Nat) : Int) - ((0 : Nat) : Int)) 1
    rw [e1, e2]
    exact Heap.get?_push_size _ rfl
  · have e : b = (s.heap.push { cls := .type "range", data := .fields #[.int lo t, .int hi u, .int 1 v] }).objs.size := by simpa using hb
    subst e
    exact I1.fpOk (Nat.le_refl _) (I1.hok.fresh (Nat.le_refl _))
def iRng1 (ta : TA) : TI := fun σ H R => ta σ H fun vs H1 => ∃ j : Int, vs = [.int j] ∧ -(2 ^ 62) ≤ j ∧ j < 2 ^ 62 ∧ R (Itr 0 j.toNat) H1
theorem pi_range1 {a : Expr} {ta : TA} {p pos : Pos} (hg : Gl X "range") (hm : X.mg "range" = none) (ha : PA X [a] ta) (hs : starEach [a] X.env = [(false, eval a X.env)] := by rfl) : PI X tg (.Call (.Name "range" p) [a] [] pos) (iRng1 ta) := by
  intro pins s σ H R I h
  refine Call_ (ld_blt I hg hm boot_range (PyProof.Rows.callWith_type1 (thn (ha pos pins s σ H _ I h) fun us s1 ⟨vs, H1, I1, r1, q1⟩ => ?_) hs rfl))
  obtain ⟨j, e, q1, q2, q⟩ := q1
  subst e
  cases r1 with
  | cons r rr =>
    cases rr
    obtain ⟨t, rfl⟩ := r
    exact call_range_1 (range_it I1 (by omega) (by omega) q1 q2 (by simpa using q))
def tFor (wi : TI) (g : TG) (tb : TS) : TS := fun D σ H => wi σ H fun J H1 => ∃ W : Nat → Nat → St → Hp → Prop, (∃ m, W 0 m σ H1) ∧ ∀ i m σ H, W i m σ H →
  (J.stop i H ∧ D.nx σ H) ∨ (J.go i H ∧ ∃ N : St → Hp → Prop, (∀ σ' H', N σ' H' → ∃ m', m' < m ∧ W (i + 1) m' σ' H') ∧ ∀ x H', J.yld i H x H' → g x σ H' fun σ2 H2 => tb { D with nx := N, ct := N, bk := D.nx } σ2 H2)
def pinsAt (fp : List Addr) (h : Heap) : List (Addr × Obj) := fp.filterMap fun b => (h.get? b).map fun o => (b, o)
theorem mem_pinsAt {fp : List Addr} {h : Heap} {b : Addr} {o : Obj} (hb : b ∈ fp) (e : h.get? b = some o) : (b, o) ∈ pinsAt fp h := List.mem_filterMap.mpr ⟨b, hb, by rw [e]; rfl⟩
theorem of_pinsAt {fp : List Addr} {h : Heap} {p : Addr × Obj} (hp : p ∈ pinsAt fp h) : p.1 ∈ fp ∧ h.get? p.1 = some p.2 := by
  obtain ⟨b, hb, e⟩ := List.mem_filterMap.mp hp
  cases q : h.get? b with
  | none => rw [q] at e; cases e
  | some o =>
    rw [q] at e
    have e' : (b, o) = p := Option.some.inj e
    subst e'
    exact ⟨hb, q⟩
theorem Inv.pinned {pins : List (Addr × Obj)} {σ : St} {H : Hp} {s : Shared} {fp : List Addr} (I : Inv X pins σ H s) (hf : ∀ b ∈ fp, FpOk X pins H b) (ho : ∀ b ∈ fp, ∃ o, s.heap.get? b = some o ∧ ∀ v, o.data ≠ .cell v) : Inv X (pins ++ pinsAt fp s.heap) σ H s :=
  I.pins_of fun p hp => (List.mem_append.mp hp).elim (fun z => I.pin p (List.mem_append_right _ z)) fun z => by
    obtain ⟨hb, e⟩ := of_pinsAt z
    obtain ⟨f0, f1, f2, _⟩ := hf p.1 hb
    obtain ⟨o, e', d⟩ := ho p.1 hb
    rw [e] at e'; cases e'
    exact ⟨e, f0, f1, f2, d⟩
theorem Inv.unpinned {pins pl : List (Addr × Obj)} {σ : St} {H : Hp} {s : Shared} (I : Inv X (pins ++ pl) σ H s) : Inv X pins σ H s := I.pins_of fun p hp => I.pin p (List.mem_append_right _ (List.mem_append_left _ hp))
theorem ps_for {iter : Expr} {body : List Stmt} {wi : TI} {g : TG} {tb : TS} {pos : Pos} (hp : PassesOwn (model X.prog X.w) X.A X.env X.xe) (hc : X.calm = true) (hi : PI X tg iter wi) (hg : PG X tg g) (hb : PSs X body tb)
    (hs : ∀ x, foldedSetIterable iter X.env x = pure x := by intro _; rfl) : PS X (.For tg iter body [] pos) (tFor wi g tb) := by
  intro pins s σ H D I h
  refine wpAny_For (thn (hi pins s σ H _ I h) fun v s1 h1 => thn h1 fun itv s2 h2 => ?_) hs
  obtain ⟨it, fp, tn, J, H2, e, I2, T, st2, f2, W, ⟨m0, w0⟩, turn⟩ := h2
  subst e
  -- what stays true of the iterator's objects through the loop
  have stat : ∀ {H' : Hp}, (∀ b ∈ fp, H' b = none) → ∀ b ∈ fp, FpOk X pins H' b := fun hn b hb => ⟨hn b hb, (f2 b hb).2⟩
  refine codeAny_forLoop_any (fun n s' => ∃ i σ' H', Inv X pins σ' H' s' ∧ tn i s'.heap ∧ (∀ b ∈ fp, H' b = none) ∧ W i n σ' H') ?_ m0 ⟨0, σ, H2, I2, st2, fun b hb => (f2 b hb).1, w0⟩
  rintro n s3 ⟨i, σ3, H3, I3, st3, fr3, w3⟩
  rcases turn i n σ3 H3 w3 with ⟨stop, qn⟩ | ⟨go, N, hN, step⟩
  · refine wpAny_passesOwn hp (thn (T.done X rfl rfl rfl hc i pins s3 σ3 H3 X.xe I3 (stat fr3) st3 stop) fun r s4 ⟨hr, I4⟩ => ?_)
    subst hr
    exact wpAny_execs_nil ⟨σ3, H3, I4, qn⟩
  · refine wpAny_passesOwn hp (thn (T.item X rfl rfl rfl hc i pins s3 σ3 H3 X.xe I3 (stat fr3) st3 go) fun r s4 ⟨u, hr, h4⟩ => ?_)
    subst hr
    refine wpAny_passesOwn hp (thn h4 fun _ s5 ⟨x, H5, I5, r5, y5, st5, fr5⟩ => ?_)
    have I5' := I5.pinned (stat fr5) (T.obj _ _ st5)
    refine wpAny_passesOwn hp (thn (hg _ s5 σ3 H5 x u _ I5' r5 (step x H5 y5)) fun _ s6 ⟨σ6, H6, I6, q6⟩ => ?_)
    refine wpAny_passesOwn hp (thn (hb _ s6 σ6 H6 _ I6 q6) fun f s7 q7 => ?_)
    have again : ∀ {σ7 : St} {H7 : Hp}, Inv X (pins ++ pinsAt fp s5.heap) σ7 H7 s7 → N σ7 H7 → ∃ m, m < n ∧ ∃ i σ' H', Inv X pins σ' H' s7 ∧ tn i s7.heap ∧ (∀ b ∈ fp, H' b = none) ∧ W i m σ' H' := fun {σ7 H7} I7 n7 => by
      obtain ⟨m', hm, w7⟩ := hN σ7 H7 n7
      refine ⟨m', hm, i + 1, σ7, H7, I7.unpinned, T.keep _ _ _ st5 fun b hb o e => (I7.pin (b, o) (List.mem_append_right _ (List.mem_append_right _ (mem_pinsAt hb e)))).1, fun b hb => ?_, w7⟩
      obtain ⟨o, e, d⟩ := T.obj _ _ st5 b hb
      exact (I7.pin (b, o) (List.mem_append_right _ (List.mem_append_right _ (mem_pinsAt hb e)))).2.1
    cases f with
    | next => obtain ⟨σ7, H7, I7, n7⟩ := q7; exact again I7 n7
    | cont => obtain ⟨σ7, H7, I7, n7⟩ := q7; exact again I7 n7
    | brk => obtain ⟨σ7, H7, I7, q7⟩ := q7; exact ⟨σ7, H7, I7.unpinned, q7⟩
    | ret v => obtain ⟨x7, σ7, H7, I7, r7, q7⟩ := q7; exact ⟨x7, σ7, H7, I7.unpinned, r7, q7⟩
end
end L2
namespace L2
open PySem PySem.Spec PyProof.Rows
abbrev R2 := V → V → Hp → VK → Prop
def OpR (X : Cx) (f : Value → Value → Sem Value) (r : R2) : Prop :=
  ∀ (pins : List (Addr × Obj)) (s : Shared) (σ : St) (H : Hp) (x y : V) (v u : Value) (Q : VK), Inv X pins σ H s → RelV x v → RelV y u → r x y H Q →
    wpAny (model X.prog X.w) X.A (f v u) (EP X pins σ Q) X.xe s
def UnR (X : Cx) (f : Value → Sem Value) (r : V → Hp → VK → Prop) : Prop :=
  ∀ (pins : List (Addr × Obj)) (s : Shared) (σ : St) (H : Hp) (x : V) (v : Value) (Q : VK), Inv X pins σ H s → RelV x v → r x H Q →
    wpAny (model X.prog X.w) X.A (f v) (EP X pins σ Q) X.xe s
def CallR (X : Cx) (f : Value) (r : List V → Hp → VK → Prop) : Prop :=
  ∀ (pins : List (Addr × Obj)) (s : Shared) (σ : St) (H : Hp) (xs : List V) (us : List Value) (Q : VK), Inv X pins σ H s → Vals xs us → r xs H Q →
    wpAny (model X.prog X.w) X.A (call f us) (EP X pins σ Q) X.xe s
def TruR (X : Cx) (r : V → Hp → (Bool → Hp → Prop) → Prop) : Prop :=
  ∀ (pins : List (Addr × Obj)) (s : Shared) (σ : St) (H : Hp) (x : V) (v : Value) (Q : Bool → Hp → Prop), Inv X pins σ H s → RelV x v → r x H Q →
    wpAny (model X.prog X.w) X.A (truthy v) (TP X pins σ Q) X.xe s
def tOp (r : R2) (ta tb : TE) : TE := fun σ H Q => ta σ H fun x H1 => tb σ H1 fun y H2 => r x y H2 Q
def tUn (r : V → Hp → VK → Prop) (ta : TE) : TE := fun σ H Q => ta σ H fun x H1 => r x H1 Q
def rI (C : Int → Int → Prop) (g : Int → Int → V) : R2 := fun x y H Q => ∃ i j, x = .int i ∧ y = .int j ∧ C i j ∧ Q (g i j) H
def rI0 (g : Int → Int → V) : R2 := fun x y H Q => ∃ i j, x = .int i ∧ y = .int j ∧ Q (g i j) H
def rU (g : Int → V) : V → Hp → VK → Prop := fun x H Q => ∃ i, x = .int i ∧ Q (g i) H
section
variable {X : Cx} {a b c : Expr} {ta tb tc : TE} {pos : Pos}
theorem binT (ha : PE X a ta) (hb : PE X b tb) {pins : List (Addr × Obj)} {s : Shared} {σ : St} {H : Hp} {R : V → V → Hp → Prop} (I : Inv X pins σ H s)
    (h : ta σ H fun x H1 => tb σ H1 fun y H2 => R x y H2) {Q : Value → Shared → Prop} {f : Value → Value → Sem Value}
    (hf : ∀ v u s2 x y H2, Inv X pins σ H2 s2 → RelV x v → RelV y u → R x y H2 → wpAny (model X.prog X.w) X.A (f v u) Q X.xe s2) :
    wpAny (model X.prog X.w) X.A (eval a X.env) (fun v s₁ => wpAny (model X.prog X.w) X.A (eval b X.env) (fun u s₂ => wpAny (model X.prog X.w) X.A (f v u) Q X.xe s₂) X.xe s₁) X.xe s := by
  refine thn (ha pins s σ H _ I h) fun v s1 ⟨x, H1, I1, r1, q1⟩ => ?_
  refine thn (hb pins s1 σ H1 _ I1 q1) fun u s2 ⟨y, H2, I2, r2, q2⟩ => ?_
  exact hf v u s2 x y H2 I2 r1 r2 q2
theorem pe_op {op : Operator} {r : R2} (ho : OpR X (binaryOp op) r) (ha : PE X a ta) (hb : PE X b tb) : PE X (.BinOp a op b pos) (tOp r ta tb) := by
  intro pins s σ H Q I h
  exact wpAny_BinOp (binT ha hb I h fun v u s2 x y H2 I2 rx ry q => ho pins s2 σ H2 x y v u Q I2 rx ry q)
theorem pe_un {op : UnaryOp} {r : V → Hp → VK → Prop} (ho : UnR X (unaryOp op) r) (ha : PE X a ta) : PE X (.UnaryOp op a pos) (tUn r ta) := by
  intro pins s σ H Q I h
  exact UnaryOp_ (thn (ha pins s σ H _ I h) fun v s1 ⟨x, H1, I1, r1, q1⟩ => ho pins s1 σ H1 x v Q I1 r1 q1)
theorem opI {f : Value → Value → Sem Value} {C : Int → Int → Prop} {g : Int → Int → Int}
    (rule : ∀ (i j : Int) (t u : Tok) (s : Shared) (Q : Value → Shared → Prop) (E : Value → Shared → Prop), C i j → Q (.int (g i j) s.toks) { s with toks := s.toks + 1 } → wpAny (model X.prog X.w) X.A (f (.int i t) (.int j u)) Q E s) :
    OpR X f (rI C fun i j => .int (g i j)) := by
  intro pins s σ H x y v u Q I rx ry h
  obtain ⟨i, j, rfl, rfl, hc, q⟩ := h
  obtain ⟨t, rfl⟩ := rx
  obtain ⟨t', rfl⟩ := ry
  exact rule i j t t' s _ _ hc ⟨.int (g i j), H, I.tok _, ⟨_, rfl⟩, q⟩
theorem opI0 {f : Value → Value → Sem Value} {g : Int → Int → Int}
    (rule : ∀ (i j : Int) (t u : Tok) (s : Shared) (Q : Value → Shared → Prop) (E : Value → Shared → Prop), Q (.int (g i j) s.toks) { s with toks := s.toks + 1 } → wpAny (model X.prog X.w) X.A (f (.int i t) (.int j u)) Q E s) :
    OpR X f (rI0 fun i j => .int (g i j)) := by
  intro pins s σ H x y v u Q I rx ry h
  obtain ⟨i, j, rfl, rfl, q⟩ := h
  obtain ⟨t, rfl⟩ := rx
  obtain ⟨t', rfl⟩ := ry
  exact rule i j t t' s _ _ ⟨.int (g i j), H, I.tok _, ⟨_, rfl⟩, q⟩
theorem opB0 {f : Value → Value → Sem Value} {g : Int → Int → Bool}
    (rule : ∀ (i j : Int) (t u : Tok) (s : Shared) (Q : Value → Shared → Prop) (E : Value → Shared → Prop), Q (.bool (g i j)) s → wpAny (model X.prog X.w) X.A (f (.int i t) (.int j u)) Q E s) :
    OpR X f (rI0 fun i j => .bl (g i j)) := by
  intro pins s σ H x y v u Q I rx ry h
  obtain ⟨i, j, rfl, rfl, q⟩ := h
  obtain ⟨t, rfl⟩ := rx
  obtain ⟨t', rfl⟩ := ry
  exact rule i j t t' s _ _ ⟨.bl (g i j), H, I, rfl, q⟩
def CPow (i j : Int) : Prop := 0 ≤ j ∧ j ≤ 1000000 ∧ i.natAbs < 2 ^ 64
def CMul (i j : Int) : Prop := (-(2 ^ 64) < i ∧ i < 2 ^ 64) ∨ (-(2 ^ 64) < j ∧ j < 2 ^ 64)
theorem CMul.ok {i j : Int} (h : CMul i j) : IntMulOk i j := by
  rcases h with ⟨h1, h2⟩ | ⟨h1, h2⟩
  · exact .of_left (intBits_le_64 h1 h2)
  · exact .of_right (intBits_le_64 h1 h2)
theorem op_add : OpR X (binaryOp .Add) (rI0 fun i j => .int (i + j)) := opI0 fun _ _ _ _ _ _ _ q => add_int q
theorem op_sub : OpR X (binaryOp .Sub) (rI0 fun i j => .int (i - j)) := opI0 fun _ _ _ _ _ _ _ q => sub_int q
theorem op_mul : OpR X (binaryOp .Mult) (rI CMul fun i j => .int (i * j)) := opI fun _ _ _ _ _ _ _ hc q => mul_int q hc.ok
theorem op_mod : OpR X (binaryOp .Mod) (rI (fun _ j => 0 < j) fun i j => .int (i % j)) := opI fun i j _ _ _ _ _ hc q => by
  have h1 : (0 : Int) < j := hc
  exact mod_int' (by omega) (by rw [Int.fmod_eq_emod_of_nonneg i (by omega)]; exact q)
theorem op_pow : OpR X (binaryOp .Pow) (rI CPow fun i j => .int (i ^ j.toNat)) := opI fun _ _ _ _ _ _ _ hc q => pow_int_small hc.1 hc.2.1 hc.2.2 q
theorem unI {f : Value → Sem Value} {g : Int → Int}
    (rule : ∀ (i : Int) (t : Tok) (s : Shared) (Q : Value → Shared → Prop) (E : Value → Shared → Prop), Q (.int (g i) s.toks) { s with toks := s.toks + 1 } → wpAny (model X.prog X.w) X.A (f (.int i t)) Q E s) :
    UnR X f (rU fun i => .int (g i)) := by
  intro pins s σ H x v Q I rx h
  obtain ⟨i, rfl, q⟩ := h
  obtain ⟨t, rfl⟩ := rx
  exact rule i t s _ _ ⟨.int (g i), H, I.tok _, ⟨_, rfl⟩, q⟩
theorem un_neg : UnR X (unaryOp .USub) (rU fun i => .int (-i)) := unI fun _ _ _ _ _ q => neg_int q
end
section
variable {X : Cx} {a b c : Expr} {ta tb tc : TE} {pos : Pos}
theorem op_lt : OpR X (compareOp .Lt) (rI0 fun i j => .bl (decide (i < j))) := opB0 fun _ _ _ _ _ _ _ q => lt_int q
theorem op_le : OpR X (compareOp .LtE) (rI0 fun i j => .bl (decide (i ≤ j))) := opB0 fun _ _ _ _ _ _ _ q => le_int q
theorem op_gt : OpR X (compareOp .Gt) (rI0 fun i j => .bl (decide (j < i))) := opB0 fun _ _ _ _ _ _ _ q => gt_int q
theorem op_ge : OpR X (compareOp .GtE) (rI0 fun i j => .bl (decide (j ≤ i))) := opB0 fun _ _ _ _ _ _ _ q => ge_int q
theorem OpR.or {f : Value → Value → Sem Value} {r r' : R2} (h : OpR X f r) (h' : OpR X f r') : OpR X f (fun x y H Q => r x y H Q ∨ r' x y H Q) := by
  intro pins s σ H x y v u Q I rx ry q
  rcases q with q | q
  · exact h pins s σ H x y v u Q I rx ry q
  · exact h' pins s σ H x y v u Q I rx ry q
theorem nomark (b : Expr) {op : CmpOp} (h : op ≠ .In := by decide) (h2 : op ≠ .NotIn := by decide) : behindInMarks op b = false := by
  have e1 : (op == CmpOp.In) = false := by cases op <;> first | rfl | exact absurd rfl h
  have e2 : (op == CmpOp.NotIn) = false := by cases op <;> first | rfl | exact absurd rfl h2
  cases b <;> simp [behindInMarks, e1, e2]
theorem pe_cmpR {op : CmpOp} {r : R2} (ho : OpR X (compareOp op) r) (ha : PE X a ta) (hb : PE X b tb) (hm : behindInMarks op b = false) : PE X (.Compare a [op] [b] pos) (tOp r ta tb) := by
  intro pins s σ H Q I h
  exact wpAny_Compare1 (binT ha hb I h fun v u s2 x y H2 I2 rx ry q => ho pins s2 σ H2 x y v u Q I2 rx ry q) hm
def tTest (t : TE) : TT := fun σ H Q => t σ H fun x H' => ∃ k, x = .bl k ∧ Q k H'
theorem pt_cmpR {op : CmpOp} {r : R2} (ho : OpR X (compareOp op) r) (ha : PE X a ta) (hb : PE X b tb) (hm : behindInMarks op b = false) : PT X (.Compare a [op] [b] pos) (tTest (tOp r ta tb)) := by
  intro pins s σ H Q I h
  refine wpAny_isTrue_Compare1 (thn (ha pins s σ H _ I h) fun v s1 ⟨x, H1, I1, r1, q1⟩ => thn (hb pins s1 σ H1 _ I1 q1) fun u s2 ⟨y, H2, I2, r2, q2⟩ =>
    thn (ho pins s2 σ H2 x y v u _ I2 r1 r2 q2) fun c s3 ⟨z, H3, I3, r3, k, e, q3⟩ => ?_) hm
  subst e
  cases r3
  exact wpAny_truthy_bool ⟨H3, I3, q3⟩
def TruV (K : PySem.W.Frag) (x : V) (H : Hp) (k : Bool) : Prop :=
  match x with
  | .non => k = false
  | .bl b => k = b
  | .int i => k = (i != 0)
  | .str y => y.length ≤ sizeLine ∧ k = ((y.length : Int) != 0)
  | .byt y => y.size ≤ sizeLine ∧ k = ((y.size : Int) != 0)
  | .ref p => (∃ xs, SqL K H p xs ∧ k = !xs.isEmpty) ∨ (∃ xs, SqT K H p xs ∧ k = !xs.isEmpty) ∨ ∃ kvs, H p = some (.dK kvs) ∧ k = !kvs.isEmpty
  | _ => False
theorem isEmpty_kv {κ : Type} {kvs : List (κ × V)} {vs : List (κ × Value)} (r : KV kvs vs) : (!vs.isEmpty) = !kvs.isEmpty := by
  cases r <;> rfl
theorem isEmpty_of {xs : List V} {its : List Value} (r : Vals xs its) : (!its.toArray.isEmpty) = !xs.isEmpty := by
  cases r <;> simp
theorem line63 : (sizeLine : Nat) < 2 ^ 63 := by rw [sizeLine_eq]; decide
theorem tru_ok : TruR X (fun x H Q => ∃ k, TruV X.K x H k ∧ Q k H) := by
  intro pins s σ H x v Q I rx h
  obtain ⟨k, e, q⟩ := h
  have hl := line63
  have hs : sizeLine = 16777216 := sizeLine_eq
  cases x with
  | non =>
    cases rx
    have e' : k = false := e
    subst e'
    exact truthy_none ⟨H, I, q⟩
  | bl b =>
    cases rx
    have e' : k = b := e
    subst e'
    exact wpAny_truthy_bool ⟨H, I, q⟩
  | int i =>
    obtain ⟨t, rfl⟩ := rx
    have e' : k = (i != 0) := e
    subst e'
    exact PySem.P.truthy_int ⟨H, I, q⟩
  | str y =>
    obtain ⟨t, rfl⟩ := rx
    obtain ⟨hy, e'⟩ : y.length ≤ sizeLine ∧ k = ((y.length : Int) != 0) := e
    subst e'
    exact PySem.P.truthy_str (by omega) ⟨H, I.tok _, q⟩
  | byt y =>
    obtain ⟨t, rfl⟩ := rx
    obtain ⟨hy, e'⟩ : y.size ≤ sizeLine ∧ k = ((y.size : Int) != 0) := e
    subst e'
    exact PySem.W.truthy_bytes (by omega) ⟨H, I.tok _, q⟩
  | ref p =>
    cases rx
    have e' : (∃ xs, SqL X.K H p xs ∧ k = !xs.isEmpty) ∨ (∃ xs, SqT X.K H p xs ∧ k = !xs.isEmpty) ∨ ∃ kvs, H p = some (.dK kvs) ∧ k = !kvs.isEmpty := e
    rcases e' with ⟨xs, hx, e'⟩ | ⟨xs, hx, e'⟩ | ⟨kvs, hx, e'⟩
    · subst e'
      obtain ⟨its, r, pl, hz⟩ := I.list hx
      have hlen := r.length
      exact wpAny_truthy_list pl.isList (by simp only [List.size_toArray]; omega) ⟨H, I.tok _, by rw [isEmpty_of r]; exact q⟩
    · subst e'
      obtain ⟨its, r, pl, hz⟩ := I.tuple hx
      have hlen := r.length
      exact truthy_tuple pl (by simp only [List.size_toArray]; omega) ⟨H, I.tok _, by rw [isEmpty_of r]; exact q⟩
    · subst e'
      obtain ⟨hz, hS, vs, r, m⟩ : kvs.length ≤ sizeLine ∧ (p == sysModules) = false ∧ ∃ vs, KV kvs vs ∧ s.heap.DictOf (mixKind X.prog X.w) p vs := I.hok p _ hx
      have hlen : kvs.length = vs.length := Paired.length r
      exact wpAny_truthy_dict hS m (by omega) ⟨H, I.tok _, by rw [isEmpty_kv r]; exact q⟩
  | _ => exact (show False from e).elim
theorem pt_truth (ha : PE X a ta) (he : ∀ whole, isTrue a X.env whole = (do let v ← whole; standAt a.pos; holding [v] (truthy v))) :
    PT X a (fun σ H Q => ta σ H fun x H' => ∃ k, TruV X.K x H' k ∧ Q k H') := by
  intro pins s σ H Q I h
  exact isTrue_plain (thn (ha pins s σ H _ I h) fun v s1 ⟨x, H1, I1, r1, q1⟩ => tru_ok pins s1 σ H1 x v Q I1 r1 q1) (he _)
theorem op_add_str : OpR X (binaryOp .Add) (fun x y H Q => ∃ i j, x = .str i ∧ y = .str j ∧ i.length + j.length ≤ sizeLine ∧ Q (.str (i ++ j)) H) := by
  intro pins s σ H x y v u Q I rx ry h
  obtain ⟨i, j, rfl, rfl, hz, q⟩ := h
  obtain ⟨t, rfl⟩ := rx
  obtain ⟨t', rfl⟩ := ry
  exact add_str (fun t' tk => ⟨.str (i ++ j), H, I.tok _, ⟨_, rfl⟩, q⟩) hz
theorem vals1 {x : V} {us : List Value} (r : Vals [x] us) : ∃ u, us = [u] ∧ RelV x u := by
  cases r with
  | cons r1 r2 => cases r2; exact ⟨_, rfl, r1⟩
theorem vals2 {x y : V} {us : List Value} (r : Vals [x, y] us) : ∃ u w', us = [u, w'] ∧ RelV x u ∧ RelV y w' := by
  cases r with
  | cons r1 r2 =>
    cases r2 with
    | cons r3 r4 => cases r4; exact ⟨_, _, rfl, r1, r3⟩
theorem call_min2 (hc : X.calm = true) : CallR X (.builtin "min") (fun xs H Q => ∃ i j, xs = [.int i, .int j] ∧ Q (.int (if j < i then j else i)) H) := by
  intro pins s σ H xs us Q I r h
  obtain ⟨i, j, rfl, q⟩ := h
  obtain ⟨u, w', rfl, ⟨t, rfl⟩, ⟨t', rfl⟩⟩ := vals2 r
  refine min_two_ints (I.ok.hd hc) fun h' tk k => ⟨_, H, I.kept k, ?_, q⟩
  by_cases hj : j < i
  · rw [if_pos hj, if_pos hj]; exact ⟨_, rfl⟩
  · rw [if_neg hj, if_neg hj]; exact ⟨_, rfl⟩
theorem call_int1 : CallR X (.type "int") (fun xs H Q => (∃ i, xs = [.int i] ∧ Q (.int i) H) ∨ ∃ k, xs = [.bl k] ∧ Q (.int (if k then 1 else 0)) H) := by
  intro pins s σ H xs us Q I r h
  rcases h with ⟨i, rfl, q⟩ | ⟨k, rfl, q⟩
  · obtain ⟨u, rfl, t, rfl⟩ := vals1 r
    exact call_int_int ⟨.int i, H, I, ⟨_, rfl⟩, q⟩
  · obtain ⟨u, rfl, r1⟩ := vals1 r
    cases r1
    exact call_int_bool ⟨.int (if k then 1 else 0), H, I.tok _, ⟨_, rfl⟩, q⟩
def LenV (K : PySem.W.Frag) (x : V) (H : Hp) (n : Nat) : Prop :=
  match x with
  | .str y => y.length ≤ sizeLine ∧ n = y.length
  | .byt y => y.size ≤ sizeLine ∧ n = y.size
  | .ref p => (∃ xs, SqL K H p xs ∧ n = xs.length) ∨ ∃ xs, SqT K H p xs ∧ n = xs.length
  | _ => False
theorem call_len : CallR X (.builtin "len") (fun xs H Q => ∃ x n, xs = [x] ∧ LenV X.K x H n ∧ Q (.int n) H) := by
  intro pins s σ H xs us Q I r h
  obtain ⟨x, n, rfl, e, q⟩ := h
  obtain ⟨u, rfl, rx⟩ := vals1 r
  have hl := line63
  have hs : sizeLine = 16777216 := sizeLine_eq
  cases x with
  | str y =>
    obtain ⟨t, rfl⟩ := rx
    obtain ⟨hy, e'⟩ : y.length ≤ sizeLine ∧ n = y.length := e
    subst e'
    exact len_str (by omega) ⟨.int _, H, I.tok _, ⟨_, rfl⟩, q⟩
  | byt y =>
    obtain ⟨t, rfl⟩ := rx
    obtain ⟨hy, e'⟩ : y.size ≤ sizeLine ∧ n = y.size := e
    subst e'
    exact PySem.W.len_bytes (by omega) ⟨.int _, H, I.tok _, ⟨_, rfl⟩, q⟩
  | ref p =>
    cases rx
    have e' : (∃ xs, SqL X.K H p xs ∧ n = xs.length) ∨ ∃ xs, SqT X.K H p xs ∧ n = xs.length := e
    rcases e' with ⟨xs, hx, e'⟩ | ⟨xs, hx, e'⟩
    · subst e'
      obtain ⟨its, r', pl, hz⟩ := I.list hx
      have hlen := r'.length
      exact Calls.call_len_list pl.isList (by simp only [List.size_toArray]; omega) ⟨.int xs.length, H, I.tok _, ⟨_, by simp only [List.size_toArray]; rw [hlen]⟩, q⟩
    · subst e'
      obtain ⟨its, r', pl, hz⟩ := I.tuple hx
      have hlen := r'.length
      exact len_tuple pl (by simp only [List.size_toArray]; omega) ⟨.int xs.length, H, I.tok _, ⟨_, by simp only [List.size_toArray]; rw [hlen]⟩, q⟩
  | _ => exact (show False from e).elim
end
end L2
namespace L2
open PySem PySem.Spec PyProof.Rows
structure ObjM (h : Heap) (x dx C : Addr) (mA : Str → Option Value) : Prop where
  obj : h.get? x = some (PySem.W.instObj C dx)
  ns : h.Ns1 dx mA
  ne : dx ≠ x
section
variable {prog : Program} {w : World} {A : Around} {E : Value → Shared → Prop} {s : Shared} {K : PySem.W.Frag} {x dx C f : Addr} {mA : Str → Option Value} {name : Str} {v : Value}
end
section
variable {P : Program} {w : World} {H H' : Hp} {h h' : Heap} {a C dx : Addr} {fs fs' : List (Str × V)}
end
structure Cls (K : PySem.W.Frag) (C : Addr) : Prop where
  pg : PySem.W.plainGet K C Str.empty = true
  hd : PySem.W.hasDictIn K C = true
  po : PySem.W.plainOver K C = true
  sa : PySem.W.findIn K (.ref C) "__setattr__" = some (some (.builtin "object.__setattr__"))
theorem Cls.get {K : PySem.W.Frag} {C : Addr} (c : Cls K C) (f : Str) : PySem.W.plainGet K C f = true := c.pg
structure Con (K : PySem.W.Frag) (C : Addr) (f : Str) (v : V) (u : Value) : Prop where
  at_ : PySem.W.findIn K (.ref C) f = some (some u)
  rel : RelV v u
  get : PySem.W.specialIn K u "__get__" = some none
  cp : PySem.W.copiedNames.contains f = false
structure Meth (K : PySem.W.Frag) (C : Addr) (m : Str) (f : Addr) : Prop where
  at_ : PySem.W.findIn K (.ref C) m = some (some (.ref f))
  fn : PySem.W.isFn K (.ref f) = true
  kp : PySem.W.keepIn K (.ref f) = true
section
variable {X : Cx} {pins : List (Addr × Obj)} {σ : St} {H : Hp} {s : Shared} {a C dx : Addr} {fs : List (Str × V)} {f : Str} {v : V} {A : Around} {E : Value → Shared → Prop}
end
section
variable {X : Cx} {o e value : Expr} {f : Str} {pos pos' tpos : Pos} {ta tv : TE}
end
section
variable {X : Cx} {pins : List (Addr × Obj)} {σ : St} {H : Hp} {s : Shared} {A : Around} {E : Value → Shared → Prop} {Q : Value → Shared → Prop} {c : Value} {b : Bool}
inductive TyOf (K : PySem.W.Frag) (H : Hp) : V → Value → Prop where
  | non : TyOf K H .non (.type "NoneType")
  | bl (x : Bool) : TyOf K H (.bl x) (.type "bool")
  | int (i : Int) : TyOf K H (.int i) (.type "int")
  | str (x : Str) : TyOf K H (.str x) (.type "str")
  | flt (x : UInt64) : TyOf K H (.flt x) (.type "float")
  | lst {a : Addr} {xs : List V} (e : H a = some (.lst xs)) : TyOf K H (.ref a) (.type "list")
  | frz {a : Addr} {o : Obj} {xs : List V} (e : H a = some (.frz o (.lst xs))) : TyOf K H (.ref a) (.type "list")
  | tup {a : Addr} {xs : List V} (e : H a = some (.tup xs)) : TyOf K H (.ref a) (.type "tuple")
  | dK {a : Addr} {kvs : List (Key × V)} (e : H a = some (.dK kvs)) : TyOf K H (.ref a) (.type "dict")
  | dT {a : Addr} {kvs : List (List Key × V)} (e : H a = some (.dT kvs)) : TyOf K H (.ref a) (.type "dict")
  | ins {a C dx : Addr} {fs : List (Str × V)} (e : H a = some (.ins C dx fs)) (cl : Cls K C) (ha : PySem.W.findIn K (.ref C) "__class__" = some (some (.builtin "object.__class__")))
      (hn : PySem.W.specialIn K (.builtin "object.__class__") "__get__" = some (some (.builtin "getset_descriptor.__get__"))) (htk : PySem.W.takesIn K (.builtin "object.__class__") = some true)
      (hm : PySem.W.mroIn K C (.type "object") = some true) : TyOf K H (.ref a) (.ref C)
end
end L2
namespace L2
open PySem PySem.Spec PyProof.Rows
structure Room (k : Nat) (A : Around) : Prop where
  hd : A.handled = none
  dp : A.depth + 3 * k + 5 < recursionLimit
  un : A.units + 16 * k + 200 < cLine
  gd : A.guards = some []
theorem Room.mono {j k : Nat} {A : Around} (r : Room k A) (h : j ≤ k) : Room j A := ⟨r.hd, by have := r.dp; omega, by have := r.un; omega, r.gd⟩
theorem Room.deeper {k : Nat} {A : Around} (r : Room (k + 1) A) (env : Env) : Room k (A.deeper env) :=
  ⟨r.hd, by have := r.dp; show A.depth + 1 + 3 * k + 5 < _; omega, by have := r.un; show A.units + 3 + 16 * k + 200 < _; omega, by first | exact r.gd | (simpa [Around.deeper] using r.gd)⟩
theorem Room.in1 {k : Nat} {A : Around} (r : Room (k + 1) A) : Room k A.in1 :=
  ⟨r.hd, by have := r.dp; show A.depth + 3 * k + 5 < _; omega, by have := r.un; show A.units + 1 + 16 * k + 200 < _; omega, r.gd⟩
theorem Room.depth {k : Nat} {A : Around} (r : Room k A) : A.depth < recursionLimit := by have := r.dp; omega
theorem Room.units {k : Nat} {A : Around} (r : Room k A) : A.units + 64 < cLine := by have := r.un; omega
def tNil : TA := fun _ H Q => Q [] H
def tCons (ta : TE) (tr : TA) : TA := fun σ H Q => ta σ H fun x H1 => tr σ H1 fun xs H2 => Q (x :: xs) H2
section
variable {X : Cx} {e : Expr} {es : List Expr} {te : TE} {t : TA} {pos : Pos}
theorem pa_nil : PA X [] tNil := fun _ _ _ _ H Q I h => Calls.spliced_nil ⟨[], H, I, .nil, h⟩
theorem pa_cons (ha : PE X e te) (hr : PA X es t) (hs : starEach (e :: es) X.env = (false, eval e X.env) :: starEach es X.env := by rfl) : PA X (e :: es) (tCons te t) := by
  intro pos pins s σ H Q I h
  rw [hs]
  show wpAny _ _ (spliced ((false, eval e X.env) :: backTo pos (starEach es X.env))) _ _ s
  refine Calls.spliced_cons (thn (ha pins s σ H _ I h) fun u s1 ⟨x, H1, I1, r1, q1⟩ => ?_)
  exact thn (hr pos pins s1 σ H1 _ I1 q1) fun us s2 ⟨xs, H2, I2, r2, q2⟩ => ⟨x :: xs, H2, I2, .cons r1 r2, q2⟩
def tTup (t : TA) : TE := fun σ H Q => t σ H fun xs H1 => xs.length ≤ sizeLine ∧ ∀ p, H1 p = none → Q (.ref p) (upd H1 p (.tup xs))
def tLst (t : TA) : TE := fun σ H Q => t σ H fun xs H1 => xs.length ≤ sizeLine ∧ ∀ p, H1 p = none → Q (.ref p) (upd H1 p (.lst xs))
theorem pe_tup {x1} (h : PA X es t) : PE X (.Tuple es x1 pos) (tTup t) := by
  intro pins s σ H Q I hq
  refine wpAny_Tuple_spliced (thn (h pos pins s σ H _ I hq) fun us s1 ⟨xs, H1, I1, r, z, q⟩ => ⟨by rw [← r.length]; exact z, ?_⟩)
  have hf : H1 s1.heap.objs.size = none := I1.hok.fresh (Nat.le_refl _)
  refine ⟨.ref s1.heap.objs.size, upd H1 s1.heap.objs.size (.tup xs), I1.laid (t' := s1.toks) (fun b u e => Heap.get?_push_of_some _ e) (Nat.le_refl _) ?_, rfl, q _ hf⟩
  exact ⟨z, us, r, ⟨_, Heap.get?_push_size _ rfl, rfl, _, rfl⟩⟩
theorem pe_lst (h : PA X es t) : PE X (.List es pos) (tLst t) := by
  intro pins s σ H Q I hq
  refine wpAny_List_spliced (thn (h pos pins s σ H _ I hq) fun us s1 ⟨xs, H1, I1, r, z, q⟩ => ⟨by rw [← r.length]; exact z, ?_⟩)
  have hf : H1 s1.heap.objs.size = none := I1.hok.fresh (Nat.le_refl _)
  refine ⟨.ref s1.heap.objs.size, upd H1 s1.heap.objs.size (.lst xs), I1.laid (t' := s1.toks) (fun b u e => Heap.get?_push_of_some _ e) (Nat.le_refl _) ?_, rfl, q _ hf⟩
  exact ⟨z, us, 0, r, Heap.get?_push_size _ rfl⟩
end
abbrev Sp := List V → Hp → VK → XK → Prop
abbrev CXT := List Env → Hp → Shared → XK → Value → Shared → Prop
structure Env0 (P : Program) (w : World) (K : PySem.W.Frag) (mg : Str → Option Value) (base : Heap) (A : Around) (outer : List Env) (s : Shared) (H : Hp) : Prop where
  frames : A.frames = some outer
  mod : Mod K mg base
  bs : ∀ b o, base.get? b = some o → s.heap.get? b = some o ∧ H b = none
  bsz : base.objs.size ≤ s.heap.objs.size
  funs : s.heap.FunFrames base outer
  frf : ∀ b ∈ frs outer, H b = none
  hok : HOk P w H s.heap
  bare : AllBare s.gens
def CE (outer : List Env) (P : Program) (w : World) (H : Hp) (s : Shared) (Q : VK) (u : Value) (s' : Shared) : Prop :=
  ∃ v H', s'.os = s.os ∧ AllBare s'.gens ∧ Un (frs outer) [] H H' s.heap s'.heap ∧ HOk P w H' s'.heap ∧ RelV v u ∧ Q v H'
def CR (CX : CXT) (outer : List Env) (P : Program) (w : World) (H : Hp) (s : Shared) (Q : VK) (E : XK) (r : Result) (s' : Shared) : Prop :=
  match r with
  | .ok (.ret u) => CE outer P w H s Q u s'
  | .ok _ => False
  | .error e => CX outer H s E e s'
structure FnOk (P : Program) (w : World) (K : PySem.W.Frag) (mg : Str → Option Value) (base : Heap) (CX : CXT) (k : Nat) (f : Addr) (fd : FuncData) (ps : List Str) (sp : Sp) : Prop where
  len : ∀ vs H Q E, sp vs H Q E → vs.length = ps.length
  run : ∀ (A : Around) (outer : List Env) (s : Shared) (H : Hp) (args : Args) (us : List Value) (vs : List V) (Q : VK) (E : XK), Room k A → Env0 P w K mg base A outer s H → BindsTo s fd args (ps.zip us) → Vals vs us → sp vs H Q E →
    codeAny (model P w) A (.call (.ref f) args) (CR CX outer P w H s Q E) s
theorem FnOk.mono {P : Program} {w : World} {K : PySem.W.Frag} {mg : Str → Option Value} {base : Heap} {CX : CXT} {j k : Nat} {f : Addr} {fd : FuncData} {ps : List Str} {sp : Sp} (F : FnOk P w K mg base CX j f fd ps sp) (h : j ≤ k) :
    FnOk P w K mg base CX k f fd ps sp := ⟨F.len, fun A outer s H args us vs Q E hr => F.run A outer s H args us vs Q E (hr.mono h)⟩
theorem Env0.in1 {P : Program} {w : World} {K : PySem.W.Frag} {mg : Str → Option Value} {base : Heap} {A : Around} {outer : List Env} {s : Shared} {H : Hp} (e : Env0 P w K mg base A outer s H) :
    Env0 P w K mg base A.in1 outer s H := ⟨e.frames, e.mod, e.bs, e.bsz, e.funs, e.frf, e.hok, e.bare⟩
section
variable {X : Cx} {pins : List (Addr × Obj)} {σ : St} {H : Hp} {s s' : Shared}
theorem Inv.env0 (I : Inv X pins σ H s) : Env0 X.prog X.w X.K X.mg X.base X.A X.stack s H :=
  ⟨I.ok.frames, I.ok.mod, I.bs, Nat.le_trans I.ok.bsz I.sz, I.stack, I.stkFree, I.hok, I.bare⟩
theorem Inv.after {Q : VK} {u : Value} (I : Inv X pins σ H s) (h : CE X.stack X.prog X.w H s Q u s') : EP X pins σ Q u s' := by
  obtain ⟨v, H', os, bare, un, hok, r, q⟩ := h
  obtain ⟨hh, g, d, t, os'⟩ := s'
  obtain rfl : os' = s.os := os
  exact ⟨v, H', I.call (h' := hh) (g' := g) (d' := d) (t' := t) (ch := []) un hok bare (fun b z => absurd z (by simp)), r, q⟩
end
def tCall (sp : Sp) (dvs : List V) (E : XK) (t : TA) : TE := fun σ H Q => t σ H fun vs H1 => sp (vs ++ dvs) H1 Q E
def Binds (K : PySem.W.Frag) (fd : FuncData) (ps : List Str) (ds : List Value) : Prop :=
  ∀ (s : Shared) (us : List Value), K.In s.heap → (us ++ ds).length = ps.length → BindsTo s fd ⟨us, []⟩ (ps.zip (us ++ ds))
theorem Binds.all {K : PySem.W.Frag} {fd : FuncData} {ps : List Str} (h : ∀ us : List Value, us.length = ps.length → bindArgs fd ⟨us, []⟩ = pure (ps.zip us)) : Binds K fd ps [] := fun s us _ hl => by
  rw [List.append_nil] at hl ⊢
  exact .of_eq (h us hl)
def Passes (CX : CXT) (X : Cx) (E : XK) : Prop := ∀ (pins : List (Addr × Obj)) (σ : St) (H : Hp) (s : Shared) (e : Value) (s' : Shared), Inv X pins σ H s → CX X.stack H s E e s' → X.xe e s'
section
variable {X : Cx} {CX : CXT} {k : Nat} {f C : Addr} {fd : FuncData} {ps : List Str} {sp : Sp} {dvs : List V} {ds : List Value} {E : XK} {x m : Str} {p pos apos : Pos} {e o : Expr} {es : List Expr} {ta : TE} {t : TA}
theorem run_fn {pins : List (Addr × Obj)} {σ : St} {H : Hp} {s : Shared} {Q : VK} {us : List Value} {vs : List V} (F : FnOk X.prog X.w X.K X.mg X.base CX k f fd ps sp) (hr : Room k X.A) (hb : Binds X.K fd ps ds) (hd : Vals dvs ds) (hx : Passes CX X E)
    (I : Inv X pins σ H s) (r : Vals vs us) (h : sp (vs ++ dvs) H Q E) : wpAny (model X.prog X.w) X.A (call (.ref f) us) (EP X pins σ Q) X.xe s := by
  have r2 : Vals (vs ++ dvs) (us ++ ds) := r.append hd
  have hl : (us ++ ds).length = ps.length := by rw [← r2.length]; exact F.len _ _ _ _ h
  refine wpAny_call (codeAny_mono (F.run X.A X.stack s H ⟨us, []⟩ (us ++ ds) (vs ++ dvs) Q E hr I.env0 (hb s us I.kIn hl) r2 h) fun r s' hq => ?_)
  cases r with
  | error e => exact hx pins σ H s e s' I hq
  | ok fl =>
    cases fl with
    | ret u => exact I.after hq
    | next => exact False.elim hq
    | brk => exact False.elim hq
    | cont => exact False.elim hq
theorem pe_call (F : FnOk X.prog X.w X.K X.mg X.base CX k f fd ps sp) (hr : Room k X.A) (hg : Gl X x) (hm : X.mg x = some (.ref f)) (hk : PySem.W.keepIn X.K (.ref f) = true) (hb : Binds X.K fd ps ds) (hd : Vals dvs ds) (hx : Passes CX X E)
    (ha : PA X (e :: es) t) (hdb : (x == ("__debug__" : Str)) = false := by decide) (he : starEach (e :: es) X.env = (false, eval e X.env) :: starEach es X.env := by rfl) (hpl : (backTo pos (starEach es X.env)).any (·.1) = false := by rfl) :
    PE X (.Call (.Name x p) (e :: es) [] pos) (tCall sp dvs E t) := by
  intro pins s σ H Q I h
  refine wpAny_Call_Name_kw (ld_glob I hg hm ?_ hdb)
  refine PySem.W.callWith_K (h₀ := X.base) I.ok.mod.kin hk (thn (ha pos pins s σ H _ I h) fun us s1 ⟨vs, H1, I1, r, q⟩ => ⟨I1.kIn, ?_⟩) he hpl
  exact run_fn F hr hb hd hx I1 r q
structure Mk (K : PySem.W.Frag) (C f : Addr) : Prop where
  makes : PySem.W.makesIn K C = true
  init : PySem.W.findIn K (.ref C) "__init__" = some (some (.ref f))
  fn : PySem.W.isFn K (.ref f) = true
  kp : PySem.W.keepIn K (.ref C) = true
end
section
variable {X : Cx} {CX : CXT} {k : Nat} {f C : Addr} {fd : FuncData} {ps ks : List Str} {sp : Sp} {E : XK} {x m : Str} {p pos apos kpos : Pos} {e o : Expr} {es : List Expr} {kws : List Keyword} {te ta : TE} {t tk : TA} {nm : Option Str}
structure KBinds (K : PySem.W.Frag) (fd : FuncData) (ps ks : List Str) (g : List Value → List Value → List Value) (gV : List V → List V → List V) : Prop where
  to : ∀ (s : Shared) (us ws : List Value), K.In s.heap → (g us ws).length = ps.length → BindsTo s fd ⟨us, ks.zip ws⟩ (ps.zip (g us ws))
  rel : ∀ {vs : List V} {us : List Value} {zs : List V} {ws : List Value}, Vals vs us → Vals zs ws → Vals (gV vs zs) (g us ws)
variable {g : List Value → List Value → List Value} {gV : List V → List V → List V}
end
structure FnScope (N P : List Str) (sc : Scope) : Prop where
  kind : sc.kind = .function
  co : sc.isCoroutine = false
  gen : sc.isGenerator = false
  nd : N.Nodup
  pre : N.take P.length = P
  par : ∀ x ∈ P, sc.names.lookup x = some .local ∨ sc.names.lookup x = some .cell
  nofree : ∀ y ∈ sc.names, y.2 ≠ .free
theorem bindL_out {kindOf : Str → Option NameKind} {x : Str} : ∀ {binds : List (Str × Value)} {m : Str → Option Value}, (∀ v, (x, v) ∉ binds) → bindL kindOf binds m x = m x
  | [], _, _ => rfl
  | (n, v) :: r, m, h => by
    unfold bindL
    rw [bindL_out fun w hw => h w (List.mem_cons_of_mem _ hw)]
    split
    · have : x ≠ n := by rintro rfl; exact h v List.mem_cons_self
      simp [this]
    · rfl
theorem bindC_out {kindOf : Str → Option NameKind} {x : Str} : ∀ {binds : List (Str × Value)} {m : Str → Option Value}, (∀ v, (x, v) ∉ binds) → bindC kindOf binds m x = m x
  | [], _, _ => rfl
  | (n, v) :: r, m, h => by
    unfold bindC
    rw [bindC_out fun w hw => h w (List.mem_cons_of_mem _ hw)]
    split
    · rfl
    · have : x ≠ n := by rintro rfl; exact h v List.mem_cons_self
      simp [this]
theorem bindL_get {kindOf : Str → Option NameKind} {x : Str} {v : Value} : ∀ {P : List Str} {vs : List Value} {i : Nat} {m : Str → Option Value}, P.Nodup → P[i]? = some x → vs[i]? = some v → kindOf x = some .local →
    bindL kindOf (P.zip vs) m x = some v
  | [], _, _, _, _, h, _, _ => by simp at h
  | _ :: _, [], _, _, _, _, h, _ => by simp at h
  | p :: P, w :: vs, 0, m, nd, h1, h2, hk => by
    simp at h1 h2; subst h1; subst h2
    show bindL kindOf ((p, w) :: P.zip vs) m p = _
    unfold bindL
    rw [bindL_out fun v hv => (List.nodup_cons.mp nd).1 (List.of_mem_zip hv).1, if_pos hk]
    simp
  | p :: P, w :: vs, i + 1, m, nd, h1, h2, hk => by
    show bindL kindOf ((p, w) :: P.zip vs) m x = _
    unfold bindL
    exact bindL_get (i := i) (List.nodup_cons.mp nd).2 (by simpa using h1) (by simpa using h2) hk
theorem bindC_get {kindOf : Str → Option NameKind} {x : Str} {v : Value} : ∀ {P : List Str} {vs : List Value} {i : Nat} {m : Str → Option Value}, P.Nodup → P[i]? = some x → vs[i]? = some v → kindOf x ≠ some .local →
    bindC kindOf (P.zip vs) m x = some v
  | [], _, _, _, _, h, _, _ => by simp at h
  | _ :: _, [], _, _, _, _, h, _ => by simp at h
  | p :: P, w :: vs, 0, m, nd, h1, h2, hk => by
    simp at h1 h2; subst h1; subst h2
    show bindC kindOf ((p, w) :: P.zip vs) m p = _
    unfold bindC
    rw [bindC_out fun v hv => (List.nodup_cons.mp nd).1 (List.of_mem_zip hv).1, if_neg hk]
    simp
  | p :: P, w :: vs, i + 1, m, nd, h1, h2, hk => by
    show bindC kindOf ((p, w) :: P.zip vs) m x = _
    unfold bindC
    exact bindC_get (i := i) (List.nodup_cons.mp nd).2 (by simpa using h1) (by simpa using h2) hk
def start (N : List Str) (vs : List V) : St := vs.map some ++ List.replicate (N.length - vs.length) none
def cxOf (CX : CXT) (P : Program) (w : World) (K : PySem.W.Frag) (mg : Str → Option Value) (base : Heap) (N : List Str) (qual : Str) (scope : Scope) (f : Addr) (cd : Value) (A : Around) (outer : List Env) (s : Shared) (H : Hp) (E : XK) : Cx where
  prog := P
  w := w
  K := K
  mg := mg
  base := base
  A := A.deeper (envOfC qual scope s.heap.objs.size f cd)
  N := N
  s₀ := s
  H₀ := H
  env := envOfC qual scope s.heap.objs.size f cd
  outer := outer
  stack := envOfC qual scope s.heap.objs.size f cd :: outer
  ex := []
  calm := true
  fn := fun _ => true
  pn := []
  xe := fun e s' => wpAny (model P w) (A.deeper (envOfC qual scope s.heap.objs.size f cd)) (leaving (envOfC qual scope s.heap.objs.size f cd) e) (fun _ s'' => CX outer H s E e s'') (fun e' s'' => CX outer H s E e' s'') s'
theorem cell_has {sc : Scope} {n : Nat} {x : Str} (h : sc.names.lookup x = some .cell) : ∃ c, (cellsFrom n sc.names []).lookup x = some c := by
  have q := PySem.W.cellsFrom_some sc.names n [] (.inl h)
  exact Option.isSome_iff_exists.mp q
theorem inv_start {CX : CXT} {P : Program} {w : World} {K : PySem.W.Frag} {mg : Str → Option Value} {base : Heap} {N ps : List Str} {qual : Str} {scope : Scope} {f : Addr} {cd : Value} {A : Around} {outer : List Env} {s s1 : Shared} {H : Hp} {E : XK} {us : List Value} {vs : List V}
    (S : FnScope N ps scope) (hd : A.handled = none) (e0 : Env0 P w K mg base A outer s H) (hl : vs.length = ps.length) (r : Vals vs us)
    (x : InCallC s s.heap.objs.size (bindL (envOfC qual scope s.heap.objs.size f cd).kindOf (ps.zip us) fun _ => none) (cellsFrom (s.heap.objs.size + 1) scope.names []) (bindC (envOfC qual scope s.heap.objs.size f cd).kindOf (ps.zip us) fun _ => none) s1) :
    Inv (cxOf CX P w K mg base N qual scope f cd A outer s H E) [] (start N vs) H s1 := by
  have hpl : ps.length ≤ N.length := by have := congrArg List.length S.pre; rw [List.length_take] at this; omega
  obtain ⟨h1, tk, rfl, hk⟩ := x.done
  have noA : ∀ b : Addr, b ∉ (cxOf CX P w K mg base N qual scope f cd A outer s H E).ex := fun b z => absurd (show b ∈ ([] : List Addr) from z) (by simp)
  refine ⟨⟨e0.mod, S.kind, rfl, rfl, Nat.le_refl _, fun y z c h1 h2 => ?_, fun y hy => ?_, fun y c _ h => ?_, fun _ => hd, Around.frames_deeper e0.frames, .inr ⟨rfl, rfl⟩, fun b z => absurd z (noA b), e0.bs, e0.bsz, fun b _ _ => noA b, fun b z => absurd z (noA b), e0.funs, e0.frf⟩,
    rfl, e0.bare, Un.kept hk, ⟨_, x.toInCall.ns, fun i y v h1 h2 h3 => ?_⟩, fun y c h => ⟨_, x.cell y c h⟩, e0.hok.fresh (Nat.le_refl _), fun y c h => ?_, fun p hp => absurd (show p ∈ ([] : List (Addr × Obj)) from hp) (by simp), e0.hok.kept hk, ?_⟩
  · exact name_of_addr x.apart (PySem.mem_of_lookup h1) (PySem.mem_of_lookup h2)
  · have hy : scope.names.lookup y = some .cell ∨ scope.names.lookup y = some .free := hy
    rcases hy with hy | hy
    · exact cell_has hy
    · exact absurd rfl (S.nofree _ (PySem.mem_of_lookup hy))
  · exact Nat.le_of_lt (x.above y c (PySem.mem_of_lookup h))
  · have hi : i < vs.length := by
      unfold start at h2
      by_cases hi : i < vs.length
      · exact hi
      · rw [List.getElem?_append_right (by simpa using hi)] at h2
        rw [List.getElem?_replicate] at h2
        split at h2 <;> cases h2
    have ha : vs[i]? = some v := by
      unfold start at h2
      rw [List.getElem?_append_left (by simpa using hi), List.getElem?_map] at h2
      cases e : vs[i]? with
      | none => rw [e] at h2; cases h2
      | some a => rw [e] at h2; cases h2; rfl
    obtain ⟨u, hu, rv⟩ := r.get ha
    have hp : ps[i]? = some y := by
      rw [← S.pre, List.getElem?_take_of_lt (by omega)]; exact h1
    have ndP : ps.Nodup := by rw [← S.pre]; exact S.nd.sublist (List.take_sublist _ _)
    refine ⟨u, rv, ?_⟩
    rcases S.par y (List.mem_of_getElem? hp) with k | k
    · exact .inl ⟨k, bindL_get ndP hp hu k⟩
    · obtain ⟨c, e⟩ := cell_has (n := s.heap.objs.size + 1) k
      refine .inr ⟨.inl k, c, e, ?_⟩
      have q := x.cell y c e
      rw [bindC_get ndP hp hu (by show scope.names.lookup y ≠ _; rw [k]; decide)] at q
      exact q
  · exact e0.hok.fresh (Nat.le_of_lt (x.above y c (PySem.mem_of_lookup h)))
  · unfold start
    show _ = N.length
    rw [List.length_append, List.length_map, List.length_replicate]
    omega
theorem fn_of {CX : CXT} {P : Program} {w : World} {K : PySem.W.Frag} {mg : Str → Option Value} {base : Heap} {k : Nat} {f : Addr} {name qual : Str} {params : Arguments} {body : List Stmt} {scope : Scope} {dV kV doc pm cdv ct oc : Value} {an od : Option Addr}
    {osl : Array (Option Value)} {N ps : List Str} {sp : Sp} (lk : K.lookup f = some ⟨oc, od, .func (PySem.W.fnOf name qual params body scope dV kV doc pm an cdv ct), osl⟩) (hcd : PySem.W.codeIn K cdv qual = true) (S : FnScope N ps scope)
    (len : ∀ vs H Q E, sp vs H Q E → vs.length = ps.length)
    (hbody : ∀ (A : Around) (outer : List Env) (s : Shared) (H : Hp) (vs : List V) (Q : VK) (E : XK), Room k (A.deeper (envOfC qual scope s.heap.objs.size f cdv)) → sp vs H Q E →
      ∃ t, PSs (cxOf CX P w K mg base N qual scope f cdv A outer s H E) body t ∧ t { nx := fun _ H' => Q .non H', rt := Q } (start N vs) H) :
    FnOk P w K mg base CX (k + 1) f (PySem.W.fnOf name qual params body scope dV kV doc pm an cdv ct) ps sp := by
  refine ⟨len, fun A outer s H args us vs Q E hr e0 hb r hsp => ?_⟩
  have hl := len _ _ _ _ hsp
  have KX : K.In s.heap := e0.mod.kin.keeps fun b o e => (e0.bs b o e).1
  have lim : s.heap.NoLimit := e0.mod.nolimit.keeps fun b o e => (e0.bs b o e).1
  have hkind : ∀ y ∈ ps.zip us, scope.names.lookup y.1 = some .local ∨ (scope.names.lookup y.1 = some .cell ∧ ((cellsFrom (s.heap.objs.size + 1) scope.names []).lookup y.1).isSome = true) := fun ⟨n, v⟩ hy => by
    rcases S.par n (List.of_mem_zip hy).1 with q | q
    · exact .inl q
    · exact .inr ⟨q, PySem.W.cellsFrom_some _ _ _ (.inl q)⟩
  refine codeAny_call_function hr.depth (KX _ _ lk) rfl S.co S.gen rfl (PySem.W.codeRec_of KX hcd) (hb _ _ _ _ ?_)
  refine wpAny_newFunctionEnv_cells S.kind hkind fun env he s1 x => ?_
  subst he
  refine ⟨lim.keeps x.toInCall.keep, codeAny_func ?_⟩
  obtain ⟨t, ht, hq⟩ := hbody A outer s H vs Q E (hr.deeper _) hsp
  have I : Inv (cxOf CX P w K mg base N qual scope f cdv A outer s H E) [] (start N vs) H s1 := inv_start S hr.hd e0 hl r x
  refine wpAny_mono (ht [] s1 (start N vs) H _ I hq) (fun fl s' hs => ?_) fun e s' hs => hs
  have fin : ∀ {σ' : St} {H' : Hp} {v : V} {u : Value}, Inv (cxOf CX P w K mg base N qual scope f cdv A outer s H E) [] σ' H' s' → RelV v u → Q v H' → CE outer P w H s Q u s' :=
    fun {σ' H' v u} J rv q => ⟨v, H', J.os, J.bare, J.base, J.hok, rv, q⟩
  cases fl with
  | ret u =>
    obtain ⟨v, σ', H', J, rv, q⟩ := hs
    exact fin J rv q
  | next =>
    obtain ⟨σ', H', J, q⟩ := hs
    exact fin (v := V.non) (u := Value.none) J rfl q
  | brk =>
    obtain ⟨_, _, _, q⟩ := hs
    exact False.elim q
  | cont =>
    obtain ⟨_, _, _, q⟩ := hs
    exact False.elim q
end L2
namespace L2
open PySem PySem.Spec PyProof.Rows
section
variable {X : Cx} {x : Str} {p pos : Pos} {e : Expr} {es : List Expr} {t : TA} {id T : String} {r : List V → Hp → VK → Prop}
def tCB (r : List V → Hp → VK → Prop) (t : TA) : TE := fun σ H Q => t σ H fun vs H1 => r vs H1 Q
theorem pe_callB (hc : CallR X (.builtin id) r) (hg : Gl X x) (hm : X.mg x = none) (hv : bootBuiltins x = some (.builtin id)) (ha : PA X (e :: es) t) (hn : x ≠ "__name__" := by decide) (hdb : (x == ("__debug__" : Str)) = false := by decide)
    (he : starEach (e :: es) X.env = (false, eval e X.env) :: starEach es X.env := by rfl) (hpl : (backTo pos (starEach es X.env)).any (·.1) = false := by rfl) : PE X (.Call (.Name x p) (e :: es) [] pos) (tCB r t) := by
  intro pins s σ H Q I h
  refine wpAny_Call_Name_kw (ld_blt I hg hm hv ?_ hn hdb)
  exact PyProof.Rows.callWith_builtin1 (thn (ha pos pins s σ H _ I h) fun us s1 ⟨vs, H1, I1, r1, q1⟩ => hc pins s1 σ H1 vs us Q I1 r1 q1) he hpl
theorem pe_callTy (hc : CallR X (.type T) r) (hg : Gl X x) (hm : X.mg x = none) (hv : bootBuiltins x = some (.type T)) (ha : PA X (e :: es) t) (hn : x ≠ "__name__" := by decide) (hdb : (x == ("__debug__" : Str)) = false := by decide)
    (he : starEach (e :: es) X.env = (false, eval e X.env) :: starEach es X.env := by rfl) (hpl : (backTo pos (starEach es X.env)).any (·.1) = false := by rfl) : PE X (.Call (.Name x p) (e :: es) [] pos) (tCB r t) := by
  intro pins s σ H Q I h
  refine wpAny_Call_Name_kw (ld_blt I hg hm hv ?_ hn hdb)
  exact PyProof.Rows.callWith_type1 (thn (ha pos pins s σ H _ I h) fun us s1 ⟨vs, H1, I1, r1, q1⟩ => hc pins s1 σ H1 vs us Q I1 r1 q1) he hpl
end
end L2
namespace HT
open PySem PyProof.Rows
section
open PySem.SeqAt
open PySem.AutoSeq1 (wpAny_loadPart')
open PySem.MeetsSeq PySem.MeetsSeq2 PySem.MeetsSeq3
end
section
variable {prog : Program} {w : World} {A : Around} {E : Value → Shared → Prop} {s : Shared}
theorem cat_tup {t b : Addr} {vs ws : List Value} {Q : Value → Shared → Prop} (ht : IsTup s.heap t vs.toArray) (hb : IsTup s.heap b ws.toArray) (hv : vs ≠ [])
    (h1 : ws = [] → Q (.ref t) s) (h2 : ws ≠ [] → Q (.ref s.heap.objs.size) { s with heap := s.heap.push { cls := .type "tuple", data := .seq (vs ++ ws).toArray } })
    (hsz : vs.length + ws.length ≤ sizeLine) : wpAny (model prog w) A (binaryOp .Add (.ref t) (.ref b)) Q E s := by
  obtain ⟨⟨cls, dd, data, sl⟩, ho, hc, n, hd⟩ := id ht
  obtain ⟨⟨cls2, dd2, data2, sl2⟩, ho2, hc2, n2, hd2⟩ := id hb
  simp only at hc hd hc2 hd2
  subst hc hd hc2 hd2
  have e : vs.toArray ++ ws.toArray = (vs ++ ws).toArray := by simp
  by_cases hw : ws = []
  · exact concat_meets ⟨_, ho, rfl⟩ ⟨_, ho2, rfl⟩ noFill_tuple_add seq_tuple_add PySem.F.slot_tuple_add PySem.F.entry_tuple_add (PySem.F.args_tuple_add_2 _ _)
      (tuple_addW1 t b vs.toArray ws.toArray n n2 dd dd2 sl sl2 (by simpa using hv) (by simp [hw])) ⟨ho, ho2, h1 hw⟩
  · refine concat_meets ⟨_, ho, rfl⟩ ⟨_, ho2, rfl⟩ noFill_tuple_add seq_tuple_add PySem.F.slot_tuple_add PySem.F.entry_tuple_add (PySem.F.args_tuple_add_2 _ _)
      (tuple_addW2 t b vs.toArray ws.toArray n n2 dd dd2 sl sl2 (by simpa using hv) (by simpa using hw) (by rw [List.size_toArray, List.size_toArray]; exact hsz)) ⟨ho, ho2, ?_⟩
    rw [e]
    exact h2 hw
def sIx (n d : Nat) : Option Int → Nat
  | none => d
  | some v => if v < 0 then (v + (n : Int)).toNat else min v.toNat n
theorem sIx_none (n d : Nat) : sIx n d none = d := rfl
theorem sIx_nat (n d k : Nat) : sIx n d (some (k : Int)) = min k n := by
  show (if (k : Int) < 0 then ((k : Int) + (n : Int)).toNat else min (k : Int).toNat n) = min k n
  rw [if_neg (by omega), Int.toNat_natCast]
theorem sIx_le (n d : Nat) (hd : d ≤ n) (o : Option Int) : sIx n d o ≤ n := by
  cases o with
  | none => exact hd
  | some v =>
    show (if v < 0 then (v + (n : Int)).toNat else min v.toNat n) ≤ n
    by_cases hv : v < 0
    · rw [if_pos hv]; omega
    · rw [if_neg hv]; exact Nat.min_le_right _ _
theorem clip_eq (v : Int) (n d : Nat) : (if v < 0 then max (v + (n : Int)) 0 else min v (n : Int)) = ((sIx n d (some v) : Nat) : Int) := by
  show (if v < 0 then max (v + (n : Int)) 0 else min v (n : Int)) = (((if v < 0 then (v + (n : Int)).toNat else min v.toNat n) : Nat) : Int)
  by_cases hv : v < 0
  · simp only [if_pos hv]; omega
  · simp only [if_neg hv]; omega
theorem adjust_gen (lo hi : Option Int) (n : Nat) : Builtin.Slice.sliceAdjust lo hi 1 (n : Int) = (((sIx n 0 lo : Nat) : Int), ((sIx n n hi : Nat) : Int)) := by
  have h1 : ¬ ((1 : Int) < 0) := by omega
  unfold Builtin.Slice.sliceAdjust
  simp only [h1, if_false]
  refine Prod.ext ?_ ?_
  · cases lo with
    | none => rfl
    | some v => exact clip_eq v n 0
  · cases hi with
    | none => rfl
    | some v => exact clip_eq v n n
theorem places_gen (i j : Nat) : Builtin.Slice.slicePlaces (i : Int) (j : Int) 1 = j - i := by
  unfold Builtin.Slice.slicePlaces
  have h1 : (1 : Int) > 0 := by omega
  simp only [h1, if_true, Int.ediv_one]
  split <;> omega
theorem slicePart_ {v : Value} {o : Option Int} {Q : Option Int → Shared → Prop} (p : IsPart v o) (h : Q o s) : wpAny (model prog w) A (Builtin.Slice.slicePartIndex v) Q E s := by
  cases p with
  | none => exact slicePart_none h
  | int i t => exact slicePart_int h
theorem sliceApplied_gen {sl : Addr} {vl vu : Value} {lo hi : Option Int} {n : Nat} {Q : Int × Int × Nat → Shared → Prop} (hs : s.heap.IsSliceOf sl vl vu .none) (pl : IsPart vl lo) (pu : IsPart vu hi)
    (h : Q (((sIx n 0 lo : Nat) : Int), 1, sIx n n hi - sIx n 0 lo) s) : wpAny (model prog w) A (Builtin.Slice.sliceApplied (.ref sl) (pure (n : Int))) Q E s := by
  obtain ⟨os, hos, hcs, hds⟩ := id hs
  unfold Builtin.Slice.sliceApplied Builtin.Slice.sliceFields
  refine wpAny_bind (wpAny_bind (wpAny_field hos hds (x := vl) rfl (wpAny_bind (wpAny_field hos hds (x := vu) rfl (wpAny_bind (wpAny_field hos hds (x := .none) rfl (wpAny_pure ?_)))))))
  refine wpAny_bind (slicePart_none ?_)
  show wpAny _ _ (if ((1 : Int) == 0) = true then _ else _) _ _ s
  rw [if_neg (by decide)]
  refine wpAny_bind (slicePart_ pl (wpAny_bind (slicePart_ pu (wpAny_bind (wpAny_pure ?_)))))
  show wpAny _ _ (match Builtin.Slice.sliceAdjust lo hi 1 (n : Int) with | (lo, hi) => pure (lo, (1 : Int), Builtin.Slice.slicePlaces lo hi 1)) _ _ s
  rw [adjust_gen lo hi n]
  show wpAny _ _ (pure (((sIx n 0 lo : Nat) : Int), (1 : Int), Builtin.Slice.slicePlaces ((sIx n 0 lo : Nat) : Int) ((sIx n n hi : Nat) : Int) 1)) _ _ s
  rw [places_gen]
  exact wpAny_pure h
theorem pick_gen (xs : Array Value) (i k : Nat) : ((List.range k).filterMap fun (m : Nat) => xs[((i : Int) + (m : Int) * 1).toNat]?).toArray = ((xs.toList.drop i).take k).toArray := by
  have e : (fun (m : Nat) => xs[((i : Int) + (m : Int) * 1).toNat]?) = fun m => xs[i + m]? := by
    funext m
    have : ((i : Int) + (m : Int) * 1).toNat = i + m := by omega
    rw [this]
  rw [e]
  have := pick_run xs i k
  rw [List.filterMap_map] at this
  have e2 : ((fun x => xs[x]?) ∘ fun x => i + x) = fun m => xs[i + m]? := rfl
  rw [e2] at this
  rw [this]
theorem getItem_tuple_cut {t sl : Addr} {items : Array Value} {vl vu : Value} {lo hi : Option Int} {Q : Value → Shared → Prop} (ht : IsTup s.heap t items) (hs : s.heap.IsSliceOf sl vl vu .none) (pl : IsPart vl lo) (pu : IsPart vu hi)
    (hw : ¬ (sIx items.size 0 lo = 0 ∧ sIx items.size items.size hi = items.size))
    (h : Q (.ref s.heap.objs.size) { s with heap := s.heap.push { cls := .type "tuple", data := .seq ((items.toList.drop (sIx items.size 0 lo)).take (sIx items.size items.size hi - sIx items.size 0 lo)).toArray } })
    (hsz : items.size ≤ sizeLine) : wpAny (model prog w) A (getItem (.ref t) (.ref sl)) Q E s := by
  have htake : sizeOk (.seq ((items.toList.drop (sIx items.size 0 lo)).take (sIx items.size items.size hi - sIx items.size 0 lo)).toArray) := by
    show ((items.toList.drop (sIx items.size 0 lo)).take (sIx items.size items.size hi - sIx items.size 0 lo)).toArray.size ≤ sizeLine
    rw [List.size_toArray, List.length_take, List.length_drop, Array.length_toList]
    omega
  have hj : sIx items.size items.size hi ≤ items.size := sIx_le _ _ (Nat.le_refl _) hi
  obtain ⟨os, hos, hcs, hds⟩ := id hs
  have hTs : s.TypeIs (.ref sl) "slice" := ⟨os, hos, hcs⟩
  unfold getItem
  try with_reducible refine wpAny_holding ?_
  first | refine wpAny_bind (wpAny_pure ?_) | skip
  refine wpAny_bind (wpAny_sequenceKey ht.typeIs (by decide) ?_)
  refine wpAny_bind (wpAny_callSpecial?_slot (name := Str.ofString "__getitem__") ht.typeIs PyProof.Rows.slot_tuple_getitem
    (wpAny_call_entry PyProof.Rows.slot_tuple_getitem ht.typeIs entry_tuple_getitem ?_ (args_tuple_getitem _ _)))
  show wpAny _ _ (Builtin.Tuple.tupleItemsOf (.ref t) >>= _) _ _ s
  refine wpAny_bind (tupleItemsOf_ ht ?_)
  refine wpAny_bind (wpAny_typeOf hTs ?_)
  rw [if_pos (by decide)]
  refine wpAny_bind (sliceApplied_gen hs pl pu ?_)
  have hno : ¬ ((((sIx items.size 0 lo : Nat) : Int) == 0 && (1 : Int) == 1 && (sIx items.size items.size hi - sIx items.size 0 lo) == items.size) = true) := by
    intro q
    rw [Bool.and_eq_true, Bool.and_eq_true] at q
    have q1 : ((sIx items.size 0 lo : Nat) : Int) = 0 := eq_of_beq q.1.1
    have q2 : sIx items.size items.size hi - sIx items.size 0 lo = items.size := eq_of_beq q.2
    exact hw ⟨by omega, by omega⟩
  show wpAny _ _ (if (((sIx items.size 0 lo : Nat) : Int) == 0 && (1 : Int) == 1 && (sIx items.size items.size hi - sIx items.size 0 lo) == items.size) = true then _ else _) _ _ s
  rw [if_neg hno, pick_gen]
  first
    | exact wpAny_bind (m := Builtin.Tuple.tupleExact _) (wpAny_newObj_type (wpAny_pure ⟨_, rfl, wpAny_pure h⟩) htake)
    | exact wpAny_bind (m := Builtin.Tuple.tupleExact _) (wpAny_newObj_type (wpAny_bind (wpAny_pure (wpAny_pure ⟨_, rfl, wpAny_pure h⟩))) htake)
    | exact wpAny_bind (wpAny_bind (m := Builtin.Tuple.tupleExact _) (wpAny_newObj_type (wpAny_pure (wpAny_pure ⟨_, rfl, wpAny_pure h⟩)) htake))
    | exact wpAny_bind (wpAny_bind (m := Builtin.Tuple.tupleExact _) (wpAny_newObj_type (wpAny_pure ⟨_, rfl, wpAny_pure h⟩) htake))
end
end HT
namespace L2
open PySem PySem.Spec PyProof.Rows
abbrev TO := St → Hp → (Option Int → Hp → Prop) → Prop
def PO (X : Cx) (e : Option Expr) (t : TO) : Prop :=
  ∀ (pins : List (Addr × Obj)) (s : Shared) (σ : St) (H : Hp) (Q : Option Int → Hp → Prop), Inv X pins σ H s → t σ H Q →
    wpAny (model X.prog X.w) X.A (evalPart e X.env) (fun u s' => ∃ o H', Inv X pins σ H' s' ∧ IsPart u o ∧ Q o H') X.xe s
def tNoPart : TO := fun _ H Q => Q none H
def tPart (t : TE) : TO := fun σ H Q => t σ H fun x H1 => ∃ i, x = .int i ∧ Q (some i) H1
theorem intsAre_of {ns : List Int} : ∀ {us : List Value}, Vals (ns.map V.int) us → IntsAre us ns := by
  induction ns with
  | nil => intro us r; rw [List.map_nil] at r; cases r; exact .nil
  | cons n ns ih =>
    intro us r
    rw [List.map_cons] at r
    cases r with
    | cons r1 r2 =>
      obtain ⟨t, e⟩ := r1
      subst e
      exact .cons n t (ih r2)
section
variable {X : Cx} {e : Expr} {te : TE} {lo hi : Option Expr} {tl th : TO} {pos p2 : Pos}
theorem po_none : PO X none tNoPart := by
  intro pins s σ H Q I h
  rw [evalPart_none]
  exact wpAny_pure ⟨none, H, I, .none, h⟩
theorem po_some (h : PE X e te) : PO X (some e) (tPart te) := by
  intro pins s σ H Q I hw
  rw [evalPart_some]
  refine thn (h pins s σ H _ I hw) fun u s1 ⟨x, H1, I1, r1, q1⟩ => ?_
  obtain ⟨i, rfl, q⟩ := q1
  obtain ⟨t, rfl⟩ := r1
  exact ⟨some i, H1, I1, .int i t, q⟩
def SlR (X : Cx) (r : V → Option Int → Option Int → Hp → VK → Prop) : Prop :=
  ∀ (pins : List (Addr × Obj)) (s : Shared) (σ : St) (H : Hp) (x : V) (v vl vu : Value) (lo hi : Option Int) (sl : Addr) (Q : VK), Inv X pins σ H s → RelV x v → s.heap.IsSliceOf sl vl vu .none → IsPart vl lo → IsPart vu hi → r x lo hi H Q →
    ∃ T id, typeLookup (.type T) "__getitem__" = pure (some (.builtin id)) ∧ s.TypeIs v T ∧ wpAny (model X.prog X.w) X.A (getItem v (.ref sl)) (EP X pins σ Q) X.xe s
theorem SlR.or {r r' : V → Option Int → Option Int → Hp → VK → Prop} (h : SlR X r) (h' : SlR X r') : SlR X (fun x lo hi H Q => r x lo hi H Q ∨ r' x lo hi H Q) := by
  intro pins s σ H x v vl vu lo hi sl Q I rx hs pl pu q
  rcases q with q | q
  · exact h pins s σ H x v vl vu lo hi sl Q I rx hs pl pu q
  · exact h' pins s σ H x v vl vu lo hi sl Q I rx hs pl pu q
def tSl (r : V → Option Int → Option Int → Hp → VK → Prop) (te : TE) (tl th : TO) : TE := fun σ H Q => te σ H fun x H1 => tl σ H1 fun l H2 => th σ H2 fun u H3 => r x l u H3 Q
theorem pe_slice {r : V → Option Int → Option Int → Hp → VK → Prop} (hr : SlR X r) (he : PE X e te) (hl : PO X lo tl) (hu : PO X hi th) : PE X (.Subscript e (.Slice lo hi none p2) pos) (tSl r te tl th) := by
  intro pins s σ H Q I h
  refine Subscript_ (thn (he pins s σ H _ I h) fun v s1 ⟨x, H1, I1, r1, q1⟩ => ?_)
  refine wpAny_Slice (thn (hl pins s1 σ H1 _ I1 q1) fun vl s2 ⟨l, H2, I2, pl, q2⟩ => thn (hu pins s2 σ H2 _ I2 q2) fun vu s3 ⟨u, H3, I3, pu, q3⟩ => ?_)
  rw [evalPart_none]
  refine wpAny_pure ?_
  have I4 : Inv X pins σ H3 { s3 with heap := s3.heap.push { cls := .type "slice", data := .fields #[vl, vu, .none] } } := I3.kept (t' := s3.toks) fun b ob q => Heap.get?_push_of_some _ q
  obtain ⟨T, id, hT, ht, hg⟩ := hr pins { s3 with heap := s3.heap.push { cls := .type "slice", data := .fields #[vl, vu, .none] } } σ H3 x v vl vu l u s3.heap.objs.size Q I4 r1 (Heap.IsSliceOf.new ..) pl pu q3
  show wpAny (model X.prog X.w) X.A (subscriptTail e (.Slice lo hi none p2) v (.ref s3.heap.objs.size)) (EP X pins σ Q) X.xe { s3 with heap := s3.heap.push { cls := .type "slice", data := .fields #[vl, vu, .none] } }
  exact tail_any (ops := [.ref s3.heap.objs.size, v]) ht hT hg (by with_unfolding_all rfl)
def cutV (xs : List V) (lo hi : Option Int) : List V := (xs.drop (HT.sIx xs.length 0 lo)).take (HT.sIx xs.length xs.length hi - HT.sIx xs.length 0 lo)
theorem cutV_length (xs : List V) (lo hi : Option Int) : (cutV xs lo hi).length ≤ xs.length := by
  unfold cutV
  rw [List.length_take, List.length_drop]
  omega
def rSlT (K : PySem.W.Frag) : V → Option Int → Option Int → Hp → VK → Prop := fun x lo hi H Q => ∃ a xs, x = .ref a ∧ SqT K H a xs ∧
  ¬ (HT.sIx xs.length 0 lo = 0 ∧ HT.sIx xs.length xs.length hi = xs.length) ∧ ∀ p, H p = none → Q (.ref p) (upd H p (.tup (cutV xs lo hi)))
theorem sl_tup : SlR X (rSlT X.K) := by
  intro pins s σ H x v vl vu lo hi sl Q I rx hs pl pu h
  obtain ⟨a, xs, rfl, hx, hw, q⟩ := h
  cases rx
  obtain ⟨its, r, ht, hz⟩ := I.tuple hx
  have hlen : its.toArray.size = xs.length := by rw [List.size_toArray]; exact r.length.symm
  refine ⟨"tuple", _, PyProof.Rows.slot_tuple_getitem.lookup, ht.typeIs, ?_⟩
  refine HT.getItem_tuple_cut ht hs pl pu (by rw [hlen]; exact hw) ?_ (by rw [hlen]; exact hz)
  rw [hlen]
  refine ⟨.ref s.heap.objs.size, _, I.laid (t' := s.toks) (o := .tup (cutV xs lo hi)) (fun b ob q => Heap.get?_push_of_some _ q) (Nat.le_refl _) ?_, rfl, q _ (I.hok.fresh (Nat.le_refl _))⟩
  exact ⟨Nat.le_trans (cutV_length xs lo hi) hz, _, (r.drop (HT.sIx xs.length 0 lo)).take (HT.sIx xs.length xs.length hi - HT.sIx xs.length 0 lo), IsTup.new _ _⟩
def rCatT (K : PySem.W.Frag) : R2 := fun x y H Q => ∃ a b xs ys, x = .ref a ∧ y = .ref b ∧ SqT K H a xs ∧ SqT K H b ys ∧ xs ≠ [] ∧ xs.length + ys.length ≤ sizeLine ∧
  (ys = [] → Q (.ref a) H) ∧ (ys ≠ [] → ∀ p, H p = none → Q (.ref p) (upd H p (.tup (xs ++ ys))))
theorem Vals.nil_iff {xs : List V} {us : List Value} (r : Vals xs us) : us = [] ↔ xs = [] := by
  cases r with
  | nil => simp
  | cons _ _ => simp
theorem op_catT : OpR X (binaryOp .Add) (rCatT X.K) := by
  intro pins s σ H x y v u Q I rx ry h
  obtain ⟨a, b, xs, ys, rfl, rfl, ha, hb, hx, hz, q1, q2⟩ := h
  cases rx
  cases ry
  obtain ⟨its, r1, p1, _⟩ := I.tuple ha
  obtain ⟨its2, r2, p2, _⟩ := I.tuple hb
  refine HT.cat_tup p1 p2 (fun z => hx (r1.nil_iff.mp z)) (fun z => ⟨.ref a, H, I, rfl, q1 (r2.nil_iff.mp z)⟩) (fun z => ?_) (by rw [← r1.length, ← r2.length]; exact hz)
  refine ⟨.ref s.heap.objs.size, _, I.laid (t' := s.toks) (o := .tup (xs ++ ys)) (fun b ob q => Heap.get?_push_of_some _ q) (Nat.le_refl _) ?_, rfl, q2 (fun w => z (r2.nil_iff.mpr w)) _ (I.hok.fresh (Nat.le_refl _))⟩
  exact ⟨by rw [List.length_append]; exact hz, _, r1.append r2, IsTup.new _ _⟩
end
end L2
namespace L2
open PySem PySem.Spec PyProof.Rows
def ixN (n : Nat) (i : Int) : Option Nat := if 0 ≤ i then (if i < n then some i.toNat else none) else if -(n : Int) ≤ i then some (i + n).toNat else none
def atI {α : Type} (xs : List α) (i : Int) : Option α := (ixN xs.length i).bind fun j => xs[j]?
theorem ixN_seq {n : Nat} {i : Int} {j : Nat} (h : ixN n i = some j) : seqIndex? i n = some j ∧ j < n ∧ -(n : Int) ≤ i ∧ i < n := by
  unfold ixN at h
  by_cases h0 : 0 ≤ i
  · rw [if_pos h0] at h
    by_cases h1 : i < n
    · rw [if_pos h1] at h
      have e : i.toNat = j := Option.some.inj h
      exact ⟨by rw [seqIndex_of h0 h1, e], by omega, by omega, h1⟩
    · rw [if_neg h1] at h; cases h
  · rw [if_neg h0] at h
    by_cases h1 : -(n : Int) ≤ i
    · rw [if_pos h1] at h
      have e : (i + n).toNat = j := Option.some.inj h
      exact ⟨by rw [seqIndex_neg (by omega) h1, e], by omega, h1, by omega⟩
    · rw [if_neg h1] at h; cases h
theorem atI_get {α : Type} {xs : List α} {i : Int} {v : α} (h : atI xs i = some v) : ∃ j, seqIndex? i xs.length = some j ∧ xs[j]? = some v ∧ j < xs.length ∧ -(xs.length : Int) ≤ i ∧ i < xs.length := by
  unfold atI at h
  cases e : ixN xs.length i with
  | none => rw [e] at h; cases h
  | some j =>
    rw [e] at h
    obtain ⟨h1, h2, h3, h4⟩ := ixN_seq e
    exact ⟨j, h1, h, h2, h3, h4⟩
def PlainIx (b : Expr) : Prop := ∀ o i, subscripted b false o i = operate [o, i] (getItem o i)
def IxR (X : Cx) (r : R2) : Prop :=
  ∀ (value slice : Expr) (pins : List (Addr × Obj)) (s : Shared) (σ : St) (H : Hp) (x y : V) (v u : Value) (Q : VK), Inv X pins σ H s → RelV x v → RelV y u → r x y H Q →
    subscripted slice false v u = operate [v, u] (getItem v u) → wpAny (model X.prog X.w) X.A (subscriptTail value slice v u) (EP X pins σ Q) X.xe s
def MtR (X : Cx) (id : String) (r : V → List V → Hp → VK → Prop) : Prop :=
  ∀ (pins : List (Addr × Obj)) (s : Shared) (σ : St) (H : Hp) (x : V) (xs : List V) (v : Value) (us : List Value) (Q : VK), Inv X pins σ H s → RelV x v → Vals xs us → r x xs H Q →
    wpAny (model X.prog X.w) X.A (call (.builtin id) (v :: us)) (EP X pins σ Q) X.xe s
section
variable {X : Cx} {a b : Expr} {ta tb : TE} {pos : Pos}
theorem IxR.or {r r' : R2} (h : IxR X r) (h' : IxR X r') : IxR X (fun x y H Q => r x y H Q ∨ r' x y H Q) := by
  intro value slice pins s σ H x y v u Q I rx ry q hs
  rcases q with q | q
  · exact h value slice pins s σ H x y v u Q I rx ry q hs
  · exact h' value slice pins s σ H x y v u Q I rx ry q hs
theorem MtR.or {id : String} {r r' : V → List V → Hp → VK → Prop} (h : MtR X id r) (h' : MtR X id r') : MtR X id (fun x xs H Q => r x xs H Q ∨ r' x xs H Q) := by
  intro pins s σ H x xs v us Q I rx rs q
  rcases q with q | q
  · exact h pins s σ H x xs v us Q I rx rs q
  · exact h' pins s σ H x xs v us Q I rx rs q
theorem pe_ix {r : R2} (hr : IxR X r) (ha : PE X a ta) (hb : PE X b tb) (hs : PlainIx b) : PE X (.Subscript a b pos) (tOp r ta tb) := by
  intro pins s σ H Q I h
  exact Subscript_ (binT ha hb I h fun v u s2 x y H2 I2 rx ry q => hr a b pins s2 σ H2 x y v u Q I2 rx ry q (hs _ _))
def rIxL (K : PySem.W.Frag) : R2 := fun x y H Q => ∃ p xs i v, x = .ref p ∧ y = .int i ∧ SqL K H p xs ∧ atI xs i = some v ∧ Q v H
def rIxT (K : PySem.W.Frag) : R2 := fun x y H Q => ∃ p xs i v, x = .ref p ∧ y = .int i ∧ SqT K H p xs ∧ atI xs i = some v ∧ Q v H
def rIxS : R2 := fun x y H Q => ∃ z i c, x = .str z ∧ y = .int i ∧ z.length ≤ sizeLine ∧ atI z.cps.toList i = some c ∧ Q (.str ⟨#[c]⟩) H
theorem ix_list : IxR X (rIxL X.K) := by
  intro value slice pins s σ H x y v u Q I rx ry h hs
  obtain ⟨p, xs, i, z, rfl, rfl, hq, he, q⟩ := h
  cases rx
  obtain ⟨t, rfl⟩ := ry
  obtain ⟨its, r, pl, hz⟩ := I.list hq
  obtain ⟨j, h1, h2, h3, h4, h5⟩ := atI_get he
  obtain ⟨w, ew, rw'⟩ := r.get h2
  have hl := r.length
  have hn := line63
  have fin : EP X pins σ Q w s := ⟨z, H, I, rw', q⟩
  by_cases h0 : 0 ≤ i
  · have hj : i.toNat = j := by
      rw [seqIndex_of h0 h5] at h1
      exact Option.some.inj h1
    exact item_listR pl.isList h0 (by omega) (by rw [hj]; simpa using ew) fin hs
  · have hj : (i + (its.toArray.size : Int)).toNat = j := by
      rw [seqIndex_neg (by omega) h4] at h1
      rw [List.size_toArray, ← hl]
      exact Option.some.inj h1
    exact subscriptTail_builtinR (x := w) pl.isList.typeIs slot_list_getitem.lookup
      (wpAny_getItem_list_neg (Q := fun r s' => r = w ∧ EP X pins σ Q r s') pl.isList (by omega) (by rw [List.size_toArray] <;> omega) (by omega) (by rw [hj]; simpa using ew) ⟨rfl, fin⟩) hs
theorem ix_tup : IxR X (rIxT X.K) := by
  intro value slice pins s σ H x y v u Q I rx ry h hs
  obtain ⟨p, xs, i, z, rfl, rfl, hq, he, q⟩ := h
  cases rx
  obtain ⟨t, rfl⟩ := ry
  obtain ⟨its, r, pl, hz⟩ := I.tuple hq
  obtain ⟨j, h1, h2, h3, h4, h5⟩ := atI_get he
  obtain ⟨w, ew, rw'⟩ := r.get h2
  have hl := r.length
  have hn := line63
  have fin : EP X pins σ Q w s := ⟨z, H, I, rw', q⟩
  exact subscriptTail_builtinR (x := w) pl.typeIs slot_tuple_getitem.lookup
    (getItem_tuple (j := j) (Q := fun r s' => r = w ∧ EP X pins σ Q r s') pl (by omega) (by omega) (by rw [List.size_toArray, ← hl]; exact h1) (by simpa using ew) ⟨rfl, fin⟩) hs
theorem ix_str : IxR X rIxS := by
  intro value slice pins s σ H x y v u Q I rx ry h hs
  obtain ⟨z, i, c, rfl, rfl, hz, he, q⟩ := h
  obtain ⟨t, rfl⟩ := rx
  obtain ⟨t', rfl⟩ := ry
  obtain ⟨j, h1, h2, h3, h4, h5⟩ := atI_get he
  have hl : z.cps.toList.length = z.length := by simp [Str.length]
  rw [hl] at h1 h4 h5
  have hn := line63
  exact tail_any (typeIs_str s z t) slot_str_getitem.lookup (getItem_str (c := c) (by
    have e1 : decide (i < -(2 ^ 63 : Int)) = false := decide_eq_false (by omega)
    have e2 : decide (i ≥ 2 ^ 63) = false := decide_eq_false (by omega)
    rw [e1, e2, Bool.or_false]) (by rw [h1]; simpa using h2) ⟨.str ⟨#[c]⟩, H, I.tok _, ⟨_, rfl⟩, q⟩) hs
def rIx (K : PySem.W.Frag) : R2 := fun x y H Q => rIxL K x y H Q ∨ rIxT K x y H Q ∨ rIxS x y H Q
theorem ix_seq : IxR X (rIx X.K) := ix_list.or (ix_tup.or ix_str)
theorem mapSeq_set (its : List Value) (n j : Nat) (u : Value) : Obj.mapSeq (·.setIfInBounds j u) { cls := .type "list", data := .seq its.toArray n } = { cls := .type "list", data := .seq (its.set j u).toArray n } := by
  simp [Obj.mapSeq]
theorem Inv.lst {pins : List (Addr × Obj)} {σ : St} {H : Hp} {s : Shared} {p : Addr} {xs : List V} (I : Inv X pins σ H s) (h : H p = some (.lst xs)) :
    ∃ (its : List Value) (n : Nat), Vals xs its ∧ s.heap.get? p = some { cls := .type "list", data := .seq its.toArray n } ∧ xs.length ≤ sizeLine := by
  obtain ⟨z, its, n, r, e⟩ := I.hok p _ h
  exact ⟨its, n, r, e, z⟩
theorem Inv.lstUpd {pins : List (Addr × Obj)} {σ : St} {H : Hp} {s : Shared} {p : Addr} {xs ys : List V} {its its' : List Value} {n n' : Nat} {f : Obj → Obj} (I : Inv X pins σ H s) (h : H p = some (.lst xs))
    (ho : s.heap.get? p = some { cls := .type "list", data := .seq its.toArray n }) (hf : f { cls := .type "list", data := .seq its.toArray n } = { cls := .type "list", data := .seq its'.toArray n' }) (r : Vals ys its') (hz : ys.length ≤ sizeLine) (t : Nat) :
    Inv X pins σ (upd H p (.lst ys)) { s with heap := s.heap.update p f, toks := t } := by
  have e : (s.heap.update p f).get? p = some { cls := .type "list", data := .seq its'.toArray n' } := by
    rw [Heap.get?_update_self f ho (by rw [hf] <;> rfl), hf]
  refine I.write (x := p) (e := p) (by rw [h]; trivial) (.inl rfl) (fun b u hb q => (Heap.get?_update_other _ _ (Ne.symm hb)).trans q) ⟨_, e⟩ ?_
  exact ⟨hz, its', n', r, e⟩
def rSetL : V → V → V → Hp → (Hp → Prop) → Prop := fun o i v H Q => ∃ p xs k j, o = .ref p ∧ i = .int k ∧ H p = some (.lst xs) ∧ ixN xs.length k = some j ∧ Q (upd H p (.lst (xs.set j v)))
theorem set_list : PSet X rSetL := by
  intro pins s σ H o i v ov iv u Q I ro ri rv h
  obtain ⟨p, xs, k, j, rfl, rfl, hp, hj, q⟩ := h
  cases ro
  obtain ⟨t, rfl⟩ := ri
  obtain ⟨its, n, r, ho, hz⟩ := I.lst hp
  obtain ⟨h1, h2, h3, h4⟩ := ixN_seq hj
  have hl := r.length
  have hn := line63
  have I' : Inv X pins σ (upd H p (.lst (xs.set j v))) { s with heap := s.heap.update p (Obj.mapSeq (·.setIfInBounds j u)) } :=
    I.lstUpd hp ho (mapSeq_set its n j u) (r.set rv j) (by rw [List.length_set]; exact hz) s.toks
  by_cases h0 : 0 ≤ k
  · have hk : k.toNat = j := by
      rw [seqIndex_of h0 h4] at h1
      exact Option.some.inj h1
    exact PySem.W.ki_setAt ho h0 (by omega) (by rw [List.size_toArray, ← hl]; exact h4) (by rw [hk]; exact ⟨_, I', q⟩)
  · have hk : (k + (its.toArray.size : Int)).toNat = j := by
      rw [seqIndex_neg (by omega) h3] at h1
      rw [List.size_toArray, ← hl]
      exact Option.some.inj h1
    exact PySem.W.ki_setBack ho (by omega) (by rw [List.size_toArray, ← hl]; exact h3) (by omega) (by rw [hk]; exact ⟨_, I', q⟩)
theorem slice_bounds (lo hi : Option Int) (n : Nat) : (sliceBounds lo hi none n).1 = ((HT.sIx n 0 lo : Nat) : Int) ∧ (sliceBounds lo hi none n).2.1 = ((HT.sIx n n hi : Nat) : Int) ∧ (sliceBounds lo hi none n).2.2 = 1 := by
  refine ⟨?_, ?_, rfl⟩
  · cases lo with
    | none => simp [sliceBounds, HT.sIx]
    | some i =>
      simp only [sliceBounds, HT.sIx, Option.getD_none, show (1 : Int) > 0 by decide, if_true]
      by_cases h : i < 0
      · simp only [h, if_true] <;> omega
      · simp only [h, if_false] <;> omega
  · cases hi with
    | none => simp [sliceBounds, HT.sIx]
    | some i =>
      simp only [sliceBounds, HT.sIx, Option.getD_none, show (1 : Int) > 0 by decide, if_true]
      by_cases h : i < 0
      · simp only [h, if_true] <;> omega
      · simp only [h, if_false] <;> omega
theorem slicePick_cut (its : List Value) (lo hi : Option Int) : slicePick its.toArray lo hi none = ((its.drop (HT.sIx its.length 0 lo)).take (HT.sIx its.length its.length hi - HT.sIx its.length 0 lo)).toArray := by
  obtain ⟨h1, h2, h3⟩ := slice_bounds lo hi its.toArray.size
  unfold slicePick
  rw [h1, h2, h3]
  simp only [sliceRange_one, pick_run, List.size_toArray] <;> rfl
def rSlL (K : PySem.W.Frag) : V → Option Int → Option Int → Hp → VK → Prop := fun x lo hi H Q => ∃ a xs, x = .ref a ∧ SqL K H a xs ∧ ∀ p, H p = none → Q (.ref p) (upd H p (.lst (cutV xs lo hi)))
theorem sl_list : SlR X (rSlL X.K) := by
  intro pins s σ H x v vl vu lo hi sl Q I rx hs pl pu h
  obtain ⟨a, xs, rfl, hx, q⟩ := h
  cases rx
  obtain ⟨its, r, ht, hz⟩ := I.list hx
  have hlen := r.length
  refine ⟨"list", _, slot_list_getitem.lookup, ht.isList.typeIs, ?_⟩
  refine wpAny_getItem_list_slice ht.isList hs pl pu .none (by simp) ?_ (by rw [List.size_toArray] <;> omega)
  rw [slicePick_cut, ← hlen]
  refine ⟨.ref s.heap.objs.size, _, I.laid (t' := s.toks) (o := .lst (cutV xs lo hi)) (fun b ob q => Heap.get?_push_of_some _ q) (Nat.le_refl _) ?_, rfl, q _ (I.hok.fresh (Nat.le_refl _))⟩
  exact ⟨Nat.le_trans (cutV_length xs lo hi) hz, _, 0, (r.drop (HT.sIx xs.length 0 lo)).take (HT.sIx xs.length xs.length hi - HT.sIx xs.length 0 lo), Heap.get?_push_size _ rfl⟩
theorem CallR.or {f : Value} {r r' : List V → Hp → VK → Prop} (h : CallR X f r) (h' : CallR X f r') : CallR X f (fun xs H Q => r xs H Q ∨ r' xs H Q) := by
  intro pins s σ H xs us Q I rs q
  rcases q with q | q
  · exact h pins s σ H xs us Q I rs q
  · exact h' pins s σ H xs us Q I rs q
theorem call_list_of : CallR X (.type "list") (fun xs H Q => ∃ p ys, xs = [.ref p] ∧ (SqL X.K H p ys ∨ SqT X.K H p ys) ∧ ∀ l, H l = none → Q (.ref l) (upd H l (.lst ys))) := by
  intro pins s σ H xs us Q I r h
  obtain ⟨p, ys, rfl, hq, q⟩ := h
  obtain ⟨u, rfl, rx⟩ := vals1 r
  cases rx
  have fin : ∀ (its : List Value), Vals ys its → ys.length ≤ sizeLine → ∀ (h' : Heap) (c' : Nat), (∀ b o', s.heap.get? b = some o' → h'.get? b = some o') →
      h'.get? s.heap.objs.size = some { cls := .type "list", dict := none, data := .seq its.toArray c', slots := #[] } → EP X pins σ Q (.ref s.heap.objs.size) { s with heap := h' } := fun its r' hz h' c' kp e =>
    ⟨.ref s.heap.objs.size, _, I.laid (t' := s.toks) kp (Nat.le_refl _) (show ObjOk X.prog X.w _ h' _ (.lst ys) from ⟨hz, its, c', r', e⟩), rfl, q _ (I.hok.fresh (Nat.le_refl _))⟩
  rcases hq with hq | hq
  · obtain ⟨its, r', pl, hz⟩ := I.list hq
    have hlen := r'.length
    obtain ⟨o, ho, hc, n, hd⟩ := pl.isList
    exact call_list_seq p (.inl rfl) ho hc hd (fun h' c' kp e => fin its r' hz h' c' kp e) (by simp only [List.size_toArray] <;> omega)
  · obtain ⟨its, r', pl, hz⟩ := I.tuple hq
    have hlen := r'.length
    obtain ⟨o, ho, hc, n, hd⟩ := pl
    exact call_list_seq p (.inr rfl) ho hc hd (fun h' c' kp e => fin its r' hz h' c' kp e) (by simp only [List.size_toArray] <;> omega)
theorem call_tuple_of : CallR X (.type "tuple") (fun xs H Q => ∃ p ys, xs = [.ref p] ∧ ((SqL X.K H p ys ∧ ∀ l, H l = none → Q (.ref l) (upd H l (.tup ys))) ∨ (SqT X.K H p ys ∧ Q (.ref p) H))) := by
  intro pins s σ H xs us Q I r h
  obtain ⟨p, ys, rfl, h⟩ := h
  obtain ⟨u, rfl, rx⟩ := vals1 r
  cases rx
  rcases h with ⟨hq, q⟩ | ⟨hq, q⟩
  · obtain ⟨its, r', pl, hz⟩ := I.list hq
    have hlen := r'.length
    refine call_tuple_list pl.isList (fun h' kp => ?_) (by simp only [List.size_toArray] <;> omega)
    have I1 : Inv X pins σ H { s with heap := h' } := I.kept (t' := s.toks) kp
    have I2 : Inv X pins σ (upd H h'.objs.size (.tup ys)) { s with heap := h'.push { cls := .type "tuple", data := .seq its.toArray } } :=
      I1.laid (t' := s.toks) (fun b o e => Heap.get?_push_of_some _ e) (Nat.le_refl _) (show ObjOk X.prog X.w _ _ _ (.tup ys) from ⟨hz, its, r', IsTup.new _ _⟩)
    exact ⟨.ref h'.objs.size, _, I2, rfl, q _ (I1.hok.fresh (Nat.le_refl _))⟩
  · obtain ⟨its, r', pl, hz⟩ := I.tuple hq
    exact call_tuple_same pl ⟨.ref p, H, I, rfl, q⟩
def tyV (K : PySem.W.Frag) (T : String) (x : V) (H : Hp) : Prop := match x with
  | .str _ => T = "str"
  | .int _ => T = "int"
  | .ref p => (T = "list" ∧ ∃ xs, SqL K H p xs) ∨ (T = "tuple" ∧ ∃ o, K.lookup p = some o ∧ o.cls = .type "tuple" ∧ o.dict = none) ∨
      (T = "dict" ∧ ((∃ kvs, H p = some (.dK kvs)) ∨ ∃ kvs, H p = some (.dT kvs))) ∨ (T = "set" ∧ ∃ S n, H p = some (.set S n))
  | _ => False
theorem tyV_is {pins : List (Addr × Obj)} {σ : St} {H : Hp} {s : Shared} {T : String} {x : V} {v : Value} (I : Inv X pins σ H s) (r : RelV x v) (ty : tyV X.K T x H) :
    s.TypeIs v T ∧ ∀ a, v = .ref a → ∃ ob, s.heap.get? a = some ob ∧ ob.dict = none := by
  cases x with
  | str z =>
    obtain ⟨t, rfl⟩ := r
    cases (show T = "str" from ty)
    exact ⟨typeIs_str s z t, fun _ e => nomatch e⟩
  | int i =>
    obtain ⟨t, rfl⟩ := r
    cases (show T = "int" from ty)
    exact ⟨typeIs_int s i t, fun _ e => nomatch e⟩
  | ref p =>
    cases r
    rcases ty with ⟨rfl, xs, hq⟩ | ⟨rfl, o, hk, hc, hd⟩ | ⟨rfl, hk⟩ | ⟨rfl, S, n, hk⟩
    · obtain ⟨its, _, pl, _⟩ := I.list hq
      refine ⟨pl.isList.typeIs, fun a e => ?_⟩
      cases e
      obtain ⟨o, n, e, c, hd, _⟩ := pl
      exact ⟨o, e, hd⟩
    · refine ⟨⟨o, I.kIn p o hk, hc⟩, fun a e => ?_⟩
      cases e
      exact ⟨o, I.kIn _ o hk, hd⟩
    · have z : ∃ o, s.heap.get? p = some o ∧ o.ExactDict := by
        rcases hk with ⟨kvs, hk⟩ | ⟨kvs, hk⟩
        · obtain ⟨_, _, _, _, o, _, _, e, ex, _⟩ := I.hok p _ hk
          exact ⟨o, e, ex⟩
        · obtain ⟨_, _, _, _, o, _, _, e, ex, _⟩ := I.hok p _ hk
          exact ⟨o, e, ex⟩
      obtain ⟨o, e, ex⟩ := z
      refine ⟨⟨o, e, ex.1⟩, fun a e2 => ?_⟩
      cases e2
      exact ⟨o, e, ex.2.1⟩
    · obtain ⟨o, _, _, _, e, ex, _⟩ := I.hok p _ hk
      refine ⟨⟨o, e, ex.1⟩, fun a e2 => ?_⟩
      cases e2
      exact ⟨o, e, ex.2.1⟩
  | _ => exact False.elim ty
def tBM (K : PySem.W.Frag) (T : String) (r : V → List V → Hp → VK → Prop) (to : TE) (t : TA) : TE := fun σ H Q => to σ H fun x H1 => tyV K T x H1 ∧ t σ H1 fun xs H2 => r x xs H2 Q
variable {o e : Expr} {es : List Expr} {to : TE} {t : TA} {name : Str} {apos cpos : Pos} {T id : String} {r : V → List V → Hp → VK → Prop}
theorem pe_bm (pa : PlainAttrs T) (slot : Slot T name id) (hty : typeOf (.builtin id) = pure (.type "method_descriptor")) (hm : MtR X id r) (ho : PE X o to) (ha : PA X (e :: es) t)
    (hbase : attributeBase o name X.env (eval o X.env) = eval o X.env := by rfl)
    (hfew : ((backTo cpos (starEach (e :: es) X.env)).all (fun x => !x.1) && (backToKw cpos (keywordEach [] X.env)).all (fun x => x.1.isSome)
      && decide ((e :: es).length + ([] : List Keyword).length + (if ([] : List Keyword).isEmpty then 0 else 1) < 30)) = true := by rfl)
    (hline : (apos.endLine == cpos.line) = true := by rfl) (hs : starEach (e :: es) X.env = (false, eval e X.env) :: starEach es X.env := by rfl) (hplain : (backTo cpos (starEach es X.env)).any (·.1) = false := by rfl) :
    PE X (.Call (.Attribute o name apos) (e :: es) [] cpos) (tBM X.K T r to t) := by
  intro pins s σ H Q I h
  refine wpAny_Call_method_late hbase hfew hline rfl (thn (ho pins s σ H _ I h) fun v s1 ⟨x, H1, I1, r1, ty, q1⟩ => ?_)
  obtain ⟨h1, h2⟩ := tyV_is I1 r1 ty
  refine ⟨T, id, pa, slot, hty, h1, h2, ?_⟩
  have hA := ha cpos pins s1 σ H1 _ I1 q1
  rw [hs] at hA ⊢
  refine Calls.callWith_builtin (by show (false || (backTo cpos (starEach es X.env)).any (·.1)) = false; rw [hplain] <;> rfl) (Calls.evalArgs_plain ?_)
  exact thn hA fun us s2 ⟨vs, H2, I2, r2, q2⟩ => hm pins s2 σ H2 x vs v us Q I2 r1 r2 q2
end
end L2
namespace L2
open PySem PySem.Spec PyProof.Rows
def MtM (X : Cx) (id : String) (r : V → List V → Hp → VK → Prop) : Prop :=
  ∀ (pins : List (Addr × Obj)) (s : Shared) (σ : St) (H : Hp) (x : V) (xs : List V) (v : Value) (us : List Value) (Q : VK), Inv X pins σ H s → RelV x v → Vals xs us → r x xs H Q →
    wpAny (model X.prog X.w) X.A (call (.builtin id) (v :: us)) (EP X pins σ Q) X.xe s
theorem Vals.one : ∀ {x : V} {us : List Value}, Vals [x] us → ∃ u, us = [u] ∧ RelV x u
  | _, _, .cons r .nil => ⟨_, rfl, r⟩
theorem Vals.two : ∀ {x y : V} {us : List Value}, Vals [x, y] us → ∃ u v, us = [u, v] ∧ RelV x u ∧ RelV y v
  | _, _, _, .cons r (.cons q .nil) => ⟨_, _, rfl, r, q⟩
theorem Vals.zero : ∀ {us : List Value}, Vals [] us → us = []
  | _, .nil => rfl
theorem Vals.eraseIdx : ∀ {xs : List V} {us : List Value} (i : Nat), Vals xs us → Vals (xs.eraseIdx i) (us.eraseIdx i)
  | _, _, _, .nil => .nil
  | _, _, 0, .cons _ t => t
  | _, _, i + 1, .cons r t => .cons r (Vals.eraseIdx i t)
theorem Vals.reverse {xs : List V} {us : List Value} (h : Vals xs us) : Vals xs.reverse us.reverse := by
  induction h with
  | nil => exact .nil
  | cons r t ih => rw [List.reverse_cons, List.reverse_cons]; exact Vals.append ih (.cons r .nil)
theorem Vals.rep {xs : List V} {us : List Value} (h : Vals xs us) : ∀ k : Nat, Vals (List.replicate k xs).flatten (List.replicate k us).flatten
  | 0 => .nil
  | k + 1 => by
    rw [List.replicate_succ, List.replicate_succ, List.flatten_cons, List.flatten_cons]
    exact Vals.append h (Vals.rep h k)
theorem len_erase {α : Type} : ∀ (l : List α) (i : Nat), (l.eraseIdx i).length ≤ l.length
  | [], _ => Nat.le_refl _
  | _ :: _, 0 => Nat.le_succ _
  | _ :: r, i + 1 => Nat.succ_le_succ (len_erase r i)
theorem foldl_rep (its : List Value) : ∀ (k : Nat) (acc : List Value),
    List.foldl (fun x1 x2 => x1 ++ x2) acc.toArray (List.replicate k its.toArray) = (acc ++ (List.replicate k its).flatten).toArray
  | 0, acc => by simp
  | k + 1, acc => by
    have e : acc.toArray ++ its.toArray = (acc ++ its).toArray := by simp
    have e2 : (acc ++ its) ++ (List.replicate k its).flatten = acc ++ (List.replicate (k + 1) its).flatten := by
      rw [List.replicate_succ, List.flatten_cons, List.append_assoc]
    rw [← e2, ← foldl_rep its k (acc ++ its), ← e, List.replicate_succ, List.foldl_cons]
section
variable {X : Cx} {pins : List (Addr × Obj)} {σ : St} {H : Hp} {s : Shared} {l b : Addr} {xs ys zs : List V}
theorem Inv.lset {its its' : List Value} {n : Nat} {f : Array Value → Array Value} {t' : Nat} (I : Inv X pins σ H s) (hH : H l = some (.lst xs))
    (e : s.heap.get? l = some { cls := .type "list", data := .seq its.toArray n }) (hf : f its.toArray = its'.toArray) (hv : Vals ys its') (hz : ys.length ≤ sizeLine) :
    Inv X pins σ (upd H l (.lst ys)) { s with heap := s.heap.update l (Obj.mapSeq f), toks := t' } := by
  have q := PySem.IsL.update e f
  rw [hf] at q
  refine I.write (x := l) (e := l) (by rw [hH]; exact trivial) (.inl rfl) (fun b' u hb hu => (Heap.get?_update_other s.heap (Obj.mapSeq f) (Ne.symm hb)).trans hu) ⟨_, q⟩ ?_
  exact ⟨hz, its', _, hv, q⟩
theorem Inv.lnew {its : List Value} {t' : Nat} (I : Inv X pins σ H s) (hv : Vals ys its) (hz : ys.length ≤ sizeLine) :
    Inv X pins σ (upd H s.heap.objs.size (.lst ys)) { s with heap := s.heap.push { cls := .type "list", data := .seq its.toArray }, toks := t' } :=
  I.laid (fun _ _ q => Heap.get?_push_of_some _ q) (Nat.le_refl _) ⟨hz, its, 0, hv, Heap.get?_push_size _ rfl⟩
theorem Inv.fresh (I : Inv X pins σ H s) : H s.heap.objs.size = none := I.hok.fresh (Nat.le_refl _)
theorem Inv.lstM (I : Inv X pins σ H s) (hH : H l = some (.lst xs)) : xs.length ≤ sizeLine ∧ ∃ (its : List Value) (n : Nat), Vals xs its ∧ xs.length = its.length ∧ s.heap.get? l = some { cls := .type "list", data := .seq its.toArray n } := by
  obtain ⟨z, its, n, r, e⟩ := I.hok l _ hH
  exact ⟨z, its, n, r, r.length, e⟩
theorem notLongL {n : Nat} (h : n ≤ sizeLine) : Builtin.List.listTooLong n = false := by
  unfold Builtin.List.listTooLong
  exact decide_eq_false (by omega)
end
section
variable {X : Cx}
def rAppend : V → List V → Hp → VK → Prop := fun x vs H Q => ∃ l xs y, x = .ref l ∧ vs = [y] ∧ H l = some (.lst xs) ∧ xs.length < sizeLine ∧ Q .non (upd H l (.lst (xs ++ [y])))
theorem mt_append : MtM X "list.append" rAppend := by
  intro pins s σ H x vs v us Q I rx rv h
  obtain ⟨l, xs, y, rfl, rfl, hH, hz, q⟩ := h
  cases rx
  obtain ⟨u, rfl, ru⟩ := rv.one
  obtain ⟨z, its, n, r, hl, e⟩ := I.lstM hH
  refine call_meets F.slot_list_append ⟨_, e, rfl⟩ F.entry_list_append (F.args_list_append_2 _ _) (PySem.list_append l its.toArray n u (by rw [List.size_toArray]; omega)) ⟨e, ?_⟩
  refine ⟨.non, _, I.lset (its' := its ++ [u]) hH e (by simp) (r.append (.cons ru .nil)) ?_, rfl, q⟩
  rw [List.length_append, List.length_singleton]
  omega
def rPopAt : V → List V → Hp → VK → Prop := fun x vs H Q => ∃ l xs i k y, x = .ref l ∧ vs = [.int i] ∧ H l = some (.lst xs) ∧ -(2 ^ 63) ≤ i ∧ i < 2 ^ 63 ∧ seqIndex? i xs.length = some k ∧ xs[k]? = some y ∧ Q y (upd H l (.lst (xs.eraseIdx k)))
theorem mt_popAt : MtM X "list.pop" rPopAt := by
  intro pins s σ H x vs v us Q I rx rv h
  obtain ⟨l, xs, i, k, y, rfl, rfl, hH, h1, h2, hk, hy, q⟩ := h
  cases rx
  obtain ⟨u, rfl, ru⟩ := rv.one
  obtain ⟨t, rfl⟩ := ru
  obtain ⟨z, its, n, r, hl, e⟩ := I.lstM hH
  obtain ⟨w, hw, rw'⟩ := r.get hy
  refine call_meets F.slot_list_pop ⟨_, e, rfl⟩ F.entry_list_pop (F.args_list_pop_2 _ _)
    (MeetsSeq.list_pop_at l its.toArray n i t k w (fitsIndex_both h1 h2) (by rw [List.size_toArray, ← hl]; exact hk) (by rw [← Array.getElem?_toList]; exact hw) (by rw [List.size_toArray]; omega)) ⟨e, ?_⟩
  refine ⟨y, _, I.lset (its' := its.eraseIdx k) hH e ?_ (r.eraseIdx k) ?_, rw', q⟩
  · show its.toArray.eraseIdxIfInBounds k = (its.eraseIdx k).toArray
    rw [List.eraseIdxIfInBounds_toArray]
  · have := len_erase xs k
    omega
def rCat : R2 := fun x y H Q => ∃ l b xs zs, x = .ref l ∧ y = .ref b ∧ H l = some (.lst xs) ∧ H b = some (.lst zs) ∧ xs.length + zs.length ≤ sizeLine ∧ ∀ p, H p = none → Q (.ref p) (upd H p (.lst (xs ++ zs)))
theorem op_cat : OpR X (binaryOp .Add) rCat := by
  intro pins s σ H x y v u Q I rx ry h
  obtain ⟨l, b, xs, zs, rfl, rfl, hH, hB, hz, q⟩ := h
  cases rx
  cases ry
  obtain ⟨z, its, n, r, hl, e⟩ := I.lstM hH
  obtain ⟨z2, its2, n2, r2, hl2, e2⟩ := I.lstM hB
  refine PySem.P.add_list e e2 ?_ (by rw [List.size_toArray, List.size_toArray]; omega)
  have ea : its.toArray ++ its2.toArray = (its ++ its2).toArray := by simp
  rw [ea]
  exact ⟨.ref _, _, I.lnew (t' := s.toks) (r.append r2) (by rw [List.length_append]; omega), rfl, q _ I.fresh⟩
def rRep : R2 := fun x y H Q => ∃ l k xs, x = .ref l ∧ y = .int k ∧ H l = some (.lst xs) ∧ -(2 ^ 63) ≤ k ∧ k < 2 ^ 63 ∧ xs.length * k.toNat ≤ sizeLine ∧
  ∀ p, H p = none → Q (.ref p) (upd H p (.lst (List.replicate k.toNat xs).flatten))
theorem len_rep {α : Type} (xs : List α) (k : Nat) : (List.replicate k xs).flatten.length = k * xs.length := by
  induction k with
  | zero => simp
  | succ k ih => rw [List.replicate_succ, List.flatten_cons, List.length_append, ih, Nat.succ_mul, Nat.add_comm]
theorem op_rep : OpR X (binaryOp .Mult) rRep := by
  intro pins s σ H x y v u Q I rx ry h
  obtain ⟨l, k, xs, rfl, rfl, hH, h1, h2, hz, q⟩ := h
  cases rx
  obtain ⟨t, rfl⟩ := ry
  obtain ⟨z, its, n, r, hl, e⟩ := I.lstM hH
  have hlen : its.toArray.size * k.toNat ≤ sizeLine := by rw [List.size_toArray, ← hl]; exact hz
  have hcap : ¬ its.toArray.size * k.toNat > (2 ^ 63 - 1) / 8 := by
    have : (sizeLine : Nat) ≤ (2 ^ 63 - 1) / 8 := by decide
    omega
  have hfit : ¬ (!Builtin.List.listFitsIndex k) = true := by
    rw [fitsIndex_both h1 h2]
    exact Bool.false_ne_true
  have hlong : ¬ Builtin.List.listTooLong (its.toArray.size * k.toNat) = true := by
    rw [notLongL hlen]
    exact Bool.false_ne_true
  have hnew : List.foldl (fun x1 x2 => x1 ++ x2) #[] (List.replicate (if its.toArray.isEmpty = true then 0 else k.toNat) its.toArray) = (List.replicate k.toNat its).flatten.toArray := by
    have f0 : ∀ m : Nat, List.foldl (fun x1 x2 => x1 ++ x2) #[] (List.replicate m its.toArray) = (List.replicate m its).flatten.toArray := fun m => by
      have := foldl_rep its m []
      rw [List.nil_append] at this
      exact this
    rw [f0]
    cases its with
    | nil => simp
    | cons a r' => rw [if_neg (by simp)]
  refine wpAny_binaryOp_repeat_ref (T := "list") (U := "int") (by decide) ⟨_, e, rfl⟩ (fun s' => typeIs_int s' k t) noFill_list_mul F.fills_int_mul F.slot_int_rmul repeat_list F.slot_int_index.lookup
    (call_meets F.slot_int_rmul (typeIs_int s k t) F.entry_int_rmul (F.args_int_rmul_2 _ _) (int___rmul___int_list k t l its.toArray n)
      ⟨e, rfl, ⟨_, e, rfl⟩, call_meets F.slot_list_mul ⟨_, e, rfl⟩ F.entry_list_mul (F.args_list_mul_2 _ _) (AutoListH.list___mul___list_int_3 l its.toArray n k t hfit hcap hlong) ⟨e, ?_⟩⟩)
  rw [hnew]
  exact ⟨.ref _, _, I.lnew (t' := s.toks) (r.rep k.toNat) (by rw [len_rep, Nat.mul_comm]; exact hz), rfl, q _ I.fresh⟩
end
section
variable {prog : Program} {w : World} {A : Around} {E : Value → Shared → Prop} {s : Shared}
end
section
variable {X : Cx}
end
end L2
namespace Att
open PySem PySem.W PySem.Calls PyProof.Rows
theorem ints_of_wellAll {P : Params} {h : Heap} : ∀ (ns : List Int) (vs : List Value), WellAll P h vs (ns.map WData.int) → IntsAre vs ns := by
  intro ns
  induction ns with
  | nil =>
    intro vs w
    rw [List.map_nil] at w
    cases w
    exact .nil
  | cons n ns ih =>
    intro vs w
    rw [List.map_cons] at w
    cases w with
    | cons a b =>
      cases a
      exact .cons _ _ (ih _ b)
theorem script_of {l : OpenLaw} {n : Nat} (hn : l.most = some n) {P : Params} {h : Heap} {args : List WData} {vals : List Value}
    (hpre : l.row.toRowW.claim.pre args = true) (hwl : WellAll P h vals args) :
    ∃ a vs ns, vals = [Value.ref a] ∧ args = [WData.list (ns.map WData.int)] ∧ h.get? a = some { cls := .type "list", data := .seq vs.toArray } ∧ IntsAre vs ns ∧ ns.length ≤ n := by
  have hsh : WShape.hasAll [] args [.list .int] = true := (pre_splitW hpre).1
  have hc : l.pre.holds [] { args := args } = true := (pre_splitW hpre).2
  obtain ⟨d, r, rfl, h1, h2⟩ := hasAllW_cons hsh
  obtain rfl := hasAllW_nil h2
  obtain ⟨xs, rfl, h3⟩ := hasW_list h1
  obtain ⟨ns, rfl⟩ := items_int h3
  have hlen : ns.length ≤ n := by
    unfold OpenLaw.pre at hc
    have h4 : (WTm.not (.lt (.lit (.int (n : Int))) (.len (.arg 0)))).holds [] { args := [.list (ns.map .int)] } = true := by
      have h4 := (holds_andW hc).1
      rw [hn] at h4
      exact h4
    have h5 := condW_of h4 (w_not (w_lt w_lit (w_len_list (w_arg rfl))))
    rw [List.length_map] at h5
    refine Nat.le_of_not_lt fun q => ?_
    have q' : (n : Int) < ((ns.length : Nat) : Int) := by omega
    first
      | (rw [decide_eq_true q'] at h5; exact absurd h5 (by decide))
      | (simp at h5; omega)
  cases hwl with
  | cons w1 w2 =>
    cases w2
    cases w1 with
    | list ho hall => exact ⟨_, _, ns, rfl, rfl, ho, ints_of_wellAll ns _ hall, hlen⟩
theorem post_true (l : OpenLaw) (args : List WData) : l.row.toRowW.claim.post args (.bool true) args = true :=
  postW_of (r := l.row.toRowW) (X := (true == true))
    (show WShape.has [] (.bool true) .bool = true by first | rfl | decide | simp [WShape.has, WShape.arms, WShape.armsAll])
    (show (WTm.eq .res (.lit (.bool true))).value [] { args := args, res := some (.bool true), after := args } = some (.bool (true == true)) from w_eq_bool (w_res rfl) w_lit) rfl
theorem attach_call {l : OpenLaw} {n : Nat} {q : Program} {loose : List Str} {XP : (Str → Option Value) → Heap → Prop} {YP : World → Heap → Prop} {d : DefRec}
    (hn : l.most = some n) (hdf : d.params.defaults = [])
    (call : ∀ (w : World) (s₀ s₁ : Shared) (mg mb : Str → Option Value) (fa : Addr) (o : Obj) (pm cd doc : Value) (a : Addr) (vs : List Value) (ns : List Int),
      Ground q loose [] XP w s₀ mg mb s₁.heap → YP w s₁.heap →
      s₁.heap.get? fa = some o → o.data = .func (docDef d.name d.params d.body d.scope pm cd doc) → s₁.heap.CodeRec cd d.name → mg d.name = some (.ref fa) →
      s₁.heap.get? a = some { cls := .type "list", data := .seq vs.toArray } → IntsAre vs ns → ns.length ≤ n → s₁.gens = #[] →
      codeAny (model l.prog w) callerA (.call (.ref fa) ⟨[.ref a], []⟩) (fun r s' => r = .ok (.ret (.bool true)) ∧ OldK s₁.heap s'.heap ∧ s'.os = s₁.os ∧ AllBare s'.gens) s₁) :
    WalkO q loose XP YP l.row.toRowW d [] (fun f vs => PySem.call f vs) := by
  intro w s₀ s₁ mg mb G Y fa o pm cd doc dV kV ho hd hcd hD hmg hg args vals as hpre hlay hrd hwl hlo
  obtain rfl : dV = .none := Dflts.none hD hdf
  obtain rfl : kV = .none := Dflts.noKw hD
  obtain ⟨a, vs, ns, rfl, rfl, hobj, hints, hlen⟩ := script_of hn hpre hwl
  refine enter_call (codeAny_mono (call w s₀ s₁ mg mb fa o pm cd doc a vs ns G Y ho (fd_plain hd) hcd hmg hobj hints hlen hg) fun r s' hq => ?_)
  obtain ⟨rfl, h2, h3, h4⟩ := hq
  exact ⟨.inl ⟨.bool true, .bool true, [], rfl, fun _ => rfl, .bool true, post_true l _, fun _ => ⟨List.Pairwise.nil, fun _ hm => (nomatch hm)⟩⟩, h2, h3, h4⟩
section
variable {prog : Program} {w : World} {A : Around} {E : Value → Shared → Prop} {s : Shared} {K : Frag}
end
end Att
namespace L2
open PySem PySem.Spec PyProof.Rows
theorem vals_ints : ∀ {vs : List Value} {ns : List Int}, IntsAre vs ns → Vals (ns.map V.int) vs
  | _, _, .nil => .nil
  | _, _, .cons n t h => .cons ⟨t, rfl⟩ (vals_ints h)
def Only (H : Hp) : Prop := ∀ b, H b = none ∨ ∃ o xs, H b = some (.frz o (.lst xs))
theorem law_call {P : Program} {w : World} {K : PySem.W.Frag} {mg mb : Str → Option Value} {CX : CXT} {k : Nat} {fa a : Addr} {fd : FuncData} {x : Str} {sp : Sp} {s₁ : Shared} {vs : List Value} {ns : List Int}
    (KX : K.In s₁.heap) (hns : s₁.heap.Ns mainGlobals mg) (hb : s₁.heap.Ns builtinsNs mb) (hbb : ∀ x : Str, x ≠ "__name__" → mb x = bootBuiltins x) (hlim : s₁.heap.NoLimit) (hg : s₁.gens = #[])
    (ha : s₁.heap.get? a = some { cls := .type "list", data := .seq vs.toArray }) (hi : IntsAre vs ns) (hl : ns.length ≤ sizeLine) (hr : Room k callerA)
    (F : ∀ base : Heap, K.In base → base.Ns mainGlobals mg → FnOk P w K mg base CX k fa fd [x] sp) (hbind : ∀ (s : Shared) (u : Value), BindsTo s fd ⟨[u], []⟩ [(x, u)])
    (hsp : ∀ H : Hp, Only H → SqL K H a (ns.map V.int) → sp [.ref a] H (fun v _ => v = .bl true) fun _ _ _ => False)
    (hCX : ∀ H e s', CX [] H s₁ (fun _ _ _ => False) e s' → False) :
    codeAny (model P w) callerA (.call (.ref fa) ⟨[.ref a], []⟩) (fun r s' => r = .ok (.ret (.bool true)) ∧ OldK s₁.heap s'.heap ∧ s'.os = s₁.os ∧ AllBare s'.gens) s₁ := by
  have rv := vals_ints hi
  have lenV := hi.length
  -- from an abstract heap in which nothing but the script may be tracked
  have core : ∀ H : Hp, Only H → SqL K H a (ns.map V.int) → HOk P w H s₁.heap → (∀ b, H b ≠ none → b = a) → (H a ≠ none → K.lookup a = none) →
      codeAny (model P w) callerA (.call (.ref fa) ⟨[.ref a], []⟩) (fun r s' => r = .ok (.ret (.bool true)) ∧ OldK s₁.heap s'.heap ∧ s'.os = s₁.os ∧ AllBare s'.gens) s₁ := by
    intro H hO hS hok hA hK
    have base_of : ∀ {b : Addr} {o : Obj}, s₁.heap.get? b = some o → H b = none → (hidT s₁.heap H).get? b = some o := fun e n => hidT_get e n
    have noA : ∀ {b : Addr} {o : Obj} {es : Array DictEntry} {ep : Nat}, s₁.heap.get? b = some o → o.data = .dict es ep → H b = none := fun {b o es ep} e d => by
      cases q : H b with
      | none => rfl
      | some u =>
        have e' : b = a := hA b (by rw [q]; simp)
        subst e'
        rw [ha] at e; cases e
        have d' : Data.seq vs.toArray _ = Data.dict es ep := d
        cases d'
    have nsK : ∀ {b : Addr} {m : Str → Option Value}, s₁.heap.Ns b m → (hidT s₁.heap H).Ns b m := fun {b m} ⟨o, es, ep, e, d, r⟩ => ⟨o, es, ep, base_of e (noA e d), d, r⟩
    have hKb : K.In (hidT s₁.heap H) := fun b o e => base_of (KX b o e) (by
      cases q : H b with
      | none => rfl
      | some u =>
        have e' : b = a := hA b (by rw [q]; simp)
        subst e'
        rw [hK (by rw [q]; simp)] at e; cases e)
    have hM : Mod K mg (hidT s₁.heap H) := ⟨hKb, nsK hns, ⟨mb, nsK hb, hbb⟩, let ⟨mc, h1, h2⟩ := hlim; ⟨mc, nsK h1, h2⟩⟩
    have e0 : Env0 P w K mg (hidT s₁.heap H) callerA [] s₁ H := ⟨rfl, hM, fun b o e => of_hidT e, Nat.le_of_eq (hidT_size _ _), trivial, fun b hb => absurd (show b ∈ ([] : List Addr) from hb) (by simp), hok, .of_eq hg⟩
    refine codeAny_mono ((F _ hKb (nsK hns)).run callerA [] s₁ H ⟨[.ref a], []⟩ [.ref a] [.ref a] _ _ hr e0 (hbind s₁ (.ref a)) (.cons rfl .nil) (hsp H hO hS)) fun r s' h => ?_
    cases r with
    | error e => exact (hCX H e s' h).elim
    | ok fl =>
      cases fl with
      | next => exact False.elim h
      | brk => exact False.elim h
      | cont => exact False.elim h
      | ret u =>
        obtain ⟨v, H', os, bare, un, hok', r', q⟩ := h
        have q' : v = .bl true := q
        subst q'
        obtain rfl : u = Value.bool true := r'
        refine ⟨rfl, OldK.of_keep fun b o e => ?_, os, bare⟩
        cases q : H b with
        | none => exact un.keep b o e q (by intro z; exact absurd (show b ∈ ([] : List Addr) from z) (by simp)) (by simp)
        | some u =>
          rcases hO b with z | ⟨ob, xs, z⟩
          · rw [q] at z; cases z
          · have z2 := un.frzs b ob _ z
            obtain ⟨e1, _⟩ := hok b _ z
            obtain ⟨e2, _⟩ := hok' b _ z2
            rw [e] at e1; cases e1
            exact e2
  cases hk : K.lookup a with
  | some o =>
    -- the script is one of the module's own objects
    have e := KX a o hk
    rw [ha] at e
    cases e
    refine core (fun _ => none) (fun _ => .inl rfl) (.inr ⟨_, vs.toArray, _, hk, rfl, rfl, rfl, by rw [List.size_toArray, lenV]; exact hl, by simpa using rv⟩) (fun b u z => by have z' : (none : Option HO) = some u := z; cases z') (fun b z => absurd rfl z) fun z => absurd rfl z
  | none =>
    refine core (fun b => if b = a then some (.frz { cls := .type "list", data := .seq vs.toArray } (.lst (ns.map V.int))) else none) (fun b => ?_) (.inl (.inr ⟨{ cls := .type "list", data := .seq vs.toArray }, if_pos rfl⟩)) (fun b u z => ?_) (fun b z => ?_) fun _ => hk
    · by_cases hb : b = a
      · exact .inr ⟨_, _, if_pos hb⟩
      · exact .inl (if_neg hb)
    · by_cases hb : b = a
      · have z' := (if_pos hb).symm.trans z
        cases z'
        subst hb
        exact ⟨ha, by rw [List.length_map]; exact hl, vs, _, rv, ha⟩
      · have z' := (if_neg hb).symm.trans z
        cases z'
    · by_cases hb : b = a
      · exact hb
      · exact absurd (if_neg hb) z
end L2
namespace L2
open PySem PySem.Spec PyProof.Rows
theorem walk_of {l : PySem.W.OpenLaw} {n k : Nat} {q : Program} {loose : List Str} {XP : (Str → Option Value) → Heap → Prop} {YP : World → Heap → Prop} {d : DefRec} {K : Params → PySem.W.Frag} {CX : World → CXT} {sp : World → Sp} {x : Str}
    (hn : l.most = some n) (hn2 : n ≤ sizeLine) (hdf : d.params.defaults = []) (hr : Room k callerA)
    (hY : ∀ (w : World) (h : Heap), YP w h → (K w.params).In h)
    (F : ∀ (w : World) (mg : Str → Option Value) (fa : Addr) (h : Heap), (K w.params).In h → h.Ns mainGlobals mg → mg d.name = some (.ref fa) →
      ∃ fd : FuncData, (∀ (s : Shared) (u : Value), BindsTo s fd ⟨[u], []⟩ [(x, u)]) ∧
        ∀ base : Heap, (K w.params).In base → base.Ns mainGlobals mg → FnOk l.prog w (K w.params) mg base (CX w) k fa fd [x] (sp w))
    (hsp : ∀ (w : World) (H : Hp) (a : Addr) (ns : List Int), ns.length ≤ n → Only H → SqL (K w.params) H a (ns.map V.int) → sp w [.ref a] H (fun v _ => v = .bl true) fun _ _ _ => False)
    (hCX : ∀ (w : World) (H : Hp) (s : Shared) (e : Value) (s' : Shared), CX w [] H s (fun _ _ _ => False) e s' → False) :
    PySem.W.WalkO q loose XP YP l.row.toRowW d [] (fun f vs => PySem.call f vs) := by
  refine Att.attach_call hn hdf fun w s₀ s₁ mg mb fa o pm cd doc a vs ns G Y ho hd hcd hmg hobj hints hlen hg => ?_
  have KX := hY w _ Y
  obtain ⟨fd, hb, hF⟩ := F w mg fa _ KX G.T.g hmg
  exact law_call KX G.T.g G.T.b G.T.builtins G.T.nolimit hg hobj hints (Nat.le_trans hlen hn2) hr hF hb (fun H hO hS => hsp w H a ns hlen hO hS) fun H e s' => hCX w H s₁ e s'
theorem walk_ofK {l : PySem.W.OpenLaw} {n k : Nat} {q : Program} {loose : List Str} {XP : (Str → Option Value) → Heap → Prop} {YP : World → Heap → Prop} {d : DefRec} {K : Params → PySem.W.Frag} {CX : CXT} {sp : PySem.W.Frag → Sp} {x : Str}
    (hn : l.most = some n) (hn2 : n ≤ sizeLine) (hdf : d.params.defaults = []) (hr : Room k callerA)
    (hY : ∀ (w : World) (h : Heap), YP w h → (K w.params).In h)
    (F : ∀ (w : World) (mg : Str → Option Value) (fa : Addr) (h : Heap), (K w.params).In h → h.Ns mainGlobals mg → mg d.name = some (.ref fa) →
      ∃ fd : FuncData, (∀ (s : Shared) (u : Value), BindsTo s fd ⟨[u], []⟩ [(x, u)]) ∧
        ∀ base : Heap, (K w.params).In base → base.Ns mainGlobals mg → FnOk l.prog w (K w.params) mg base CX k fa fd [x] (sp (K w.params)))
    (hsp : ∀ (K : PySem.W.Frag) (H : Hp) (a : Addr) (ns : List Int), ns.length ≤ n → Only H → SqL K H a (ns.map V.int) → sp K [.ref a] H (fun v _ => v = .bl true) fun _ _ _ => False)
    (hCX : ∀ (H : Hp) (s : Shared) (e : Value) (s' : Shared), CX [] H s (fun _ _ _ => False) e s' → False) :
    PySem.W.WalkO q loose XP YP l.row.toRowW d [] (fun f vs => PySem.call f vs) :=
  walk_of (K := K) (CX := fun _ => CX) (sp := fun w => sp (K w.params)) hn hn2 hdf hr hY F (fun w H a ns h1 h2 h3 => hsp (K w.params) H a ns h1 h2 h3) fun _ H s e s' => hCX H s e s'
end L2
namespace L2
open PySem PySem.Spec PyProof.Rows
def defArgs (s : Stmt) : Arguments := match s with
  | .FunctionDef _ a _ _ _ _ _ _ _ _ => a
  | _ => { posonlyargs := [], args := [], vararg := none, kwonlyargs := [], kw_defaults := [], kwarg := none, defaults := [] }
def defBody (s : Stmt) : List Stmt := match s with
  | .FunctionDef _ _ b _ _ _ _ _ _ _ => b
  | _ => []
def defScope (s : Stmt) : Scope := match s with
  | .FunctionDef _ _ _ _ _ _ sc _ _ _ => sc
  | _ => { kind := .function, names := [], isGenerator := false, isCoroutine := false }
abbrev CX0 : CXT := fun _ _ _ _ _ _ => False
abbrev E0 : XK := fun _ _ _ => False
theorem pass0 {X : Cx} : Passes CX0 X E0 := fun _ _ _ _ _ _ _ h => h.elim
structure Fun (K : PySem.W.Frag) (x qual : Str) (st : Stmt) (f : Addr) (fd : FuncData) : Prop where
  ex : ∃ (oc : Value) (od : Option Addr) (kV doc pm : Value) (an : Option Addr) (cdv ct : Value) (osl : Array (Option Value)),
    fd = PySem.W.fnOf x qual (defArgs st) (defBody st) (defScope st) .none kV doc pm an cdv ct ∧ K.lookup f = some ⟨oc, od, .func fd, osl⟩ ∧ PySem.W.codeIn K cdv qual = true
  kp : PySem.W.keepIn K (.ref f) = true
section
variable {P : Program} {w : World} {K : PySem.W.Frag} {mg : Str → Option Value} {base : Heap}
theorem Fun.ok {x qual : Str} {st : Stmt} {f : Addr} {fd : FuncData} {N ps : List Str} {k : Nat} {sp : Sp} (F : Fun K x qual st f fd) (S : FnScope N ps (defScope st)) (len : ∀ vs H Q E, sp vs H Q E → vs.length = ps.length)
    (hbody : ∀ (cdv : Value) (A : Around) (outer : List Env) (s : Shared) (H : Hp) (vs : List V) (Q : VK) (E : XK), Room k (A.deeper (envOfC qual (defScope st) s.heap.objs.size f cdv)) → sp vs H Q E →
      ∃ t, PSs (cxOf CX0 P w K mg base N qual (defScope st) f cdv A outer s H E).nox (defBody st) t ∧ t { nx := fun _ H' => Q .non H', rt := Q } (start N vs) H) : FnOk P w K mg base CX0 (k + 1) f fd ps sp := by
  obtain ⟨oc, od, kV, doc, pm, an, cdv, ct, osl, rfl, lk, hcd⟩ := F.ex
  refine fn_of lk hcd S len fun A outer s H vs Q E hr hsp => ?_
  obtain ⟨t, h, q⟩ := hbody cdv A outer s H vs Q E hr hsp
  exact ⟨t, h.nox, q⟩
theorem Fun.binds {x qual : Str} {st : Stmt} {f : Addr} {fd : FuncData} {ps : List Str} (F : Fun K x qual st f fd)
    (h : ∀ (kV doc pm : Value) (an : Option Addr) (cdv ct : Value) (us : List Value), us.length = ps.length → bindArgs (PySem.W.fnOf x qual (defArgs st) (defBody st) (defScope st) .none kV doc pm an cdv ct) ⟨us, []⟩ = pure (ps.zip us)) : Binds K fd ps [] := by
  obtain ⟨oc, od, kV, doc, pm, an, cdv, ct, osl, rfl, lk, hcd⟩ := F.ex
  exact .all (h kV doc pm an cdv ct)
theorem fun_mk {x qual : Str} {st : Stmt} {f : Addr} {oc : Value} {od an : Option Addr} {osl : Array (Option Value)} {kV doc pm cdv ct : Value} (l : K.lookup f = some ⟨oc, od, .func (PySem.W.fnOf x qual (defArgs st) (defBody st) (defScope st) .none kV doc pm an cdv ct), osl⟩)
    (c : PySem.W.codeIn K cdv qual = true) (k : PySem.W.keepIn K (.ref f) = true) : Fun K x qual st f (PySem.W.fnOf x qual (defArgs st) (defBody st) (defScope st) .none kV doc pm an cdv ct) := ⟨⟨oc, od, kV, doc, pm, an, cdv, ct, osl, rfl, l, c⟩, k⟩
end
section
variable {X : Cx}
theorem pv (i : Nat) {x : Str} {pos : Pos} (hN : X.N[i]? = some x := by rfl) (hv : Vis X.env.scope x := by first | exact Or.inl rfl | exact Or.inr (Or.inl rfl) | exact Or.inr (Or.inr rfl)) (hd : (x == ("__debug__" : Str)) = false := by decide)
    (hcd : (x == ("__classdict__" : Str)) = false := by decide) : PE X (.Name x pos) (tVar i) := pe_var hN hv hd hcd
end
def Same (H H' : Hp) : Prop := ∀ b o, H b = some o → H' b = some o
theorem Same.refl (H : Hp) : Same H H := fun _ _ h => h
theorem Same.trans {H H1 H2 : Hp} (a : Same H H1) (b : Same H1 H2) : Same H H2 := fun c o h => b c o (a c o h)
theorem Same.free {H H' : Hp} (e : Same H H') {l : Addr} (h : H' l = Option.none) : H l = Option.none := by
  cases q : H l with
  | none => rfl
  | some o =>
    rw [e l o q] at h
    cases h
theorem Same.seq {K : PySem.W.Frag} {H H' : Hp} {a : Addr} {xs : List V} (e : Same H H') (h : SqL K H a xs) : SqL K H' a xs := by
  rcases h with (h | ⟨o, h⟩) | h
  · exact .inl (.inl (e _ _ h))
  · exact .inl (.inr ⟨o, e _ _ h⟩)
  · exact .inr h
end L2
set_option Elab.async false
set_option linter.all false
set_option maxRecDepth 100000
namespace DL
open PySem PySem.Spec PyProof.Rows L2
inductive D where
  | non | bl (b : Bool) | int (i : Int) | str (x : Str) | tup (l : List D) | lst (i : Nat)
structure Cell where
  fz : Bool
  xs : List D
abbrev Sto := List Cell
abbrev Lc := List (Option D)
structure XD where
  cls : Nat
  fld : Option D
inductive Out (α : Type) where
  | ok (a : α) (S : Sto)
  | exc (x : XD) (S : Sto)
  | bad
def Out.bind {α β : Type} (o : Out α) (g : α → Sto → Out β) : Out β :=
  match o with
  | .ok a S => g a S
  | .exc x S => .exc x S
  | .bad => .bad
mutual
def Rep (K : PySem.W.Frag) (mp : List Addr) (H : Hp) : D → V → Prop
  | .non, v => v = .non
  | .bl b, v => v = .bl b
  | .int i, v => v = .int i
  | .str x, v => v = .str x
  | .tup l, v => ∃ a xs, v = .ref a ∧ SqT K H a xs ∧ RepL K mp H l xs
  | .lst i, v => ∃ a, v = .ref a ∧ mp[i]? = some a
def RepL (K : PySem.W.Frag) (mp : List Addr) (H : Hp) : List D → List V → Prop
  | [], vs => vs = []
  | d :: l, vs => ∃ v r, vs = v :: r ∧ Rep K mp H d v ∧ RepL K mp H l r
end
structure Aft (K : PySem.W.Frag) (mp : List Addr) (H : Hp) (mp' : List Addr) (H' : Hp) : Prop where
  pre : ∀ (i : Nat) (a : Addr), mp[i]? = some a → mp'[i]? = some a
  tup : ∀ a xs, SqT K H a xs → SqT K H' a xs
theorem Aft.refl {K : PySem.W.Frag} {mp : List Addr} {H : Hp} : Aft K mp H mp H := ⟨fun _ _ h => h, fun _ _ h => h⟩
theorem Aft.trans {K : PySem.W.Frag} {mp mp1 mp2 : List Addr} {H H1 H2 : Hp} (a : Aft K mp H mp1 H1) (b : Aft K mp1 H1 mp2 H2) : Aft K mp H mp2 H2 :=
  ⟨fun i x h => b.pre i x (a.pre i x h), fun x xs h => b.tup x xs (a.tup x xs h)⟩
mutual
theorem Rep.aft {K : PySem.W.Frag} {mp mp' : List Addr} {H H' : Hp} (a : Aft K mp H mp' H') : ∀ (d : D) (v : V), Rep K mp H d v → Rep K mp' H' d v
  | .non, v, h => h
  | .bl _, v, h => h
  | .int _, v, h => h
  | .str _, v, h => h
  | .tup l, v, h => by
    obtain ⟨p, xs, e, s, r⟩ := (show ∃ a xs, v = .ref a ∧ SqT K H a xs ∧ RepL K mp H l xs from h)
    exact ⟨p, xs, e, a.tup _ _ s, RepL.aft a l xs r⟩
  | .lst i, v, h => by
    obtain ⟨p, e, s⟩ := (show ∃ a, v = .ref a ∧ mp[i]? = some a from h)
    exact ⟨p, e, a.pre _ _ s⟩
theorem RepL.aft {K : PySem.W.Frag} {mp mp' : List Addr} {H H' : Hp} (a : Aft K mp H mp' H') : ∀ (l : List D) (vs : List V), RepL K mp H l vs → RepL K mp' H' l vs
  | [], vs, h => h
  | d :: l, vs, h => by
    obtain ⟨v, r, e, h1, h2⟩ := (show ∃ v r, vs = v :: r ∧ Rep K mp H d v ∧ RepL K mp H l r from h)
    exact ⟨v, r, e, Rep.aft a d v h1, RepL.aft a l r h2⟩
end
section
variable {K : PySem.W.Frag} {mp : List Addr} {H : Hp}
theorem RepL.nil : RepL K mp H [] [] := rfl
theorem RepL.cons {d : D} {v : V} {l : List D} {r : List V} (h : Rep K mp H d v) (t : RepL K mp H l r) : RepL K mp H (d :: l) (v :: r) := ⟨v, r, rfl, h, t⟩
theorem RepL.len : ∀ {l : List D} {vs : List V}, RepL K mp H l vs → vs.length = l.length
  | [], vs, h => by cases (show vs = [] from h); rfl
  | d :: l, vs, h => by
    obtain ⟨v, r, e, h1, h2⟩ := h
    subst e
    simp [RepL.len h2]
theorem RepL.get : ∀ {l : List D} {vs : List V} {i : Nat} {d : D}, RepL K mp H l vs → l[i]? = some d → ∃ v, vs[i]? = some v ∧ Rep K mp H d v
  | [], _, _, _, _, e => by simp at e
  | d :: l, vs, 0, _, h, e => by
    obtain ⟨v, r, q, h1, h2⟩ := h
    subst q
    simp at e
    subst e
    exact ⟨v, rfl, h1⟩
  | d :: l, vs, i + 1, x, h, e => by
    obtain ⟨v, r, q, h1, h2⟩ := h
    subst q
    obtain ⟨v', a, b⟩ := RepL.get (i := i) (d := x) h2 (by simpa using e)
    exact ⟨v', by simpa using a, b⟩
theorem RepL.append : ∀ {l m : List D} {vs ws : List V}, RepL K mp H l vs → RepL K mp H m ws → RepL K mp H (l ++ m) (vs ++ ws)
  | [], m, vs, ws, h, g => by cases (show vs = [] from h); exact g
  | d :: l, m, vs, ws, h, g => by
    obtain ⟨v, r, q, h1, h2⟩ := h
    subst q
    exact ⟨v, r ++ ws, rfl, h1, RepL.append h2 g⟩
theorem RepL.take : ∀ {l : List D} {vs : List V} (n : Nat), RepL K mp H l vs → RepL K mp H (l.take n) (vs.take n)
  | [], vs, n, h => by cases (show vs = [] from h); simp; exact RepL.nil
  | d :: l, vs, 0, h => by simp; exact RepL.nil
  | d :: l, vs, n + 1, h => by
    obtain ⟨v, r, q, h1, h2⟩ := h
    subst q
    simpa using RepL.cons h1 (RepL.take n h2)
theorem RepL.drop : ∀ {l : List D} {vs : List V} (n : Nat), RepL K mp H l vs → RepL K mp H (l.drop n) (vs.drop n)
  | [], vs, n, h => by cases (show vs = [] from h); simp; exact RepL.nil
  | d :: l, vs, 0, h => by simpa using h
  | d :: l, vs, n + 1, h => by
    obtain ⟨v, r, q, h1, h2⟩ := h
    subst q
    simpa using RepL.drop n h2
theorem RepL.set : ∀ {l : List D} {vs : List V} {d : D} {v : V} (n : Nat), RepL K mp H l vs → Rep K mp H d v → RepL K mp H (l.set n d) (vs.set n v)
  | [], vs, d, v, n, h, g => by cases (show vs = [] from h); simp; exact RepL.nil
  | x :: l, vs, d, v, 0, h, g => by
    obtain ⟨v', r, q, h1, h2⟩ := h
    subst q
    simpa using RepL.cons g h2
  | x :: l, vs, d, v, n + 1, h, g => by
    obtain ⟨v', r, q, h1, h2⟩ := h
    subst q
    simpa using RepL.cons h1 (RepL.set n h2 g)
theorem RepL.rep {d : D} {v : V} (h : Rep K mp H d v) : ∀ n : Nat, RepL K mp H (List.replicate n d) (List.replicate n v)
  | 0 => RepL.nil
  | n + 1 => RepL.cons h (RepL.rep h n)
end
def SqF (K : PySem.W.Frag) (H : Hp) (a : Addr) (xs : List V) : Prop :=
  (∃ o, H a = some (.frz o (.lst xs))) ∨
    ∃ (o : Obj) (its : Array Value) (n : Nat), K.lookup a = some o ∧ o.cls = .type "list" ∧ o.dict = none ∧ o.data = .seq its n ∧ its.size ≤ sizeLine ∧ Vals xs its.toList
theorem SqF.sq {K : PySem.W.Frag} {H : Hp} {a : Addr} {xs : List V} (h : SqF K H a xs) : SqL K H a xs := by
  rcases h with h | h
  · exact .inl (.inr h)
  · exact .inr h
def CellOk (K : PySem.W.Frag) (mp : List Addr) (H : Hp) (a : Addr) (c : Cell) : Prop :=
  ∃ xs, RepL K mp H c.xs xs ∧ (if c.fz = true then SqF K H a xs else H a = some (.lst xs))
structure RS (K : PySem.W.Frag) (mp : List Addr) (H : Hp) (S : Sto) : Prop where
  len : mp.length = S.length
  cell : ∀ (i : Nat) (a : Addr) (c : Cell), mp[i]? = some a → S[i]? = some c → CellOk K mp H a c
  inj : ∀ (i j : Nat) (a : Addr) (ci cj : Cell), mp[i]? = some a → mp[j]? = some a → S[i]? = some ci → S[j]? = some cj → ci.fz = false → cj.fz = false → i = j
structure Gd (K : PySem.W.Frag) (mp : List Addr) (H : Hp) (σ : L2.St) (ρ : Lc) (S : Sto) : Prop where
  rs : RS K mp H S
  len : σ.length = ρ.length
  loc : ∀ (i : Nat) (d : D), ρ[i]? = some (some d) → ∃ v, σ[i]? = some (some v) ∧ Rep K mp H d v
theorem Gd.aft {K : PySem.W.Frag} {mp mp' : List Addr} {H H' : Hp} {σ : L2.St} {ρ : Lc} {S S' : Sto} (g : Gd K mp H σ ρ S) (a : Aft K mp H mp' H') (r : RS K mp' H' S') : Gd K mp' H' σ ρ S' :=
  ⟨r, g.len, fun i d h => let ⟨v, e, q⟩ := g.loc i d h; ⟨v, e, q.aft a⟩⟩
abbrev XW := XD → List Addr → Hp → L2.St → Lc → Sto → Prop
abbrev RL (α β : Type) := List Addr → Hp → α → β → Prop
def PostG {α β : Type} (K : PySem.W.Frag) (R : RL α β) (XQ : XW) (σ : L2.St) (ρ : Lc) (mp : List Addr) (H : Hp) (o : Out α) (Q : β → Hp → Prop) : Prop :=
  match o with
  | .ok d S => ∀ mp' H' v, Aft K mp H mp' H' → RS K mp' H' S → R mp' H' d v → Q v H'
  | .exc x S => ∀ mp' H', Aft K mp H mp' H' → Gd K mp' H' σ ρ S → XQ x mp' H' σ ρ S
  | .bad => False
theorem PostG.aft {α β : Type} {K : PySem.W.Frag} {R : RL α β} {XQ : XW} {σ : L2.St} {ρ : Lc} {mp mp' : List Addr} {H H' : Hp} {o : Out α} {Q : β → Hp → Prop} (p : PostG K R XQ σ ρ mp H o Q) (a : Aft K mp H mp' H') : PostG K R XQ σ ρ mp' H' o Q := by
  cases o with
  | ok d S => exact fun m h v b => p m h v (a.trans b)
  | exc x S => exact fun m h b => p m h (a.trans b)
  | bad => exact p
theorem PostG.ok {α β : Type} {K : PySem.W.Frag} {R : RL α β} {XQ : XW} {σ : L2.St} {ρ : Lc} {mp : List Addr} {H : Hp} {d : α} {S : Sto} {v : β} {Q : β → Hp → Prop} (p : PostG K R XQ σ ρ mp H (.ok d S) Q) (r : RS K mp H S) (h : R mp H d v) : Q v H := p mp H v .refl r h
abbrev Post (K : PySem.W.Frag) (XQ : XW) := PostG (β := V) K (Rep K) XQ
abbrev Ev (α : Type) := Lc → Sto → Out α
def rdG {α β : Type} (K : PySem.W.Frag) (R : RL α β) (XQ : XW) (f : Ev α) : L2.St → Hp → (β → Hp → Prop) → Prop := fun σ H Q => ∃ mp ρ S, Gd K mp H σ ρ S ∧ PostG K R XQ σ ρ mp H (f ρ S) Q
def kB : RL Bool Bool := fun _ _ a b => b = a
def kO : RL (Option Int) (Option Int) := fun _ _ a b => b = a
abbrev rdE (K : PySem.W.Frag) (XQ : XW) (f : Ev D) : TE := rdG K (Rep K) XQ f
abbrev rdA (K : PySem.W.Frag) (XQ : XW) (f : Ev (List D)) : TA := rdG K (RepL K) XQ f
abbrev rdT (K : PySem.W.Frag) (XQ : XW) (f : Ev Bool) : TT := rdG K kB XQ f
abbrev rdO (K : PySem.W.Frag) (XQ : XW) (f : Ev (Option Int)) : TO := rdG K kO XQ f
def JE (X : Cx) (XQ : XW) (e : Expr) (f : Ev D) : Prop := PE X e (rdE X.K XQ f)
def JA (X : Cx) (XQ : XW) (es : List Expr) (f : Ev (List D)) : Prop := PA X es (rdA X.K XQ f)
def JT (X : Cx) (XQ : XW) (e : Expr) (f : Ev Bool) : Prop := PT X e (rdT X.K XQ f)
def JW (X : Cx) (XQ : XW) (e : Expr) (f : Ev Bool) : Prop := PW X e (rdT X.K XQ f)
def JO (X : Cx) (XQ : XW) (e : Option Expr) (f : Ev (Option Int)) : Prop := PO X e (rdO X.K XQ f)
theorem PE.mono {X : Cx} {e : Expr} {t t' : TE} (h : PE X e t) (m : ∀ σ H Q, t' σ H Q → t σ H Q) : PE X e t' := fun pins s σ H Q I q => h pins s σ H Q I (m σ H Q q)
theorem PT.mono {X : Cx} {e : Expr} {t t' : TT} (h : PT X e t) (m : ∀ σ H Q, t' σ H Q → t σ H Q) : PT X e t' := fun pins s σ H Q I q => h pins s σ H Q I (m σ H Q q)
theorem PW.mono {X : Cx} {e : Expr} {t t' : TT} (h : PW X e t) (m : ∀ σ H Q, t' σ H Q → t σ H Q) : PW X e t' := fun wh pins s σ H Q I q => h wh pins s σ H Q I (m σ H Q q)
theorem PO.mono {X : Cx} {e : Option Expr} {t t' : TO} (h : PO X e t) (m : ∀ σ H Q, t' σ H Q → t σ H Q) : PO X e t' := fun pins s σ H Q I q => h pins s σ H Q I (m σ H Q q)
theorem PA.mono {X : Cx} {e : List Expr} {t t' : TA} (h : PA X e t) (m : ∀ σ H Q, t' σ H Q → t σ H Q) : PA X e t' := fun pos pins s σ H Q I q => h pos pins s σ H Q I (m σ H Q q)
theorem PS.mono {X : Cx} {e : Stmt} {t t' : TS} (h : PS X e t) (m : ∀ D σ H, t' D σ H → t D σ H) : PS X e t' := fun pins s σ H D I q => h pins s σ H D I (m D σ H q)
theorem PSs.mono {X : Cx} {e : List Stmt} {t t' : TS} (h : PSs X e t) (m : ∀ D σ H, t' D σ H → t D σ H) : PSs X e t' := fun pins s σ H D I q => h pins s σ H D I (m D σ H q)
theorem bindP {α β γ δ : Type} {K : PySem.W.Frag} {R : RL α β} {R' : RL γ δ} {XQ : XW} {mp : List Addr} {H : Hp} {σ : L2.St} {ρ : Lc} {S : Sto} {f : Ev α} {g : α → Sto → Out γ} {Q : δ → Hp → Prop} {Q1 : β → Hp → Prop} (G : Gd K mp H σ ρ S) (p : PostG K R' XQ σ ρ mp H ((f ρ S).bind g) Q)
    (k : ∀ mp1 H1 d S1 v, Aft K mp H mp1 H1 → Gd K mp1 H1 σ ρ S1 → R mp1 H1 d v → PostG K R' XQ σ ρ mp1 H1 (g d S1) Q → Q1 v H1) : rdG K R XQ f σ H Q1 := by
  refine ⟨mp, ρ, S, G, ?_⟩
  cases e : f ρ S with
  | ok d S1 =>
    rw [e] at p
    exact fun mp1 H1 v a rs r => k mp1 H1 d S1 v a (G.aft a rs) r (PostG.aft p a)
  | exc x S1 => rw [e] at p; exact p
  | bad => rw [e] at p; exact p
def vr (i : Nat) : Ev D := fun ρ S => match ρ[i]? with
  | some (some d) => .ok d S
  | _ => .bad
def cn (d : D) : Ev D := fun _ S => .ok d S
section
variable {X : Cx} {XQ : XW}
theorem je_var (i : Nat) {x : Str} {pos : Pos} (hN : X.N[i]? = some x := by rfl) (hv : Vis X.env.scope x := by first | exact Or.inl rfl | exact Or.inr (Or.inl rfl) | exact Or.inr (Or.inr rfl)) (hd : (x == ("__debug__" : Str)) = false := by decide)
    (hcd : (x == ("__classdict__" : Str)) = false := by decide) : JE X XQ (.Name x pos) (vr i) := by
  refine PE.mono (pe_var hN hv hd hcd) fun σ H Q ⟨mp, ρ, S, G, p⟩ => ?_
  unfold vr at p
  cases e : ρ[i]? with
  | none => rw [e] at p; exact p.elim
  | some o =>
    rw [e] at p
    cases o with
    | none => exact p.elim
    | some d =>
      obtain ⟨v, h1, h2⟩ := G.loc i d e
      exact ⟨v, h1, PostG.ok p G.rs h2⟩
theorem je_const {e : Expr} {d : D} {v : V} (h : PE X e (tC v)) (r : ∀ mp H, Rep X.K mp H d v) : JE X XQ e (cn d) :=
  PE.mono h fun σ H Q ⟨mp, ρ, S, G, p⟩ => PostG.ok p G.rs (r mp H)
theorem je_int {i : Int} {j pos} : JE X XQ (.Constant (.int i) j pos) (cn (.int i)) := je_const pe_int fun _ _ => rfl
theorem je_bl {b : Bool} {j pos} : JE X XQ (.Constant (.bool b) j pos) (cn (.bl b)) := je_const pe_bl fun _ _ => rfl
theorem je_non {j pos} : JE X XQ (.Constant .none j pos) (cn .non) := je_const pe_non fun _ _ => rfl
theorem je_str {x : Str} {j pos} : JE X XQ (.Constant (.str x) j pos) (cn (.str x)) := je_const pe_str fun _ _ => rfl
def an : Ev (List D) := fun _ S => .ok [] S
def ac (f : Ev D) (g : Ev (List D)) : Ev (List D) := fun ρ S => (f ρ S).bind fun x S1 => (g ρ S1).bind fun xs S2 => .ok (x :: xs) S2
theorem ja_nil : JA X XQ [] an := PA.mono pa_nil fun σ H Q ⟨mp, ρ, S, G, p⟩ => PostG.ok p G.rs RepL.nil
theorem ja_cons {e : Expr} {es : List Expr} {f : Ev D} {g : Ev (List D)} (ha : JE X XQ e f) (hr : JA X XQ es g) (hs : starEach (e :: es) X.env = (false, eval e X.env) :: starEach es X.env := by rfl) : JA X XQ (e :: es) (ac f g) := by
  refine PA.mono (pa_cons ha hr hs) fun σ H Q ⟨mp, ρ, S, G, p⟩ => ?_
  refine bindP G p fun mp1 H1 x S1 v a1 G1 r1 p1 => ?_
  refine bindP G1 p1 fun mp2 H2 xs S2 vs a2 G2 r2 p2 => ?_
  exact PostG.ok p2 G2.rs (RepL.cons (Rep.aft a2 _ _ r1) r2)
theorem aft_new {K : PySem.W.Frag} {mp : List Addr} {H : Hp} {p : Addr} {o : HO} (h : H p = none) : Aft K mp H mp (upd H p o) := by
  refine ⟨fun _ _ e => e, fun a xs s => ?_⟩
  rcases s with (s | ⟨ob, s⟩) | s
  · exact .inl (.inl (by rw [upd_ne (ne_of_none s h)]; exact s))
  · exact .inl (.inr ⟨ob, by rw [upd_ne (ne_of_none s h)]; exact s⟩)
  · exact .inr s
theorem sqF_new {K : PySem.W.Frag} {H : Hp} {p a : Addr} {o : HO} {xs : List V} (h : H p = none) (s : SqF K H a xs) : SqF K (upd H p o) a xs := by
  rcases s with ⟨ob, s⟩ | s
  · exact .inl ⟨ob, by rw [upd_ne (ne_of_none s h)]; exact s⟩
  · exact .inr s
theorem CellOk.new {K : PySem.W.Frag} {mp mp' : List Addr} {H : Hp} {p a : Addr} {o : HO} {c : Cell} (h : H p = none) (af : Aft K mp H mp' (upd H p o)) (q : CellOk K mp H a c) : CellOk K mp' (upd H p o) a c := by
  obtain ⟨xs, r, e⟩ := q
  refine ⟨xs, RepL.aft af _ _ r, ?_⟩
  cases z : c.fz with
  | true => rw [z] at e; exact (if_pos rfl).mpr (sqF_new h ((if_pos rfl).mp e))
  | false =>
    rw [z, if_neg Bool.false_ne_true] at e
    rw [if_neg Bool.false_ne_true, upd_ne (ne_of_none e h)]
    exact e
theorem RS.new {K : PySem.W.Frag} {mp : List Addr} {H : Hp} {S : Sto} {p : Addr} {o : HO} (r : RS K mp H S) (h : H p = none) : RS K mp (upd H p o) S :=
  ⟨r.len, fun i a c e1 e2 => (r.cell i a c e1 e2).new h (aft_new h), r.inj⟩
theorem RS.newL {K : PySem.W.Frag} {mp : List Addr} {H : Hp} {S : Sto} {p : Addr} {ds : List D} {vs : List V} (r : RS K mp H S) (h : H p = none) (q : RepL K mp H ds vs) :
    Aft K mp H (mp ++ [p]) (upd H p (.lst vs)) ∧ RS K (mp ++ [p]) (upd H p (.lst vs)) (S ++ [⟨false, ds⟩]) ∧ (mp ++ [p])[S.length]? = some p := by
  have af : Aft K mp H (mp ++ [p]) (upd H p (.lst vs)) := ⟨fun i a e => by rw [List.getElem?_append_left (List.getElem?_eq_some_iff.mp e).1]; exact e, (aft_new (mp := mp) h).tup⟩
  have hl := r.len
  have lastp : (mp ++ [p])[S.length]? = some p := by rw [← hl]; simp
  refine ⟨af, ⟨by simp [hl], fun i a c e1 e2 => ?_, fun i j a ci cj e1 e2 e3 e4 f1 f2 => ?_⟩, lastp⟩
  · by_cases hi : i < S.length
    · rw [List.getElem?_append_left (by omega)] at e1
      rw [List.getElem?_append_left hi] at e2
      exact (r.cell i a c e1 e2).new h af
    · have hi' : i = S.length := by
        have := (List.getElem?_eq_some_iff.mp e2).1
        simp at this
        omega
      subst hi'
      rw [lastp] at e1
      cases e1
      simp at e2
      subst e2
      exact ⟨vs, RepL.aft af _ _ q, by simp [upd_same]⟩
  · have old : ∀ (i : Nat) (a : Addr) (c : Cell), i < S.length → (mp ++ [p])[i]? = some a → (S ++ [⟨false, ds⟩])[i]? = some c → c.fz = false → mp[i]? = some a ∧ S[i]? = some c ∧ a ≠ p := fun i a c hi e1 e2 f => by
      rw [List.getElem?_append_left (by omega)] at e1
      rw [List.getElem?_append_left hi] at e2
      refine ⟨e1, e2, ?_⟩
      obtain ⟨xs, _, e⟩ := r.cell i a c e1 e2
      rw [f, if_neg Bool.false_ne_true] at e
      exact ne_of_none e h
    have hi := (List.getElem?_eq_some_iff.mp e3).1
    have hj := (List.getElem?_eq_some_iff.mp e4).1
    simp at hi hj
    by_cases hi' : i < S.length
    · obtain ⟨o1, o2, o3⟩ := old i a ci hi' e1 e3 f1
      by_cases hj' : j < S.length
      · obtain ⟨u1, u2, u3⟩ := old j a cj hj' e2 e4 f2
        exact r.inj i j a ci cj o1 u1 o2 u2 f1 f2
      · have : j = S.length := by omega
        subst this
        rw [lastp] at e2
        cases e2
        exact absurd rfl o3
    · have : i = S.length := by omega
      subst this
      rw [lastp] at e1
      cases e1
      by_cases hj' : j < S.length
      · obtain ⟨u1, u2, u3⟩ := old j _ cj hj' e2 e4 f2
        exact absurd rfl u3
      · omega
theorem RS.setL {K : PySem.W.Frag} {mp : List Addr} {H : Hp} {S : Sto} {i : Nat} {a : Addr} {c : Cell} {xs vs : List V} {ds : List D} (r : RS K mp H S) (hi : mp[i]? = some a) (hc : S[i]? = some c) (hf : c.fz = false) (ha : H a = some (.lst xs)) (q : RepL K mp H ds vs) :
    Aft K mp H mp (upd H a (.lst vs)) ∧ RS K mp (upd H a (.lst vs)) (S.set i ⟨false, ds⟩) := by
  have af : Aft K mp H mp (upd H a (.lst vs)) := by
    refine ⟨fun _ _ e => e, fun b ys s => ?_⟩
    rcases s with (s | ⟨ob, s⟩) | s
    · exact .inl (.inl (by rw [upd_ne (ne_of s ha (by intro z; cases z))]; exact s))
    · exact .inl (.inr ⟨ob, by rw [upd_ne (ne_of s ha (by intro z; cases z))]; exact s⟩)
    · exact .inr s
  refine ⟨af, ⟨by simp [r.len], fun j b cj e1 e2 => ?_, fun j k b cj ck e1 e2 e3 e4 f1 f2 => ?_⟩⟩
  · by_cases hj : j = i
    · subst hj
      rw [hi] at e1
      cases e1
      rw [List.getElem?_set_self (List.getElem?_eq_some_iff.mp hc).1] at e2
      cases e2
      exact ⟨vs, RepL.aft af _ _ q, by simp [upd_same]⟩
    · rw [List.getElem?_set_ne (Ne.symm hj)] at e2
      obtain ⟨ys, h1, h2⟩ := r.cell j b cj e1 e2
      refine ⟨ys, RepL.aft af _ _ h1, ?_⟩
      cases z : cj.fz with
      | true =>
        rw [z] at h2
        have h2 : SqF K H b ys := (if_pos rfl).mp h2
        refine (if_pos rfl).mpr ?_
        rcases h2 with ⟨ob, s⟩ | s
        · exact .inl ⟨ob, by rw [upd_ne (ne_of s ha (by intro z; cases z))]; exact s⟩
        · exact .inr s
      | false =>
        rw [z, if_neg Bool.false_ne_true] at h2
        rw [if_neg Bool.false_ne_true]
        have hb : b ≠ a := fun hb => by
          subst hb
          exact hj (r.inj j i b cj c e1 hi e2 hc z hf)
        rw [upd_ne hb]
        exact h2
  · have fz : ∀ (j : Nat) (cj : Cell), (S.set i ⟨false, ds⟩)[j]? = some cj → cj.fz = false → ∃ c', S[j]? = some c' ∧ c'.fz = false := fun j cj e f => by
      by_cases hj : j = i
      · subst hj
        exact ⟨c, hc, hf⟩
      · rw [List.getElem?_set_ne (Ne.symm hj)] at e
        exact ⟨cj, e, f⟩
    obtain ⟨c1, g1, g2⟩ := fz j cj e3 f1
    obtain ⟨c2, g3, g4⟩ := fz k ck e4 f2
    exact r.inj j k b c1 c2 e1 e2 g1 g3 g2 g4
theorem RS.items {K : PySem.W.Frag} {mp : List Addr} {H : Hp} {S : Sto} {i : Nat} {c : Cell} {v : V} (r : RS K mp H S) (h : Rep K mp H (.lst i) v) (e : S[i]? = some c) : ∃ a xs, v = .ref a ∧ mp[i]? = some a ∧ SqL K H a xs ∧ RepL K mp H c.xs xs ∧ (c.fz = false → H a = some (.lst xs)) := by
  obtain ⟨a, ev, ea⟩ := (show ∃ a, v = .ref a ∧ mp[i]? = some a from h)
  obtain ⟨xs, q, z⟩ := r.cell i a c ea e
  cases f : c.fz with
  | true => rw [f] at z; exact ⟨a, xs, ev, ea, ((if_pos rfl).mp z : SqF K H a xs).sq, q, fun w => nomatch w⟩
  | false => rw [f, if_neg Bool.false_ne_true] at z; exact ⟨a, xs, ev, ea, SqL.of z, q, fun _ => z⟩
theorem Rep.tup {K : PySem.W.Frag} {mp : List Addr} {H : Hp} {l : List D} {v : V} (h : Rep K mp H (.tup l) v) : ∃ a xs, v = .ref a ∧ SqT K H a xs ∧ RepL K mp H l xs := h
def OpD (K : PySem.W.Frag) (r : R2) (o : D → D → Sto → Out D) : Prop :=
  ∀ (XQ : XW) (σ : L2.St) (ρ : Lc) (mp : List Addr) (H : Hp) (S : Sto) (x y : D) (v u : V) (Q : VK), RS K mp H S → Rep K mp H x v → Rep K mp H y u → Post K XQ σ ρ mp H (o x y S) Q → r v u H Q
def o2 (o : D → D → Sto → Out D) (fa fb : Ev D) : Ev D := fun ρ S => (fa ρ S).bind fun x S1 => (fb ρ S1).bind fun y S2 => o x y S2
theorem opR2 {r : R2} {o : D → D → Sto → Out D} {fa fb : Ev D} (hd : OpD X.K r o) : ∀ σ H Q, rdE X.K XQ (o2 o fa fb) σ H Q → tOp r (rdE X.K XQ fa) (rdE X.K XQ fb) σ H Q := by
  intro σ H Q ⟨mp, ρ, S, G, p⟩
  refine bindP G p fun mp1 H1 x S1 v a1 G1 r1 p1 => ?_
  refine bindP G1 p1 fun mp2 H2 y S2 u a2 G2 r2 p2 => ?_
  exact hd XQ σ ρ mp2 H2 S2 x y v u Q G2.rs (Rep.aft a2 _ _ r1) r2 p2
theorem je_op {a b : Expr} {fa fb : Ev D} {op : Operator} {r : R2} {o : D → D → Sto → Out D} {pos : Pos} (ho : OpR X (binaryOp op) r) (hd : OpD X.K r o) (ha : JE X XQ a fa) (hb : JE X XQ b fb) : JE X XQ (.BinOp a op b pos) (o2 o fa fb) :=
  PE.mono (pe_op ho ha hb) (opR2 hd)
theorem je_cmp {a b : Expr} {fa fb : Ev D} {op : CmpOp} {r : R2} {o : D → D → Sto → Out D} {pos : Pos} (ho : OpR X (compareOp op) r) (hd : OpD X.K r o) (ha : JE X XQ a fa) (hb : JE X XQ b fb) (hm : behindInMarks op b = false) : JE X XQ (.Compare a [op] [b] pos) (o2 o fa fb) :=
  PE.mono (pe_cmpR ho ha hb hm) (opR2 hd)
theorem je_ix {a b : Expr} {fa fb : Ev D} {r : R2} {o : D → D → Sto → Out D} {pos : Pos} (hr : IxR X r) (hd : OpD X.K r o) (ha : JE X XQ a fa) (hb : JE X XQ b fb) (hs : PlainIx b) : JE X XQ (.Subscript a b pos) (o2 o fa fb) :=
  PE.mono (pe_ix hr ha hb hs) (opR2 hd)
def UnD (K : PySem.W.Frag) (r : V → Hp → VK → Prop) (o : D → Sto → Out D) : Prop :=
  ∀ (XQ : XW) (σ : L2.St) (ρ : Lc) (mp : List Addr) (H : Hp) (S : Sto) (x : D) (v : V) (Q : VK), RS K mp H S → Rep K mp H x v → Post K XQ σ ρ mp H (o x S) Q → r v H Q
def o1 (o : D → Sto → Out D) (fa : Ev D) : Ev D := fun ρ S => (fa ρ S).bind fun x S1 => o x S1
theorem je_un {a : Expr} {fa : Ev D} {op : UnaryOp} {r : V → Hp → VK → Prop} {o : D → Sto → Out D} {pos : Pos} (ho : UnR X (unaryOp op) r) (hd : UnD X.K r o) (ha : JE X XQ a fa) : JE X XQ (.UnaryOp op a pos) (o1 o fa) := by
  refine PE.mono (pe_un ho ha) fun σ H Q ⟨mp, ρ, S, G, p⟩ => ?_
  exact bindP G p fun mp1 H1 x S1 v a1 G1 r1 p1 => hd XQ σ ρ mp1 H1 S1 x v Q G1.rs r1 p1
def tp (f : Ev (List D)) : Ev D := fun ρ S => (f ρ S).bind fun xs S1 => if xs.length ≤ 1000000 then .ok (.tup xs) S1 else .bad
def ls (f : Ev (List D)) : Ev D := fun ρ S => (f ρ S).bind fun xs S1 => if xs.length ≤ 1000000 then .ok (.lst S1.length) (S1 ++ [⟨false, xs⟩]) else .bad
theorem line_le {n : Nat} (h : n ≤ 1000000) : n ≤ sizeLine := Nat.le_trans h (by decide)
theorem post_tup {K : PySem.W.Frag} {σ : L2.St} {ρ : Lc} {mp : List Addr} {H : Hp} {S : Sto} {ds : List D} {vs : List V} {Q : VK} {p : Addr} (po : Post K XQ σ ρ mp H (.ok (.tup ds) S) Q) (r : RS K mp H S) (q : RepL K mp H ds vs) (h : H p = none) : Q (.ref p) (upd H p (.tup vs)) := by
  have af : Aft K mp H mp (upd H p (.tup vs)) := aft_new h
  exact po mp _ _ af (r.new h) ⟨p, vs, rfl, SqT.of upd_same, RepL.aft af _ _ q⟩
theorem post_lst {K : PySem.W.Frag} {σ : L2.St} {ρ : Lc} {mp : List Addr} {H : Hp} {S : Sto} {ds : List D} {vs : List V} {Q : VK} {p : Addr} (po : Post K XQ σ ρ mp H (.ok (.lst S.length) (S ++ [⟨false, ds⟩])) Q) (r : RS K mp H S) (q : RepL K mp H ds vs) (h : H p = none) : Q (.ref p) (upd H p (.lst vs)) := by
  obtain ⟨af, rs, e⟩ := r.newL h q
  exact po _ _ _ af rs ⟨p, rfl, e⟩
theorem je_tup {es : List Expr} {f : Ev (List D)} {x1} {pos : Pos} (h : JA X XQ es f) : JE X XQ (.Tuple es x1 pos) (tp f) := by
  refine PE.mono (pe_tup h) fun σ H Q ⟨mp, ρ, S, G, p⟩ => ?_
  refine bindP G p fun mp1 H1 xs S1 vs a1 G1 r1 p1 => ?_
  by_cases hl : xs.length ≤ 1000000
  · rw [if_pos hl] at p1
    exact ⟨by rw [r1.len]; exact line_le hl, fun q hq => post_tup p1 G1.rs r1 hq⟩
  · rw [if_neg hl] at p1; exact p1.elim
theorem je_lst {es : List Expr} {f : Ev (List D)} {pos : Pos} (h : JA X XQ es f) : JE X XQ (.List es pos) (ls f) := by
  refine PE.mono (pe_lst h) fun σ H Q ⟨mp, ρ, S, G, p⟩ => ?_
  refine bindP G p fun mp1 H1 xs S1 vs a1 G1 r1 p1 => ?_
  by_cases hl : xs.length ≤ 1000000
  · rw [if_pos hl] at p1
    exact ⟨by rw [r1.len]; exact line_le hl, fun q hq => post_lst p1 G1.rs r1 hq⟩
  · rw [if_neg hl] at p1; exact p1.elim
def truD : D → Sto → Option Bool
  | .non, _ => some false
  | .bl b, _ => some b
  | .int i, _ => some (i != 0)
  | .str y, _ => if y.length ≤ 1000000 then some ((y.length : Int) != 0) else none
  | .tup l, _ => some (!l.isEmpty)
  | .lst i, S => match S[i]? with
    | some c => some (!c.xs.isEmpty)
    | none => none
def tt (f : Ev D) : Ev Bool := fun ρ S => (f ρ S).bind fun x S1 => match truD x S1 with
  | some b => .ok b S1
  | none => .bad
theorem RepL.empty {K : PySem.W.Frag} {mp : List Addr} {H : Hp} {l : List D} {vs : List V} (h : RepL K mp H l vs) : (!l.isEmpty) = !vs.isEmpty := by
  have e := h.len
  cases l <;> cases vs <;> simp_all
theorem truV_of {K : PySem.W.Frag} {mp : List Addr} {H : Hp} {S : Sto} {x : D} {v : V} {b : Bool} (r : RS K mp H S) (h : Rep K mp H x v) (e : truD x S = some b) : TruV K v H b := by
  cases x with
  | non => cases (show v = .non from h); exact (Option.some.inj e).symm
  | bl c => cases (show v = .bl c from h); exact (Option.some.inj e).symm
  | int i => cases (show v = .int i from h); exact (Option.some.inj e).symm
  | str y =>
    cases (show v = .str y from h)
    have e : (if y.length ≤ 1000000 then some ((y.length : Int) != 0) else none) = some b := e
    by_cases hl : y.length ≤ 1000000
    · rw [if_pos hl] at e; exact ⟨line_le hl, (Option.some.inj e).symm⟩
    · rw [if_neg hl] at e; cases e
  | tup l =>
    obtain ⟨a, xs, rfl, s, q⟩ := Rep.tup h
    exact .inr (.inl ⟨xs, s, by rw [← q.empty]; exact (Option.some.inj e).symm⟩)
  | lst i =>
    have e : (match S[i]? with | some c => some (!c.xs.isEmpty) | none => none) = some b := e
    cases z : S[i]? with
    | none => rw [z] at e; cases e
    | some c =>
      rw [z] at e
      obtain ⟨a, xs, rfl, _, s, q, _⟩ := r.items h z
      exact .inl ⟨xs, s, by rw [← q.empty]; exact (Option.some.inj e).symm⟩
theorem jt_val {e : Expr} {f : Ev D} (h : JE X XQ e f) (he : ∀ whole, isTrue e X.env whole = (do let v ← whole; standAt e.pos; holding [v] (truthy v)) := by intro _; rfl) : JT X XQ e (tt f) := by
  refine PT.mono (pt_truth h he) fun σ H Q ⟨mp, ρ, S, G, p⟩ => ?_
  refine bindP G p fun mp1 H1 x S1 v a1 G1 r1 p1 => ?_
  cases z : truD x S1 with
  | none => rw [z] at p1; exact p1.elim
  | some b =>
    rw [z] at p1
    exact ⟨b, truV_of G1.rs r1 z, PostG.ok p1 G1.rs rfl⟩
def tb (f : Ev D) : Ev Bool := fun ρ S => (f ρ S).bind fun x S1 => match x with
  | .bl b => .ok b S1
  | _ => .bad
theorem tb_of {K : PySem.W.Frag} {f : Ev D} {σ : L2.St} {H : Hp} {Q : Bool → Hp → Prop} (h : rdT K XQ (tb f) σ H Q) : rdE K XQ f σ H fun x H1 => ∃ k, x = .bl k ∧ Q k H1 := by
  obtain ⟨mp, ρ, S, G, p⟩ := h
  refine bindP G p fun mp1 H1 x S1 v a1 G1 r1 p1 => ?_
  cases x with
  | bl b => exact ⟨b, r1, PostG.ok p1 G1.rs rfl⟩
  | _ => exact p1.elim
theorem jt_cmp {a b : Expr} {fa fb : Ev D} {op : CmpOp} {r : R2} {o : D → D → Sto → Out D} {pos : Pos} (ho : OpR X (compareOp op) r) (hd : OpD X.K r o) (ha : JE X XQ a fa) (hb : JE X XQ b fb) (hm : behindInMarks op b = false) : JT X XQ (.Compare a [op] [b] pos) (tb (o2 o fa fb)) :=
  PT.mono (pt_cmpR ho ha hb hm) fun σ H Q h => opR2 hd σ H _ (tb_of h)
def tn (f : Ev Bool) : Ev Bool := fun ρ S => (f ρ S).bind fun b S1 => .ok (!b) S1
def ta (f g : Ev Bool) : Ev Bool := fun ρ S => (f ρ S).bind fun b S1 => if b = true then g ρ S1 else .ok false S1
def to (f g : Ev Bool) : Ev Bool := fun ρ S => (f ρ S).bind fun b S1 => if b = true then .ok true S1 else g ρ S1
theorem jt_not {a : Expr} {f : Ev Bool} {pos : Pos} (h : JT X XQ a f) : JT X XQ (.UnaryOp .Not a pos) (tn f) :=
  PT.mono (pt_not h) fun σ H Q ⟨mp, ρ, S, G, p⟩ => bindP G p fun mp1 H1 b S1 c a1 G1 r1 p1 => by
    cases (show c = b from r1)
    exact PostG.ok p1 G1.rs rfl
theorem jw_and1 {a : Expr} {f : Ev Bool} {pos : Pos} (h : JT X XQ a f) : JW X XQ (.BoolOp .And [a] pos) f := pw_and1 h
theorem jw_or1 {a : Expr} {f : Ev Bool} {pos : Pos} (h : JT X XQ a f) : JW X XQ (.BoolOp .Or [a] pos) f := pw_or1 h
theorem jw_and {a b : Expr} {rest : List Expr} {f g : Ev Bool} {pos : Pos} (h : JT X XQ a f) (hb : JW X XQ (.BoolOp .And (b :: rest) pos) g) : JW X XQ (.BoolOp .And (a :: b :: rest) pos) (ta f g) :=
  PW.mono (pw_and h hb) fun σ H Q ⟨mp, ρ, S, G, p⟩ => bindP G p fun mp1 H1 b S1 c a1 G1 r1 p1 => by
    cases (show c = b from r1)
    cases b with
    | true => exact (if_pos rfl).mpr ⟨mp1, ρ, S1, G1, by simpa using p1⟩
    | false => exact (if_neg Bool.false_ne_true).mpr (PostG.ok (R := kB) (d := false) (S := S1) (by simpa using p1) G1.rs rfl)
theorem jw_or {a b : Expr} {rest : List Expr} {f g : Ev Bool} {pos : Pos} (h : JT X XQ a f) (hb : JW X XQ (.BoolOp .Or (b :: rest) pos) g) : JW X XQ (.BoolOp .Or (a :: b :: rest) pos) (to f g) :=
  PW.mono (pw_or h hb) fun σ H Q ⟨mp, ρ, S, G, p⟩ => bindP G p fun mp1 H1 b S1 c a1 G1 r1 p1 => by
    cases (show c = b from r1)
    cases b with
    | false => exact (if_neg Bool.false_ne_true).mpr ⟨mp1, ρ, S1, G1, by simpa using p1⟩
    | true => exact (if_pos rfl).mpr (PostG.ok (R := kB) (d := true) (S := S1) (by simpa using p1) G1.rs rfl)
theorem JW.jt {e : Expr} {f : Ev Bool} (h : JW X XQ e f) : JT X XQ e f := PW.pt h
def va (f g : Ev D) : Ev D := fun ρ S => (f ρ S).bind fun x S1 => match x with
  | .bl b => if b = true then g ρ S1 else .ok (.bl false) S1
  | _ => .bad
def vo (f g : Ev D) : Ev D := fun ρ S => (f ρ S).bind fun x S1 => match x with
  | .bl b => if b = true then .ok (.bl true) S1 else g ρ S1
  | _ => .bad
def vn (f : Ev D) : Ev D := fun ρ S => (f ρ S).bind fun x S1 => match x with
  | .bl b => .ok (.bl (!b)) S1
  | _ => .bad
theorem je_one {a : Expr} {op} {f : Ev D} {pos : Pos} (h : JE X XQ a f) : JE X XQ (.BoolOp op [a] pos) f := pe_one h
theorem je_and {a b : Expr} {rest : List Expr} {f g : Ev D} {pos : Pos} (ha : JE X XQ a f) (hb : JE X XQ (.BoolOp .And (b :: rest) pos) g) : JE X XQ (.BoolOp .And (a :: b :: rest) pos) (va f g) :=
  PE.mono (pe_and ha hb) fun σ H Q ⟨mp, ρ, S, G, p⟩ => bindP G p fun mp1 H1 x S1 v a1 G1 r1 p1 => by
    cases x with
    | bl b =>
      refine ⟨b, r1, ?_⟩
      cases b with
      | true => exact (if_pos rfl).mpr ⟨mp1, ρ, S1, G1, by simpa using p1⟩
      | false => exact (if_neg Bool.false_ne_true).mpr (PostG.ok (R := Rep X.K) (d := .bl false) (S := S1) (by simpa using p1) G1.rs rfl)
    | _ => exact p1.elim
theorem je_not {a : Expr} {f : Ev D} {pos : Pos} (ha : JE X XQ a f) : JE X XQ (.UnaryOp .Not a pos) (vn f) :=
  PE.mono (pe_not ha) fun σ H Q ⟨mp, ρ, S, G, p⟩ => bindP G p fun mp1 H1 x S1 v a1 G1 r1 p1 => by
    cases x with
    | bl b => exact ⟨b, r1, PostG.ok p1 G1.rs rfl⟩
    | _ => exact p1.elim
def ie (c : Ev Bool) (f g : Ev D) : Ev D := fun ρ S => (c ρ S).bind fun b S1 => if b = true then f ρ S1 else g ρ S1
theorem je_ifx {a b c : Expr} {fc : Ev Bool} {fa fb : Ev D} {pos : Pos} (hc : JT X XQ c fc) (ha : JE X XQ a fa) (hb : JE X XQ b fb) : JE X XQ (.IfExp c a b pos) (ie fc fa fb) :=
  PE.mono (pe_ifExp hc ha hb) fun σ H Q ⟨mp, ρ, S, G, p⟩ => bindP G p fun mp1 H1 b S1 c a1 G1 r1 p1 => by
    cases (show c = b from r1)
    cases b with
    | true => exact (if_pos rfl).mpr ⟨mp1, ρ, S1, G1, by simpa using p1⟩
    | false => exact (if_neg Bool.false_ne_true).mpr ⟨mp1, ρ, S1, G1, by simpa using p1⟩
end
end DL
set_option Elab.async false
set_option linter.all false
set_option maxRecDepth 100000
namespace DL
open PySem PySem.Spec PyProof.Rows L2
inductive OS where
  | nx (ρ : Lc) (S : Sto) | rt (d : D) (S : Sto) | bk (ρ : Lc) (S : Sto) | ct (ρ : Lc) (S : Sto) | exc (x : XD) (ρ : Lc) (S : Sto) | bad
abbrev Sv := Lc → Sto → OS
def PostS (K : PySem.W.Frag) (XQ : XW) (mp : List Addr) (H : Hp) (o : OS) (E : Ends) : Prop :=
  match o with
  | .nx ρ S => ∀ mp' H' σ', Aft K mp H mp' H' → Gd K mp' H' σ' ρ S → E.nx σ' H'
  | .rt d S => ∀ mp' H' v, Aft K mp H mp' H' → RS K mp' H' S → Rep K mp' H' d v → E.rt v H'
  | .bk ρ S => ∀ mp' H' σ', Aft K mp H mp' H' → Gd K mp' H' σ' ρ S → E.bk σ' H'
  | .ct ρ S => ∀ mp' H' σ', Aft K mp H mp' H' → Gd K mp' H' σ' ρ S → E.ct σ' H'
  | .exc x ρ S => ∀ mp' H' σ', Aft K mp H mp' H' → Gd K mp' H' σ' ρ S → XQ x mp' H' σ' ρ S
  | .bad => False
theorem PostS.aft {K : PySem.W.Frag} {XQ : XW} {mp mp' : List Addr} {H H' : Hp} {o : OS} {E : Ends} (p : PostS K XQ mp H o E) (a : Aft K mp H mp' H') : PostS K XQ mp' H' o E := by
  cases o with
  | nx ρ S => exact fun m h v b => p m h v (a.trans b)
  | rt d S => exact fun m h v b => p m h v (a.trans b)
  | bk ρ S => exact fun m h v b => p m h v (a.trans b)
  | ct ρ S => exact fun m h v b => p m h v (a.trans b)
  | exc x ρ S => exact fun m h v b => p m h v (a.trans b)
  | bad => exact p
def rdS (K : PySem.W.Frag) (XQ : XW) (f : Sv) : TS := fun E σ H => ∃ mp ρ S, Gd K mp H σ ρ S ∧ PostS K XQ mp H (f ρ S) E
def JS (X : Cx) (XQ : XW) (st : Stmt) (f : Sv) : Prop := PS X st (rdS X.K XQ f)
def JSs (X : Cx) (XQ : XW) (st : List Stmt) (f : Sv) : Prop := PSs X st (rdS X.K XQ f)
def bindS {α : Type} (o : Out α) (ρ : Lc) (k : α → Sto → OS) : OS :=
  match o with
  | .ok a S => k a S
  | .exc x S => .exc x ρ S
  | .bad => .bad
theorem bindSP {α β : Type} {K : PySem.W.Frag} {R : RL α β} {XQ : XW} {mp : List Addr} {H : Hp} {σ : L2.St} {ρ : Lc} {S : Sto} {f : Ev α} {g : α → Sto → OS} {E : Ends} {Q1 : β → Hp → Prop} (G : Gd K mp H σ ρ S) (p : PostS K XQ mp H (bindS (f ρ S) ρ g) E)
    (k : ∀ mp1 H1 d S1 v, Aft K mp H mp1 H1 → Gd K mp1 H1 σ ρ S1 → R mp1 H1 d v → PostS K XQ mp1 H1 (g d S1) E → Q1 v H1) : rdG K R XQ f σ H Q1 := by
  refine ⟨mp, ρ, S, G, ?_⟩
  cases e : f ρ S with
  | ok d S1 =>
    rw [e] at p
    exact fun mp1 H1 v a rs r => k mp1 H1 d S1 v a (G.aft a rs) r (PostS.aft p a)
  | exc x S1 => rw [e] at p; exact fun m h b c => p m h σ b c
  | bad => rw [e] at p; exact p
def skip : Sv := fun ρ S => .nx ρ S
def sq (f g : Sv) : Sv := fun ρ S => match f ρ S with
  | .nx ρ' S' => g ρ' S'
  | .rt d S' => .rt d S'
  | .bk ρ' S' => .bk ρ' S'
  | .ct ρ' S' => .ct ρ' S'
  | .exc x ρ' S' => .exc x ρ' S'
  | .bad => .bad
section
variable {X : Cx} {XQ : XW}
theorem PostS.nx {K : PySem.W.Frag} {mp : List Addr} {H : Hp} {σ : L2.St} {ρ : Lc} {S : Sto} {E : Ends} (p : PostS K XQ mp H (.nx ρ S) E) (G : Gd K mp H σ ρ S) : E.nx σ H := p mp H σ .refl G
theorem PostS.rt {K : PySem.W.Frag} {mp : List Addr} {H : Hp} {d : D} {v : V} {S : Sto} {E : Ends} (p : PostS K XQ mp H (.rt d S) E) (r : RS K mp H S) (h : Rep K mp H d v) : E.rt v H := p mp H v .refl r h
theorem jss_nil : JSs X XQ [] skip := PSs.mono pss_nil fun E σ H ⟨mp, ρ, S, G, p⟩ => PostS.nx p G
theorem jss_cons {st : Stmt} {rest : List Stmt} {f g : Sv} (h1 : JS X XQ st f) (h2 : JSs X XQ rest g) : JSs X XQ (st :: rest) (sq f g) := by
  refine PSs.mono (pss_cons h1 h2) fun E σ H ⟨mp, ρ, S, G, p⟩ => ⟨mp, ρ, S, G, ?_⟩
  unfold sq at p
  cases e : f ρ S with
  | nx ρ' S' => rw [e] at p; exact fun m h v a G' => ⟨m, ρ', S', G', PostS.aft p a⟩
  | rt d S' => rw [e] at p; exact p
  | bk ρ' S' => rw [e] at p; exact p
  | ct ρ' S' => rw [e] at p; exact p
  | exc x ρ' S' => rw [e] at p; exact p
  | bad => rw [e] at p; exact p
theorem jss_one {st : Stmt} {f : Sv} (h1 : JS X XQ st f) : JSs X XQ [st] f := pss_one h1
def sx (f : Ev D) : Sv := fun ρ S => bindS (f ρ S) ρ fun _ S1 => .nx ρ S1
theorem js_expr {e : Expr} {f : Ev D} {pos : Pos} (he : JE X XQ e f) (hs : swapsWith e none pos.line X.env = pure false := by rfl) : JS X XQ (.Expr e pos) (sx f) :=
  PS.mono (ps_expr he hs) fun E σ H ⟨mp, ρ, S, G, p⟩ => bindSP G p fun mp1 H1 d S1 v a1 G1 r1 p1 => PostS.nx p1 G1
def sret (f : Ev D) : Sv := fun ρ S => bindS (f ρ S) ρ fun d S1 => .rt d S1
theorem js_ret {e : Expr} {f : Ev D} {pos : Pos} (he : JE X XQ e f) : JS X XQ (.Return (some e) pos) (sret f) :=
  PS.mono (ps_ret he) fun E σ H ⟨mp, ρ, S, G, p⟩ => bindSP G p fun mp1 H1 d S1 v a1 G1 r1 p1 => PostS.rt p1 G1.rs r1
def sif (c : Ev Bool) (f g : Sv) : Sv := fun ρ S => bindS (c ρ S) ρ fun b S1 => if b = true then f ρ S1 else g ρ S1
theorem js_if {c : Expr} {a b : List Stmt} {fc : Ev Bool} {f g : Sv} {pos : Pos} (hc : JT X XQ c fc) (ha : JSs X XQ a f) (hb : JSs X XQ b g) : JS X XQ (.If c a b pos) (sif fc f g) :=
  PS.mono (ps_if hc ha hb) fun E σ H ⟨mp, ρ, S, G, p⟩ => bindSP G p fun mp1 H1 b S1 c a1 G1 r1 p1 => by
    cases (show c = b from r1)
    cases b with
    | true => exact (if_pos rfl).mpr ⟨mp1, ρ, S1, G1, by simpa using p1⟩
    | false => exact (if_neg Bool.false_ne_true).mpr ⟨mp1, ρ, S1, G1, by simpa using p1⟩
theorem Gd.set {K : PySem.W.Frag} {mp : List Addr} {H : Hp} {σ : L2.St} {ρ : Lc} {S : Sto} {d : D} {v : V} (G : Gd K mp H σ ρ S) (i : Nat) (r : Rep K mp H d v) : Gd K mp H (σ.set i (some v)) (ρ.set i (some d)) S := by
  refine ⟨G.rs, by simp [G.len], fun j e h => ?_⟩
  by_cases hj : j = i
  · subst hj
    have hl : j < ρ.length := by
      have := (List.getElem?_eq_some_iff.mp h).1
      simpa using this
    rw [List.getElem?_set_self hl] at h
    cases h
    exact ⟨v, by rw [List.getElem?_set_self (by rw [G.len]; exact hl)], r⟩
  · rw [List.getElem?_set_ne (Ne.symm hj)] at h ⊢
    exact G.loc j e h
abbrev Tg := D → Lc → Option Lc
def rdG1 (K : PySem.W.Frag) (g : Tg) : TG := fun v σ H Q => ∃ mp ρ S d ρ', Gd K mp H σ ρ S ∧ Rep K mp H d v ∧ g d ρ = some ρ' ∧ ∀ σ', Gd K mp H σ' ρ' S → Q σ' H
def JG (X : Cx) (tg : Expr) (g : Tg) : Prop := PG X tg (rdG1 X.K g)
theorem PG.mono {X : Cx} {e : Expr} {t t' : TG} (h : PG X e t) (m : ∀ v σ H Q, t' v σ H Q → t v σ H Q) : PG X e t' := fun pins s σ H v u Q I r q => h pins s σ H v u Q I r (m v σ H Q q)
def gn (i : Nat) : Tg := fun d ρ => some (ρ.set i (some d))
theorem jg_name (i : Nat) {x : Str} {pos : Pos} (hN : X.N.Nodup) (hi : X.N[i]? = some x := by rfl) (hx : Loc X.env.scope x := by first | exact Or.inl rfl | exact Or.inr rfl) (hf : X.fn x = true ∨ X.env.scope.names.lookup x = some .local := by first | exact .inl rfl | exact .inr rfl | assumption) : JG X (.Name x pos) (gn i) :=
  PG.mono (pg_name hN hi hx hf) fun v σ H Q ⟨mp, ρ, S, d, ρ', G, r, e, k⟩ => by
    cases (Option.some.inj e)
    exact k _ (G.set i r)
abbrev Tgs := List D → Lc → Option Lc
def rdGs (K : PySem.W.Frag) (g : Tgs) : TGs := fun vs σ H Q => ∃ mp ρ S ds ρ', Gd K mp H σ ρ S ∧ RepL K mp H ds vs ∧ g ds ρ = some ρ' ∧ ∀ σ', Gd K mp H σ' ρ' S → Q σ' H
def JGs (X : Cx) (ts : List Expr) (g : Tgs) : Prop := PGs X ts (rdGs X.K g)
theorem PGs.mono {X : Cx} {e : List Expr} {t t' : TGs} (h : PGs X e t) (m : ∀ v σ H Q, t' v σ H Q → t v σ H Q) : PGs X e t' := fun pins s σ H v u Q I r q => h pins s σ H v u Q I r (m v σ H Q q)
def gnil : Tgs := fun ds ρ => match ds with
  | [] => some ρ
  | _ :: _ => none
def gcons (g : Tg) (k : Tgs) : Tgs := fun ds ρ => match ds with
  | [] => none
  | d :: r => (g d ρ).bind fun ρ' => k r ρ'
theorem jgs_nil : JGs X [] gnil := PGs.mono pgs_nil fun vs σ H Q ⟨mp, ρ, S, ds, ρ', G, r, e, k⟩ => by
  cases ds with
  | nil =>
    cases (show some ρ = some ρ' from e)
    exact ⟨r, k _ G⟩
  | cons _ _ => cases (show (none : Option Lc) = some ρ' from e)
theorem jgs_cons {e : Expr} {es : List Expr} {g : Tg} {k : Tgs} (h1 : JG X e g) (h2 : JGs X es k)
    (hs : (assignEach (e :: es) X.env).map (·.2) = assign e X.env :: (assignEach es X.env).map (·.2) := by rfl) : JGs X (e :: es) (gcons g k) :=
  PGs.mono (pgs_cons h1 h2 hs) fun vs σ H Q ⟨mp, ρ, S, ds, ρ', G, r, e, q⟩ => by
    cases ds with
    | nil => cases (show (none : Option Lc) = some ρ' from e)
    | cons d ds =>
      have e : (g d ρ).bind (fun ρ' => k ds ρ') = some ρ' := e
      obtain ⟨v, vr, ev, h3, h4⟩ := (show ∃ v r, vs = v :: r ∧ Rep X.K mp H d v ∧ RepL X.K mp H ds r from r)
      cases z : g d ρ with
      | none => rw [z] at e; cases e
      | some ρ1 =>
        rw [z] at e
        exact ⟨v, vr, ev, mp, ρ, S, d, ρ1, G, h3, z, fun σ1 G1 => ⟨mp, ρ1, S, ds, ρ', G1, h4, e, q⟩⟩
def gt (k : Tgs) (n : Nat) : Tg := fun d ρ => match d with
  | .tup ds => if ds.length = n then k ds ρ else none
  | _ => none
theorem jg_tup {es : List Expr} {m : Nat} {k : Tgs} {n : Nat} {pos : Pos} (hc : X.calm = true) (h : JGs X es k)
    (hn : (assignEach es X.env).length = n := by rfl) (hst : (assignEach es X.env).findIdx? (·.1) = none := by rfl) : JG X (.Tuple es m pos) (gt k n) :=
  PG.mono (pg_tup hc h hn hst) fun v σ H Q ⟨mp, ρ, S, d, ρ', G, r, e, q⟩ => by
    cases d with
    | tup ds =>
      have e : (if ds.length = n then k ds ρ else none) = some ρ' := e
      obtain ⟨a, xs, ev, sq, rl⟩ := Rep.tup r
      by_cases hl : ds.length = n
      · rw [if_pos hl] at e
        exact ⟨a, xs, ev, sq, by rw [rl.len]; exact hl, mp, ρ, S, ds, ρ', G, rl, e, q⟩
      · rw [if_neg hl] at e; cases e
    | _ => cases (show (none : Option Lc) = some ρ' from e)
def sa (f : Ev D) (g : Tg) : Sv := fun ρ S => bindS (f ρ S) ρ fun d S1 => match g d ρ with
  | some ρ' => .nx ρ' S1
  | none => .bad
theorem asgP {K : PySem.W.Frag} {f : Ev D} {g : Tg} (E : Ends) (σ : L2.St) (H : Hp) (h : rdS K XQ (sa f g) E σ H) : tAsg (rdE K XQ f) (rdG1 K g) E σ H := by
  obtain ⟨mp, ρ, S, G, p⟩ := h
  refine bindSP G p fun mp1 H1 d S1 v a1 G1 r1 p1 => ?_
  cases z : g d ρ with
  | none => rw [z] at p1; exact p1.elim
  | some ρ' =>
    rw [z] at p1
    exact ⟨mp1, ρ, S1, d, ρ', G1, r1, z, fun σ' G' => PostS.nx p1 G'⟩
theorem js_asg {tg e : Expr} {f : Ev D} {g : Tg} {pos : Pos} (he : JE X XQ e f) (hg : JG X tg g) (hs : swapsWithSole [tg] e pos.line X.env = pure false := by rfl) (hw : swappedStores [tg] e X.env = pure none := by rfl)
    (h1 : (assignEach [tg] X.env).map (·.2) = [assign tg X.env] := by rfl) : JS X XQ (.Assign [tg] e pos) (sa f g) :=
  PS.mono (ps_asg he hg hs hw h1) asgP
theorem js_set (i : Nat) {x : Str} {e : Expr} {f : Ev D} {pos pos' : Pos} (hN : X.N.Nodup) (he : JE X XQ e f) (hi : X.N[i]? = some x := by rfl) (hx : Loc X.env.scope x := by first | exact Or.inl rfl | exact Or.inr rfl) (hs : swapsWith e (some (.Name x pos')) pos.line X.env = pure false := by rfl)
    (hf : X.fn x = true ∨ X.env.scope.names.lookup x = some .local := by first | exact .inl rfl | exact .inr rfl | assumption) : JS X XQ (.Assign [.Name x pos'] e pos) (sa f (gn i)) :=
  PS.mono (ps_set hN hi hx he hs hf) fun E σ H ⟨mp, ρ, S, G, p⟩ => bindSP G p fun mp1 H1 d S1 v a1 G1 r1 p1 => PostS.nx p1 (G1.set i r1)
def SetD (t : TSet) (K : PySem.W.Frag) (o : D → D → D → Sto → Option Sto) : Prop :=
  ∀ (mp : List Addr) (H : Hp) (S S' : Sto) (x y z : D) (v u w : V) (Q : Hp → Prop), RS K mp H S → Rep K mp H x v → Rep K mp H y u → Rep K mp H z w → o x y z S = some S' → (∀ H', Aft K mp H mp H' → RS K mp H' S' → Q H') → t v u w H Q
def ss (f fo fi : Ev D) (o : D → D → D → Sto → Option Sto) : Sv := fun ρ S => bindS (f ρ S) ρ fun d S1 => bindS (fo ρ S1) ρ fun x S2 => bindS (fi ρ S2) ρ fun y S3 => match o x y d S3 with
  | some S4 => .nx ρ S4
  | none => .bad
theorem js_sub {ob ix e : Expr} {f fo fi : Ev D} {t : TSet} {o : D → D → D → Sto → Option Sto} {pos p2 : Pos} (hset : PSet X t) (ho : SetD t X.K o) (he : JE X XQ e f) (hob : JE X XQ ob fo) (hix : JE X XQ ix fi)
    (hs : swapsWithSole [.Subscript ob ix p2] e pos.line X.env = pure false := by rfl) (hw : swappedStores [.Subscript ob ix p2] e X.env = pure none := by rfl)
    (h1 : (assignEach [.Subscript ob ix p2] X.env).map (·.2) = [assign (.Subscript ob ix p2) X.env] := by rfl) (ha : ∀ v, assign (.Subscript ob ix p2) X.env v = (do
      let ov ← holding [v] (eval ob X.env)
      let iv ← holding [v, ov] (eval ix X.env)
      standAt p2
      holding [v, ov, iv] (setItem ov iv v)
      release [v, ov, iv] []) := by intro _; rfl) : JS X XQ (.Assign [.Subscript ob ix p2] e pos) (ss f fo fi o) := by
  refine PS.mono (ps_asg he (pg_sub hob hix hset ha) hs hw h1) fun E σ H ⟨mp, ρ, S, G, p⟩ => ?_
  refine bindSP G p fun mp1 H1 d S1 v a1 G1 r1 p1 => ?_
  refine bindSP G1 p1 fun mp2 H2 x S2 vx a2 G2 r2 p2 => ?_
  refine bindSP G2 p2 fun mp3 H3 y S3 vy a3 G3 r3 p3 => ?_
  cases z : o x y d S3 with
  | none => rw [z] at p3; exact p3.elim
  | some S4 =>
    rw [z] at p3
    exact ho mp3 H3 S3 S4 x y d vx vy v _ G3.rs (Rep.aft a3 _ _ r2) r3 (Rep.aft (a2.trans a3) _ _ r1) z fun H' af rs => p3 mp3 H' σ af (G3.aft af rs)
structure Src where
  nxt : Nat → Sto → Option D
  fuel : Nat
def ItOk (K : PySem.W.Frag) (mp0 : List Addr) (H0 : Hp) (J : It) (nxt : Nat → Sto → Option D) : Prop :=
  ∀ (mp : List Addr) (H : Hp) (S : Sto), Aft K mp0 H0 mp H → RS K mp H S → ∀ k, match nxt k S with
    | some d => J.go k H ∧ ∀ x H', J.yld k H x H' → Aft K mp H mp H' ∧ RS K mp H' S ∧ Rep K mp H' d x
    | none => J.stop k H
def kI (K : PySem.W.Frag) : RL Src It := fun mp H s J => ItOk K mp H J s.nxt
abbrev rdI (K : PySem.W.Frag) (XQ : XW) (f : Ev Src) : TI := rdG K (kI K) XQ f
def JI (X : Cx) (XQ : XW) (tg iter : Expr) (f : Ev Src) : Prop := PI X tg iter (rdI X.K XQ f)
theorem PI.mono {X : Cx} {tg e : Expr} {t t' : TI} (h : PI X tg e t) (m : ∀ σ H Q, t' σ H Q → t σ H Q) : PI X tg e t' := fun pins s σ H Q I q => h pins s σ H Q I (m σ H Q q)
def forN (nxt : Nat → Sto → Option D) (g : Tg) (b : Sv) : Nat → Nat → Sv
  | 0, _, _, _ => .bad
  | n + 1, k, ρ, S => match nxt k S with
    | none => .nx ρ S
    | some d => match g d ρ with
      | none => .bad
      | some ρ1 => match b ρ1 S with
        | .nx ρ2 S2 => forN nxt g b n (k + 1) ρ2 S2
        | .ct ρ2 S2 => forN nxt g b n (k + 1) ρ2 S2
        | .bk ρ2 S2 => .nx ρ2 S2
        | .rt d S2 => .rt d S2
        | .exc x ρ2 S2 => .exc x ρ2 S2
        | .bad => .bad
def sfor (f : Ev Src) (g : Tg) (b : Sv) : Sv := fun ρ S => bindS (f ρ S) ρ fun s S1 => forN s.nxt g b s.fuel 0 ρ S1
theorem js_for {tg iter : Expr} {body : List Stmt} {f : Ev Src} {g : Tg} {b : Sv} {pos : Pos} (hp : PassesOwn (model X.prog X.w) X.A X.env X.xe) (hc : X.calm = true) (hi : JI X XQ tg iter f) (hg : JG X tg g) (hb : JSs X XQ body b)
    (hs : ∀ x, foldedSetIterable iter X.env x = pure x := by intro _; rfl) : JS X XQ (.For tg iter body [] pos) (sfor f g b) := by
  refine PS.mono (ps_for hp hc hi hg hb hs) fun E σ H ⟨mp, ρ, S, G, p⟩ => ?_
  refine bindSP G p fun mp1 H1 s S1 J a1 G1 j1 p1 => ?_
  refine ⟨fun i m σ' H' => ∃ mp' ρ' S', Aft X.K mp1 H1 mp' H' ∧ Gd X.K mp' H' σ' ρ' S' ∧ PostS X.K XQ mp' H' (forN s.nxt g b m i ρ' S') E, ⟨s.fuel, mp1, ρ, S1, .refl, G1, p1⟩, ?_⟩
  rintro i m σ' H' ⟨mp', ρ', S', a', G', p'⟩
  cases m with
  | zero => exact (show False from p').elim
  | succ n =>
    have j := j1 mp' H' S' a' G'.rs i
    unfold forN at p'
    cases z : s.nxt i S' with
    | none =>
      rw [z] at j p'
      exact .inl ⟨j, PostS.nx p' G'⟩
    | some d =>
      rw [z] at j p'
      obtain ⟨j1, j2⟩ := j
      refine .inr ⟨j1, fun σ2 H2 => ∃ mp2 ρ2 S2, Aft X.K mp1 H1 mp2 H2 ∧ Gd X.K mp2 H2 σ2 ρ2 S2 ∧ PostS X.K XQ mp2 H2 (forN s.nxt g b n (i + 1) ρ2 S2) E, fun σ2 H2 q => ⟨n, Nat.lt_succ_self n, q⟩, fun x H2 y => ?_⟩
      obtain ⟨a2, r2, x2⟩ := j2 x H2 y
      have G2 := G'.aft a2 r2
      cases zg : g d ρ' with
      | none => simp only [zg] at p'; exact p'.elim
      | some ρ1 =>
        simp only [zg] at p'
        refine ⟨mp', ρ', S', d, ρ1, G2, x2, zg, fun σ3 G3 => ⟨mp', ρ1, S', G3, ?_⟩⟩
        have p2 := PostS.aft p' a2
        cases zb : b ρ1 S' with
        | nx ρ2 S2 => simp only [zb] at p2; exact fun m h v af G4 => ⟨m, ρ2, S2, (a'.trans a2).trans af, G4, PostS.aft p2 af⟩
        | ct ρ2 S2 => simp only [zb] at p2; exact fun m h v af G4 => ⟨m, ρ2, S2, (a'.trans a2).trans af, G4, PostS.aft p2 af⟩
        | bk ρ2 S2 => simp only [zb] at p2; exact p2
        | rt d S2 => simp only [zb] at p2; exact p2
        | exc x ρ2 S2 => simp only [zb] at p2; exact p2
        | bad => simp only [zb] at p2; exact p2
def srcOf : D → Sto → Out Src
  | .tup l, S => .ok ⟨fun k _ => l[k]?, l.length + 1⟩ S
  | .lst i, S => match S[i]? with
    | some c => .ok ⟨fun k S => (S[i]?).bind fun c => c.xs[k]?, c.xs.length + 1⟩ S
    | none => .bad
  | _, _ => .bad
end
end DL
set_option Elab.async false
set_option linter.all false
set_option maxRecDepth 100000
namespace DL
open PySem PySem.Spec PyProof.Rows L2
section
variable {X : Cx} {XQ : XW}
def iSeq (K : PySem.W.Frag) (tl : TE) : TI := fun σ H R => tl σ H fun x H1 => ∃ a, x = .ref a ∧ (((∃ xs, SqL K H1 a xs) ∧ R (Itl K a) H1) ∨ ((∃ xs, SqT K H1 a xs) ∧ R (Itt K a) H1))
theorem pi_seq {tg l : Expr} {tl : TE} (hl : PE X l tl) : PI X tg l (iSeq X.K tl) := by
  intro pins s σ H R I h
  refine thn (hl pins s σ H _ I h) fun v s1 ⟨x, H1, I1, r1, q1⟩ => ?_
  obtain ⟨a, e, q⟩ := q1
  subst e
  cases r1
  rcases q with ⟨⟨xs, hq⟩, q⟩ | ⟨⟨xs, hq⟩, q⟩
  · obtain ⟨its, rv, p, hz⟩ := I1.list hq
    refine wpAny_pyIter_list p.isList ?_
    refine ⟨s1.heap.objs.size, [s1.heap.objs.size], _, _, H1, rfl, I1.kept (t' := s1.toks) fun b o e => Heap.get?_push_of_some _ e, turn_list a _, ⟨_, Heap.get?_push_size _ rfl, rfl, rfl⟩, fun b hb => ?_, q⟩
    have e : b = s1.heap.objs.size := by simpa using hb
    subst e
    exact I1.fpOk (Nat.le_refl _) (I1.hok.fresh (Nat.le_refl _))
  · obtain ⟨its, rv, p, hz⟩ := I1.tuple hq
    refine wpAny_pyIter_tuple (show s1.heap.IsTuple a its.toArray from p) ?_
    refine ⟨s1.heap.objs.size, [s1.heap.objs.size], _, _, H1, rfl, I1.kept (t' := s1.toks) fun b o e => Heap.get?_push_of_some _ e, turn_tuple a _, ⟨_, Heap.get?_push_size _ rfl, rfl, rfl⟩, fun b hb => ?_, q⟩
    have e : b = s1.heap.objs.size := by simpa using hb
    subst e
    exact I1.fpOk (Nat.le_refl _) (I1.hok.fresh (Nat.le_refl _))
def isrc (f : Ev D) : Ev Src := fun ρ S => (f ρ S).bind srcOf
theorem itt_ok {K : PySem.W.Frag} {mp : List Addr} {H : Hp} {a : Addr} {xs : List V} {l : List D} (s : SqT K H a xs) (r : RepL K mp H l xs) : ItOk K mp H (Itt K a) (fun k _ => l[k]?) := by
  intro mp' H' S' af rs k
  show match l[k]? with
    | some d => (Itt K a).go k H' ∧ ∀ x H2, (Itt K a).yld k H' x H2 → Aft K mp' H' mp' H2 ∧ RS K mp' H2 S' ∧ Rep K mp' H2 d x
    | none => (Itt K a).stop k H'
  cases z : l[k]? with
  | none =>
    refine ⟨xs, af.tup _ _ s, ?_⟩
    rw [r.len]
    exact List.getElem?_eq_none_iff.mp z
  | some d =>
    have r' := RepL.aft af _ _ r
    obtain ⟨v, e, q⟩ := r'.get z
    refine ⟨⟨xs, v, af.tup _ _ s, e⟩, fun x H2 ⟨h1, h2⟩ => ?_⟩
    subst h1
    have e2 := h2 xs (af.tup _ _ s)
    rw [e] at e2
    cases e2
    exact ⟨.refl, rs, q⟩
theorem itl_ok {K : PySem.W.Frag} {mp : List Addr} {H : Hp} {a : Addr} {i : Nat} (hi : mp[i]? = some a) : ItOk K mp H (Itl K a) (fun k S => (S[i]?).bind fun c => c.xs[k]?) := by
  intro mp' H' S' af rs k
  have hi' := af.pre i a hi
  have hl : i < S'.length := by rw [← rs.len]; exact (List.getElem?_eq_some_iff.mp hi').1
  have hc : S'[i]? = some S'[i] := List.getElem?_eq_getElem hl
  obtain ⟨a2, xs, e1, e2, sq, r, _⟩ := rs.items (v := .ref a) ⟨a, rfl, hi'⟩ hc
  cases e1
  simp only [hc, Option.bind_some]
  cases z : (S'[i]).xs[k]? with
  | none =>
    refine ⟨xs, sq, ?_⟩
    rw [r.len]
    exact List.getElem?_eq_none_iff.mp z
  | some d =>
    obtain ⟨v, e, q⟩ := r.get z
    refine ⟨⟨xs, v, sq, e⟩, fun x H2 ⟨h1, h2⟩ => ?_⟩
    subst h1
    have e2 := h2 xs sq
    rw [e] at e2
    cases e2
    exact ⟨.refl, rs, q⟩
theorem ji_seq {tg l : Expr} {f : Ev D} (hl : JE X XQ l f) : JI X XQ tg l (isrc f) := by
  refine PI.mono (pi_seq hl) fun σ H R ⟨mp, ρ, S, G, p⟩ => ?_
  refine bindP G p fun mp1 H1 d S1 v a1 G1 r1 p1 => ?_
  cases d with
  | tup ds =>
    obtain ⟨a, xs, rfl, s, q⟩ := Rep.tup r1
    exact ⟨a, rfl, .inr ⟨⟨xs, s⟩, PostG.ok (R := kI X.K) (d := ⟨fun k _ => ds[k]?, ds.length + 1⟩) (S := S1) p1 G1.rs (itt_ok s q)⟩⟩
  | lst i =>
    have p1 : PostG X.K (kI X.K) XQ σ ρ mp1 H1 (match S1[i]? with | some c => .ok ⟨fun k S => (S[i]?).bind fun c => c.xs[k]?, c.xs.length + 1⟩ S1 | none => .bad) R := p1
    cases z : S1[i]? with
    | none => rw [z] at p1; exact p1.elim
    | some c =>
      rw [z] at p1
      obtain ⟨a, xs, rfl, ha, s, q, _⟩ := G1.rs.items r1 z
      exact ⟨a, rfl, .inl ⟨⟨xs, s⟩, PostG.ok (R := kI X.K) (d := ⟨fun k S => (S[i]?).bind fun c => c.xs[k]?, c.xs.length + 1⟩) (S := S1) p1 G1.rs (itl_ok ha)⟩⟩
  | _ => exact (show False from p1).elim
def rsrc (lo : Int) (n : Nat) : Src := ⟨fun k _ => if k < n then some (.int (lo + k)) else none, n + 1⟩
theorem itr_ok {K : PySem.W.Frag} {mp : List Addr} {H : Hp} {lo : Int} {n : Nat} : ItOk K mp H (Itr lo n) (rsrc lo n).nxt := by
  intro mp' H' S' af rs k
  show match (if k < n then some (D.int (lo + k)) else none) with
    | some d => (Itr lo n).go k H' ∧ ∀ x H2, (Itr lo n).yld k H' x H2 → Aft K mp' H' mp' H2 ∧ RS K mp' H2 S' ∧ Rep K mp' H2 d x
    | none => (Itr lo n).stop k H'
  by_cases h : k < n
  · rw [if_pos h]
    refine ⟨h, fun x H2 ⟨h1, h2⟩ => ?_⟩
    subst h1 h2
    exact ⟨.refl, rs, rfl⟩
  · rw [if_neg h]
    exact Nat.not_lt.mp h
def ir1 (f : Ev (List D)) : Ev Src := fun ρ S => (f ρ S).bind fun ds S1 => match ds with
  | [.int j] => if -1000000000000 ≤ j ∧ j ≤ 1000000000000 then .ok (rsrc 0 j.toNat) S1 else .bad
  | _ => .bad
theorem RepL.one {K : PySem.W.Frag} {mp : List Addr} {H : Hp} {d : D} {vs : List V} (h : RepL K mp H [d] vs) : ∃ v, vs = [v] ∧ Rep K mp H d v := by
  obtain ⟨v, r, rfl, h1, h2⟩ := h
  cases (show r = [] from h2)
  exact ⟨v, rfl, h1⟩
theorem RepL.two {K : PySem.W.Frag} {mp : List Addr} {H : Hp} {d e : D} {vs : List V} (h : RepL K mp H [d, e] vs) : ∃ v w, vs = [v, w] ∧ Rep K mp H d v ∧ Rep K mp H e w := by
  obtain ⟨v, r, rfl, h1, h2⟩ := h
  obtain ⟨w, rfl, h3⟩ := RepL.one h2
  exact ⟨v, w, rfl, h1, h3⟩
theorem ji_range1 {tg a : Expr} {f : Ev (List D)} {p pos : Pos} (hg : Gl X "range") (hm : X.mg "range" = none) (ha : JA X XQ [a] f) (hs : starEach [a] X.env = [(false, eval a X.env)] := by rfl) : JI X XQ tg (.Call (.Name "range" p) [a] [] pos) (ir1 f) := by
  refine PI.mono (pi_range1 hg hm ha hs) fun σ H R ⟨mp, ρ, S, G, p⟩ => ?_
  refine bindP G p fun mp1 H1 ds S1 vs a1 G1 r1 p1 => ?_
  split at p1
  · rename_i j
    by_cases hb : -1000000000000 ≤ j ∧ j ≤ 1000000000000
    · rw [if_pos hb] at p1
      obtain ⟨v, rfl, h1⟩ := RepL.one r1
      cases (show v = .int j from h1)
      refine ⟨j, rfl, by omega, by omega, PostG.ok (R := kI X.K) (d := rsrc 0 j.toNat) (S := S1) p1 G1.rs itr_ok⟩
    · rw [if_neg hb] at p1; exact p1.elim
  · exact p1.elim
end
abbrev Fn := List D → Sto → Out D
def PostF (K : PySem.W.Frag) (mp : List Addr) (H : Hp) (o : Out D) (Q : VK) : Prop :=
  match o with
  | .ok d S => ∀ mp' H' v, Aft K mp H mp' H' → RS K mp' H' S → Rep K mp' H' d v → Q v H'
  | _ => False
def spD (K : PySem.W.Frag) (n : Nat) (fn : Fn) : Sp := fun vs H Q _ => ∃ mp ds S, RS K mp H S ∧ RepL K mp H ds vs ∧ ds.length = n ∧ PostF K mp H (fn ds S) Q
def fnB (m : Nat) (b : Sv) : Fn := fun ds S => match b (ds.map some ++ List.replicate (m - ds.length) none) S with
  | .rt d S' => .ok d S'
  | .nx _ S' => .ok .non S'
  | .exc x _ S' => .exc x S'
  | _ => .bad
theorem start_ok {K : PySem.W.Frag} {mp : List Addr} {H : Hp} {S : Sto} {N : List Str} {ds : List D} {vs : List V} (r : RS K mp H S) (h : RepL K mp H ds vs) : Gd K mp H (start N vs) (ds.map some ++ List.replicate (N.length - ds.length) none) S := by
  have hl := h.len
  refine ⟨r, by simp [L2.start, hl], fun i d e => ?_⟩
  by_cases hi : i < ds.length
  · rw [List.getElem?_append_left (by simpa using hi), List.getElem?_map] at e
    cases z : ds[i]? with
    | none => rw [z] at e; cases e
    | some d' =>
      rw [z] at e
      cases e
      obtain ⟨v, e1, q⟩ := h.get z
      refine ⟨v, ?_, q⟩
      unfold L2.start
      rw [List.getElem?_append_left (by simp [hl]; exact hi), List.getElem?_map, e1]
      rfl
  · rw [List.getElem?_append_right (by simpa using hi), List.getElem?_replicate] at e
    split at e
    · cases e
    · cases e
section
variable {P : Program} {w : World} {K : PySem.W.Frag} {mg : Str → Option Value} {base : Heap}
theorem fn_ok {x qual : Str} {st : Stmt} {f : Addr} {fd : FuncData} {N ps : List Str} {k : Nat} {b : Sv} (F : Fun K x qual st f fd) (Sc : FnScope N ps (defScope st))
    (hb : ∀ (cdv : Value) (A : Around) (outer : List PySem.Env) (s : Shared) (H : Hp) (E : XK), Room k (A.deeper (envOfC qual (defScope st) s.heap.objs.size f cdv)) →
      JSs (cxOf CX0 P w K mg base N qual (defScope st) f cdv A outer s H E).nox (fun _ _ _ _ _ _ => False) (defBody st) b) : FnOk P w K mg base CX0 (k + 1) f fd ps (spD K ps.length (fnB N.length b)) := by
  refine F.ok Sc (fun vs H Q E ⟨mp, ds, S, rs, r, hl, _⟩ => by rw [r.len]; exact hl) fun cdv A outer s H vs Q E hr ⟨mp, ds, S, rs, r, hl, p⟩ => ?_
  refine ⟨_, hb cdv A outer s H E hr, mp, _, S, start_ok rs r, ?_⟩
  unfold fnB at p
  show PostS K _ mp H (b (ds.map some ++ List.replicate (N.length - ds.length) none) S) _
  cases z : b (ds.map some ++ List.replicate (N.length - ds.length) none) S with
  | rt d S' => rw [z] at p; exact p
  | nx ρ' S' => rw [z] at p; exact fun m h v af G => p m h .non af G.rs rfl
  | bk ρ' S' => rw [z] at p; exact p.elim
  | ct ρ' S' => rw [z] at p; exact p.elim
  | exc x ρ' S' => rw [z] at p; exact p.elim
  | bad => rw [z] at p; exact p.elim
end
section
variable {X : Cx} {XQ : XW} {k : Nat} {f : Addr} {fd : FuncData} {ps : List Str} {fn : Fn} {x : Str} {p pos : Pos} {e : Expr} {es : List Expr} {t : Ev (List D)}
def cl (n : Nat) (fn : Fn) (t : Ev (List D)) : Ev D := fun ρ S => (t ρ S).bind fun ds S1 => if ds.length = n then fn ds S1 else .bad
def noExc (fn : Fn) : Fn := fun ds S => match fn ds S with
  | .ok d S' => .ok d S'
  | _ => .bad
theorem je_call {j : Nat} (F : FnOk X.prog X.w X.K X.mg X.base CX0 j f fd ps (spD X.K ps.length fn)) (hr : Room k X.A) (hj : j ≤ k) (hg : Gl X x) (hm : X.mg x = some (.ref f)) (hk : PySem.W.keepIn X.K (.ref f) = true) (hb : Binds X.K fd ps [])
    (ha : JA X XQ (e :: es) t) (hdb : (x == ("__debug__" : Str)) = false := by decide) (he : starEach (e :: es) X.env = (false, eval e X.env) :: starEach es X.env := by rfl) (hpl : (backTo pos (starEach es X.env)).any (·.1) = false := by rfl) :
    JE X XQ (.Call (.Name x p) (e :: es) [] pos) (cl ps.length (noExc fn) t) := by
  refine PE.mono (pe_call (F.mono hj) hr hg hm hk hb .nil (pass0) ha hdb he hpl) fun σ H Q ⟨mp, ρ, S, G, p⟩ => ?_
  refine bindP G p fun mp1 H1 ds S1 vs a1 G1 r1 p1 => ?_
  by_cases hl : ds.length = ps.length
  · rw [if_pos hl] at p1
    refine ⟨mp1, ds, S1, G1.rs, by rw [List.append_nil]; exact r1, hl, ?_⟩
    unfold noExc at p1
    cases z : fn ds S1 with
    | ok d S' => rw [z] at p1; exact p1
    | exc x S' => rw [z] at p1; exact p1.elim
    | bad => rw [z] at p1; exact p1.elim
  · rw [if_neg hl] at p1; exact p1.elim
end
end DL
set_option Elab.async false
set_option linter.all false
set_option maxRecDepth 100000
namespace DL
open PySem PySem.Spec PyProof.Rows L2
section
variable {prog : Program} {w : World} {A : Around} {E : Value → Shared → Prop} {R : Result → Shared → Prop} {s : Shared}
theorem compLoop_any {elt target iter : Expr} {ifs : List Expr} {scope : Scope} {pos : Pos} {it acc : Value} {env : PySem.Env} (I : Nat → Shared → Prop)
    (turn : ∀ n s, I n s → wpAny (model prog w) A (pyNext it) (fun r s₁ => match r with
      | none => R (.ok .next) s₁
      | some v => wpAny (model prog w) A (letOwnedTupleGo target it v) (fun _ s₁ => wpAny (model prog w) A (assign target env v) (fun _ s₂ =>
          wpAny (model prog w) A (forIn ifs true fun c r => if r = true then do let ok ← isTrue c env (eval c env); pure (ForInStep.yield ok) else pure (ForInStep.yield r)) (fun ok s₃ =>
            if ok = true then wpAny (model prog w) A (eval elt env) (fun x s₄ =>
              wpAny (model prog w) A (call (.builtin "list.append") [acc, x]) (fun _ s₅ => ∃ m, m < n ∧ I m s₅) (fun _ _ => False) s₄) (fun _ _ => False) s₃
            else ∃ m, m < n ∧ I m s₃) (fun _ _ => False) s₂) (fun _ _ => False) s₁) (fun _ _ => False) s₁) (fun _ _ => False) s)
    (n : Nat) (h : I n s) :
    codeAny (model prog w) A (.compLoop (.ListComp elt [⟨target, iter, ifs, 0⟩] scope pos) 0 it acc env) R s := by
  have noE : ∀ {α : Type} {m : Sem α} {Q : α → Shared → Prop} {E' : Value → Shared → Prop} {s : Shared}, wpAny (model prog w) A m Q (fun _ _ => False) s → wpAny (model prog w) A m Q E' s := fun h => wpAny_mono h (fun _ _ q => q) fun _ _ z => z.elim
  refine codeAny_loop rfl I (fun n s hI => ?_) n h
  show wpAny _ A ((compTurn (.ListComp elt [⟨target, iter, ifs, 0⟩] scope pos) 0 it acc env).onRaise (fun x => do noteFrame x env; theTreesLotGoes x)) _ _ s
  refine wpAny_noted ?_
  rw [compTurn_list]
  refine wpAny_bind (wpAny_standAt (wpAny_bind (noE (wpAny_mono (turn n s hI) (fun r s₁ h₁ => ?_) fun _ _ z => z))))
  cases r with
  | none => exact wpAny_pure h₁
  | some v =>
    refine wpAny_bind (noE (wpAny_mono h₁ (fun _ s₁ h₁ => ?_) fun _ _ z => z))
    refine wpAny_bind (noE (wpAny_mono h₁ (fun _ s₂ h₂ => wpAny_bind (noE (wpAny_mono h₂ (fun ok s₃ h₃ => ?_) fun _ _ z => z))) fun _ _ z => z))
    cases ok with
    | false => exact wpAny_pure ⟨rfl, h₃⟩
    | true =>
      exact wpAny_bind (wpAny_bind (noE (wpAny_mono h₃ (fun x s₄ h₄ => wpAny_bind (noE (wpAny_mono h₄ (fun _ s₅ h₅ => wpAny_pure (wpAny_pure ⟨rfl, h₅⟩)) fun _ _ z => z))) fun _ _ z => z)))
end
def blk (X : Cx) (s2 : Shared) (H2 : Hp) (C : Addr) (scope : Scope) (cl : List (Str × Addr)) (N' : List Str) (fp : List Addr) : Cx :=
  { X with N := N', s₀ := s2, H₀ := H2, env := compEnvC scope cl C X.env, outer := X.stack, ex := fp, fn := fun _ => false, pn := [], xe := fun _ _ => False }
structure CompSc (X : Cx) (scope : Scope) (cl : List (Str × Addr)) (N' : List Str) (pk : List (Option Nat)) : Prop where
  kind : scope.kind = .function
  cell : ∀ y ∈ scope.names, y.2 ≠ .cell
  names : ∀ y ∈ scope.names, y.2 = .local → scope.names.lookup y.1 = some .local
  clos : closureFor scope X.env = pure cl
  sub : ∀ x c, cl.lookup x = some c → X.env.cells.lookup x = some c
  has : ∀ x, ((relabel scope X.env).names.lookup x = some .cell ∨ (relabel scope X.env).names.lookup x = some .free) → ∃ c, cl.lookup x = some c
  len : pk.length = N'.length
  take : ∀ (i j : Nat) (x : Str), pk[i]? = some (some j) → N'[i]? = some x → X.N[j]? = some x ∧ (X.env.kindOf x = some .cell ∨ X.env.kindOf x = some .free) ∧ ((relabel scope X.env).names.lookup x = some .cell ∨ (relabel scope X.env).names.lookup x = some .free)
def pkS {α : Type} (pk : List (Option Nat)) (σ : List (Option α)) : List (Option α) := pk.map fun o => o.bind fun j => (σ[j]?).bind id
def PTs (Y : Cx) (ifs : List Expr) (t : TT) : Prop :=
  ∀ (pins : List (Addr × Obj)) (s : Shared) (σ : L2.St) (H : Hp) (Q : Bool → Hp → Prop), Inv Y pins σ H s → t σ H Q →
    wpAny (model Y.prog Y.w) Y.A (forIn ifs true fun c r => if r = true then do let ok ← isTrue c Y.env (eval c Y.env); pure (ForInStep.yield ok) else pure (ForInStep.yield r)) (TP Y pins σ Q) Y.xe s
theorem pts_nil {Y : Cx} : PTs Y [] (fun _ H Q => Q true H) := fun _ _ _ H _ I h => wpAny_tests_nil ⟨H, I, h⟩
theorem pts_one {Y : Cx} {c : Expr} {t : TT} (h : PT Y c t) : PTs Y [c] t := fun pins s σ H Q I q => wpAny_tests_one (h pins s σ H Q I q)
def tComp (wi : TI) (pk : List (Option Nat)) (g : TG) (tt : TT) (te : TE) : TE := fun σ H Q => wi σ H fun J H1 => ∀ a, H1 a = none → ∃ W : Nat → Nat → L2.St → Hp → Prop, (∃ m, W 0 m (pkS pk σ) (upd H1 a (.lst []))) ∧ ∀ i m σ' H', W i m σ' H' →
  (J.stop i H' ∧ Q (.ref a) H') ∨ (J.go i H' ∧ ∀ x H2, J.yld i H' x H2 → g x σ' H2 fun σ3 H3 => tt σ3 H3 fun b H4 => if b = true then te σ3 H4 fun v H5 => ∃ xs, H5 a = some (.lst xs) ∧ xs.length < sizeLine ∧ ∃ m', m' < m ∧ W (i + 1) m' σ3 (upd H5 a (.lst (xs ++ [v])))
    else ∃ m', m' < m ∧ W (i + 1) m' σ3 H4)
theorem hok_same {P : Program} {w : World} {H : Hp} {h h' : Heap} {C : Addr} (k : HOk P w H h) (hn : H C = none) (hs : Heap.SameBut C h h') : HOk P w H h' := fun b ob e => by
  refine (k b ob e).stay (fun c w' hc q => (hs.2 c ?_).trans q) (fun _ q => q) fun _ _ q => q
  rintro rfl
  rcases hc with rfl | hc
  · rw [hn] at e; cases e
  · rw [hn] at hc; cases hc
section
variable {X : Cx}
theorem comp_block {elt tg iter : Expr} {ifs : List Expr} {scope : Scope} {pos : Pos} {cl : List (Str × Addr)} {N' : List Str} {pk : List (Option Nat)} {g : TG} {tt : TT} {te : TE} (cs : CompSc X scope cl N' pk) (hcm : X.calm = true)
    (hg : ∀ s2 H2 C fp, PG (blk X s2 H2 C scope cl N' fp) tg g) (ht : ∀ s2 H2 C fp, PTs (blk X s2 H2 C scope cl N' fp) ifs tt) (he : ∀ s2 H2 C fp, PE (blk X s2 H2 C scope cl N' fp) elt te)
    {pins : List (Addr × Obj)} {σ : L2.St} {H2 : Hp} {s2 : Shared} {it : Addr} {fp : List Addr} {tn : Nat → Heap → Prop} {J : It} (I2 : Inv X pins σ H2 s2) (T : Turn X.prog X.w X.K tg J fp it tn) (st2 : tn 0 s2.heap) (f2 : ∀ b ∈ fp, FpOk X pins H2 b)
    {Q : VK} (hQ : ∀ a, H2 a = none → ∃ W : Nat → Nat → L2.St → Hp → Prop, (∃ m, W 0 m (pkS pk σ) (upd H2 a (.lst []))) ∧ ∀ i m σ' H', W i m σ' H' →
      (J.stop i H' ∧ Q (.ref a) H') ∨ (J.go i H' ∧ ∀ x H3, J.yld i H' x H3 → g x σ' H3 fun σ3 H3 => tt σ3 H3 fun b H4 => if b = true then te σ3 H4 fun v H5 => ∃ xs, H5 a = some (.lst xs) ∧ xs.length < sizeLine ∧ ∃ m', m' < m ∧ W (i + 1) m' σ3 (upd H5 a (.lst (xs ++ [v])))
        else ∃ m', m' < m ∧ W (i + 1) m' σ3 H4)) {E : Value → Shared → Prop} {RR : Value → Addr → Result → Shared → Prop}
    (hRR : ∀ D C s' (H' : Hp), Q (.ref D) H' → (∃ m, s'.heap.Ns C m) → Inv X pins σ H' s' → H' C = none → s2.heap.objs.size ≤ C → RR (.ref D) C (.ok .next) s') :
    wpAny (model X.prog X.w) X.A (newList []) (fun acc s₃ => wpAny (model X.prog X.w) X.A (newFunctionEnv scope X.env.globals cl [] X.env.qual none .none (some X.env)) (fun cenv s₄ =>
      codeAny (model X.prog X.w) X.A (.compStart (.ListComp elt [⟨tg, iter, ifs, 0⟩] scope pos) 0 (.ref it) acc { cenv with scope := relabel scope X.env }) (RR acc cenv.locals) s₄) E s₃) E s2 := by
  have hD : H2 s2.heap.objs.size = none := I2.hok.fresh (Nat.le_refl _)
  obtain ⟨W, ⟨m0, w0⟩, turn⟩ := hQ s2.heap.objs.size hD
  refine wpAny_newObj_type (wpAny_newFunctionEnv cs.cell (by intro y hy; simp at hy) (fun h₁ hns₁ hsb₁ => ?_) cs.kind)
  dsimp only at hns₁ hsb₁ ⊢
  generalize hHh : s2.heap.push { cls := .type "list", dict := none, data := .seq ([] : List Value).toArray } = Hh at hns₁ hsb₁ ⊢
  have hC : Hh.objs.size = s2.heap.objs.size + 1 := by rw [← hHh, Heap.size_push]
  have hDC : s2.heap.objs.size ≠ Hh.objs.size := by rw [hC]; exact Nat.ne_of_lt (Nat.lt_succ_self _)
  have hCle : s2.heap.objs.size ≤ Hh.objs.size := by rw [hC]; exact Nat.le_succ _
  have below : ∀ b, b < s2.heap.objs.size → b ≠ Hh.objs.size ∧ b ≠ s2.heap.objs.size := fun b hb => ⟨by rw [hC]; exact Nat.ne_of_lt (Nat.lt_succ_of_lt hb), Nat.ne_of_lt hb⟩
  have old : ∀ b o, s2.heap.get? b = some o → h₁.get? b = some o := fun b o e => hsb₁.extBut b o (below b (Heap.lt_size e)).1 (Heap.get?_push_of_some _ (hHh ▸ Heap.get?_push_of_some _ e))
  have hacc : h₁.get? s2.heap.objs.size = some { cls := .type "list", dict := none, data := .seq ([] : List Value).toArray } := hsb₁.extBut _ _ hDC (Heap.get?_push_of_some _ (hHh ▸ Heap.get?_push_size _ rfl))
  let Y := blk X s2 H2 Hh.objs.size scope cl N' fp
  have fpLt : ∀ b ∈ fp, b < s2.heap.objs.size := fun b hb => by
    obtain ⟨o, e, _⟩ := T.obj _ _ st2 b hb
    exact Heap.lt_size e
  have okY : Y.Ok := by
    refine ⟨I2.ok.mod, (by show (relabel scope X.env).kind = .function; exact cs.kind), I2.ok.glob, I2.ok.blt, hCle, fun x y c h1 h2 => I2.ok.inj x y c (cs.sub x c h1) (cs.sub y c h2), cs.has, (fun _ _ z => nomatch z), I2.ok.hd, I2.ok.frames, .inl rfl, fun b hb => ⟨Nat.ne_of_lt (by rw [show Y.env.locals = Hh.objs.size from rfl, hC]; exact Nat.lt_succ_of_lt (fpLt b hb)), fun x c h => (f2 b hb).2.2.2.2.1 x c (cs.sub x c h)⟩, I2.bs, Nat.le_trans I2.ok.bsz I2.sz, fun b o e hb => ?_, fun b hb hs => ?_, I2.stack, I2.stkFree⟩
    · rcases (f2 b hb).2.2.2.1 with z | z
      · exact I2.ok.noex b o e z
      · exact absurd (Nat.lt_of_lt_of_le (Heap.lt_size e) (Nat.le_trans I2.ok.bsz z)) (Nat.lt_irrefl _)
    · rcases List.mem_cons.mp (I2.stkSub b hs) with z | z
      · exact (f2 b hb).2.1 z
      · exact (f2 b hb).2.2.1 z
  have hokY : HOk X.prog X.w (upd H2 s2.heap.objs.size (.lst [])) h₁ := I2.hok.laid old (Nat.le_refl _) ⟨by decide, [], 0, .nil, hacc⟩
  have IY : ∀ tk, Inv Y [] (pkS pk σ) (upd H2 s2.heap.objs.size (.lst [])) { s2 with heap := h₁, toks := tk } := fun tk => by
    refine ⟨okY, rfl, I2.bare, ?_, ⟨_, hns₁, fun i x v h1 h2 h3 => ?_⟩, fun x c h => ?_, ?_, fun x c h => ?_, fun p hp => absurd (show p ∈ ([] : List (Addr × Obj)) from hp) (by simp), hokY, by show (pkS pk σ).length = N'.length; rw [← cs.len]; simp [pkS]⟩
    · exact Un.laid old (Nat.le_refl _) hD
    · unfold pkS at h2
      rw [List.getElem?_map] at h2
      cases e : pk[i]? with
      | none => rw [e] at h2; cases h2
      | some o =>
        rw [e] at h2
        cases o with
        | none => cases h2
        | some j =>
          have h2 : (σ[j]?).bind id = some v := Option.some.inj h2
          have h2 : σ[j]? = some (some v) := by
            cases z : σ[j]? with
            | none => rw [z] at h2; cases h2
            | some q =>
              rw [z] at h2
              have h2 : q = some v := h2
              rw [h2]
          obtain ⟨n1, n2, n3⟩ := cs.take i j x e h1
          obtain ⟨m, _, hl⟩ := I2.loc
          have vis : Vis X.env.scope x := by
            rcases n2 with n2 | n2
            · exact .inr (.inl n2)
            · exact .inr (.inr n2)
          obtain ⟨u, r, l⟩ := hl j x v n1 h2 vis
          refine ⟨u, r, .inr ⟨n3, ?_⟩⟩
          rcases l with ⟨k, _⟩ | ⟨_, c, hc, ⟨o, ho, hd⟩⟩
          · rcases n2 with n2 | n2 <;> rw [k] at n2 <;> cases n2
          · obtain ⟨c', hc'⟩ := cs.has x n3
            have e2 := cs.sub x c' hc'
            rw [hc] at e2
            cases e2
            exact ⟨c, hc', o, old c o ho, hd⟩
    · obtain ⟨v, o, ho, hd⟩ := I2.cell x c (cs.sub x c h)
      exact ⟨v, o, old c o ho, hd⟩
    · show upd H2 s2.heap.objs.size (.lst []) Hh.objs.size = none
      rw [upd_ne (Ne.symm hDC)]
      exact I2.hok.fresh hCle
    · have q := I2.freeC x c (cs.sub x c h)
      obtain ⟨v, o, ho, hd⟩ := I2.cell x c (cs.sub x c h)
      show upd H2 s2.heap.objs.size (.lst []) c = none
      rw [upd_ne (below c (Heap.lt_size ho)).2]
      exact q
  have stat : ∀ {H' : Hp}, (∀ b ∈ fp, H' b = none) → ∀ b ∈ fp, FpOk Y [] H' b := fun hn b hb =>
    ⟨hn b hb, (okY.exf b hb).1, okY.exfs b hb, .inl hb, (okY.exf b hb).2, fun p hp => absurd (show p ∈ ([] : List (Addr × Obj)) from hp) (by simp)⟩
  have fin : ∀ (H' : Hp) (σ' : L2.St) (s' : Shared), Inv Y [] σ' H' s' → ∀ h', Heap.SameBut Hh.objs.size s'.heap h' → Inv X pins σ H' { s' with heap := h' } := fun H' σ' s' I' h' hs => by
    have sub : ∀ b o, s2.heap.get? b = some o → b ≠ Hh.objs.size := fun b o e => (below b (Heap.lt_size e)).1
    have un : Un (frs X.stack) fp H2 H' s2.heap s'.heap := I'.base
    refine I2.call' (ch := fp) I'.os ⟨fun b o e n hb hx => (hs.2 b (sub b o e)).trans (un.keep b o e n hb hx), fun b o e n hb hx => ?_, un.free, fun b o e hx => ?_, un.tups, un.frzs, un.tbls⟩ (hok_same I'.hok I'.free hs) I'.bare fun b hb => ⟨(f2 b hb).2.2.2.1, (f2 b hb).2.1, (f2 b hb).2.2.2.2.1, (f2 b hb).2.2.2.2.2⟩
    · obtain ⟨sl, q⟩ := un.slot b o e n hb hx
      exact ⟨sl, (hs.2 b (sub b o e)).trans q⟩
    · obtain ⟨o', q⟩ := un.there b o e hx
      exact ⟨o', (hs.2 b (sub b o e)).trans q⟩
  have loop : ∀ s3 : Shared, (∃ tk, s3 = { s2 with heap := h₁, toks := tk }) →
      codeAny (model X.prog X.w) X.A (.compLoop (.ListComp elt [⟨tg, iter, ifs, 0⟩] scope pos) 0 (.ref it) (.ref s2.heap.objs.size) (compEnvC scope cl Hh.objs.size X.env)) (RR (.ref s2.heap.objs.size) Hh.objs.size) s3 := by
    rintro s3 ⟨tk, rfl⟩
    refine compLoop_any (fun n s' => ∃ i σ' H', Inv Y [] σ' H' s' ∧ tn i s'.heap ∧ (∀ b ∈ fp, H' b = none) ∧ W i n σ' H') ?_ m0 ⟨0, _, _, IY tk, T.keep _ _ _ st2 (fun b _ o e => old b o e), fun b hb => by rw [upd_ne (below b (fpLt b hb)).2]; exact (f2 b hb).1, w0⟩
    rintro n s4 ⟨i, σ4, H4, I4, st4, fr4, w4⟩
    rcases turn i n σ4 H4 w4 with ⟨stop, qn⟩ | ⟨go, step⟩
    · refine wpAny_mono (T.done Y rfl rfl rfl hcm i [] s4 σ4 H4 (fun _ _ => False) I4 (stat fr4) st4 stop) (fun r s5 ⟨hr, I5⟩ => ?_) fun _ _ z => z
      subst hr
      obtain ⟨m, hn, _⟩ := I5.loc
      exact hRR _ _ s5 H4 qn ⟨m, hn⟩ (fin H4 σ4 s5 I5 s5.heap (.refl ..)) I5.free hCle
    · refine wpAny_mono (T.item Y rfl rfl rfl hcm i [] s4 σ4 H4 (fun _ _ => False) I4 (stat fr4) st4 go) (fun r s5 ⟨u, hr, h5⟩ => ?_) fun _ _ z => z
      subst hr
      refine wpAny_mono h5 (fun _ s6 ⟨x, H6, I6, r6, y6, st6, fr6⟩ => ?_) fun _ _ z => z
      have I6' := I6.pinned (stat fr6) (T.obj _ _ st6)
      refine wpAny_mono (hg s2 H2 Hh.objs.size fp _ s6 σ4 H6 x u _ I6' r6 (step x H6 y6)) (fun _ s7 ⟨σ7, H7, I7, q7⟩ => ?_) fun _ _ z => z
      refine wpAny_mono (ht s2 H2 Hh.objs.size fp _ s7 σ7 H7 _ I7 q7) (fun ok s8 ⟨H8, I8, q8⟩ => ?_) fun _ _ z => z
      have back : ∀ {σ9 : L2.St} {H9 : Hp} {s9 : Shared}, Inv Y ([] ++ pinsAt fp s6.heap) σ9 H9 s9 → Inv Y [] σ9 H9 s9 ∧ tn (i + 1) s9.heap ∧ ∀ b ∈ fp, H9 b = none := fun {σ9 H9 s9} I9 =>
        ⟨I9.unpinned, T.keep _ _ _ st6 fun b hb o e => (I9.pin (b, o) (List.mem_append_right _ (List.mem_append_right _ (mem_pinsAt hb e)))).1, fun b hb => by
          obtain ⟨o, e, d⟩ := T.obj _ _ st6 b hb
          exact (I9.pin (b, o) (List.mem_append_right _ (List.mem_append_right _ (mem_pinsAt hb e)))).2.1⟩
      cases ok with
      | false =>
        obtain ⟨m', hm, w'⟩ := (if_neg Bool.false_ne_true).mp q8
        obtain ⟨b1, b2, b3⟩ := back I8
        exact (if_neg Bool.false_ne_true).mpr ⟨m', hm, i + 1, σ7, H8, b1, b2, b3, w'⟩
      | true =>
        refine (if_pos rfl).mpr ?_
        refine wpAny_mono (he s2 H2 Hh.objs.size fp _ s8 σ7 H8 _ I8 ((if_pos rfl).mp q8)) (fun ux s9 ⟨v, H9, I9, r9, xs, ex, hx, m', hm, w'⟩ => ?_) fun _ _ z => z
        refine wpAny_mono (mt_append (X := Y) _ s9 σ7 H9 (.ref s2.heap.objs.size) [v] (.ref s2.heap.objs.size) [ux] (fun _ H' => H' = upd H9 s2.heap.objs.size (.lst (xs ++ [v]))) I9 rfl (.cons r9 .nil) ⟨_, xs, v, rfl, rfl, ex, hx, rfl⟩) (fun _ s10 ⟨_, H10, I10, _, e10⟩ => ?_) fun _ _ z => z
        subst e10
        obtain ⟨b1, b2, b3⟩ := back I10
        exact ⟨m', hm, i + 1, σ7, _, b1, b2, b3, w'⟩
  exact codeAny_compStart_list (loop _ ⟨_, rfl⟩) (T.self _ 0 _ _ _ (T.keep _ _ _ st2 fun b _ o e => old b o e) (loop _ ⟨_, rfl⟩))
theorem inv_let {pins : List (Addr × Obj)} {σ σ2 : L2.St} {H2 H' : Hp} {s2 s' : Shared} {C : Addr} {h' : Heap} (I2 : Inv X pins σ2 H2 s2) (I : Inv X pins σ H' s') (hn : H' C = none) (hC : s2.heap.objs.size ≤ C) (hs : Heap.SameBut C s'.heap h') : Inv X pins σ H' { s' with heap := h' } := by
  refine I.turned (t' := s'.toks) (it := C) (fun b o hb e => (hs.2 b hb).trans e) hn (fun z => ?_) (.inr (Nat.le_trans I2.sz hC)) (fun x c h z => ?_) fun p hp z => ?_
  · exact absurd (Nat.lt_of_lt_of_le I2.lt (by rw [← z]; exact hC)) (Nat.lt_irrefl _)
  · obtain ⟨v, q⟩ := I2.cell x c h
    exact absurd (Nat.lt_of_lt_of_le q.lt (by rw [z]; exact hC)) (Nat.lt_irrefl _)
  · exact absurd (Nat.lt_of_lt_of_le (Heap.lt_size (I2.pin p hp).1) (by rw [z]; exact hC)) (Nat.lt_irrefl _)
theorem closure_of {env : PySem.Env} : ∀ (names : List (Str × NameKind)) (acc : List (Str × Addr)), (∀ x ∈ names, x.2 = .free → ∃ c, env.cells.lookup x.1 = some c) → (∀ x c, acc.lookup x = some c → env.cells.lookup x = some c) →
    ∃ cl, (forIn names acc fun x cs => (if (x.2 == NameKind.free) = true then do let c ← cellOf env x.1; pure (ForInStep.yield ((x.1, c) :: cs)) else pure (ForInStep.yield cs) : Sem _)) = pure cl ∧ (∀ x c, cl.lookup x = some c → env.cells.lookup x = some c) ∧
      (∀ x, (∃ c, acc.lookup x = some c) ∨ (x, NameKind.free) ∈ names → ∃ c, cl.lookup x = some c)
  | [], acc, _, ha => ⟨acc, rfl, ha, fun x h => by
      rcases h with h | h
      · exact h
      · simp at h⟩
  | (n, k) :: r, acc, hn, ha => by
    have hr : ∀ x ∈ r, x.2 = .free → ∃ c, env.cells.lookup x.1 = some c := fun x hx => hn x (List.mem_cons_of_mem _ hx)
    by_cases hk : k = .free
    · subst hk
      obtain ⟨c, hc⟩ := hn (n, .free) List.mem_cons_self rfl
      obtain ⟨cl, e, h1, h2⟩ := closure_of r ((n, c) :: acc) hr (fun x c' h => by
        rw [List.lookup_cons] at h
        by_cases hx : (x == n) = true
        · rw [hx] at h
          cases h
          have : x = n := by simpa using hx
          rw [this]; exact hc
        · have hx : (x == n) = false := by simpa using hx
          rw [hx] at h
          exact ha x c' h)
      refine ⟨cl, ?_, h1, fun x h => h2 x ?_⟩
      · rw [List.forIn_cons]
        simp only [beq_self_eq_true, if_true]
        have q : cellOf env n = pure c := by unfold cellOf; rw [hc]
        rw [q]
        exact e
      · rcases h with ⟨c', h⟩ | h
        · left
          rw [List.lookup_cons]
          by_cases hx : (x == n) = true
          · rw [hx]; exact ⟨c, rfl⟩
          · have hx : (x == n) = false := by simpa using hx
            rw [hx]; exact ⟨c', h⟩
        · rcases List.mem_cons.mp h with h | h
          · left
            cases h
            exact ⟨c, by rw [List.lookup_cons, beq_self_eq_true]⟩
          · exact .inr h
    · have hb : (k == NameKind.free) = false := by simpa using hk
      obtain ⟨cl, e, h1, h2⟩ := closure_of r acc hr ha
      refine ⟨cl, ?_, h1, fun x h => h2 x ?_⟩
      · rw [List.forIn_cons]
        simp only [hb, Bool.false_eq_true, if_false]
        exact e
      · rcases h with h | h
        · exact .inl h
        · rcases List.mem_cons.mp h with h | h
          · cases h; exact absurd rfl hk
          · exact .inr h
theorem closure_ok {env : PySem.Env} {scope : Scope} (hn : ∀ x ∈ scope.names, x.2 = .free → ∃ c, env.cells.lookup x.1 = some c) : ∃ cl, closureFor scope env = pure cl ∧ (∀ x c, cl.lookup x = some c → env.cells.lookup x = some c) ∧ (∀ x, (x, NameKind.free) ∈ scope.names → ∃ c, cl.lookup x = some c) := by
  obtain ⟨cl, e, h1, h2⟩ := closure_of (env := env) scope.names [] hn (fun x c h => by simp at h)
  refine ⟨cl, ?_, h1, fun x h => h2 x (.inr h)⟩
  unfold closureFor
  have e2 : (forIn scope.names ([] : List (Str × Addr)) fun x r => (match x with
      | (name, kind) => if (kind == NameKind.free) = true then do let c ← cellOf env name; pure (ForInStep.yield ((name, c) :: r)) else pure (ForInStep.yield r) : Sem _)) = pure cl := e
  first
    | exact congrArg (fun m => m >>= fun cs => pure cs) e2
    | (show (do let cs ← forIn scope.names ([] : List (Str × Addr)) fun x r => _; pure cs) = _; rw [e2]; rfl)
structure CompTab (sc scope : Scope) (N N' : List Str) (pk : List (Option Nat)) : Prop where
  kind : scope.kind = .function
  cell : ∀ y ∈ scope.names, y.2 ≠ .cell
  names : ∀ y ∈ scope.names, y.2 = .local → scope.names.lookup y.1 = some .local
  free : ∀ y ∈ scope.names, y.2 = .free → sc.names.lookup y.1 = some .cell ∨ sc.names.lookup y.1 = some .free
  len : pk.length = N'.length
  take : ((List.range N'.length).all fun i => match pk[i]? with
    | some (some j) => match N[j]?, N'[i]? with
      | some x, some y => (x == y) && ((sc.names.lookup y == some NameKind.cell) || (sc.names.lookup y == some NameKind.free)) && (scope.names.lookup y == some NameKind.free)
      | _, _ => false
    | _ => true) = true
theorem relabel_lookup {scope : Scope} {env : PySem.Env} {x : Str} : ∀ (names : List (Str × NameKind)), ((names.map fun (n, k) => if (k == NameKind.free && env.scope.kind == .function && env.kindOf n == some .cell) = true then (n, NameKind.cell) else (n, k)).lookup x = some .cell ∨
      (names.map fun (n, k) => if (k == NameKind.free && env.scope.kind == .function && env.kindOf n == some .cell) = true then (n, NameKind.cell) else (n, k)).lookup x = some .free) → (∀ y ∈ names, y.2 ≠ .cell) → (x, NameKind.free) ∈ names
  | [], h, _ => by simp at h
  | (n, k) :: r, h, hc => by
    rw [List.map_cons] at h
    by_cases hx : (x == n) = true
    · have e : x = n := by simpa using hx
      subst e
      have hk := hc (x, k) List.mem_cons_self
      by_cases hq : (k == NameKind.free && env.scope.kind == .function && env.kindOf x == some .cell) = true
      · have : k = .free := by
          rw [Bool.and_eq_true, Bool.and_eq_true] at hq
          simpa using hq.1.1
        subst this
        exact List.mem_cons_self
      · simp only [hq, Bool.false_eq_true, if_false, List.lookup_cons, beq_self_eq_true] at h
        rcases h with h | h
        · exact absurd (by simpa using h) hk
        · have : k = .free := by simpa using h
          subst this
          exact List.mem_cons_self
    · have hx : (x == n) = false := by simpa using hx
      refine List.mem_cons_of_mem _ (relabel_lookup (scope := scope) (env := env) r ?_ fun y hy => hc y (List.mem_cons_of_mem _ hy))
      by_cases hq : (k == NameKind.free && env.scope.kind == .function && env.kindOf n == some .cell) = true
      · simpa only [hq, if_true, List.lookup_cons, hx] using h
      · simpa only [hq, Bool.false_eq_true, if_false, List.lookup_cons, hx] using h
theorem lookup_relabel_free {scope : Scope} {env : PySem.Env} {x : Str} : ∀ (names : List (Str × NameKind)), names.lookup x = some .free → ((names.map fun (n, k) => if (k == NameKind.free && env.scope.kind == .function && env.kindOf n == some .cell) = true then (n, NameKind.cell) else (n, k)).lookup x = some .cell ∨
      (names.map fun (n, k) => if (k == NameKind.free && env.scope.kind == .function && env.kindOf n == some .cell) = true then (n, NameKind.cell) else (n, k)).lookup x = some .free)
  | [], h => by simp at h
  | (n, k) :: r, h => by
    rw [List.map_cons]
    by_cases hx : (x == n) = true
    · rw [List.lookup_cons, hx] at h
      have : k = .free := by simpa using h
      subst this
      by_cases hq : (NameKind.free == NameKind.free && env.scope.kind == .function && env.kindOf n == some .cell) = true
      · left; simp only [hq, if_true, List.lookup_cons, hx]
      · right; simp only [hq, Bool.false_eq_true, if_false, List.lookup_cons, hx]
    · have hx : (x == n) = false := by simpa using hx
      rw [List.lookup_cons, hx] at h
      have := lookup_relabel_free (scope := scope) (env := env) r h
      by_cases hq : (k == NameKind.free && env.scope.kind == .function && env.kindOf n == some .cell) = true
      · simpa only [hq, if_true, List.lookup_cons, hx] using this
      · simpa only [hq, Bool.false_eq_true, if_false, List.lookup_cons, hx] using this
theorem CompTab.sc {scope : Scope} {N' : List Str} {pk : List (Option Nat)} (t : CompTab X.env.scope scope X.N N' pk) (ok : X.Ok) : ∃ cl, CompSc X scope cl N' pk := by
  obtain ⟨cl, e, h1, h2⟩ := closure_ok (env := X.env) (scope := scope) fun x hx hf => ok.has x.1 (t.free x hx hf)
  refine ⟨cl, t.kind, t.cell, t.names, e, h1, fun x h => h2 x (relabel_lookup (scope := scope) (env := X.env) scope.names h t.cell), t.len, fun i j x hp hn => ?_⟩
  have hi : i < N'.length := (List.getElem?_eq_some_iff.mp hn).1
  have q := List.all_eq_true.mp t.take i (List.mem_range.mpr hi)
  simp only [hp, hn] at q
  cases hj : X.N[j]? with
  | none => simp [hj] at q
  | some y =>
    simp only [hj, Bool.and_eq_true, Bool.or_eq_true, beq_iff_eq] at q
    obtain ⟨⟨e1, e2⟩, e3⟩ := q
    subst e1
    exact ⟨rfl, e2, lookup_relabel_free (scope := scope) (env := X.env) scope.names e3⟩
theorem pe_comp {elt tg iter : Expr} {ifs : List Expr} {scope : Scope} {pos : Pos} {N' : List Str} {pk : List (Option Nat)} {wi : TI} {g : TG} {tt : TT} {te : TE} (ct : CompTab X.env.scope scope X.N N' pk) (hcm : X.calm = true) (hi : PI X tg iter wi)
    (hg : ∀ cl s2 H2 C fp, PG (blk X s2 H2 C scope cl N' fp) tg g) (ht : ∀ cl s2 H2 C fp, PTs (blk X s2 H2 C scope cl N' fp) ifs tt) (he : ∀ cl s2 H2 C fp, PE (blk X s2 H2 C scope cl N' fp) elt te)
    (hs : ∀ x, foldedSetIterable iter X.env x = pure x := by intro _; rfl) : PE X (.ListComp elt [⟨tg, iter, ifs, 0⟩] scope pos) (tComp wi pk g tt te) := by
  intro pins s σ H Q I h
  obtain ⟨cl, cs⟩ := ct.sc I.ok
  rw [eval_ListComp]
  refine wpAny_comprehension_free (use := none) rfl hs cs.clos cs.kind cs.names (thn (hi pins s σ H _ I h) fun x s1 h1 => thn h1 fun itv s2 h2 => ?_)
  obtain ⟨it, fp, tn, J, H2, e, I2, T, st2, f2, hQ⟩ := h2
  subst e
  refine comp_block cs hcm (hg cl) (ht cl) (he cl) I2 T st2 f2 hQ (RR := fun acc C => compPost (model X.prog X.w) X.A X.xe none (EP X pins σ Q) acc C) fun D C s' H' q hn inv hf hC => ?_
  obtain ⟨m, hn⟩ := hn
  exact ⟨m, hn, fun h' hs' => ⟨.ref D, H', inv_let I2 inv hf hC hs', rfl, q⟩⟩
theorem ps_setComp {i : Nat} {y : Str} {py spos : Pos} {elt tg iter : Expr} {ifs : List Expr} {scope : Scope} {pos : Pos} {N' : List Str} {pk : List (Option Nat)} {wi : TI} {g : TG} {tt : TT} {te : TE} (ct : CompTab X.env.scope scope X.N N' pk) (hcm : X.calm = true) (hi : PI X tg iter wi)
    (hg : ∀ cl s2 H2 C fp, PG (blk X s2 H2 C scope cl N' fp) tg g) (ht : ∀ cl s2 H2 C fp, PTs (blk X s2 H2 C scope cl N' fp) ifs tt) (he : ∀ cl s2 H2 C fp, PE (blk X s2 H2 C scope cl N' fp) elt te)
    (hN : X.N.Nodup) (hy : X.N[i]? = some y) (hx : Loc X.env.scope y) (hsw : swapsWith (.ListComp elt [⟨tg, iter, ifs, 0⟩] scope pos) (some (.Name y py)) spos.line X.env = pure true)
    (hs : ∀ x, foldedSetIterable iter X.env x = pure x := by intro _; rfl) (hf : X.fn y = true ∨ X.env.scope.names.lookup y = some .local := by first | exact .inl rfl | exact .inr rfl | assumption) :
    PS X (.Assign [.Name y py] (.ListComp elt [⟨tg, iter, ifs, 0⟩] scope pos) spos) (tAsg (tComp wi pk g tt te) (gName i)) := by
  intro pins s σ H E I h
  obtain ⟨cl, cs⟩ := ct.sc I.ok
  rw [exec_Assign_Name_used _ _ _ _ hsw]
  refine wpAny_bind (wpAny_standAt (wpAny_bind ?_))
  show wpAny _ X.A (do let _ ← comprehension (.ListComp elt [⟨tg, iter, ifs, 0⟩] scope pos) scope X.env _ (newList []) false (eval iter X.env) (some (assign (.Name y py) X.env))) _ _ s
  refine wpAny_bind (wpAny_mono (wpAny_comprehension_free (use := some (assign (.Name y py) X.env)) (Q := fun _ s' => SP X pins E .next s') rfl hs cs.clos cs.kind cs.names
    (thn (hi pins s σ H _ I h) fun x s1 h1 => thn h1 fun itv s2 h2 => ?_)) (fun _ s' hq => wpAny_pure (wpAny_pure hq)) fun _ _ e => e)
  obtain ⟨it, fp, tn, J, H2, e, I2, T, st2, f2, hQ⟩ := h2
  subst e
  refine comp_block cs hcm (hg cl) (ht cl) (he cl) I2 T st2 f2 (Q := fun x H1 => gName i x σ H1 E.nx) hQ (RR := fun acc C => compPost (model X.prog X.w) X.A X.xe (some (assign (.Name y py) X.env)) (fun _ s' => SP X pins E .next s') acc C) fun D C s' H' q hn inv hfr hC => ?_
  obtain ⟨m, hn⟩ := hn
  show wpAny _ X.A (assign (.Name y py) X.env (.ref D)) _ _ _
  refine wpAny_assign_Name (store_ok2 inv hN hy hx (v := .ref D) rfl (fun s'' I'' hch => ?_) hf)
  obtain ⟨a, hsb, ha⟩ := hch
  have hCa : C ≠ a := by
    rcases ha with ha | ha
    · rintro rfl
      exact absurd (Nat.lt_of_lt_of_le I2.lt (by rw [← ha]; exact hC)) (Nat.lt_irrefl _)
    · rintro rfl
      obtain ⟨v, z⟩ := I2.cell y _ ha
      exact absurd (Nat.lt_of_lt_of_le z.lt hC) (Nat.lt_irrefl _)
  exact ⟨m, hn.sameBut hsb hCa, fun h' hs' => ⟨_, H', inv_let I2 I'' hfr hC hs', q⟩⟩
abbrev XN : XW := fun _ _ _ _ _ _ => False
def cbody (a : Nat) (t : Ev Bool) (e : Ev D) : Sv := fun ρ S => bindS (t ρ S) ρ fun b S1 => if b = true then bindS (e ρ S1) ρ fun d S2 => (match S2[a]? with
    | some c => if c.fz = false ∧ c.xs.length < 1000000 then .nx ρ (S2.set a ⟨false, c.xs ++ [d]⟩) else .bad
    | none => .bad) else .nx ρ S1
def cmp (f : Ev Src) (pk : List (Option Nat)) (g : Tg) (t : Ev Bool) (e : Ev D) : Ev D := fun ρ S => (f ρ S).bind fun src S1 => match forN src.nxt g (cbody S1.length t e) src.fuel 0 (pkS pk ρ) (S1 ++ [⟨false, []⟩]) with
  | .nx _ S' => .ok (.lst S1.length) S'
  | _ => .bad
def PostC (K : PySem.W.Frag) (XQ : XW) (σ : L2.St) (ρ : Lc) (a : Nat) (mp : List Addr) (H : Hp) (o : OS) (Q : VK) : Prop := match o with
  | .nx _ S => Post K XQ σ ρ mp H (.ok (.lst a) S) Q
  | _ => False
theorem PostC.aft {K : PySem.W.Frag} {XQ : XW} {σ : L2.St} {ρ : Lc} {a : Nat} {mp mp' : List Addr} {H H' : Hp} {o : OS} {Q : VK} (p : PostC K XQ σ ρ a mp H o Q) (af : Aft K mp H mp' H') : PostC K XQ σ ρ a mp' H' o Q := by
  cases o with
  | nx r S => exact PostG.aft (show Post K XQ σ ρ mp H (.ok (.lst a) S) Q from p) af
  | _ => exact p
theorem Gd.pick {K : PySem.W.Frag} {mp : List Addr} {H : Hp} {σ : L2.St} {ρ : Lc} {S : Sto} (G : Gd K mp H σ ρ S) (pk : List (Option Nat)) : Gd K mp H (pkS pk σ) (pkS pk ρ) S := by
  refine ⟨G.rs, by simp [pkS], fun i d h => ?_⟩
  unfold pkS at h ⊢
  rw [List.getElem?_map] at h ⊢
  cases e : pk[i]? with
  | none => rw [e] at h; cases h
  | some o =>
    rw [e] at h
    cases o with
    | none => cases h
    | some j =>
      have h : (ρ[j]?).bind id = some d := Option.some.inj h
      have h : ρ[j]? = some (some d) := by
        cases z : ρ[j]? with
        | none => rw [z] at h; cases h
        | some q =>
          rw [z] at h
          have h : q = some d := h
          rw [h]
      obtain ⟨v, e1, r⟩ := G.loc j d h
      refine ⟨v, ?_, r⟩
      show some ((σ[j]?).bind id) = some (some v)
      rw [e1]
      rfl
def JTs (Y : Cx) (XQ : XW) (ifs : List Expr) (t : Ev Bool) : Prop := PTs Y ifs (rdT Y.K XQ t)
def ttrue : Ev Bool := fun _ S => .ok true S
theorem jts_nil {Y : Cx} {XQ : XW} : JTs Y XQ [] ttrue := fun pins s σ H Q I ⟨mp, ρ, S, G, p⟩ => pts_nil pins s σ H Q I (PostG.ok (show PostG Y.K kB XQ σ ρ mp H (.ok true S) Q from p) G.rs rfl)
theorem jts_one {Y : Cx} {XQ : XW} {c : Expr} {t : Ev Bool} (h : JT Y XQ c t) : JTs Y XQ [c] t := pts_one h
theorem compP {K : PySem.W.Frag} {XQ : XW} {f : Ev Src} {pk : List (Option Nat)} {g : Tg} {t : Ev Bool} {e : Ev D} (σ : L2.St) (H : Hp) (Q : VK) (h : rdE K XQ (cmp f pk g t e) σ H Q) : tComp (rdI K XQ f) pk (rdG1 K g) (rdT K XN t) (rdE K XN e) σ H Q := by
  obtain ⟨mp, ρ, S, G, p⟩ := h
  refine bindP G p fun mp1 H1 src S1 J a1 G1 j1 p1 => ?_
  intro a ha
  obtain ⟨af, rs, la⟩ := G1.rs.newL ha (RepL.nil : RepL K mp1 H1 [] [])
  have p1 : PostC K XQ σ ρ S1.length (mp1 ++ [a]) (upd H1 a (.lst [])) (forN src.nxt g (cbody S1.length t e) src.fuel 0 (pkS pk ρ) (S1 ++ [⟨false, []⟩])) Q := by
    cases z : forN src.nxt g (cbody S1.length t e) src.fuel 0 (pkS pk ρ) (S1 ++ [⟨false, []⟩]) with
    | nx r S' => rw [z] at p1; exact PostG.aft p1 af
    | rt d S' => rw [z] at p1; exact p1
    | bk r S' => rw [z] at p1; exact p1
    | ct r S' => rw [z] at p1; exact p1
    | exc x r S' => rw [z] at p1; exact p1
    | bad => rw [z] at p1; exact p1
  refine ⟨fun i m σ' H' => ∃ mp' ρ' S', Aft K mp1 H1 mp' H' ∧ Gd K mp' H' σ' ρ' S' ∧ mp'[S1.length]? = some a ∧ PostC K XQ σ ρ S1.length mp' H' (forN src.nxt g (cbody S1.length t e) m i ρ' S') Q, ⟨src.fuel, _, _, _, af, (G1.pick pk).aft af rs, la, p1⟩, ?_⟩
  rintro i m σ' H' ⟨mp', ρ', S', a', G', la', p'⟩
  cases m with
  | zero => exact (show False from p').elim
  | succ n =>
    have j := j1 mp' H' S' a' G'.rs i
    unfold forN at p'
    cases z : src.nxt i S' with
    | none =>
      rw [z] at j p'
      exact .inl ⟨j, PostG.ok (show Post K XQ σ ρ mp' H' (.ok (.lst S1.length) S') Q from p') G'.rs ⟨a, rfl, la'⟩⟩
    | some d =>
      rw [z] at j p'
      obtain ⟨j1, j2⟩ := j
      refine .inr ⟨j1, fun x H2 y => ?_⟩
      obtain ⟨a2, r2, x2⟩ := j2 x H2 y
      have G2 := G'.aft a2 r2
      cases zg : g d ρ' with
      | none => simp only [zg] at p'; exact p'.elim
      | some ρ1 =>
        simp only [zg] at p'
        refine ⟨mp', ρ', S', d, ρ1, G2, x2, zg, fun σ3 G3 => ⟨mp', ρ1, S', G3, ?_⟩⟩
        have p2 := PostC.aft p' a2
        unfold cbody at p2
        cases zt : t ρ1 S' with
        | exc x S2 => simp only [zt, bindS] at p2; exact p2.elim
        | bad => simp only [zt, bindS] at p2; exact p2.elim
        | ok b S2 =>
          simp only [zt, bindS] at p2
          intro mp3 H3 b' a3 rs3 e3
          cases (show b' = b from e3)
          have G4 := G3.aft a3 rs3
          cases b with
          | false =>
            simp only [Bool.false_eq_true, if_false] at p2
            exact (if_neg Bool.false_ne_true).mpr ⟨n, Nat.lt_succ_self n, mp3, ρ1, S2, (a'.trans a2).trans a3, G4, a3.pre _ _ la', PostC.aft p2 a3⟩
          | true =>
            simp only [if_true] at p2
            refine (if_pos rfl).mpr ⟨mp3, ρ1, S2, G4, ?_⟩
            cases ze : e ρ1 S2 with
            | exc x S3 => simp only [ze] at p2; exact p2.elim
            | bad => simp only [ze] at p2; exact p2.elim
            | ok d2 S3 =>
              simp only [ze] at p2
              intro mp4 H4 v a4 rs4 r4
              have la4 := a4.pre _ _ (a3.pre _ _ la')
              have G5 := G4.aft a4 rs4
              cases zc : S3[S1.length]? with
              | none => simp only [zc] at p2; exact p2.elim
              | some c =>
                simp only [zc] at p2
                by_cases hc : c.fz = false ∧ c.xs.length < 1000000
                · rw [if_pos hc] at p2
                  obtain ⟨a5, xs, e5, h5, s5, r5, f5⟩ := rs4.items (v := .ref a) ⟨a, rfl, la4⟩ zc
                  cases e5
                  have h5 := f5 hc.1
                  obtain ⟨af6, rs6⟩ := rs4.setL la4 zc hc.1 h5 (RepL.append r5 (RepL.cons r4 RepL.nil))
                  refine ⟨xs, h5, ?_, n, Nat.lt_succ_self n, mp4, ρ1, _, (((a'.trans a2).trans a3).trans a4).trans af6, G5.aft af6 rs6, la4, PostC.aft p2 ((a3.trans a4).trans af6)⟩
                  rw [r5.len]
                  exact Nat.lt_of_lt_of_le hc.2 (by decide)
                · rw [if_neg hc] at p2; exact p2.elim
variable {XQ : XW}
theorem je_comp {elt tg iter : Expr} {ifs : List Expr} {scope : Scope} {pos : Pos} {N' : List Str} {pk : List (Option Nat)} {f : Ev Src} {g : Tg} {t : Ev Bool} {e : Ev D} (ct : CompTab X.env.scope scope X.N N' pk) (hcm : X.calm = true) (hi : JI X XQ tg iter f)
    (hg : ∀ cl s2 H2 C fp, JG (blk X s2 H2 C scope cl N' fp) tg g) (ht : ∀ cl s2 H2 C fp, JTs (blk X s2 H2 C scope cl N' fp) XN ifs t) (he : ∀ cl s2 H2 C fp, JE (blk X s2 H2 C scope cl N' fp) XN elt e)
    (hs : ∀ x, foldedSetIterable iter X.env x = pure x := by intro _; rfl) : JE X XQ (.ListComp elt [⟨tg, iter, ifs, 0⟩] scope pos) (cmp f pk g t e) :=
  PE.mono (pe_comp (g := rdG1 X.K g) (tt := rdT X.K XN t) (te := rdE X.K XN e) ct hcm hi hg ht he hs) compP
theorem js_setComp (i : Nat) {y : Str} {py spos : Pos} {elt tg iter : Expr} {ifs : List Expr} {scope : Scope} {pos : Pos} {N' : List Str} {pk : List (Option Nat)} {f : Ev Src} {g : Tg} {t : Ev Bool} {e : Ev D} (ct : CompTab X.env.scope scope X.N N' pk) (hcm : X.calm = true) (hi : JI X XQ tg iter f)
    (hg : ∀ cl s2 H2 C fp, JG (blk X s2 H2 C scope cl N' fp) tg g) (ht : ∀ cl s2 H2 C fp, JTs (blk X s2 H2 C scope cl N' fp) XN ifs t) (he : ∀ cl s2 H2 C fp, JE (blk X s2 H2 C scope cl N' fp) XN elt e)
    (hN : X.N.Nodup) (hy : X.N[i]? = some y := by rfl) (hx : Loc X.env.scope y := by first | exact Or.inl rfl | exact Or.inr rfl) (hsw : swapsWith (.ListComp elt [⟨tg, iter, ifs, 0⟩] scope pos) (some (.Name y py)) spos.line X.env = pure true := by rfl)
    (hs : ∀ x, foldedSetIterable iter X.env x = pure x := by intro _; rfl) (hf : X.fn y = true ∨ X.env.scope.names.lookup y = some .local := by first | exact .inl rfl | exact .inr rfl | assumption) :
    JS X XQ (.Assign [.Name y py] (.ListComp elt [⟨tg, iter, ifs, 0⟩] scope pos) spos) (sa (cmp f pk g t e) (gn i)) := by
  refine PS.mono (ps_setComp (g := rdG1 X.K g) (tt := rdT X.K XN t) (te := rdE X.K XN e) ct hcm hi hg ht he hN hy hx hsw hs hf) fun E σ H ⟨mp, ρ, S, G, p⟩ => compP σ H _ ?_
  exact bindSP G p fun mp1 H1 d S1 v a1 G1 r1 p1 => PostS.nx p1 (G1.set i r1)
end
end DL
set_option Elab.async false
set_option linter.all false
set_option maxRecDepth 100000
namespace DL
open PySem PySem.Spec PyProof.Rows L2
theorem tm_nofill : fillsNumberSlot (.type "tuple") "mul" = pure false :=
  PySem.fillsNumberSlot_seq (id := "tuple.__mul__") (r := some (.builtin "tuple.__rmul__")) F.slot_tuple_mul.lookup (by decide +kernel) F.slot_tuple_rmul.lookup (by decide +kernel)
theorem tm_repeats : seqRepeat? (.type "tuple") = pure (some (.builtin "tuple.__mul__")) := by
  unfold seqRepeat?
  rw [PySem.seqSlot_of (T := "tuple") (name := "__mul__") (id := "tuple.__mul__") F.slot_tuple_mul.lookup (by decide +kernel), PySem.seqSlot_of (T := "tuple") (name := "__rmul__") (id := "tuple.__rmul__") F.slot_tuple_rmul.lookup (by decide +kernel)]
  rfl
theorem tm_int (x : Int) (t : Tok) (l : Addr) (xs : Array Value) (n : Nat) (d : Option Addr) (sl : Array (Option Value)) :
    Meets (Builtin.«int.__rmul__» ⟨[.int x t, .ref l], []⟩) (fun _ R s => s.heap.get? l = some { cls := .type "tuple", dict := d, data := .seq xs n, slots := sl } ∧ R (.ok (.ret Value.notImplemented)) s) :=
  .of_wp fun prog w A R s h => by obtain ⟨hp, g, d, tk, os⟩ := s; obtain ⟨hl, h⟩ := h; wp_walk; exact ⟨_, rfl, h⟩
theorem tm_tup (x : Int) (t : Tok) (l : Addr) (xs : Array Value) (n : Nat) (d : Option Addr) (sl : Array (Option Value)) (c0 : ¬ (decide (x < -2 ^ 63) || decide (x ≥ 2 ^ 63)) = true) (c1 : ¬ (xs.isEmpty || x == 1) = true) (c2 : ¬ (decide (x ≤ 0) || xs.isEmpty) = true) (c3 : ¬ (xs.size : Int) * x > (2 ^ 63 - 1) / 8) (c4 : ¬ Builtin.Tuple.tupleTooMany ((xs.size : Int) * x) = true) (c5 : (List.foldl (fun x1 x2 => x1 ++ x2) #[] (List.replicate x.toNat xs)).size ≤ sizeLine) :
    Meets (Builtin.«tuple.__mul__» ⟨[.ref l, .int x t], []⟩) (fun _ R s => s.heap.get? l = some { cls := .type "tuple", dict := d, data := .seq xs n, slots := sl } ∧ R (.ok (.ret (Value.ref s.heap.objs.size))) { s with heap := s.heap.push { cls := Value.type "tuple", data := Data.seq (List.foldl (fun x1 x2 => x1 ++ x2) #[] (List.replicate x.toNat xs)) }, toks := s.toks }) :=
  .of_wp fun prog w A R s h => by
    obtain ⟨hp, g, d, tk, os⟩ := s; obtain ⟨hl, h⟩ := h
    wp_walk
    refine wpAny_ite_false (decide_eq_false c0) ?_
    wp_walk using wpAny_loadPart' hl
    refine wpAny_ite_false (decide_eq_false c3) ?_
    wp_walk
    exact ⟨_, rfl, h⟩
section
variable {X : Cx}
def rRepT (K : PySem.W.Frag) : R2 := fun x y H Q => ∃ a k xs, x = .ref a ∧ y = .int k ∧ SqT K H a xs ∧ xs ≠ [] ∧ 2 ≤ k ∧ k ≤ 1000000 ∧ xs.length * k.toNat ≤ sizeLine ∧ ∀ p, H p = none → Q (.ref p) (upd H p (.tup (List.replicate k.toNat xs).flatten))
theorem op_repT : OpR X (binaryOp .Mult) (rRepT X.K) := by
  intro pins s σ H x y v u Q I rx ry ⟨a, k, xs, e1, e2, ha, hne, k2, k3, hz, q⟩
  subst e1 e2
  cases rx
  obtain ⟨t, rfl⟩ := ry
  obtain ⟨its, r1, p1, _⟩ := I.tuple ha
  obtain ⟨⟨cls, dd, data, sl⟩, ho, hc, n, hd⟩ := id p1
  simp only at hc hd
  subst hc hd
  have hl : xs.length = its.length := r1.length
  have hne' : its ≠ [] := fun z => hne (r1.nil_iff.mp z)
  have hie : its.toArray.isEmpty = false := by
    cases its with
    | nil => exact absurd rfl hne'
    | cons _ _ => rfl
  have hnew : List.foldl (fun x1 x2 => x1 ++ x2) #[] (List.replicate k.toNat its.toArray) = (List.replicate k.toNat its).flatten.toArray := by
    have := foldl_rep its k.toNat []
    rw [List.nil_append] at this
    exact this
  have hsz : (its.toArray.size : Int) * k ≤ (sizeLine : Int) := by
    rw [List.size_toArray, ← hl]
    have h1 : ((xs.length * k.toNat : Nat) : Int) ≤ (sizeLine : Int) := by exact_mod_cast hz
    rw [Int.natCast_mul, Int.toNat_of_nonneg (by omega)] at h1
    exact h1
  have hsl : (sizeLine : Int) ≤ (2 ^ 63 - 1) / 8 := by decide
  refine wpAny_binaryOp_repeat_ref (T := "tuple") (U := "int") (by decide) ⟨_, ho, rfl⟩ (fun s' => typeIs_int s' k t) tm_nofill F.fills_int_mul F.slot_int_rmul tm_repeats F.slot_int_index.lookup
    (call_meets F.slot_int_rmul (typeIs_int s k t) F.entry_int_rmul (F.args_int_rmul_2 _ _) (tm_int k t a its.toArray n dd sl)
      ⟨ho, rfl, ⟨_, ho, rfl⟩, call_meets F.slot_tuple_mul ⟨_, ho, rfl⟩ F.entry_tuple_mul (F.args_tuple_mul_2 _ _) (tm_tup k t a its.toArray n dd sl ?c0 ?c1 ?c2 ?c3 ?c4 ?c5) ⟨ho, ?_⟩⟩)
  case c0 => simp; omega
  case c1 => rw [hie]; simp; omega
  case c2 => rw [hie]; simp; omega
  case c3 => omega
  case c4 => unfold Builtin.Tuple.tupleTooMany; simp; omega
  case c5 => rw [hnew, List.size_toArray, len_rep, ← hl, Nat.mul_comm]; exact hz
  rw [hnew]
  refine ⟨.ref s.heap.objs.size, _, I.laid (t' := s.toks) (o := .tup (List.replicate k.toNat xs).flatten) (fun b ob q => Heap.get?_push_of_some _ q) (Nat.le_refl _) ?_, rfl, q _ (I.hok.fresh (Nat.le_refl _))⟩
  exact ⟨by rw [len_rep, Nat.mul_comm]; exact hz, _, r1.rep k.toNat, IsTup.new _ _⟩
end
end DL
set_option Elab.async false
set_option linter.all false
set_option maxRecDepth 100000
namespace DL
open PySem PySem.Spec PyProof.Rows L2
def mapO {α β : Type} (f : α → Option β) : List α → Option (List β)
  | [] => some []
  | x :: l => match f x, mapO f l with
    | some y, some ys => some (y :: ys)
    | _, _ => none
def toP (S : Sto) : Nat → D → Option PyData
  | 0, _ => none
  | n + 1, d => match d with
    | .non => some .none
    | .bl b => some (.bool b)
    | .int i => some (.int i)
    | .str x => some (.str x)
    | .tup l => (mapO (toP S n) l).map .tuple
    | .lst i => match S[i]? with
      | some c => (mapO (toP S n) c.xs).map .list
      | none => none
section
variable {X : Cx} {pins : List (Addr × Obj)} {σ : L2.St} {H : Hp} {s : Shared} {mp : List Addr} {S : Sto}
theorem readsPs {f : D → Option PyData} {K : PySem.W.Frag} (hf : ∀ (d : D) (v : V) (u : Value) (p : PyData), Rep K mp H d v → RelV v u → f d = some p → ∃ as, Reads s.heap u p as) : ∀ (l : List D) (vs : List V) (us : List Value) (ps : List PyData), RepL K mp H l vs → Vals vs us → mapO f l = some ps → ∃ as, ReadsAll s.heap us ps as
  | [], vs, us, ps, h, r, e => by
    cases (show vs = [] from h); cases r
    cases (Option.some.inj e)
    exact ⟨_, .nil⟩
  | d :: l, vs, us, ps, h, r, e => by
    obtain ⟨v, vr, rfl, h1, h2⟩ := (show ∃ v r, vs = v :: r ∧ Rep K mp H d v ∧ RepL K mp H l r from h)
    cases r with
    | cons r1 r2 =>
      cases z1 : f d with
      | none => simp only [mapO, z1] at e; cases e
      | some p =>
        cases z2 : mapO f l with
        | none => simp only [mapO, z1, z2] at e; cases e
        | some qs =>
          simp only [mapO, z1, z2] at e
          cases (Option.some.inj e)
          obtain ⟨as, ra⟩ := hf d v _ p h1 r1 z1
          obtain ⟨bs, rb⟩ := readsPs hf l vr _ qs h2 r2 z2
          exact ⟨_, .cons ra rb⟩
theorem readsP (I : Inv X pins σ H s) (rs : RS X.K mp H S) : ∀ (n : Nat) (d : D) (v : V) (u : Value) (p : PyData), Rep X.K mp H d v → RelV v u → toP S n d = some p → ∃ as, Reads s.heap u p as := by
  intro n
  induction n with
  | zero => intro d v u p h r e; cases e
  | succ n ih =>
    intro d v u p h r e
    cases d with
    | non =>
      cases (show v = .non from h); cases (show u = Value.none from r)
      cases (Option.some.inj e)
      exact ⟨_, .none⟩
    | bl b =>
      cases (show v = .bl b from h); cases (show u = Value.bool b from r)
      cases (Option.some.inj e)
      exact ⟨_, .bool b⟩
    | int i =>
      cases (show v = .int i from h); obtain ⟨t, rfl⟩ := (show ∃ t, u = Value.int i t from r)
      cases (Option.some.inj e)
      exact ⟨_, .int i t⟩
    | str x =>
      cases (show v = .str x from h); obtain ⟨t, rfl⟩ := (show ∃ t, u = Value.str x t from r)
      cases (Option.some.inj e)
      exact ⟨_, .str x t⟩
    | tup l =>
      obtain ⟨a, xs, rfl, sq, q⟩ := Rep.tup h
      cases (show u = Value.ref a from r)
      obtain ⟨its, rv, ⟨o, ho, hc, k, hd⟩, _⟩ := I.tuple sq
      have e : (mapO (toP S n) l).map PyData.tuple = some p := e
      cases z : mapO (toP S n) l with
      | none => rw [z] at e; cases e
      | some ps =>
        rw [z] at e
        cases (Option.some.inj e)
        obtain ⟨as, ra⟩ := readsPs ih l xs its ps q rv z
        exact ⟨as, .tuple ho hc hd (by simpa using ra)⟩
    | lst i =>
      have e : (match S[i]? with | some c => (mapO (toP S n) c.xs).map PyData.list | none => none) = some p := e
      cases zc : S[i]? with
      | none => rw [zc] at e; cases e
      | some c =>
        rw [zc] at e
        obtain ⟨a, xs, rfl, _, sq, q, _⟩ := rs.items h zc
        cases (show u = Value.ref a from r)
        obtain ⟨its, rv, ⟨o, k, ho, hc, _, hd⟩, _⟩ := I.list sq
        have e : (mapO (toP S n) c.xs).map PyData.list = some p := e
        cases z : mapO (toP S n) c.xs with
        | none => rw [z] at e; cases e
        | some ps =>
          rw [z] at e
          cases (Option.some.inj e)
          obtain ⟨as, ra⟩ := readsPs ih c.xs xs its ps q rv z
          exact ⟨_, .list ho hc hd (by simpa using ra)⟩
end
def eqD (x y : D) (S : Sto) : Out D := match toP S 40 x, toP S 40 y with
  | some p, some q => if (SeqAt.shaped p && SeqAt.shaped q) = true then .ok (.bl (PyData.eqv p q)) S else .bad
  | _, _ => .bad
def neD (x y : D) (S : Sto) : Out D := match toP S 40 x, toP S 40 y with
  | some p, some q => if (SeqAt.shaped p && SeqAt.shaped q) = true then .ok (.bl (!PyData.eqv p q)) S else .bad
  | _, _ => .bad
section
variable {X : Cx} {XQ : XW}
def OpX (X : Cx) (f : Value → Value → Sem Value) (o : D → D → Sto → Out D) : Prop :=
  ∀ (pins : List (Addr × Obj)) (s : Shared) (σ : L2.St) (ρ : Lc) (XQ : XW) (mp : List Addr) (H : Hp) (S : Sto) (x y : D) (v u : V) (vv uv : Value) (Q : VK), Inv X pins σ H s → RS X.K mp H S → Rep X.K mp H x v → Rep X.K mp H y u → RelV v vv → RelV u uv → Post X.K XQ σ ρ mp H (o x y S) Q →
    (∀ (e : XD) (S' : Sto), o x y S ≠ .exc e S') → wpAny (model X.prog X.w) X.A (f vv uv) (EP X pins σ Q) X.xe s
theorem pe_opX {a b : Expr} {op : CmpOp} {fa fb : Ev D} {o : D → D → Sto → Out D} {pos : Pos} (ho : OpX X (compareOp op) o) (hno : ∀ x y S e S', o x y S ≠ .exc e S') (ha : JE X XQ a fa) (hb : JE X XQ b fb) (hm : behindInMarks op b = false) : JE X XQ (.Compare a [op] [b] pos) (o2 o fa fb) := by
  intro pins s σ H Q I ⟨mp, ρ, S, G, p⟩
  refine wpAny_Compare1 (thn (ha pins s σ H _ I (bindP G p fun mp1 H1 x S1 v a1 G1 r1 p1 => (⟨mp1, ρ, S1, x, G1, r1, p1⟩ : ∃ mp1 ρ S1 x, Gd X.K mp1 H1 σ ρ S1 ∧ Rep X.K mp1 H1 x v ∧ Post X.K XQ σ ρ mp1 H1 ((fb ρ S1).bind fun y S2 => o x y S2) Q))) fun vv s1 ⟨v, H1, I1, rv, mp1, ρ1, S1, x, G1, r1, p1⟩ => ?_) hm
  refine thn (hb pins s1 σ H1 _ I1 (bindP G1 p1 fun mp2 H2 y S2 u a2 G2 r2 p2 => (⟨mp2, ρ1, S2, x, y, v, G2, Rep.aft a2 _ _ r1, r2, rfl, p2⟩ : ∃ mp2 ρ S2 x y v', Gd X.K mp2 H2 σ ρ S2 ∧ Rep X.K mp2 H2 x v' ∧ Rep X.K mp2 H2 y u ∧ v' = v ∧ Post X.K XQ σ ρ mp2 H2 (o x y S2) Q))) fun uv s2 ⟨u, H2, I2, ru, mp2, ρ2, S2, x2, y, v', G2, rx, ry, ev, p2⟩ => ?_
  subst ev
  exact ho pins s2 σ ρ2 XQ mp2 H2 S2 x2 y _ u vv uv Q I2 G2.rs rx ry rv ru p2 (hno _ _ _)
theorem pt_opX {a b : Expr} {op : CmpOp} {fa fb : Ev D} {o : D → D → Sto → Out D} {pos : Pos} (ho : OpX X (compareOp op) o) (hno : ∀ x y S e S', o x y S ≠ .exc e S') (ha : JE X XQ a fa) (hb : JE X XQ b fb) (hm : behindInMarks op b = false) : JT X XQ (.Compare a [op] [b] pos) (tb (o2 o fa fb)) := by
  intro pins s σ H Q I h
  obtain ⟨mp, ρ, S, G, p⟩ := tb_of h
  refine wpAny_isTrue_Compare1 (thn (ha pins s σ H _ I (bindP G p fun mp1 H1 x S1 v a1 G1 r1 p1 => (⟨mp1, ρ, S1, x, G1, r1, p1⟩ : ∃ mp1 ρ S1 x, Gd X.K mp1 H1 σ ρ S1 ∧ Rep X.K mp1 H1 x v ∧ Post X.K XQ σ ρ mp1 H1 ((fb ρ S1).bind fun y S2 => o x y S2) (fun x H1 => ∃ k, x = .bl k ∧ Q k H1)))) fun vv s1 ⟨v, H1, I1, rv, mp1, ρ1, S1, x, G1, r1, p1⟩ => ?_) hm
  refine thn (hb pins s1 σ H1 _ I1 (bindP G1 p1 fun mp2 H2 y S2 u a2 G2 r2 p2 => (⟨mp2, ρ1, S2, x, y, v, G2, Rep.aft a2 _ _ r1, r2, rfl, p2⟩ : ∃ mp2 ρ S2 x y v', Gd X.K mp2 H2 σ ρ S2 ∧ Rep X.K mp2 H2 x v' ∧ Rep X.K mp2 H2 y u ∧ v' = v ∧ Post X.K XQ σ ρ mp2 H2 (o x y S2) (fun x H1 => ∃ k, x = .bl k ∧ Q k H1)))) fun uv s2 ⟨u, H2, I2, ru, mp2, ρ2, S2, x2, y, v', G2, rx, ry, ev, p2⟩ => ?_
  subst ev
  refine thn (ho pins s2 σ ρ2 XQ mp2 H2 S2 x2 y _ u vv uv _ I2 G2.rs rx ry rv ru p2 (hno _ _ _)) fun c s3 ⟨z, H3, I3, r3, k, e, q3⟩ => ?_
  subst e
  cases r3
  exact wpAny_truthy_bool ⟨H3, I3, q3⟩
theorem eq_ok (hu : X.A.units + 64 < cLine) : OpX X (compareOp .Eq) eqD := by
  intro pins s σ ρ XQ mp H S x y v u vv uv Q I rs rx ry rv ru p _
  unfold eqD at p
  cases z1 : toP S 40 x with
  | none => simp only [z1] at p; exact p.elim
  | some a =>
    cases z2 : toP S 40 y with
    | none => simp only [z1, z2] at p; exact p.elim
    | some b =>
      simp only [z1, z2] at p
      by_cases hs : (SeqAt.shaped a && SeqAt.shaped b) = true
      · rw [if_pos hs] at p
        obtain ⟨as, ra⟩ := readsP I rs 40 x v vv a rx rv z1
        obtain ⟨bs, rb⟩ := readsP I rs 40 y u uv b ry ru z2
        rw [Bool.and_eq_true] at hs
        exact SeqAt.compareEq_shaped ra rb hs.1 hs.2 hu ⟨.bl _, H, I, rfl, PostG.ok (R := Rep X.K) p rs rfl⟩
      · rw [if_neg hs] at p; exact p.elim
theorem ne_ok (hu : X.A.units + 64 < cLine) : OpX X (compareOp .NotEq) neD := by
  intro pins s σ ρ XQ mp H S x y v u vv uv Q I rs rx ry rv ru p _
  unfold neD at p
  cases z1 : toP S 40 x with
  | none => simp only [z1] at p; exact p.elim
  | some a =>
    cases z2 : toP S 40 y with
    | none => simp only [z1, z2] at p; exact p.elim
    | some b =>
      simp only [z1, z2] at p
      by_cases hs : (SeqAt.shaped a && SeqAt.shaped b) = true
      · rw [if_pos hs] at p
        obtain ⟨as, ra⟩ := readsP I rs 40 x v vv a rx rv z1
        obtain ⟨bs, rb⟩ := readsP I rs 40 y u uv b ry ru z2
        rw [Bool.and_eq_true] at hs
        exact SeqAt.compareNe_shaped ra rb hs.1 hs.2 hu ⟨.bl _, H, I, rfl, PostG.ok (R := Rep X.K) p rs rfl⟩
      · rw [if_neg hs] at p; exact p.elim
theorem eq_no (x y : D) (S : Sto) (e : XD) (S' : Sto) : eqD x y S ≠ .exc e S' := by
  unfold eqD
  split
  · split <;> exact fun z => nomatch z
  · exact fun z => nomatch z
theorem ne_no (x y : D) (S : Sto) (e : XD) (S' : Sto) : neD x y S ≠ .exc e S' := by
  unfold neD
  split
  · split <;> exact fun z => nomatch z
  · exact fun z => nomatch z
theorem je_eq {a b : Expr} {fa fb : Ev D} {pos : Pos} (hu : X.A.units + 64 < cLine) (ha : JE X XQ a fa) (hb : JE X XQ b fb) : JE X XQ (.Compare a [.Eq] [b] pos) (o2 eqD fa fb) := pe_opX (eq_ok hu) eq_no ha hb (nomark _)
theorem jt_eq {a b : Expr} {fa fb : Ev D} {pos : Pos} (hu : X.A.units + 64 < cLine) (ha : JE X XQ a fa) (hb : JE X XQ b fb) : JT X XQ (.Compare a [.Eq] [b] pos) (tb (o2 eqD fa fb)) := pt_opX (eq_ok hu) eq_no ha hb (nomark _)
theorem jt_ne {a b : Expr} {fa fb : Ev D} {pos : Pos} (hu : X.A.units + 64 < cLine) (ha : JE X XQ a fa) (hb : JE X XQ b fb) : JT X XQ (.Compare a [.NotEq] [b] pos) (tb (o2 neD fa fb)) := pt_opX (ne_ok hu) ne_no ha hb (nomark _)
def i2 (C : Int → Int → Bool) (g : Int → Int → D) : D → D → Sto → Out D := fun x y S => match x, y with
  | .int i, .int j => if C i j = true then .ok (g i j) S else .bad
  | _, _ => .bad
theorem od_int {K : PySem.W.Frag} {C : Int → Int → Prop} {c : Int → Int → Bool} {g : Int → Int → V} {gd : Int → Int → D} (hc : ∀ i j, c i j = true → C i j) (hg : ∀ mp H i j, Rep K mp H (gd i j) (g i j)) : OpD K (rI C g) (i2 c gd) := by
  intro XQ σ ρ mp H S x y v u Q rs rx ry p
  cases x with
  | int i =>
    cases y with
    | int j =>
      have p : Post K XQ σ ρ mp H (if c i j = true then .ok (gd i j) S else .bad) Q := p
      by_cases h : c i j = true
      · rw [if_pos h] at p
        exact ⟨i, j, rx, ry, hc i j h, PostG.ok (R := Rep K) p rs (hg mp H i j)⟩
      · rw [if_neg h] at p; exact p.elim
    | _ => exact (show False from p).elim
  | _ => exact (show False from p).elim
theorem od_int0 {K : PySem.W.Frag} {g : Int → Int → V} {gd : Int → Int → D} (hg : ∀ mp H i j, Rep K mp H (gd i j) (g i j)) : OpD K (rI0 g) (i2 (fun _ _ => true) gd) := by
  intro XQ σ ρ mp H S x y v u Q rs rx ry p
  obtain ⟨i, j, h1, h2, _, h3⟩ := od_int (C := fun _ _ => True) (c := fun _ _ => true) (fun _ _ _ => trivial) hg XQ σ ρ mp H S x y v u Q rs rx ry p
  exact ⟨i, j, h1, h2, h3⟩
abbrev subD := i2 (fun _ _ => true) fun i j => .int (i - j)
abbrev modD := i2 (fun _ j => decide (0 < j)) fun i j => .int (i % j)
abbrev powD := i2 (fun i j => decide (0 ≤ j ∧ j ≤ 1000000 ∧ i.natAbs < 2 ^ 64)) fun i j => .int (i ^ j.toNat)
abbrev ltD := i2 (fun _ _ => true) fun i j => .bl (decide (i < j))
abbrev leD := i2 (fun _ _ => true) fun i j => .bl (decide (i ≤ j))
abbrev gtD := i2 (fun _ _ => true) fun i j => .bl (decide (j < i))
abbrev geD := i2 (fun _ _ => true) fun i j => .bl (decide (j ≤ i))
section
variable {a b : Expr} {fa fb : Ev D} {pos : Pos}
theorem je_sub (ha : JE X XQ a fa) (hb : JE X XQ b fb) : JE X XQ (.BinOp a .Sub b pos) (o2 subD fa fb) := je_op op_sub (od_int0 fun _ _ _ _ => rfl) ha hb
theorem je_mod (ha : JE X XQ a fa) (hb : JE X XQ b fb) : JE X XQ (.BinOp a .Mod b pos) (o2 modD fa fb) := je_op op_mod (od_int (fun _ _ h => of_decide_eq_true h) fun _ _ _ _ => rfl) ha hb
theorem je_pow (ha : JE X XQ a fa) (hb : JE X XQ b fb) : JE X XQ (.BinOp a .Pow b pos) (o2 powD fa fb) := je_op op_pow (od_int (fun i j h => (of_decide_eq_true h : 0 ≤ j ∧ j ≤ 1000000 ∧ i.natAbs < 2 ^ 64)) fun _ _ _ _ => rfl) ha hb
theorem je_lt (ha : JE X XQ a fa) (hb : JE X XQ b fb) : JE X XQ (.Compare a [.Lt] [b] pos) (o2 ltD fa fb) := je_cmp op_lt (od_int0 fun _ _ _ _ => rfl) ha hb (nomark _)
theorem je_le (ha : JE X XQ a fa) (hb : JE X XQ b fb) : JE X XQ (.Compare a [.LtE] [b] pos) (o2 leD fa fb) := je_cmp op_le (od_int0 fun _ _ _ _ => rfl) ha hb (nomark _)
theorem je_ge (ha : JE X XQ a fa) (hb : JE X XQ b fb) : JE X XQ (.Compare a [.GtE] [b] pos) (o2 geD fa fb) := je_cmp op_ge (od_int0 fun _ _ _ _ => rfl) ha hb (nomark _)
theorem jt_lt (ha : JE X XQ a fa) (hb : JE X XQ b fb) : JT X XQ (.Compare a [.Lt] [b] pos) (tb (o2 ltD fa fb)) := jt_cmp op_lt (od_int0 fun _ _ _ _ => rfl) ha hb (nomark _)
theorem jt_gt (ha : JE X XQ a fa) (hb : JE X XQ b fb) : JT X XQ (.Compare a [.Gt] [b] pos) (tb (o2 gtD fa fb)) := jt_cmp op_gt (od_int0 fun _ _ _ _ => rfl) ha hb (nomark _)
theorem jt_ge (ha : JE X XQ a fa) (hb : JE X XQ b fb) : JT X XQ (.Compare a [.GtE] [b] pos) (tb (o2 geD fa fb)) := jt_cmp op_ge (od_int0 fun _ _ _ _ => rfl) ha hb (nomark _)
end
def addD (x y : D) (S : Sto) : Out D := match x, y with
  | .int i, .int j => .ok (.int (i + j)) S
  | .str a, .str b => if a.length + b.length ≤ 1000000 then .ok (.str (a ++ b)) S else .bad
  | .lst i, .lst j => match S[i]?, S[j]? with
    | some c, some e => if (c.fz = false ∧ e.fz = false) ∧ c.xs.length + e.xs.length ≤ 1000000 then .ok (.lst S.length) (S ++ [⟨false, c.xs ++ e.xs⟩]) else .bad
    | _, _ => .bad
  | .tup a, .tup b => if a.length + b.length ≤ 1000000 then .ok (.tup (a ++ b)) S else .bad
  | _, _ => .bad
def rCatE (K : PySem.W.Frag) : R2 := fun x y H Q => ∃ a b ys, x = .ref a ∧ y = .ref b ∧ SqT K H a [] ∧ SqT K H b ys ∧ Q (.ref b) H
theorem op_catE : OpR X (binaryOp .Add) (rCatE X.K) := by
  intro pins s σ H x y v u Q I rx ry ⟨a, b, ys, e1, e2, ha, hb, q⟩
  subst e1 e2
  cases rx; cases ry
  obtain ⟨its, r1, p1, _⟩ := I.tuple ha
  obtain ⟨its2, r2, p2, _⟩ := I.tuple hb
  have ei := r1.nil_iff.mpr rfl
  subst ei
  obtain ⟨⟨cls, dd, data, sl⟩, ho, hc, n, hd⟩ := id p1
  obtain ⟨⟨cls2, dd2, data2, sl2⟩, ho2, hc2, n2, hd2⟩ := id p2
  simp only at hc hd hc2 hd2
  subst hc hd hc2 hd2
  exact concat_meets ⟨_, ho, rfl⟩ ⟨_, ho2, rfl⟩ noFill_tuple_add seq_tuple_add PySem.F.slot_tuple_add PySem.F.entry_tuple_add (PySem.F.args_tuple_add_2 _ _)
    (tuple_addW0 a b [].toArray its2.toArray n n2 dd dd2 sl sl2 (by rfl)) ⟨ho, ho2, ⟨.ref b, H, I, rfl, q⟩⟩
def rAddA (K : PySem.W.Frag) : R2 := fun x y H Q => rI0 (fun i j => .int (i + j)) x y H Q ∨ (∃ i j, x = .str i ∧ y = .str j ∧ i.length + j.length ≤ sizeLine ∧ Q (.str (i ++ j)) H) ∨ rCat x y H Q ∨ rCatT K x y H Q ∨ rCatE K x y H Q
theorem op_addA : OpR X (binaryOp .Add) (rAddA X.K) := op_add.or (op_add_str.or (op_cat.or (op_catT.or op_catE)))
theorem od_add {K : PySem.W.Frag} : OpD K (rAddA K) addD := by
  intro XQ σ ρ mp H S x y v u Q rs rx ry p
  unfold addD at p
  split at p
  · exact .inl ⟨_, _, rx, ry, PostG.ok (R := Rep K) p rs rfl⟩
  · rename_i a b
    by_cases h : a.length + b.length ≤ 1000000
    · rw [if_pos h] at p
      exact .inr (.inl ⟨_, _, rx, ry, line_le h, PostG.ok (R := Rep K) p rs rfl⟩)
    · rw [if_neg h] at p; exact p.elim
  · rename_i i j
    split at p
    · rename_i c e zc ze
      by_cases h : (c.fz = false ∧ e.fz = false) ∧ c.xs.length + e.xs.length ≤ 1000000
      · rw [if_pos h] at p
        obtain ⟨a1, xs, rfl, _, _, q1, f1⟩ := rs.items rx zc
        obtain ⟨a2, ys, rfl, _, _, q2, f2⟩ := rs.items ry ze
        refine .inr (.inr (.inl ⟨a1, a2, xs, ys, rfl, rfl, f1 h.1.1, f2 h.1.2, by rw [q1.len, q2.len]; exact line_le h.2, fun q hq => post_lst p rs (q1.append q2) hq⟩))
      · rw [if_neg h] at p; exact p.elim
    · exact p.elim
  · rename_i a b
    by_cases h : a.length + b.length ≤ 1000000
    · rw [if_pos h] at p
      obtain ⟨a1, xs, rfl, s1, q1⟩ := Rep.tup rx
      obtain ⟨a2, ys, rfl, s2, q2⟩ := Rep.tup ry
      have l1 := q1.len
      have l2 := q2.len
      by_cases he : xs = []
      · subst he
        have ea : a = [] := by cases a with | nil => rfl | cons _ _ => simp at l1
        subst ea
        exact .inr (.inr (.inr (.inr ⟨a1, a2, ys, rfl, rfl, s1, s2, PostG.ok (R := Rep K) p rs ry⟩)))
      · refine .inr (.inr (.inr (.inl ⟨a1, a2, xs, ys, rfl, rfl, s1, s2, he, by rw [l1, l2]; exact line_le h, fun z => ?_, fun _ q hq => post_tup p rs (q1.append q2) hq⟩)))
        subst z
        have eb : b = [] := by cases b with | nil => rfl | cons _ _ => simp at l2
        subst eb
        rw [List.append_nil] at p
        exact PostG.ok (R := Rep K) p rs rx
    · rw [if_neg h] at p; exact p.elim
  · exact p.elim
theorem je_add {a b : Expr} {fa fb : Ev D} {pos : Pos} (ha : JE X XQ a fa) (hb : JE X XQ b fb) : JE X XQ (.BinOp a .Add b pos) (o2 addD fa fb) := je_op op_addA od_add ha hb
def mulD (x y : D) (S : Sto) : Out D := match x, y with
  | .int i, .int j => if (-(2 ^ 64) < i ∧ i < 2 ^ 64) ∨ (-(2 ^ 64) < j ∧ j < 2 ^ 64) then .ok (.int (i * j)) S else .bad
  | .lst i, .int k => match S[i]? with
    | some c => if c.fz = false ∧ (-1000000 ≤ k ∧ k ≤ 1000000) ∧ c.xs.length * k.toNat ≤ 1000000 then .ok (.lst S.length) (S ++ [⟨false, (List.replicate k.toNat c.xs).flatten⟩]) else .bad
    | none => .bad
  | .tup l, .int k => if 0 < l.length ∧ (2 ≤ k ∧ k ≤ 1000000) ∧ l.length * k.toNat ≤ 1000000 then .ok (.tup (List.replicate k.toNat l).flatten) S else .bad
  | _, _ => .bad
def rMulA (K : PySem.W.Frag) : R2 := fun x y H Q => rI CMul (fun i j => .int (i * j)) x y H Q ∨ rRep x y H Q ∨ rRepT K x y H Q
theorem op_mulA : OpR X (binaryOp .Mult) (rMulA X.K) := op_mul.or (op_rep.or op_repT)
theorem RepL.flat {K : PySem.W.Frag} {mp : List Addr} {H : Hp} {l : List D} {vs : List V} (h : RepL K mp H l vs) : ∀ k : Nat, RepL K mp H (List.replicate k l).flatten (List.replicate k vs).flatten
  | 0 => RepL.nil
  | k + 1 => by
    rw [List.replicate_succ, List.replicate_succ, List.flatten_cons, List.flatten_cons]
    exact RepL.append h (RepL.flat h k)
theorem od_mul {K : PySem.W.Frag} : OpD K (rMulA K) mulD := by
  intro XQ σ ρ mp H S x y v u Q rs rx ry p
  unfold mulD at p
  split at p
  · rename_i i j
    by_cases h : (-(2 ^ 64) < i ∧ i < 2 ^ 64) ∨ (-(2 ^ 64) < j ∧ j < 2 ^ 64)
    · rw [if_pos h] at p
      exact .inl ⟨_, _, rx, ry, h, PostG.ok (R := Rep K) p rs rfl⟩
    · rw [if_neg h] at p; exact p.elim
  · rename_i i k
    split at p
    · rename_i c zc
      by_cases h : c.fz = false ∧ (-1000000 ≤ k ∧ k ≤ 1000000) ∧ c.xs.length * k.toNat ≤ 1000000
      · rw [if_pos h] at p
        obtain ⟨a1, xs, rfl, _, _, q1, f1⟩ := rs.items rx zc
        exact .inr (.inl ⟨a1, k, xs, rfl, ry, f1 h.1, by omega, by omega, by rw [q1.len]; exact line_le h.2.2, fun q hq => post_lst p rs (q1.flat _) hq⟩)
      · rw [if_neg h] at p; exact p.elim
    · exact p.elim
  · rename_i l k
    by_cases h : 0 < l.length ∧ (2 ≤ k ∧ k ≤ 1000000) ∧ l.length * k.toNat ≤ 1000000
    · rw [if_pos h] at p
      obtain ⟨a1, xs, rfl, s1, q1⟩ := Rep.tup rx
      have hl := q1.len
      exact .inr (.inr ⟨a1, k, xs, rfl, ry, s1, fun z => by rw [z] at hl; simp at hl; omega, h.2.1.1, h.2.1.2, by rw [q1.len]; exact line_le h.2.2, fun q hq => post_tup p rs (q1.flat _) hq⟩)
    · rw [if_neg h] at p; exact p.elim
  · exact p.elim
theorem je_mul {a b : Expr} {fa fb : Ev D} {pos : Pos} (ha : JE X XQ a fa) (hb : JE X XQ b fb) : JE X XQ (.BinOp a .Mult b pos) (o2 mulD fa fb) := je_op op_mulA od_mul ha hb
def negD (x : D) (S : Sto) : Out D := match x with
  | .int i => .ok (.int (-i)) S
  | _ => .bad
def getD (x y : D) (S : Sto) : Out D := match x, y with
  | .tup l, .int i => match atI l i with
    | some d => .ok d S
    | none => .bad
  | .lst k, .int i => match S[k]? with
    | some c => match atI c.xs i with
      | some d => .ok d S
      | none => .bad
    | none => .bad
  | .str z, .int i => if z.length ≤ 1000000 then (match atI z.cps.toList i with
    | some c => .ok (.str ⟨#[c]⟩) S
    | none => .bad) else .bad
  | _, _ => .bad
theorem RepL.atI {K : PySem.W.Frag} {mp : List Addr} {H : Hp} {l : List D} {vs : List V} {i : Int} {d : D} (h : RepL K mp H l vs) (e : L2.atI l i = some d) : ∃ v, L2.atI vs i = some v ∧ Rep K mp H d v := by
  unfold L2.atI at e ⊢
  rw [h.len]
  cases z : ixN l.length i with
  | none => rw [z] at e; cases e
  | some j =>
    rw [z] at e
    exact h.get e
theorem od_get {K : PySem.W.Frag} : OpD K (rIx K) getD := by
  intro XQ σ ρ mp H S x y v u Q rs rx ry p
  unfold getD at p
  split at p
  · rename_i l i
    split at p
    · rename_i d zd
      obtain ⟨a, xs, rfl, sq, q⟩ := Rep.tup rx
      obtain ⟨w, hw, rw'⟩ := q.atI zd
      exact .inr (.inl ⟨a, xs, i, w, rfl, ry, sq, hw, PostG.ok (R := Rep K) p rs rw'⟩)
    · exact p.elim
  · rename_i k i
    split at p
    · rename_i c zc
      split at p
      · rename_i d zd
        obtain ⟨a, xs, rfl, _, sq, q, _⟩ := rs.items rx zc
        obtain ⟨w, hw, rw'⟩ := q.atI zd
        exact .inl ⟨a, xs, i, w, rfl, ry, sq, hw, PostG.ok (R := Rep K) p rs rw'⟩
      · exact p.elim
    · exact p.elim
  · rename_i z i
    by_cases h : z.length ≤ 1000000
    · rw [if_pos h] at p
      split at p
      · rename_i c zc
        exact .inr (.inr ⟨z, i, c, rx, ry, line_le h, zc, PostG.ok (R := Rep K) p rs rfl⟩)
      · exact p.elim
    · rw [if_neg h] at p; exact p.elim
  · exact p.elim
theorem je_get {a b : Expr} {fa fb : Ev D} {pos : Pos} (ha : JE X XQ a fa) (hb : JE X XQ b fb) (hs : PlainIx b := by intro _ _; rfl) : JE X XQ (.Subscript a b pos) (o2 getD fa fb) := je_ix ix_seq od_get ha hb hs
def setD (x y z : D) (S : Sto) : Option Sto := match x, y with
  | .lst k, .int i => match S[k]? with
    | some c => match ixN c.xs.length i with
      | some j => if c.fz = false then some (S.set k ⟨false, c.xs.set j z⟩) else none
      | none => none
    | none => none
  | _, _ => none
theorem sd_set {K : PySem.W.Frag} : SetD rSetL K setD := by
  intro mp H S S' x y z v u w Q rs rx ry rz e k
  unfold setD at e
  split at e
  · rename_i kk i
    split at e
    · rename_i c zc
      split at e
      · rename_i j zj
        by_cases hf : c.fz = false
        · rw [if_pos hf] at e
          cases (Option.some.inj e)
          obtain ⟨a, xs, rfl, ha, sq, q, f⟩ := rs.items rx zc
          have hH := f hf
          obtain ⟨af, rs'⟩ := rs.setL ha zc hf hH (q.set j rz)
          exact ⟨a, xs, i, j, rfl, ry, hH, by rw [q.len]; exact zj, k _ af rs'⟩
        · rw [if_neg hf] at e; cases e
      · cases e
    · cases e
  · cases e
theorem js_setix {ob ix e : Expr} {f fo fi : Ev D} {pos p2 : Pos} (he : JE X XQ e f) (hob : JE X XQ ob fo) (hix : JE X XQ ix fi)
    (hs : swapsWithSole [.Subscript ob ix p2] e pos.line X.env = pure false := by rfl) (hw : swappedStores [.Subscript ob ix p2] e X.env = pure none := by rfl)
    (h1 : (assignEach [.Subscript ob ix p2] X.env).map (·.2) = [assign (.Subscript ob ix p2) X.env] := by rfl) (ha : ∀ v, assign (.Subscript ob ix p2) X.env v = (do
      let ov ← holding [v] (eval ob X.env)
      let iv ← holding [v, ov] (eval ix X.env)
      standAt p2
      holding [v, ov, iv] (setItem ov iv v)
      release [v, ov, iv] []) := by intro _; rfl) : JS X XQ (.Assign [.Subscript ob ix p2] e pos) (ss f fo fi setD) := js_sub set_list sd_set he hob hix hs hw h1 ha
end
end DL
set_option Elab.async false
set_option linter.all false
set_option maxRecDepth 100000
namespace DL
open PySem PySem.Spec PyProof.Rows L2
section
variable {X : Cx} {XQ : XW}
def BlD (K : PySem.W.Frag) (r : List V → Hp → VK → Prop) (o : List D → Sto → Out D) : Prop :=
  ∀ (XQ : XW) (σ : L2.St) (ρ : Lc) (mp : List Addr) (H : Hp) (S : Sto) (xs : List D) (vs : List V) (Q : VK), RS K mp H S → RepL K mp H xs vs → Post K XQ σ ρ mp H (o xs S) Q → r vs H Q
def b1 (o : List D → Sto → Out D) (f : Ev (List D)) : Ev D := fun ρ S => (f ρ S).bind o
theorem cbR {r : List V → Hp → VK → Prop} {o : List D → Sto → Out D} {f : Ev (List D)} (hd : BlD X.K r o) (σ : L2.St) (H : Hp) (Q : VK) (h : rdE X.K XQ (b1 o f) σ H Q) : tCB r (rdA X.K XQ f) σ H Q := by
  obtain ⟨mp, ρ, S, G, p⟩ := h
  exact bindP G p fun mp1 H1 xs S1 vs a1 G1 r1 p1 => hd XQ σ ρ mp1 H1 S1 xs vs Q G1.rs r1 p1
theorem je_blt {id : String} {x : Str} {p pos : Pos} {e : Expr} {es : List Expr} {r : List V → Hp → VK → Prop} {o : List D → Sto → Out D} {f : Ev (List D)} (hc : CallR X (.builtin id) r) (hd : BlD X.K r o) (hg : Gl X x) (hm : X.mg x = none) (hv : bootBuiltins x = some (.builtin id)) (ha : JA X XQ (e :: es) f) (hn : x ≠ "__name__" := by decide) (hdb : (x == ("__debug__" : Str)) = false := by decide)
    (he : starEach (e :: es) X.env = (false, eval e X.env) :: starEach es X.env := by rfl) (hpl : (backTo pos (starEach es X.env)).any (·.1) = false := by rfl) : JE X XQ (.Call (.Name x p) (e :: es) [] pos) (b1 o f) :=
  PE.mono (pe_callB hc hg hm hv ha hn hdb he hpl) (cbR hd)
theorem je_ty {T : String} {x : Str} {p pos : Pos} {e : Expr} {es : List Expr} {r : List V → Hp → VK → Prop} {o : List D → Sto → Out D} {f : Ev (List D)} (hc : CallR X (.type T) r) (hd : BlD X.K r o) (hg : Gl X x) (hm : X.mg x = none) (hv : bootBuiltins x = some (.type T)) (ha : JA X XQ (e :: es) f) (hn : x ≠ "__name__" := by decide) (hdb : (x == ("__debug__" : Str)) = false := by decide)
    (he : starEach (e :: es) X.env = (false, eval e X.env) :: starEach es X.env := by rfl) (hpl : (backTo pos (starEach es X.env)).any (·.1) = false := by rfl) : JE X XQ (.Call (.Name x p) (e :: es) [] pos) (b1 o f) :=
  PE.mono (pe_callTy hc hg hm hv ha hn hdb he hpl) (cbR hd)
def lenD (xs : List D) (S : Sto) : Out D := match xs with
  | [.str z] => if z.length ≤ 1000000 then .ok (.int z.length) S else .bad
  | [.tup l] => .ok (.int l.length) S
  | [.lst i] => match S[i]? with
    | some c => .ok (.int c.xs.length) S
    | none => .bad
  | _ => .bad
theorem bd_len {K : PySem.W.Frag} : BlD K (fun xs H Q => ∃ x n, xs = [x] ∧ LenV K x H n ∧ Q (.int n) H) lenD := by
  intro XQ σ ρ mp H S xs vs Q rs r p
  unfold lenD at p
  split at p
  · rename_i z
    obtain ⟨v, rfl, h⟩ := RepL.one r
    cases (show v = .str z from h)
    by_cases hz : z.length ≤ 1000000
    · rw [if_pos hz] at p
      exact ⟨_, _, rfl, ⟨line_le hz, rfl⟩, PostG.ok (R := Rep K) p rs rfl⟩
    · rw [if_neg hz] at p; exact p.elim
  · rename_i l
    obtain ⟨v, rfl, h⟩ := RepL.one r
    obtain ⟨a, xs, rfl, sq, q⟩ := Rep.tup h
    exact ⟨_, xs.length, rfl, .inr ⟨xs, sq, rfl⟩, PostG.ok (R := Rep K) p rs (by rw [q.len]; rfl)⟩
  · rename_i i
    obtain ⟨v, rfl, h⟩ := RepL.one r
    split at p
    · rename_i c zc
      obtain ⟨a, xs, rfl, _, sq, q, _⟩ := rs.items h zc
      exact ⟨_, xs.length, rfl, .inl ⟨xs, sq, rfl⟩, PostG.ok (R := Rep K) p rs (by rw [q.len]; rfl)⟩
    · exact p.elim
  · exact p.elim
theorem je_len {p pos : Pos} {e : Expr} {f : Ev (List D)} (hg : Gl X "len") (hm : X.mg "len" = none) (ha : JA X XQ [e] f) (he : starEach [e] X.env = (false, eval e X.env) :: starEach [] X.env := by rfl) : JE X XQ (.Call (.Name "len" p) [e] [] pos) (b1 lenD f) := je_blt call_len bd_len hg hm PySem.boot_len ha (he := he)
def listD (xs : List D) (S : Sto) : Out D := match xs with
  | [.tup l] => .ok (.lst S.length) (S ++ [⟨false, l⟩])
  | [.lst i] => match S[i]? with
    | some c => .ok (.lst S.length) (S ++ [⟨false, c.xs⟩])
    | none => .bad
  | _ => .bad
theorem bd_list {K : PySem.W.Frag} : BlD K (fun xs H Q => ∃ p ys, xs = [.ref p] ∧ (SqL K H p ys ∨ SqT K H p ys) ∧ ∀ l, H l = none → Q (.ref l) (upd H l (.lst ys))) listD := by
  intro XQ σ ρ mp H S xs vs Q rs r p
  unfold listD at p
  split at p
  · obtain ⟨v, rfl, h⟩ := RepL.one r
    obtain ⟨a, xs, rfl, sq, q⟩ := Rep.tup h
    exact ⟨a, xs, rfl, .inr sq, fun l hl => post_lst p rs q hl⟩
  · obtain ⟨v, rfl, h⟩ := RepL.one r
    split at p
    · rename_i c zc
      obtain ⟨a, xs, rfl, _, sq, q, _⟩ := rs.items h zc
      exact ⟨a, xs, rfl, .inl sq, fun l hl => post_lst p rs q hl⟩
    · exact p.elim
  · exact p.elim
def tupD (xs : List D) (S : Sto) : Out D := match xs with
  | [.tup l] => .ok (.tup l) S
  | [.lst i] => match S[i]? with
    | some c => .ok (.tup c.xs) S
    | none => .bad
  | _ => .bad
theorem bd_tuple {K : PySem.W.Frag} : BlD K (fun xs H Q => ∃ p ys, xs = [.ref p] ∧ ((SqL K H p ys ∧ ∀ l, H l = none → Q (.ref l) (upd H l (.tup ys))) ∨ (SqT K H p ys ∧ Q (.ref p) H))) tupD := by
  intro XQ σ ρ mp H S xs vs Q rs r p
  unfold tupD at p
  split at p
  · obtain ⟨v, rfl, h⟩ := RepL.one r
    obtain ⟨a, xs, rfl, sq, q⟩ := Rep.tup h
    exact ⟨a, xs, rfl, .inr ⟨sq, PostG.ok (R := Rep K) p rs h⟩⟩
  · obtain ⟨v, rfl, h⟩ := RepL.one r
    split at p
    · rename_i c zc
      obtain ⟨a, xs, rfl, _, sq, q, _⟩ := rs.items h zc
      exact ⟨a, xs, rfl, .inl ⟨sq, fun l hl => post_tup p rs q hl⟩⟩
    · exact p.elim
  · exact p.elim
theorem je_list {p pos : Pos} {e : Expr} {f : Ev (List D)} (hg : Gl X "list") (hm : X.mg "list" = none) (ha : JA X XQ [e] f) (he : starEach [e] X.env = (false, eval e X.env) :: starEach [] X.env := by rfl) : JE X XQ (.Call (.Name "list" p) [e] [] pos) (b1 listD f) := je_ty call_list_of bd_list hg hm (by rfl) ha (he := he)
theorem je_tuple {p pos : Pos} {e : Expr} {f : Ev (List D)} (hg : Gl X "tuple") (hm : X.mg "tuple" = none) (ha : JA X XQ [e] f) (he : starEach [e] X.env = (false, eval e X.env) :: starEach [] X.env := by rfl) : JE X XQ (.Call (.Name "tuple" p) [e] [] pos) (b1 tupD f) := je_ty call_tuple_of bd_tuple hg hm (by rfl) ha (he := he)
def minD (xs : List D) (S : Sto) : Out D := match xs with
  | [.int i, .int j] => .ok (.int (if j < i then j else i)) S
  | _ => .bad
theorem bd_min {K : PySem.W.Frag} : BlD K (fun xs H Q => ∃ i j, xs = [.int i, .int j] ∧ Q (.int (if j < i then j else i)) H) minD := by
  intro XQ σ ρ mp H S xs vs Q rs r p
  unfold minD at p
  split at p
  · rename_i i j
    obtain ⟨v, w, rfl, h1, h2⟩ := RepL.two r
    cases (show v = .int i from h1); cases (show w = .int j from h2)
    exact ⟨i, j, rfl, PostG.ok (R := Rep K) p rs rfl⟩
  · exact p.elim
theorem je_min {p pos : Pos} {e e' : Expr} {f : Ev (List D)} (hc : X.calm = true) (hg : Gl X "min") (hm : X.mg "min" = none) (ha : JA X XQ [e, e'] f) (he : starEach [e, e'] X.env = (false, eval e X.env) :: starEach [e'] X.env := by rfl) (hpl : (backTo pos (starEach [e'] X.env)).any (·.1) = false := by rfl) : JE X XQ (.Call (.Name "min" p) [e, e'] [] pos) (b1 minD f) := je_blt (call_min2 hc) bd_min hg hm (by rfl) ha (he := he) (hpl := hpl)
def intD (xs : List D) (S : Sto) : Out D := match xs with
  | [.int i] => .ok (.int i) S
  | [.bl b] => .ok (.int (if b then 1 else 0)) S
  | _ => .bad
theorem bd_int {K : PySem.W.Frag} : BlD K (fun xs H Q => (∃ i, xs = [.int i] ∧ Q (.int i) H) ∨ ∃ k, xs = [.bl k] ∧ Q (.int (if k then 1 else 0)) H) intD := by
  intro XQ σ ρ mp H S xs vs Q rs r p
  unfold intD at p
  split at p
  · rename_i i
    obtain ⟨v, rfl, h⟩ := RepL.one r
    cases (show v = .int i from h)
    exact .inl ⟨i, rfl, PostG.ok (R := Rep K) p rs rfl⟩
  · rename_i b
    obtain ⟨v, rfl, h⟩ := RepL.one r
    cases (show v = .bl b from h)
    exact .inr ⟨b, rfl, PostG.ok (R := Rep K) p rs rfl⟩
  · exact p.elim
theorem je_intc {p pos : Pos} {e : Expr} {f : Ev (List D)} (hg : Gl X "int") (hm : X.mg "int" = none) (ha : JA X XQ [e] f) (he : starEach [e] X.env = (false, eval e X.env) :: starEach [] X.env := by rfl) : JE X XQ (.Call (.Name "int" p) [e] [] pos) (b1 intD f) := je_ty call_int1 bd_int hg hm (by rfl) ha (he := he)
section
variable {a b : Expr} {fa fb : Ev D} {pos : Pos}
end
def cutD (xs : List D) (lo hi : Option Int) : List D := (xs.drop (HT.sIx xs.length 0 lo)).take (HT.sIx xs.length xs.length hi - HT.sIx xs.length 0 lo)
theorem RepL.cut {K : PySem.W.Frag} {mp : List Addr} {H : Hp} {l : List D} {vs : List V} (h : RepL K mp H l vs) (lo hi : Option Int) : RepL K mp H (cutD l lo hi) (cutV vs lo hi) := by
  unfold cutD cutV
  rw [h.len]
  exact (h.drop _).take _
def slD (x : D) (lo hi : Option Int) (S : Sto) : Out D := match x with
  | .tup l => if HT.sIx l.length 0 lo = 0 ∧ HT.sIx l.length l.length hi = l.length then .bad else .ok (.tup (cutD l lo hi)) S
  | .lst i => match S[i]? with
    | some c => .ok (.lst S.length) (S ++ [⟨false, cutD c.xs lo hi⟩])
    | none => .bad
  | _ => .bad
def sl (fe : Ev D) (fl fh : Ev (Option Int)) : Ev D := fun ρ S => (fe ρ S).bind fun x S1 => (fl ρ S1).bind fun l S2 => (fh ρ S2).bind fun u S3 => slD x l u S3
def onone : Ev (Option Int) := fun _ S => .ok none S
def osome (f : Ev D) : Ev (Option Int) := fun ρ S => (f ρ S).bind fun x S1 => match x with
  | .int i => .ok (some i) S1
  | _ => .bad
theorem jo_none : JO X XQ none onone := PO.mono po_none fun σ H Q ⟨mp, ρ, S, G, p⟩ => PostG.ok (R := kO) (show PostG X.K kO XQ σ ρ mp H (.ok none S) Q from p) G.rs rfl
theorem jo_some {e : Expr} {f : Ev D} (h : JE X XQ e f) : JO X XQ (some e) (osome f) := PO.mono (po_some h) fun σ H Q ⟨mp, ρ, S, G, p⟩ => bindP G p fun mp1 H1 x S1 v a1 G1 r1 p1 => by
  cases x with
  | int i => exact ⟨i, r1, PostG.ok (R := kO) p1 G1.rs rfl⟩
  | _ => exact (show False from p1).elim
def MeD (K : PySem.W.Frag) (r : V → List V → Hp → VK → Prop) (o : D → List D → Sto → Out D) : Prop :=
  ∀ (XQ : XW) (σ : L2.St) (ρ : Lc) (mp : List Addr) (H : Hp) (S : Sto) (x : D) (xs : List D) (v : V) (vs : List V) (Q : VK), RS K mp H S → Rep K mp H x v → RepL K mp H xs vs → Post K XQ σ ρ mp H (o x xs S) Q → r v vs H Q
def isLst (x : D) (S : Sto) : Bool := match x with
  | .lst i => match S[i]? with
    | some _ => true
    | none => false
  | _ => false
def mt (o : D → List D → Sto → Out D) (fo : Ev D) (f : Ev (List D)) : Ev D := fun ρ S => (fo ρ S).bind fun x S1 => if isLst x S1 = true then (f ρ S1).bind fun xs S2 => o x xs S2 else .bad
theorem je_meth {id : String} {name : Str} {o e : Expr} {es : List Expr} {apos cpos : Pos} {r : V → List V → Hp → VK → Prop} {od : D → List D → Sto → Out D} {fo : Ev D} {f : Ev (List D)} (slot : Slot "list" name id) (hty : typeOf (.builtin id) = pure (.type "method_descriptor")) (hm : MtM X id r) (hd : MeD X.K r od) (ho : JE X XQ o fo) (ha : JA X XQ (e :: es) f)
    (hbase : attributeBase o name X.env (eval o X.env) = eval o X.env := by rfl)
    (hfew : ((backTo cpos (starEach (e :: es) X.env)).all (fun x => !x.1) && (backToKw cpos (keywordEach [] X.env)).all (fun x => x.1.isSome)
      && decide ((e :: es).length + ([] : List Keyword).length + (if ([] : List Keyword).isEmpty then 0 else 1) < 30)) = true := by rfl)
    (hline : (apos.endLine == cpos.line) = true := by rfl) (hs : starEach (e :: es) X.env = (false, eval e X.env) :: starEach es X.env := by rfl) (hplain : (backTo cpos (starEach es X.env)).any (·.1) = false := by rfl) :
    JE X XQ (.Call (.Attribute o name apos) (e :: es) [] cpos) (mt od fo f) := by
  refine PE.mono (pe_bm PySem.F.plainAttrs_list slot hty hm ho ha hbase hfew hline hs hplain) fun σ H Q ⟨mp, ρ, S, G, p⟩ => ?_
  refine bindP G p fun mp1 H1 x S1 v a1 G1 r1 p1 => ?_
  by_cases hl : isLst x S1 = true
  · rw [if_pos hl] at p1
    have ty : tyV X.K "list" v H1 := by
      cases x with
      | lst i =>
        cases zc : S1[i]? with
        | none => simp [isLst, zc] at hl
        | some c =>
          obtain ⟨a, xs, rfl, _, sq, _⟩ := G1.rs.items r1 zc
          exact .inl ⟨rfl, xs, sq⟩
      | _ => simp [isLst] at hl
    exact ⟨ty, bindP G1 p1 fun mp2 H2 xs S2 vs a2 G2 r2 p2 => hd XQ σ ρ mp2 H2 S2 x xs v vs Q G2.rs (Rep.aft a2 _ _ r1) r2 p2⟩
  · rw [if_neg hl] at p1; exact p1.elim
def appD (x : D) (xs : List D) (S : Sto) : Out D := match x, xs with
  | .lst i, [d] => match S[i]? with
    | some c => if c.fz = false ∧ c.xs.length < 1000000 then .ok .non (S.set i ⟨false, c.xs ++ [d]⟩) else .bad
    | none => .bad
  | _, _ => .bad
theorem md_app {K : PySem.W.Frag} : MeD K rAppend appD := by
  intro XQ σ ρ mp H S x xs v vs Q rs rx r p
  unfold appD at p
  split at p
  · rename_i i d
    split at p
    · rename_i c zc
      by_cases hc : c.fz = false ∧ c.xs.length < 1000000
      · rw [if_pos hc] at p
        obtain ⟨w, rfl, hw⟩ := RepL.one r
        obtain ⟨a, ys, rfl, ha, sq, q, f⟩ := rs.items rx zc
        have hH := f hc.1
        obtain ⟨af, rs'⟩ := rs.setL ha zc hc.1 hH (RepL.append q (RepL.cons hw RepL.nil))
        exact ⟨a, ys, w, rfl, rfl, hH, by rw [q.len]; exact Nat.lt_of_lt_of_le hc.2 (by decide), p mp _ _ af rs' rfl⟩
      · rw [if_neg hc] at p; exact p.elim
    · exact p.elim
  · exact p.elim
theorem je_append {o e : Expr} {apos cpos : Pos} {fo : Ev D} {f : Ev (List D)} (ho : JE X XQ o fo) (ha : JA X XQ [e] f) (hbase : attributeBase o "append" X.env (eval o X.env) = eval o X.env := by rfl)
    (hfew : ((backTo cpos (starEach [e] X.env)).all (fun x => !x.1) && (backToKw cpos (keywordEach [] X.env)).all (fun x => x.1.isSome)
      && decide ([e].length + ([] : List Keyword).length + (if ([] : List Keyword).isEmpty then 0 else 1) < 30)) = true := by rfl)
    (hline : (apos.endLine == cpos.line) = true := by rfl) (hs : starEach [e] X.env = (false, eval e X.env) :: starEach [] X.env := by rfl) :
    JE X XQ (.Call (.Attribute o "append" apos) [e] [] cpos) (mt appD fo f) := je_meth PySem.F.slot_list_append PySem.F.type_list_append mt_append md_app ho ha hbase hfew hline hs rfl
end
end DL
set_option Elab.async false
set_option linter.all false
set_option maxRecDepth 100000
namespace DL
open PySem PySem.Spec PyProof.Rows L2
section
variable {X : Cx} {XQ : XW}
theorem ud_neg {K : PySem.W.Frag} : UnD K (rU fun i => .int (-i)) negD := by
  intro XQ σ ρ mp H S x v Q rs rx p
  cases x with
  | int i => exact ⟨i, rx, PostG.ok (R := Rep K) (show Post K XQ σ ρ mp H (.ok (.int (-i)) S) Q from p) rs rfl⟩
  | _ => exact (show False from p).elim
theorem je_neg {a : Expr} {fa : Ev D} {pos : Pos} (ha : JE X XQ a fa) : JE X XQ (.UnaryOp .USub a pos) (o1 negD fa) := je_un un_neg ud_neg ha
def ch (o o' : D → D → Sto → Out D) (fa fb fc : Ev D) : Ev D := fun ρ S => (fa ρ S).bind fun x S1 => (fb ρ S1).bind fun y S2 => (o x y S2).bind fun z S3 => match z with
  | .bl k => if k = true then (fc ρ S3).bind fun w S4 => o' y w S4 else .ok (.bl false) S3
  | _ => .bad
def notbD (x y : D) (S : Sto) : Out D := match x, y with
  | .bl a, .bl b => .ok (.bl (!(a == b))) S
  | _, _ => .bad
def rNotB : R2 := fun x y H Q => ∃ a b, x = .bl a ∧ y = .bl b ∧ Q (.bl (!(a == b))) H
theorem op_notB : OpR X (compareOp .IsNot) rNotB := by
  intro pins s σ H x y v u Q I rx ry ⟨a, b, e1, e2, q⟩
  subst e1 e2
  cases rx; cases ry
  first
    | exact PyProof.Rows.isnot_bool ⟨.bl (!(a == b)), H, I, rfl, q⟩
    | (cases a <;> cases b <;> first | exact wpAny_isNot_other (by rfl) (by intro x; cases x) ⟨.bl true, H, I, rfl, q⟩ | exact PyProof.Rows.isnot_self (by rfl) ⟨.bl false, H, I, rfl, q⟩ | exact PySem.wpAny_isNot_self (by rfl) ⟨.bl false, H, I, rfl, q⟩ | exact PySem.wpAny_isNot_plain (by rfl) ⟨.bl _, H, I, rfl, q⟩)
theorem od_notb {K : PySem.W.Frag} : OpD K rNotB notbD := by
  intro XQ σ ρ mp H S x y v u Q rs rx ry p
  cases x with
  | bl a => cases y with
    | bl b => exact ⟨a, b, rx, ry, PostG.ok (R := Rep K) (show Post K XQ σ ρ mp H (.ok (.bl (!(a == b))) S) Q from p) rs rfl⟩
    | _ => exact (show False from p).elim
  | _ => cases y <;> exact (show False from p).elim
section
variable {a b : Expr} {fa fb : Ev D} {pos : Pos}
theorem jt_notb (ha : JE X XQ a fa) (hb : JE X XQ b fb) : JT X XQ (.Compare a [.IsNot] [b] pos) (tb (o2 notbD fa fb)) := jt_cmp op_notB od_notb ha hb (nomark _)
end
end
end DL
set_option Elab.async false
set_option linter.all false
set_option maxRecDepth 100000
namespace DL
open PySem PySem.Spec PyProof.Rows L2
def tyN : D → String
  | .non => "NoneType"
  | .bl _ => "bool"
  | .int _ => "int"
  | .str _ => "str"
  | .tup _ => "tuple"
  | .lst _ => "list"
def isT (T t : String) : Bool := t == T || (T == "int" && t == "bool")
def isD (T : String) (x : D) (S : Sto) : Out D := .ok (.bl (isT T (tyN x))) S
def Kit (K : PySem.W.Frag) (T : String) : Prop := ∀ t ∈ ["NoneType", "bool", "int", "str", "tuple", "list"], PySem.W.kitOne K (.type t) (.type T) = some (isT T t)
theorem kit_int {K : PySem.W.Frag} : Kit K "int" := by intro t h; simp only [List.mem_cons, List.mem_nil_iff, or_false] at h; rcases h with rfl | rfl | rfl | rfl | rfl | rfl <;> first | rfl | decide +kernel | (with_unfolding_all rfl)
theorem kit_bool {K : PySem.W.Frag} : Kit K "bool" := by intro t h; simp only [List.mem_cons, List.mem_nil_iff, or_false] at h; rcases h with rfl | rfl | rfl | rfl | rfl | rfl <;> first | rfl | decide +kernel | (with_unfolding_all rfl)
theorem kit_tuple {K : PySem.W.Frag} : Kit K "tuple" := by intro t h; simp only [List.mem_cons, List.mem_nil_iff, or_false] at h; rcases h with rfl | rfl | rfl | rfl | rfl | rfl <;> first | rfl | decide +kernel | (with_unfolding_all rfl)
section
variable {X : Cx} {XQ : XW}
def rIsi (K : PySem.W.Frag) (T : String) : List V → Hp → VK → Prop := fun vs H Q => ∃ x t, vs = [x, .ty T] ∧ (match x with
  | .non => t = "NoneType" | .bl _ => t = "bool" | .int _ => t = "int" | .str _ => t = "str"
  | .ref a => (t = "tuple" ∧ ∃ xs, SqT K H a xs) ∨ (t = "list" ∧ ∃ xs, SqL K H a xs)
  | _ => False) ∧ Q (.bl (isT T t)) H
theorem call_isi {T : String} (k : Kit X.K T) : CallR X (.builtin "isinstance") (rIsi X.K T) := by
  intro pins s σ H xs us Q I r ⟨x, t, e, h, q⟩
  subst e
  obtain ⟨u, w, rfl, ru, rw'⟩ := Vals.two r
  cases (show w = Value.type T from rw')
  have fin : ∀ tk, EP X pins σ Q (.bool (isT T t)) { s with toks := tk } := fun tk => ⟨.bl _, H, I.tok tk, rfl, q⟩
  cases x with
  | non => cases (show u = Value.none from ru); cases (show t = "NoneType" from h); exact PySem.W.kia_one PySem.W.kitx_none I.kIn True.intro (k _ (by decide)) (fun z => nomatch z) fin
  | bl y => cases (show u = Value.bool y from ru); cases (show t = "bool" from h); exact PySem.W.kia_one PySem.W.kitx_bool I.kIn True.intro (k _ (by decide)) (fun z => nomatch z) fin
  | int i => obtain ⟨tk, e⟩ := (show ∃ t, u = Value.int i t from ru); cases e; cases (show t = "int" from h); exact PySem.W.kia_one PySem.W.kitx_int I.kIn True.intro (k _ (by decide)) (fun z => nomatch z) fin
  | str y => obtain ⟨tk, e⟩ := (show ∃ t, u = Value.str y t from ru); cases e; cases (show t = "str" from h); exact PySem.W.kia_one PySem.W.kitx_str I.kIn True.intro (k _ (by decide)) (fun z => nomatch z) fin
  | ref a =>
    cases (show u = Value.ref a from ru)
    rcases h with ⟨rfl, xs, sq⟩ | ⟨rfl, xs, sq⟩
    · obtain ⟨its, _, ⟨o, h1, h2, _⟩, _⟩ := I.tuple sq
      exact PySem.W.kia_one PySem.W.kitx_tuple I.kIn ⟨o, h1, h2⟩ (k _ (by decide)) (fun z => nomatch z) fin
    · obtain ⟨its, _, ⟨o, n, h1, h2, _⟩, _⟩ := I.list sq
      exact PySem.W.kia_one PySem.W.kitx_list I.kIn ⟨o, h1, h2⟩ (k _ (by decide)) (fun z => nomatch z) fin
  | _ => exact h.elim
theorem je_isi {T : String} {x : Str} {e : Expr} {f : Ev D} {p p2 pos : Pos} (k : Kit X.K T) (hv : bootBuiltins x = some (.type T)) (hnx : x ≠ "__name__") (hdx : (x == ("__debug__" : Str)) = false) (hg : Gl X "isinstance") (hm : X.mg "isinstance" = none) (hgt : Gl X x) (hmt : X.mg x = none) (he : JE X XQ e f)
    (hs : starEach [e, .Name x p2] X.env = (false, eval e X.env) :: starEach [.Name x p2] X.env) (hpl : (backTo pos (starEach [.Name x p2] X.env)).any (·.1) = false) (hs2 : starEach [.Name x p2] X.env = (false, eval (.Name x p2) X.env) :: starEach [] X.env) :
    JE X XQ (.Call (.Name "isinstance" p) [e, .Name x p2] [] pos) (o1 (isD T) f) := by
  refine PE.mono (pe_callB (call_isi k) hg hm (by rfl) (pa_cons he (pa_cons (pe_bltn hgt hmt hv (v := .ty T) rfl hnx hdx) pa_nil hs2) hs) (by decide) (by decide) hs hpl) fun σ H Q ⟨mp, ρ, S, G, q⟩ => ?_
  refine bindP G q fun mp1 H1 d S1 v a1 G1 r1 p1 => ?_
  refine ⟨v, tyN d, rfl, ?_, PostG.ok (R := Rep X.K) (show Post X.K XQ σ ρ mp1 H1 (.ok (.bl (isT T (tyN d))) S1) Q from p1) G1.rs rfl⟩
  cases d with
  | non => cases (show v = .non from r1); exact rfl
  | bl b => cases (show v = .bl b from r1); exact rfl
  | int b => cases (show v = .int b from r1); exact rfl
  | str b => cases (show v = .str b from r1); exact rfl
  | tup l => obtain ⟨a, xs, rfl, sq, _⟩ := Rep.tup r1; exact .inl ⟨rfl, xs, sq⟩
  | lst i =>
    obtain ⟨a, rfl, ha⟩ := (show ∃ a, v = .ref a ∧ mp1[i]? = some a from r1)
    have hl : i < S1.length := by rw [← G1.rs.len]; exact (List.getElem?_eq_some_iff.mp ha).1
    obtain ⟨a2, xs, e2, _, sq, _⟩ := G1.rs.items r1 (List.getElem?_eq_getElem hl)
    cases e2
    exact .inr ⟨rfl, xs, sq⟩
end
end DL
set_option Elab.async false
set_option linter.all false
set_option maxRecDepth 100000
namespace DL
open PySem PySem.Spec PyProof.Rows L2
section
variable {X : Cx} {XQ : XW}
def blsOf : List D → Option (List Bool)
  | [] => some []
  | .bl b :: l => match blsOf l with
    | some r => some (b :: r)
    | none => none
  | _ :: _ => none
def allD (xs : List D) (S : Sto) : Out D := match xs with
  | [.lst i] => match S[i]? with
    | some c => match blsOf c.xs with
      | some bs => .ok (.bl (bs.all id)) S
      | none => .bad
    | none => .bad
  | _ => .bad
theorem bls_rep {K : PySem.W.Frag} {mp : List Addr} {H : Hp} : ∀ {l : List D} {vs : List V} {bs : List Bool}, RepL K mp H l vs → blsOf l = some bs → vs = bs.map V.bl
  | [], vs, bs, h, e => by cases (show vs = [] from h); cases (Option.some.inj e); rfl
  | .bl b :: l, vs, bs, h, e => by
    obtain ⟨v, r, rfl, h1, h2⟩ := (show ∃ v r, vs = v :: r ∧ Rep K mp H (.bl b) v ∧ RepL K mp H l r from h)
    cases (show v = .bl b from h1)
    cases z : blsOf l with
    | none => simp [blsOf, z] at e
    | some q =>
      simp only [blsOf, z] at e
      cases (Option.some.inj e)
      rw [bls_rep h2 z]
      rfl
  | .non :: l, vs, bs, h, e => by cases e
  | .int _ :: l, vs, bs, h, e => by cases e
  | .str _ :: l, vs, bs, h, e => by cases e
  | .tup _ :: l, vs, bs, h, e => by cases e
  | .lst _ :: l, vs, bs, h, e => by cases e
theorem vals_bls : ∀ {bs : List Bool} {us : List Value}, Vals (bs.map V.bl) us → us = bs.map Value.bool
  | [], us, h => by cases h; rfl
  | b :: r, us, h => by
    cases h with
    | cons h1 h2 =>
      cases (show _ = Value.bool b from h1)
      rw [vals_bls h2]
      rfl
theorem all_range (bs : List Bool) : ((List.range bs.length).all fun i => bs.getD i true) = bs.all id := by
  rw [Bool.eq_iff_iff, List.all_eq_true, List.all_eq_true]
  constructor
  · intro h b hb
    obtain ⟨i, hi, e⟩ := List.getElem_of_mem hb
    have := h i (List.mem_range.mpr hi)
    rw [List.getD_eq_getElem?_getD, List.getElem?_eq_getElem hi] at this
    simpa [e] using this
  · intro h i hi
    have hi := List.mem_range.mp hi
    rw [List.getD_eq_getElem?_getD, List.getElem?_eq_getElem hi]
    exact h _ (List.getElem_mem hi)
theorem call_all_bls (hc : X.calm = true) : CallR X (.builtin "all") (fun xs H Q => ∃ (p : Addr) (bs : List Bool), xs = [.ref p] ∧ SqL X.K H p (bs.map V.bl) ∧ Q (.bl (bs.all id)) H) := by
  intro pins s σ H xs us Q I r ⟨p, bs, e, sq, q⟩
  subst e
  obtain ⟨u, rfl, ru⟩ := r.one
  cases (show u = Value.ref p from ru)
  obtain ⟨its, rv, pl, hz⟩ := I.list sq
  have ei := vals_bls rv
  subst ei
  have hl := pl.isList
  refine call_all_walk (wpAny_pyIter_list hl ?_)
  have hne : p ≠ s.heap.objs.size := by
    obtain ⟨o, n, ho, _⟩ := pl
    exact Nat.ne_of_lt (Heap.lt_size ho)
  refine ⟨s.heap.objs.size, [s.heap.objs.size, p], [s.heap.objs.size], _, _, _, fun i => bs.getD i true, rfl, Walks.list (by exact I.ok.hd hc) s.heap.objs.size p hne (bs.map Value.bool).toArray, ⟨⟨_, Heap.get?_push_size _ rfl, rfl, rfl⟩, hl.push _⟩, fun i v s' Q' E' hP hQ' => ?_, fun h' tk hk => ?_⟩
  · have hP : (bs.map Value.bool)[i]? = some v := by simpa using hP
    rw [List.getElem?_map] at hP
    cases z : bs[i]? with
    | none => rw [z] at hP; cases hP
    | some b =>
      rw [z] at hP
      cases (Option.some.inj hP)
      refine wpAny_truthy_bool ?_
      have e : bs.getD i true = b := by rw [List.getD_eq_getElem?_getD, z]; rfl
      have hQ2 : Q' (bs.getD i true) s' := hQ'
      rw [e] at hQ2
      exact hQ2
  · have hs : ((List.range (bs.map Value.bool).toArray.size).all fun i => bs.getD i true) = bs.all id := by simpa using all_range bs
    rw [hs]
    refine ⟨.bl _, H, I.kept (h' := h') (t' := tk) fun b o e => hk b o (fun z => absurd (Heap.lt_size e) (by rw [show b = s.heap.objs.size from List.mem_singleton.mp z]; exact Nat.lt_irrefl _)) (Heap.get?_push_of_some _ e), rfl, q⟩
theorem bd_all {K : PySem.W.Frag} : BlD K (fun xs H Q => ∃ (p : Addr) (bs : List Bool), xs = [.ref p] ∧ SqL K H p (bs.map V.bl) ∧ Q (.bl (bs.all id)) H) allD := by
  intro XQ σ ρ mp H S xs vs Q rs r p
  unfold allD at p
  split at p
  · obtain ⟨v, rfl, h⟩ := RepL.one r
    split at p
    · rename_i c zc
      split at p
      · rename_i bs zb
        obtain ⟨a, xs, rfl, _, sq, q, _⟩ := rs.items h zc
        rw [bls_rep q zb] at sq
        exact ⟨a, bs, rfl, sq, PostG.ok (R := Rep K) p rs rfl⟩
      · exact p.elim
    · exact p.elim
  · exact p.elim
theorem je_all {p pos : Pos} {e : Expr} {f : Ev (List D)} (hc : X.calm = true) (hg : Gl X "all") (hm : X.mg "all" = none) (ha : JA X XQ [e] f) (he : starEach [e] X.env = (false, eval e X.env) :: starEach [] X.env := by rfl) : JE X XQ (.Call (.Name "all" p) [e] [] pos) (b1 allD f) := je_blt (call_all_bls hc) bd_all hg hm (by rfl) ha (he := he)
def spar (i j : Nat) (f : Ev (List D)) : Sv := fun ρ S => bindS (f ρ S) ρ fun ds S1 => match ds with
  | [d, e] => .nx ((ρ.set i (some d)).set j (some e)) S1
  | _ => .bad
theorem js_par (i j : Nat) {x y : Str} {a b : Expr} {f : Ev (List D)} {px py pt pos : Pos} {kt k2 pt2} (hc : X.calm = true) (hN : X.N.Nodup) (hi : X.N[i]? = some x) (hj : X.N[j]? = some y) (hij : i ≠ j)
    (hx : X.env.scope.names.lookup x = some .local) (hy : X.env.scope.names.lookup y = some .local) (ha : JA X XQ [a, b] f)
    (hw : swappedStores [.Tuple [.Name x px, .Name y py] kt pt] (.Tuple [a, b] k2 pt2) X.env = pure (some [x, y]))
    (hs : swapsWithSole [.Tuple [.Name x px, .Name y py] kt pt] (.Tuple [a, b] k2 pt2) pos.line X.env = pure false := by rfl) :
    JS X XQ (.Assign [.Tuple [.Name x px, .Name y py] kt pt] (.Tuple [a, b] k2 pt2) pos) (spar i j f) := by
  refine PS.mono (ps_par hc hN hi hj hij hx hy ha hw hs) fun E σ H ⟨mp, ρ, S, G, p⟩ => ?_
  refine bindSP G p fun mp1 H1 ds S1 vs a1 G1 r1 p1 => ?_
  split at p1
  · obtain ⟨v, w, rfl, h1, h2⟩ := RepL.two r1
    exact ⟨v, w, rfl, PostS.nx p1 ((G1.set i h1).set j h2)⟩
  · exact p1.elim
end
end DL
set_option Elab.async false
set_option linter.all false
set_option maxRecDepth 100000
namespace DL
open PySem PySem.Spec PyProof.Rows L2
section
variable {X : Cx} {XQ : XW}
def CallX (X : Cx) (id : String) (o : List D → Sto → Out D) : Prop :=
  ∀ (pins : List (Addr × Obj)) (s : Shared) (σ : L2.St) (ρ : Lc) (XQ : XW) (mp : List Addr) (H : Hp) (S : Sto) (ds : List D) (vs : List V) (us : List Value) (Q : VK), Inv X pins σ H s → RS X.K mp H S → RepL X.K mp H ds vs → Vals vs us → Post X.K XQ σ ρ mp H (o ds S) Q →
    (∀ (e : XD) (S' : Sto), o ds S ≠ .exc e S') → wpAny (model X.prog X.w) X.A (call (.builtin id) us) (EP X pins σ Q) X.xe s
theorem je_bltX {id : String} {x : Str} {p pos : Pos} {e : Expr} {es : List Expr} {o : List D → Sto → Out D} {f : Ev (List D)} (hc : CallX X id o) (hno : ∀ ds S e S', o ds S ≠ .exc e S') (hg : Gl X x) (hm : X.mg x = none) (hv : bootBuiltins x = some (.builtin id)) (ha : JA X XQ (e :: es) f) (hn : x ≠ "__name__" := by decide) (hdb : (x == ("__debug__" : Str)) = false := by decide)
    (he : starEach (e :: es) X.env = (false, eval e X.env) :: starEach es X.env := by rfl) (hpl : (backTo pos (starEach es X.env)).any (·.1) = false := by rfl) : JE X XQ (.Call (.Name x p) (e :: es) [] pos) (b1 o f) := by
  intro pins s σ H Q I ⟨mp, ρ, S, G, q⟩
  refine wpAny_Call_Name_kw (ld_blt I hg hm hv ?_ hn hdb)
  refine PyProof.Rows.callWith_builtin1 (thn (ha pos pins s σ H _ I (bindP G q fun mp1 H1 ds S1 vs a1 G1 r1 p1 => (⟨mp1, ρ, S1, ds, G1, r1, p1⟩ : ∃ mp1 ρ S1 ds, Gd X.K mp1 H1 σ ρ S1 ∧ RepL X.K mp1 H1 ds vs ∧ Post X.K XQ σ ρ mp1 H1 (o ds S1) Q))) fun us s1 ⟨vs, H1, I1, rv, mp1, ρ1, S1, ds, G1, r1, p1⟩ => ?_) he hpl
  exact hc pins s1 σ ρ1 XQ mp1 H1 S1 ds vs us Q I1 G1.rs r1 rv p1 (hno _ _)
def reprD (xs : List D) (S : Sto) : Out D := match xs with
  | [.non] => .ok (.str "None") S
  | [.bl b] => .ok (.str (if b then "True" else "False")) S
  | [.int i] => if i.natAbs.log2 < 1920 then .ok (.str (toString i)) S else .bad
  | [.str x] => if (reprText x).length ≤ 1000000 then .ok (.str (reprText x)) S else .bad
  | [d] => match toP S 40 d with
    | some p => if (p.showable && !p.hasDict && decide (p.depth ≤ 60)) = true ∧ p.shown.length ≤ 1000000 then .ok (.str p.shown) S else .bad
    | none => .bad
  | _ => .bad
theorem repr_no (ds : List D) (S : Sto) (e : XD) (S' : Sto) : reprD ds S ≠ .exc e S' := by
  unfold reprD
  split <;> (try split) <;> (try split) <;> exact fun z => nomatch z
theorem repr_ok {k : Nat} (hr : Room k X.A) : CallX X "repr" reprD := by
  intro pins s σ ρ XQ mp H S ds vs us Q I rs r rv p hno
  clear hno
  have big : ∀ (d : D) (v : V) (a : Addr) (u : Value), Rep X.K mp H d v → v = .ref a → RelV v u → Post X.K XQ σ ρ mp H (match toP S 40 d with
      | some p => if (p.showable && !p.hasDict && decide (p.depth ≤ 60)) = true ∧ p.shown.length ≤ 1000000 then .ok (.str p.shown) S else .bad
      | none => .bad) Q → wpAny (model X.prog X.w) X.A (call (.builtin "repr") [u]) (EP X pins σ Q) X.xe s := by
    intro d v a u rd ev ru p
    subst ev
    cases z : toP S 40 d with
    | none => rw [z] at p; exact p.elim
    | some q =>
      rw [z] at p
      by_cases h : (q.showable && !q.hasDict && decide (q.depth ≤ 60)) = true ∧ q.shown.length ≤ 1000000
      · have p : Post X.K XQ σ ρ mp H (.ok (.str q.shown) S) Q := by simpa only [if_pos h] using p
        obtain ⟨as, ra⟩ := readsP I rs 40 d _ u q rd ru z
        cases (show u = Value.ref a from ru)
        have h1 := h.1
        rw [Bool.and_eq_true, Bool.and_eq_true] at h1
        have hd : q.depth ≤ 60 := of_decide_eq_true h1.2
        have hu := hr.units
        refine repr_of_reads' ra h1.1.1 (fun z => by rw [z] at h1; simp at h1) hr.gd (by omega) (fun _ _ e => e) (fun h' u' tk hk => ?_) (line_le h.2)
        exact ⟨.str q.shown, H, I.kept (h' := h') (t' := tk) hk, ⟨_, rfl⟩, PostG.ok p rs rfl⟩
      · simp only [if_neg h] at p; exact p.elim
  unfold reprD at p
  split at p
  · obtain ⟨v, rfl, h⟩ := RepL.one r
    obtain ⟨u, rfl, ru⟩ := Vals.one rv
    cases (show v = .non from h); cases (show u = Value.none from ru)
    exact PySem.P.repr_of_none ⟨.str "None", H, I.tok _, ⟨_, rfl⟩, PostG.ok (R := Rep X.K) p rs rfl⟩
  · rename_i b
    obtain ⟨v, rfl, h⟩ := RepL.one r
    obtain ⟨u, rfl, ru⟩ := Vals.one rv
    cases (show v = .bl b from h); cases (show u = Value.bool b from ru)
    exact PySem.P.repr_of_bool ⟨.str _, H, I.tok _, ⟨_, rfl⟩, PostG.ok (R := Rep X.K) p rs (by cases b <;> rfl)⟩
  · rename_i i
    obtain ⟨v, rfl, h⟩ := RepL.one r
    obtain ⟨u, rfl, ru⟩ := Vals.one rv
    cases (show v = .int i from h); obtain ⟨t, rfl⟩ := (show ∃ t, u = Value.int i t from ru)
    by_cases hi : i.natAbs.log2 < 1920
    · rw [if_pos hi] at p
      exact PySem.P.repr_of_int hi ⟨.str _, H, I.tok _, ⟨_, rfl⟩, PostG.ok (R := Rep X.K) p rs rfl⟩
    · rw [if_neg hi] at p; exact p.elim
  · rename_i x
    obtain ⟨v, rfl, h⟩ := RepL.one r
    obtain ⟨u, rfl, ru⟩ := Vals.one rv
    cases (show v = .str x from h); obtain ⟨t, rfl⟩ := (show ∃ t, u = Value.str x t from ru)
    by_cases hi : (reprText x).length ≤ 1000000
    · rw [if_pos hi] at p
      exact PySem.P.repr_of_str ⟨.str _, H, I.tok _, ⟨_, rfl⟩, PostG.ok (R := Rep X.K) p rs rfl⟩ (line_le hi)
    · rw [if_neg hi] at p; exact p.elim
  · rename_i d n1 n2 n3 n4
    obtain ⟨v, rfl, h⟩ := RepL.one r
    obtain ⟨u, rfl, ru⟩ := Vals.one rv
    cases d with
    | non => exact absurd rfl n1
    | bl b => exact absurd rfl (n2 b)
    | int i => exact absurd rfl (n3 i)
    | str x => exact absurd rfl (n4 x)
    | tup l => obtain ⟨a, xs, ev, _⟩ := Rep.tup h; exact big _ v a u h ev ru p
    | lst i => obtain ⟨a, ev, _⟩ := (show ∃ a, v = .ref a ∧ mp[i]? = some a from h); exact big _ v a u h ev ru p
  · exact p.elim
theorem je_repr {k : Nat} {p pos : Pos} {e : Expr} {f : Ev (List D)} (hr : Room k X.A) (hg : Gl X "repr") (hm : X.mg "repr" = none) (ha : JA X XQ [e] f) (he : starEach [e] X.env = (false, eval e X.env) :: starEach [] X.env := by rfl) : JE X XQ (.Call (.Name "repr" p) [e] [] pos) (b1 reprD f) := je_bltX (repr_ok hr) repr_no hg hm (by rfl) ha (he := he)
end
end DL
set_option Elab.async false
set_option linter.all false
set_option maxRecDepth 100000
namespace DL
open PySem PySem.Spec PyProof.Rows L2
section
variable {X : Cx} {XQ : XW}
def popD (x : D) (xs : List D) (S : Sto) : Out D := match x, xs with
  | .lst k, [.int i] => match S[k]? with
    | some c => if c.fz = false ∧ 0 ≤ i ∧ i ≤ 1000000 then (match c.xs[i.toNat]? with
      | some d => .ok d (S.set k ⟨false, c.xs.eraseIdx i.toNat⟩)
      | none => .bad) else .bad
    | none => .bad
  | _, _ => .bad
theorem RepL.erase {K : PySem.W.Frag} {mp : List Addr} {H : Hp} : ∀ {l : List D} {vs : List V} (n : Nat), RepL K mp H l vs → RepL K mp H (l.eraseIdx n) (vs.eraseIdx n)
  | [], vs, n, h => by cases (show vs = [] from h); exact RepL.nil
  | d :: l, vs, 0, h => by
    obtain ⟨v, r, q, h1, h2⟩ := h
    subst q
    exact h2
  | d :: l, vs, n + 1, h => by
    obtain ⟨v, r, q, h1, h2⟩ := h
    subst q
    exact RepL.cons h1 (RepL.erase n h2)
theorem md_pop {K : PySem.W.Frag} : MeD K rPopAt popD := by
  intro XQ σ ρ mp H S x xs v vs Q rs rx r p
  unfold popD at p
  split at p
  · rename_i k i
    split at p
    · rename_i c zc
      by_cases hc : c.fz = false ∧ 0 ≤ i ∧ i ≤ 1000000
      · rw [if_pos hc] at p
        split at p
        · rename_i d zd
          obtain ⟨w, rfl, hw⟩ := RepL.one r
          cases (show w = .int i from hw)
          obtain ⟨a, ys, rfl, ha, sq, q, f⟩ := rs.items rx zc
          have hH := f hc.1
          obtain ⟨y, hy, ry⟩ := q.get zd
          obtain ⟨af, rs'⟩ := rs.setL ha zc hc.1 hH (q.erase i.toNat)
          have hl : i.toNat < ys.length := (List.getElem?_eq_some_iff.mp hy).1
          exact ⟨a, ys, i, i.toNat, y, rfl, rfl, hH, by omega, by omega, seqIndex_of hc.2.1 (by omega), hy, p mp _ _ af rs' (Rep.aft af _ _ ry)⟩
        · exact p.elim
      · rw [if_neg hc] at p; exact p.elim
    · exact p.elim
  · exact p.elim
def rIns : V → List V → Hp → VK → Prop := fun x vs H Q => ∃ l xs i y, x = .ref l ∧ vs = [.int i, y] ∧ H l = some (.lst xs) ∧ 0 ≤ i ∧ i < 2 ^ 63 ∧ xs.length < sizeLine ∧ Q .non (upd H l (.lst (xs.take (min i.toNat xs.length) ++ y :: xs.drop (min i.toNat xs.length))))
theorem mt_ins : MtM X "list.insert" rIns := by
  intro pins s σ H x vs v us Q I rx rv h
  obtain ⟨l, xs, i, y, rfl, rfl, hH, h1, h2, hz, q⟩ := h
  cases rx
  obtain ⟨ui, uy, rfl, ri, ry⟩ := rv.two
  obtain ⟨t, rfl⟩ := ri
  obtain ⟨z, its, n, r, hl, e⟩ := I.lstM hH
  have hlt : ¬ i < 0 := by omega
  refine call_meets F.slot_list_insert ⟨_, e, rfl⟩ F.entry_list_insert (F.args_list_insert_3 _ _ _)
    (PySem.AutoListH.list_insert_list_int_val_1 l its.toArray n i t uy (by rw [fitsIndex_of h1 h2]; decide) (by rw [List.size_toArray]; omega)) ⟨e, ?_⟩
  refine ⟨.non, _, I.lset (its' := its.take (min i.toNat xs.length) ++ uy :: its.drop (min i.toNat xs.length)) hH e ?_ ((r.take _).append (.cons ry (r.drop _))) ?_, rfl, q⟩
  · simp only [hlt, if_false, List.size_toArray, ← hl]
    apply Array.ext'
    simp [hl]
    exact List.take_of_length_le (by simp)
  · rw [List.length_append, List.length_cons, List.length_take, List.length_drop]
    omega
def insD (x : D) (xs : List D) (S : Sto) : Out D := match x, xs with
  | .lst k, [.int i, d] => match S[k]? with
    | some c => if c.fz = false ∧ (0 ≤ i ∧ i ≤ 1000000) ∧ c.xs.length < 1000000 then .ok .non (S.set k ⟨false, c.xs.take (min i.toNat c.xs.length) ++ d :: c.xs.drop (min i.toNat c.xs.length)⟩) else .bad
    | none => .bad
  | _, _ => .bad
theorem md_ins {K : PySem.W.Frag} : MeD K rIns insD := by
  intro XQ σ ρ mp H S x xs v vs Q rs rx r p
  unfold insD at p
  split at p
  · rename_i k i d
    split at p
    · rename_i c zc
      by_cases hc : c.fz = false ∧ (0 ≤ i ∧ i ≤ 1000000) ∧ c.xs.length < 1000000
      · rw [if_pos hc] at p
        obtain ⟨w, w2, rfl, hw, hw2⟩ := RepL.two r
        cases (show w = .int i from hw)
        obtain ⟨a, ys, rfl, ha, sq, q, f⟩ := rs.items rx zc
        have hH := f hc.1
        have l1 := q.len
        rw [← l1] at p
        obtain ⟨af, rs'⟩ := rs.setL ha zc hc.1 hH (RepL.append (q.take (min i.toNat ys.length)) (RepL.cons hw2 (q.drop (min i.toNat ys.length))))
        exact ⟨a, ys, i, w2, rfl, rfl, hH, hc.2.1.1, by omega, by rw [l1]; exact Nat.lt_of_lt_of_le hc.2.2 (by decide), p mp _ _ af rs' rfl⟩
      · rw [if_neg hc] at p; exact p.elim
    · exact p.elim
  · exact p.elim
theorem je_pop {o e : Expr} {apos cpos : Pos} {fo : Ev D} {f : Ev (List D)} (ho : JE X XQ o fo) (ha : JA X XQ [e] f) (hbase : attributeBase o "pop" X.env (eval o X.env) = eval o X.env := by rfl)
    (hfew : ((backTo cpos (starEach [e] X.env)).all (fun x => !x.1) && (backToKw cpos (keywordEach [] X.env)).all (fun x => x.1.isSome)
      && decide ([e].length + ([] : List Keyword).length + (if ([] : List Keyword).isEmpty then 0 else 1) < 30)) = true := by rfl)
    (hline : (apos.endLine == cpos.line) = true := by rfl) (hs : starEach [e] X.env = (false, eval e X.env) :: starEach [] X.env := by rfl) :
    JE X XQ (.Call (.Attribute o "pop" apos) [e] [] cpos) (mt popD fo f) := je_meth PySem.F.slot_list_pop PySem.F.type_list_pop mt_popAt md_pop ho ha hbase hfew hline hs rfl
theorem je_insert {o e e' : Expr} {apos cpos : Pos} {fo : Ev D} {f : Ev (List D)} (ho : JE X XQ o fo) (ha : JA X XQ [e, e'] f) (hbase : attributeBase o "insert" X.env (eval o X.env) = eval o X.env := by rfl)
    (hfew : ((backTo cpos (starEach [e, e'] X.env)).all (fun x => !x.1) && (backToKw cpos (keywordEach [] X.env)).all (fun x => x.1.isSome)
      && decide ([e, e'].length + ([] : List Keyword).length + (if ([] : List Keyword).isEmpty then 0 else 1) < 30)) = true := by rfl)
    (hline : (apos.endLine == cpos.line) = true := by rfl) (hs : starEach [e, e'] X.env = (false, eval e X.env) :: starEach [e'] X.env := by rfl) (hpl : (backTo cpos (starEach [e'] X.env)).any (·.1) = false := by rfl) :
    JE X XQ (.Call (.Attribute o "insert" apos) [e, e'] [] cpos) (mt insD fo f) := je_meth PySem.F.slot_list_insert PySem.F.type_list_insert mt_ins md_ins ho ha hbase hfew hline hs hpl
end
end DL
set_option Elab.async false
set_option linter.all false
namespace DL
open PySem
theorem se_Constant {c j p} {es : List Expr} {env : PySem.Env} : starEach (.Constant c j p :: es) env = (false, eval (.Constant c j p) env) :: starEach es env := rfl
theorem se_Name {x p} {es : List Expr} {env : PySem.Env} : starEach (.Name x p :: es) env = (false, eval (.Name x p) env) :: starEach es env := rfl
theorem se_Tuple {a b p} {es : List Expr} {env : PySem.Env} : starEach (.Tuple a b p :: es) env = (false, eval (.Tuple a b p) env) :: starEach es env := rfl
theorem se_List {a p} {es : List Expr} {env : PySem.Env} : starEach (.List a p :: es) env = (false, eval (.List a p) env) :: starEach es env := rfl
theorem se_Call {f a k p} {es : List Expr} {env : PySem.Env} : starEach (.Call f a k p :: es) env = (false, eval (.Call f a k p) env) :: starEach es env := rfl
theorem se_Subscript {a b p} {es : List Expr} {env : PySem.Env} : starEach (.Subscript a b p :: es) env = (false, eval (.Subscript a b p) env) :: starEach es env := rfl
theorem se_BinOp {a o b p} {es : List Expr} {env : PySem.Env} : starEach (.BinOp a o b p :: es) env = (false, eval (.BinOp a o b p) env) :: starEach es env := rfl
theorem se_Compare {a o b p} {es : List Expr} {env : PySem.Env} : starEach (.Compare a o b p :: es) env = (false, eval (.Compare a o b p) env) :: starEach es env := rfl
theorem se_ListComp {a b c p} {es : List Expr} {env : PySem.Env} : starEach (.ListComp a b c p :: es) env = (false, eval (.ListComp a b c p) env) :: starEach es env := rfl
end DL
set_option Elab.async false
set_option linter.all false
set_option maxRecDepth 100000
namespace DL
open PySem PySem.Spec PyProof.Rows L2
structure Cal (P : Program) (w : World) (K : PySem.W.Frag) (mg : Str → Option Value) (base : Heap) (x : Str) (ps : List Str) (fn : Fn) (j : Nat) : Prop where
  ex : ∃ f fd, FnOk P w K mg base CX0 j f fd ps (spD K ps.length fn) ∧ mg x = some (.ref f) ∧ PySem.W.keepIn K (.ref f) = true ∧ Binds K fd ps []
structure Dn (K : PySem.W.Frag) (mg : Str → Option Value) (x : Str) (st : Stmt) (ps : List Str) : Prop where
  ex : ∃ f fd, Fun K x x st f fd ∧ mg x = some (.ref f) ∧ Binds K fd ps []
section
variable {P : Program} {w : World} {K : PySem.W.Frag} {mg : Str → Option Value} {base : Heap}
theorem dn_mk {h : Heap} {x : Str} {st : Stmt} {ps : List Str} {f : Addr} {oc : Value} {od an : Option Addr} {osl : Array (Option Value)} {kV doc pm cdv ct : Value} (X : K.In h) (G : h.Ns mainGlobals mg) (a : PySem.W.nsIn K mainGlobals x = some (some (.ref f)))
    (l : K.lookup f = some ⟨oc, od, .func (PySem.W.fnOf x x (defArgs st) (defBody st) (defScope st) .none kV doc pm an cdv ct), osl⟩) (c : PySem.W.codeIn K cdv x = true) (k : PySem.W.keepIn K (.ref f) = true)
    (hb : ∀ (kV doc pm : Value) (an : Option Addr) (cdv ct : Value) (us : List Value), us.length = ps.length → bindArgs (PySem.W.fnOf x x (defArgs st) (defBody st) (defScope st) .none kV doc pm an cdv ct) ⟨us, []⟩ = pure (ps.zip us)) : Dn K mg x st ps :=
  ⟨f, _, fun_mk l c k, PySem.W.mg_of X G a, (fun_mk (st := st) l c k).binds hb⟩
theorem cal_of {x : Str} {st : Stmt} {ps : List Str} {fn : Fn} (N : List Str) (k : Nat) (b : Sv) (hfn : fn = fnB N.length b) (d : Dn K mg x st ps) (Sc : FnScope N ps (defScope st))
    (hb : ∀ (f : Addr) (cdv : Value) (A : Around) (outer : List PySem.Env) (s : Shared) (H : Hp) (E : XK), Room k (A.deeper (envOfC x (defScope st) s.heap.objs.size f cdv)) →
      JSs (cxOf CX0 P w K mg base N x (defScope st) f cdv A outer s H E).nox XN (defBody st) b) : Cal P w K mg base x ps fn (k + 1) := by
  subst hfn
  obtain ⟨f, fd, F, hm, hbi⟩ := d.ex
  exact ⟨f, fd, fn_ok F Sc (hb f), hm, F.kp, hbi⟩
end
section
variable {X : Cx} {XQ : XW}
theorem je_own {x : Str} {ps : List Str} {fn : Fn} {j k n : Nat} {p pos : Pos} {e : Expr} {es : List Expr} {t : Ev (List D)} (C : Cal X.prog X.w X.K X.mg X.base x ps fn j) (hr : Room k X.A) (ha : JA X XQ (e :: es) t) (hn : ps.length = n) (hj : j ≤ k := by decide) (hg : Gl X x := by rfl)
    (hdb : (x == ("__debug__" : Str)) = false := by decide) (he : starEach (e :: es) X.env = (false, eval e X.env) :: starEach es X.env := by rfl) (hpl : (backTo pos (starEach es X.env)).any (·.1) = false := by rfl) :
    JE X XQ (.Call (.Name x p) (e :: es) [] pos) (cl n (noExc fn) t) := by
  subst hn
  obtain ⟨f, fd, F, hm, hk, hb⟩ := C.ex
  exact je_call F hr hj hg hm hk hb ha hdb he hpl
theorem je_cst {x : Str} {v : V} {u : Value} {d : D} {pos : Pos} (hm : X.mg x = some u) (r : RelV v u) (rep : ∀ mp H, Rep X.K mp H d v) (hg : Gl X x) (hd : (x == ("__debug__" : Str)) = false) : JE X XQ (.Name x pos) (cn d) := je_const (pe_glob hg hm r hd) rep
def plainN (x : Str) : Bool := !(x == ("__debug__" : Str)) && !(x == ("__classdict__" : Str))
def okV (sc : Scope) (x : Str) : Bool := (match sc.names.lookup x with
  | some .local => true
  | some .cell => true
  | some .free => true
  | _ => false) && plainN x
def okL (sc : Scope) (x : Str) : Bool := match sc.names.lookup x with
  | some .local => true
  | some .cell => true
  | _ => false
def okG (sc : Scope) (x : Str) : Bool := (match sc.names.lookup x with
  | some .globalImplicit => true
  | _ => false) && plainN x
theorem plainN.of {x : Str} (h : plainN x = true) : (x == ("__debug__" : Str)) = false ∧ (x == ("__classdict__" : Str)) = false := by
  unfold plainN at h
  rw [Bool.and_eq_true] at h
  exact ⟨by simpa using h.1, by simpa using h.2⟩
theorem okV.vis {sc : Scope} {x : Str} (h : okV sc x = true) : Vis sc x ∧ plainN x = true := by
  unfold okV at h
  rw [Bool.and_eq_true] at h
  refine ⟨?_, h.2⟩
  have h := h.1
  split at h
  · rename_i e; exact .inl e
  · rename_i e; exact .inr (.inl e)
  · rename_i e; exact .inr (.inr e)
  · cases h
theorem okL.loc {sc : Scope} {x : Str} (h : okL sc x = true) : Loc sc x := by
  unfold okL at h
  split at h
  · rename_i e; exact .inl e
  · rename_i e; exact .inr e
  · cases h
theorem okG.gl {sc : Scope} {x : Str} (h : okG sc x = true) : sc.names.lookup x = some .globalImplicit ∧ plainN x = true := by
  unfold okG at h
  rw [Bool.and_eq_true] at h
  refine ⟨?_, h.2⟩
  have h := h.1
  split at h
  · rename_i e; exact e
  · cases h
structure OkV (sc : Scope) (x : Str) : Prop where
  h : okV sc x = true
structure OkL (sc : Scope) (x : Str) : Prop where
  h : okL sc x = true
structure OkC (sc : Scope) (x : Str) : Prop where
  h : sc.names.lookup x = some .local
structure OkG (sc : Scope) (x : Str) : Prop where
  h : okG sc x = true
theorem jv (i : Nat) {x : Str} {pos : Pos} (h : OkV X.env.scope x) (hN : X.N[i]? = some x := by rfl) : JE X XQ (.Name x pos) (vr i) := je_var i hN (okV.vis h.h).1 (plainN.of (okV.vis h.h).2).1 (plainN.of (okV.vis h.h).2).2
theorem gl {x : Str} (h : OkG X.env.scope x) : Gl X x := (okG.gl h.h).1
theorem jgn (i : Nat) {x : Str} {pos : Pos} (hN : X.N.Nodup) (h : OkL X.env.scope x) (hi : X.N[i]? = some x := by rfl) (hf : X.fn x = true := by rfl) : JG X (.Name x pos) (gn i) := jg_name i hN hi (okL.loc h.h) (.inl hf)
theorem jset (i : Nat) {x : Str} {e : Expr} {f : Ev D} {pos pos' : Pos} (hN : X.N.Nodup) (h : OkL X.env.scope x) (he : JE X XQ e f) (hi : X.N[i]? = some x := by rfl) (hs : swapsWith e (some (.Name x pos')) pos.line X.env = pure false := by rfl) (hf : X.fn x = true := by rfl) :
    JS X XQ (.Assign [.Name x pos'] e pos) (sa f (gn i)) := js_set i hN he hi (okL.loc h.h) hs (.inl hf)
theorem jown {x : Str} {ps : List Str} {fn : Fn} {j k n : Nat} {p pos : Pos} {e : Expr} {es : List Expr} {t : Ev (List D)} (C : Cal X.prog X.w X.K X.mg X.base x ps fn j) (hr : Room k X.A) (hg : Gl X x) (hp : plainN x = true) (ha : JA X XQ (e :: es) t) (hn : ps.length = n := by rfl) (hj : j ≤ k := by decide)
    (he : starEach (e :: es) X.env = (false, eval e X.env) :: starEach es X.env := by rfl) (hpl : (backTo pos (starEach es X.env)).any (·.1) = false := by rfl) :
    JE X XQ (.Call (.Name x p) (e :: es) [] pos) (cl n (noExc fn) t) := je_own C hr ha hn hj hg (plainN.of hp).1 he hpl
def okVC (sc : Scope) (x : Str) : Bool := (match sc.names.lookup x with
  | some .local => true
  | some .free => true
  | _ => false) && plainN x
theorem blk_vis {s2 : Shared} {H2 : Hp} {C : Addr} {scope : Scope} {c : List (Str × Addr)} {N' : List Str} {fp : List Addr} {x : Str} (h : okVC scope x = true) : Vis (blk X s2 H2 C scope c N' fp).env.scope x ∧ plainN x = true := by
  unfold okVC at h
  rw [Bool.and_eq_true] at h
  refine ⟨?_, h.2⟩
  have h := h.1
  split at h
  · rename_i e; exact .inl (lookup_relabel_local e)
  · rename_i e; exact .inr (lookup_relabel_free (scope := scope) (env := X.env) scope.names e)
  · cases h
theorem jvB (i : Nat) {s2 : Shared} {H2 : Hp} {C : Addr} {scope : Scope} {c : List (Str × Addr)} {N' : List Str} {fp : List Addr} {x : Str} {pos : Pos} (h : okVC scope x = true) (hN : N'[i]? = some x := by rfl) : JE (blk X s2 H2 C scope c N' fp) XQ (.Name x pos) (vr i) :=
  je_var i hN (blk_vis h).1 (plainN.of (blk_vis (X := X) (s2 := s2) (H2 := H2) (C := C) (c := c) (N' := N') (fp := fp) h).2).1 (plainN.of (blk_vis (X := X) (s2 := s2) (H2 := H2) (C := C) (c := c) (N' := N') (fp := fp) h).2).2
theorem lookup_relabel_other {scope : Scope} {env : PySem.Env} {x : Str} {k : NameKind} (hk : k ≠ .free) : ∀ (names : List (Str × NameKind)), names.lookup x = some k → (names.map fun (n, k) => if (k == NameKind.free && env.scope.kind == .function && env.kindOf n == some .cell) = true then (n, NameKind.cell) else (n, k)).lookup x = some k
  | [], h => by simp at h
  | (n, k') :: r, h => by
    rw [List.map_cons]
    by_cases hx : (x == n) = true
    · rw [List.lookup_cons, hx] at h
      have : k' = k := by simpa using h
      subst this
      have hb : (k' == NameKind.free) = false := by simpa using hk
      simp only [hb, Bool.false_and, Bool.false_eq_true, if_false, List.lookup_cons, hx]
    · have hx : (x == n) = false := by simpa using hx
      rw [List.lookup_cons, hx] at h
      have := lookup_relabel_other (scope := scope) (env := env) hk r h
      by_cases hq : (k' == NameKind.free && env.scope.kind == .function && env.kindOf n == some .cell) = true
      · simpa only [hq, if_true, List.lookup_cons, hx] using this
      · simpa only [hq, Bool.false_eq_true, if_false, List.lookup_cons, hx] using this
theorem glB {s2 : Shared} {H2 : Hp} {C : Addr} {scope : Scope} {c : List (Str × Addr)} {N' : List Str} {fp : List Addr} {x : Str} (h : okG scope x = true) : Gl (blk X s2 H2 C scope c N' fp) x :=
  lookup_relabel_other (scope := scope) (env := X.env) (by decide) scope.names (okG.gl h).1
def okLC (sc : Scope) (x : Str) : Bool := match sc.names.lookup x with
  | some .local => true
  | _ => false
theorem jgnB (i : Nat) {s2 : Shared} {H2 : Hp} {C : Addr} {scope : Scope} {c : List (Str × Addr)} {N' : List Str} {fp : List Addr} {x : Str} {pos : Pos} (hN : N'.Nodup) (h : okLC scope x = true) (hi : N'[i]? = some x := by rfl) : JG (blk X s2 H2 C scope c N' fp) (.Name x pos) (gn i) := by
  unfold okLC at h
  split at h
  · rename_i e
    exact jg_name i hN hi (.inl (lookup_relabel_local e)) (.inr (lookup_relabel_local e))
  · cases h
theorem jcomp {sc : Scope} {N : List Str} {elt tg iter : Expr} {ifs : List Expr} {scope : Scope} {pos : Pos} {N' : List Str} {pk : List (Option Nat)} {f : Ev Src} {g : Tg} {t : Ev Bool} {e : Ev D} (hsc : X.env.scope = sc) (hNN : X.N = N) (ct : CompTab sc scope N N' pk) (hcm : X.calm = true) (hi : JI X XQ tg iter f)
    (hg : ∀ cl s2 H2 C fp, JG (blk X s2 H2 C scope cl N' fp) tg g) (ht : ∀ cl s2 H2 C fp, JTs (blk X s2 H2 C scope cl N' fp) XN ifs t) (he : ∀ cl s2 H2 C fp, JE (blk X s2 H2 C scope cl N' fp) XN elt e)
    (hs : ∀ x, foldedSetIterable iter X.env x = pure x := by intro _; rfl) : JE X XQ (.ListComp elt [⟨tg, iter, ifs, 0⟩] scope pos) (cmp f pk g t e) := by
  subst hsc hNN
  exact je_comp ct hcm hi hg ht he hs
theorem jsetComp (i : Nat) {sc : Scope} {N : List Str} {y : Str} {py spos : Pos} {elt tg iter : Expr} {ifs : List Expr} {scope : Scope} {pos : Pos} {N' : List Str} {pk : List (Option Nat)} {f : Ev Src} {g : Tg} {t : Ev Bool} {e : Ev D} (hsc : X.env.scope = sc) (hNN : X.N = N) (ct : CompTab sc scope N N' pk) (hcm : X.calm = true) (hi : JI X XQ tg iter f)
    (hg : ∀ cl s2 H2 C fp, JG (blk X s2 H2 C scope cl N' fp) tg g) (ht : ∀ cl s2 H2 C fp, JTs (blk X s2 H2 C scope cl N' fp) XN ifs t) (he : ∀ cl s2 H2 C fp, JE (blk X s2 H2 C scope cl N' fp) XN elt e)
    (hN : X.N.Nodup) (hl : OkL X.env.scope y) (hsw : swapsWith (.ListComp elt [⟨tg, iter, ifs, 0⟩] scope pos) (some (.Name y py)) spos.line X.env = pure true) (hy : X.N[i]? = some y := by rfl)
    (hs : ∀ x, foldedSetIterable iter X.env x = pure x := by intro _; rfl) (hf : X.fn y = true := by rfl) :
    JS X XQ (.Assign [.Name y py] (.ListComp elt [⟨tg, iter, ifs, 0⟩] scope pos) spos) (sa (cmp f pk g t e) (gn i)) := by
  subst hsc hNN
  exact js_setComp i ct hcm hi hg ht he hN hy (okL.loc hl.h) hsw hs (.inl hf)
end
end DL
set_option Elab.async false
set_option linter.all false
set_option maxRecDepth 100000
namespace DL
open PySem PySem.Spec PyProof.Rows L2
section
variable {X : Cx} {XQ : XW}
theorem log_of {j : Int} (h1 : 0 < j) (h2 : j < 2 ^ 200) : j.natAbs.log2 < 9000 := by
  have h3 : j.natAbs < 2 ^ 200 := by omega
  exact Nat.lt_of_lt_of_le ((Nat.log2_lt (by omega)).mpr h3) (by decide)
theorem op_fdiv2 : OpR X (binaryOp .FloorDiv) (rI (fun _ j => 0 < j ∧ j < 2 ^ 200) fun i j => .int (i / j)) := opI fun i j _ _ _ _ _ hc q => by
  have h1 : (0 : Int) < j := hc.1
  have h2 : j < 2 ^ 200 := hc.2
  exact floordiv_int (by omega) (by rw [Int.fdiv_eq_ediv_of_nonneg i (by omega)]; exact q) (.inl (PyProof.noPylong_of_log2 (log_of h1 h2)))
abbrev divD2 := i2 (fun _ j => decide (0 < j ∧ j < 2 ^ 200)) fun i j => .int (i / j)
theorem je_div2 {a b : Expr} {fa fb : Ev D} {pos : Pos} (ha : JE X XQ a fa) (hb : JE X XQ b fb) : JE X XQ (.BinOp a .FloorDiv b pos) (o2 divD2 fa fb) := je_op op_fdiv2 (od_int (fun _ j h => (of_decide_eq_true h : 0 < j ∧ j < 2 ^ 200)) fun _ _ _ _ => rfl) ha hb
def intsOf : List D → Option (List Int)
  | [] => some []
  | .int i :: r => (intsOf r).map (i :: ·)
  | _ :: _ => none
theorem RepL.ints {K : PySem.W.Frag} {mp : List Addr} {H : Hp} : ∀ {l : List D} {vs : List V} {ns : List Int}, RepL K mp H l vs → intsOf l = some ns → vs = ns.map V.int
  | [], vs, ns, h, e => by
    cases (show vs = [] from h)
    cases (Option.some.inj (show some [] = some ns from e))
    rfl
  | d :: l, vs, ns, h, e => by
    obtain ⟨v, r, rfl, h1, h2⟩ := h
    cases d with
    | int i =>
      have e : (intsOf l).map (i :: ·) = some ns := e
      cases z : intsOf l with
      | none => rw [z] at e; cases e
      | some ms =>
        rw [z] at e
        cases (Option.some.inj e)
        cases (show v = .int i from h1)
        rw [RepL.ints h2 z]
        rfl
    | _ => cases (show (none : Option (List Int)) = some ns from e)
theorem items_of {ns : List Int} (its : List Value) (r' : Vals (ns.map V.int) its) : ∃ xs : Array (Int × Tok), its.toArray = intItems xs ∧ preSum (numAt xs) xs.size = ns.sum ∧ ns = xs.toList.map (·.1) := by
  have hi := intsAre_of r'
  obtain ⟨xs, hx⟩ := hi.allInts.items
  have hn : numsOf its.toArray.toList = ns := by rw [show its.toArray.toList = its from rfl, hi.numsOf]
  rw [hx, nums_intItems] at hn
  refine ⟨xs, hx, ?_, hn.symm⟩
  rw [preSum_eq, List.take_of_length_le (by simp), hn]
theorem call_sum (hc : X.calm = true) : CallR X (.builtin "sum") (fun xs H Q => ∃ (p : Addr) (ns : List Int), xs = [.ref p] ∧ (SqL X.K H p (ns.map V.int) ∨ SqT X.K H p (ns.map V.int)) ∧ Q (.int ns.sum) H) := by
  intro pins s σ H xs us Q I r h
  obtain ⟨p, ns, rfl, hq, q⟩ := h
  obtain ⟨u, rfl, rx⟩ := vals1 r
  cases rx
  rcases hq with hq | hq
  · obtain ⟨its, r', pl, hz⟩ := I.list hq
    obtain ⟨xs, hx, e, _⟩ := items_of its r'
    have hl := pl.isList
    rw [hx] at hl
    exact sum_intListG (I.ok.hd hc) hl fun h' tk t' hk => ⟨.int ns.sum, H, I.kept hk, ⟨t', by rw [e]⟩, q⟩
  · obtain ⟨its, r', pl, hz⟩ := I.tuple hq
    obtain ⟨xs, hx, e, _⟩ := items_of its r'
    have hl : s.heap.IsTuple p its.toArray := pl
    rw [hx] at hl
    exact PySem.W.ktm_sumG (I.ok.hd hc) hl fun h' tk t' hk => ⟨.int ns.sum, H, I.kept hk, ⟨t', by rw [e]⟩, q⟩
def seqOf (x : D) (S : Sto) : Option (List D) := match x with
  | .tup l => some l
  | .lst i => (S[i]?).map (·.xs)
  | _ => none
theorem seq_of {K : PySem.W.Frag} {mp : List Addr} {H : Hp} {S : Sto} {x : D} {v : V} {l : List D} (rs : RS K mp H S) (h : Rep K mp H x v) (e : seqOf x S = some l) : ∃ a xs, v = .ref a ∧ (SqL K H a xs ∨ SqT K H a xs) ∧ RepL K mp H l xs := by
  cases x with
  | tup ds =>
    cases (Option.some.inj (show some ds = some l from e))
    obtain ⟨a, xs, rfl, s, q⟩ := Rep.tup h
    exact ⟨a, xs, rfl, .inr s, q⟩
  | lst i =>
    have e : (S[i]?).map (·.xs) = some l := e
    cases z : S[i]? with
    | none => rw [z] at e; cases e
    | some c =>
      rw [z] at e
      cases (Option.some.inj e)
      obtain ⟨a, xs, rfl, _, s, q, _⟩ := rs.items h z
      exact ⟨a, xs, rfl, .inl s, q⟩
  | _ => cases (show (none : Option (List D)) = some l from e)
def sumD (xs : List D) (S : Sto) : Out D := match xs with
  | [x] => match (seqOf x S).bind intsOf with
    | some ns => .ok (.int ns.sum) S
    | none => .bad
  | _ => .bad
theorem bd_sum {K : PySem.W.Frag} : BlD K (fun xs H Q => ∃ (p : Addr) (ns : List Int), xs = [.ref p] ∧ (SqL K H p (ns.map V.int) ∨ SqT K H p (ns.map V.int)) ∧ Q (.int ns.sum) H) sumD := by
  intro XQ σ ρ mp H S xs vs Q rs r p
  unfold sumD at p
  split at p
  · rename_i x
    obtain ⟨v, rfl, h⟩ := RepL.one r
    split at p
    · rename_i ns z
      obtain ⟨l, e1, e2⟩ := Option.bind_eq_some_iff.mp z
      obtain ⟨a, ys, rfl, sq, q⟩ := seq_of rs h e1
      cases q.ints e2
      exact ⟨a, ns, rfl, sq, PostG.ok (R := Rep K) p rs rfl⟩
    · exact p.elim
  · exact p.elim
theorem je_sum {p pos : Pos} {e : Expr} {f : Ev (List D)} (hc : X.calm = true) (hg : Gl X "sum") (hm : X.mg "sum" = none) (ha : JA X XQ [e] f) (he : starEach [e] X.env = (false, eval e X.env) :: starEach [] X.env := by rfl) : JE X XQ (.Call (.Name "sum" p) [e] [] pos) (b1 sumD f) := je_blt (call_sum hc) bd_sum hg hm (by rfl) ha (he := he)
def maxD (xs : List D) (S : Sto) : Out D := match xs with
  | [.int i, .int j] => .ok (.int (if j > i then j else i)) S
  | _ => .bad
def sag (i : Nat) (g : Int → Int → Int) (f : Ev D) : Sv := fun ρ S => match ρ[i]? with
  | some (some (.int a)) => bindS (f ρ S) ρ fun d S1 => match d with
    | .int b => .nx (ρ.set i (some (.int (g a b)))) S1
    | _ => .bad
  | _ => .bad
end
section
variable {prog : Program} {w : World} {A : Around} {E : Value → Shared → Prop} {s : Shared}
theorem getItem_tuple_all {t sl : Addr} {items : Array Value} {vl vu : Value} {lo hi : Option Int} {Q : Value → Shared → Prop} (ht : IsTup s.heap t items) (hs : s.heap.IsSliceOf sl vl vu .none) (pl : IsPart vl lo) (pu : IsPart vu hi)
    (hw : HT.sIx items.size 0 lo = 0 ∧ HT.sIx items.size items.size hi = items.size)
    (h : Q (.ref t) s) : wpAny (model prog w) A (getItem (.ref t) (.ref sl)) Q E s := by
  obtain ⟨os, hos, hcs, hds⟩ := id hs
  have hTs : s.TypeIs (.ref sl) "slice" := ⟨os, hos, hcs⟩
  unfold getItem
  try with_reducible refine wpAny_holding ?_
  first | refine wpAny_bind (wpAny_pure ?_) | skip
  refine wpAny_bind (wpAny_sequenceKey ht.typeIs (by decide) ?_)
  refine wpAny_bind (wpAny_callSpecial?_slot (name := Str.ofString "__getitem__") ht.typeIs PyProof.Rows.slot_tuple_getitem
    (wpAny_call_entry PyProof.Rows.slot_tuple_getitem ht.typeIs entry_tuple_getitem ?_ (args_tuple_getitem _ _)))
  show wpAny _ _ (Builtin.Tuple.tupleItemsOf (.ref t) >>= _) _ _ s
  refine wpAny_bind (tupleItemsOf_ ht ?_)
  refine wpAny_bind (wpAny_typeOf hTs ?_)
  rw [if_pos (by decide)]
  refine wpAny_bind (HT.sliceApplied_gen hs pl pu ?_)
  show wpAny _ _ (if (((HT.sIx items.size 0 lo : Nat) : Int) == 0 && (1 : Int) == 1 && (HT.sIx items.size items.size hi - HT.sIx items.size 0 lo) == items.size) = true then _ else _) _ _ s
  rw [if_pos (by rw [hw.1, hw.2]; simp)]
  unfold Builtin.Tuple.tupleIsExact
  refine wpAny_bind (wpAny_bind (wpAny_typeOf ht.typeIs (wpAny_pure ?_)))
  rw [if_pos (by decide)]
  exact wpAny_bind (wpAny_rule (wpAny_pure ⟨_, rfl, wpAny_pure h⟩))
end
section
variable {X : Cx} {XQ : XW}
def rSlA (K : PySem.W.Frag) : V → Option Int → Option Int → Hp → VK → Prop := fun x lo hi H Q => ∃ a xs, x = .ref a ∧ SqT K H a xs ∧ (HT.sIx xs.length 0 lo = 0 ∧ HT.sIx xs.length xs.length hi = xs.length) ∧ Q (.ref a) H
theorem sl_all : SlR X (rSlA X.K) := by
  intro pins s σ H x v vl vu lo hi sl Q I rx hs pl pu h
  obtain ⟨a, xs, rfl, hx, hw, q⟩ := h
  cases rx
  obtain ⟨its, r, ht, hz⟩ := I.tuple hx
  have hlen : its.toArray.size = xs.length := by rw [List.size_toArray]; exact r.length.symm
  refine ⟨"tuple", _, PyProof.Rows.slot_tuple_getitem.lookup, ht.typeIs, ?_⟩
  exact getItem_tuple_all ht hs pl pu (by rw [hlen]; exact hw) ⟨.ref a, H, I, rfl, q⟩
def slD2 (x : D) (lo hi : Option Int) (S : Sto) : Out D := match x with
  | .tup l => if HT.sIx l.length 0 lo = 0 ∧ HT.sIx l.length l.length hi = l.length then .ok (.tup l) S else .ok (.tup (cutD l lo hi)) S
  | .lst i => match S[i]? with
    | some c => .ok (.lst S.length) (S ++ [⟨false, cutD c.xs lo hi⟩])
    | none => .bad
  | _ => .bad
def sl2 (fe : Ev D) (fl fh : Ev (Option Int)) : Ev D := fun ρ S => (fe ρ S).bind fun x S1 => (fl ρ S1).bind fun l S2 => (fh ρ S2).bind fun u S3 => slD2 x l u S3
theorem je_slice2 {e : Expr} {lo hi : Option Expr} {fe : Ev D} {fl fh : Ev (Option Int)} {pos p2 : Pos} (he : JE X XQ e fe) (hl : JO X XQ lo fl) (hh : JO X XQ hi fh) : JE X XQ (.Subscript e (.Slice lo hi none p2) pos) (sl2 fe fl fh) := by
  refine PE.mono (pe_slice ((sl_list.or sl_tup).or sl_all) he hl hh) fun σ H Q ⟨mp, ρ, S, G, p⟩ => ?_
  refine bindP G p fun mp1 H1 x S1 v a1 G1 r1 p1 => ?_
  refine bindP G1 p1 fun mp2 H2 l S2 l' a2 G2 r2 p2 => ?_
  refine bindP G2 p2 fun mp3 H3 u S3 u' a3 G3 r3 p3 => ?_
  cases (show l' = l from r2)
  cases (show u' = u from r3)
  have r1 := Rep.aft (a2.trans a3) _ _ r1
  cases x with
  | tup ds =>
    have p3 : Post X.K XQ σ ρ mp3 H3 (if HT.sIx ds.length 0 l = 0 ∧ HT.sIx ds.length ds.length u = ds.length then .ok (.tup ds) S3 else .ok (.tup (cutD ds l u)) S3) Q := p3
    obtain ⟨a, xs, rfl, sq, q⟩ := Rep.tup r1
    by_cases hw : HT.sIx ds.length 0 l = 0 ∧ HT.sIx ds.length ds.length u = ds.length
    · rw [if_pos hw] at p3
      exact .inr ⟨a, xs, rfl, sq, by rw [q.len]; exact hw, PostG.ok (R := Rep X.K) p3 G3.rs r1⟩
    · rw [if_neg hw] at p3
      exact .inl (.inr ⟨a, xs, rfl, sq, by rw [q.len]; exact hw, fun t ht => post_tup p3 G3.rs (q.cut l u) ht⟩)
  | lst i =>
    have p3 : Post X.K XQ σ ρ mp3 H3 (match S3[i]? with | some c => .ok (.lst S3.length) (S3 ++ [⟨false, cutD c.xs l u⟩]) | none => .bad) Q := p3
    cases zc : S3[i]? with
    | none => rw [zc] at p3; exact p3.elim
    | some c =>
      rw [zc] at p3
      obtain ⟨a, xs, rfl, _, sq, q, _⟩ := G3.rs.items r1 zc
      exact .inl (.inl ⟨a, xs, rfl, sq, fun t ht => post_lst p3 G3.rs (q.cut l u) ht⟩)
  | _ => exact (show False from p3).elim
end
end DL
set_option Elab.async false
set_option linter.all false
set_option maxRecDepth 100000
namespace DL
open PySem PySem.Spec PyProof.Rows L2
section
variable {X : Cx} {XQ : XW}
end
end DL
set_option Elab.async false
set_option linter.all false
set_option maxRecDepth 100000
namespace DL
open PySem PySem.Spec PyProof.Rows L2
theorem turnedL {X : Cx} {pins : List (Addr × Obj)} {σ : L2.St} {H : Hp} {s : Shared} {g : Heap} {tk : Nat} {ch : List Addr} (I : Inv X pins σ H s) (k : ∀ b o, b ∉ ch → s.heap.get? b = some o → g.get? b = some o) (hf : ∀ b ∈ ch, FpOk X pins H b) : Inv X pins σ H { s with heap := g, toks := tk } := by
  have nit : ∀ b u, H b = some u → b ∉ ch := fun b u e z => by have := (hf b z).1; rw [this] at e; cases e
  refine I.step (g' := s.gens) (d' := s.drawn) (ch := ch) (fun b hb => ?_) (fun b o _ _ hc e _ => k b o hc e) (fun b o _ _ hc e _ => ⟨o.slots, k b o hc e⟩) (fun _ _ _ _ n => n)
    (fun b o hc e => ⟨o, k b o hc e⟩) (fun _ _ e => e) (fun _ _ _ e => e) (fun b ps e => ⟨#[], by rw [e]; simp⟩) (fun m hm => ?_) (fun b u e => ?_) I.bare
  · obtain ⟨f0, f1, f2, f3, f4, f5⟩ := hf b hb
    exact ⟨f3, f1, f4, f5⟩
  · obtain ⟨o, es, ep, ho, r⟩ := hm
    exact ⟨o, es, ep, k _ o (fun z => (hf _ z).2.1 rfl) ho, r⟩
  · refine (I.hok b u e).stay (fun c v hc q => k c v ?_ q) (fun _ q => q) fun _ _ q => q
    rcases hc with z | z
    · rw [z]; exact nit b u e
    · exact nit c _ z
section
variable {prog : Program} {w : World} {A : Around} {E : Value → Shared → Prop} {s : Shared}
theorem nt_item {j t : Addr} {k : Nat} {vs : Array Value} {y : Value} {Q : Value → Shared → Prop} (pit : s.heap.IsTupleIter j t k) (pt : s.heap.IsTuple t vs) (py : vs[k]? = some y)
    (fin : ∀ g, g.IsTupleIter j t (k + 1) → Heap.SameBut j s.heap g → Q y { s with heap := g }) : wpAny (model prog w) A (Builtin.SmallTypes.nextOf (.ref j)) Q E s := by
  obtain ⟨u, pu, pc, pd⟩ := id pit
  obtain ⟨v, pv, _, m, pe⟩ := pt
  unfold Builtin.SmallTypes.nextOf
  refine wpAny_bind (wpAny_callSpecial?_slot (name := Str.ofString "__next__") pit.typeIs F.slot_tuple_iterator_next (wpAny_call_entry F.slot_tuple_iterator_next pit.typeIs F.entry_tuple_iterator_next ?_ (F.args_tuple_iterator_next_1 _)))
  show wpAny _ _ (field (.ref j) 0 >>= _) _ _ s
  refine wpAny_bind (wpAny_field pu pd (x := .ref t) rfl ?_)
  show wpAny _ _ (if (Value.ref t == Value.none) = true then _ else _) _ _ _
  rw [if_neg (by exact Bool.false_ne_true)]
  show wpAny _ _ (field (.ref j) 1 >>= _) _ _ s
  refine wpAny_bind (wpAny_field pu pd (x := .int k 0) rfl ?_)
  show wpAny _ _ (seqItems? (.ref t) >>= _) _ _ _
  refine wpAny_bind (wpAny_seqItems pv pe ?_)
  simp only [Int.toNat_natCast, py]
  refine wpAny_bind (wpAny_setField pu pd (by simp) (wpAny_pure ⟨y, rfl, wpAny_pure (fin _ ?_ (Heap.SameBut.update ..))⟩))
  exact ⟨_, Heap.get?_update_self _ pu (Obj.isFreed_of_fields (Obj.data_mapFields pd _)), (Obj.cls_mapFields ..).trans pc, by rw [Obj.data_mapFields pd]; simp [rawInt]⟩
theorem nt_end {j t : Addr} {k : Nat} {vs : Array Value} {Q : Value → Shared → Prop} (no : A.handled = none) (pit : s.heap.IsTupleIter j t k) (pt : s.heap.IsTuple t vs) (py : vs[k]? = none)
    (fin : ∀ g e, Heap.ExtBut j s.heap g → (∃ o, g.get? e = some o ∧ o.cls = .type "StopIteration") → E (.ref e) { s with heap := g }) : wpAny (model prog w) A (Builtin.SmallTypes.nextOf (.ref j)) Q E s := by
  obtain ⟨u, pu, pc, pd⟩ := id pit
  obtain ⟨v, pv, _, m, pe⟩ := pt
  unfold Builtin.SmallTypes.nextOf
  refine wpAny_bind (wpAny_callSpecial?_slot (name := Str.ofString "__next__") pit.typeIs F.slot_tuple_iterator_next (wpAny_call_entry F.slot_tuple_iterator_next pit.typeIs F.entry_tuple_iterator_next ?_ (F.args_tuple_iterator_next_1 _)))
  show wpAny _ _ (field (.ref j) 0 >>= _) _ _ s
  refine wpAny_bind (wpAny_field pu pd (x := .ref t) rfl ?_)
  show wpAny _ _ (if (Value.ref t == Value.none) = true then _ else _) _ _ _
  rw [if_neg (by exact Bool.false_ne_true)]
  show wpAny _ _ (field (.ref j) 1 >>= _) _ _ s
  refine wpAny_bind (wpAny_field pu pd (x := .int k 0) rfl ?_)
  show wpAny _ _ (seqItems? (.ref t) >>= _) _ _ _
  refine wpAny_bind (wpAny_seqItems pv pe ?_)
  simp only [Int.toNat_natCast, py]
  refine wpAny_bind (wpAny_rule (wpAny_bind (wpAny_setField pu pd (by simp) ?_)))
  show wpAny _ _ (newExc (.type "StopIteration") [] >>= _) _ _ (_ : Shared)
  refine wpAny_bind ?_
  simp only [newExc, newTuple]
  refine wpAny_bind (wpAny_newObj_type ?_ (by size_fits))
  refine wpAny_bind (m := firstArgMember _ _) (wpAny_of_eq (a := Value.none) (by (first | rfl | (simp only [firstArgMember]; rfl))) ?_)
  refine wpAny_newObj_type ?_ (by size_fits)
  simp only [raiseNew]
  refine wpAny_bind (wpAny_handled ?_)
  first
    | rw [show A.in1.handled = none from no]
    | rw [no]
  refine wpAny_bind (wpAny_pure (wpAny_throw ?_))
  exact fin _ _ (((Heap.SameBut.update ..).extBut.push _).push _) ⟨_, Heap.get?_push_size _ rfl, rfl⟩
theorem en_item {e j t : Addr} {k : Nat} {vs : Array Value} {y old : Value} {Q : Option Value → Shared → Prop} (pe : IsEnum s.heap e j k old) (pit : s.heap.IsTupleIter j t k) (pt : s.heap.IsTuple t vs) (py : vs[k]? = some y) (ne : e ≠ j)
    (fin : ∀ g, IsEnumOut g e j ((k : Int) + 1) y s.heap.objs.size → g.IsTupleIter j t (k + 1) → g.get? s.heap.objs.size = some { cls := .type "tuple", data := .seq #[.int k s.toks, y] } →
      (∀ b o, b ≠ e → b ≠ j → s.heap.get? b = some o → g.get? b = some o) → Q (some (.ref s.heap.objs.size)) { s with heap := g, toks := s.toks + 1 }) : wpAny (model prog w) A (pyNext (.ref e)) Q E s := by
  have ty : s.TypeIs (.ref e) "enumerate" := ⟨_, pe, rfl⟩
  unfold pyNext
  refine wpAny_bind (wpAny_attempt (wpAny_callSpecial?_slot (name := Str.ofString "__next__") ty F.slot_enumerate_next (wpAny_call_entry F.slot_enumerate_next ty F.entry_enumerate_next ?_ (F.args_enumerate_next_1 _))))
  obtain ⟨hp, gs, dr, tk, os⟩ := s
  show wpAny _ _ (field (.ref e) 2 >>= _) _ _ (_ : Shared)
  refine wpAny_bind (wpAny_field pe rfl (x := .ref j) rfl ?_)
  refine wpAny_bind (nt_item pit pt py fun g1 i1 b1 => ?_)
  replace b1 : Heap.SameBut j hp g1 := b1
  have q1 : IsEnum g1 e j k old := (b1.2 e ne).trans pe
  show wpAny _ _ (field (.ref e) 3 >>= _) _ _ ⟨g1, gs, dr, tk, os⟩
  refine wpAny_bind (wpAny_field q1 rfl (x := rawInt k) rfl ?_)
  show wpAny _ _ (field (.ref e) 4 >>= _) _ _ ⟨g1, gs, dr, tk, os⟩
  refine wpAny_bind (wpAny_field q1 rfl (x := .none) rfl ?_)
  show wpAny _ _ (mkInt k >>= _) _ _ ⟨g1, gs, dr, tk, os⟩
  refine wpAny_bind (wpAny_mkInt ?_)
  show wpAny _ _ (setField (.ref e) 3 (rawInt ((k : Int) + 1)) >>= _) _ _ ⟨g1, gs, dr, tk + 1, os⟩
  refine wpAny_bind (wpAny_setField_rec q1 (by simp) fun g2 q2 b2 => ?_)
  replace b2 : Heap.SameBut e g1 g2 := b2
  replace q2 : IsEnum g2 e j ((k : Int) + 1) old := q2
  show wpAny _ _ (setField (.ref e) 4 .none >>= _) _ _ ⟨g2, gs, dr, tk + 1, os⟩
  refine wpAny_bind (wpAny_setField_rec q2 (by simp) fun g3 q3 b3 => ?_)
  replace b3 : Heap.SameBut e g2 g3 := b3
  replace q3 : IsEnum g3 e j ((k : Int) + 1) old := q3
  show wpAny _ _ (newTuple [.int k tk, y] >>= _) _ _ ⟨g3, gs, dr, tk + 1, os⟩
  refine wpAny_bind (wpAny_newTuple ?_)
  have q4 : IsEnum (g3.push { cls := .type "tuple", data := .seq #[.int k tk, y] }) e j ((k : Int) + 1) old := Heap.get?_push_of_some _ q3
  have sz : g3.objs.size = hp.objs.size := by rw [b3.1, b2.1, b1.1]
  have el : e < hp.objs.size := Heap.lt_size pe
  have t4 : (g3.push { cls := .type "tuple", data := .seq #[.int k tk, y] }).get? hp.objs.size = some { cls := .type "tuple", data := .seq #[.int k tk, y] } := by rw [← sz]; exact Heap.get?_push_size _ rfl
  have k4 : ∀ b o, b ≠ e → b ≠ j → hp.get? b = some o → (g3.push { cls := .type "tuple", data := .seq #[.int k tk, y] }).get? b = some o := fun b o z1 z2 z3 =>
    Heap.get?_push_of_some _ (b3.extBut b o z1 (b2.extBut b o z1 (b1.extBut b o z2 z3)))
  have i4 : (g3.push { cls := .type "tuple", data := .seq #[.int k tk, y] }).IsTupleIter j t (k + 1) := by
    obtain ⟨o, ho, r⟩ := (i1.extBut b2.extBut (Ne.symm ne)).extBut b3.extBut (Ne.symm ne)
    exact ⟨o, Heap.get?_push_of_some _ ho, r⟩
  generalize g3.push { cls := .type "tuple", data := .seq #[.int k tk, y] } = g4 at *
  rw [sz]
  show wpAny _ _ (Builtin.SmallTypes.ownedTupleIsFree (.ref e) >>= _) _ _ ⟨g4, gs, dr, tk + 1, os⟩
  refine wpAny_bind ?_
  unfold Builtin.SmallTypes.ownedTupleIsFree
  refine wpAny_bind (wpAny_field q4 rfl (x := .none) rfl (wpAny_pure ?_))
  simp only [if_true]
  refine wpAny_bind (wpAny_rule ?_)
  refine wpAny_bind (wpAny_field q4 rfl (x := old) rfl ?_)
  refine wpAny_bind (wpAny_setField_rec q4 (by simp) fun g5 q5 b5 => ?_)
  replace b5 : Heap.SameBut e g4 g5 := b5
  replace q5 : IsEnum g5 e j ((k : Int) + 1) y := q5
  show wpAny _ _ (Builtin.SmallTypes.ownedTupleHandOut (.ref e) (.ref hp.objs.size) >>= _) _ _ ⟨g5, gs, dr, tk + 1, os⟩
  refine wpAny_bind ?_
  unfold Builtin.SmallTypes.ownedTupleHandOut
  refine wpAny_bind (wpAny_setField_rec q5 (by simp) fun g6 q6 b6 => ?_)
  replace b6 : Heap.SameBut e g5 g6 := b6
  replace q6 : IsEnumOut g6 e j ((k : Int) + 1) y hp.objs.size := q6
  refine wpAny_setField_rec q6 (by simp) fun g7 q7 b7 => ?_
  replace b7 : Heap.SameBut e g6 g7 := b7
  replace q7 : IsEnumOut g7 e j ((k : Int) + 1) y hp.objs.size := q7
  refine wpAny_bind (wpAny_letGo (wpAny_pure ⟨_, rfl, wpAny_pure (fin g7 q7 ?_ ?_ ?_)⟩))
  · exact ((i4.extBut b5.extBut (Ne.symm ne)).extBut b6.extBut (Ne.symm ne)).extBut b7.extBut (Ne.symm ne)
  · exact b7.extBut _ _ (Nat.ne_of_gt el) (b6.extBut _ _ (Nat.ne_of_gt el) (b5.extBut _ _ (Nat.ne_of_gt el) t4))
  · exact fun b o z1 z2 z3 => b7.extBut b o z1 (b6.extBut b o z1 (b5.extBut b o z1 (k4 b o z1 z2 z3)))
theorem en_end {e j t : Addr} {k : Nat} {vs : Array Value} {old : Value} {Q : Option Value → Shared → Prop} (no : A.handled = none) (pe : IsEnum s.heap e j k old) (pit : s.heap.IsTupleIter j t k) (pt : s.heap.IsTuple t vs) (py : vs[k]? = none)
    (fin : ∀ g, Heap.ExtBut j s.heap g → Q none { s with heap := g }) : wpAny (model prog w) A (pyNext (.ref e)) Q E s := by
  have ty : s.TypeIs (.ref e) "enumerate" := ⟨_, pe, rfl⟩
  unfold pyNext
  refine wpAny_bind (wpAny_attempt (wpAny_callSpecial?_slot (name := Str.ofString "__next__") ty F.slot_enumerate_next (wpAny_call_entry F.slot_enumerate_next ty F.entry_enumerate_next ?_ (F.args_enumerate_next_1 _))))
  show wpAny _ _ (field (.ref e) 2 >>= _) _ _ (_ : Shared)
  refine wpAny_bind (wpAny_field pe rfl (x := .ref j) rfl ?_)
  refine wpAny_bind (nt_end no pit pt py fun g x b1 ⟨o, ho, hc⟩ => ?_)
  refine wpAny_bind (wpAny_isInstance (T := "StopIteration") (b := true) ⟨o, ho, hc⟩ isSubtype_stop ?_)
  exact wpAny_pure (fin _ b1)
abbrev enG (g : Heap) (t : Addr) : Heap := g.push { cls := .type "tuple_iterator", data := .fields #[.ref t, .int 0 0] }
theorem meets_en (t : Addr) (vs : Array Value) (n : Nat) (dd : Option Addr) (sl : Array (Option Value)) :
    Meets (Builtin.«enumerate.__new__» ⟨[.type "enumerate", .ref t], []⟩) (fun _ R s => s.heap.get? t = some { cls := .type "tuple", dict := dd, data := .seq vs n, slots := sl } ∧
      R (.ok (.ret (.ref (enG s.heap t).objs.size))) { s with heap := (enG s.heap t).push { cls := .type "enumerate", data := .fields #[.none, .bool false, .ref s.heap.objs.size, rawInt 0, .none, .none] } }) :=
  .of_wp fun prog w A R s h => by
    obtain ⟨hp, g, d, tk, os⟩ := s; obtain ⟨hl, h⟩ := h
    have hsub := sub_enumerate
    have hT : Heap.IsTuple (Shared.heap ⟨hp, g, d, tk, os⟩) t vs := ⟨_, hl, rfl, n, rfl⟩
    wp_walk using AutoSeq1.wpAny_loadPart' hl
    refine wpAny_stack_any fun st => wpAny_pure ?_
    split
    · rename_i c _ _ _ _ _
      cases (c == Value.type "enumerate")
      · wp_walk using AutoSeq1.wpAny_loadPart' hl, wpAny_pyIter_tuple hT
        exact ⟨_, rfl, h⟩
      · wp_walk using AutoSeq1.wpAny_loadPart' hl, wpAny_pyIter_tuple hT
        exact ⟨_, rfl, h⟩
    · wp_walk using AutoSeq1.wpAny_loadPart' hl, wpAny_pyIter_tuple hT
      exact ⟨_, rfl, h⟩
theorem call_en {t : Addr} {vs : Array Value} {Q : Value → Shared → Prop} (pt : s.heap.IsTuple t vs)
    (fin : ∀ g, IsEnum g (s.heap.objs.size + 1) s.heap.objs.size 0 .none → g.IsTupleIter s.heap.objs.size t 0 → (∀ b o, s.heap.get? b = some o → g.get? b = some o) → Q (.ref (s.heap.objs.size + 1)) { s with heap := g }) :
    wpAny (model prog w) A (call (.type "enumerate") [.ref t]) Q E s := by
  obtain ⟨⟨oc, od, odt, osl⟩, ho, hc, n, hd⟩ := pt
  cases (show oc = .type "tuple" from hc)
  cases (show odt = .seq vs n from hd)
  refine callType_new F.called_enumerate (by decide) (F.typeCall_enumerate_1 _) (F.newCall_enumerate_1 _) (fun obj => F.args_object_init_2 obj _) F.entry_enumerate_new (meets_en t vs n od osl) ⟨ho, ?_⟩
  have hz : (enG s.heap t).objs.size = s.heap.objs.size + 1 := Heap.size_push ..
  have he : IsEnum ((enG s.heap t).push { cls := .type "enumerate", data := .fields #[.none, .bool false, .ref s.heap.objs.size, rawInt 0, .none, .none] }) (s.heap.objs.size + 1) s.heap.objs.size 0 .none := by
    have := Heap.get?_push_size (enG s.heap t) (o := { cls := .type "enumerate", data := .fields #[.none, .bool false, .ref s.heap.objs.size, rawInt 0, .none, .none] }) rfl
    rw [hz] at this
    exact this
  show _ ∧ _
  rw [hz]
  exact ⟨⟨_, he, rfl⟩, fin _ he ⟨_, Heap.get?_push_of_some _ (Heap.get?_push_size _ rfl), rfl, rfl⟩ fun b o x => Heap.get?_push_of_some _ (Heap.get?_push_of_some _ x)⟩
end
end DL
set_option Elab.async false
set_option linter.all false
set_option maxRecDepth 100000
namespace DL
open PySem PySem.Spec PyProof.Rows L2
theorem laid_turned {X : Cx} {pins : List (Addr × Obj)} {σ : L2.St} {H : Hp} {s : Shared} {g : Heap} {tk : Nat} {ch : List Addr} {vs : List V} {us : List Value} (I : Inv X pins σ H s) (hn : H s.heap.objs.size = none) (hz : vs.length ≤ sizeLine) (rv : Vals vs us)
    (tt : g.get? s.heap.objs.size = some { cls := .type "tuple", data := .seq us.toArray }) (k : ∀ b o, b ∉ ch → s.heap.get? b = some o → g.get? b = some o) (hf : ∀ b ∈ ch, FpOk X pins H b) (ltf : ∀ b ∈ ch, b ≠ s.heap.objs.size) :
    Inv X pins σ (upd H s.heap.objs.size (.tup vs)) { s with heap := g, toks := tk } := by
  have I1 : Inv X pins σ (upd H s.heap.objs.size (.tup vs)) { s with heap := s.heap.push { cls := .type "tuple", data := .seq us.toArray } } :=
    I.laid (t' := s.toks) (fun b o e => Heap.get?_push_of_some _ e) (Nat.le_refl _) (show ObjOk X.prog X.w _ _ _ (.tup vs) from ⟨hz, us, rv, IsTup.new _ _⟩)
  refine turnedL (ch := ch) (s := { s with heap := s.heap.push { cls := .type "tuple", data := .seq us.toArray } }) I1 (fun b o hb e => ?_) fun b hb => ?_
  · by_cases hs : b = s.heap.objs.size
    · subst hs
      rw [Heap.get?_push_size _ rfl] at e
      cases e
      exact tt
    · have : s.heap.get? b = some o := by
        rcases Heap.get?_push_cases e with ⟨z, _⟩ | z
        · exact absurd z hs
        · exact z
      exact k b o hb this
  · obtain ⟨f0, f⟩ := hf b hb
    exact ⟨by rw [upd_ne (ltf b hb)]; exact f0, f⟩
def Ite (K : PySem.W.Frag) (a : Addr) : It :=
  ⟨fun i H => ∃ xs x, SqT K H a xs ∧ xs[i]? = some x, fun i H x H' => ∃ y p, (∀ xs, SqT K H a xs → xs[i]? = some y) ∧ H p = none ∧ x = .ref p ∧ H' = upd H p (.tup [.int i, y]), fun i H => ∃ xs, SqT K H a xs ∧ xs.length ≤ i⟩
theorem turn_enum {P : Program} {w : World} {K : PySem.W.Frag} {es : List Expr} {x1} {pos : Pos} (a it e : Addr) (ne : e ≠ it) :
    Turn P w K (.Tuple es x1 pos) (Ite K a) [e, it] e (fun i h => (∃ old, IsEnum h e it i old) ∧ h.IsTupleIter it a i) where
  mem := by simp
  obj := fun i h ⟨⟨old, st⟩, o, e1, c, d⟩ b hb => by
    rcases List.mem_cons.mp hb with rfl | hb
    · exact ⟨_, st, fun v z => by
        have z' : Data.fields _ = Data.cell v := z
        cases z'⟩
    · have eb : b = it := by simpa using hb
      subst eb
      exact ⟨o, e1, fun v z => by rw [d] at z; cases z⟩
  keep := fun i h h' ⟨⟨old, st⟩, ti⟩ k => ⟨⟨old, k e (by simp) _ st⟩, ti.at fun o e1 => k it (by simp) o e1⟩
  item := by
    intro X hP hw hK hc i pins s σ H E I hf ⟨⟨old, st⟩, ti⟩ hg
    subst hP hw hK
    obtain ⟨xs, x, hq, hx⟩ := hg
    obtain ⟨its, rv, p, hz⟩ := I.tuple hq
    obtain ⟨u, hu, ru⟩ := rv.get hx
    have hn : H s.heap.objs.size = none := I.hok.fresh (Nat.le_refl _)
    refine en_item st ti (show s.heap.IsTuple a its.toArray from p) (y := u) (by simpa using hu) ne fun g oe ti' tt kk => ?_
    refine ⟨_, rfl, wpAny_letOwnedTupleGo_enum oe fun g2 e2 b2 => ?_⟩
    have kk2 : ∀ b o, b ∉ [e, it] → s.heap.get? b = some o → g2.get? b = some o := fun b o hb h1 =>
      b2.extBut b o (fun z => hb (by simp [z])) (kk b o (fun z => hb (by simp [z])) (fun z => hb (by simp [z])) h1)
    have el : s.heap.objs.size ≠ e := Nat.ne_of_gt (Heap.lt_size st)
    have tt2 : g2.get? s.heap.objs.size = some { cls := .type "tuple", data := .seq #[.int i s.toks, u] } := b2.extBut _ _ el tt
    have ltf : ∀ b ∈ [e, it], b ≠ s.heap.objs.size := fun b hb => by
      rcases List.mem_cons.mp hb with rfl | hb
      · exact Ne.symm el
      · have eb : b = it := by simpa using hb
        subst eb
        obtain ⟨o, e1, _⟩ := ti
        exact Nat.ne_of_lt (Heap.lt_size e1)
    have I2 : Inv X pins σ (upd H s.heap.objs.size (.tup [.int i, x])) { s with heap := g2, toks := s.toks + 1 } :=
      laid_turned I hn (by rw [sizeLine_eq]; simp only [List.length_cons, List.length_nil]; decide) (.cons ⟨s.toks, rfl⟩ (.cons ru .nil)) tt2 kk2 hf ltf
    exact ⟨.ref s.heap.objs.size, _, I2, rfl, ⟨x, _, fun ys hy => by rw [I.tuple_inj hy hq]; exact hx, hn, rfl, rfl⟩, ⟨⟨u, e2⟩, ti'.extBut b2.extBut (Ne.symm ne)⟩, fun b hb => by
      rw [upd_ne (ltf b hb)]
      exact (hf b hb).1⟩
  done := by
    intro X hP hw hK hc i pins s σ H E I hf ⟨⟨old, st⟩, ti⟩ hg
    subst hP hw hK
    obtain ⟨xs, hq, hx⟩ := hg
    obtain ⟨its, rv, p, hz⟩ := I.tuple hq
    have hl := rv.length
    exact en_end (I.ok.hd hc) st ti (show s.heap.IsTuple a its.toArray from p) (by simp; omega) fun g eb => ⟨rfl, turnedL I (fun b o hb e1 => eb b o (fun z => hb (by simp [z])) e1) hf⟩
  self := fun _ _ _ _ _ ⟨⟨_, st⟩, _⟩ h => wpAny_pyIter_enum st h
section
variable {X : Cx} {XQ : XW}
def iEnu (K : PySem.W.Frag) (ta : TA) : TI := fun σ H R => ta σ H fun xs H1 => ∃ a, xs = [.ref a] ∧ (∃ ys, SqT K H1 a ys) ∧ R (Ite K a) H1
theorem pi_enum {es : List Expr} {x1} {tp : Pos} {a : Expr} {ta : TA} {p pos : Pos} (hg : Gl X "enumerate") (hm : X.mg "enumerate" = none) (ha : PA X [a] ta) (hs : starEach [a] X.env = [(false, eval a X.env)] := by rfl) :
    PI X (.Tuple es x1 tp) (.Call (.Name "enumerate" p) [a] [] pos) (iEnu X.K ta) := by
  intro pins s σ H R I h
  refine wpAny_Call_Name_kw (ld_blt I hg hm (by rfl) ?_ (by decide) (by decide))
  refine PyProof.Rows.callWith_type1 (thn (ha pos pins s σ H _ I h) fun us s1 ⟨vs, H1, I1, r1, q1⟩ => ?_) hs rfl
  obtain ⟨c, e, ⟨ys, hq⟩, q⟩ := q1
  subst e
  obtain ⟨u, rfl, rx⟩ := vals1 r1
  cases rx
  obtain ⟨its, rv, pt, hz⟩ := I1.tuple hq
  refine call_en (show s1.heap.IsTuple c its.toArray from pt) fun g e1 i1 kk => ?_
  refine wpAny_pyIter_enum e1 ?_
  have I2 : Inv X pins σ H1 { s1 with heap := g } := I1.kept (t' := s1.toks) kk
  refine ⟨s1.heap.objs.size + 1, [s1.heap.objs.size + 1, s1.heap.objs.size], _, _, H1, rfl, I2, turn_enum c s1.heap.objs.size (s1.heap.objs.size + 1) (Nat.succ_ne_self _), ⟨⟨.none, e1⟩, i1⟩, fun b hb => ?_, q⟩
  have hb' : s1.heap.objs.size ≤ b := by
    rcases List.mem_cons.mp hb with rfl | hb
    · exact Nat.le_succ _
    · have eb : b = s1.heap.objs.size := by simpa using hb
      exact Nat.le_of_eq eb.symm
  exact I1.fpOk hb' (I1.hok.fresh hb')
def ienumerate (f : Ev (List D)) : Ev Src := fun ρ S => (f ρ S).bind fun ds S1 => match ds with
  | [.tup l] => .ok ⟨fun k _ => (l[k]?).map fun d => .tup [.int k, d], l.length + 1⟩ S1
  | _ => .bad
theorem ite_ok {K : PySem.W.Frag} {mp : List Addr} {H : Hp} {a : Addr} {xs : List V} {l : List D} (s : SqT K H a xs) (r : RepL K mp H l xs) : ItOk K mp H (Ite K a) (fun k _ => (l[k]?).map fun d => .tup [.int k, d]) := by
  intro mp' H' S' af rs k
  have s' := af.tup _ _ s
  have r' := RepL.aft af _ _ r
  show match (l[k]?).map (fun d => D.tup [.int k, d]) with
    | some d => (Ite K a).go k H' ∧ ∀ x H2, (Ite K a).yld k H' x H2 → Aft K mp' H' mp' H2 ∧ RS K mp' H2 S' ∧ Rep K mp' H2 d x
    | none => (Ite K a).stop k H'
  cases z : l[k]? with
  | none =>
    refine ⟨xs, s', ?_⟩
    rw [r.len]
    exact List.getElem?_eq_none_iff.mp z
  | some d =>
    obtain ⟨v, e, q⟩ := r'.get z
    refine ⟨⟨xs, v, s', e⟩, fun x H2 ⟨y, p, h2, h3, h4, h5⟩ => ?_⟩
    have h2 := h2 xs s'
    rw [e] at h2
    cases h2
    subst h4 h5
    have af2 : Aft K mp' H' mp' (upd H' p (.tup [.int k, v])) := aft_new h3
    exact ⟨af2, rs.new h3, p, _, rfl, SqT.of upd_same, RepL.cons rfl (RepL.cons (Rep.aft af2 _ _ q) RepL.nil)⟩
theorem ji_enumerate {es : List Expr} {x1} {tp : Pos} {a : Expr} {f : Ev (List D)} {p pos : Pos} (hg : Gl X "enumerate") (hm : X.mg "enumerate" = none) (ha : JA X XQ [a] f) (hs : starEach [a] X.env = [(false, eval a X.env)] := by rfl) :
    JI X XQ (.Tuple es x1 tp) (.Call (.Name "enumerate" p) [a] [] pos) (ienumerate f) := by
  refine PI.mono (pi_enum hg hm ha hs) fun σ H R ⟨mp, ρ, S, G, p⟩ => ?_
  refine bindP G p fun mp1 H1 ds S1 vs a1 G1 r1 p1 => ?_
  split at p1
  · rename_i l
    obtain ⟨v, rfl, h1⟩ := RepL.one r1
    obtain ⟨c, xs, rfl, s, q⟩ := Rep.tup h1
    exact ⟨c, rfl, ⟨xs, s⟩, PostG.ok (R := kI X.K) (d := ⟨fun k _ => (l[k]?).map fun d => .tup [.int k, d], l.length + 1⟩) (S := S1) p1 G1.rs (ite_ok s q)⟩
  · exact p1.elim
end
end DL
set_option Elab.async false
set_option linter.all false
set_option maxRecDepth 100000
namespace DL
open PySem PySem.Spec PyProof.Rows L2
structure Za (z ti to' i j a b : Addr) : Prop where
  q1 : ti ≠ z
  q2 : to' ≠ z
  q3 : i ≠ z
  q4 : j ≠ z
  q5 : ti ≠ to'
  q6 : ti ≠ i
  q7 : ti ≠ j
  q8 : to' ≠ i
  q9 : to' ≠ j
  q10 : i ≠ j
  q11 : a ≠ z
  q12 : a ≠ to'
  q13 : a ≠ i
  q14 : a ≠ j
  q15 : b ≠ z
  q16 : b ≠ to'
  q17 : b ≠ i
  q18 : b ≠ j
section
variable {prog : Program} {w : World} {A : Around} {E : Value → Shared → Prop} {s : Shared}
end
end DL
set_option Elab.async false
set_option linter.all false
set_option maxRecDepth 100000
namespace DL
open PySem PySem.Spec PyProof.Rows L2
section
variable {X : Cx} {XQ : XW}
end
end DL
set_option Elab.async false
set_option linter.all false
set_option maxRecDepth 100000
namespace DL
open PySem PySem.Spec PyProof.Rows L2
section
variable {prog : Program} {w : World} {A : Around} {E : Value → Shared → Prop} {s : Shared}
end
section
variable {X : Cx} {XQ : XW}
def rvD (x : D) (st : Option Int) (S : Sto) : Out D := match x, st with
  | .tup l, some (-1) => .ok (.tup l.reverse) S
  | _, _ => .bad
def rv (fe : Ev D) (fs : Ev (Option Int)) : Ev D := fun ρ S => (fe ρ S).bind fun x S1 => (fs ρ S1).bind fun o S2 => rvD x o S2
end
end DL
set_option Elab.async false
set_option linter.all false
set_option maxRecDepth 100000
namespace DL
open PySem PySem.Spec PyProof.Rows L2
structure GE (X : Cx) (XQ : XW) (e : Expr) (f : Ev D) : Prop where
  h : JE X XQ e f
structure GA (X : Cx) (XQ : XW) (es : List Expr) (f : Ev (List D)) : Prop where
  h : JA X XQ es f
structure GT (X : Cx) (XQ : XW) (e : Expr) (f : Ev Bool) : Prop where
  h : JT X XQ e f
structure GW (X : Cx) (XQ : XW) (e : Expr) (f : Ev Bool) : Prop where
  h : JW X XQ e f
structure GO (X : Cx) (XQ : XW) (e : Option Expr) (f : Ev (Option Int)) : Prop where
  h : JO X XQ e f
structure GS (X : Cx) (XQ : XW) (st : Stmt) (f : Sv) : Prop where
  h : JS X XQ st f
structure GSs (X : Cx) (XQ : XW) (st : List Stmt) (f : Sv) : Prop where
  h : JSs X XQ st f
structure GI (X : Cx) (XQ : XW) (tg it : Expr) (f : Ev Src) : Prop where
  h : JI X XQ tg it f
structure GG (X : Cx) (tg : Expr) (g : Tg) : Prop where
  h : JG X tg g
structure GGs (X : Cx) (ts : List Expr) (g : Tgs) : Prop where
  h : JGs X ts g
structure GTs (Y : Cx) (XQ : XW) (ifs : List Expr) (t : Ev Bool) : Prop where
  h : JTs Y XQ ifs t
section
variable {X : Cx} {XQ : XW}
theorem ge_non {j pos} : GE X XQ (.Constant .none j pos) (cn .non) := ⟨je_non ⟩
end
section
variable {X : Cx} {XQ : XW}
theorem ge_bl {b : Bool} {j pos} : GE X XQ (.Constant (.bool b) j pos) (cn (.bl b)) := ⟨je_bl ⟩
end
section
variable {X : Cx} {XQ : XW}
theorem ge_int {i : Int} {j pos} : GE X XQ (.Constant (.int i) j pos) (cn (.int i)) := ⟨je_int ⟩
end
section
variable {X : Cx} {XQ : XW}
theorem ge_str {x : Str} {j pos} : GE X XQ (.Constant (.str x) j pos) (cn (.str x)) := ⟨je_str ⟩
end
section
variable {X : Cx} {XQ : XW}
theorem ge_add {a b : Expr} {fa fb : Ev D} {pos : Pos} (ha : GE X XQ a fa) (hb : GE X XQ b fb) : GE X XQ (.BinOp a .Add b pos) (o2 addD fa fb) := ⟨je_add ha.h hb.h⟩
end
section
variable {X : Cx} {XQ : XW} {a b : Expr} {fa fb : Ev D} {pos : Pos}
theorem ge_sub (ha : GE X XQ a fa) (hb : GE X XQ b fb) : GE X XQ (.BinOp a .Sub b pos) (o2 subD fa fb) := ⟨je_sub ha.h hb.h⟩
end
section
variable {X : Cx} {XQ : XW}
theorem ge_mul {a b : Expr} {fa fb : Ev D} {pos : Pos} (ha : GE X XQ a fa) (hb : GE X XQ b fb) : GE X XQ (.BinOp a .Mult b pos) (o2 mulD fa fb) := ⟨je_mul ha.h hb.h⟩
end
section
variable {X : Cx} {XQ : XW} {a b : Expr} {fa fb : Ev D} {pos : Pos}
theorem ge_mod (ha : GE X XQ a fa) (hb : GE X XQ b fb) : GE X XQ (.BinOp a .Mod b pos) (o2 modD fa fb) := ⟨je_mod ha.h hb.h⟩
end
section
variable {X : Cx} {XQ : XW}
theorem ge_div2 {a b : Expr} {fa fb : Ev D} {pos : Pos} (ha : GE X XQ a fa) (hb : GE X XQ b fb) : GE X XQ (.BinOp a .FloorDiv b pos) (o2 divD2 fa fb) := ⟨je_div2 ha.h hb.h⟩
end
section
variable {X : Cx} {XQ : XW} {a b : Expr} {fa fb : Ev D} {pos : Pos}
theorem ge_pow (ha : GE X XQ a fa) (hb : GE X XQ b fb) : GE X XQ (.BinOp a .Pow b pos) (o2 powD fa fb) := ⟨je_pow ha.h hb.h⟩
end
section
variable {X : Cx} {XQ : XW} {a b : Expr} {fa fb : Ev D} {pos : Pos}
theorem ge_lt (ha : GE X XQ a fa) (hb : GE X XQ b fb) : GE X XQ (.Compare a [.Lt] [b] pos) (o2 ltD fa fb) := ⟨je_lt ha.h hb.h⟩
end
section
variable {X : Cx} {XQ : XW} {a b : Expr} {fa fb : Ev D} {pos : Pos}
theorem ge_le (ha : GE X XQ a fa) (hb : GE X XQ b fb) : GE X XQ (.Compare a [.LtE] [b] pos) (o2 leD fa fb) := ⟨je_le ha.h hb.h⟩
end
section
variable {X : Cx} {XQ : XW} {a b : Expr} {fa fb : Ev D} {pos : Pos}
end
section
variable {X : Cx} {XQ : XW} {a b : Expr} {fa fb : Ev D} {pos : Pos}
theorem ge_ge (ha : GE X XQ a fa) (hb : GE X XQ b fb) : GE X XQ (.Compare a [.GtE] [b] pos) (o2 geD fa fb) := ⟨je_ge ha.h hb.h⟩
end
section
variable {X : Cx} {XQ : XW}
theorem ge_eq {a b : Expr} {fa fb : Ev D} {pos : Pos} (hu : X.A.units + 64 < cLine) (ha : GE X XQ a fa) (hb : GE X XQ b fb) : GE X XQ (.Compare a [.Eq] [b] pos) (o2 eqD fa fb) := ⟨je_eq hu ha.h hb.h⟩
end
section
variable {X : Cx} {XQ : XW}
end
section
variable {X : Cx} {XQ : XW} {a b : Expr} {fa fb : Ev D} {pos : Pos}
end
section
variable {X : Cx} {XQ : XW} {a b : Expr} {fa fb : Ev D} {pos : Pos}
end
section
variable {X : Cx} {XQ : XW} {a b : Expr} {fa fb : Ev D} {pos : Pos}
end
section
variable {X : Cx} {XQ : XW} {a b : Expr} {fa fb : Ev D} {pos : Pos}
end
section
variable {X : Cx} {XQ : XW}
theorem ge_and {a b : Expr} {rest : List Expr} {f g : Ev D} {pos : Pos} (ha : GE X XQ a f) (hb : GE X XQ (.BoolOp .And (b :: rest) pos) g) : GE X XQ (.BoolOp .And (a :: b :: rest) pos) (va f g) := ⟨je_and ha.h hb.h⟩
end
section
variable {X : Cx} {XQ : XW}
end
section
variable {X : Cx} {XQ : XW}
theorem ge_one {a : Expr} {op} {f : Ev D} {pos : Pos} (h : GE X XQ a f) : GE X XQ (.BoolOp op [a] pos) f := ⟨je_one h.h⟩
end
section
variable {X : Cx} {XQ : XW}
theorem ge_not {a : Expr} {f : Ev D} {pos : Pos} (ha : GE X XQ a f) : GE X XQ (.UnaryOp .Not a pos) (vn f) := ⟨je_not ha.h⟩
end
section
variable {X : Cx} {XQ : XW}
theorem ge_neg {a : Expr} {fa : Ev D} {pos : Pos} (ha : GE X XQ a fa) : GE X XQ (.UnaryOp .USub a pos) (o1 negD fa) := ⟨je_neg ha.h⟩
end
section
variable {X : Cx} {XQ : XW}
theorem ge_ifx {a b c : Expr} {fc : Ev Bool} {fa fb : Ev D} {pos : Pos} (hc : GT X XQ c fc) (ha : GE X XQ a fa) (hb : GE X XQ b fb) : GE X XQ (.IfExp c a b pos) (ie fc fa fb) := ⟨je_ifx hc.h ha.h hb.h⟩
end
section
variable {X : Cx} {XQ : XW}
theorem ge_get {a b : Expr} {fa fb : Ev D} {pos : Pos} (ha : GE X XQ a fa) (hb : GE X XQ b fb) (hs : PlainIx b := by intro _ _; rfl) : GE X XQ (.Subscript a b pos) (o2 getD fa fb) := ⟨je_get ha.h hb.h hs⟩
end
section
variable {X : Cx} {XQ : XW}
theorem ge_slice2 {e : Expr} {lo hi : Option Expr} {fe : Ev D} {fl fh : Ev (Option Int)} {pos p2 : Pos} (he : GE X XQ e fe) (hl : GO X XQ lo fl) (hh : GO X XQ hi fh) : GE X XQ (.Subscript e (.Slice lo hi none p2) pos) (sl2 fe fl fh) := ⟨je_slice2 he.h hl.h hh.h⟩
end
section
variable {X : Cx} {XQ : XW}
end
section
variable {X : Cx} {XQ : XW}
theorem ge_lst {es : List Expr} {f : Ev (List D)} {pos : Pos} (h : GA X XQ es f) : GE X XQ (.List es pos) (ls f) := ⟨je_lst h.h⟩
end
section
variable {X : Cx} {XQ : XW}
theorem ge_tup {es : List Expr} {f : Ev (List D)} {x1} {pos : Pos} (h : GA X XQ es f) : GE X XQ (.Tuple es x1 pos) (tp f) := ⟨je_tup h.h⟩
end
section
variable {X : Cx} {XQ : XW}
theorem ge_isi {T : String} {x : Str} {e : Expr} {f : Ev D} {p p2 pos : Pos} (k : Kit X.K T) (hv : bootBuiltins x = some (.type T)) (hnx : x ≠ "__name__") (hdx : (x == ("__debug__" : Str)) = false) (hg : Gl X "isinstance") (hm : X.mg "isinstance" = none) (hgt : Gl X x) (hmt : X.mg x = none) (he : GE X XQ e f) (hs : starEach [e, .Name x p2] X.env = (false, eval e X.env) :: starEach [.Name x p2] X.env) (hpl : (backTo pos (starEach [.Name x p2] X.env)).any (·.1) = false) (hs2 : starEach [.Name x p2] X.env = (false, eval (.Name x p2) X.env) :: starEach [] X.env) : GE X XQ (.Call (.Name "isinstance" p) [e, .Name x p2] [] pos) (o1 (isD T) f) := ⟨je_isi k hv hnx hdx hg hm hgt hmt he.h hs hpl hs2⟩
end
section
variable {X : Cx} {XQ : XW}
theorem ge_len {p pos : Pos} {e : Expr} {f : Ev (List D)} (hg : Gl X "len") (hm : X.mg "len" = none) (ha : GA X XQ [e] f) (he : starEach [e] X.env = (false, eval e X.env) :: starEach [] X.env := by rfl) : GE X XQ (.Call (.Name "len" p) [e] [] pos) (b1 lenD f) := ⟨je_len hg hm ha.h he⟩
end
section
variable {X : Cx} {XQ : XW}
theorem ge_list {p pos : Pos} {e : Expr} {f : Ev (List D)} (hg : Gl X "list") (hm : X.mg "list" = none) (ha : GA X XQ [e] f) (he : starEach [e] X.env = (false, eval e X.env) :: starEach [] X.env := by rfl) : GE X XQ (.Call (.Name "list" p) [e] [] pos) (b1 listD f) := ⟨je_list hg hm ha.h he⟩
end
section
variable {X : Cx} {XQ : XW}
theorem ge_tuple {p pos : Pos} {e : Expr} {f : Ev (List D)} (hg : Gl X "tuple") (hm : X.mg "tuple" = none) (ha : GA X XQ [e] f) (he : starEach [e] X.env = (false, eval e X.env) :: starEach [] X.env := by rfl) : GE X XQ (.Call (.Name "tuple" p) [e] [] pos) (b1 tupD f) := ⟨je_tuple hg hm ha.h he⟩
end
section
variable {X : Cx} {XQ : XW}
theorem ge_min {p pos : Pos} {e e' : Expr} {f : Ev (List D)} (hc : X.calm = true) (hg : Gl X "min") (hm : X.mg "min" = none) (ha : GA X XQ [e, e'] f) (he : starEach [e, e'] X.env = (false, eval e X.env) :: starEach [e'] X.env := by rfl) (hpl : (backTo pos (starEach [e'] X.env)).any (·.1) = false := by rfl) : GE X XQ (.Call (.Name "min" p) [e, e'] [] pos) (b1 minD f) := ⟨je_min hc hg hm ha.h he hpl⟩
end
section
variable {X : Cx} {XQ : XW}
end
section
variable {X : Cx} {XQ : XW}
end
section
variable {X : Cx} {XQ : XW}
end
section
variable {X : Cx} {XQ : XW}
theorem ge_intc {p pos : Pos} {e : Expr} {f : Ev (List D)} (hg : Gl X "int") (hm : X.mg "int" = none) (ha : GA X XQ [e] f) (he : starEach [e] X.env = (false, eval e X.env) :: starEach [] X.env := by rfl) : GE X XQ (.Call (.Name "int" p) [e] [] pos) (b1 intD f) := ⟨je_intc hg hm ha.h he⟩
end
section
variable {X : Cx} {XQ : XW}
theorem ge_repr {k : Nat} {p pos : Pos} {e : Expr} {f : Ev (List D)} (hr : Room k X.A) (hg : Gl X "repr") (hm : X.mg "repr" = none) (ha : GA X XQ [e] f) (he : starEach [e] X.env = (false, eval e X.env) :: starEach [] X.env := by rfl) : GE X XQ (.Call (.Name "repr" p) [e] [] pos) (b1 reprD f) := ⟨je_repr hr hg hm ha.h he⟩
end
section
variable {X : Cx} {XQ : XW}
theorem ge_all {p pos : Pos} {e : Expr} {f : Ev (List D)} (hc : X.calm = true) (hg : Gl X "all") (hm : X.mg "all" = none) (ha : GA X XQ [e] f) (he : starEach [e] X.env = (false, eval e X.env) :: starEach [] X.env := by rfl) : GE X XQ (.Call (.Name "all" p) [e] [] pos) (b1 allD f) := ⟨je_all hc hg hm ha.h he⟩
end
section
variable {X : Cx} {XQ : XW}
theorem ge_sum {p pos : Pos} {e : Expr} {f : Ev (List D)} (hc : X.calm = true) (hg : Gl X "sum") (hm : X.mg "sum" = none) (ha : GA X XQ [e] f) (he : starEach [e] X.env = (false, eval e X.env) :: starEach [] X.env := by rfl) : GE X XQ (.Call (.Name "sum" p) [e] [] pos) (b1 sumD f) := ⟨je_sum hc hg hm ha.h he⟩
end
section
variable {X : Cx} {XQ : XW}
end
section
variable {X : Cx} {XQ : XW}
end
section
variable {X : Cx} {XQ : XW}
theorem ge_append {o e : Expr} {apos cpos : Pos} {fo : Ev D} {f : Ev (List D)} (ho : GE X XQ o fo) (ha : GA X XQ [e] f) (hbase : attributeBase o "append" X.env (eval o X.env) = eval o X.env := by rfl) (hfew : ((backTo cpos (starEach [e] X.env)).all (fun x => !x.1) && (backToKw cpos (keywordEach [] X.env)).all (fun x => x.1.isSome)
      && decide ([e].length + ([] : List Keyword).length + (if ([] : List Keyword).isEmpty then 0 else 1) < 30)) = true := by rfl) (hline : (apos.endLine == cpos.line) = true := by rfl) (hs : starEach [e] X.env = (false, eval e X.env) :: starEach [] X.env := by rfl) : GE X XQ (.Call (.Attribute o "append" apos) [e] [] cpos) (mt appD fo f) := ⟨je_append ho.h ha.h hbase hfew hline hs⟩
end
section
variable {X : Cx} {XQ : XW}
theorem ge_insert {o e e' : Expr} {apos cpos : Pos} {fo : Ev D} {f : Ev (List D)} (ho : GE X XQ o fo) (ha : GA X XQ [e, e'] f) (hbase : attributeBase o "insert" X.env (eval o X.env) = eval o X.env := by rfl) (hfew : ((backTo cpos (starEach [e, e'] X.env)).all (fun x => !x.1) && (backToKw cpos (keywordEach [] X.env)).all (fun x => x.1.isSome)
      && decide ([e, e'].length + ([] : List Keyword).length + (if ([] : List Keyword).isEmpty then 0 else 1) < 30)) = true := by rfl) (hline : (apos.endLine == cpos.line) = true := by rfl) (hs : starEach [e, e'] X.env = (false, eval e X.env) :: starEach [e'] X.env := by rfl) (hpl : (backTo cpos (starEach [e'] X.env)).any (·.1) = false := by rfl) : GE X XQ (.Call (.Attribute o "insert" apos) [e, e'] [] cpos) (mt insD fo f) := ⟨je_insert ho.h ha.h hbase hfew hline hs hpl⟩
end
section
variable {X : Cx} {XQ : XW}
theorem ge_pop {o e : Expr} {apos cpos : Pos} {fo : Ev D} {f : Ev (List D)} (ho : GE X XQ o fo) (ha : GA X XQ [e] f) (hbase : attributeBase o "pop" X.env (eval o X.env) = eval o X.env := by rfl) (hfew : ((backTo cpos (starEach [e] X.env)).all (fun x => !x.1) && (backToKw cpos (keywordEach [] X.env)).all (fun x => x.1.isSome)
      && decide ([e].length + ([] : List Keyword).length + (if ([] : List Keyword).isEmpty then 0 else 1) < 30)) = true := by rfl) (hline : (apos.endLine == cpos.line) = true := by rfl) (hs : starEach [e] X.env = (false, eval e X.env) :: starEach [] X.env := by rfl) : GE X XQ (.Call (.Attribute o "pop" apos) [e] [] cpos) (mt popD fo f) := ⟨je_pop ho.h ha.h hbase hfew hline hs⟩
end
section
variable {X : Cx} {XQ : XW}
end
section
variable {X : Cx} {XQ : XW} {a b : Expr} {fa fb : Ev D} {pos : Pos}
theorem gt_lt (ha : GE X XQ a fa) (hb : GE X XQ b fb) : GT X XQ (.Compare a [.Lt] [b] pos) (tb (o2 ltD fa fb)) := ⟨jt_lt ha.h hb.h⟩
end
section
variable {X : Cx} {XQ : XW} {a b : Expr} {fa fb : Ev D} {pos : Pos}
end
section
variable {X : Cx} {XQ : XW} {a b : Expr} {fa fb : Ev D} {pos : Pos}
theorem gt_gt (ha : GE X XQ a fa) (hb : GE X XQ b fb) : GT X XQ (.Compare a [.Gt] [b] pos) (tb (o2 gtD fa fb)) := ⟨jt_gt ha.h hb.h⟩
end
section
variable {X : Cx} {XQ : XW} {a b : Expr} {fa fb : Ev D} {pos : Pos}
theorem gt_ge (ha : GE X XQ a fa) (hb : GE X XQ b fb) : GT X XQ (.Compare a [.GtE] [b] pos) (tb (o2 geD fa fb)) := ⟨jt_ge ha.h hb.h⟩
end
section
variable {X : Cx} {XQ : XW}
theorem gt_eq {a b : Expr} {fa fb : Ev D} {pos : Pos} (hu : X.A.units + 64 < cLine) (ha : GE X XQ a fa) (hb : GE X XQ b fb) : GT X XQ (.Compare a [.Eq] [b] pos) (tb (o2 eqD fa fb)) := ⟨jt_eq hu ha.h hb.h⟩
end
section
variable {X : Cx} {XQ : XW}
theorem gt_ne {a b : Expr} {fa fb : Ev D} {pos : Pos} (hu : X.A.units + 64 < cLine) (ha : GE X XQ a fa) (hb : GE X XQ b fb) : GT X XQ (.Compare a [.NotEq] [b] pos) (tb (o2 neD fa fb)) := ⟨jt_ne hu ha.h hb.h⟩
end
section
variable {X : Cx} {XQ : XW} {a b : Expr} {fa fb : Ev D} {pos : Pos}
end
section
variable {X : Cx} {XQ : XW} {a b : Expr} {fa fb : Ev D} {pos : Pos}
end
section
variable {X : Cx} {XQ : XW} {a b : Expr} {fa fb : Ev D} {pos : Pos}
end
section
variable {X : Cx} {XQ : XW} {a b : Expr} {fa fb : Ev D} {pos : Pos}
theorem gt_notb (ha : GE X XQ a fa) (hb : GE X XQ b fb) : GT X XQ (.Compare a [.IsNot] [b] pos) (tb (o2 notbD fa fb)) := ⟨jt_notb ha.h hb.h⟩
end
section
variable {X : Cx} {XQ : XW}
end
section
variable {X : Cx} {XQ : XW}
theorem gt_not {a : Expr} {f : Ev Bool} {pos : Pos} (h : GT X XQ a f) : GT X XQ (.UnaryOp .Not a pos) (tn f) := ⟨jt_not h.h⟩
end
section
variable {X : Cx} {XQ : XW}
theorem gt_val {e : Expr} {f : Ev D} (h : GE X XQ e f) (he : ∀ whole, isTrue e X.env whole = (do let v ← whole; standAt e.pos; holding [v] (truthy v)) := by intro _; rfl) : GT X XQ e (tt f) := ⟨jt_val h.h he⟩
end
section
variable {X : Cx} {XQ : XW}
theorem gw_and1 {a : Expr} {f : Ev Bool} {pos : Pos} (h : GT X XQ a f) : GW X XQ (.BoolOp .And [a] pos) f := ⟨jw_and1 h.h⟩
end
section
variable {X : Cx} {XQ : XW}
theorem gw_or1 {a : Expr} {f : Ev Bool} {pos : Pos} (h : GT X XQ a f) : GW X XQ (.BoolOp .Or [a] pos) f := ⟨jw_or1 h.h⟩
end
section
variable {X : Cx} {XQ : XW}
theorem gw_and {a b : Expr} {rest : List Expr} {f g : Ev Bool} {pos : Pos} (h : GT X XQ a f) (hb : GW X XQ (.BoolOp .And (b :: rest) pos) g) : GW X XQ (.BoolOp .And (a :: b :: rest) pos) (ta f g) := ⟨jw_and h.h hb.h⟩
end
section
variable {X : Cx} {XQ : XW}
theorem gw_or {a b : Expr} {rest : List Expr} {f g : Ev Bool} {pos : Pos} (h : GT X XQ a f) (hb : GW X XQ (.BoolOp .Or (b :: rest) pos) g) : GW X XQ (.BoolOp .Or (a :: b :: rest) pos) (to f g) := ⟨jw_or h.h hb.h⟩
end
section
variable {X : Cx} {XQ : XW}
theorem ga_nil  : GA X XQ [] an := ⟨ja_nil ⟩
end
section
variable {X : Cx} {XQ : XW}
theorem ga_cons {e : Expr} {es : List Expr} {f : Ev D} {g : Ev (List D)} (ha : GE X XQ e f) (hr : GA X XQ es g) (hs : starEach (e :: es) X.env = (false, eval e X.env) :: starEach es X.env := by rfl) : GA X XQ (e :: es) (ac f g) := ⟨ja_cons ha.h hr.h hs⟩
end
section
variable {X : Cx} {XQ : XW}
theorem go_none  : GO X XQ none onone := ⟨jo_none ⟩
end
section
variable {X : Cx} {XQ : XW}
theorem go_some {e : Expr} {f : Ev D} (h : GE X XQ e f) : GO X XQ (some e) (osome f) := ⟨jo_some h.h⟩
end
section
variable {X : Cx} {XQ : XW}
theorem gi_range1 {tg a : Expr} {f : Ev (List D)} {p pos : Pos} (hg : Gl X "range") (hm : X.mg "range" = none) (ha : GA X XQ [a] f) (hs : starEach [a] X.env = [(false, eval a X.env)] := by rfl) : GI X XQ tg (.Call (.Name "range" p) [a] [] pos) (ir1 f) := ⟨ji_range1 hg hm ha.h hs⟩
end
section
variable {X : Cx} {XQ : XW}
end
section
variable {X : Cx} {XQ : XW}
theorem gi_seq {tg l : Expr} {f : Ev D} (hl : GE X XQ l f) : GI X XQ tg l (isrc f) := ⟨ji_seq hl.h⟩
end
section
variable {X : Cx} {XQ : XW}
end
section
variable {X : Cx} {XQ : XW}
theorem gi_enumerate {es : List Expr} {x1} {tp : Pos} {a : Expr} {f : Ev (List D)} {p pos : Pos} (hg : Gl X "enumerate") (hm : X.mg "enumerate" = none) (ha : GA X XQ [a] f) (hs : starEach [a] X.env = [(false, eval a X.env)] := by rfl) : GI X XQ (.Tuple es x1 tp) (.Call (.Name "enumerate" p) [a] [] pos) (ienumerate f) := ⟨ji_enumerate hg hm ha.h hs⟩
end
section
variable {X : Cx} {XQ : XW}
theorem ggn (i : Nat) {x : Str} {pos : Pos} (hN : X.N.Nodup) (h : OkL X.env.scope x) (hi : X.N[i]? = some x := by rfl) (hf : X.fn x = true := by rfl) : GG X (.Name x pos) (gn i) := ⟨jgn i hN h hi hf⟩
end
section
variable {X : Cx} {XQ : XW}
theorem ggnB (i : Nat) {s2 : Shared} {H2 : Hp} {C : Addr} {scope : Scope} {c : List (Str × Addr)} {N' : List Str} {fp : List Addr} {x : Str} {pos : Pos} (hN : N'.Nodup) (h : okLC scope x = true) (hi : N'[i]? = some x := by rfl) : GG (blk X s2 H2 C scope c N' fp) (.Name x pos) (gn i) := ⟨jgnB i hN h hi⟩
end
section
variable {X : Cx} {XQ : XW}
theorem gg_tup {es : List Expr} {m : Nat} {k : Tgs} {n : Nat} {pos : Pos} (hc : X.calm = true) (h : GGs X es k) (hn : (assignEach es X.env).length = n := by rfl) (hst : (assignEach es X.env).findIdx? (·.1) = none := by rfl) : GG X (.Tuple es m pos) (gt k n) := ⟨jg_tup hc h.h hn hst⟩
end
section
variable {X : Cx} {XQ : XW}
theorem ggs_nil  : GGs X [] gnil := ⟨jgs_nil ⟩
end
section
variable {X : Cx} {XQ : XW}
theorem ggs_cons {e : Expr} {es : List Expr} {g : Tg} {k : Tgs} (h1 : GG X e g) (h2 : GGs X es k) (hs : (assignEach (e :: es) X.env).map (·.2) = assign e X.env :: (assignEach es X.env).map (·.2) := by rfl) : GGs X (e :: es) (gcons g k) := ⟨jgs_cons h1.h h2.h hs⟩
end
section
variable {X : Cx} {XQ : XW}
theorem gss_nil  : GSs X XQ [] skip := ⟨jss_nil ⟩
end
section
variable {X : Cx} {XQ : XW}
theorem gss_cons {st : Stmt} {rest : List Stmt} {f g : Sv} (h1 : GS X XQ st f) (h2 : GSs X XQ rest g) : GSs X XQ (st :: rest) (sq f g) := ⟨jss_cons h1.h h2.h⟩
end
section
variable {X : Cx} {XQ : XW}
theorem gss_one {st : Stmt} {f : Sv} (h1 : GS X XQ st f) : GSs X XQ [st] f := ⟨jss_one h1.h⟩
end
section
variable {X : Cx} {XQ : XW}
theorem gs_ret {e : Expr} {f : Ev D} {pos : Pos} (he : GE X XQ e f) : GS X XQ (.Return (some e) pos) (sret f) := ⟨js_ret he.h⟩
end
section
variable {X : Cx} {XQ : XW}
theorem gs_if {c : Expr} {a b : List Stmt} {fc : Ev Bool} {f g : Sv} {pos : Pos} (hc : GT X XQ c fc) (ha : GSs X XQ a f) (hb : GSs X XQ b g) : GS X XQ (.If c a b pos) (sif fc f g) := ⟨js_if hc.h ha.h hb.h⟩
end
section
variable {X : Cx} {XQ : XW}
theorem gset (i : Nat) {x : Str} {e : Expr} {f : Ev D} {pos pos' : Pos} (hN : X.N.Nodup) (h : OkL X.env.scope x) (he : GE X XQ e f) (hi : X.N[i]? = some x := by rfl) (hs : swapsWith e (some (.Name x pos')) pos.line X.env = pure false := by rfl) (hf : X.fn x = true := by rfl) : GS X XQ (.Assign [.Name x pos'] e pos) (sa f (gn i)) := ⟨jset i hN h he.h hi hs hf⟩
end
section
variable {X : Cx} {XQ : XW}
theorem gsetComp (i : Nat) {sc : Scope} {N : List Str} {y : Str} {py spos : Pos} {elt tg iter : Expr} {ifs : List Expr} {scope : Scope} {pos : Pos} {N' : List Str} {pk : List (Option Nat)} {f : Ev Src} {g : Tg} {t : Ev Bool} {e : Ev D} (hsc : X.env.scope = sc) (hNN : X.N = N) (ct : CompTab sc scope N N' pk) (hcm : X.calm = true) (hi : GI X XQ tg iter f) (hg : ∀ cl s2 H2 C fp, GG (blk X s2 H2 C scope cl N' fp) tg g) (ht : ∀ cl s2 H2 C fp, GTs (blk X s2 H2 C scope cl N' fp) XN ifs t) (he : ∀ cl s2 H2 C fp, GE (blk X s2 H2 C scope cl N' fp) XN elt e) (hN : X.N.Nodup) (hl : OkL X.env.scope y) (hsw : swapsWith (.ListComp elt [⟨tg, iter, ifs, 0⟩] scope pos) (some (.Name y py)) spos.line X.env = pure true) (hy : X.N[i]? = some y := by rfl) (hs : ∀ x, foldedSetIterable iter X.env x = pure x := by intro _; rfl) (hf : X.fn y = true := by rfl) : GS X XQ (.Assign [.Name y py] (.ListComp elt [⟨tg, iter, ifs, 0⟩] scope pos) spos) (sa (cmp f pk g t e) (gn i)) := ⟨jsetComp i hsc hNN ct hcm hi.h (fun z0 z1 z2 z3 z4 => (hg z0 z1 z2 z3 z4).h) (fun z0 z1 z2 z3 z4 => (ht z0 z1 z2 z3 z4).h) (fun z0 z1 z2 z3 z4 => (he z0 z1 z2 z3 z4).h) hN hl hsw hy hs hf⟩
end
section
variable {X : Cx} {XQ : XW}
theorem gs_asg {tg e : Expr} {f : Ev D} {g : Tg} {pos : Pos} (he : GE X XQ e f) (hg : GG X tg g) (hs : swapsWithSole [tg] e pos.line X.env = pure false := by rfl) (hw : swappedStores [tg] e X.env = pure none := by rfl) (h1 : (assignEach [tg] X.env).map (·.2) = [assign tg X.env] := by rfl) : GS X XQ (.Assign [tg] e pos) (sa f g) := ⟨js_asg he.h hg.h hs hw h1⟩
end
section
variable {X : Cx} {XQ : XW}
theorem gs_par (i j : Nat) {x y : Str} {a b : Expr} {f : Ev (List D)} {px py pt pos : Pos} {kt k2 pt2} (hc : X.calm = true) (hN : X.N.Nodup) (hi : X.N[i]? = some x) (hj : X.N[j]? = some y) (hij : i ≠ j) (hx : X.env.scope.names.lookup x = some .local) (hy : X.env.scope.names.lookup y = some .local) (ha : GA X XQ [a, b] f) (hw : swappedStores [.Tuple [.Name x px, .Name y py] kt pt] (.Tuple [a, b] k2 pt2) X.env = pure (some [x, y])) (hs : swapsWithSole [.Tuple [.Name x px, .Name y py] kt pt] (.Tuple [a, b] k2 pt2) pos.line X.env = pure false := by rfl) : GS X XQ (.Assign [.Tuple [.Name x px, .Name y py] kt pt] (.Tuple [a, b] k2 pt2) pos) (spar i j f) := ⟨js_par i j hc hN hi hj hij hx hy ha.h hw hs⟩
end
section
variable {X : Cx} {XQ : XW}
theorem gs_setix {ob ix e : Expr} {f fo fi : Ev D} {pos p2 : Pos} (he : GE X XQ e f) (hob : GE X XQ ob fo) (hix : GE X XQ ix fi) (hs : swapsWithSole [.Subscript ob ix p2] e pos.line X.env = pure false := by rfl) (hw : swappedStores [.Subscript ob ix p2] e X.env = pure none := by rfl) (h1 : (assignEach [.Subscript ob ix p2] X.env).map (·.2) = [assign (.Subscript ob ix p2) X.env] := by rfl) (ha : ∀ v, assign (.Subscript ob ix p2) X.env v = (do
      let ov ← holding [v] (eval ob X.env)
      let iv ← holding [v, ov] (eval ix X.env)
      standAt p2
      holding [v, ov, iv] (setItem ov iv v)
      release [v, ov, iv] []) := by intro _; rfl) : GS X XQ (.Assign [.Subscript ob ix p2] e pos) (ss f fo fi setD) := ⟨js_setix he.h hob.h hix.h hs hw h1 ha⟩
end
section
variable {X : Cx} {XQ : XW}
theorem gs_expr {e : Expr} {f : Ev D} {pos : Pos} (he : GE X XQ e f) (hs : swapsWith e none pos.line X.env = pure false := by rfl) : GS X XQ (.Expr e pos) (sx f) := ⟨js_expr he.h hs⟩
end
section
variable {X : Cx} {XQ : XW}
theorem gs_for {tg iter : Expr} {body : List Stmt} {f : Ev Src} {g : Tg} {b : Sv} {pos : Pos} (hp : PassesOwn (model X.prog X.w) X.A X.env X.xe) (hc : X.calm = true) (hi : GI X XQ tg iter f) (hg : GG X tg g) (hb : GSs X XQ body b) (hs : ∀ x, foldedSetIterable iter X.env x = pure x := by intro _; rfl) : GS X XQ (.For tg iter body [] pos) (sfor f g b) := ⟨js_for hp hc hi.h hg.h hb.h hs⟩
end
section
variable {X : Cx} {XQ : XW}
end
section
variable {X : Cx} {XQ : XW}
end
section
variable {X : Cx} {XQ : XW}
end
section
variable {X : Cx} {XQ : XW}
end
section
variable {X : Cx} {XQ : XW}
end
section
variable {X : Cx} {XQ : XW}
end
section
variable {X : Cx} {XQ : XW}
theorem gv (i : Nat) {x : Str} {pos : Pos} (h : OkV X.env.scope x) (hN : X.N[i]? = some x := by rfl) : GE X XQ (.Name x pos) (vr i) := ⟨jv i h hN⟩
end
section
variable {X : Cx} {XQ : XW}
theorem gvB (i : Nat) {s2 : Shared} {H2 : Hp} {C : Addr} {scope : Scope} {c : List (Str × Addr)} {N' : List Str} {fp : List Addr} {x : Str} {pos : Pos} (h : okVC scope x = true) (hN : N'[i]? = some x := by rfl) : GE (blk X s2 H2 C scope c N' fp) XQ (.Name x pos) (vr i) := ⟨jvB i h hN⟩
end
section
variable {X : Cx} {XQ : XW}
theorem gown {x : Str} {ps : List Str} {fn : Fn} {j k n : Nat} {p pos : Pos} {e : Expr} {es : List Expr} {t : Ev (List D)} (C : Cal X.prog X.w X.K X.mg X.base x ps fn j) (hr : Room k X.A) (hg : Gl X x) (hp : plainN x = true) (ha : GA X XQ (e :: es) t) (hn : ps.length = n := by rfl) (hj : j ≤ k := by decide) (he : starEach (e :: es) X.env = (false, eval e X.env) :: starEach es X.env := by rfl) (hpl : (backTo pos (starEach es X.env)).any (·.1) = false := by rfl) : GE X XQ (.Call (.Name x p) (e :: es) [] pos) (cl n (noExc fn) t) := ⟨jown C hr hg hp ha.h hn hj he hpl⟩
end
section
variable {X : Cx} {XQ : XW}
theorem gcomp {sc : Scope} {N : List Str} {elt tg iter : Expr} {ifs : List Expr} {scope : Scope} {pos : Pos} {N' : List Str} {pk : List (Option Nat)} {f : Ev Src} {g : Tg} {t : Ev Bool} {e : Ev D} (hsc : X.env.scope = sc) (hNN : X.N = N) (ct : CompTab sc scope N N' pk) (hcm : X.calm = true) (hi : GI X XQ tg iter f) (hg : ∀ cl s2 H2 C fp, GG (blk X s2 H2 C scope cl N' fp) tg g) (ht : ∀ cl s2 H2 C fp, GTs (blk X s2 H2 C scope cl N' fp) XN ifs t) (he : ∀ cl s2 H2 C fp, GE (blk X s2 H2 C scope cl N' fp) XN elt e) (hs : ∀ x, foldedSetIterable iter X.env x = pure x := by intro _; rfl) : GE X XQ (.ListComp elt [⟨tg, iter, ifs, 0⟩] scope pos) (cmp f pk g t e) := ⟨jcomp hsc hNN ct hcm hi.h (fun z0 z1 z2 z3 z4 => (hg z0 z1 z2 z3 z4).h) (fun z0 z1 z2 z3 z4 => (ht z0 z1 z2 z3 z4).h) (fun z0 z1 z2 z3 z4 => (he z0 z1 z2 z3 z4).h) hs⟩
end
section
variable {X : Cx}
theorem gts_nil {Y : Cx} {XQ : XW} : GTs Y XQ [] ttrue := ⟨jts_nil ⟩
end
section
variable {X : Cx}
theorem gts_one {Y : Cx} {XQ : XW} {c : Expr} {t : Ev Bool} (h : GT Y XQ c t) : GTs Y XQ [c] t := ⟨jts_one h.h⟩
end
section
variable {X : Cx} {XQ : XW}
end
section
variable {X : Cx} {XQ : XW}
end
section
variable {X : Cx} {XQ : XW}
end
theorem GW.jt {X : Cx} {XQ : XW} {e : Expr} {f : Ev Bool} (h : GW X XQ e f) : GT X XQ e f := ⟨JW.jt h.h⟩
end DL
set_option Elab.async false
set_option linter.all false
set_option maxRecDepth 100000
namespace DL
open PySem PySem.Spec PyProof.Rows L2
section
variable {K : PySem.W.Frag} {h : Heap} {mg : Str → Option Value} {x : Str}
theorem cst_int {i : Int} {t : Tok} (X : K.In h) (G : h.Ns mainGlobals mg) (a : PySem.W.nsIn K mainGlobals x = some (some (.int i t))) : ∃ u v, mg x = some u ∧ RelV v u ∧ ∀ mp H, Rep K mp H (.int i) v :=
  ⟨_, .int i, PySem.W.mg_of X G a, ⟨t, rfl⟩, fun _ _ => rfl⟩
theorem cst_t1 {p : Addr} {y : Str} {t : Tok} {n : Nat} {sl : Array (Option Value)} (X : K.In h) (G : h.Ns mainGlobals mg) (a : PySem.W.nsIn K mainGlobals x = some (some (.ref p))) (l : K.lookup p = some { cls := .type "tuple", dict := none, data := .seq #[.str y t] n, slots := sl }) :
    ∃ u v, mg x = some u ∧ RelV v u ∧ ∀ mp H, Rep K mp H (.tup [.str y]) v :=
  ⟨_, .ref p, PySem.W.mg_of X G a, rfl, fun _ _ => ⟨p, [.str y], rfl, .inr ⟨_, _, n, l, rfl, rfl, by rw [sizeLine_eq]; simp, .cons ⟨t, rfl⟩ .nil⟩, RepL.cons rfl RepL.nil⟩⟩
end
end DL
set_option Elab.async false
set_option linter.all false
set_option maxRecDepth 100000
namespace Law
open PySem PySem.Spec PyProof.Rows L2 DL
def top (i : Nat) : Stmt := PySem.Challenge.pw_summitwater_k05_stands_known.main.body.getD i (.Pass ⟨0, 0, 0, 0⟩)
abbrev st_is_whole : Stmt := top 1
abbrev st_is_tuple : Stmt := top 2
abbrev st_most_water : Stmt := top 6
abbrev st_holds : Stmt := top 7
abbrev st_are_counts : Stmt := top 11
abbrev st_is_stand : Stmt := top 10
abbrev st_is_through : Stmt := top 12
abbrev st__law_tape : Stmt := top 14
abbrev st__law_draw : Stmt := top 15
abbrev st__law_pound : Stmt := top 16
abbrev st__law_canal : Stmt := top 17
abbrev st__law_stand : Stmt := top 18
abbrev st__law_whole : Stmt := top 19
abbrev st__law_is_stand : Stmt := top 20
abbrev st__law_bent : Stmt := top 21
abbrev st_law : Stmt := top 22
def c_CHAMBER : D := (.tup [(.str "chamber")])
def c_END : D := (.tup [(.str "end")])
def c_MOST_BARGES : D := (.int 60)
structure Txt (K : PySem.W.Frag) (mg : Str → Option Value) : Prop where
  b_all : mg "all" = none
  b_bool : mg "bool" = none
  b_enumerate : mg "enumerate" = none
  b_int : mg "int" = none
  b_isinstance : mg "isinstance" = none
  b_len : mg "len" = none
  b_list : mg "list" = none
  b_min : mg "min" = none
  b_range : mg "range" = none
  b_repr : mg "repr" = none
  b_sum : mg "sum" = none
  b_tuple : mg "tuple" = none
  k_CHAMBER : ∃ u v, mg "CHAMBER" = some u ∧ RelV v u ∧ ∀ mp H, Rep K mp H c_CHAMBER v
  k_END : ∃ u v, mg "END" = some u ∧ RelV v u ∧ ∀ mp H, Rep K mp H c_END v
  k_MOST_BARGES : ∃ u v, mg "MOST_BARGES" = some u ∧ RelV v u ∧ ∀ mp H, Rep K mp H c_MOST_BARGES v
theorem Txt.c_CHAMBER {X : Cx} {XQ : XW} {pos : Pos} (T : Txt X.K X.mg) (hg : Gl X "CHAMBER") : GE X XQ (.Name "CHAMBER" pos) (cn c_CHAMBER) := let ⟨u, v, h1, h2, h3⟩ := T.k_CHAMBER; ⟨je_cst h1 h2 h3 hg (by decide +kernel)⟩
theorem Txt.c_END {X : Cx} {XQ : XW} {pos : Pos} (T : Txt X.K X.mg) (hg : Gl X "END") : GE X XQ (.Name "END" pos) (cn c_END) := let ⟨u, v, h1, h2, h3⟩ := T.k_END; ⟨je_cst h1 h2 h3 hg (by decide +kernel)⟩
theorem Txt.c_MOST_BARGES {X : Cx} {XQ : XW} {pos : Pos} (T : Txt X.K X.mg) (hg : Gl X "MOST_BARGES") : GE X XQ (.Name "MOST_BARGES" pos) (cn c_MOST_BARGES) := let ⟨u, v, h1, h2, h3⟩ := T.k_MOST_BARGES; ⟨je_cst h1 h2 h3 hg (by decide +kernel)⟩
section
variable {P : Program} {w : World} {K : PySem.W.Frag} {mg : Str → Option Value} {base : Heap}
def b_is_whole : Sv := (sret (va (o1 (isD "int") (vr 0)) (vn (o1 (isD "bool") (vr 0)))))
def f_is_whole : Fn := fnB 1 b_is_whole
theorem sc_is_whole : FnScope ["thing"] ["thing"] (defScope st_is_whole) := ⟨rfl, rfl, rfl, by decide +kernel, rfl, by decide +kernel, by decide +kernel⟩
theorem g_is_whole_bool : OkG (defScope st_is_whole) "bool" := ⟨by decide +kernel⟩
theorem g_is_whole_int : OkG (defScope st_is_whole) "int" := ⟨by decide +kernel⟩
theorem g_is_whole_isinstance : OkG (defScope st_is_whole) "isinstance" := ⟨by decide +kernel⟩
theorem v_is_whole_thing : OkV (defScope st_is_whole) "thing" := ⟨by decide +kernel⟩
set_option maxHeartbeats 4000000 in
theorem cal_is_whole (T : Txt K mg) (d : Dn K mg "is_whole" st_is_whole ["thing"]) : Cal P w K mg base "is_whole" ["thing"] f_is_whole 1 := by
  have Sc := sc_is_whole
  refine cal_of ["thing"] 0 b_is_whole rfl d Sc fun f cdv A outer s H E hr => ?_
  conv => arg 3; whnf
  refine GSs.h ?_
  exact (gss_one (gs_ret (ge_and (ge_isi kit_int (by rfl) (by decide +kernel) (by decide +kernel) (gl g_is_whole_isinstance) T.b_isinstance (gl g_is_whole_int) T.b_int (gv 0 v_is_whole_thing) (by rfl) (by rfl) (by rfl)) (ge_one (ge_not (ge_isi kit_bool (by rfl) (by decide +kernel) (by decide +kernel) (gl g_is_whole_isinstance) T.b_isinstance (gl g_is_whole_bool) T.b_bool (gv 0 v_is_whole_thing) (by rfl) (by rfl) (by rfl)))))))
def b_is_tuple : Sv := (sret (va (o1 (isD "tuple") (vr 0)) (o2 eqD (b1 lenD (ac (vr 0) an)) (vr 1))))
def f_is_tuple : Fn := fnB 2 b_is_tuple
theorem sc_is_tuple : FnScope ["thing", "many"] ["thing", "many"] (defScope st_is_tuple) := ⟨rfl, rfl, rfl, by decide +kernel, rfl, by decide +kernel, by decide +kernel⟩
theorem g_is_tuple_isinstance : OkG (defScope st_is_tuple) "isinstance" := ⟨by decide +kernel⟩
theorem g_is_tuple_len : OkG (defScope st_is_tuple) "len" := ⟨by decide +kernel⟩
theorem g_is_tuple_tuple : OkG (defScope st_is_tuple) "tuple" := ⟨by decide +kernel⟩
theorem v_is_tuple_many : OkV (defScope st_is_tuple) "many" := ⟨by decide +kernel⟩
theorem v_is_tuple_thing : OkV (defScope st_is_tuple) "thing" := ⟨by decide +kernel⟩
set_option maxHeartbeats 4000000 in
theorem cal_is_tuple (T : Txt K mg) (d : Dn K mg "is_tuple" st_is_tuple ["thing", "many"]) : Cal P w K mg base "is_tuple" ["thing", "many"] f_is_tuple 1 := by
  have Sc := sc_is_tuple
  refine cal_of ["thing", "many"] 0 b_is_tuple rfl d Sc fun f cdv A outer s H E hr => ?_
  conv => arg 3; whnf
  refine GSs.h ?_
  exact (gss_one (gs_ret (ge_and (ge_isi kit_tuple (by rfl) (by decide +kernel) (by decide +kernel) (gl g_is_tuple_isinstance) T.b_isinstance (gl g_is_tuple_tuple) T.b_tuple (gv 0 v_is_tuple_thing) (by rfl) (by rfl) (by rfl)) (ge_one (ge_eq hr.units (ge_len (gl g_is_tuple_len) T.b_len (ga_cons (gv 0 v_is_tuple_thing) ga_nil se_Name)) (gv 1 v_is_tuple_many))))))
def b_most_water : Sv := (sq (sif (tb (o2 eqD (vr 0) (cn c_END)))
    (sret (cn (.int 0)))
    skip)
    (sret (ie (tb (o2 eqD (vr 0) (cn c_CHAMBER))) (cn (.int 1)) (o2 getD (vr 0) (cn (.int 1))))))
def f_most_water : Fn := fnB 1 b_most_water
theorem sc_most_water : FnScope ["place"] ["place"] (defScope st_most_water) := ⟨rfl, rfl, rfl, by decide +kernel, rfl, by decide +kernel, by decide +kernel⟩
theorem g_most_water_CHAMBER : OkG (defScope st_most_water) "CHAMBER" := ⟨by decide +kernel⟩
theorem g_most_water_END : OkG (defScope st_most_water) "END" := ⟨by decide +kernel⟩
theorem v_most_water_place : OkV (defScope st_most_water) "place" := ⟨by decide +kernel⟩
set_option maxHeartbeats 4000000 in
theorem cal_most_water (T : Txt K mg) (d : Dn K mg "most_water" st_most_water ["place"]) : Cal P w K mg base "most_water" ["place"] f_most_water 1 := by
  have Sc := sc_most_water
  refine cal_of ["place"] 0 b_most_water rfl d Sc fun f cdv A outer s H E hr => ?_
  conv => arg 3; whnf
  refine GSs.h ?_
  exact (gss_cons (gs_if (gt_eq hr.units (gv 0 v_most_water_place) (T.c_END (gl g_most_water_END)))
    (gss_one (gs_ret ge_int))
    gss_nil)
    (gss_one (gs_ret (ge_ifx (gt_eq hr.units (gv 0 v_most_water_place) (T.c_CHAMBER (gl g_most_water_CHAMBER))) ge_int (ge_get (gv 0 v_most_water_place) ge_int)))))
def b_holds : Sv := (sq (sif (tb (o2 eqD (vr 0) (cn c_END)))
    (sret (cn (.bl true)))
    skip)
    (sret (o2 leD (vr 1) (ie (tb (o2 eqD (vr 0) (cn c_CHAMBER))) (cn (.int 1)) (o2 getD (vr 0) (cn (.int 3)))))))
def f_holds : Fn := fnB 2 b_holds
theorem sc_holds : FnScope ["place", "barges"] ["place", "barges"] (defScope st_holds) := ⟨rfl, rfl, rfl, by decide +kernel, rfl, by decide +kernel, by decide +kernel⟩
theorem g_holds_CHAMBER : OkG (defScope st_holds) "CHAMBER" := ⟨by decide +kernel⟩
theorem g_holds_END : OkG (defScope st_holds) "END" := ⟨by decide +kernel⟩
theorem v_holds_barges : OkV (defScope st_holds) "barges" := ⟨by decide +kernel⟩
theorem v_holds_place : OkV (defScope st_holds) "place" := ⟨by decide +kernel⟩
set_option maxHeartbeats 4000000 in
theorem cal_holds (T : Txt K mg) (d : Dn K mg "holds" st_holds ["place", "barges"]) : Cal P w K mg base "holds" ["place", "barges"] f_holds 1 := by
  have Sc := sc_holds
  refine cal_of ["place", "barges"] 0 b_holds rfl d Sc fun f cdv A outer s H E hr => ?_
  conv => arg 3; whnf
  refine GSs.h ?_
  exact (gss_cons (gs_if (gt_eq hr.units (gv 0 v_holds_place) (T.c_END (gl g_holds_END)))
    (gss_one (gs_ret ge_bl))
    gss_nil)
    (gss_one (gs_ret (ge_le (gv 1 v_holds_barges) (ge_ifx (gt_eq hr.units (gv 0 v_holds_place) (T.c_CHAMBER (gl g_holds_CHAMBER))) ge_int (ge_get (gv 0 v_holds_place) ge_int))))))
def b_are_counts : Sv := (sret (va (cl 2 (noExc f_is_tuple) (ac (vr 0) (ac (vr 1) an))) (b1 allD (ac (cmp (isrc (vr 0)) [none] (gn 0) ttrue (va (cl 1 (noExc f_is_whole) (ac (vr 0) an)) (o2 geD (vr 0) (cn (.int 0))))) an))))
def f_are_counts : Fn := fnB 2 b_are_counts
theorem sc_are_counts : FnScope ["thing", "many"] ["thing", "many"] (defScope st_are_counts) := ⟨rfl, rfl, rfl, by decide +kernel, rfl, by decide +kernel, by decide +kernel⟩
theorem g_are_counts_all : OkG (defScope st_are_counts) "all" := ⟨by decide +kernel⟩
theorem g_are_counts_is_tuple : OkG (defScope st_are_counts) "is_tuple" := ⟨by decide +kernel⟩
theorem v_are_counts_many : OkV (defScope st_are_counts) "many" := ⟨by decide +kernel⟩
theorem v_are_counts_thing : OkV (defScope st_are_counts) "thing" := ⟨by decide +kernel⟩
theorem p_is_tuple : plainN "is_tuple" = true := by decide +kernel
theorem p_is_whole : plainN "is_whole" = true := by decide +kernel
set_option maxHeartbeats 4000000 in
theorem cal_are_counts (T : Txt K mg) (d : Dn K mg "are_counts" st_are_counts ["thing", "many"]) (C_is_tuple : Cal P w K mg base "is_tuple" ["thing", "many"] f_is_tuple 1) (C_is_whole : Cal P w K mg base "is_whole" ["thing"] f_is_whole 1) : Cal P w K mg base "are_counts" ["thing", "many"] f_are_counts 2 := by
  have Sc := sc_are_counts
  refine cal_of ["thing", "many"] 1 b_are_counts rfl d Sc fun f cdv A outer s H E hr => ?_
  conv => arg 3; whnf
  refine GSs.h ?_
  exact (gss_one (gs_ret (ge_and (gown C_is_tuple hr (gl g_are_counts_is_tuple) p_is_tuple (ga_cons (gv 0 v_are_counts_thing) (ga_cons (gv 1 v_are_counts_many) ga_nil se_Name) se_Name)) (ge_one (ge_all rfl (gl g_are_counts_all) T.b_all (ga_cons (gcomp (sc := defScope st_are_counts) (N := ["thing", "many"]) rfl rfl (N' := ["number"]) (pk := [none]) ⟨rfl, by decide +kernel, by decide +kernel, by decide +kernel, rfl, by decide +kernel⟩ rfl (gi_seq (gv 0 v_are_counts_thing)) (fun cl s2 H2 C fp => (ggnB 0 (by decide +kernel) (by decide +kernel))) (fun cl s2 H2 C fp => gts_nil) (fun cl s2 H2 C fp => (ge_and (gown C_is_whole hr (glB (by decide +kernel)) p_is_whole (ga_cons (gvB 0 (by decide +kernel)) ga_nil se_Name)) (ge_one (ge_ge (gvB 0 (by decide +kernel)) ge_int))))) ga_nil se_ListComp))))))
def lb_is_stand_1 : Sv := (sif (to (tb (o2 gtD (o2 getD (vr 3) (vr 6)) (cl 1 (noExc f_most_water) (ac (vr 7) an)))) (tn (tt (cl 2 (noExc f_holds) (ac (vr 7) (ac (o2 addD (o2 getD (vr 4) (vr 6)) (o2 getD (vr 5) (vr 6))) an))))))
    (sret (cn (.bl false)))
    skip)
def b_is_stand : Sv := (sq (sa (o2 getD (vr 0) (cn (.int 0))) (gn 2))
    (sq (sif (tn (tt (cl 2 (noExc f_is_tuple) (ac (vr 1) (ac (cn (.int 3)) an)))))
    (sret (cn (.bl false)))
    skip)
    (sq (sif (tn (tt (b1 allD (ac (cmp (isrc (vr 1)) [none, some 2] (gn 0) ttrue (cl 2 (noExc f_are_counts) (ac (vr 0) (ac (b1 lenD (ac (vr 1) an)) an)))) an))))
    (sret (cn (.bl false)))
    skip)
    (sq (sa (vr 1) (gt (gcons (gn 3) (gcons (gn 4) (gcons (gn 5) gnil))) 3))
    (sq (sfor (ienumerate (ac (vr 2) an)) (gt (gcons (gn 6) (gcons (gn 7) gnil)) 2) lb_is_stand_1)
    (sret (o2 leD (o2 addD (b1 sumD (ac (vr 4) an)) (b1 sumD (ac (vr 5) an))) (cn c_MOST_BARGES))))))))
def f_is_stand : Fn := fnB 8 b_is_stand
theorem sc_is_stand : FnScope ["canal", "thing", "places", "levels", "rights", "lefts", "number", "place"] ["canal", "thing"] (defScope st_is_stand) := ⟨rfl, rfl, rfl, by decide +kernel, rfl, by decide +kernel, by decide +kernel⟩
theorem g_is_stand_MOST_BARGES : OkG (defScope st_is_stand) "MOST_BARGES" := ⟨by decide +kernel⟩
theorem g_is_stand_all : OkG (defScope st_is_stand) "all" := ⟨by decide +kernel⟩
theorem g_is_stand_enumerate : OkG (defScope st_is_stand) "enumerate" := ⟨by decide +kernel⟩
theorem g_is_stand_holds : OkG (defScope st_is_stand) "holds" := ⟨by decide +kernel⟩
theorem g_is_stand_is_tuple : OkG (defScope st_is_stand) "is_tuple" := ⟨by decide +kernel⟩
theorem g_is_stand_most_water : OkG (defScope st_is_stand) "most_water" := ⟨by decide +kernel⟩
theorem g_is_stand_sum : OkG (defScope st_is_stand) "sum" := ⟨by decide +kernel⟩
theorem l_is_stand_lefts : OkL (defScope st_is_stand) "lefts" := ⟨by decide +kernel⟩
theorem l_is_stand_levels : OkL (defScope st_is_stand) "levels" := ⟨by decide +kernel⟩
theorem l_is_stand_number : OkL (defScope st_is_stand) "number" := ⟨by decide +kernel⟩
theorem l_is_stand_place : OkL (defScope st_is_stand) "place" := ⟨by decide +kernel⟩
theorem l_is_stand_places : OkL (defScope st_is_stand) "places" := ⟨by decide +kernel⟩
theorem l_is_stand_rights : OkL (defScope st_is_stand) "rights" := ⟨by decide +kernel⟩
theorem v_is_stand_canal : OkV (defScope st_is_stand) "canal" := ⟨by decide +kernel⟩
theorem v_is_stand_lefts : OkV (defScope st_is_stand) "lefts" := ⟨by decide +kernel⟩
theorem v_is_stand_levels : OkV (defScope st_is_stand) "levels" := ⟨by decide +kernel⟩
theorem v_is_stand_number : OkV (defScope st_is_stand) "number" := ⟨by decide +kernel⟩
theorem v_is_stand_place : OkV (defScope st_is_stand) "place" := ⟨by decide +kernel⟩
theorem v_is_stand_places : OkV (defScope st_is_stand) "places" := ⟨by decide +kernel⟩
theorem v_is_stand_rights : OkV (defScope st_is_stand) "rights" := ⟨by decide +kernel⟩
theorem v_is_stand_thing : OkV (defScope st_is_stand) "thing" := ⟨by decide +kernel⟩
theorem p_are_counts : plainN "are_counts" = true := by decide +kernel
theorem p_holds : plainN "holds" = true := by decide +kernel
theorem p_most_water : plainN "most_water" = true := by decide +kernel
set_option maxHeartbeats 4000000 in
theorem cal_is_stand (T : Txt K mg) (d : Dn K mg "is_stand" st_is_stand ["canal", "thing"]) (C_are_counts : Cal P w K mg base "are_counts" ["thing", "many"] f_are_counts 2) (C_holds : Cal P w K mg base "holds" ["place", "barges"] f_holds 1) (C_is_tuple : Cal P w K mg base "is_tuple" ["thing", "many"] f_is_tuple 1) (C_most_water : Cal P w K mg base "most_water" ["place"] f_most_water 1) : Cal P w K mg base "is_stand" ["canal", "thing"] f_is_stand 3 := by
  have Sc := sc_is_stand
  refine cal_of ["canal", "thing", "places", "levels", "rights", "lefts", "number", "place"] 2 b_is_stand rfl d Sc fun f cdv A outer s H E hr => ?_
  conv => arg 3; whnf
  refine GSs.h ?_
  exact (gss_cons (gset 2 Sc.nd l_is_stand_places (ge_get (gv 0 v_is_stand_canal) ge_int))
    (gss_cons (gs_if (gt_not (gt_val (gown C_is_tuple hr (gl g_is_stand_is_tuple) p_is_tuple (ga_cons (gv 1 v_is_stand_thing) (ga_cons ge_int ga_nil se_Constant) se_Name))))
    (gss_one (gs_ret ge_bl))
    gss_nil)
    (gss_cons (gs_if (gt_not (gt_val (ge_all rfl (gl g_is_stand_all) T.b_all (ga_cons (gcomp (sc := defScope st_is_stand) (N := ["canal", "thing", "places", "levels", "rights", "lefts", "number", "place"]) rfl rfl (N' := ["row", "places"]) (pk := [none, some 2]) ⟨rfl, by decide +kernel, by decide +kernel, by decide +kernel, rfl, by decide +kernel⟩ rfl (gi_seq (gv 1 v_is_stand_thing)) (fun cl s2 H2 C fp => (ggnB 0 (by decide +kernel) (by decide +kernel))) (fun cl s2 H2 C fp => gts_nil) (fun cl s2 H2 C fp => (gown C_are_counts hr (glB (by decide +kernel)) p_are_counts (ga_cons (gvB 0 (by decide +kernel)) (ga_cons (ge_len (glB (by decide +kernel)) T.b_len (ga_cons (gvB 1 (by decide +kernel)) ga_nil se_Name)) ga_nil se_Call) se_Name)))) ga_nil se_ListComp))))
    (gss_one (gs_ret ge_bl))
    gss_nil)
    (gss_cons (gs_asg (gv 1 v_is_stand_thing) (gg_tup rfl (ggs_cons (ggn 3 Sc.nd l_is_stand_levels) (ggs_cons (ggn 4 Sc.nd l_is_stand_rights) (ggs_cons (ggn 5 Sc.nd l_is_stand_lefts) ggs_nil)))))
    (gss_cons (gs_for PassesOwn.never rfl (gi_enumerate (gl g_is_stand_enumerate) T.b_enumerate (ga_cons (gv 2 v_is_stand_places) ga_nil se_Name)) (gg_tup rfl (ggs_cons (ggn 6 Sc.nd l_is_stand_number) (ggs_cons (ggn 7 Sc.nd l_is_stand_place) ggs_nil)))
    (gss_one (gs_if (GW.jt (gw_or (gt_gt (ge_get (gv 3 v_is_stand_levels) (gv 6 v_is_stand_number)) (gown C_most_water hr (gl g_is_stand_most_water) p_most_water (ga_cons (gv 7 v_is_stand_place) ga_nil se_Name))) (gw_or1 (gt_not (gt_val (gown C_holds hr (gl g_is_stand_holds) p_holds (ga_cons (gv 7 v_is_stand_place) (ga_cons (ge_add (ge_get (gv 4 v_is_stand_rights) (gv 6 v_is_stand_number)) (ge_get (gv 5 v_is_stand_lefts) (gv 6 v_is_stand_number))) ga_nil se_BinOp) se_Name)))))))
    (gss_one (gs_ret ge_bl))
    gss_nil)))
    (gss_one (gs_ret (ge_le (ge_add (ge_sum rfl (gl g_is_stand_sum) T.b_sum (ga_cons (gv 4 v_is_stand_rights) ga_nil se_Name)) (ge_sum rfl (gl g_is_stand_sum) T.b_sum (ga_cons (gv 5 v_is_stand_lefts) ga_nil se_Name))) (T.c_MOST_BARGES (gl g_is_stand_MOST_BARGES))))))))))
def b_is_through : Sv := (sq (sa (o2 subD (b1 lenD (ac (o2 getD (vr 0) (cn (.int 0))) an)) (cn (.int 1))) (gn 2))
    (sq (spar 3 4 (ac (o2 getD (vr 1) (cn (.int 1))) (ac (o2 getD (vr 1) (cn (.int 2))) an)))
    (sret (va (o2 eqD (b1 sumD (ac (sl2 (vr 3) onone (osome (vr 2))) an)) (cn (.int 0))) (o2 eqD (b1 sumD (ac (sl2 (vr 4) (osome (cn (.int 1))) onone) an)) (cn (.int 0)))))))
def f_is_through : Fn := fnB 5 b_is_through
theorem sc_is_through : FnScope ["canal", "stand", "last", "rights", "lefts"] ["canal", "stand"] (defScope st_is_through) := ⟨rfl, rfl, rfl, by decide +kernel, rfl, by decide +kernel, by decide +kernel⟩
theorem c_is_through_lefts : OkC (defScope st_is_through) "lefts" := ⟨by decide +kernel⟩
theorem c_is_through_rights : OkC (defScope st_is_through) "rights" := ⟨by decide +kernel⟩
theorem g_is_through_len : OkG (defScope st_is_through) "len" := ⟨by decide +kernel⟩
theorem g_is_through_sum : OkG (defScope st_is_through) "sum" := ⟨by decide +kernel⟩
theorem l_is_through_last : OkL (defScope st_is_through) "last" := ⟨by decide +kernel⟩
theorem v_is_through_canal : OkV (defScope st_is_through) "canal" := ⟨by decide +kernel⟩
theorem v_is_through_last : OkV (defScope st_is_through) "last" := ⟨by decide +kernel⟩
theorem v_is_through_lefts : OkV (defScope st_is_through) "lefts" := ⟨by decide +kernel⟩
theorem v_is_through_rights : OkV (defScope st_is_through) "rights" := ⟨by decide +kernel⟩
theorem v_is_through_stand : OkV (defScope st_is_through) "stand" := ⟨by decide +kernel⟩
set_option maxHeartbeats 4000000 in
theorem cal_is_through (T : Txt K mg) (d : Dn K mg "is_through" st_is_through ["canal", "stand"]) : Cal P w K mg base "is_through" ["canal", "stand"] f_is_through 1 := by
  have Sc := sc_is_through
  refine cal_of ["canal", "stand", "last", "rights", "lefts"] 0 b_is_through rfl d Sc fun f cdv A outer s H E hr => ?_
  conv => arg 3; whnf
  refine GSs.h ?_
  exact (gss_cons (gset 2 Sc.nd l_is_through_last (ge_sub (ge_len (gl g_is_through_len) T.b_len (ga_cons (ge_get (gv 0 v_is_through_canal) ge_int) ga_nil se_Subscript)) ge_int))
    (gss_cons (gs_par 3 4 rfl Sc.nd rfl rfl (by decide) c_is_through_rights.h c_is_through_lefts.h (ga_cons (ge_get (gv 1 v_is_through_stand) ge_int) (ga_cons (ge_get (gv 1 v_is_through_stand) ge_int) ga_nil se_Subscript) se_Subscript) (by rfl))
    (gss_one (gs_ret (ge_and (ge_eq hr.units (ge_sum rfl (gl g_is_through_sum) T.b_sum (ga_cons (ge_slice2 (gv 3 v_is_through_rights) go_none (go_some (gv 2 v_is_through_last))) ga_nil se_Subscript)) ge_int) (ge_one (ge_eq hr.units (ge_sum rfl (gl g_is_through_sum) T.b_sum (ga_cons (ge_slice2 (gv 4 v_is_through_lefts) (go_some ge_int) go_none) ga_nil se_Subscript)) ge_int)))))))
def b__law_tape : Sv := (sret (ls (ac (b1 listD (ac (sl2 (vr 0) onone (osome (cn (.int 63)))) an)) (ac (cn (.int 0)) (ac (cn (.int 0)) an)))))
def f__law_tape : Fn := fnB 1 b__law_tape
theorem sc__law_tape : FnScope ["_law_script"] ["_law_script"] (defScope st__law_tape) := ⟨rfl, rfl, rfl, by decide +kernel, rfl, by decide +kernel, by decide +kernel⟩
theorem g__law_tape_list : OkG (defScope st__law_tape) "list" := ⟨by decide +kernel⟩
theorem v__law_tape__law_script : OkV (defScope st__law_tape) "_law_script" := ⟨by decide +kernel⟩
set_option maxHeartbeats 4000000 in
theorem cal__law_tape (T : Txt K mg) (d : Dn K mg "_law_tape" st__law_tape ["_law_script"]) : Cal P w K mg base "_law_tape" ["_law_script"] f__law_tape 1 := by
  have Sc := sc__law_tape
  refine cal_of ["_law_script"] 0 b__law_tape rfl d Sc fun f cdv A outer s H E hr => ?_
  conv => arg 3; whnf
  refine GSs.h ?_
  exact (gss_one (gs_ret (ge_lst (ga_cons (ge_list (gl g__law_tape_list) T.b_list (ga_cons (ge_slice2 (gv 0 v__law_tape__law_script) go_none (go_some ge_int)) ga_nil se_Subscript)) (ga_cons ge_int (ga_cons ge_int ga_nil se_Constant) se_Constant) se_Call))))
def b__law_draw : Sv := (sq (sif (tb (o2 gtD (o2 getD (vr 0) (cn (.int 2))) (cn (.int 0))))
    (sq (sa (o2 modD (o2 getD (vr 0) (cn (.int 2))) (vr 1)) (gn 2))
    (sq (ss (o2 divD2 (o2 getD (vr 0) (cn (.int 2))) (vr 1)) (vr 0) (cn (.int 2)) setD)
    (sret (vr 2))))
    skip)
    (sq (sa (o2 getD (vr 0) (cn (.int 1))) (gn 3))
    (sq (ss (o2 addD (vr 3) (cn (.int 1))) (vr 0) (cn (.int 1)) setD)
    (sq (sa (cn (.int 0)) (gn 4))
    (sq (sif (tb (o2 gtD (b1 lenD (ac (o2 getD (vr 0) (cn (.int 0))) an)) (cn (.int 0))))
    (sa (o2 getD (o2 getD (vr 0) (cn (.int 0))) (o2 modD (vr 3) (b1 lenD (ac (o2 getD (vr 0) (cn (.int 0))) an)))) (gn 4))
    skip)
    (sq (sif (ta (tb (o2 ltD (vr 3) (b1 lenD (ac (o2 getD (vr 0) (cn (.int 0))) an)))) (tb (o2 geD (vr 4) (o2 powD (cn (.int 10)) (cn (.int 18))))))
    (sq (ss (o2 divD2 (vr 4) (vr 1)) (vr 0) (cn (.int 2)) setD)
    (sret (o2 modD (vr 4) (vr 1))))
    skip)
    (sq (sa (o2 modD (o2 mulD (o2 addD (o2 modD (vr 4) (cn (.int 1000003))) (cn (.int 1))) (o2 addD (o2 addD (o2 mulD (o2 mulD (cn (.int 7919)) (vr 3)) (vr 3)) (o2 mulD (cn (.int 104729)) (vr 3))) (cn (.int 12345)))) (cn (.int 2147483647))) (gn 5))
    (sq (sa (o2 modD (o2 addD (o2 addD (o2 mulD (vr 5) (vr 5)) (o2 mulD (cn (.int 48271)) (vr 3))) (o2 modD (vr 4) (cn (.int 65537)))) (cn (.int 2147483629))) (gn 5))
    (sret (o2 modD (o2 divD2 (vr 5) (cn (.int 8))) (vr 1)))))))))))
def f__law_draw : Fn := fnB 6 b__law_draw
theorem sc__law_draw : FnScope ["_law_tape_here", "_law_many", "_law_digit", "_law_at", "_law_cell", "_law_mixed"] ["_law_tape_here", "_law_many"] (defScope st__law_draw) := ⟨rfl, rfl, rfl, by decide +kernel, rfl, by decide +kernel, by decide +kernel⟩
theorem g__law_draw_len : OkG (defScope st__law_draw) "len" := ⟨by decide +kernel⟩
theorem l__law_draw__law_at : OkL (defScope st__law_draw) "_law_at" := ⟨by decide +kernel⟩
theorem l__law_draw__law_cell : OkL (defScope st__law_draw) "_law_cell" := ⟨by decide +kernel⟩
theorem l__law_draw__law_digit : OkL (defScope st__law_draw) "_law_digit" := ⟨by decide +kernel⟩
theorem l__law_draw__law_mixed : OkL (defScope st__law_draw) "_law_mixed" := ⟨by decide +kernel⟩
theorem v__law_draw__law_at : OkV (defScope st__law_draw) "_law_at" := ⟨by decide +kernel⟩
theorem v__law_draw__law_cell : OkV (defScope st__law_draw) "_law_cell" := ⟨by decide +kernel⟩
theorem v__law_draw__law_digit : OkV (defScope st__law_draw) "_law_digit" := ⟨by decide +kernel⟩
theorem v__law_draw__law_many : OkV (defScope st__law_draw) "_law_many" := ⟨by decide +kernel⟩
theorem v__law_draw__law_mixed : OkV (defScope st__law_draw) "_law_mixed" := ⟨by decide +kernel⟩
theorem v__law_draw__law_tape_here : OkV (defScope st__law_draw) "_law_tape_here" := ⟨by decide +kernel⟩
set_option maxHeartbeats 4000000 in
theorem cal__law_draw (T : Txt K mg) (d : Dn K mg "_law_draw" st__law_draw ["_law_tape_here", "_law_many"]) : Cal P w K mg base "_law_draw" ["_law_tape_here", "_law_many"] f__law_draw 1 := by
  have Sc := sc__law_draw
  refine cal_of ["_law_tape_here", "_law_many", "_law_digit", "_law_at", "_law_cell", "_law_mixed"] 0 b__law_draw rfl d Sc fun f cdv A outer s H E hr => ?_
  conv => arg 3; whnf
  refine GSs.h ?_
  exact (gss_cons (gs_if (gt_gt (ge_get (gv 0 v__law_draw__law_tape_here) ge_int) ge_int)
    (gss_cons (gset 2 Sc.nd l__law_draw__law_digit (ge_mod (ge_get (gv 0 v__law_draw__law_tape_here) ge_int) (gv 1 v__law_draw__law_many)))
    (gss_cons (gs_setix (ge_div2 (ge_get (gv 0 v__law_draw__law_tape_here) ge_int) (gv 1 v__law_draw__law_many)) (gv 0 v__law_draw__law_tape_here) ge_int)
    (gss_one (gs_ret (gv 2 v__law_draw__law_digit)))))
    gss_nil)
    (gss_cons (gset 3 Sc.nd l__law_draw__law_at (ge_get (gv 0 v__law_draw__law_tape_here) ge_int))
    (gss_cons (gs_setix (ge_add (gv 3 v__law_draw__law_at) ge_int) (gv 0 v__law_draw__law_tape_here) ge_int)
    (gss_cons (gset 4 Sc.nd l__law_draw__law_cell ge_int)
    (gss_cons (gs_if (gt_gt (ge_len (gl g__law_draw_len) T.b_len (ga_cons (ge_get (gv 0 v__law_draw__law_tape_here) ge_int) ga_nil se_Subscript)) ge_int)
    (gss_one (gset 4 Sc.nd l__law_draw__law_cell (ge_get (ge_get (gv 0 v__law_draw__law_tape_here) ge_int) (ge_mod (gv 3 v__law_draw__law_at) (ge_len (gl g__law_draw_len) T.b_len (ga_cons (ge_get (gv 0 v__law_draw__law_tape_here) ge_int) ga_nil se_Subscript))))))
    gss_nil)
    (gss_cons (gs_if (GW.jt (gw_and (gt_lt (gv 3 v__law_draw__law_at) (ge_len (gl g__law_draw_len) T.b_len (ga_cons (ge_get (gv 0 v__law_draw__law_tape_here) ge_int) ga_nil se_Subscript))) (gw_and1 (gt_ge (gv 4 v__law_draw__law_cell) (ge_pow ge_int ge_int)))))
    (gss_cons (gs_setix (ge_div2 (gv 4 v__law_draw__law_cell) (gv 1 v__law_draw__law_many)) (gv 0 v__law_draw__law_tape_here) ge_int)
    (gss_one (gs_ret (ge_mod (gv 4 v__law_draw__law_cell) (gv 1 v__law_draw__law_many)))))
    gss_nil)
    (gss_cons (gset 5 Sc.nd l__law_draw__law_mixed (ge_mod (ge_mul (ge_add (ge_mod (gv 4 v__law_draw__law_cell) ge_int) ge_int) (ge_add (ge_add (ge_mul (ge_mul ge_int (gv 3 v__law_draw__law_at)) (gv 3 v__law_draw__law_at)) (ge_mul ge_int (gv 3 v__law_draw__law_at))) ge_int)) ge_int))
    (gss_cons (gset 5 Sc.nd l__law_draw__law_mixed (ge_mod (ge_add (ge_add (ge_mul (gv 5 v__law_draw__law_mixed) (gv 5 v__law_draw__law_mixed)) (ge_mul ge_int (gv 3 v__law_draw__law_at))) (ge_mod (gv 4 v__law_draw__law_cell) ge_int)) ge_int))
    (gss_one (gs_ret (ge_mod (ge_div2 (gv 5 v__law_draw__law_mixed) ge_int) (gv 1 v__law_draw__law_many))))))))))))
def b__law_pound : Sv := (sq (sa (o2 getD (ls (ac (cn (.int 1)) (ac (cn (.int 2)) (ac (cn (.int 3)) (ac (o2 addD (cn (.int 1)) (cl 2 (noExc f__law_draw) (ac (vr 0) (ac (cn (.int 9)) an)))) an))))) (cl 2 (noExc f__law_draw) (ac (vr 0) (ac (cn (.int 4)) an)))) (gn 1))
    (sq (sa (b1 minD (ac (vr 1) (ac (o2 getD (ls (ac (cn (.int 0)) (ac (cn (.int 0)) (ac (cn (.int 1)) (ac (cl 2 (noExc f__law_draw) (ac (vr 0) (ac (cn (.int 10)) an))) an))))) (cl 2 (noExc f__law_draw) (ac (vr 0) (ac (cn (.int 4)) an)))) an))) (gn 2))
    (sq (sa (o2 getD (ls (ac (cn (.int 1)) (ac (cn (.int 2)) (ac (o2 addD (cn (.int 1)) (cl 2 (noExc f__law_draw) (ac (vr 0) (ac (cn (.int 4)) an)))) an)))) (cl 2 (noExc f__law_draw) (ac (vr 0) (ac (cn (.int 3)) an)))) (gn 3))
    (sq (sa (o2 getD (ls (ac (cn .non) (ac (cl 2 (noExc f__law_draw) (ac (vr 0) (ac (cn (.int 100)) an))) (ac (o2 addD (cn (.int 1)) (cl 2 (noExc f__law_draw) (ac (vr 0) (ac (cn (.int 5)) an)))) (ac (cn (.int 0)) an))))) (cl 2 (noExc f__law_draw) (ac (vr 0) (ac (cn (.int 4)) an)))) (gn 4))
    (sret (tp (ac (cn (.str "pound")) (ac (vr 1) (ac (vr 2) (ac (vr 3) (ac (vr 4) an)))))))))))
def f__law_pound : Fn := fnB 5 b__law_pound
theorem sc__law_pound : FnScope ["_law_tape_here", "_law_brim", "_law_deep", "_law_room", "_law_price"] ["_law_tape_here"] (defScope st__law_pound) := ⟨rfl, rfl, rfl, by decide +kernel, rfl, by decide +kernel, by decide +kernel⟩
theorem g__law_pound__law_draw : OkG (defScope st__law_pound) "_law_draw" := ⟨by decide +kernel⟩
theorem g__law_pound_min : OkG (defScope st__law_pound) "min" := ⟨by decide +kernel⟩
theorem l__law_pound__law_brim : OkL (defScope st__law_pound) "_law_brim" := ⟨by decide +kernel⟩
theorem l__law_pound__law_deep : OkL (defScope st__law_pound) "_law_deep" := ⟨by decide +kernel⟩
theorem l__law_pound__law_price : OkL (defScope st__law_pound) "_law_price" := ⟨by decide +kernel⟩
theorem l__law_pound__law_room : OkL (defScope st__law_pound) "_law_room" := ⟨by decide +kernel⟩
theorem v__law_pound__law_brim : OkV (defScope st__law_pound) "_law_brim" := ⟨by decide +kernel⟩
theorem v__law_pound__law_deep : OkV (defScope st__law_pound) "_law_deep" := ⟨by decide +kernel⟩
theorem v__law_pound__law_price : OkV (defScope st__law_pound) "_law_price" := ⟨by decide +kernel⟩
theorem v__law_pound__law_room : OkV (defScope st__law_pound) "_law_room" := ⟨by decide +kernel⟩
theorem v__law_pound__law_tape_here : OkV (defScope st__law_pound) "_law_tape_here" := ⟨by decide +kernel⟩
theorem p__law_draw : plainN "_law_draw" = true := by decide +kernel
set_option maxHeartbeats 4000000 in
theorem cal__law_pound (T : Txt K mg) (d : Dn K mg "_law_pound" st__law_pound ["_law_tape_here"]) (C__law_draw : Cal P w K mg base "_law_draw" ["_law_tape_here", "_law_many"] f__law_draw 1) : Cal P w K mg base "_law_pound" ["_law_tape_here"] f__law_pound 2 := by
  have Sc := sc__law_pound
  refine cal_of ["_law_tape_here", "_law_brim", "_law_deep", "_law_room", "_law_price"] 1 b__law_pound rfl d Sc fun f cdv A outer s H E hr => ?_
  conv => arg 3; whnf
  refine GSs.h ?_
  exact (gss_cons (gset 1 Sc.nd l__law_pound__law_brim (ge_get (ge_lst (ga_cons ge_int (ga_cons ge_int (ga_cons ge_int (ga_cons (ge_add ge_int (gown C__law_draw hr (gl g__law_pound__law_draw) p__law_draw (ga_cons (gv 0 v__law_pound__law_tape_here) (ga_cons ge_int ga_nil se_Constant) se_Name))) ga_nil se_BinOp) se_Constant) se_Constant) se_Constant)) (gown C__law_draw hr (gl g__law_pound__law_draw) p__law_draw (ga_cons (gv 0 v__law_pound__law_tape_here) (ga_cons ge_int ga_nil se_Constant) se_Name))))
    (gss_cons (gset 2 Sc.nd l__law_pound__law_deep (ge_min rfl (gl g__law_pound_min) T.b_min (ga_cons (gv 1 v__law_pound__law_brim) (ga_cons (ge_get (ge_lst (ga_cons ge_int (ga_cons ge_int (ga_cons ge_int (ga_cons (gown C__law_draw hr (gl g__law_pound__law_draw) p__law_draw (ga_cons (gv 0 v__law_pound__law_tape_here) (ga_cons ge_int ga_nil se_Constant) se_Name)) ga_nil se_Call) se_Constant) se_Constant) se_Constant)) (gown C__law_draw hr (gl g__law_pound__law_draw) p__law_draw (ga_cons (gv 0 v__law_pound__law_tape_here) (ga_cons ge_int ga_nil se_Constant) se_Name))) ga_nil se_Subscript) se_Name)))
    (gss_cons (gset 3 Sc.nd l__law_pound__law_room (ge_get (ge_lst (ga_cons ge_int (ga_cons ge_int (ga_cons (ge_add ge_int (gown C__law_draw hr (gl g__law_pound__law_draw) p__law_draw (ga_cons (gv 0 v__law_pound__law_tape_here) (ga_cons ge_int ga_nil se_Constant) se_Name))) ga_nil se_BinOp) se_Constant) se_Constant)) (gown C__law_draw hr (gl g__law_pound__law_draw) p__law_draw (ga_cons (gv 0 v__law_pound__law_tape_here) (ga_cons ge_int ga_nil se_Constant) se_Name))))
    (gss_cons (gset 4 Sc.nd l__law_pound__law_price (ge_get (ge_lst (ga_cons ge_non (ga_cons (gown C__law_draw hr (gl g__law_pound__law_draw) p__law_draw (ga_cons (gv 0 v__law_pound__law_tape_here) (ga_cons ge_int ga_nil se_Constant) se_Name)) (ga_cons (ge_add ge_int (gown C__law_draw hr (gl g__law_pound__law_draw) p__law_draw (ga_cons (gv 0 v__law_pound__law_tape_here) (ga_cons ge_int ga_nil se_Constant) se_Name))) (ga_cons ge_int ga_nil se_Constant) se_BinOp) se_Call) se_Constant)) (gown C__law_draw hr (gl g__law_pound__law_draw) p__law_draw (ga_cons (gv 0 v__law_pound__law_tape_here) (ga_cons ge_int ga_nil se_Constant) se_Name))))
    (gss_one (gs_ret (ge_tup (ga_cons ge_str (ga_cons (gv 1 v__law_pound__law_brim) (ga_cons (gv 2 v__law_pound__law_deep) (ga_cons (gv 3 v__law_pound__law_room) (ga_cons (gv 4 v__law_pound__law_price) ga_nil se_Name) se_Name) se_Name) se_Name) se_Constant))))))))
def lb__law_canal_1 : Sv := (sq (sa (va (o2 ltD (cn (.int 0)) (vr 4)) (va (o2 ltD (vr 4) (o2 subD (vr 2) (cn (.int 1)))) (o2 eqD (o2 getD (vr 3) (o1 negD (cn (.int 1)))) (tp (ac (cn (.str "chamber")) an))))) (gn 5))
    (sif (ta (tt (vr 5)) (tb (o2 gtD (cl 2 (noExc f__law_draw) (ac (vr 0) (ac (cn (.int 4)) an))) (cn (.int 0)))))
    (sx (mt appD (vr 3) (ac (cl 1 (noExc f__law_pound) (ac (vr 0) an)) an)))
    (sx (mt appD (vr 3) (ac (tp (ac (cn (.str "chamber")) an)) an)))))
def b__law_canal : Sv := (sq (sa (o2 addD (cn (.int 1)) (cl 2 (noExc f__law_draw) (ac (vr 0) (ac (vr 1) an)))) (gn 2))
    (sq (sa (ls (ac (tp (ac (cn (.str "end")) an)) an)) (gn 3))
    (sq (sfor (ir1 (ac (vr 2) an)) (gn 4) lb__law_canal_1)
    (sq (sa (o2 addD (cn (.int 1)) (cl 2 (noExc f__law_draw) (ac (vr 0) (ac (vr 2) an)))) (gn 6))
    (sq (sa (o2 addD (o2 mulD (ls (ac (cn (.str "up")) an)) (vr 6)) (o2 mulD (ls (ac (cn (.str "down")) an)) (o2 subD (o2 addD (vr 2) (cn (.int 1))) (vr 6)))) (gn 7))
    (sq (sif (tb (o2 eqD (cl 2 (noExc f__law_draw) (ac (vr 0) (ac (cn (.int 3)) an))) (cn (.int 0))))
    (sa (cmp (ir1 (ac (o2 addD (vr 2) (cn (.int 1))) an)) [none, some 0] (gn 0) ttrue (o2 getD (ls (ac (cn (.str "up")) (ac (cn (.str "down")) an))) (cl 2 (noExc f__law_draw) (ac (vr 1) (ac (cn (.int 2)) an))))) (gn 7))
    skip)
    (sret (tp (ac (b1 tupD (ac (o2 addD (vr 3) (ls (ac (tp (ac (cn (.str "end")) an)) an))) an)) (ac (b1 tupD (ac (vr 7) an)) an))))))))))
def f__law_canal : Fn := fnB 8 b__law_canal
theorem sc__law_canal : FnScope ["_law_tape_here", "_law_most", "_law_many", "_law_places", "_law_k", "_law_amid", "_law_top", "_law_gates"] ["_law_tape_here", "_law_most"] (defScope st__law_canal) := ⟨rfl, rfl, rfl, by decide +kernel, rfl, by decide +kernel, by decide +kernel⟩
theorem g__law_canal__law_draw : OkG (defScope st__law_canal) "_law_draw" := ⟨by decide +kernel⟩
theorem g__law_canal__law_pound : OkG (defScope st__law_canal) "_law_pound" := ⟨by decide +kernel⟩
theorem g__law_canal_range : OkG (defScope st__law_canal) "range" := ⟨by decide +kernel⟩
theorem g__law_canal_tuple : OkG (defScope st__law_canal) "tuple" := ⟨by decide +kernel⟩
theorem l__law_canal__law_amid : OkL (defScope st__law_canal) "_law_amid" := ⟨by decide +kernel⟩
theorem l__law_canal__law_gates : OkL (defScope st__law_canal) "_law_gates" := ⟨by decide +kernel⟩
theorem l__law_canal__law_k : OkL (defScope st__law_canal) "_law_k" := ⟨by decide +kernel⟩
theorem l__law_canal__law_many : OkL (defScope st__law_canal) "_law_many" := ⟨by decide +kernel⟩
theorem l__law_canal__law_places : OkL (defScope st__law_canal) "_law_places" := ⟨by decide +kernel⟩
theorem l__law_canal__law_top : OkL (defScope st__law_canal) "_law_top" := ⟨by decide +kernel⟩
theorem v__law_canal__law_amid : OkV (defScope st__law_canal) "_law_amid" := ⟨by decide +kernel⟩
theorem v__law_canal__law_gates : OkV (defScope st__law_canal) "_law_gates" := ⟨by decide +kernel⟩
theorem v__law_canal__law_k : OkV (defScope st__law_canal) "_law_k" := ⟨by decide +kernel⟩
theorem v__law_canal__law_many : OkV (defScope st__law_canal) "_law_many" := ⟨by decide +kernel⟩
theorem v__law_canal__law_most : OkV (defScope st__law_canal) "_law_most" := ⟨by decide +kernel⟩
theorem v__law_canal__law_places : OkV (defScope st__law_canal) "_law_places" := ⟨by decide +kernel⟩
theorem v__law_canal__law_tape_here : OkV (defScope st__law_canal) "_law_tape_here" := ⟨by decide +kernel⟩
theorem v__law_canal__law_top : OkV (defScope st__law_canal) "_law_top" := ⟨by decide +kernel⟩
theorem p__law_pound : plainN "_law_pound" = true := by decide +kernel
set_option maxHeartbeats 4000000 in
theorem cal__law_canal (T : Txt K mg) (d : Dn K mg "_law_canal" st__law_canal ["_law_tape_here", "_law_most"]) (C__law_draw : Cal P w K mg base "_law_draw" ["_law_tape_here", "_law_many"] f__law_draw 1) (C__law_pound : Cal P w K mg base "_law_pound" ["_law_tape_here"] f__law_pound 2) : Cal P w K mg base "_law_canal" ["_law_tape_here", "_law_most"] f__law_canal 3 := by
  have Sc := sc__law_canal
  refine cal_of ["_law_tape_here", "_law_most", "_law_many", "_law_places", "_law_k", "_law_amid", "_law_top", "_law_gates"] 2 b__law_canal rfl d Sc fun f cdv A outer s H E hr => ?_
  conv => arg 3; whnf
  refine GSs.h ?_
  exact (gss_cons (gset 2 Sc.nd l__law_canal__law_many (ge_add ge_int (gown C__law_draw hr (gl g__law_canal__law_draw) p__law_draw (ga_cons (gv 0 v__law_canal__law_tape_here) (ga_cons (gv 1 v__law_canal__law_most) ga_nil se_Name) se_Name))))
    (gss_cons (gset 3 Sc.nd l__law_canal__law_places (ge_lst (ga_cons (ge_tup (ga_cons ge_str ga_nil se_Constant)) ga_nil se_Tuple)))
    (gss_cons (gs_for PassesOwn.never rfl (gi_range1 (gl g__law_canal_range) T.b_range (ga_cons (gv 2 v__law_canal__law_many) ga_nil se_Name)) (ggn 4 Sc.nd l__law_canal__law_k)
    (gss_cons (gset 5 Sc.nd l__law_canal__law_amid (ge_and (ge_lt ge_int (gv 4 v__law_canal__law_k)) (ge_and (ge_lt (gv 4 v__law_canal__law_k) (ge_sub (gv 2 v__law_canal__law_many) ge_int)) (ge_one (ge_eq hr.units (ge_get (gv 3 v__law_canal__law_places) (ge_neg ge_int)) (ge_tup (ga_cons ge_str ga_nil se_Constant)))))))
    (gss_one (gs_if (GW.jt (gw_and (gt_val (gv 5 v__law_canal__law_amid)) (gw_and1 (gt_gt (gown C__law_draw hr (gl g__law_canal__law_draw) p__law_draw (ga_cons (gv 0 v__law_canal__law_tape_here) (ga_cons ge_int ga_nil se_Constant) se_Name)) ge_int))))
    (gss_one (gs_expr (ge_append (gv 3 v__law_canal__law_places) (ga_cons (gown C__law_pound hr (gl g__law_canal__law_pound) p__law_pound (ga_cons (gv 0 v__law_canal__law_tape_here) ga_nil se_Name)) ga_nil se_Call))))
    (gss_one (gs_expr (ge_append (gv 3 v__law_canal__law_places) (ga_cons (ge_tup (ga_cons ge_str ga_nil se_Constant)) ga_nil se_Tuple))))))))
    (gss_cons (gset 6 Sc.nd l__law_canal__law_top (ge_add ge_int (gown C__law_draw hr (gl g__law_canal__law_draw) p__law_draw (ga_cons (gv 0 v__law_canal__law_tape_here) (ga_cons (gv 2 v__law_canal__law_many) ga_nil se_Name) se_Name))))
    (gss_cons (gset 7 Sc.nd l__law_canal__law_gates (ge_add (ge_mul (ge_lst (ga_cons ge_str ga_nil se_Constant)) (gv 6 v__law_canal__law_top)) (ge_mul (ge_lst (ga_cons ge_str ga_nil se_Constant)) (ge_sub (ge_add (gv 2 v__law_canal__law_many) ge_int) (gv 6 v__law_canal__law_top)))))
    (gss_cons (gs_if (gt_eq hr.units (gown C__law_draw hr (gl g__law_canal__law_draw) p__law_draw (ga_cons (gv 0 v__law_canal__law_tape_here) (ga_cons ge_int ga_nil se_Constant) se_Name)) ge_int)
    (gss_one (gsetComp 7 (sc := defScope st__law_canal) (N := ["_law_tape_here", "_law_most", "_law_many", "_law_places", "_law_k", "_law_amid", "_law_top", "_law_gates"]) rfl rfl (N' := ["_law_k", "_law_tape_here"]) (pk := [none, some 0]) ⟨rfl, by decide +kernel, by decide +kernel, by decide +kernel, rfl, by decide +kernel⟩ rfl (gi_range1 (gl g__law_canal_range) T.b_range (ga_cons (ge_add (gv 2 v__law_canal__law_many) ge_int) ga_nil se_BinOp)) (fun cl s2 H2 C fp => (ggnB 0 (by decide +kernel) (by decide +kernel))) (fun cl s2 H2 C fp => gts_nil) (fun cl s2 H2 C fp => (ge_get (ge_lst (ga_cons ge_str (ga_cons ge_str ga_nil se_Constant) se_Constant)) (gown C__law_draw hr (glB (by decide +kernel)) p__law_draw (ga_cons (gvB 1 (by decide +kernel)) (ga_cons ge_int ga_nil se_Constant) se_Name)))) Sc.nd l__law_canal__law_gates (by rfl)))
    gss_nil)
    (gss_one (gs_ret (ge_tup (ga_cons (ge_tuple (gl g__law_canal_tuple) T.b_tuple (ga_cons (ge_add (gv 3 v__law_canal__law_places) (ge_lst (ga_cons (ge_tup (ga_cons ge_str ga_nil se_Constant)) ga_nil se_Tuple))) ga_nil se_BinOp)) (ga_cons (ge_tuple (gl g__law_canal_tuple) T.b_tuple (ga_cons (gv 7 v__law_canal__law_gates) ga_nil se_Name)) ga_nil se_Call) se_Call))))))))))
def lb__law_stand_1 : Sv := (sq (sa (cn (.int 0)) (gn 5))
    (sq (sa (cl 2 (noExc f__law_draw) (ac (vr 0) (ac (o2 addD (vr 2) (cn (.int 1))) an))) (gn 6))
    (sq (sa (cl 2 (noExc f__law_draw) (ac (vr 0) (ac (o2 addD (vr 2) (cn (.int 1))) an))) (gn 7))
    (sq (sif (tb (o2 eqD (o2 getD (vr 4) (cn (.int 0))) (cn (.str "chamber"))))
    (sq (sa (cl 2 (noExc f__law_draw) (ac (vr 0) (ac (cn (.int 2)) an))) (gn 5))
    (sq (sa (cl 2 (noExc f__law_draw) (ac (vr 0) (ac (cn (.int 4)) an))) (gn 8))
    (sq (sa (b1 intD (ac (o2 eqD (vr 8) (cn (.int 1))) an)) (gn 6))
    (sa (b1 intD (ac (o2 eqD (vr 8) (cn (.int 2))) an)) (gn 7)))))
    skip)
    (sq (sif (tb (o2 eqD (o2 getD (vr 4) (cn (.int 0))) (cn (.str "pound"))))
    (sq (sa (o2 getD (ls (ac (cn (.int 0)) (ac (o2 getD (vr 4) (cn (.int 1))) (ac (cl 2 (noExc f__law_draw) (ac (vr 0) (ac (o2 addD (o2 getD (vr 4) (cn (.int 1))) (cn (.int 1))) an))) an)))) (cl 2 (noExc f__law_draw) (ac (vr 0) (ac (cn (.int 3)) an)))) (gn 5))
    (sq (sa (cl 2 (noExc f__law_draw) (ac (vr 0) (ac (o2 addD (o2 getD (vr 4) (cn (.int 3))) (cn (.int 1))) an))) (gn 6))
    (sa (cl 2 (noExc f__law_draw) (ac (vr 0) (ac (o2 addD (o2 subD (o2 getD (vr 4) (cn (.int 3))) (vr 6)) (cn (.int 1))) an))) (gn 7))))
    skip)
    (sq (sx (mt appD (o2 getD (vr 3) (cn (.int 0))) (ac (vr 5) an)))
    (sq (sx (mt appD (o2 getD (vr 3) (cn (.int 1))) (ac (vr 6) an)))
    (sx (mt appD (o2 getD (vr 3) (cn (.int 2))) (ac (vr 7) an))))))))))
def b__law_stand : Sv := (sq (sa (ls (ac (ls an) (ac (ls an) (ac (ls an) an)))) (gn 3))
    (sq (sfor (isrc (o2 getD (vr 1) (cn (.int 0)))) (gn 4) lb__law_stand_1)
    (sret (tp (ac (b1 tupD (ac (o2 getD (vr 3) (cn (.int 0))) an)) (ac (b1 tupD (ac (o2 getD (vr 3) (cn (.int 1))) an)) (ac (b1 tupD (ac (o2 getD (vr 3) (cn (.int 2))) an)) an)))))))
def f__law_stand : Fn := fnB 9 b__law_stand
theorem sc__law_stand : FnScope ["_law_tape_here", "_law_canal_here", "_law_crowd", "_law_rows", "_law_place", "_law_level", "_law_rights", "_law_lefts", "_law_way"] ["_law_tape_here", "_law_canal_here", "_law_crowd"] (defScope st__law_stand) := ⟨rfl, rfl, rfl, by decide +kernel, rfl, by decide +kernel, by decide +kernel⟩
theorem g__law_stand__law_draw : OkG (defScope st__law_stand) "_law_draw" := ⟨by decide +kernel⟩
theorem g__law_stand_int : OkG (defScope st__law_stand) "int" := ⟨by decide +kernel⟩
theorem g__law_stand_tuple : OkG (defScope st__law_stand) "tuple" := ⟨by decide +kernel⟩
theorem l__law_stand__law_lefts : OkL (defScope st__law_stand) "_law_lefts" := ⟨by decide +kernel⟩
theorem l__law_stand__law_level : OkL (defScope st__law_stand) "_law_level" := ⟨by decide +kernel⟩
theorem l__law_stand__law_place : OkL (defScope st__law_stand) "_law_place" := ⟨by decide +kernel⟩
theorem l__law_stand__law_rights : OkL (defScope st__law_stand) "_law_rights" := ⟨by decide +kernel⟩
theorem l__law_stand__law_rows : OkL (defScope st__law_stand) "_law_rows" := ⟨by decide +kernel⟩
theorem l__law_stand__law_way : OkL (defScope st__law_stand) "_law_way" := ⟨by decide +kernel⟩
theorem v__law_stand__law_canal_here : OkV (defScope st__law_stand) "_law_canal_here" := ⟨by decide +kernel⟩
theorem v__law_stand__law_crowd : OkV (defScope st__law_stand) "_law_crowd" := ⟨by decide +kernel⟩
theorem v__law_stand__law_lefts : OkV (defScope st__law_stand) "_law_lefts" := ⟨by decide +kernel⟩
theorem v__law_stand__law_level : OkV (defScope st__law_stand) "_law_level" := ⟨by decide +kernel⟩
theorem v__law_stand__law_place : OkV (defScope st__law_stand) "_law_place" := ⟨by decide +kernel⟩
theorem v__law_stand__law_rights : OkV (defScope st__law_stand) "_law_rights" := ⟨by decide +kernel⟩
theorem v__law_stand__law_rows : OkV (defScope st__law_stand) "_law_rows" := ⟨by decide +kernel⟩
theorem v__law_stand__law_tape_here : OkV (defScope st__law_stand) "_law_tape_here" := ⟨by decide +kernel⟩
theorem v__law_stand__law_way : OkV (defScope st__law_stand) "_law_way" := ⟨by decide +kernel⟩
set_option maxHeartbeats 4000000 in
theorem cal__law_stand (T : Txt K mg) (d : Dn K mg "_law_stand" st__law_stand ["_law_tape_here", "_law_canal_here", "_law_crowd"]) (C__law_draw : Cal P w K mg base "_law_draw" ["_law_tape_here", "_law_many"] f__law_draw 1) : Cal P w K mg base "_law_stand" ["_law_tape_here", "_law_canal_here", "_law_crowd"] f__law_stand 2 := by
  have Sc := sc__law_stand
  refine cal_of ["_law_tape_here", "_law_canal_here", "_law_crowd", "_law_rows", "_law_place", "_law_level", "_law_rights", "_law_lefts", "_law_way"] 1 b__law_stand rfl d Sc fun f cdv A outer s H E hr => ?_
  conv => arg 3; whnf
  refine GSs.h ?_
  exact (gss_cons (gset 3 Sc.nd l__law_stand__law_rows (ge_lst (ga_cons (ge_lst ga_nil) (ga_cons (ge_lst ga_nil) (ga_cons (ge_lst ga_nil) ga_nil se_List) se_List) se_List)))
    (gss_cons (gs_for PassesOwn.never rfl (gi_seq (ge_get (gv 1 v__law_stand__law_canal_here) ge_int)) (ggn 4 Sc.nd l__law_stand__law_place)
    (gss_cons (gset 5 Sc.nd l__law_stand__law_level ge_int)
    (gss_cons (gset 6 Sc.nd l__law_stand__law_rights (gown C__law_draw hr (gl g__law_stand__law_draw) p__law_draw (ga_cons (gv 0 v__law_stand__law_tape_here) (ga_cons (ge_add (gv 2 v__law_stand__law_crowd) ge_int) ga_nil se_BinOp) se_Name)))
    (gss_cons (gset 7 Sc.nd l__law_stand__law_lefts (gown C__law_draw hr (gl g__law_stand__law_draw) p__law_draw (ga_cons (gv 0 v__law_stand__law_tape_here) (ga_cons (ge_add (gv 2 v__law_stand__law_crowd) ge_int) ga_nil se_BinOp) se_Name)))
    (gss_cons (gs_if (gt_eq hr.units (ge_get (gv 4 v__law_stand__law_place) ge_int) ge_str)
    (gss_cons (gset 5 Sc.nd l__law_stand__law_level (gown C__law_draw hr (gl g__law_stand__law_draw) p__law_draw (ga_cons (gv 0 v__law_stand__law_tape_here) (ga_cons ge_int ga_nil se_Constant) se_Name)))
    (gss_cons (gset 8 Sc.nd l__law_stand__law_way (gown C__law_draw hr (gl g__law_stand__law_draw) p__law_draw (ga_cons (gv 0 v__law_stand__law_tape_here) (ga_cons ge_int ga_nil se_Constant) se_Name)))
    (gss_cons (gset 6 Sc.nd l__law_stand__law_rights (ge_intc (gl g__law_stand_int) T.b_int (ga_cons (ge_eq hr.units (gv 8 v__law_stand__law_way) ge_int) ga_nil se_Compare)))
    (gss_one (gset 7 Sc.nd l__law_stand__law_lefts (ge_intc (gl g__law_stand_int) T.b_int (ga_cons (ge_eq hr.units (gv 8 v__law_stand__law_way) ge_int) ga_nil se_Compare)))))))
    gss_nil)
    (gss_cons (gs_if (gt_eq hr.units (ge_get (gv 4 v__law_stand__law_place) ge_int) ge_str)
    (gss_cons (gset 5 Sc.nd l__law_stand__law_level (ge_get (ge_lst (ga_cons ge_int (ga_cons (ge_get (gv 4 v__law_stand__law_place) ge_int) (ga_cons (gown C__law_draw hr (gl g__law_stand__law_draw) p__law_draw (ga_cons (gv 0 v__law_stand__law_tape_here) (ga_cons (ge_add (ge_get (gv 4 v__law_stand__law_place) ge_int) ge_int) ga_nil se_BinOp) se_Name)) ga_nil se_Call) se_Subscript) se_Constant)) (gown C__law_draw hr (gl g__law_stand__law_draw) p__law_draw (ga_cons (gv 0 v__law_stand__law_tape_here) (ga_cons ge_int ga_nil se_Constant) se_Name))))
    (gss_cons (gset 6 Sc.nd l__law_stand__law_rights (gown C__law_draw hr (gl g__law_stand__law_draw) p__law_draw (ga_cons (gv 0 v__law_stand__law_tape_here) (ga_cons (ge_add (ge_get (gv 4 v__law_stand__law_place) ge_int) ge_int) ga_nil se_BinOp) se_Name)))
    (gss_one (gset 7 Sc.nd l__law_stand__law_lefts (gown C__law_draw hr (gl g__law_stand__law_draw) p__law_draw (ga_cons (gv 0 v__law_stand__law_tape_here) (ga_cons (ge_add (ge_sub (ge_get (gv 4 v__law_stand__law_place) ge_int) (gv 6 v__law_stand__law_rights)) ge_int) ga_nil se_BinOp) se_Name))))))
    gss_nil)
    (gss_cons (gs_expr (ge_append (ge_get (gv 3 v__law_stand__law_rows) ge_int) (ga_cons (gv 5 v__law_stand__law_level) ga_nil se_Name)))
    (gss_cons (gs_expr (ge_append (ge_get (gv 3 v__law_stand__law_rows) ge_int) (ga_cons (gv 6 v__law_stand__law_rights) ga_nil se_Name)))
    (gss_one (gs_expr (ge_append (ge_get (gv 3 v__law_stand__law_rows) ge_int) (ga_cons (gv 7 v__law_stand__law_lefts) ga_nil se_Name))))))))))))
    (gss_one (gs_ret (ge_tup (ga_cons (ge_tuple (gl g__law_stand_tuple) T.b_tuple (ga_cons (ge_get (gv 3 v__law_stand__law_rows) ge_int) ga_nil se_Subscript)) (ga_cons (ge_tuple (gl g__law_stand_tuple) T.b_tuple (ga_cons (ge_get (gv 3 v__law_stand__law_rows) ge_int) ga_nil se_Subscript)) (ga_cons (ge_tuple (gl g__law_stand_tuple) T.b_tuple (ga_cons (ge_get (gv 3 v__law_stand__law_rows) ge_int) ga_nil se_Subscript)) ga_nil se_Call) se_Call) se_Call))))))
def b__law_whole : Sv := (sret (va (o1 (isD "int") (vr 0)) (vn (o1 (isD "bool") (vr 0)))))
def f__law_whole : Fn := fnB 1 b__law_whole
theorem sc__law_whole : FnScope ["_law_thing"] ["_law_thing"] (defScope st__law_whole) := ⟨rfl, rfl, rfl, by decide +kernel, rfl, by decide +kernel, by decide +kernel⟩
theorem g__law_whole_bool : OkG (defScope st__law_whole) "bool" := ⟨by decide +kernel⟩
theorem g__law_whole_int : OkG (defScope st__law_whole) "int" := ⟨by decide +kernel⟩
theorem g__law_whole_isinstance : OkG (defScope st__law_whole) "isinstance" := ⟨by decide +kernel⟩
theorem v__law_whole__law_thing : OkV (defScope st__law_whole) "_law_thing" := ⟨by decide +kernel⟩
set_option maxHeartbeats 4000000 in
theorem cal__law_whole (T : Txt K mg) (d : Dn K mg "_law_whole" st__law_whole ["_law_thing"]) : Cal P w K mg base "_law_whole" ["_law_thing"] f__law_whole 1 := by
  have Sc := sc__law_whole
  refine cal_of ["_law_thing"] 0 b__law_whole rfl d Sc fun f cdv A outer s H E hr => ?_
  conv => arg 3; whnf
  refine GSs.h ?_
  exact (gss_one (gs_ret (ge_and (ge_isi kit_int (by rfl) (by decide +kernel) (by decide +kernel) (gl g__law_whole_isinstance) T.b_isinstance (gl g__law_whole_int) T.b_int (gv 0 v__law_whole__law_thing) (by rfl) (by rfl) (by rfl)) (ge_one (ge_not (ge_isi kit_bool (by rfl) (by decide +kernel) (by decide +kernel) (gl g__law_whole_isinstance) T.b_isinstance (gl g__law_whole_bool) T.b_bool (gv 0 v__law_whole__law_thing) (by rfl) (by rfl) (by rfl)))))))
def lb__law_is_stand_1 : Sv := (sif (to (tn (tt (cl 1 (noExc f__law_whole) (ac (vr 4) an)))) (tb (o2 ltD (vr 4) (cn (.int 0)))))
    (sret (cn (.bl false)))
    skip)
def lb__law_is_stand_2 : Sv := (sq (sif (to (tn (tt (o1 (isD "tuple") (vr 3)))) (tb (o2 neD (b1 lenD (ac (vr 3) an)) (b1 lenD (ac (vr 2) an)))))
    (sret (cn (.bl false)))
    skip)
    (sfor (isrc (vr 3)) (gn 4) lb__law_is_stand_1))
def lb__law_is_stand_3 : Sv := (sq (sa (o2 addD (o2 getD (o2 getD (vr 1) (cn (.int 1))) (vr 6)) (o2 getD (o2 getD (vr 1) (cn (.int 2))) (vr 6))) (gn 8))
    (sq (sa (o2 addD (vr 5) (vr 8)) (gn 5))
    (sq (sif (ta (tb (o2 eqD (o2 getD (vr 7) (cn (.int 0))) (cn (.str "end")))) (tb (o2 neD (o2 getD (o2 getD (vr 1) (cn (.int 0))) (vr 6)) (cn (.int 0)))))
    (sret (cn (.bl false)))
    skip)
    (sq (sif (ta (tb (o2 eqD (o2 getD (vr 7) (cn (.int 0))) (cn (.str "chamber")))) (to (tb (o2 gtD (o2 getD (o2 getD (vr 1) (cn (.int 0))) (vr 6)) (cn (.int 1)))) (tb (o2 gtD (vr 8) (cn (.int 1))))))
    (sret (cn (.bl false)))
    skip)
    (sif (ta (tb (o2 eqD (o2 getD (vr 7) (cn (.int 0))) (cn (.str "pound")))) (to (tb (o2 gtD (o2 getD (o2 getD (vr 1) (cn (.int 0))) (vr 6)) (o2 getD (vr 7) (cn (.int 1))))) (tb (o2 gtD (vr 8) (o2 getD (vr 7) (cn (.int 3)))))))
    (sret (cn (.bl false)))
    skip)))))
def b__law_is_stand : Sv := (sq (sa (o2 getD (vr 0) (cn (.int 0))) (gn 2))
    (sq (sif (to (tn (tt (o1 (isD "tuple") (vr 1)))) (tb (o2 neD (b1 lenD (ac (vr 1) an)) (cn (.int 3)))))
    (sret (cn (.bl false)))
    skip)
    (sq (sfor (isrc (vr 1)) (gn 3) lb__law_is_stand_2)
    (sq (sa (cn (.int 0)) (gn 5))
    (sq (sfor (ienumerate (ac (vr 2) an)) (gt (gcons (gn 6) (gcons (gn 7) gnil)) 2) lb__law_is_stand_3)
    (sret (o2 ltD (vr 5) (cn (.int 61)))))))))
def f__law_is_stand : Fn := fnB 9 b__law_is_stand
theorem sc__law_is_stand : FnScope ["_law_canal_here", "_law_thing", "_law_places", "_law_row", "_law_one", "_law_all", "_law_k", "_law_place", "_law_here"] ["_law_canal_here", "_law_thing"] (defScope st__law_is_stand) := ⟨rfl, rfl, rfl, by decide +kernel, rfl, by decide +kernel, by decide +kernel⟩
theorem g__law_is_stand__law_whole : OkG (defScope st__law_is_stand) "_law_whole" := ⟨by decide +kernel⟩
theorem g__law_is_stand_enumerate : OkG (defScope st__law_is_stand) "enumerate" := ⟨by decide +kernel⟩
theorem g__law_is_stand_isinstance : OkG (defScope st__law_is_stand) "isinstance" := ⟨by decide +kernel⟩
theorem g__law_is_stand_len : OkG (defScope st__law_is_stand) "len" := ⟨by decide +kernel⟩
theorem g__law_is_stand_tuple : OkG (defScope st__law_is_stand) "tuple" := ⟨by decide +kernel⟩
theorem l__law_is_stand__law_all : OkL (defScope st__law_is_stand) "_law_all" := ⟨by decide +kernel⟩
theorem l__law_is_stand__law_here : OkL (defScope st__law_is_stand) "_law_here" := ⟨by decide +kernel⟩
theorem l__law_is_stand__law_k : OkL (defScope st__law_is_stand) "_law_k" := ⟨by decide +kernel⟩
theorem l__law_is_stand__law_one : OkL (defScope st__law_is_stand) "_law_one" := ⟨by decide +kernel⟩
theorem l__law_is_stand__law_place : OkL (defScope st__law_is_stand) "_law_place" := ⟨by decide +kernel⟩
theorem l__law_is_stand__law_places : OkL (defScope st__law_is_stand) "_law_places" := ⟨by decide +kernel⟩
theorem l__law_is_stand__law_row : OkL (defScope st__law_is_stand) "_law_row" := ⟨by decide +kernel⟩
theorem v__law_is_stand__law_all : OkV (defScope st__law_is_stand) "_law_all" := ⟨by decide +kernel⟩
theorem v__law_is_stand__law_canal_here : OkV (defScope st__law_is_stand) "_law_canal_here" := ⟨by decide +kernel⟩
theorem v__law_is_stand__law_here : OkV (defScope st__law_is_stand) "_law_here" := ⟨by decide +kernel⟩
theorem v__law_is_stand__law_k : OkV (defScope st__law_is_stand) "_law_k" := ⟨by decide +kernel⟩
theorem v__law_is_stand__law_one : OkV (defScope st__law_is_stand) "_law_one" := ⟨by decide +kernel⟩
theorem v__law_is_stand__law_place : OkV (defScope st__law_is_stand) "_law_place" := ⟨by decide +kernel⟩
theorem v__law_is_stand__law_places : OkV (defScope st__law_is_stand) "_law_places" := ⟨by decide +kernel⟩
theorem v__law_is_stand__law_row : OkV (defScope st__law_is_stand) "_law_row" := ⟨by decide +kernel⟩
theorem v__law_is_stand__law_thing : OkV (defScope st__law_is_stand) "_law_thing" := ⟨by decide +kernel⟩
theorem p__law_whole : plainN "_law_whole" = true := by decide +kernel
set_option maxHeartbeats 4000000 in
theorem cal__law_is_stand (T : Txt K mg) (d : Dn K mg "_law_is_stand" st__law_is_stand ["_law_canal_here", "_law_thing"]) (C__law_whole : Cal P w K mg base "_law_whole" ["_law_thing"] f__law_whole 1) : Cal P w K mg base "_law_is_stand" ["_law_canal_here", "_law_thing"] f__law_is_stand 2 := by
  have Sc := sc__law_is_stand
  refine cal_of ["_law_canal_here", "_law_thing", "_law_places", "_law_row", "_law_one", "_law_all", "_law_k", "_law_place", "_law_here"] 1 b__law_is_stand rfl d Sc fun f cdv A outer s H E hr => ?_
  conv => arg 3; whnf
  refine GSs.h ?_
  exact (gss_cons (gset 2 Sc.nd l__law_is_stand__law_places (ge_get (gv 0 v__law_is_stand__law_canal_here) ge_int))
    (gss_cons (gs_if (GW.jt (gw_or (gt_not (gt_val (ge_isi kit_tuple (by rfl) (by decide +kernel) (by decide +kernel) (gl g__law_is_stand_isinstance) T.b_isinstance (gl g__law_is_stand_tuple) T.b_tuple (gv 1 v__law_is_stand__law_thing) (by rfl) (by rfl) (by rfl)))) (gw_or1 (gt_ne hr.units (ge_len (gl g__law_is_stand_len) T.b_len (ga_cons (gv 1 v__law_is_stand__law_thing) ga_nil se_Name)) ge_int))))
    (gss_one (gs_ret ge_bl))
    gss_nil)
    (gss_cons (gs_for PassesOwn.never rfl (gi_seq (gv 1 v__law_is_stand__law_thing)) (ggn 3 Sc.nd l__law_is_stand__law_row)
    (gss_cons (gs_if (GW.jt (gw_or (gt_not (gt_val (ge_isi kit_tuple (by rfl) (by decide +kernel) (by decide +kernel) (gl g__law_is_stand_isinstance) T.b_isinstance (gl g__law_is_stand_tuple) T.b_tuple (gv 3 v__law_is_stand__law_row) (by rfl) (by rfl) (by rfl)))) (gw_or1 (gt_ne hr.units (ge_len (gl g__law_is_stand_len) T.b_len (ga_cons (gv 3 v__law_is_stand__law_row) ga_nil se_Name)) (ge_len (gl g__law_is_stand_len) T.b_len (ga_cons (gv 2 v__law_is_stand__law_places) ga_nil se_Name))))))
    (gss_one (gs_ret ge_bl))
    gss_nil)
    (gss_one (gs_for PassesOwn.never rfl (gi_seq (gv 3 v__law_is_stand__law_row)) (ggn 4 Sc.nd l__law_is_stand__law_one)
    (gss_one (gs_if (GW.jt (gw_or (gt_not (gt_val (gown C__law_whole hr (gl g__law_is_stand__law_whole) p__law_whole (ga_cons (gv 4 v__law_is_stand__law_one) ga_nil se_Name)))) (gw_or1 (gt_lt (gv 4 v__law_is_stand__law_one) ge_int))))
    (gss_one (gs_ret ge_bl))
    gss_nil))))))
    (gss_cons (gset 5 Sc.nd l__law_is_stand__law_all ge_int)
    (gss_cons (gs_for PassesOwn.never rfl (gi_enumerate (gl g__law_is_stand_enumerate) T.b_enumerate (ga_cons (gv 2 v__law_is_stand__law_places) ga_nil se_Name)) (gg_tup rfl (ggs_cons (ggn 6 Sc.nd l__law_is_stand__law_k) (ggs_cons (ggn 7 Sc.nd l__law_is_stand__law_place) ggs_nil)))
    (gss_cons (gset 8 Sc.nd l__law_is_stand__law_here (ge_add (ge_get (ge_get (gv 1 v__law_is_stand__law_thing) ge_int) (gv 6 v__law_is_stand__law_k)) (ge_get (ge_get (gv 1 v__law_is_stand__law_thing) ge_int) (gv 6 v__law_is_stand__law_k))))
    (gss_cons (gset 5 Sc.nd l__law_is_stand__law_all (ge_add (gv 5 v__law_is_stand__law_all) (gv 8 v__law_is_stand__law_here)))
    (gss_cons (gs_if (GW.jt (gw_and (gt_eq hr.units (ge_get (gv 7 v__law_is_stand__law_place) ge_int) ge_str) (gw_and1 (gt_ne hr.units (ge_get (ge_get (gv 1 v__law_is_stand__law_thing) ge_int) (gv 6 v__law_is_stand__law_k)) ge_int))))
    (gss_one (gs_ret ge_bl))
    gss_nil)
    (gss_cons (gs_if (GW.jt (gw_and (gt_eq hr.units (ge_get (gv 7 v__law_is_stand__law_place) ge_int) ge_str) (gw_and1 (GW.jt (gw_or (gt_gt (ge_get (ge_get (gv 1 v__law_is_stand__law_thing) ge_int) (gv 6 v__law_is_stand__law_k)) ge_int) (gw_or1 (gt_gt (gv 8 v__law_is_stand__law_here) ge_int)))))))
    (gss_one (gs_ret ge_bl))
    gss_nil)
    (gss_one (gs_if (GW.jt (gw_and (gt_eq hr.units (ge_get (gv 7 v__law_is_stand__law_place) ge_int) ge_str) (gw_and1 (GW.jt (gw_or (gt_gt (ge_get (ge_get (gv 1 v__law_is_stand__law_thing) ge_int) (gv 6 v__law_is_stand__law_k)) (ge_get (gv 7 v__law_is_stand__law_place) ge_int)) (gw_or1 (gt_gt (gv 8 v__law_is_stand__law_here) (ge_get (gv 7 v__law_is_stand__law_place) ge_int))))))))
    (gss_one (gs_ret ge_bl))
    gss_nil)))))))
    (gss_one (gs_ret (ge_lt (gv 5 v__law_is_stand__law_all) ge_int))))))))
def b__law_bent : Sv := (sq (sa (cmp (isrc (vr 1)) [none] (gn 0) ttrue (b1 listD (ac (vr 0) an))) (gn 2))
    (sq (sa (cl 2 (noExc f__law_draw) (ac (vr 0) (ac (cn (.int 3)) an))) (gn 3))
    (sq (sa (cl 2 (noExc f__law_draw) (ac (vr 0) (ac (b1 lenD (ac (o2 getD (vr 2) (cn (.int 0))) an)) an))) (gn 4))
    (sq (sa (cl 2 (noExc f__law_draw) (ac (vr 0) (ac (cn (.int 14)) an))) (gn 5))
    (sq (sif (tb (o2 ltD (vr 5) (cn (.int 5))))
    (ss (o2 addD (o2 getD (o2 getD (vr 2) (vr 3)) (vr 4)) (o2 getD (ls (ac (cn (.int 1)) (ac (cn (.int 1)) (ac (o2 subD (cn (.int 0)) (cn (.int 1))) (ac (cn (.int 2)) (ac (cn (.int 0)) an)))))) (vr 5))) (o2 getD (vr 2) (vr 3)) (vr 4) setD)
    (sif (tb (o2 eqD (vr 5) (cn (.int 5))))
    (ss (o2 getD (ls (ac (cn (.bl true)) (ac (cn (.bl false)) (ac (cn (.str "0")) (ac (cn .non) (ac (tp (ac (cn (.int 0)) an)) (ac (o2 subD (cn (.int 0)) (cn (.int 1))) (ac (ls (ac (cn (.int 0)) an)) (ac (ls an) (ac (o2 powD (cn (.int 10)) (cn (.int 59))) an)))))))))) (cl 2 (noExc f__law_draw) (ac (vr 0) (ac (cn (.int 9)) an)))) (o2 getD (vr 2) (vr 3)) (vr 4) setD)
    (sif (tb (o2 eqD (vr 5) (cn (.int 6))))
    (sx (mt popD (o2 getD (vr 2) (vr 3)) (ac (vr 4) an)))
    (sif (tb (o2 eqD (vr 5) (cn (.int 7))))
    (sx (mt insD (o2 getD (vr 2) (vr 3)) (ac (vr 4) (ac (cn (.int 0)) an))))
    (sif (tb (o2 eqD (vr 5) (cn (.int 8))))
    (sa (ls (ac (o2 getD (vr 2) (cn (.int 1))) (ac (o2 getD (vr 2) (cn (.int 0))) (ac (o2 getD (vr 2) (cn (.int 2))) an)))) (gn 2))
    (sif (tb (o2 eqD (vr 5) (cn (.int 9))))
    (sq (sa (o2 addD (b1 sumD (ac (o2 getD (vr 2) (cn (.int 1))) an)) (b1 sumD (ac (o2 getD (vr 2) (cn (.int 2))) an))) (gn 6))
    (ss (o2 subD (o2 addD (o2 addD (o2 getD (o2 getD (vr 2) (cn (.int 1))) (cn (.int 0))) (cn (.int 60))) (cl 2 (noExc f__law_draw) (ac (vr 0) (ac (cn (.int 2)) an)))) (vr 6)) (o2 getD (vr 2) (cn (.int 1))) (cn (.int 0)) setD))
    (sif (tb (o2 eqD (vr 5) (cn (.int 10))))
    (sret (o2 getD (ls (ac (sl2 (vr 1) onone (osome (cn (.int 2)))) (ac (o2 addD (vr 1) (tp (ac (o2 getD (vr 1) (cn (.int 2))) an))) (ac (b1 listD (ac (vr 1) an)) (ac (tp (ac (b1 listD (ac (o2 getD (vr 1) (cn (.int 0))) an)) (ac (o2 getD (vr 1) (cn (.int 1))) (ac (o2 getD (vr 1) (cn (.int 2))) an)))) (ac (tp (ac (o2 getD (vr 1) (cn (.int 0))) (ac (b1 listD (ac (o2 getD (vr 1) (cn (.int 1))) an)) (ac (o2 getD (vr 1) (cn (.int 2))) an)))) (ac (tp (ac (o2 getD (vr 1) (cn (.int 0))) (ac (o2 getD (vr 1) (cn (.int 1))) (ac (b1 listD (ac (o2 getD (vr 1) (cn (.int 2))) an)) an)))) an))))))) (cl 2 (noExc f__law_draw) (ac (vr 0) (ac (cn (.int 6)) an)))))
    (sif (tb (o2 eqD (vr 5) (cn (.int 11))))
    (sret (o2 getD (ls (ac (cn .non) (ac (cn (.int 0)) (ac (cn (.str "")) (ac (tp an) (ac (tp (ac (tp an) (ac (tp an) (ac (tp an) an)))) (ac (ls an) (ac (cn (.bl true)) (ac (tp (ac (tp (ac (cn (.int 0)) an)) (ac (tp (ac (cn (.int 0)) an)) (ac (tp (ac (cn (.int 0)) an)) an)))) an))))))))) (cl 2 (noExc f__law_draw) (ac (vr 0) (ac (cn (.int 8)) an)))))
    skip))))))))
    (sret (b1 tupD (ac (cmp (isrc (vr 2)) [none] (gn 0) ttrue (b1 tupD (ac (vr 0) an))) an))))))))
def f__law_bent : Fn := fnB 7 b__law_bent
theorem sc__law_bent : FnScope ["_law_tape_here", "_law_stand_here", "_law_rows", "_law_k", "_law_at", "_law_way", "_law_here"] ["_law_tape_here", "_law_stand_here"] (defScope st__law_bent) := ⟨rfl, rfl, rfl, by decide +kernel, rfl, by decide +kernel, by decide +kernel⟩
theorem g__law_bent__law_draw : OkG (defScope st__law_bent) "_law_draw" := ⟨by decide +kernel⟩
theorem g__law_bent_len : OkG (defScope st__law_bent) "len" := ⟨by decide +kernel⟩
theorem g__law_bent_list : OkG (defScope st__law_bent) "list" := ⟨by decide +kernel⟩
theorem g__law_bent_sum : OkG (defScope st__law_bent) "sum" := ⟨by decide +kernel⟩
theorem g__law_bent_tuple : OkG (defScope st__law_bent) "tuple" := ⟨by decide +kernel⟩
theorem l__law_bent__law_at : OkL (defScope st__law_bent) "_law_at" := ⟨by decide +kernel⟩
theorem l__law_bent__law_here : OkL (defScope st__law_bent) "_law_here" := ⟨by decide +kernel⟩
theorem l__law_bent__law_k : OkL (defScope st__law_bent) "_law_k" := ⟨by decide +kernel⟩
theorem l__law_bent__law_rows : OkL (defScope st__law_bent) "_law_rows" := ⟨by decide +kernel⟩
theorem l__law_bent__law_way : OkL (defScope st__law_bent) "_law_way" := ⟨by decide +kernel⟩
theorem v__law_bent__law_at : OkV (defScope st__law_bent) "_law_at" := ⟨by decide +kernel⟩
theorem v__law_bent__law_here : OkV (defScope st__law_bent) "_law_here" := ⟨by decide +kernel⟩
theorem v__law_bent__law_k : OkV (defScope st__law_bent) "_law_k" := ⟨by decide +kernel⟩
theorem v__law_bent__law_rows : OkV (defScope st__law_bent) "_law_rows" := ⟨by decide +kernel⟩
theorem v__law_bent__law_stand_here : OkV (defScope st__law_bent) "_law_stand_here" := ⟨by decide +kernel⟩
theorem v__law_bent__law_tape_here : OkV (defScope st__law_bent) "_law_tape_here" := ⟨by decide +kernel⟩
theorem v__law_bent__law_way : OkV (defScope st__law_bent) "_law_way" := ⟨by decide +kernel⟩
set_option maxHeartbeats 4000000 in
theorem cal__law_bent (T : Txt K mg) (d : Dn K mg "_law_bent" st__law_bent ["_law_tape_here", "_law_stand_here"]) (C__law_draw : Cal P w K mg base "_law_draw" ["_law_tape_here", "_law_many"] f__law_draw 1) : Cal P w K mg base "_law_bent" ["_law_tape_here", "_law_stand_here"] f__law_bent 2 := by
  have Sc := sc__law_bent
  refine cal_of ["_law_tape_here", "_law_stand_here", "_law_rows", "_law_k", "_law_at", "_law_way", "_law_here"] 1 b__law_bent rfl d Sc fun f cdv A outer s H E hr => ?_
  conv => arg 3; whnf
  refine GSs.h ?_
  exact (gss_cons (gsetComp 2 (sc := defScope st__law_bent) (N := ["_law_tape_here", "_law_stand_here", "_law_rows", "_law_k", "_law_at", "_law_way", "_law_here"]) rfl rfl (N' := ["_law_row"]) (pk := [none]) ⟨rfl, by decide +kernel, by decide +kernel, by decide +kernel, rfl, by decide +kernel⟩ rfl (gi_seq (gv 1 v__law_bent__law_stand_here)) (fun cl s2 H2 C fp => (ggnB 0 (by decide +kernel) (by decide +kernel))) (fun cl s2 H2 C fp => gts_nil) (fun cl s2 H2 C fp => (ge_list (glB (by decide +kernel)) T.b_list (ga_cons (gvB 0 (by decide +kernel)) ga_nil se_Name))) Sc.nd l__law_bent__law_rows (by rfl))
    (gss_cons (gset 3 Sc.nd l__law_bent__law_k (gown C__law_draw hr (gl g__law_bent__law_draw) p__law_draw (ga_cons (gv 0 v__law_bent__law_tape_here) (ga_cons ge_int ga_nil se_Constant) se_Name)))
    (gss_cons (gset 4 Sc.nd l__law_bent__law_at (gown C__law_draw hr (gl g__law_bent__law_draw) p__law_draw (ga_cons (gv 0 v__law_bent__law_tape_here) (ga_cons (ge_len (gl g__law_bent_len) T.b_len (ga_cons (ge_get (gv 2 v__law_bent__law_rows) ge_int) ga_nil se_Subscript)) ga_nil se_Call) se_Name)))
    (gss_cons (gset 5 Sc.nd l__law_bent__law_way (gown C__law_draw hr (gl g__law_bent__law_draw) p__law_draw (ga_cons (gv 0 v__law_bent__law_tape_here) (ga_cons ge_int ga_nil se_Constant) se_Name)))
    (gss_cons (gs_if (gt_lt (gv 5 v__law_bent__law_way) ge_int)
    (gss_one (gs_setix (ge_add (ge_get (ge_get (gv 2 v__law_bent__law_rows) (gv 3 v__law_bent__law_k)) (gv 4 v__law_bent__law_at)) (ge_get (ge_lst (ga_cons ge_int (ga_cons ge_int (ga_cons (ge_sub ge_int ge_int) (ga_cons ge_int (ga_cons ge_int ga_nil se_Constant) se_Constant) se_BinOp) se_Constant) se_Constant)) (gv 5 v__law_bent__law_way))) (ge_get (gv 2 v__law_bent__law_rows) (gv 3 v__law_bent__law_k)) (gv 4 v__law_bent__law_at)))
    (gss_one (gs_if (gt_eq hr.units (gv 5 v__law_bent__law_way) ge_int)
    (gss_one (gs_setix (ge_get (ge_lst (ga_cons ge_bl (ga_cons ge_bl (ga_cons ge_str (ga_cons ge_non (ga_cons (ge_tup (ga_cons ge_int ga_nil se_Constant)) (ga_cons (ge_sub ge_int ge_int) (ga_cons (ge_lst (ga_cons ge_int ga_nil se_Constant)) (ga_cons (ge_lst ga_nil) (ga_cons (ge_pow ge_int ge_int) ga_nil se_BinOp) se_List) se_List) se_BinOp) se_Tuple) se_Constant) se_Constant) se_Constant) se_Constant)) (gown C__law_draw hr (gl g__law_bent__law_draw) p__law_draw (ga_cons (gv 0 v__law_bent__law_tape_here) (ga_cons ge_int ga_nil se_Constant) se_Name))) (ge_get (gv 2 v__law_bent__law_rows) (gv 3 v__law_bent__law_k)) (gv 4 v__law_bent__law_at)))
    (gss_one (gs_if (gt_eq hr.units (gv 5 v__law_bent__law_way) ge_int)
    (gss_one (gs_expr (ge_pop (ge_get (gv 2 v__law_bent__law_rows) (gv 3 v__law_bent__law_k)) (ga_cons (gv 4 v__law_bent__law_at) ga_nil se_Name))))
    (gss_one (gs_if (gt_eq hr.units (gv 5 v__law_bent__law_way) ge_int)
    (gss_one (gs_expr (ge_insert (ge_get (gv 2 v__law_bent__law_rows) (gv 3 v__law_bent__law_k)) (ga_cons (gv 4 v__law_bent__law_at) (ga_cons ge_int ga_nil se_Constant) se_Name))))
    (gss_one (gs_if (gt_eq hr.units (gv 5 v__law_bent__law_way) ge_int)
    (gss_one (gset 2 Sc.nd l__law_bent__law_rows (ge_lst (ga_cons (ge_get (gv 2 v__law_bent__law_rows) ge_int) (ga_cons (ge_get (gv 2 v__law_bent__law_rows) ge_int) (ga_cons (ge_get (gv 2 v__law_bent__law_rows) ge_int) ga_nil se_Subscript) se_Subscript) se_Subscript))))
    (gss_one (gs_if (gt_eq hr.units (gv 5 v__law_bent__law_way) ge_int)
    (gss_cons (gset 6 Sc.nd l__law_bent__law_here (ge_add (ge_sum rfl (gl g__law_bent_sum) T.b_sum (ga_cons (ge_get (gv 2 v__law_bent__law_rows) ge_int) ga_nil se_Subscript)) (ge_sum rfl (gl g__law_bent_sum) T.b_sum (ga_cons (ge_get (gv 2 v__law_bent__law_rows) ge_int) ga_nil se_Subscript))))
    (gss_one (gs_setix (ge_sub (ge_add (ge_add (ge_get (ge_get (gv 2 v__law_bent__law_rows) ge_int) ge_int) ge_int) (gown C__law_draw hr (gl g__law_bent__law_draw) p__law_draw (ga_cons (gv 0 v__law_bent__law_tape_here) (ga_cons ge_int ga_nil se_Constant) se_Name))) (gv 6 v__law_bent__law_here)) (ge_get (gv 2 v__law_bent__law_rows) ge_int) ge_int)))
    (gss_one (gs_if (gt_eq hr.units (gv 5 v__law_bent__law_way) ge_int)
    (gss_one (gs_ret (ge_get (ge_lst (ga_cons (ge_slice2 (gv 1 v__law_bent__law_stand_here) go_none (go_some ge_int)) (ga_cons (ge_add (gv 1 v__law_bent__law_stand_here) (ge_tup (ga_cons (ge_get (gv 1 v__law_bent__law_stand_here) ge_int) ga_nil se_Subscript))) (ga_cons (ge_list (gl g__law_bent_list) T.b_list (ga_cons (gv 1 v__law_bent__law_stand_here) ga_nil se_Name)) (ga_cons (ge_tup (ga_cons (ge_list (gl g__law_bent_list) T.b_list (ga_cons (ge_get (gv 1 v__law_bent__law_stand_here) ge_int) ga_nil se_Subscript)) (ga_cons (ge_get (gv 1 v__law_bent__law_stand_here) ge_int) (ga_cons (ge_get (gv 1 v__law_bent__law_stand_here) ge_int) ga_nil se_Subscript) se_Subscript) se_Call)) (ga_cons (ge_tup (ga_cons (ge_get (gv 1 v__law_bent__law_stand_here) ge_int) (ga_cons (ge_list (gl g__law_bent_list) T.b_list (ga_cons (ge_get (gv 1 v__law_bent__law_stand_here) ge_int) ga_nil se_Subscript)) (ga_cons (ge_get (gv 1 v__law_bent__law_stand_here) ge_int) ga_nil se_Subscript) se_Call) se_Subscript)) (ga_cons (ge_tup (ga_cons (ge_get (gv 1 v__law_bent__law_stand_here) ge_int) (ga_cons (ge_get (gv 1 v__law_bent__law_stand_here) ge_int) (ga_cons (ge_list (gl g__law_bent_list) T.b_list (ga_cons (ge_get (gv 1 v__law_bent__law_stand_here) ge_int) ga_nil se_Subscript)) ga_nil se_Call) se_Subscript) se_Subscript)) ga_nil se_Tuple) se_Tuple) se_Tuple) se_Call) se_BinOp) se_Subscript)) (gown C__law_draw hr (gl g__law_bent__law_draw) p__law_draw (ga_cons (gv 0 v__law_bent__law_tape_here) (ga_cons ge_int ga_nil se_Constant) se_Name)))))
    (gss_one (gs_if (gt_eq hr.units (gv 5 v__law_bent__law_way) ge_int)
    (gss_one (gs_ret (ge_get (ge_lst (ga_cons ge_non (ga_cons ge_int (ga_cons ge_str (ga_cons (ge_tup ga_nil) (ga_cons (ge_tup (ga_cons (ge_tup ga_nil) (ga_cons (ge_tup ga_nil) (ga_cons (ge_tup ga_nil) ga_nil se_Tuple) se_Tuple) se_Tuple)) (ga_cons (ge_lst ga_nil) (ga_cons ge_bl (ga_cons (ge_tup (ga_cons (ge_tup (ga_cons ge_int ga_nil se_Constant)) (ga_cons (ge_tup (ga_cons ge_int ga_nil se_Constant)) (ga_cons (ge_tup (ga_cons ge_int ga_nil se_Constant)) ga_nil se_Tuple) se_Tuple) se_Tuple)) ga_nil se_Tuple) se_Constant) se_List) se_Tuple) se_Tuple) se_Constant) se_Constant) se_Constant)) (gown C__law_draw hr (gl g__law_bent__law_draw) p__law_draw (ga_cons (gv 0 v__law_bent__law_tape_here) (ga_cons ge_int ga_nil se_Constant) se_Name)))))
    gss_nil)))))))))))))))
    (gss_one (gs_ret (ge_tuple (gl g__law_bent_tuple) T.b_tuple (ga_cons (gcomp (sc := defScope st__law_bent) (N := ["_law_tape_here", "_law_stand_here", "_law_rows", "_law_k", "_law_at", "_law_way", "_law_here"]) rfl rfl (N' := ["_law_row"]) (pk := [none]) ⟨rfl, by decide +kernel, by decide +kernel, by decide +kernel, rfl, by decide +kernel⟩ rfl (gi_seq (gv 2 v__law_bent__law_rows)) (fun cl s2 H2 C fp => (ggnB 0 (by decide +kernel) (by decide +kernel))) (fun cl s2 H2 C fp => gts_nil) (fun cl s2 H2 C fp => (ge_tuple (glB (by decide +kernel)) T.b_tuple (ga_cons (gvB 0 (by decide +kernel)) ga_nil se_Name)))) ga_nil se_ListComp)))))))))
def lb_law_1 : Sv := (sq (sa (cl 2 (noExc f__law_bent) (ac (vr 1) (ac (vr 4) an))) (gn 9))
    (sq (sa (b1 reprD (ac (vr 9) an)) (gn 10))
    (sq (sa (cl 2 (noExc f_is_stand) (ac (vr 2) (ac (vr 9) an))) (gn 5))
    (sq (sif (to (tn (tt (o1 (isD "bool") (vr 5)))) (tb (o2 neD (vr 5) (cl 2 (noExc f__law_is_stand) (ac (vr 2) (ac (vr 9) an))))))
    (sret (cn (.bl false)))
    skip)
    (sif (tb (o2 neD (b1 reprD (ac (vr 9) an)) (vr 10)))
    (sret (cn (.bl false)))
    skip)))))
def lb_law_2 : Sv := (sq (sa (cl 3 (noExc f__law_stand) (ac (vr 1) (ac (vr 2) (ac (o2 getD (ls (ac (cn (.int 0)) (ac (cn (.int 1)) (ac (cn (.int 7)) an)))) (vr 3)) an)))) (gn 4))
    (sq (sif (tb (o2 notbD (cl 2 (noExc f_is_stand) (ac (vr 2) (ac (vr 4) an))) (cn (.bl true))))
    (sret (cn (.bl false)))
    skip)
    (sq (sa (cl 2 (noExc f_is_through) (ac (vr 2) (ac (vr 4) an))) (gn 5))
    (sq (sa (o2 eqD (cmp (isrc (o2 addD (sl2 (o2 getD (vr 4) (cn (.int 1))) onone (osome (o1 negD (cn (.int 1))))) (sl2 (o2 getD (vr 4) (cn (.int 2))) (osome (cn (.int 1))) onone))) [none] (gn 0) (tb (o2 gtD (vr 0) (cn (.int 0)))) (vr 0)) (ls an)) (gn 6))
    (sq (sif (to (tn (tt (o1 (isD "bool") (vr 5)))) (tb (o2 neD (vr 5) (vr 6))))
    (sret (cn (.bl false)))
    skip)
    (sq (sa (tp (ac (o2 getD (vr 4) (cn (.int 0))) (ac (o2 addD (o2 mulD (tp (ac (cn (.int 0)) an)) (o2 subD (b1 lenD (ac (o2 getD (vr 2) (cn (.int 0))) an)) (cn (.int 1)))) (tp (ac (vr 3) an))) (ac (o2 addD (tp (ac (vr 3) an)) (o2 mulD (tp (ac (cn (.int 0)) an)) (o2 subD (b1 lenD (ac (o2 getD (vr 2) (cn (.int 0))) an)) (cn (.int 1))))) an)))) (gn 7))
    (sq (sif (tb (o2 notbD (cl 2 (noExc f_is_through) (ac (vr 2) (ac (vr 7) an))) (cn (.bl true))))
    (sret (cn (.bl false)))
    skip)
    (sfor (ir1 (ac (cn (.int 4)) an)) (gn 8) lb_law_1))))))))
def b_law : Sv := (sq (sa (cl 1 (noExc f__law_tape) (ac (vr 0) an)) (gn 1))
    (sq (sa (cl 2 (noExc f__law_canal) (ac (vr 1) (ac (cn (.int 11)) an))) (gn 2))
    (sq (sfor (ir1 (ac (cn (.int 3)) an)) (gn 3) lb_law_2)
    (sret (cn (.bl true))))))
def f_law : Fn := fnB 11 b_law
theorem sc_law : FnScope ["_law_script", "_law_tape_here", "_law_canal_here", "_law_k", "_law_stand_here", "_law_found", "_law_own", "_law_none", "_law_j", "_law_thing", "_law_kept"] ["_law_script"] (defScope st_law) := ⟨rfl, rfl, rfl, by decide +kernel, rfl, by decide +kernel, by decide +kernel⟩
theorem g_law__law_bent : OkG (defScope st_law) "_law_bent" := ⟨by decide +kernel⟩
theorem g_law__law_canal : OkG (defScope st_law) "_law_canal" := ⟨by decide +kernel⟩
theorem g_law__law_is_stand : OkG (defScope st_law) "_law_is_stand" := ⟨by decide +kernel⟩
theorem g_law__law_stand : OkG (defScope st_law) "_law_stand" := ⟨by decide +kernel⟩
theorem g_law__law_tape : OkG (defScope st_law) "_law_tape" := ⟨by decide +kernel⟩
theorem g_law_bool : OkG (defScope st_law) "bool" := ⟨by decide +kernel⟩
theorem g_law_is_stand : OkG (defScope st_law) "is_stand" := ⟨by decide +kernel⟩
theorem g_law_is_through : OkG (defScope st_law) "is_through" := ⟨by decide +kernel⟩
theorem g_law_isinstance : OkG (defScope st_law) "isinstance" := ⟨by decide +kernel⟩
theorem g_law_len : OkG (defScope st_law) "len" := ⟨by decide +kernel⟩
theorem g_law_range : OkG (defScope st_law) "range" := ⟨by decide +kernel⟩
theorem g_law_repr : OkG (defScope st_law) "repr" := ⟨by decide +kernel⟩
theorem l_law__law_canal_here : OkL (defScope st_law) "_law_canal_here" := ⟨by decide +kernel⟩
theorem l_law__law_found : OkL (defScope st_law) "_law_found" := ⟨by decide +kernel⟩
theorem l_law__law_j : OkL (defScope st_law) "_law_j" := ⟨by decide +kernel⟩
theorem l_law__law_k : OkL (defScope st_law) "_law_k" := ⟨by decide +kernel⟩
theorem l_law__law_kept : OkL (defScope st_law) "_law_kept" := ⟨by decide +kernel⟩
theorem l_law__law_none : OkL (defScope st_law) "_law_none" := ⟨by decide +kernel⟩
theorem l_law__law_own : OkL (defScope st_law) "_law_own" := ⟨by decide +kernel⟩
theorem l_law__law_stand_here : OkL (defScope st_law) "_law_stand_here" := ⟨by decide +kernel⟩
theorem l_law__law_tape_here : OkL (defScope st_law) "_law_tape_here" := ⟨by decide +kernel⟩
theorem l_law__law_thing : OkL (defScope st_law) "_law_thing" := ⟨by decide +kernel⟩
theorem v_law__law_canal_here : OkV (defScope st_law) "_law_canal_here" := ⟨by decide +kernel⟩
theorem v_law__law_found : OkV (defScope st_law) "_law_found" := ⟨by decide +kernel⟩
theorem v_law__law_k : OkV (defScope st_law) "_law_k" := ⟨by decide +kernel⟩
theorem v_law__law_kept : OkV (defScope st_law) "_law_kept" := ⟨by decide +kernel⟩
theorem v_law__law_none : OkV (defScope st_law) "_law_none" := ⟨by decide +kernel⟩
theorem v_law__law_own : OkV (defScope st_law) "_law_own" := ⟨by decide +kernel⟩
theorem v_law__law_script : OkV (defScope st_law) "_law_script" := ⟨by decide +kernel⟩
theorem v_law__law_stand_here : OkV (defScope st_law) "_law_stand_here" := ⟨by decide +kernel⟩
theorem v_law__law_tape_here : OkV (defScope st_law) "_law_tape_here" := ⟨by decide +kernel⟩
theorem v_law__law_thing : OkV (defScope st_law) "_law_thing" := ⟨by decide +kernel⟩
theorem p__law_bent : plainN "_law_bent" = true := by decide +kernel
theorem p__law_canal : plainN "_law_canal" = true := by decide +kernel
theorem p__law_is_stand : plainN "_law_is_stand" = true := by decide +kernel
theorem p__law_stand : plainN "_law_stand" = true := by decide +kernel
theorem p__law_tape : plainN "_law_tape" = true := by decide +kernel
theorem p_is_stand : plainN "is_stand" = true := by decide +kernel
theorem p_is_through : plainN "is_through" = true := by decide +kernel
set_option maxHeartbeats 4000000 in
theorem okl_law (T : Txt K mg) {f : Addr} {fd : FuncData} (F : Fun K "law" "law" st_law f fd) (C__law_bent : Cal P w K mg base "_law_bent" ["_law_tape_here", "_law_stand_here"] f__law_bent 2) (C__law_canal : Cal P w K mg base "_law_canal" ["_law_tape_here", "_law_most"] f__law_canal 3) (C__law_is_stand : Cal P w K mg base "_law_is_stand" ["_law_canal_here", "_law_thing"] f__law_is_stand 2) (C__law_stand : Cal P w K mg base "_law_stand" ["_law_tape_here", "_law_canal_here", "_law_crowd"] f__law_stand 2) (C__law_tape : Cal P w K mg base "_law_tape" ["_law_script"] f__law_tape 1) (C_is_stand : Cal P w K mg base "is_stand" ["canal", "thing"] f_is_stand 3) (C_is_through : Cal P w K mg base "is_through" ["canal", "stand"] f_is_through 1) : FnOk P w K mg base CX0 4 f fd ["_law_script"] (spD K 1 f_law) := by
  have Sc := sc_law
  refine fn_ok (b := b_law) F Sc fun cdv A outer s H E hr => ?_
  conv => arg 3; whnf
  refine GSs.h ?_
  exact (gss_cons (gset 1 Sc.nd l_law__law_tape_here (gown C__law_tape hr (gl g_law__law_tape) p__law_tape (ga_cons (gv 0 v_law__law_script) ga_nil se_Name)))
    (gss_cons (gset 2 Sc.nd l_law__law_canal_here (gown C__law_canal hr (gl g_law__law_canal) p__law_canal (ga_cons (gv 1 v_law__law_tape_here) (ga_cons ge_int ga_nil se_Constant) se_Name)))
    (gss_cons (gs_for PassesOwn.never rfl (gi_range1 (gl g_law_range) T.b_range (ga_cons ge_int ga_nil se_Constant)) (ggn 3 Sc.nd l_law__law_k)
    (gss_cons (gset 4 Sc.nd l_law__law_stand_here (gown C__law_stand hr (gl g_law__law_stand) p__law_stand (ga_cons (gv 1 v_law__law_tape_here) (ga_cons (gv 2 v_law__law_canal_here) (ga_cons (ge_get (ge_lst (ga_cons ge_int (ga_cons ge_int (ga_cons ge_int ga_nil se_Constant) se_Constant) se_Constant)) (gv 3 v_law__law_k)) ga_nil se_Subscript) se_Name) se_Name)))
    (gss_cons (gs_if (gt_notb (gown C_is_stand hr (gl g_law_is_stand) p_is_stand (ga_cons (gv 2 v_law__law_canal_here) (ga_cons (gv 4 v_law__law_stand_here) ga_nil se_Name) se_Name)) ge_bl)
    (gss_one (gs_ret ge_bl))
    gss_nil)
    (gss_cons (gset 5 Sc.nd l_law__law_found (gown C_is_through hr (gl g_law_is_through) p_is_through (ga_cons (gv 2 v_law__law_canal_here) (ga_cons (gv 4 v_law__law_stand_here) ga_nil se_Name) se_Name)))
    (gss_cons (gset 6 Sc.nd l_law__law_own (ge_eq hr.units (gcomp (sc := defScope st_law) (N := ["_law_script", "_law_tape_here", "_law_canal_here", "_law_k", "_law_stand_here", "_law_found", "_law_own", "_law_none", "_law_j", "_law_thing", "_law_kept"]) rfl rfl (N' := ["_law_one"]) (pk := [none]) ⟨rfl, by decide +kernel, by decide +kernel, by decide +kernel, rfl, by decide +kernel⟩ rfl (gi_seq (ge_add (ge_slice2 (ge_get (gv 4 v_law__law_stand_here) ge_int) go_none (go_some (ge_neg ge_int))) (ge_slice2 (ge_get (gv 4 v_law__law_stand_here) ge_int) (go_some ge_int) go_none))) (fun cl s2 H2 C fp => (ggnB 0 (by decide +kernel) (by decide +kernel))) (fun cl s2 H2 C fp => (gts_one (gt_gt (gvB 0 (by decide +kernel)) ge_int))) (fun cl s2 H2 C fp => (gvB 0 (by decide +kernel)))) (ge_lst ga_nil)))
    (gss_cons (gs_if (GW.jt (gw_or (gt_not (gt_val (ge_isi kit_bool (by rfl) (by decide +kernel) (by decide +kernel) (gl g_law_isinstance) T.b_isinstance (gl g_law_bool) T.b_bool (gv 5 v_law__law_found) (by rfl) (by rfl) (by rfl)))) (gw_or1 (gt_ne hr.units (gv 5 v_law__law_found) (gv 6 v_law__law_own)))))
    (gss_one (gs_ret ge_bl))
    gss_nil)
    (gss_cons (gset 7 Sc.nd l_law__law_none (ge_tup (ga_cons (ge_get (gv 4 v_law__law_stand_here) ge_int) (ga_cons (ge_add (ge_mul (ge_tup (ga_cons ge_int ga_nil se_Constant)) (ge_sub (ge_len (gl g_law_len) T.b_len (ga_cons (ge_get (gv 2 v_law__law_canal_here) ge_int) ga_nil se_Subscript)) ge_int)) (ge_tup (ga_cons (gv 3 v_law__law_k) ga_nil se_Name))) (ga_cons (ge_add (ge_tup (ga_cons (gv 3 v_law__law_k) ga_nil se_Name)) (ge_mul (ge_tup (ga_cons ge_int ga_nil se_Constant)) (ge_sub (ge_len (gl g_law_len) T.b_len (ga_cons (ge_get (gv 2 v_law__law_canal_here) ge_int) ga_nil se_Subscript)) ge_int))) ga_nil se_BinOp) se_BinOp) se_Subscript)))
    (gss_cons (gs_if (gt_notb (gown C_is_through hr (gl g_law_is_through) p_is_through (ga_cons (gv 2 v_law__law_canal_here) (ga_cons (gv 7 v_law__law_none) ga_nil se_Name) se_Name)) ge_bl)
    (gss_one (gs_ret ge_bl))
    gss_nil)
    (gss_one (gs_for PassesOwn.never rfl (gi_range1 (gl g_law_range) T.b_range (ga_cons ge_int ga_nil se_Constant)) (ggn 8 Sc.nd l_law__law_j)
    (gss_cons (gset 9 Sc.nd l_law__law_thing (gown C__law_bent hr (gl g_law__law_bent) p__law_bent (ga_cons (gv 1 v_law__law_tape_here) (ga_cons (gv 4 v_law__law_stand_here) ga_nil se_Name) se_Name)))
    (gss_cons (gset 10 Sc.nd l_law__law_kept (ge_repr hr (gl g_law_repr) T.b_repr (ga_cons (gv 9 v_law__law_thing) ga_nil se_Name)))
    (gss_cons (gset 5 Sc.nd l_law__law_found (gown C_is_stand hr (gl g_law_is_stand) p_is_stand (ga_cons (gv 2 v_law__law_canal_here) (ga_cons (gv 9 v_law__law_thing) ga_nil se_Name) se_Name)))
    (gss_cons (gs_if (GW.jt (gw_or (gt_not (gt_val (ge_isi kit_bool (by rfl) (by decide +kernel) (by decide +kernel) (gl g_law_isinstance) T.b_isinstance (gl g_law_bool) T.b_bool (gv 5 v_law__law_found) (by rfl) (by rfl) (by rfl)))) (gw_or1 (gt_ne hr.units (gv 5 v_law__law_found) (gown C__law_is_stand hr (gl g_law__law_is_stand) p__law_is_stand (ga_cons (gv 2 v_law__law_canal_here) (ga_cons (gv 9 v_law__law_thing) ga_nil se_Name) se_Name))))))
    (gss_one (gs_ret ge_bl))
    gss_nil)
    (gss_one (gs_if (gt_ne hr.units (ge_repr hr (gl g_law_repr) T.b_repr (ga_cons (gv 9 v_law__law_thing) ga_nil se_Name)) (gv 10 v_law__law_kept))
    (gss_one (gs_ret ge_bl))
    gss_nil))))))))))))))))
    (gss_one (gs_ret ge_bl)))))
theorem allc (T : Txt K mg) (d_is_whole : Dn K mg "is_whole" st_is_whole ["thing"]) (d_is_tuple : Dn K mg "is_tuple" st_is_tuple ["thing", "many"]) (d_most_water : Dn K mg "most_water" st_most_water ["place"]) (d_holds : Dn K mg "holds" st_holds ["place", "barges"]) (d_are_counts : Dn K mg "are_counts" st_are_counts ["thing", "many"]) (d_is_stand : Dn K mg "is_stand" st_is_stand ["canal", "thing"]) (d_is_through : Dn K mg "is_through" st_is_through ["canal", "stand"]) (d__law_tape : Dn K mg "_law_tape" st__law_tape ["_law_script"]) (d__law_draw : Dn K mg "_law_draw" st__law_draw ["_law_tape_here", "_law_many"]) (d__law_pound : Dn K mg "_law_pound" st__law_pound ["_law_tape_here"]) (d__law_canal : Dn K mg "_law_canal" st__law_canal ["_law_tape_here", "_law_most"]) (d__law_stand : Dn K mg "_law_stand" st__law_stand ["_law_tape_here", "_law_canal_here", "_law_crowd"]) (d__law_whole : Dn K mg "_law_whole" st__law_whole ["_law_thing"]) (d__law_is_stand : Dn K mg "_law_is_stand" st__law_is_stand ["_law_canal_here", "_law_thing"]) (d__law_bent : Dn K mg "_law_bent" st__law_bent ["_law_tape_here", "_law_stand_here"]) {f : Addr} {fd : FuncData} (F : Fun K "law" "law" st_law f fd) : FnOk P w K mg base CX0 4 f fd ["_law_script"] (spD K 1 f_law) := by
  have C_is_whole : Cal P w K mg base "is_whole" ["thing"] f_is_whole 1 := cal_is_whole T d_is_whole
  have C_is_tuple : Cal P w K mg base "is_tuple" ["thing", "many"] f_is_tuple 1 := cal_is_tuple T d_is_tuple
  have C_most_water : Cal P w K mg base "most_water" ["place"] f_most_water 1 := cal_most_water T d_most_water
  have C_holds : Cal P w K mg base "holds" ["place", "barges"] f_holds 1 := cal_holds T d_holds
  have C_are_counts : Cal P w K mg base "are_counts" ["thing", "many"] f_are_counts 2 := cal_are_counts T d_are_counts C_is_tuple C_is_whole
  have C_is_stand : Cal P w K mg base "is_stand" ["canal", "thing"] f_is_stand 3 := cal_is_stand T d_is_stand C_are_counts C_holds C_is_tuple C_most_water
  have C_is_through : Cal P w K mg base "is_through" ["canal", "stand"] f_is_through 1 := cal_is_through T d_is_through
  have C__law_tape : Cal P w K mg base "_law_tape" ["_law_script"] f__law_tape 1 := cal__law_tape T d__law_tape
  have C__law_draw : Cal P w K mg base "_law_draw" ["_law_tape_here", "_law_many"] f__law_draw 1 := cal__law_draw T d__law_draw
  have C__law_pound : Cal P w K mg base "_law_pound" ["_law_tape_here"] f__law_pound 2 := cal__law_pound T d__law_pound C__law_draw
  have C__law_canal : Cal P w K mg base "_law_canal" ["_law_tape_here", "_law_most"] f__law_canal 3 := cal__law_canal T d__law_canal C__law_draw C__law_pound
  have C__law_stand : Cal P w K mg base "_law_stand" ["_law_tape_here", "_law_canal_here", "_law_crowd"] f__law_stand 2 := cal__law_stand T d__law_stand C__law_draw
  have C__law_whole : Cal P w K mg base "_law_whole" ["_law_thing"] f__law_whole 1 := cal__law_whole T d__law_whole
  have C__law_is_stand : Cal P w K mg base "_law_is_stand" ["_law_canal_here", "_law_thing"] f__law_is_stand 2 := cal__law_is_stand T d__law_is_stand C__law_whole
  have C__law_bent : Cal P w K mg base "_law_bent" ["_law_tape_here", "_law_stand_here"] f__law_bent 2 := cal__law_bent T d__law_bent C__law_draw
  exact okl_law T F C__law_bent C__law_canal C__law_is_stand C__law_stand C__law_tape C_is_stand C_is_through
end
theorem all_mk {l : PySem.W.OpenLaw} {w : World} {K : PySem.W.Frag} {h : Heap} {mg : Str → Option Value} {fa : Addr} (X : K.In h) (G : h.Ns mainGlobals mg) (hfa : mg "law" = some (.ref fa))
    {fx_is_whole : Addr} {od_is_whole an_is_whole : Option Addr} {sl_is_whole : Array (Option Value)} {oc_is_whole kV_is_whole dc_is_whole pm_is_whole cd_is_whole ct_is_whole : Value}
    (a_is_whole : PySem.W.nsIn K mainGlobals "is_whole" = some (some (.ref fx_is_whole))) (l_is_whole : K.lookup fx_is_whole = some ⟨oc_is_whole, od_is_whole, .func (PySem.W.fnOf "is_whole" "is_whole" (defArgs st_is_whole) (defBody st_is_whole) (defScope st_is_whole) .none kV_is_whole dc_is_whole pm_is_whole an_is_whole cd_is_whole ct_is_whole), sl_is_whole⟩) (c_is_whole : PySem.W.codeIn K cd_is_whole "is_whole" = true) (k_is_whole : PySem.W.keepIn K (.ref fx_is_whole) = true)
    {fx_is_tuple : Addr} {od_is_tuple an_is_tuple : Option Addr} {sl_is_tuple : Array (Option Value)} {oc_is_tuple kV_is_tuple dc_is_tuple pm_is_tuple cd_is_tuple ct_is_tuple : Value}
    (a_is_tuple : PySem.W.nsIn K mainGlobals "is_tuple" = some (some (.ref fx_is_tuple))) (l_is_tuple : K.lookup fx_is_tuple = some ⟨oc_is_tuple, od_is_tuple, .func (PySem.W.fnOf "is_tuple" "is_tuple" (defArgs st_is_tuple) (defBody st_is_tuple) (defScope st_is_tuple) .none kV_is_tuple dc_is_tuple pm_is_tuple an_is_tuple cd_is_tuple ct_is_tuple), sl_is_tuple⟩) (c_is_tuple : PySem.W.codeIn K cd_is_tuple "is_tuple" = true) (k_is_tuple : PySem.W.keepIn K (.ref fx_is_tuple) = true)
    {fx_most_water : Addr} {od_most_water an_most_water : Option Addr} {sl_most_water : Array (Option Value)} {oc_most_water kV_most_water dc_most_water pm_most_water cd_most_water ct_most_water : Value}
    (a_most_water : PySem.W.nsIn K mainGlobals "most_water" = some (some (.ref fx_most_water))) (l_most_water : K.lookup fx_most_water = some ⟨oc_most_water, od_most_water, .func (PySem.W.fnOf "most_water" "most_water" (defArgs st_most_water) (defBody st_most_water) (defScope st_most_water) .none kV_most_water dc_most_water pm_most_water an_most_water cd_most_water ct_most_water), sl_most_water⟩) (c_most_water : PySem.W.codeIn K cd_most_water "most_water" = true) (k_most_water : PySem.W.keepIn K (.ref fx_most_water) = true)
    {fx_holds : Addr} {od_holds an_holds : Option Addr} {sl_holds : Array (Option Value)} {oc_holds kV_holds dc_holds pm_holds cd_holds ct_holds : Value}
    (a_holds : PySem.W.nsIn K mainGlobals "holds" = some (some (.ref fx_holds))) (l_holds : K.lookup fx_holds = some ⟨oc_holds, od_holds, .func (PySem.W.fnOf "holds" "holds" (defArgs st_holds) (defBody st_holds) (defScope st_holds) .none kV_holds dc_holds pm_holds an_holds cd_holds ct_holds), sl_holds⟩) (c_holds : PySem.W.codeIn K cd_holds "holds" = true) (k_holds : PySem.W.keepIn K (.ref fx_holds) = true)
    {fx_are_counts : Addr} {od_are_counts an_are_counts : Option Addr} {sl_are_counts : Array (Option Value)} {oc_are_counts kV_are_counts dc_are_counts pm_are_counts cd_are_counts ct_are_counts : Value}
    (a_are_counts : PySem.W.nsIn K mainGlobals "are_counts" = some (some (.ref fx_are_counts))) (l_are_counts : K.lookup fx_are_counts = some ⟨oc_are_counts, od_are_counts, .func (PySem.W.fnOf "are_counts" "are_counts" (defArgs st_are_counts) (defBody st_are_counts) (defScope st_are_counts) .none kV_are_counts dc_are_counts pm_are_counts an_are_counts cd_are_counts ct_are_counts), sl_are_counts⟩) (c_are_counts : PySem.W.codeIn K cd_are_counts "are_counts" = true) (k_are_counts : PySem.W.keepIn K (.ref fx_are_counts) = true)
    {fx_is_stand : Addr} {od_is_stand an_is_stand : Option Addr} {sl_is_stand : Array (Option Value)} {oc_is_stand kV_is_stand dc_is_stand pm_is_stand cd_is_stand ct_is_stand : Value}
    (a_is_stand : PySem.W.nsIn K mainGlobals "is_stand" = some (some (.ref fx_is_stand))) (l_is_stand : K.lookup fx_is_stand = some ⟨oc_is_stand, od_is_stand, .func (PySem.W.fnOf "is_stand" "is_stand" (defArgs st_is_stand) (defBody st_is_stand) (defScope st_is_stand) .none kV_is_stand dc_is_stand pm_is_stand an_is_stand cd_is_stand ct_is_stand), sl_is_stand⟩) (c_is_stand : PySem.W.codeIn K cd_is_stand "is_stand" = true) (k_is_stand : PySem.W.keepIn K (.ref fx_is_stand) = true)
    {fx_is_through : Addr} {od_is_through an_is_through : Option Addr} {sl_is_through : Array (Option Value)} {oc_is_through kV_is_through dc_is_through pm_is_through cd_is_through ct_is_through : Value}
    (a_is_through : PySem.W.nsIn K mainGlobals "is_through" = some (some (.ref fx_is_through))) (l_is_through : K.lookup fx_is_through = some ⟨oc_is_through, od_is_through, .func (PySem.W.fnOf "is_through" "is_through" (defArgs st_is_through) (defBody st_is_through) (defScope st_is_through) .none kV_is_through dc_is_through pm_is_through an_is_through cd_is_through ct_is_through), sl_is_through⟩) (c_is_through : PySem.W.codeIn K cd_is_through "is_through" = true) (k_is_through : PySem.W.keepIn K (.ref fx_is_through) = true)
    {fx__law_tape : Addr} {od__law_tape an__law_tape : Option Addr} {sl__law_tape : Array (Option Value)} {oc__law_tape kV__law_tape dc__law_tape pm__law_tape cd__law_tape ct__law_tape : Value}
    (a__law_tape : PySem.W.nsIn K mainGlobals "_law_tape" = some (some (.ref fx__law_tape))) (l__law_tape : K.lookup fx__law_tape = some ⟨oc__law_tape, od__law_tape, .func (PySem.W.fnOf "_law_tape" "_law_tape" (defArgs st__law_tape) (defBody st__law_tape) (defScope st__law_tape) .none kV__law_tape dc__law_tape pm__law_tape an__law_tape cd__law_tape ct__law_tape), sl__law_tape⟩) (c__law_tape : PySem.W.codeIn K cd__law_tape "_law_tape" = true) (k__law_tape : PySem.W.keepIn K (.ref fx__law_tape) = true)
    {fx__law_draw : Addr} {od__law_draw an__law_draw : Option Addr} {sl__law_draw : Array (Option Value)} {oc__law_draw kV__law_draw dc__law_draw pm__law_draw cd__law_draw ct__law_draw : Value}
    (a__law_draw : PySem.W.nsIn K mainGlobals "_law_draw" = some (some (.ref fx__law_draw))) (l__law_draw : K.lookup fx__law_draw = some ⟨oc__law_draw, od__law_draw, .func (PySem.W.fnOf "_law_draw" "_law_draw" (defArgs st__law_draw) (defBody st__law_draw) (defScope st__law_draw) .none kV__law_draw dc__law_draw pm__law_draw an__law_draw cd__law_draw ct__law_draw), sl__law_draw⟩) (c__law_draw : PySem.W.codeIn K cd__law_draw "_law_draw" = true) (k__law_draw : PySem.W.keepIn K (.ref fx__law_draw) = true)
    {fx__law_pound : Addr} {od__law_pound an__law_pound : Option Addr} {sl__law_pound : Array (Option Value)} {oc__law_pound kV__law_pound dc__law_pound pm__law_pound cd__law_pound ct__law_pound : Value}
    (a__law_pound : PySem.W.nsIn K mainGlobals "_law_pound" = some (some (.ref fx__law_pound))) (l__law_pound : K.lookup fx__law_pound = some ⟨oc__law_pound, od__law_pound, .func (PySem.W.fnOf "_law_pound" "_law_pound" (defArgs st__law_pound) (defBody st__law_pound) (defScope st__law_pound) .none kV__law_pound dc__law_pound pm__law_pound an__law_pound cd__law_pound ct__law_pound), sl__law_pound⟩) (c__law_pound : PySem.W.codeIn K cd__law_pound "_law_pound" = true) (k__law_pound : PySem.W.keepIn K (.ref fx__law_pound) = true)
    {fx__law_canal : Addr} {od__law_canal an__law_canal : Option Addr} {sl__law_canal : Array (Option Value)} {oc__law_canal kV__law_canal dc__law_canal pm__law_canal cd__law_canal ct__law_canal : Value}
    (a__law_canal : PySem.W.nsIn K mainGlobals "_law_canal" = some (some (.ref fx__law_canal))) (l__law_canal : K.lookup fx__law_canal = some ⟨oc__law_canal, od__law_canal, .func (PySem.W.fnOf "_law_canal" "_law_canal" (defArgs st__law_canal) (defBody st__law_canal) (defScope st__law_canal) .none kV__law_canal dc__law_canal pm__law_canal an__law_canal cd__law_canal ct__law_canal), sl__law_canal⟩) (c__law_canal : PySem.W.codeIn K cd__law_canal "_law_canal" = true) (k__law_canal : PySem.W.keepIn K (.ref fx__law_canal) = true)
    {fx__law_stand : Addr} {od__law_stand an__law_stand : Option Addr} {sl__law_stand : Array (Option Value)} {oc__law_stand kV__law_stand dc__law_stand pm__law_stand cd__law_stand ct__law_stand : Value}
    (a__law_stand : PySem.W.nsIn K mainGlobals "_law_stand" = some (some (.ref fx__law_stand))) (l__law_stand : K.lookup fx__law_stand = some ⟨oc__law_stand, od__law_stand, .func (PySem.W.fnOf "_law_stand" "_law_stand" (defArgs st__law_stand) (defBody st__law_stand) (defScope st__law_stand) .none kV__law_stand dc__law_stand pm__law_stand an__law_stand cd__law_stand ct__law_stand), sl__law_stand⟩) (c__law_stand : PySem.W.codeIn K cd__law_stand "_law_stand" = true) (k__law_stand : PySem.W.keepIn K (.ref fx__law_stand) = true)
    {fx__law_whole : Addr} {od__law_whole an__law_whole : Option Addr} {sl__law_whole : Array (Option Value)} {oc__law_whole kV__law_whole dc__law_whole pm__law_whole cd__law_whole ct__law_whole : Value}
    (a__law_whole : PySem.W.nsIn K mainGlobals "_law_whole" = some (some (.ref fx__law_whole))) (l__law_whole : K.lookup fx__law_whole = some ⟨oc__law_whole, od__law_whole, .func (PySem.W.fnOf "_law_whole" "_law_whole" (defArgs st__law_whole) (defBody st__law_whole) (defScope st__law_whole) .none kV__law_whole dc__law_whole pm__law_whole an__law_whole cd__law_whole ct__law_whole), sl__law_whole⟩) (c__law_whole : PySem.W.codeIn K cd__law_whole "_law_whole" = true) (k__law_whole : PySem.W.keepIn K (.ref fx__law_whole) = true)
    {fx__law_is_stand : Addr} {od__law_is_stand an__law_is_stand : Option Addr} {sl__law_is_stand : Array (Option Value)} {oc__law_is_stand kV__law_is_stand dc__law_is_stand pm__law_is_stand cd__law_is_stand ct__law_is_stand : Value}
    (a__law_is_stand : PySem.W.nsIn K mainGlobals "_law_is_stand" = some (some (.ref fx__law_is_stand))) (l__law_is_stand : K.lookup fx__law_is_stand = some ⟨oc__law_is_stand, od__law_is_stand, .func (PySem.W.fnOf "_law_is_stand" "_law_is_stand" (defArgs st__law_is_stand) (defBody st__law_is_stand) (defScope st__law_is_stand) .none kV__law_is_stand dc__law_is_stand pm__law_is_stand an__law_is_stand cd__law_is_stand ct__law_is_stand), sl__law_is_stand⟩) (c__law_is_stand : PySem.W.codeIn K cd__law_is_stand "_law_is_stand" = true) (k__law_is_stand : PySem.W.keepIn K (.ref fx__law_is_stand) = true)
    {fx__law_bent : Addr} {od__law_bent an__law_bent : Option Addr} {sl__law_bent : Array (Option Value)} {oc__law_bent kV__law_bent dc__law_bent pm__law_bent cd__law_bent ct__law_bent : Value}
    (a__law_bent : PySem.W.nsIn K mainGlobals "_law_bent" = some (some (.ref fx__law_bent))) (l__law_bent : K.lookup fx__law_bent = some ⟨oc__law_bent, od__law_bent, .func (PySem.W.fnOf "_law_bent" "_law_bent" (defArgs st__law_bent) (defBody st__law_bent) (defScope st__law_bent) .none kV__law_bent dc__law_bent pm__law_bent an__law_bent cd__law_bent ct__law_bent), sl__law_bent⟩) (c__law_bent : PySem.W.codeIn K cd__law_bent "_law_bent" = true) (k__law_bent : PySem.W.keepIn K (.ref fx__law_bent) = true)
    {fx_law : Addr} {od_law an_law : Option Addr} {sl_law : Array (Option Value)} {oc_law kV_law dc_law pm_law cd_law ct_law : Value}
    (a_law : PySem.W.nsIn K mainGlobals "law" = some (some (.ref fx_law))) (l_law : K.lookup fx_law = some ⟨oc_law, od_law, .func (PySem.W.fnOf "law" "law" (defArgs st_law) (defBody st_law) (defScope st_law) .none kV_law dc_law pm_law an_law cd_law ct_law), sl_law⟩) (c_law : PySem.W.codeIn K cd_law "law" = true) (k_law : PySem.W.keepIn K (.ref fx_law) = true)
    (z_all : PySem.W.nsIn K mainGlobals "all" = some none)
    (z_bool : PySem.W.nsIn K mainGlobals "bool" = some none)
    (z_enumerate : PySem.W.nsIn K mainGlobals "enumerate" = some none)
    (z_int : PySem.W.nsIn K mainGlobals "int" = some none)
    (z_isinstance : PySem.W.nsIn K mainGlobals "isinstance" = some none)
    (z_len : PySem.W.nsIn K mainGlobals "len" = some none)
    (z_list : PySem.W.nsIn K mainGlobals "list" = some none)
    (z_min : PySem.W.nsIn K mainGlobals "min" = some none)
    (z_range : PySem.W.nsIn K mainGlobals "range" = some none)
    (z_repr : PySem.W.nsIn K mainGlobals "repr" = some none)
    (z_sum : PySem.W.nsIn K mainGlobals "sum" = some none)
    (z_tuple : PySem.W.nsIn K mainGlobals "tuple" = some none)
    {kp_CHAMBER : Addr} {kt_CHAMBER : Tok} {kn_CHAMBER : Nat} {ks_CHAMBER : Array (Option Value)} (ka_CHAMBER : PySem.W.nsIn K mainGlobals "CHAMBER" = some (some (.ref kp_CHAMBER))) (kl_CHAMBER : K.lookup kp_CHAMBER = some { cls := .type "tuple", dict := none, data := .seq #[.str "chamber" kt_CHAMBER] kn_CHAMBER, slots := ks_CHAMBER })
    {kp_END : Addr} {kt_END : Tok} {kn_END : Nat} {ks_END : Array (Option Value)} (ka_END : PySem.W.nsIn K mainGlobals "END" = some (some (.ref kp_END))) (kl_END : K.lookup kp_END = some { cls := .type "tuple", dict := none, data := .seq #[.str "end" kt_END] kn_END, slots := ks_END })
    {kt_MOST_BARGES : Tok} (ka_MOST_BARGES : PySem.W.nsIn K mainGlobals "MOST_BARGES" = some (some (.int 60 kt_MOST_BARGES)))
    : ∃ fd : FuncData, (∀ (s : Shared) (v : Value), BindsTo s fd ⟨[v], []⟩ [("_law_script", v)]) ∧ ∀ base : Heap, K.In base → base.Ns mainGlobals mg → FnOk l.prog w K mg base CX0 4 fa fd ["_law_script"] (spD K 1 f_law) := by
  have e := hfa.symm.trans (PySem.W.mg_of X G a_law)
  cases e
  have F := fun_mk (st := st_law) l_law c_law k_law
  have T : Txt K mg := ⟨PySem.W.mg_none_of X G z_all, PySem.W.mg_none_of X G z_bool, PySem.W.mg_none_of X G z_enumerate, PySem.W.mg_none_of X G z_int, PySem.W.mg_none_of X G z_isinstance, PySem.W.mg_none_of X G z_len, PySem.W.mg_none_of X G z_list, PySem.W.mg_none_of X G z_min, PySem.W.mg_none_of X G z_range, PySem.W.mg_none_of X G z_repr, PySem.W.mg_none_of X G z_sum, PySem.W.mg_none_of X G z_tuple, cst_t1 X G ka_CHAMBER kl_CHAMBER, cst_t1 X G ka_END kl_END, cst_int X G ka_MOST_BARGES⟩
  have d_is_whole : Dn K mg "is_whole" st_is_whole ["thing"] := dn_mk X G a_is_whole l_is_whole c_is_whole k_is_whole fun _ _ _ _ _ _ us hl => match us, hl with | [_], _ => rfl
  have d_is_tuple : Dn K mg "is_tuple" st_is_tuple ["thing", "many"] := dn_mk X G a_is_tuple l_is_tuple c_is_tuple k_is_tuple fun _ _ _ _ _ _ us hl => match us, hl with | [_, _], _ => rfl
  have d_most_water : Dn K mg "most_water" st_most_water ["place"] := dn_mk X G a_most_water l_most_water c_most_water k_most_water fun _ _ _ _ _ _ us hl => match us, hl with | [_], _ => rfl
  have d_holds : Dn K mg "holds" st_holds ["place", "barges"] := dn_mk X G a_holds l_holds c_holds k_holds fun _ _ _ _ _ _ us hl => match us, hl with | [_, _], _ => rfl
  have d_are_counts : Dn K mg "are_counts" st_are_counts ["thing", "many"] := dn_mk X G a_are_counts l_are_counts c_are_counts k_are_counts fun _ _ _ _ _ _ us hl => match us, hl with | [_, _], _ => rfl
  have d_is_stand : Dn K mg "is_stand" st_is_stand ["canal", "thing"] := dn_mk X G a_is_stand l_is_stand c_is_stand k_is_stand fun _ _ _ _ _ _ us hl => match us, hl with | [_, _], _ => rfl
  have d_is_through : Dn K mg "is_through" st_is_through ["canal", "stand"] := dn_mk X G a_is_through l_is_through c_is_through k_is_through fun _ _ _ _ _ _ us hl => match us, hl with | [_, _], _ => rfl
  have d__law_tape : Dn K mg "_law_tape" st__law_tape ["_law_script"] := dn_mk X G a__law_tape l__law_tape c__law_tape k__law_tape fun _ _ _ _ _ _ us hl => match us, hl with | [_], _ => rfl
  have d__law_draw : Dn K mg "_law_draw" st__law_draw ["_law_tape_here", "_law_many"] := dn_mk X G a__law_draw l__law_draw c__law_draw k__law_draw fun _ _ _ _ _ _ us hl => match us, hl with | [_, _], _ => rfl
  have d__law_pound : Dn K mg "_law_pound" st__law_pound ["_law_tape_here"] := dn_mk X G a__law_pound l__law_pound c__law_pound k__law_pound fun _ _ _ _ _ _ us hl => match us, hl with | [_], _ => rfl
  have d__law_canal : Dn K mg "_law_canal" st__law_canal ["_law_tape_here", "_law_most"] := dn_mk X G a__law_canal l__law_canal c__law_canal k__law_canal fun _ _ _ _ _ _ us hl => match us, hl with | [_, _], _ => rfl
  have d__law_stand : Dn K mg "_law_stand" st__law_stand ["_law_tape_here", "_law_canal_here", "_law_crowd"] := dn_mk X G a__law_stand l__law_stand c__law_stand k__law_stand fun _ _ _ _ _ _ us hl => match us, hl with | [_, _, _], _ => rfl
  have d__law_whole : Dn K mg "_law_whole" st__law_whole ["_law_thing"] := dn_mk X G a__law_whole l__law_whole c__law_whole k__law_whole fun _ _ _ _ _ _ us hl => match us, hl with | [_], _ => rfl
  have d__law_is_stand : Dn K mg "_law_is_stand" st__law_is_stand ["_law_canal_here", "_law_thing"] := dn_mk X G a__law_is_stand l__law_is_stand c__law_is_stand k__law_is_stand fun _ _ _ _ _ _ us hl => match us, hl with | [_, _], _ => rfl
  have d__law_bent : Dn K mg "_law_bent" st__law_bent ["_law_tape_here", "_law_stand_here"] := dn_mk X G a__law_bent l__law_bent c__law_bent k__law_bent fun _ _ _ _ _ _ us hl => match us, hl with | [_, _], _ => rfl
  exact ⟨_, fun s v => .of_eq rfl, fun base _ _ => allc T d_is_whole d_is_tuple d_most_water d_holds d_are_counts d_is_stand d_is_through d__law_tape d__law_draw d__law_pound d__law_canal d__law_stand d__law_whole d__law_is_stand d__law_bent F⟩
end Law
set_option Elab.async false
set_option linter.all false
namespace WM
def stp (b l d : Int) : Int := min b (l + d)
def F (b : Int) (ds : List Int) (x : Int) : Int := ds.foldl (stp b) x
def AP (ds : List Int) (x : Int) : Prop := ∀ j, 1 ≤ j → j ≤ ds.length → 0 ≤ x + (ds.take j).sum
inductive R where
  | dry (k : Nat) | lev (l : Int)
def R.bind (o : R) (g : Int → R) : R := match o with
  | .dry k => .dry k
  | .lev l => g l
def most (b : Int) (ds : List Int) : Int := F b ds.tail b
def start (ds : List Int) (mn : Int) : Int := max 0 (-mn)
structure IsMin (ds : List Int) (mn : Int) : Prop where
  le : ∀ j, 1 ≤ j → j ≤ ds.length → mn ≤ (ds.take j).sum
  at' : ∃ j, 1 ≤ j ∧ j ≤ ds.length ∧ mn = (ds.take j).sum
end WM
set_option Elab.async false
set_option linter.all false
set_option maxRecDepth 100000
namespace DL
open PySem PySem.Spec PyProof.Rows L2
section
variable {ρ : Lc} {S : Sto} {α β : Type}
@[simp] theorem bind_ok {a : α} {g : α → Sto → Out β} : (Out.ok a S).bind g = g a S := id rfl
@[simp] theorem bind_bad {g : α → Sto → Out β} : (Out.bad : Out α).bind g = .bad := id rfl
@[simp] theorem bindS_ok {a : α} {g : α → Sto → OS} : bindS (Out.ok a S) ρ g = g a S := id rfl
@[simp] theorem bindS_bad {g : α → Sto → OS} : bindS (Out.bad : Out α) ρ g = .bad := id rfl
@[simp] theorem vr_ap {i : Nat} : vr i ρ S = match ρ[i]? with
  | some (some d) => .ok d S
  | _ => .bad := id rfl
@[simp] theorem cn_ap {d : D} : cn d ρ S = .ok d S := id rfl
@[simp] theorem an_ap : an ρ S = .ok [] S := id rfl
@[simp] theorem ac_ap {f : Ev D} {g : Ev (List D)} : ac f g ρ S = (f ρ S).bind fun x S1 => (g ρ S1).bind fun xs S2 => .ok (x :: xs) S2 := id rfl
@[simp] theorem o2_ap {o : D → D → Sto → Out D} {fa fb : Ev D} : o2 o fa fb ρ S = (fa ρ S).bind fun x S1 => (fb ρ S1).bind fun y S2 => o x y S2 := id rfl
@[simp] theorem o1_ap {o : D → Sto → Out D} {fa : Ev D} : o1 o fa ρ S = (fa ρ S).bind fun x S1 => o x S1 := id rfl
@[simp] theorem b1_ap {o : List D → Sto → Out D} {f : Ev (List D)} : b1 o f ρ S = (f ρ S).bind o := id rfl
@[simp] theorem cl_ap {n : Nat} {fn : Fn} {t : Ev (List D)} : cl n fn t ρ S = (t ρ S).bind fun ds S1 => if ds.length = n then fn ds S1 else .bad := id rfl
@[simp] theorem noExc_ap {fn : Fn} {ds : List D} : noExc fn ds S = match fn ds S with
  | .ok d S' => .ok d S'
  | _ => .bad := id rfl
@[simp] theorem tb_ap {f : Ev D} : tb f ρ S = (f ρ S).bind fun x S1 => match x with
  | .bl b => .ok b S1
  | _ => .bad := id rfl
@[simp] theorem tt_ap {f : Ev D} : tt f ρ S = (f ρ S).bind fun x S1 => match truD x S1 with
  | some b => .ok b S1
  | none => .bad := id rfl
@[simp] theorem tn_ap {f : Ev Bool} : tn f ρ S = (f ρ S).bind fun b S1 => .ok (!b) S1 := id rfl
@[simp] theorem ta_ap {f g : Ev Bool} : ta f g ρ S = (f ρ S).bind fun b S1 => if b = true then g ρ S1 else .ok false S1 := id rfl
@[simp] theorem to_ap {f g : Ev Bool} : to f g ρ S = (f ρ S).bind fun b S1 => if b = true then .ok true S1 else g ρ S1 := id rfl
@[simp] theorem va_ap {f g : Ev D} : va f g ρ S = (f ρ S).bind fun x S1 => match x with
  | .bl b => if b = true then g ρ S1 else .ok (.bl false) S1
  | _ => .bad := id rfl
@[simp] theorem vo_ap {f g : Ev D} : vo f g ρ S = (f ρ S).bind fun x S1 => match x with
  | .bl b => if b = true then .ok (.bl true) S1 else g ρ S1
  | _ => .bad := id rfl
@[simp] theorem vn_ap {f : Ev D} : vn f ρ S = (f ρ S).bind fun x S1 => match x with
  | .bl b => .ok (.bl (!b)) S1
  | _ => .bad := id rfl
@[simp] theorem ie_ap {c : Ev Bool} {f g : Ev D} : ie c f g ρ S = (c ρ S).bind fun b S1 => if b = true then f ρ S1 else g ρ S1 := id rfl
@[simp] theorem tp_ap {f : Ev (List D)} : tp f ρ S = (f ρ S).bind fun xs S1 => if xs.length ≤ 1000000 then .ok (.tup xs) S1 else .bad := id rfl
@[simp] theorem ls_ap {f : Ev (List D)} : ls f ρ S = (f ρ S).bind fun xs S1 => if xs.length ≤ 1000000 then .ok (.lst S1.length) (S1 ++ [⟨false, xs⟩]) else .bad := id rfl
@[simp] theorem sl2_ap {fe : Ev D} {fl fh : Ev (Option Int)} : sl2 fe fl fh ρ S = (fe ρ S).bind fun x S1 => (fl ρ S1).bind fun l S2 => (fh ρ S2).bind fun u S3 => slD2 x l u S3 := id rfl
@[simp] theorem onone_ap : onone ρ S = .ok none S := id rfl
@[simp] theorem osome_ap {f : Ev D} : osome f ρ S = (f ρ S).bind fun x S1 => match x with
  | .int i => .ok (some i) S1
  | _ => .bad := id rfl
@[simp] theorem mt_ap {o : D → List D → Sto → Out D} {fo : Ev D} {f : Ev (List D)} : mt o fo f ρ S = (fo ρ S).bind fun x S1 => if isLst x S1 = true then (f ρ S1).bind fun xs S2 => o x xs S2 else .bad := id rfl
@[simp] theorem ch_ap {o o' : D → D → Sto → Out D} {fa fb fc : Ev D} : ch o o' fa fb fc ρ S = (fa ρ S).bind fun x S1 => (fb ρ S1).bind fun y S2 => (o x y S2).bind fun z S3 => match z with
  | .bl b => if b = true then (fc ρ S3).bind fun w S4 => o' y w S4 else .ok (.bl false) S3
  | _ => .bad := id rfl
@[simp] theorem sq_ap {f g : Sv} : sq f g ρ S = match f ρ S with
  | .nx ρ' S' => g ρ' S'
  | .rt d S' => .rt d S'
  | .bk ρ' S' => .bk ρ' S'
  | .ct ρ' S' => .ct ρ' S'
  | .exc x ρ' S' => .exc x ρ' S'
  | .bad => .bad := id rfl
@[simp] theorem sa_ap {f : Ev D} {g : Tg} : sa f g ρ S = bindS (f ρ S) ρ fun d S1 => match g d ρ with
  | some ρ' => .nx ρ' S1
  | none => .bad := id rfl
@[simp] theorem gn_ap {i : Nat} {d : D} : gn i d ρ = some (ρ.set i (some d)) := id rfl
@[simp] theorem sret_ap {f : Ev D} : sret f ρ S = bindS (f ρ S) ρ fun d S1 => .rt d S1 := id rfl
@[simp] theorem sif_ap {c : Ev Bool} {f g : Sv} : sif c f g ρ S = bindS (c ρ S) ρ fun b S1 => if b = true then f ρ S1 else g ρ S1 := id rfl
@[simp] theorem sx_ap {f : Ev D} : sx f ρ S = bindS (f ρ S) ρ fun _ S1 => .nx ρ S1 := id rfl
@[simp] theorem skip_ap : skip ρ S = .nx ρ S := id rfl
@[simp] theorem ss_ap {f fo fi : Ev D} {o : D → D → D → Sto → Option Sto} : ss f fo fi o ρ S = bindS (f ρ S) ρ fun d S1 => bindS (fo ρ S1) ρ fun x S2 => bindS (fi ρ S2) ρ fun y S3 => match o x y d S3 with
  | some S4 => .nx ρ S4
  | none => .bad := id rfl
@[simp] theorem sag_ap {i : Nat} {g : Int → Int → Int} {f : Ev D} : sag i g f ρ S = match ρ[i]? with
  | some (some (.int a)) => bindS (f ρ S) ρ fun d S1 => match d with
    | .int b => .nx (ρ.set i (some (.int (g a b)))) S1
    | _ => .bad
  | _ => .bad := id rfl
@[simp] theorem isrc_ap {f : Ev D} : isrc f ρ S = (f ρ S).bind srcOf := id rfl
@[simp] theorem sfor_ap {f : Ev Src} {g : Tg} {b : Sv} : sfor f g b ρ S = bindS (f ρ S) ρ fun s S1 => forN s.nxt g b s.fuel 0 ρ S1 := id rfl
section
variable {i j : Int}
@[simp] theorem add_ii : addD (.int i) (.int j) S = .ok (.int (i + j)) S := id rfl
@[simp] theorem sub_ii : subD (.int i) (.int j) S = .ok (.int (i - j)) S := id rfl
@[simp] theorem neg_i : negD (.int i) S = .ok (.int (-i)) S := id rfl
theorem mul_r (h1 : -(2 ^ 64) < j) (h2 : j < 2 ^ 64) : mulD (.int i) (.int j) S = .ok (.int (i * j)) S := by
  show (if (-(2 ^ 64) < i ∧ i < 2 ^ 64) ∨ (-(2 ^ 64) < j ∧ j < 2 ^ 64) then Out.ok (D.int (i * j)) S else .bad) = _
  rw [if_pos (.inr ⟨h1, h2⟩)]
theorem mul_l (h1 : -(2 ^ 64) < i) (h2 : i < 2 ^ 64) : mulD (.int i) (.int j) S = .ok (.int (i * j)) S := by
  show (if (-(2 ^ 64) < i ∧ i < 2 ^ 64) ∨ (-(2 ^ 64) < j ∧ j < 2 ^ 64) then Out.ok (D.int (i * j)) S else .bad) = _
  rw [if_pos (.inl ⟨h1, h2⟩)]
theorem mod_ii (h : 0 < j) : modD (.int i) (.int j) S = .ok (.int (i % j)) S := by
  show (if decide (0 < j) = true then Out.ok (D.int (i % j)) S else .bad) = _
  rw [if_pos (by simpa using h)]
theorem div_ii (h : 0 < j) (h2 : j < 2 ^ 200) : divD2 (.int i) (.int j) S = .ok (.int (i / j)) S := by
  show (if decide (0 < j ∧ j < 2 ^ 200) = true then Out.ok (D.int (i / j)) S else .bad) = _
  rw [if_pos (decide_eq_true ⟨h, h2⟩)]
theorem pow_nn {n : Nat} (h : (n : Int) ≤ 1000000) (h2 : i.natAbs < 2 ^ 64) : powD (.int i) (.int n) S = .ok (.int (i ^ n)) S := by
  show (if decide (0 ≤ (n : Int) ∧ (n : Int) ≤ 1000000 ∧ i.natAbs < 2 ^ 64) = true then Out.ok (D.int (i ^ (n : Int).toNat)) S else .bad) = _
  rw [if_pos (decide_eq_true ⟨by omega, h, h2⟩)]
  rfl
@[simp] theorem pow_6 : powD (.int 10) (.int 6) S = .ok (.int 1000000) S := pow_nn (n := 6) (by decide) (by decide)
@[simp] theorem pow_15 : powD (.int 10) (.int 15) S = .ok (.int 1000000000000000) S := pow_nn (n := 15) (by decide) (by decide)
@[simp] theorem pow_18 : powD (.int 10) (.int 18) S = .ok (.int 1000000000000000000) S := pow_nn (n := 18) (by decide) (by decide)
@[simp] theorem lt_ii : ltD (.int i) (.int j) S = .ok (.bl (decide (i < j))) S := id rfl
@[simp] theorem le_ii : leD (.int i) (.int j) S = .ok (.bl (decide (i ≤ j))) S := id rfl
@[simp] theorem gt_ii : gtD (.int i) (.int j) S = .ok (.bl (decide (j < i))) S := id rfl
@[simp] theorem ge_ii : geD (.int i) (.int j) S = .ok (.bl (decide (j ≤ i))) S := id rfl
@[simp] theorem min_ii : minD [.int i, .int j] S = .ok (.int (min i j)) S := by
  show Out.ok (D.int (if j < i then j else i)) S = _
  congr 2
  omega
@[simp] theorem max_ii : maxD [.int i, .int j] S = .ok (.int (max i j)) S := by
  show Out.ok (D.int (if j > i then j else i)) S = _
  congr 2
  omega
@[simp] theorem eq_ii : eqD (.int i) (.int j) S = .ok (.bl (decide (i = j))) S := by
  simp only [eqD, toP]
  simp [SeqAt.shaped, PyData.eqv]
  rfl
@[simp] theorem ne_ii : neD (.int i) (.int j) S = .ok (.bl (!decide (i = j))) S := by
  simp only [neD, toP]
  simp [SeqAt.shaped, PyData.eqv]
  rfl
theorem eq_ss {x y : Str} (hx : PyData.strOk x = true) (hy : PyData.strOk y = true) : eqD (.str x) (.str y) S = .ok (.bl (x == y)) S := by
  simp only [eqD, toP]
  simp [SeqAt.shaped, PyData.eqv, PyData.canLay0, PyData.depth, hx, hy]
end
@[simp] theorem len_t {l : List D} : lenD [.tup l] S = .ok (.int l.length) S := id rfl
theorem len_l {k : Nat} {c : Cell} (h : S[k]? = some c) : lenD [.lst k] S = .ok (.int c.xs.length) S := by
  show (match S[k]? with | some c => Out.ok (D.int c.xs.length) S | none => .bad) = _
  rw [h]
theorem get_l {k : Nat} {c : Cell} {i : Int} {d : D} (h : S[k]? = some c) (e : atI c.xs i = some d) : getD (.lst k) (.int i) S = .ok d S := by
  show (match S[k]? with | some c => (match atI c.xs i with | some d => Out.ok d S | none => .bad) | none => .bad) = _
  rw [h]
  show (match atI c.xs i with | some d => Out.ok d S | none => .bad) = _
  rw [e]
theorem get_t {l : List D} {i : Int} {d : D} (e : atI l i = some d) : getD (.tup l) (.int i) S = .ok d S := by
  show (match atI l i with | some d => Out.ok d S | none => .bad) = _
  rw [e]
theorem atI_nn {α : Type} {l : List α} {i : Int} {d : α} (h0 : 0 ≤ i) (e : l[i.toNat]? = some d) : atI l i = some d := by
  unfold atI ixN
  have : i.toNat < l.length := (List.getElem?_eq_some_iff.mp e).1
  rw [if_pos h0, if_pos (by omega)]
  exact e
theorem set_l {k : Nat} {xs : List D} {i : Int} {d : D} (h : S[k]? = some ⟨false, xs⟩) (h0 : 0 ≤ i) (h1 : i < xs.length) : setD (.lst k) (.int i) d S = some (S.set k ⟨false, xs.set i.toNat d⟩) := by
  show (match S[k]? with | some c => (match ixN c.xs.length i with | some j => if c.fz = false then some (S.set k ⟨false, c.xs.set j d⟩) else none | none => none) | none => none) = _
  rw [h]
  show (match ixN xs.length i with | some j => if false = false then some (S.set k ⟨false, xs.set j d⟩) else none | none => none) = _
  unfold ixN
  rw [if_pos h0, if_pos h1]
  rfl
@[simp] theorem sum_t {l : List Int} : sumD [.tup (l.map D.int)] S = .ok (.int l.sum) S := by
  have : ∀ l : List Int, intsOf (l.map D.int) = some l := fun l => by
    induction l with
    | nil => rfl
    | cons a r ih => show (intsOf (r.map D.int)).map (a :: ·) = _; rw [ih]; rfl
  show (match (some (l.map D.int)).bind intsOf with | some ns => Out.ok (D.int ns.sum) S | none => .bad) = _
  rw [Option.bind_some, this]
theorem ints_map : ∀ l : List Int, intsOf (l.map D.int) = some l
  | [] => rfl
  | a :: r => by show (intsOf (r.map D.int)).map (a :: ·) = _; rw [ints_map r]; rfl
end
end DL
set_option Elab.async false
set_option linter.all false
set_option maxRecDepth 100000
namespace Law
open PySem PySem.Spec PyProof.Rows L2 DL
def fin (o : OS) : Out D := match o with
  | .rt d S' => .ok d S'
  | .nx _ S' => .ok .non S'
  | .exc x _ S' => .exc x S'
  | _ => .bad
theorem fnB_ap {m : Nat} {b : Sv} {ds : List D} {S : Sto} : fnB m b ds S = fin (b (ds.map some ++ List.replicate (m - ds.length) none) S) := id rfl
@[simp] theorem fin_rt {d : D} {S : Sto} : fin (.rt d S) = .ok d S := id rfl
theorem fin_nx {f g : Sv} {ρ ρ' : Lc} {S S' : Sto} (h : f ρ S = .nx ρ' S') : fin (sq f g ρ S) = fin (g ρ' S') := by rw [sq_ap, h]
theorem fin_ret {f g : Sv} {ρ : Lc} {S S' : Sto} {d : D} (h : f ρ S = .rt d S') : fin (sq f g ρ S) = .ok d S' := by rw [sq_ap, h]; rfl
structure Dp (S : Sto) (t k : Nat) (n : Nat) : Prop where
  ex : ∃ (a b : Int) (xs : List Int), S[t]? = some ⟨false, [.lst k, .int a, .int b]⟩ ∧ S[k]? = some ⟨false, xs.map D.int⟩ ∧ 0 ≤ a ∧ a ≤ n
  ne : t ≠ k
structure Kp (S S' : Sto) (t k : Nat) : Prop where
  len : S.length ≤ S'.length
  get : ∀ i, i < S.length → i ≠ t → i ≠ k → S'[i]? = S[i]?
theorem Kp.refl {S : Sto} {t k : Nat} : Kp S S t k := ⟨Nat.le_refl _, fun _ _ _ _ => rfl⟩
theorem Kp.trans {S S1 S2 : Sto} {t k : Nat} (a : Kp S S1 t k) (b : Kp S1 S2 t k) : Kp S S2 t k := ⟨Nat.le_trans a.len b.len, fun i h h1 h2 => (b.get i (Nat.lt_of_lt_of_le h a.len) h1 h2).trans (a.get i h h1 h2)⟩
theorem Kp.set {S : Sto} {t k j : Nat} {c : Cell} (h : j = t ∨ j = k) : Kp S (S.set j c) t k := ⟨by simp, fun i _ h1 h2 => by
  rw [List.getElem?_set_ne]
  rcases h with h | h
  · rw [h]; exact Ne.symm h1
  · rw [h]; exact Ne.symm h2⟩
theorem Kp.app {S : Sto} {t k : Nat} {c : Cell} : Kp S (S ++ [c]) t k := ⟨by simp, fun i h _ _ => by rw [List.getElem?_append_left h]⟩
theorem Kp.at {S S' : Sto} {t k q : Nat} {c : Cell} (a : Kp S S' t k) (e : S[q]? = some c) (h1 : q ≠ t) (h2 : q ≠ k) : S'[q]? = some c := (a.get q (List.getElem?_eq_some_iff.mp e).1 h1 h2).trans e
theorem app_at {S : Sto} {c : Cell} : (S ++ [c])[S.length]? = some c := by rw [List.getElem?_append_right (Nat.le_refl _)]; simp
theorem app_old {S : Sto} {c d : Cell} {q : Nat} (e : S[q]? = some d) : (S ++ [c])[q]? = some d := by
  rw [List.getElem?_append_left (List.getElem?_eq_some_iff.mp e).1]; exact e
theorem Dp.app {S : Sto} {t k n : Nat} {c : Cell} (h : Dp S t k n) : Dp (S ++ [c]) t k n := by
  obtain ⟨⟨a, b, xs, e1, e2, h⟩, ne⟩ := h
  exact ⟨⟨a, b, xs, app_old e1, app_old e2, h⟩, ne⟩
theorem Dp.lt {S : Sto} {t k n : Nat} (h : Dp S t k n) : t < S.length ∧ k < S.length := by
  obtain ⟨⟨a, b, xs, e1, e2, h⟩, ne⟩ := h
  exact ⟨(List.getElem?_eq_some_iff.mp e1).1, (List.getElem?_eq_some_iff.mp e2).1⟩
theorem Dp.set {S : Sto} {t k q n : Nat} {c : Cell} (h : Dp S t k n) (h1 : q ≠ t) (h2 : q ≠ k) : Dp (S.set q c) t k n := by
  obtain ⟨⟨a, b, xs, e1, e2, h⟩, ne⟩ := h
  exact ⟨⟨a, b, xs, by rw [List.getElem?_set_ne h1]; exact e1, by rw [List.getElem?_set_ne h2]; exact e2, h⟩, ne⟩
theorem Dp.mono {S : Sto} {t k n m : Nat} (h : Dp S t k n) (hm : n ≤ m) : Dp S t k m := by
  obtain ⟨⟨a, b, xs, e1, e2, h0, h1⟩, ne⟩ := h
  exact ⟨⟨a, b, xs, e1, e2, h0, by omega⟩, ne⟩
def dr_b : Sv := (sq (sif (ta (tb (o2 ltD (vr 3) (b1 lenD (ac (o2 DL.getD (vr 0) (cn (.int 0))) an)))) (tb (o2 geD (vr 4) (o2 powD (cn (.int 10)) (cn (.int 18))))))
    (sq (ss (o2 divD2 (vr 4) (vr 1)) (vr 0) (cn (.int 2)) setD)
    (sret (o2 modD (vr 4) (vr 1))))
    DL.skip)
    (sq (sa (o2 modD (o2 mulD (o2 addD (o2 modD (vr 4) (cn (.int 1000003))) (cn (.int 1))) (o2 addD (o2 addD (o2 mulD (o2 mulD (cn (.int 7919)) (vr 3)) (vr 3)) (o2 mulD (cn (.int 104729)) (vr 3))) (cn (.int 12345)))) (cn (.int 2147483647))) (gn 5))
    (sq (sa (o2 modD (o2 addD (o2 addD (o2 mulD (vr 5) (vr 5)) (o2 mulD (cn (.int 48271)) (vr 3))) (o2 modD (vr 4) (cn (.int 65537)))) (cn (.int 2147483629))) (gn 5))
    (sret (o2 modD (o2 divD2 (vr 5) (cn (.int 8))) (vr 1))))))
theorem drb_ok {S : Sto} {t k n : Nat} {m a b c : Int} {xs : List Int} {g2 : Option D} (e1 : S[t]? = some ⟨false, [.lst k, .int (a + 1), .int b]⟩) (e2 : S[k]? = some ⟨false, xs.map D.int⟩) (ne : t ≠ k) (ha : 0 ≤ a) (han : a ≤ n) (hn : n < 2 ^ 60) (hm : 0 < m) (hm2 : m < 2 ^ 200) :
    ∃ r S', fin (dr_b [some (.lst t), some (.int m), g2, some (.int a), some (.int c), none] S) = .ok (.int r) S' ∧ 0 ≤ r ∧ r < m ∧ Dp S' t k (n + 1) ∧ Kp S S' t k := by
  have g0 : DL.getD (.lst t) (.int 0) S = .ok (.lst k) S := get_l e1 rfl
  have ln : lenD [.lst k] S = .ok (.int xs.length) S := by rw [len_l e2]; simp
  have lt : t < S.length := (List.getElem?_eq_some_iff.mp e1).1
  have s2 : setD (.lst t) (.int 2) (.int (c / m)) S = some (S.set t ⟨false, [.lst k, .int (a + 1), .int (c / m)]⟩) := set_l e1 (by decide) (by simp)
  by_cases h : a < xs.length ∧ 1000000000000000000 ≤ c
  · refine ⟨c % m, S.set t ⟨false, [.lst k, .int (a + 1), .int (c / m)]⟩, ?_, Int.emod_nonneg _ (by omega), Int.emod_lt_of_pos _ hm, ⟨⟨a + 1, c / m, xs, List.getElem?_set_self lt, by rw [List.getElem?_set_ne ne]; exact e2, by omega, by omega⟩, ne⟩, Kp.set (.inl rfl)⟩
    unfold dr_b
    exact fin_ret (by simp [g0, ln, h.1, h.2, div_ii hm hm2, s2, mod_ii hm])
  · have sqr : ∀ x : Int, mulD (.int (x % 2147483647)) (.int (x % 2147483647)) S = .ok (.int (x % 2147483647 * (x % 2147483647))) S := fun x => mul_r (by omega) (by omega)
    have m1 : mulD (.int (7919 * a)) (.int a) S = .ok (.int (7919 * a * a)) S := mul_r (by omega) (by omega)
    have m2 : ∀ y : Int, mulD (.int (c % 1000003 + 1)) (.int y) S = .ok (.int ((c % 1000003 + 1) * y)) S := fun y => mul_l (by omega) (by omega)
    obtain ⟨z, hz⟩ : ∃ z : Int, z = ((c % 1000003 + 1) * (7919 * a * a + 104729 * a + 12345)) % 2147483647 := ⟨_, rfl⟩
    obtain ⟨y, hy⟩ : ∃ y : Int, y = (z * z + 48271 * a + c % 65537) % 2147483629 := ⟨_, rfl⟩
    have mz : mulD (.int z) (.int z) S = .ok (.int (z * z)) S := by rw [hz]; exact sqr _
    have e1' : sif (ta (tb (o2 ltD (vr 3) (b1 lenD (ac (o2 DL.getD (vr 0) (cn (.int 0))) an)))) (tb (o2 geD (vr 4) (o2 powD (cn (.int 10)) (cn (.int 18)))))) (sq (ss (o2 divD2 (vr 4) (vr 1)) (vr 0) (cn (.int 2)) setD) (sret (o2 modD (vr 4) (vr 1)))) DL.skip [some (.lst t), some (.int m), g2, some (.int a), some (.int c), none] S = .nx [some (.lst t), some (.int m), g2, some (.int a), some (.int c), none] S := by
      by_cases c1 : a < xs.length
      · have c2 : ¬ 1000000000000000000 ≤ c := fun z => h ⟨c1, z⟩
        simp [g0, ln, c1, c2]
      · simp [g0, ln, c1]
    refine ⟨y / 8 % m, S, ?_, Int.emod_nonneg _ (by omega), Int.emod_lt_of_pos _ hm, ⟨⟨a + 1, b, xs, e1, e2, by omega, by omega⟩, ne⟩, .refl⟩
    unfold dr_b
    rw [fin_nx e1']
    refine (fin_nx (ρ' := [some (.lst t), some (.int m), g2, some (.int a), some (.int c), some (.int z)]) (S' := S) (by rw [hz]; simp [mod_ii, mul_l, m1, m2])).trans ?_
    refine (fin_nx (ρ' := [some (.lst t), some (.int m), g2, some (.int a), some (.int c), some (.int y)]) (S' := S) (by rw [hy]; simp [mod_ii, mul_l, mz])).trans ?_
    simp [div_ii, mod_ii hm]
theorem draw_ok {S : Sto} {t k n : Nat} {m : Int} (h : Dp S t k n) (hn : n < 2 ^ 60) (hm : 0 < m) (hm2 : m < 2 ^ 200) : ∃ r S', f__law_draw [.lst t, .int m] S = .ok (.int r) S' ∧ 0 ≤ r ∧ r < m ∧ Dp S' t k (n + 1) ∧ Kp S S' t k := by
  obtain ⟨⟨a, b, xs, e1, e2, ha, han⟩, ne⟩ := h
  have lt : t < S.length := (List.getElem?_eq_some_iff.mp e1).1
  have g1 : DL.getD (.lst t) (.int 1) S = .ok (.int a) S := get_l e1 rfl
  have g2 : DL.getD (.lst t) (.int 2) S = .ok (.int b) S := get_l e1 rfl
  have s1 : setD (.lst t) (.int 1) (.int (a + 1)) S = some (S.set t ⟨false, [.lst k, .int (a + 1), .int b]⟩) := set_l e1 (by decide) (by simp)
  have s2 : setD (.lst t) (.int 2) (.int (b / m)) S = some (S.set t ⟨false, [.lst k, .int a, .int (b / m)]⟩) := set_l e1 (by decide) (by simp)
  have hf : ∀ X, f__law_draw [.lst t, .int m] S = X ↔ fin (b__law_draw [some (.lst t), some (.int m), none, none, none, none] S) = X := fun X => by rw [show f__law_draw [.lst t, .int m] S = fin (b__law_draw [some (.lst t), some (.int m), none, none, none, none] S) from fnB_ap (m := 6) (b := b__law_draw)]
  by_cases c : 0 < b
  · refine ⟨b % m, S.set t ⟨false, [.lst k, .int a, .int (b / m)]⟩, (hf _).mpr ?_, Int.emod_nonneg _ (by omega), Int.emod_lt_of_pos _ hm, ⟨⟨a, b / m, xs, List.getElem?_set_self lt, by rw [List.getElem?_set_ne ne]; exact e2, ha, by omega⟩, ne⟩, Kp.set (.inl rfl)⟩
    unfold b__law_draw
    exact fin_ret (by simp [g2, c, mod_ii hm, div_ii hm hm2, s2])
  · have e1' : (S.set t ⟨false, [.lst k, .int (a + 1), .int b]⟩)[t]? = some ⟨false, [.lst k, .int (a + 1), .int b]⟩ := List.getElem?_set_self lt
    have e2' : (S.set t ⟨false, [.lst k, .int (a + 1), .int b]⟩)[k]? = some ⟨false, xs.map D.int⟩ := by rw [List.getElem?_set_ne ne]; exact e2
    have kp : Kp S (S.set t ⟨false, [.lst k, .int (a + 1), .int b]⟩) t k := Kp.set (.inl rfl)
    generalize S.set t ⟨false, [.lst k, .int (a + 1), .int b]⟩ = S1 at *
    have g0 : DL.getD (.lst t) (.int 0) S1 = .ok (.lst k) S1 := get_l e1' rfl
    have ln : lenD [.lst k] S1 = .ok (.int xs.length) S1 := by rw [len_l e2']; simp
    obtain ⟨cl', ec⟩ : ∃ cl' : Int, sif (tb (o2 gtD (b1 lenD (ac (o2 DL.getD (vr 0) (cn (.int 0))) an)) (cn (.int 0)))) (sa (o2 DL.getD (o2 DL.getD (vr 0) (cn (.int 0))) (o2 modD (vr 3) (b1 lenD (ac (o2 DL.getD (vr 0) (cn (.int 0))) an)))) (gn 4)) DL.skip [some (.lst t), some (.int m), none, some (.int a), some (.int 0), none] S1 = .nx [some (.lst t), some (.int m), none, some (.int a), some (.int cl'), none] S1 := by
      by_cases c2 : 0 < xs.length
      · have c3 : (0 : Int) < xs.length := by omega
        have lti : (a % (xs.length : Int)).toNat < xs.length := by
          have := Int.emod_lt_of_pos a c3
          have := Int.emod_nonneg a (by omega : (xs.length : Int) ≠ 0)
          omega
        have gi : DL.getD (.lst k) (.int (a % (xs.length : Int))) S1 = .ok (.int xs[(a % (xs.length : Int)).toNat]) S1 := get_l e2' (atI_nn (Int.emod_nonneg a (by omega)) (by simp [lti]))
        exact ⟨xs[(a % (xs.length : Int)).toNat], by simp [g0, ln, c2, mod_ii c3, gi]⟩
      · exact ⟨0, by simp [g0, ln, c2]⟩
    obtain ⟨r, S', h1, h2, h3, h4, h5⟩ := drb_ok (c := cl') (g2 := none) e1' e2' ne ha han hn hm hm2
    refine ⟨r, S', (hf _).mpr ?_, h2, h3, h4, kp.trans h5⟩
    unfold b__law_draw
    refine (fin_nx (ρ' := [some (.lst t), some (.int m), none, none, none, none]) (S' := S) (by simp [g2, c])).trans ?_
    refine (fin_nx (ρ' := [some (.lst t), some (.int m), none, some (.int a), none, none]) (S' := S) (by simp [g1])).trans ?_
    refine (fin_nx (ρ' := [some (.lst t), some (.int m), none, some (.int a), none, none]) (S' := S1) (by simp [s1])).trans ?_
    refine (fin_nx (ρ' := [some (.lst t), some (.int m), none, some (.int a), some (.int 0), none]) (S' := S1) (by simp)).trans ?_
    rw [fin_nx ec]
    exact h1
end Law
set_option Elab.async false
set_option linter.all false
set_option maxRecDepth 100000
namespace Law
open PySem PySem.Spec PyProof.Rows L2 DL
theorem pick {S S1 : Sto} {t k : Nat} {xs : List D} {r : Int} {x : D} (s : Kp (S ++ [⟨false, xs⟩]) S1 t k) (h : t < S.length ∧ k < S.length) (e : atI xs r = some x) : DL.getD (.lst S.length) (.int r) S1 = .ok x S1 :=
  get_l (c := ⟨false, xs⟩) (s.at app_at (by omega) (by omega)) e
theorem pick_ok {S : Sto} {t k n : Nat} {xs : List D} {m : Int} (h : Dp S t k n) (hn : n < 2 ^ 60) (hm : m = xs.length) (h0 : 0 < xs.length) (h1 : xs.length < 1000) : ∃ r x S1, f__law_draw [.lst t, .int m] (S ++ [⟨false, xs⟩]) = .ok (.int r) S1 ∧ DL.getD (.lst S.length) (.int r) S1 = .ok x S1 ∧ x ∈ xs ∧ Dp S1 t k (n + 1) ∧ Kp S S1 t k := by
  obtain ⟨r, S1, e1, r0, r1, d1, k1⟩ := draw_ok (m := m) (h.app (c := ⟨false, xs⟩)) hn (by omega) (by omega)
  have hlt : r.toNat < xs.length := by omega
  have ea : atI xs r = some xs[r.toNat] := atI_nn r0 (by simp [hlt])
  exact ⟨r, _, S1, e1, pick k1 h.lt ea, List.getElem_mem hlt, d1, Kp.app.trans k1⟩
inductive Pl where
  | e | c | p (br de ro : Int) (pr : D)
def Pl.toD : Pl → D
  | .e => .tup [.str "end"]
  | .c => .tup [.str "chamber"]
  | .p br de ro pr => .tup [.str "pound", .int br, .int de, .int ro, pr]
def Pl.ok : Pl → Prop
  | .p br de ro pr => 1 ≤ br ∧ br ≤ 9 ∧ 0 ≤ de ∧ de ≤ br ∧ 1 ≤ ro ∧ ro ≤ 4 ∧ (pr = .non ∨ ∃ i, pr = .int i ∧ 0 ≤ i ∧ i ≤ 99)
  | _ => True
theorem pound_ok {S : Sto} {t k n : Nat} (h : Dp S t k n) (hn : n < 2 ^ 59) : ∃ br de ro pr S', f__law_pound [.lst t] S = .ok (Pl.toD (.p br de ro pr)) S' ∧ Pl.ok (.p br de ro pr) ∧ Dp S' t k (n + 9) ∧ Kp S S' t k := by
  obtain ⟨a1, S1, e1, a10, a11, d1, k1⟩ := draw_ok (m := 9) h (by omega) (by decide) (by decide)
  obtain ⟨r2, x2, S2, e2, p2, m2, d2, k2⟩ := pick_ok (xs := [.int 1, .int 2, .int 3, .int (1 + a1)]) (m := 4) d1 (by omega) rfl (by simp) (by simp)
  obtain ⟨br, hbr, br0, br1⟩ : ∃ i : Int, x2 = .int i ∧ 1 ≤ i ∧ i ≤ 9 := by
    simp only [List.mem_cons, List.mem_nil_iff, or_false] at m2
    rcases m2 with rfl | rfl | rfl | rfl
    · exact ⟨_, rfl, by decide, by decide⟩
    · exact ⟨_, rfl, by decide, by decide⟩
    · exact ⟨_, rfl, by decide, by decide⟩
    · exact ⟨_, rfl, by omega, by omega⟩
  subst hbr
  obtain ⟨a3, S3, e3, a30, a31, d3, k3⟩ := draw_ok (m := 10) d2 (by omega) (by decide) (by decide)
  obtain ⟨r4, x4, S4, e4, p4, m4, d4, k4⟩ := pick_ok (xs := [.int 0, .int 0, .int 1, .int a3]) (m := 4) d3 (by omega) rfl (by simp) (by simp)
  obtain ⟨de, hde, de0⟩ : ∃ i : Int, x4 = .int i ∧ 0 ≤ i := by
    simp only [List.mem_cons, List.mem_nil_iff, or_false] at m4
    rcases m4 with rfl | rfl | rfl | rfl
    · exact ⟨_, rfl, by decide⟩
    · exact ⟨_, rfl, by decide⟩
    · exact ⟨_, rfl, by decide⟩
    · exact ⟨_, rfl, a30⟩
  subst hde
  obtain ⟨a5, S5, e5, a50, a51, d5, k5⟩ := draw_ok (m := 4) d4 (by omega) (by decide) (by decide)
  obtain ⟨r6, x6, S6, e6, p6, m6, d6, k6⟩ := pick_ok (xs := [.int 1, .int 2, .int (1 + a5)]) (m := 3) d5 (by omega) rfl (by simp) (by simp)
  obtain ⟨ro, hro, ro0, ro1⟩ : ∃ i : Int, x6 = .int i ∧ 1 ≤ i ∧ i ≤ 4 := by
    simp only [List.mem_cons, List.mem_nil_iff, or_false] at m6
    rcases m6 with rfl | rfl | rfl
    · exact ⟨_, rfl, by decide, by decide⟩
    · exact ⟨_, rfl, by decide, by decide⟩
    · exact ⟨_, rfl, by omega, by omega⟩
  subst hro
  obtain ⟨a7, S7, e7, a70, a71, d7, k7⟩ := draw_ok (m := 100) d6 (by omega) (by decide) (by decide)
  obtain ⟨a8, S8, e8, a80, a81, d8, k8⟩ := draw_ok (m := 5) d7 (by omega) (by decide) (by decide)
  obtain ⟨r9, pr, S9, e9, p9, m9, d9, k9⟩ := pick_ok (xs := [.non, .int a7, .int (1 + a8), .int 0]) (m := 4) d8 (by omega) rfl (by simp) (by simp)
  have hpr : pr = .non ∨ ∃ i : Int, pr = .int i ∧ 0 ≤ i ∧ i ≤ 99 := by
    simp only [List.mem_cons, List.mem_nil_iff, or_false] at m9
    rcases m9 with rfl | rfl | rfl | rfl
    · exact .inl rfl
    · exact .inr ⟨_, rfl, by omega, by omega⟩
    · exact .inr ⟨_, rfl, by omega, by omega⟩
    · exact .inr ⟨_, rfl, by omega, by omega⟩
  refine ⟨br, min br de, ro, pr, S9, ?_, ⟨br0, br1, by omega, by omega, ro0, ro1, hpr⟩, d9, k1.trans (k2.trans (k3.trans (k4.trans (k5.trans (k6.trans (k7.trans (k8.trans k9)))))))⟩
  simp [f__law_pound, fnB, b__law_pound, e1, e2, p2, e3, e4, p4, e5, e6, p6, e7, e8, e9, p9, Pl.toD]
theorem app_l {S : Sto} {q : Nat} {xs : List D} {d : D} (e : S[q]? = some ⟨false, xs⟩) (h : xs.length < 1000000) : appD (.lst q) [d] S = .ok .non (S.set q ⟨false, xs ++ [d]⟩) := by
  simp only [appD, e]
  simp [h]
theorem isL {S : Sto} {q : Nat} {c : Cell} (e : S[q]? = some c) : isLst (.lst q) S = true := by simp only [isLst, e]
end Law
set_option Elab.async false
set_option linter.all false
set_option maxRecDepth 100000
namespace Law
open PySem PySem.Spec PyProof.Rows L2 DL
theorem for_inv {nxt : Nat → Sto → Option D} {g : Tg} {b : Sv} {l : List D} (I : Nat → Lc → Sto → Prop) (hn : ∀ k ρ S, I k ρ S → nxt k S = l[k]?) (hs : ∀ k d ρ S, l[k]? = some d → I k ρ S → ∃ ρ1 ρ2 S2, g d ρ = some ρ1 ∧ b ρ1 S = .nx ρ2 S2 ∧ I (k + 1) ρ2 S2) :
    ∀ (n k : Nat) (ρ : Lc) (S : Sto), k ≤ l.length → I k ρ S → l.length < n + k → ∃ ρ' S', forN nxt g b n k ρ S = .nx ρ' S' ∧ I l.length ρ' S'
  | 0, k, ρ, S, h1, _, h2 => by omega
  | n + 1, k, ρ, S, h1, hI, h2 => by
    unfold forN
    rw [hn k ρ S hI]
    cases z : l[k]? with
    | none =>
      have : k = l.length := by have := List.getElem?_eq_none_iff.mp z; omega
      subst this
      exact ⟨ρ, S, rfl, hI⟩
    | some d =>
      obtain ⟨ρ1, ρ2, S2, h3, h4, h5⟩ := hs k d ρ S z hI
      have hk : k < l.length := (List.getElem?_eq_some_iff.mp z).1
      obtain ⟨ρ', S', h6, h7⟩ := for_inv I hn hs n (k + 1) ρ2 S2 hk h5 (by omega)
      refine ⟨ρ', S', ?_, h7⟩
      simp only [h3, h4]
      exact h6
def srcT (l : List D) : Src := ⟨fun k _ => l[k]?, l.length + 1⟩
def srcL (i n : Nat) : Src := ⟨fun k S => (S[i]?).bind fun c => c.xs[k]?, n + 1⟩
theorem src_t {l : List D} {S : Sto} : srcOf (.tup l) S = .ok (srcT l) S := id rfl
theorem src_l {i : Nat} {c : Cell} {S : Sto} (e : S[i]? = some c) : srcOf (.lst i) S = .ok (srcL i c.xs.length) S := by
  simp only [srcOf, e]
  rfl
theorem fuelT {l : List D} : l.length < (srcT l).fuel + 0 := Nat.lt_succ_self _
theorem rng_get {n k : Nat} {S : Sto} : (rsrc 0 n).nxt k S = ((List.range n).map fun k : Nat => D.int (k : Int))[k]? := by
  show (if k < n then some (D.int (0 + k)) else none) = _
  rw [List.getElem?_map]
  by_cases c : k < n
  · rw [if_pos c, List.getElem?_range c]; simp
  · rw [if_neg c, List.getElem?_eq_none (by simp; omega)]; rfl
theorem rng_of {n k : Nat} {d : D} (h : ((List.range n).map fun k : Nat => D.int (k : Int))[k]? = some d) : k < n ∧ d = .int k := by
  have hk : k < n := by have := (List.getElem?_eq_some_iff.mp h).1; simpa using this
  rw [List.getElem?_map, List.getElem?_range hk] at h
  exact ⟨hk, (Option.some.inj h).symm⟩
theorem ir1_ok {f : Ev (List D)} {ρ : Lc} {S S' : Sto} {n : Nat} (h : f ρ S = .ok [.int n] S') (hn : n ≤ 1000000) : ir1 f ρ S = .ok (rsrc 0 n) S' := by
  unfold ir1
  rw [h]
  show (if -1000000000000 ≤ (n : Int) ∧ (n : Int) ≤ 1000000000000 then Out.ok (rsrc 0 (n : Int).toNat) S' else .bad) = _
  rw [if_pos (by omega)]; rfl
theorem Kp.setq {S0 S : Sto} {t k q : Nat} {c : Cell} (a : Kp S0 S t k) (h : S0.length ≤ q) : Kp S0 (S.set q c) t k := ⟨by simp; exact a.len, fun i hi h1 h2 => by
  rw [List.getElem?_set_ne (by omega)]; exact a.get i hi h1 h2⟩
theorem add_ll {S : Sto} {i j : Nat} {a b : List D} (h1 : S[i]? = some ⟨false, a⟩) (h2 : S[j]? = some ⟨false, b⟩) (h : a.length + b.length ≤ 1000000) : addD (.lst i) (.lst j) S = .ok (.lst S.length) (S ++ [⟨false, a ++ b⟩]) := by
  simp only [addD, h1, h2]
  simp [h]
theorem mul_rep {S : Sto} {i : Nat} {d : D} {n : Nat} (e : S[i]? = some ⟨false, [d]⟩) (hn : n ≤ 1000) : mulD (.lst i) (.int n) S = .ok (.lst S.length) (S ++ [⟨false, List.replicate n d⟩]) := by
  have fl : ∀ n : Nat, (List.replicate n [d]).flatten = List.replicate n d := fun n => by
    induction n with
    | zero => rfl
    | succ n ih => rw [List.replicate_succ, List.flatten_cons, ih]; rfl
  simp only [mulD, e]
  rw [if_pos (by simp; omega)]
  simp [fl]
theorem tup_l {S : Sto} {q : Nat} {c : Cell} (e : S[q]? = some c) : tupD [.lst q] S = .ok (.tup c.xs) S := by
  simp only [tupD, e]
def Pl.isC : Pl → Bool
  | .c => true
  | _ => false
def Pl.isE : Pl → Bool
  | .e => true
  | _ => false
theorem stok (s : String) : PyData.strOk (Str.ofString s) = true := by
  unfold PyData.strOk
  have hc : ∀ c : Char, c.toNat < 1114112 := fun c => by
    rcases c.valid with h | ⟨_, h⟩
    · exact Nat.lt_of_lt_of_le h (by decide)
    · exact h
  rw [Str.ofString_eq_toList]
  simp [hc]
theorem eq_cham {p : Pl} {S : Sto} (h : p.ok) : eqD p.toD (.tup [.str "chamber"]) S = .ok (.bl p.isC) S := by
  have n1 : (Str.ofString "end" == Str.ofString "chamber") = false := by decide +kernel
  have n2 : (Str.ofString "pound" == Str.ofString "chamber") = false := by decide +kernel
  cases p with
  | e => simp [Pl.toD, eqD, toP, mapO, SeqAt.shaped, PyData.canLay0, PyData.canLayAll0, PyData.depth, PyData.depthAll, stok, PyData.eqv, PyData.eqvAll, n1, Pl.isC]
  | c => simp [Pl.toD, eqD, toP, mapO, SeqAt.shaped, PyData.canLay0, PyData.canLayAll0, PyData.depth, PyData.depthAll, stok, PyData.eqv, PyData.eqvAll, Pl.isC]
  | p br de ro pr =>
    obtain ⟨_, _, _, _, _, _, h⟩ := h
    rcases h with rfl | ⟨i, rfl, _⟩
    · simp [Pl.toD, eqD, toP, mapO, SeqAt.shaped, PyData.canLay0, PyData.canLayAll0, PyData.depth, PyData.depthAll, stok, PyData.eqv, PyData.eqvAll, n2, Pl.isC]
    · simp [Pl.toD, eqD, toP, mapO, SeqAt.shaped, PyData.canLay0, PyData.canLayAll0, PyData.depth, PyData.depthAll, stok, PyData.eqv, PyData.eqvAll, n2, Pl.isC]
theorem eq_end {p : Pl} {S : Sto} (h : p.ok) : eqD p.toD (.tup [.str "end"]) S = .ok (.bl p.isE) S := by
  have n1 : (Str.ofString "chamber" == Str.ofString "end") = false := by decide +kernel
  have n2 : (Str.ofString "pound" == Str.ofString "end") = false := by decide +kernel
  cases p with
  | e => simp [Pl.toD, eqD, toP, mapO, SeqAt.shaped, PyData.canLay0, PyData.canLayAll0, PyData.depth, PyData.depthAll, stok, PyData.eqv, PyData.eqvAll, Pl.isE]
  | c => simp [Pl.toD, eqD, toP, mapO, SeqAt.shaped, PyData.canLay0, PyData.canLayAll0, PyData.depth, PyData.depthAll, stok, PyData.eqv, PyData.eqvAll, n1, Pl.isE]
  | p br de ro pr =>
    obtain ⟨_, _, _, _, _, _, h⟩ := h
    rcases h with rfl | ⟨i, rfl, _⟩
    · simp [Pl.toD, eqD, toP, mapO, SeqAt.shaped, PyData.canLay0, PyData.canLayAll0, PyData.depth, PyData.depthAll, stok, PyData.eqv, PyData.eqvAll, n2, Pl.isE]
    · simp [Pl.toD, eqD, toP, mapO, SeqAt.shaped, PyData.canLay0, PyData.canLayAll0, PyData.depth, PyData.depthAll, stok, PyData.eqv, PyData.eqvAll, n2, Pl.isE]
theorem canal_step {S0 S : Sto} {t k q : Nat} {n : Nat} {most many : Int} {ps : List Pl} {i : Nat} {g4 g5 : Option D} (hd : Dp S t k n) (hk : Kp S0 S t k) (hq : S0.length ≤ q) (hqt : q ≠ t) (hqk : q ≠ k) (hn : n < 2 ^ 58) (eq' : S[q]? = some ⟨false, ps.map Pl.toD⟩) (hp : ∀ p ∈ ps, p.ok) (hne : ps ≠ []) (hl : ps.length < 1000) :
    ∃ p S' g5', lb__law_canal_1 [some (.lst t), some (.int most), some (.int many), some (.lst q), some (.int i), g5, none, none] S = .nx [some (.lst t), some (.int most), some (.int many), some (.lst q), some (.int i), g5', none, none] S' ∧ Pl.ok p ∧ p.isE = false ∧ (p.isC = true ∨ (ps.getLast hne).isC = true) ∧ S'[q]? = some ⟨false, (ps ++ [p]).map Pl.toD⟩ ∧ Dp S' t k (n + 10) ∧ Kp S0 S' t k := by
  have lq : q < S.length := (List.getElem?_eq_some_iff.mp eq').1
  obtain ⟨b, eb, hb⟩ : ∃ b : Bool, sa (va (o2 ltD (cn (.int 0)) (vr 4)) (va (o2 ltD (vr 4) (o2 subD (vr 2) (cn (.int 1)))) (o2 eqD (o2 DL.getD (vr 3) (o1 negD (cn (.int 1)))) (tp (ac (cn (.str "chamber")) an))))) (gn 5) [some (.lst t), some (.int most), some (.int many), some (.lst q), some (.int i), g5, none, none] S = .nx [some (.lst t), some (.int most), some (.int many), some (.lst q), some (.int i), some (.bl b), none, none] S ∧ (b = true → (ps.getLast hne).isC = true) := by
    have hlast : DL.getD (.lst q) (.int (-1)) S = .ok (Pl.toD (ps.getLast hne)) S := by
      refine get_l eq' ?_
      have : 0 < ps.length := List.length_pos_iff.mpr hne
      show (ixN (ps.map Pl.toD).length (-1)).bind (fun j => (ps.map Pl.toD)[j]?) = _
      unfold ixN
      rw [if_neg (by decide), if_pos (by simp; omega), Option.bind_some]
      have : ((-1 : Int) + ((ps.map Pl.toD).length : Nat)).toNat = ps.length - 1 := by simp; omega
      rw [this, List.getElem?_map, List.getElem?_eq_getElem (by omega), List.getLast_eq_getElem]
      rfl
    have ec := eq_cham (S := S) (hp _ (List.getLast_mem hne))
    by_cases c1 : 0 < i
    · by_cases c2 : (i : Int) < many - 1
      · exact ⟨(ps.getLast hne).isC, by simp [c1, c2, hlast, ec], fun z => z⟩
      · exact ⟨false, by simp [c1, c2], fun z => nomatch z⟩
    · exact ⟨false, by simp [c1], fun z => nomatch z⟩
  have fin1 : ∀ (S1 : Sto) (m : Nat), Dp S1 t k m → m ≤ n + 1 → Kp S0 S1 t k → S1[q]? = some ⟨false, ps.map Pl.toD⟩ → ∃ S', sx (mt appD (vr 3) (ac (tp (ac (cn (.str "chamber")) an)) an)) [some (.lst t), some (.int most), some (.int many), some (.lst q), some (.int i), some (.bl b), none, none] S1 = .nx [some (.lst t), some (.int most), some (.int many), some (.lst q), some (.int i), some (.bl b), none, none] S' ∧ S'[q]? = some ⟨false, (ps ++ [Pl.c]).map Pl.toD⟩ ∧ Dp S' t k (n + 10) ∧ Kp S0 S' t k := by
    intro S1 m d1 hm k1 e1
    have ap := app_l (d := .tup [.str "chamber"]) e1 (by simp; omega)
    have lq1 : q < S1.length := (List.getElem?_eq_some_iff.mp e1).1
    refine ⟨S1.set q ⟨false, ps.map Pl.toD ++ [.tup [.str "chamber"]]⟩, ?_, ?_, (d1.set hqt hqk).mono (by omega), k1.setq hq⟩
    · simp [isL e1, ap]
    · rw [List.getElem?_set_self lq1, List.map_append]; rfl
  cases b with
  | false =>
    obtain ⟨S', e1, e2, e3, e4⟩ := fin1 S n hd (by omega) hk eq'
    refine ⟨.c, S', some (.bl false), ?_, trivial, rfl, .inl rfl, e2, e3, e4⟩
    unfold lb__law_canal_1
    rw [sq_ap, eb]
    simp only [sif_ap, ta_ap, tt_ap, vr_ap, bind_ok, List.getElem?_cons_zero, List.getElem?_cons_succ, truD, Bool.false_eq_true, if_false, bindS_ok]
    exact e1
  | true =>
    obtain ⟨r, S1, e1, r0, r1, d1, k1⟩ := draw_ok (m := 4) hd (by omega) (by decide) (by decide)
    have q1 := k1.at eq' hqt hqk
    by_cases c : 0 < r
    · obtain ⟨br, de, ro, pr, S2, e2, ok2, d2, k2⟩ := pound_ok d1 (by omega)
      have q2 := k2.at q1 hqt hqk
      have ap := app_l (d := Pl.toD (.p br de ro pr)) q2 (by simp; omega)
      have lq2 : q < S2.length := (List.getElem?_eq_some_iff.mp q2).1
      refine ⟨.p br de ro pr, S2.set q ⟨false, ps.map Pl.toD ++ [Pl.toD (.p br de ro pr)]⟩, some (.bl true), ?_, ok2, rfl, .inr (hb rfl), ?_, (d2.set hqt hqk).mono (by omega), ((hk.trans k1).trans k2).setq hq⟩
      · unfold lb__law_canal_1
        rw [sq_ap, eb]
        simp [truD, e1, c, isL q1, e2, ap]
      · rw [List.getElem?_set_self lq2, List.map_append]; rfl
    · obtain ⟨S', e4, e5, e6, e7⟩ := fin1 S1 (n + 1) d1 (by omega) (hk.trans k1) q1
      refine ⟨.c, S', some (.bl true), ?_, trivial, rfl, .inl rfl, e5, e6, e7⟩
      unfold lb__law_canal_1
      rw [sq_ap, eb]
      have ct : ta (tt (vr 5)) (tb (o2 gtD (cl 2 (noExc f__law_draw) (ac (vr 0) (ac (cn (.int 4)) an))) (cn (.int 0)))) [some (.lst t), some (.int most), some (.int many), some (.lst q), some (.int i), some (.bl true), none, none] S = .ok false S1 := by simp [truD, e1, c]
      simp only [sif_ap, ct, bindS_ok, Bool.false_eq_true, if_false]
      exact e4
end Law
set_option Elab.async false
set_option linter.all false
set_option maxRecDepth 100000
namespace Law
open PySem PySem.Spec PyProof.Rows L2 DL
theorem cbody_ok {a : Nat} {e : Ev D} {ρ : Lc} {S S2 : Sto} {d : D} {xs : List D} (h : e ρ S = .ok d S2) (q : S2[a]? = some ⟨false, xs⟩) (hl : xs.length < 1000000) : cbody a ttrue e ρ S = .nx ρ (S2.set a ⟨false, xs ++ [d]⟩) := by
  show bindS (ttrue ρ S) ρ _ = _
  show bindS (e ρ S) ρ _ = _
  rw [h]
  simp only [bindS_ok, q]
  rw [if_pos (by simp [hl])]
theorem cmp_ok {f : Ev Src} {pk : List (Option Nat)} {g : Tg} {c : Ev Bool} {e : Ev D} {ρ ρ' : Lc} {S S1 S' : Sto} {s : Src} (h : f ρ S = .ok s S1) (l : forN s.nxt g (cbody S1.length c e) s.fuel 0 (pkS pk ρ) (S1 ++ [⟨false, []⟩]) = .nx ρ' S') : cmp f pk g c e ρ S = .ok (.lst S1.length) S' := by
  unfold cmp
  rw [h]
  simp only [bind_ok, l]
theorem ls1 {d : D} {ρ : Lc} {S : Sto} : ls (ac (cn d) an) ρ S = .ok (.lst S.length) (S ++ [⟨false, [d]⟩]) := by simp
def wt : Pl → Int
  | .c => 1
  | .p _ _ _ _ => 4
  | .e => 0
structure Wt (mid : List Pl) : Prop where
  le : 2 * (mid.map wt).sum ≤ 5 * mid.length
  la : ((Pl.e :: mid).getLast (by simp)).isC = true → 2 * (mid.map wt).sum + 3 ≤ 5 * mid.length
theorem Wt.step {mid : List Pl} {p : Pl} (h : Wt mid) (hp : p.isE = false) (hc : p.isC = true ∨ ((Pl.e :: mid).getLast (by simp)).isC = true) : Wt (mid ++ [p]) := by
  have e : ((mid ++ [p]).map wt).sum = (mid.map wt).sum + wt p := by simp
  have l : (mid ++ [p]).length = mid.length + 1 := by simp
  have g : (Pl.e :: (mid ++ [p])).getLast (by simp) = p := List.getLast_concat (l := Pl.e :: mid)
  have h1 := h.le
  cases p with
  | e => cases hp
  | c =>
    refine ⟨?_, fun _ => ?_⟩
    · rw [e, l]; show 2 * (_ + 1) ≤ _; omega
    · rw [e, l]; show 2 * (_ + 1) + 3 ≤ _; omega
  | p br de ro pr =>
    have h2 := h.la (hc.resolve_left (by intro z; cases z))
    refine ⟨?_, fun z => ?_⟩
    · rw [e, l]; show 2 * (_ + 4) ≤ _; omega
    · rw [g] at z; cases z
theorem canal_ok {S : Sto} {t k n : Nat} {most : Int} (h : Dp S t k n) (hn : n < 2 ^ 57) (hm0 : 1 ≤ most) (hm1 : most ≤ 11) : ∃ (mid : List Pl) (gs : List D) (S' : Sto), f__law_canal [.lst t, .int most] S = .ok (.tup [.tup ((.e :: (mid ++ [.e])).map Pl.toD), .tup gs]) S' ∧ (∀ p ∈ mid, p.ok ∧ p.isE = false) ∧ Wt mid ∧ 1 ≤ mid.length ∧ mid.length ≤ 11 ∧ Dp S' t k (n + 200) ∧ Kp S S' t k := by
  obtain ⟨r1, S1, e1, r10, r11, d1, k1⟩ := draw_ok (m := most) h (by omega) (by omega) (by omega)
  obtain ⟨mn, hmn⟩ : ∃ m : Nat, 1 + r1 = m := ⟨(1 + r1).toNat, by omega⟩
  have lt1 := d1.lt
  have d2 := d1.app (c := ⟨false, [.tup [.str "end"]]⟩)
  have q2 : (S1 ++ [(⟨false, [.tup [.str "end"]]⟩ : Cell)])[S1.length]? = some ⟨false, [.tup [.str "end"]]⟩ := app_at
  have k2 : Kp S1 (S1 ++ [(⟨false, [.tup [.str "end"]]⟩ : Cell)]) t k := Kp.app
  generalize hS2 : S1 ++ [(⟨false, [.tup [.str "end"]]⟩ : Cell)] = S2 at *
  obtain ⟨ρ3, S3, ef, mid, g4, g5, eρ, q3, l3, ok3, wt3, d3, k3⟩ := for_inv (nxt := (rsrc 0 mn).nxt) (g := gn 4) (b := lb__law_canal_1) (l := (List.range mn).map fun k : Nat => D.int (k : Int))
    (fun i ρ S' => ∃ mid g4 g5, ρ = [some (.lst t), some (.int most), some (.int mn), some (.lst S1.length), g4, g5, none, none] ∧ S'[S1.length]? = some ⟨false, (Pl.e :: mid).map Pl.toD⟩ ∧ mid.length = i ∧ (∀ p ∈ mid, p.ok ∧ p.isE = false) ∧ Wt mid ∧ Dp S' t k (n + 1 + 10 * i) ∧ Kp S1 S' t k)
    (fun i _ S _ => rng_get) (fun i d ρ S' hd ⟨mid, g4, g5, h1, h2, h3, h4, hw, h5, h6⟩ => by
      obtain ⟨hi, rfl⟩ := rng_of hd
      subst h1
      obtain ⟨p, S'', g5', c1, c2, c3, cc, c4, c5, c6⟩ := canal_step (S0 := S1) (q := S1.length) (most := most) (many := mn) (i := i) (g4 := g4) (g5 := g5) (ps := .e :: mid) h5 h6 (Nat.le_refl _) (by omega) (by omega) (by omega) h2 (fun p hp => by
        rcases List.mem_cons.mp hp with rfl | hp
        · trivial
        · exact (h4 p hp).1) (by simp) (by simp; omega)
      refine ⟨_, _, S'', rfl, c1, mid ++ [p], some (.int i), g5', rfl, c4, by simp [h3], fun p' hp' => ?_, hw.step c3 cc, c5.mono (by omega), c6⟩
      rcases List.mem_append.mp hp' with hp' | hp'
      · exact h4 p' hp'
      · have : p' = p := by simpa using hp'
        subst this
        exact ⟨c2, c3⟩) (mn + 1) 0 [some (.lst t), some (.int most), some (.int mn), some (.lst S1.length), none, none, none, none] S2 (Nat.zero_le _) ⟨[], none, none, rfl, q2, rfl, (fun p hp => by cases hp), ⟨by decide, fun z => nomatch z⟩, d2, k2⟩ (by simp)
  have hlen : ((List.range mn).map fun k : Nat => D.int (k : Int)).length = mn := by simp
  rw [hlen] at l3 d3
  have hd3 : n + 1 + 10 * mn ≤ n + 111 := by omega
  obtain ⟨r4, S4, e4, r40, r41, d4, k4⟩ := draw_ok (m := mn) (d3.mono hd3) (by omega) (by omega) (by omega)
  obtain ⟨tn, htn⟩ : ∃ m : Nat, 1 + r4 = m := ⟨(1 + r4).toNat, by omega⟩
  have q4 := k4.at q3 (by omega) (by omega)
  obtain ⟨bn, hbn⟩ : ∃ m : Nat, (mn : Int) + 1 - tn = m := ⟨((mn : Int) + 1 - tn).toNat, by omega⟩
  obtain ⟨gi, gs, S5, e5, q5, d5, k5, hgi⟩ : ∃ (gi : Nat) (gs : List D) (S5 : Sto), o2 addD (o2 mulD (ls (ac (cn (.str "up")) an)) (vr 6)) (o2 mulD (ls (ac (cn (.str "down")) an)) (o2 subD (o2 addD (vr 2) (cn (.int 1))) (vr 6))) [some (.lst t), some (.int most), some (.int mn), some (.lst S1.length), g4, g5, some (.int tn), none] S4 = .ok (.lst gi) S5 ∧ S5[gi]? = some ⟨false, gs⟩ ∧ Dp S5 t k (n + 112) ∧ Kp S4 S5 t k ∧ S4.length ≤ gi := by
    have m1 := mul_rep (S := S4 ++ [⟨false, [.str "up"]⟩]) (n := tn) app_at (by omega)
    have a1 := app_at (S := S4 ++ [⟨false, [D.str "up"]⟩]) (c := ⟨false, List.replicate tn (.str "up")⟩)
    have D1 := (d4.app (c := ⟨false, [.str "up"]⟩)).app (c := ⟨false, List.replicate tn (.str "up")⟩)
    have K1 : Kp S4 ((S4 ++ [⟨false, [D.str "up"]⟩]) ++ [⟨false, List.replicate tn (.str "up")⟩]) t k := Kp.app.trans Kp.app
    generalize hA : (S4 ++ [(⟨false, [.str "up"]⟩ : Cell)]).length = A at *
    have hA4 : S4.length ≤ A := by rw [← hA]; simp
    generalize (S4 ++ [(⟨false, [.str "up"]⟩ : Cell)]) ++ [⟨false, List.replicate tn (.str "up")⟩] = T1 at *
    have m2 := mul_rep (S := T1 ++ [⟨false, [.str "down"]⟩]) (n := bn) app_at (by omega)
    have a2 := app_at (S := T1 ++ [⟨false, [D.str "down"]⟩]) (c := ⟨false, List.replicate bn (.str "down")⟩)
    have a1' := app_old (c := ⟨false, List.replicate bn (.str "down")⟩) (app_old (c := ⟨false, [.str "down"]⟩) a1)
    have D2 := (D1.app (c := ⟨false, [.str "down"]⟩)).app (c := ⟨false, List.replicate bn (.str "down")⟩)
    have K2 : Kp S4 ((T1 ++ [⟨false, [D.str "down"]⟩]) ++ [⟨false, List.replicate bn (.str "down")⟩]) t k := (K1.trans Kp.app).trans Kp.app
    generalize hB : (T1 ++ [(⟨false, [.str "down"]⟩ : Cell)]).length = B at *
    generalize (T1 ++ [(⟨false, [.str "down"]⟩ : Cell)]) ++ [⟨false, List.replicate bn (.str "down")⟩] = T2 at *
    have ad := add_ll a1' a2 (by simp; omega)
    refine ⟨T2.length, List.replicate tn (.str "up") ++ List.replicate bn (.str "down"), T2 ++ [⟨false, List.replicate tn (.str "up") ++ List.replicate bn (.str "down")⟩], ?_, app_at, (D2.app).mono (by omega), K2.trans Kp.app, K2.len⟩
    simp only [o2_ap, ls1, vr_ap, cn_ap, bind_ok, List.getElem?_cons_zero, List.getElem?_cons_succ, m1, add_ii, sub_ii, hbn, m2, ad]
  obtain ⟨r6, S6, e6, r60, r61, d6, k6⟩ := draw_ok (m := 3) d5 (by omega) (by decide) (by decide)
  have lt4 := d4.lt
  have k46 : Kp S4 S6 t k := k5.trans k6
  have q6 := k46.at q4 (by omega) (by omega)
  have gi6 := k6.at q5 (by omega) (by omega)
  -- the gates drawn anew, or not
  obtain ⟨gj, gs', S7, e7, q7, d7, k7⟩ : ∃ (gj : Nat) (gs' : List D) (S7 : Sto), sif (tb (o2 eqD (cl 2 (noExc f__law_draw) (ac (vr 0) (ac (cn (.int 3)) an))) (cn (.int 0)))) (sa (cmp (ir1 (ac (o2 addD (vr 2) (cn (.int 1))) an)) [none, some 0] (gn 0) ttrue (o2 DL.getD (ls (ac (cn (.str "up")) (ac (cn (.str "down")) an))) (cl 2 (noExc f__law_draw) (ac (vr 1) (ac (cn (.int 2)) an))))) (gn 7)) DL.skip [some (.lst t), some (.int most), some (.int mn), some (.lst S1.length), g4, g5, some (.int tn), some (.lst gi)] S5 = .nx [some (.lst t), some (.int most), some (.int mn), some (.lst S1.length), g4, g5, some (.int tn), some (.lst gj)] S7 ∧ S7[gj]? = some ⟨false, gs'⟩ ∧ Dp S7 t k (n + 130) ∧ Kp S6 S7 t k := by
    by_cases c : r6 = 0
    · have lt6 := d6.lt
      obtain ⟨ρ', S7, el, g, gs', hρ, hq, hl, hd, hk⟩ := for_inv (nxt := (rsrc 0 (mn + 1)).nxt) (g := gn 0) (b := cbody S6.length ttrue (o2 DL.getD (ls (ac (cn (.str "up")) (ac (cn (.str "down")) an))) (cl 2 (noExc f__law_draw) (ac (vr 1) (ac (cn (.int 2)) an))))) (l := (List.range (mn + 1)).map fun k : Nat => D.int (k : Int))
        (fun i ρ S' => ∃ g gs', ρ = [g, some (.lst t)] ∧ S'[S6.length]? = some ⟨false, gs'⟩ ∧ gs'.length = i ∧ Dp S' t k (n + 113 + i) ∧ Kp S6 S' t k)
        (fun i _ S _ => rng_get) (fun i d ρ S' hd ⟨g, gs', h1, h2, h3, h4, h5⟩ => by
          obtain ⟨hi, rfl⟩ := rng_of hd
          subst h1
          obtain ⟨r, x, S'', p1, p2, p3, p4, p5⟩ := pick_ok (xs := [.str "up", .str "down"]) (m := 2) h4 (by omega) rfl (by simp) (by simp)
          have q'' := p5.at h2 (by omega) (by omega)
          have lq : S6.length < S''.length := (List.getElem?_eq_some_iff.mp q'').1
          refine ⟨_, _, _, rfl, cbody_ok (d := x) (S2 := S'') ?_ q'' (by omega), some (.int i), gs' ++ [x], rfl, List.getElem?_set_self lq, by simp [h3], (p4.set (by omega) (by omega)).mono (by omega), (h5.trans p5).setq (Nat.le_refl _)⟩
          simp [p1, p2]) (mn + 1 + 1) 0 [none, some (.lst t)] (S6 ++ [⟨false, []⟩]) (Nat.zero_le _) ⟨none, [], rfl, app_at, rfl, d6.app, Kp.app⟩ (by simp)
      have hln : ((List.range (mn + 1)).map fun k : Nat => D.int (k : Int)).length = mn + 1 := by simp
      rw [hln] at hd
      have hc := cmp_ok (pk := [none, some 0]) (ρ := [some (.lst t), some (.int most), some (.int mn), some (.lst S1.length), g4, g5, some (.int tn), some (.lst gi)]) (S := S6) (ir1_ok (f := ac (o2 addD (vr 2) (cn (.int 1))) an) (n := mn + 1) (by simp) (by omega)) el
      exact ⟨S6.length, gs', S7, by simp [e6, c, hc], hq, hd.mono (by omega), hk⟩
    · exact ⟨gi, gs, S6, by simp [e6, c], gi6, d6.mono (by omega), .refl⟩
  have lt6 := d6.lt
  have q7p := k7.at q6 (by omega) (by omega)
  have ad := add_ll (app_old (c := ⟨false, [.tup [.str "end"]]⟩) q7p) (app_at (S := S7) (c := ⟨false, [.tup [.str "end"]]⟩)) (by simp; omega)
  have tp1 := tup_l (app_at (S := S7 ++ [⟨false, [D.tup [.str "end"]]⟩]) (c := ⟨false, (Pl.e :: mid).map Pl.toD ++ [.tup [.str "end"]]⟩))
  have tp2 := tup_l (app_old (c := ⟨false, (Pl.e :: mid).map Pl.toD ++ [.tup [.str "end"]]⟩) (app_old (c := ⟨false, [.tup [.str "end"]]⟩) q7))
  refine ⟨mid, gs', (S7 ++ [⟨false, [.tup [.str "end"]]⟩]) ++ [⟨false, (Pl.e :: mid).map Pl.toD ++ [.tup [.str "end"]]⟩], ?_, ok3, wt3, by omega, by omega, (d7.app.app).mono (by omega), (((k1.trans k3).trans (k46.trans k7 |> fun z => (k4.trans z))).trans Kp.app).trans Kp.app⟩
  have main : ∀ fd : Fn, fd = f__law_draw → True := fun _ _ => trivial
  refine (fnB_ap (m := 8) (b := b__law_canal)).trans ?_
  show fin (b__law_canal [some (.lst t), some (.int most), none, none, none, none, none, none] S) = _
  unfold b__law_canal
  refine (fin_nx (ρ' := [some (.lst t), some (.int most), some (.int mn), none, none, none, none, none]) (S' := S1) (by rw [← hmn]; simp [e1])).trans ?_
  refine (fin_nx (ρ' := [some (.lst t), some (.int most), some (.int mn), some (.lst S1.length), none, none, none, none]) (S' := S2) (by rw [← hS2]; simp)).trans ?_
  refine (fin_nx (ρ' := ρ3) (S' := S3) ?_).trans ?_
  · rw [sfor_ap, ir1_ok (n := mn) (S' := S2) (by simp) (by omega)]
    exact ef
  rw [eρ]
  refine (fin_nx (ρ' := [some (.lst t), some (.int most), some (.int mn), some (.lst S1.length), g4, g5, some (.int tn), none]) (S' := S4) (by rw [← htn]; simp [e4])).trans ?_
  refine (fin_nx (ρ' := [some (.lst t), some (.int most), some (.int mn), some (.lst S1.length), g4, g5, some (.int tn), some (.lst gi)]) (S' := S5) (by rw [sa_ap, e5]; rfl)).trans ?_
  rw [fin_nx e7]
  have lsE : ls (ac (tp (ac (cn (.str "end")) an)) an) [some (.lst t), some (.int most), some (.int mn), some (.lst S1.length), g4, g5, some (.int tn), some (.lst gj)] S7 = .ok (.lst S7.length) (S7 ++ [⟨false, [.tup [.str "end"]]⟩]) := by simp
  have v3 : ∀ S : Sto, vr 3 [some (.lst t), some (.int most), some (.int mn), some (.lst S1.length), g4, g5, some (.int tn), some (.lst gj)] S = .ok (.lst S1.length) S := fun S => by simp
  have v7 : ∀ S : Sto, vr 7 [some (.lst t), some (.int most), some (.int mn), some (.lst S1.length), g4, g5, some (.int tn), some (.lst gj)] S = .ok (.lst gj) S := fun S => by simp
  rw [sret_ap, tp_ap, ac_ap, b1_ap, ac_ap, o2_ap, v3, bind_ok, lsE, bind_ok, ad, bind_ok, an_ap, bind_ok, bind_ok, tp1, bind_ok, ac_ap, b1_ap, ac_ap, v7, bind_ok, an_ap, bind_ok, bind_ok, tp2, bind_ok, an_ap, bind_ok, bind_ok, bind_ok]
  rw [if_pos (by simp), bindS_ok, fin_rt]
  simp [Pl.toD]
end Law
set_option Elab.async false
set_option linter.all false
set_option maxRecDepth 100000
namespace Law
open PySem PySem.Spec PyProof.Rows L2 DL
def vOk (cr : Int) (p : Pl) (l r f : Int) : Prop := 0 ≤ l ∧ 0 ≤ r ∧ 0 ≤ f ∧ match p with
  | .e => l = 0 ∧ r ≤ cr ∧ f ≤ cr
  | .c => l ≤ 1 ∧ r + f ≤ 1
  | .p br _ ro _ => l ≤ br ∧ r + f ≤ ro
structure Rows (S : Sto) (a : Nat) (L R F : List Int) : Prop where
  r0 : S[a]? = some ⟨false, L.map D.int⟩
  r1 : S[a + 1]? = some ⟨false, R.map D.int⟩
  r2 : S[a + 2]? = some ⟨false, F.map D.int⟩
  r3 : S[a + 3]? = some ⟨false, [.lst a, .lst (a + 1), .lst (a + 2)]⟩
theorem Rows.kp {S S' : Sto} {a t k : Nat} {L R F : List Int} (h : Rows S a L R F) (kp : Kp S S' t k) (ht : t < a) (hk : k < a) : Rows S' a L R F :=
  ⟨kp.at h.r0 (by omega) (by omega), kp.at h.r1 (by omega) (by omega), kp.at h.r2 (by omega) (by omega), kp.at h.r3 (by omega) (by omega)⟩
def st_app : Sv := (sq (sx (mt appD (o2 DL.getD (vr 3) (cn (.int 0))) (ac (vr 5) an)))
    (sq (sx (mt appD (o2 DL.getD (vr 3) (cn (.int 1))) (ac (vr 6) an)))
    (sx (mt appD (o2 DL.getD (vr 3) (cn (.int 2))) (ac (vr 7) an)))))
theorem app3 {S0 S : Sto} {t k n a : Nat} {x0 x1 x2 x4 x8 : Option D} {l r f : Int} {L R F : List Int} (h : Rows S a L R F) (hL : L.length < 1000) (hR : R.length < 1000) (hF : F.length < 1000) (d : Dp S t k n) (kp : Kp S0 S t k) (ht : t < a) (hk : k < a) (h0 : S0.length ≤ a) :
    ∃ S', st_app [x0, x1, x2, some (.lst (a + 3)), x4, some (.int l), some (.int r), some (.int f), x8] S = .nx [x0, x1, x2, some (.lst (a + 3)), x4, some (.int l), some (.int r), some (.int f), x8] S' ∧ Rows S' a (L ++ [l]) (R ++ [r]) (F ++ [f]) ∧ Dp S' t k n ∧ Kp S0 S' t k := by
  have l0 : a < S.length := (List.getElem?_eq_some_iff.mp h.r0).1
  have l1 : a + 1 < S.length := (List.getElem?_eq_some_iff.mp h.r1).1
  have l2 : a + 2 < S.length := (List.getElem?_eq_some_iff.mp h.r2).1
  have g0 : DL.getD (.lst (a + 3)) (.int 0) S = .ok (.lst a) S := get_l h.r3 rfl
  have p0 := app_l (d := .int l) h.r0 (by simp; omega)
  -- behind the first
  have a0 : (S.set a ⟨false, L.map D.int ++ [.int l]⟩)[a]? = some ⟨false, L.map D.int ++ [.int l]⟩ := List.getElem?_set_self l0
  have a1 : (S.set a ⟨false, L.map D.int ++ [.int l]⟩)[a + 1]? = some ⟨false, R.map D.int⟩ := by rw [List.getElem?_set_ne (by omega)]; exact h.r1
  have a2 : (S.set a ⟨false, L.map D.int ++ [.int l]⟩)[a + 2]? = some ⟨false, F.map D.int⟩ := by rw [List.getElem?_set_ne (by omega)]; exact h.r2
  have a3 : (S.set a ⟨false, L.map D.int ++ [.int l]⟩)[a + 3]? = some ⟨false, [.lst a, .lst (a + 1), .lst (a + 2)]⟩ := by rw [List.getElem?_set_ne (by omega)]; exact h.r3
  have d1 := d.set (q := a) (c := ⟨false, L.map D.int ++ [.int l]⟩) (by omega) (by omega)
  have k1 := kp.setq (q := a) (c := ⟨false, L.map D.int ++ [.int l]⟩) h0
  have m1 : a + 1 < (S.set a ⟨false, L.map D.int ++ [.int l]⟩).length := by simp; omega
  generalize S.set a ⟨false, L.map D.int ++ [.int l]⟩ = S1 at *
  have g1 : DL.getD (.lst (a + 3)) (.int 1) S1 = .ok (.lst (a + 1)) S1 := get_l a3 rfl
  have p1 := app_l (d := .int r) a1 (by simp; omega)
  have b0 : (S1.set (a + 1) ⟨false, R.map D.int ++ [.int r]⟩)[a]? = some ⟨false, L.map D.int ++ [.int l]⟩ := by rw [List.getElem?_set_ne (by omega)]; exact a0
  have b1 : (S1.set (a + 1) ⟨false, R.map D.int ++ [.int r]⟩)[a + 1]? = some ⟨false, R.map D.int ++ [.int r]⟩ := List.getElem?_set_self m1
  have b2 : (S1.set (a + 1) ⟨false, R.map D.int ++ [.int r]⟩)[a + 2]? = some ⟨false, F.map D.int⟩ := by rw [List.getElem?_set_ne (by omega)]; exact a2
  have b3 : (S1.set (a + 1) ⟨false, R.map D.int ++ [.int r]⟩)[a + 3]? = some ⟨false, [.lst a, .lst (a + 1), .lst (a + 2)]⟩ := by rw [List.getElem?_set_ne (by omega)]; exact a3
  have d2 := d1.set (q := a + 1) (c := ⟨false, R.map D.int ++ [.int r]⟩) (by omega) (by omega)
  have k2 := k1.setq (q := a + 1) (c := ⟨false, R.map D.int ++ [.int r]⟩) (by omega)
  have m2 : a + 2 < (S1.set (a + 1) ⟨false, R.map D.int ++ [.int r]⟩).length := (List.getElem?_eq_some_iff.mp b2).1
  generalize S1.set (a + 1) ⟨false, R.map D.int ++ [.int r]⟩ = S2 at *
  have g2 : DL.getD (.lst (a + 3)) (.int 2) S2 = .ok (.lst (a + 2)) S2 := get_l b3 rfl
  have p2 := app_l (d := .int f) b2 (by simp; omega)
  refine ⟨S2.set (a + 2) ⟨false, F.map D.int ++ [.int f]⟩, ?_, ⟨?_, ?_, ?_, ?_⟩, d2.set (by omega) (by omega), k2.setq (by omega)⟩
  · unfold st_app
    simp [g0, isL h.r0, p0, g1, isL a1, p1, g2, isL b2, p2]
  · rw [List.getElem?_set_ne (by omega), b0]; simp
  · rw [List.getElem?_set_ne (by omega), b1]; simp
  · rw [List.getElem?_set_self m2]; simp
  · rw [List.getElem?_set_ne (by omega)]; exact b3
theorem s1 {S : Sto} : eqD (.str "end") (.str "chamber") S = .ok (.bl false) S := by rw [eq_ss (stok _) (stok _)]; rfl
theorem s2 {S : Sto} : eqD (.str "end") (.str "pound") S = .ok (.bl false) S := by rw [eq_ss (stok _) (stok _)]; rfl
theorem s3 {S : Sto} : eqD (.str "chamber") (.str "chamber") S = .ok (.bl true) S := by rw [eq_ss (stok _) (stok _)]; rfl
theorem s4 {S : Sto} : eqD (.str "chamber") (.str "pound") S = .ok (.bl false) S := by rw [eq_ss (stok _) (stok _)]; rfl
theorem s5 {S : Sto} : eqD (.str "pound") (.str "chamber") S = .ok (.bl false) S := by rw [eq_ss (stok _) (stok _)]; rfl
theorem s6 {S : Sto} : eqD (.str "pound") (.str "pound") S = .ok (.bl true) S := by rw [eq_ss (stok _) (stok _)]; rfl
theorem s7 {S : Sto} : eqD (.str "end") (.str "end") S = .ok (.bl true) S := by rw [eq_ss (stok _) (stok _)]; rfl
theorem s8 {S : Sto} : eqD (.str "chamber") (.str "end") S = .ok (.bl false) S := by rw [eq_ss (stok _) (stok _)]; rfl
theorem s9 {S : Sto} : eqD (.str "pound") (.str "end") S = .ok (.bl false) S := by rw [eq_ss (stok _) (stok _)]; rfl
theorem p0e {S : Sto} {l : List D} {d : D} : DL.getD (.tup (d :: l)) (.int 0) S = .ok d S := get_t (atI_nn (by decide) rfl)
theorem p1e {S : Sto} {l : List D} {d e : D} : DL.getD (.tup (e :: d :: l)) (.int 1) S = .ok d S := get_t (atI_nn (by decide) rfl)
theorem p3e {S : Sto} {l : List D} {a b c d : D} : DL.getD (.tup (a :: b :: c :: d :: l)) (.int 3) S = .ok d S := get_t (atI_nn (by decide) rfl)
theorem int_b {b : Bool} {S : Sto} : intD [.bl b] S = .ok (.int (if b then 1 else 0)) S := id rfl
theorem stand_step {S0 S : Sto} {t k n a : Nat} {cr : Int} {cn' : D} {g5 g6 g7 g8 : Option D} {p : Pl} {L R F : List Int} (h : Rows S a L R F) (hL : L.length < 1000) (hR : R.length < 1000) (hF : F.length < 1000) (d : Dp S t k n) (kp : Kp S0 S t k) (ht : t < a) (hk : k < a) (h0 : S0.length ≤ a) (hp : p.ok) (hc : 0 ≤ cr) (hc2 : cr ≤ 1000) (hn : n < 2 ^ 58) :
    ∃ l r f g8' S', lb__law_stand_1 [some (.lst t), some cn', some (.int cr), some (.lst (a + 3)), some p.toD, g5, g6, g7, g8] S = .nx [some (.lst t), some cn', some (.int cr), some (.lst (a + 3)), some p.toD, some (.int l), some (.int r), some (.int f), g8'] S' ∧ vOk cr p l r f ∧ Rows S' a (L ++ [l]) (R ++ [r]) (F ++ [f]) ∧ Dp S' t k (n + 6) ∧ Kp S0 S' t k := by
  obtain ⟨r1, S1, e1, r10, r11, d1, k1⟩ := draw_ok (m := cr + 1) d (by omega) (by omega) (by omega)
  obtain ⟨r2, S2, e2, r20, r21, d2, k2⟩ := draw_ok (m := cr + 1) d1 (by omega) (by omega) (by omega)
  have st1 : ∀ (G : Sv), (sq (sa (cn (.int 0)) (gn 5)) (sq (sa (cl 2 (noExc f__law_draw) (ac (vr 0) (ac (o2 addD (vr 2) (cn (.int 1))) an))) (gn 6)) (sq (sa (cl 2 (noExc f__law_draw) (ac (vr 0) (ac (o2 addD (vr 2) (cn (.int 1))) an))) (gn 7)) G))) [some (.lst t), some cn', some (.int cr), some (.lst (a + 3)), some p.toD, g5, g6, g7, g8] S = G [some (.lst t), some cn', some (.int cr), some (.lst (a + 3)), some p.toD, some (.int 0), some (.int r1), some (.int r2), g8] S2 := fun G => by
    simp [e1, e2]
  unfold lb__law_stand_1
  rw [st1]
  cases p with
  | e =>
    obtain ⟨S', q1, q2, q3, q4⟩ := app3 (x0 := some (.lst t)) (x1 := some cn') (x2 := some (.int cr)) (x4 := some (Pl.toD .e)) (x8 := g8) (l := 0) (r := r1) (f := r2) (h.kp (k1.trans k2) ht hk) hL hR hF d2 (kp.trans (k1.trans k2)) ht hk h0
    refine ⟨0, r1, r2, g8, S', ?_, ⟨by decide, r10, r20, rfl, by omega, by omega⟩, q2, q3.mono (by omega), q4⟩
    rw [← q1]
    simp only [sq_ap, sif_ap, tb_ap, o2_ap, vr_ap, cn_ap, bind_ok, List.getElem?_cons_zero, List.getElem?_cons_succ, Pl.toD, p0e, s1, s2, bindS_ok, Bool.false_eq_true, if_false, skip_ap]
    rfl
  | c =>
    obtain ⟨r3, S3, e3, r30, r31, d3, k3⟩ := draw_ok (m := 2) d2 (by omega) (by decide) (by decide)
    obtain ⟨r4, S4, e4, r40, r41, d4, k4⟩ := draw_ok (m := 4) d3 (by omega) (by decide) (by decide)
    have kk := k1.trans (k2.trans (k3.trans k4))
    obtain ⟨S', q1, q2, q3, q4⟩ := app3 (x0 := some (.lst t)) (x1 := some cn') (x2 := some (.int cr)) (x4 := some (Pl.toD .c)) (x8 := some (.int r4)) (l := r3) (r := if r4 = 1 then 1 else 0) (f := if r4 = 2 then 1 else 0) (h.kp kk ht hk) hL hR hF d4 (kp.trans kk) ht hk h0
    refine ⟨r3, if r4 = 1 then 1 else 0, if r4 = 2 then 1 else 0, some (.int r4), S', ?_, ⟨r30, by split <;> decide, by split <;> decide, by omega, by split <;> split <;> omega⟩, q2, q3.mono (by omega), q4⟩
    rw [← q1]
    have i1 : ∀ x : Int, (if decide (r4 = x) = true then (1 : Int) else 0) = if r4 = x then 1 else 0 := fun x => by by_cases z : r4 = x <;> simp [z]
    simp only [sq_ap, sif_ap, tb_ap, o2_ap, vr_ap, cn_ap, bind_ok, List.getElem?_cons_zero, List.getElem?_cons_succ, Pl.toD, p0e, s3, s4, bindS_ok, if_true, sa_ap, cl_ap, ac_ap, an_ap, List.length_cons, List.length_nil, noExc_ap, e3, e4, gn_ap, b1_ap, eq_ii, int_b, i1, Bool.false_eq_true, if_false, skip_ap, List.set_cons_zero, List.set_cons_succ]
    rfl
  | p br de ro pr =>
    obtain ⟨hb0, hb1, _, _, ho0, ho1, _⟩ := hp
    obtain ⟨r3, S3, e3, r30, r31, d3, k3⟩ := draw_ok (m := br + 1) d2 (by omega) (by omega) (by omega)
    obtain ⟨r4, x4, S4, e4, p4, m4, d4, k4⟩ := pick_ok (xs := [.int 0, .int br, .int r3]) (m := 3) d3 (by omega) rfl (by simp) (by simp)
    obtain ⟨l, hl, l0, l1⟩ : ∃ i : Int, x4 = .int i ∧ 0 ≤ i ∧ i ≤ br := by
      simp only [List.mem_cons, List.mem_nil_iff, or_false] at m4
      rcases m4 with rfl | rfl | rfl
      · exact ⟨_, rfl, by omega, by omega⟩
      · exact ⟨_, rfl, by omega, by omega⟩
      · exact ⟨_, rfl, by omega, by omega⟩
    subst hl
    obtain ⟨r5, S5, e5, r50, r51, d5, k5⟩ := draw_ok (m := ro + 1) d4 (by omega) (by omega) (by omega)
    obtain ⟨r6, S6, e6, r60, r61, d6, k6⟩ := draw_ok (m := ro - r5 + 1) d5 (by omega) (by omega) (by omega)
    have kk := k1.trans (k2.trans (k3.trans (k4.trans (k5.trans k6))))
    obtain ⟨S', q1, q2, q3, q4⟩ := app3 (x0 := some (.lst t)) (x1 := some cn') (x2 := some (.int cr)) (x4 := some (Pl.toD (.p br de ro pr))) (x8 := g8) (l := l) (r := r5) (f := r6) (h.kp kk ht hk) hL hR hF d6 (kp.trans kk) ht hk h0
    refine ⟨l, r5, r6, g8, S', ?_, ⟨l0, r50, r60, l1, by omega⟩, q2, q3, q4⟩
    rw [← q1]
    have lsE : ∀ S : Sto, ls (ac (cn (.int 0)) (ac (cn (.int br)) (ac (cn (.int r3)) an))) [] S = .ok (.lst S.length) (S ++ [⟨false, [.int 0, .int br, .int r3]⟩]) := fun S => by simp
    simp only [sq_ap, sif_ap, tb_ap, o2_ap, vr_ap, cn_ap, bind_ok, List.getElem?_cons_zero, List.getElem?_cons_succ, Pl.toD, p0e, p1e, p3e, s5, s6, bindS_ok, if_true, sa_ap, cl_ap, ac_ap, an_ap, ls_ap, List.length_cons, List.length_nil, noExc_ap, add_ii, sub_ii, e3, gn_ap, Bool.false_eq_true, if_false, skip_ap, List.set_cons_zero, List.set_cons_succ]
    simp only [Nat.reduceAdd, Nat.reduceLeDiff, if_true, bind_ok, e4, p4, bindS_ok, p3e, add_ii, sub_ii, List.length_cons, List.length_nil, e5, e6, List.set_cons_zero, List.set_cons_succ, List.getElem?_cons_zero, List.getElem?_cons_succ]
    rfl
end Law
set_option Elab.async false
set_option linter.all false
set_option maxRecDepth 100000
namespace Law
open PySem PySem.Spec PyProof.Rows L2 DL
structure StR (cr : Int) (ps : List Pl) (L R F : List Int) : Prop where
  lL : L.length = ps.length
  lR : R.length = ps.length
  lF : F.length = ps.length
  at' : ∀ (i : Nat) (p : Pl), ps[i]? = some p → ∃ l r f, L[i]? = some l ∧ R[i]? = some r ∧ F[i]? = some f ∧ vOk cr p l r f
def stD (L R F : List Int) : D := .tup [.tup (L.map D.int), .tup (R.map D.int), .tup (F.map D.int)]
theorem stand_ok {S : Sto} {t k n : Nat} {cr : Int} {ps : List Pl} {gd : D} (h : Dp S t k n) (hn : n < 2 ^ 57) (hp : ∀ p ∈ ps, p.ok) (hl : ps.length ≤ 13) (hc : 0 ≤ cr) (hc2 : cr ≤ 1000) :
    ∃ (L R F : List Int) (S' : Sto), f__law_stand [.lst t, .tup [.tup (ps.map Pl.toD), gd], .int cr] S = .ok (stD L R F) S' ∧ StR cr ps L R F ∧ Dp S' t k (n + 100) ∧ Kp S S' t k := by
  have lt := h.lt
  have e1 : ls (ac (ls an) (ac (ls an) (ac (ls an) an))) [some (.lst t), some (.tup [.tup (ps.map Pl.toD), gd]), some (.int cr), none, none, none, none, none, none] S = .ok (.lst (S.length + 3)) (S ++ [⟨false, []⟩, ⟨false, []⟩, ⟨false, []⟩, ⟨false, [.lst S.length, .lst (S.length + 1), .lst (S.length + 2)]⟩]) := by simp
  have w : ∀ j : Nat, (S ++ [(⟨false, []⟩ : Cell), ⟨false, []⟩, ⟨false, []⟩, ⟨false, [.lst S.length, .lst (S.length + 1), .lst (S.length + 2)]⟩])[S.length + j]? = [(⟨false, []⟩ : Cell), ⟨false, []⟩, ⟨false, []⟩, ⟨false, [.lst S.length, .lst (S.length + 1), .lst (S.length + 2)]⟩][j]? := fun j => by
    rw [List.getElem?_append_right (by omega)]
    congr 1
    omega
  have rw0 : Rows (S ++ [⟨false, []⟩, ⟨false, []⟩, ⟨false, []⟩, ⟨false, [.lst S.length, .lst (S.length + 1), .lst (S.length + 2)]⟩]) S.length [] [] [] := ⟨w 0, w 1, w 2, w 3⟩
  have d1 : Dp (S ++ [⟨false, []⟩, ⟨false, []⟩, ⟨false, []⟩, ⟨false, [.lst S.length, .lst (S.length + 1), .lst (S.length + 2)]⟩]) t k n := by
    have := (((h.app (c := ⟨false, []⟩)).app (c := ⟨false, []⟩)).app (c := ⟨false, []⟩)).app (c := ⟨false, [.lst S.length, .lst (S.length + 1), .lst (S.length + 2)]⟩)
    simpa using this
  have k1 : Kp S (S ++ [⟨false, []⟩, ⟨false, []⟩, ⟨false, []⟩, ⟨false, [.lst S.length, .lst (S.length + 1), .lst (S.length + 2)]⟩]) t k := ⟨by simp, fun i hi _ _ => by rw [List.getElem?_append_left hi]⟩
  generalize S ++ [(⟨false, []⟩ : Cell), ⟨false, []⟩, ⟨false, []⟩, ⟨false, [.lst S.length, .lst (S.length + 1), .lst (S.length + 2)]⟩] = S1 at *
  obtain ⟨ρ', S2, ef, L, R, F, g4, g5, g6, g7, g8, eρ, hrw, l1, l2, l3, hat, d2, k2⟩ := for_inv (nxt := (srcT (ps.map Pl.toD)).nxt) (g := gn 4) (b := lb__law_stand_1) (l := ps.map Pl.toD)
    (fun i ρ S' => ∃ L R F g4 g5 g6 g7 g8, ρ = [some (.lst t), some (.tup [.tup (ps.map Pl.toD), gd]), some (.int cr), some (.lst (S.length + 3)), g4, g5, g6, g7, g8] ∧ Rows S' S.length L R F ∧ L.length = i ∧ R.length = i ∧ F.length = i ∧ (∀ (j : Nat) (p : Pl), j < i → ps[j]? = some p → ∃ l r f, L[j]? = some l ∧ R[j]? = some r ∧ F[j]? = some f ∧ vOk cr p l r f) ∧ Dp S' t k (n + 6 * i) ∧ Kp S S' t k)
    (fun _ _ _ _ => rfl) (fun i d ρ S' hd ⟨L, R, F, g4, g5, g6, g7, g8, h1, h2, h3, h4, h5, h6, h7, h8⟩ => by
      rw [List.getElem?_map] at hd
      cases hp' : ps[i]? with
      | none => rw [hp'] at hd; cases hd
      | some p =>
        rw [hp'] at hd
        cases (Option.some.inj hd)
        subst h1
        have hi : i < ps.length := (List.getElem?_eq_some_iff.mp hp').1
        obtain ⟨l, r, f, g8', S'', c1, c2, c3, c4, c5⟩ := stand_step (S0 := S) (cn' := .tup [.tup (ps.map Pl.toD), gd]) (g5 := g5) (g6 := g6) (g7 := g7) (g8 := g8) (p := p) h2 (by omega) (by omega) (by omega) h7 h8 (by omega) (by omega) (Nat.le_refl _) (hp p (List.mem_of_getElem? hp')) hc hc2 (by omega)
        refine ⟨_, _, S'', rfl, c1, L ++ [l], R ++ [r], F ++ [f], _, _, _, _, _, rfl, c3, by simp [h3], by simp [h4], by simp [h5], fun j q hj hq => ?_, c4.mono (by omega), c5⟩
        by_cases hji : j < i
        · obtain ⟨l', r', f', a1, a2, a3, a4⟩ := h6 j q hji hq
          exact ⟨l', r', f', by rw [List.getElem?_append_left (by omega)]; exact a1, by rw [List.getElem?_append_left (by omega)]; exact a2, by rw [List.getElem?_append_left (by omega)]; exact a3, a4⟩
        · have : j = i := by omega
          subst this
          rw [hp'] at hq
          cases hq
          exact ⟨l, r, f, by rw [List.getElem?_append_right (by omega)]; simp [h3], by rw [List.getElem?_append_right (by omega)]; simp [h4], by rw [List.getElem?_append_right (by omega)]; simp [h5], c2⟩) (srcT (ps.map Pl.toD)).fuel 0 [some (.lst t), some (.tup [.tup (ps.map Pl.toD), gd]), some (.int cr), some (.lst (S.length + 3)), none, none, none, none, none] S1 (Nat.zero_le _) ⟨[], [], [], none, none, none, none, none, rfl, rw0, rfl, rfl, rfl, (fun j p hj => by omega), d1, k1⟩ fuelT
  have hm : (ps.map Pl.toD).length = ps.length := by simp
  rw [hm] at l1 l2 l3 hat d2
  have g0 : DL.getD (.lst (S.length + 3)) (.int 0) S2 = .ok (.lst S.length) S2 := get_l hrw.r3 rfl
  have g1 : DL.getD (.lst (S.length + 3)) (.int 1) S2 = .ok (.lst (S.length + 1)) S2 := get_l hrw.r3 rfl
  have g2 : DL.getD (.lst (S.length + 3)) (.int 2) S2 = .ok (.lst (S.length + 2)) S2 := get_l hrw.r3 rfl
  have t0 := tup_l hrw.r0
  have t1 := tup_l hrw.r1
  have t2 := tup_l hrw.r2
  refine ⟨L, R, F, S2, ?_, ⟨l1, l2, l3, fun i p hp' => hat i p (List.getElem?_eq_some_iff.mp hp').1 hp'⟩, d2.mono (by omega), k2⟩
  refine (fnB_ap (m := 9) (b := b__law_stand)).trans ?_
  show fin (b__law_stand [some (.lst t), some (.tup [.tup (ps.map Pl.toD), gd]), some (.int cr), none, none, none, none, none, none] S) = _
  unfold b__law_stand
  refine (fin_nx (ρ' := [some (.lst t), some (.tup [.tup (ps.map Pl.toD), gd]), some (.int cr), some (.lst (S.length + 3)), none, none, none, none, none]) (S' := S1) (by rw [sa_ap, e1]; rfl)).trans ?_
  refine (fin_nx (ρ' := ρ') (S' := S2) ?_).trans ?_
  · rw [sfor_ap, isrc_ap, o2_ap]
    simp only [vr_ap, cn_ap, bind_ok, List.getElem?_cons_zero, List.getElem?_cons_succ, p0e, src_t, bindS_ok]
    exact ef
  · rw [eρ]
    simp [g0, g1, g2, t0, t1, t2, stD]
end Law
set_option Elab.async false
set_option linter.all false
set_option maxRecDepth 100000
namespace Law
open PySem PySem.Spec PyProof.Rows L2 DL
structure Ex (S S' : Sto) : Prop where
  len : S.length ≤ S'.length
  get : ∀ i, i < S.length → S'[i]? = S[i]?
theorem Ex.refl {S : Sto} : Ex S S := ⟨Nat.le_refl _, fun _ _ => rfl⟩
theorem Ex.trans {S S1 S2 : Sto} (a : Ex S S1) (b : Ex S1 S2) : Ex S S2 := ⟨Nat.le_trans a.len b.len, fun i h => (b.get i (Nat.lt_of_lt_of_le h a.len)).trans (a.get i h)⟩
theorem Ex.app {S : Sto} {c : Cell} : Ex S (S ++ [c]) := ⟨by simp, fun i h => by rw [List.getElem?_append_left h]⟩
theorem Ex.setq {S0 S : Sto} {q : Nat} {c : Cell} (a : Ex S0 S) (h : S0.length ≤ q) : Ex S0 (S.set q c) := ⟨by simp; exact a.len, fun i hi => by rw [List.getElem?_set_ne (by omega)]; exact a.get i hi⟩
theorem Ex.kp {S S' : Sto} {t k : Nat} (a : Ex S S') : Kp S S' t k := ⟨a.len, fun i h _ _ => a.get i h⟩
theorem Ex.at {S S' : Sto} {q : Nat} {c : Cell} (a : Ex S S') (e : S[q]? = some c) : S'[q]? = some c := (a.get q (List.getElem?_eq_some_iff.mp e).1).trans e
theorem Dp.ext {S S' : Sto} {t k n : Nat} (h : Dp S t k n) (x : Ex S S') : Dp S' t k n := by
  obtain ⟨⟨a, b, xs, e1, e2, h⟩, ne⟩ := h
  exact ⟨⟨a, b, xs, x.at e1, x.at e2, h⟩, ne⟩
theorem bls_map : ∀ bs : List Bool, blsOf (bs.map D.bl) = some bs
  | [] => rfl
  | b :: r => by
    show (match blsOf (r.map D.bl) with | some r => some (b :: r) | none => none) = _
    rw [bls_map r]
theorem all_l {S : Sto} {i : Nat} {bs : List Bool} (e : S[i]? = some ⟨false, bs.map D.bl⟩) : allD [.lst i] S = .ok (.bl (bs.all id)) S := by
  simp only [allD, e, bls_map]
theorem all_comp {l : List D} {pk : List (Option Nat)} {e : Ev D} {ρ : Lc} {f : Ev D} {S : Sto} (rest : Lc) (v : D → Bool) (hf : f ρ S = .ok (.tup l) S) (hp : pkS pk ρ = none :: rest) (hl : l.length < 1000)
    (he : ∀ d ∈ l, ∀ S' : Sto, Ex S S' → ∃ S'', e (some d :: rest) S' = .ok (.bl (v d)) S'' ∧ Ex S' S'') :
    ∃ S', (cmp (isrc f) pk (gn 0) ttrue e ρ S).bind (fun x S1 => allD [x] S1) = .ok (.bl (l.all v)) S' ∧ Ex S S' := by
  obtain ⟨ρ', S', el, g, hρ, hq, hx⟩ := for_inv (nxt := (srcT l).nxt) (g := gn 0) (b := cbody S.length ttrue e) (l := l)
    (fun i ρ S' => ∃ g, ρ = g :: rest ∧ S'[S.length]? = some ⟨false, ((l.take i).map v).map D.bl⟩ ∧ Ex S S')
    (fun _ _ _ _ => rfl) (fun i d ρ S' hd ⟨g, h1, h2, h3⟩ => by
      subst h1
      have hi : i < l.length := (List.getElem?_eq_some_iff.mp hd).1
      obtain ⟨S'', e1, e2⟩ := he d (List.mem_of_getElem? hd) S' h3
      have q'' := e2.at h2
      have lq : S.length < S''.length := (List.getElem?_eq_some_iff.mp q'').1
      refine ⟨_, _, _, rfl, cbody_ok e1 q'' (by simp; omega), some d, rfl, ?_, (h3.trans e2).setq (Nat.le_refl _)⟩
      rw [List.getElem?_set_self lq]
      have : l.take (i + 1) = l.take i ++ [d] := by rw [List.take_add_one, hd]; rfl
      rw [this]
      simp) (srcT l).fuel 0 (none :: rest) (S ++ [⟨false, []⟩]) (Nat.zero_le _) ⟨none, rfl, by simp [app_at], Ex.app⟩ fuelT
  rw [List.take_length] at hq
  have hc := cmp_ok (pk := pk) (ρ := ρ) (S := S) (f := isrc f) (s := srcT l) (S1 := S) (by rw [isrc_ap, hf]; rfl) (by rw [hp]; exact el)
  refine ⟨S', ?_, hx⟩
  rw [hc, bind_ok, all_l hq]
  simp [List.all_map]
def isInt : D → Bool
  | .int _ => true
  | _ => false
theorem whole_ok {x : D} {S : Sto} : f_is_whole [x] S = .ok (.bl (isInt x)) S := by
  cases x <;> simp [f_is_whole, fnB, b_is_whole, isD, isT, tyN, isInt]
theorem lwhole_ok {x : D} {S : Sto} : f__law_whole [x] S = .ok (.bl (isInt x)) S := by
  cases x <;> simp [f__law_whole, fnB, b__law_whole, isD, isT, tyN, isInt]
def nnI : D → Bool
  | .int i => decide (0 ≤ i)
  | _ => false
def isT' (m : Nat) : D → Bool
  | .tup l => l.length == m
  | _ => false
theorem tuple_ok {x : D} {m : Nat} {S : Sto} : f_is_tuple [x, .int m] S = .ok (.bl (isT' m x)) S := by
  cases x with
  | tup l =>
    by_cases h : l.length = m
    · simp [f_is_tuple, fnB, b_is_tuple, isD, isT, tyN, isT', h]
    · have h' : ¬ (l.length : Int) = m := by omega
      simp [f_is_tuple, fnB, b_is_tuple, isD, isT, tyN, isT', h, h']
  | _ => simp [f_is_tuple, fnB, b_is_tuple, isD, isT, tyN, isT']
def cnt (m : Nat) : D → Bool
  | .tup l => l.length == m && l.all nnI
  | _ => false
theorem counts_ok {x : D} {m : Nat} {S : Sto} (hm : m < 1000) : ∃ S', f_are_counts [x, .int m] S = .ok (.bl (cnt m x)) S' ∧ Ex S S' := by
  have tw := fun S => tuple_ok (x := x) (m := m) (S := S)
  by_cases c : isT' m x = true
  · cases x with
    | tup l =>
      have hl : l.length = m := by simpa [isT'] using c
      obtain ⟨S', e1, e2⟩ := all_comp (l := l) (pk := [none]) (e := va (cl 1 (noExc f_is_whole) (ac (vr 0) an)) (o2 geD (vr 0) (cn (.int 0)))) (ρ := [some (.tup l), some (.int m)]) (f := vr 0) (S := S) [] nnI (by simp) rfl (by omega) fun d _ S' _ => by
        refine ⟨S', ?_, .refl⟩
        have w := fun S => whole_ok (x := d) (S := S)
        cases d <;> simp [w, isInt, nnI]
      refine ⟨S', ?_, e2⟩
      refine (fnB_ap (m := 2) (b := b_are_counts)).trans ?_
      show fin (b_are_counts [some (.tup l), some (.int m)] S) = _
      unfold b_are_counts
      have e1' : b1 allD (ac (cmp (isrc (vr 0)) [none] (gn 0) ttrue (va (cl 1 (noExc f_is_whole) (ac (vr 0) an)) (o2 geD (vr 0) (cn (.int 0))))) an) [some (.tup l), some (.int m)] S = .ok (.bl (l.all nnI)) S' := by
        rw [b1_ap, ac_ap, ← e1]
        cases z : cmp (isrc (vr 0)) [none] (gn 0) ttrue (va (cl 1 (noExc f_is_whole) (ac (vr 0) an)) (o2 geD (vr 0) (cn (.int 0)))) [some (.tup l), some (.int m)] S with
        | ok d S1 => simp
        | exc x S1 => rfl
        | bad => rfl
      have hc : cnt m (.tup l) = l.all nnI := by simp [cnt, hl]
      rw [sret_ap, va_ap, hc]
      simp only [cl_ap, noExc_ap, ac_ap, an_ap, vr_ap, bind_ok, List.getElem?_cons_zero, List.getElem?_cons_succ, List.length_cons, List.length_nil, Nat.reduceAdd, if_true, tw, c, e1', bindS_ok, fin_rt]
    | _ => cases c
  · have c : isT' m x = false := by simpa using c
    have hc : cnt m x = false := by
      cases x with
      | tup l =>
        have : ¬ l.length = m := by simpa [isT'] using c
        simp [cnt, this]
      | _ => rfl
    refine ⟨S, ?_, .refl⟩
    rw [hc]
    simp [f_are_counts, fnB, b_are_counts, tw, c]
def wat : Pl → Int
  | .e => 0
  | .c => 1
  | .p br _ _ _ => br
theorem water_ok {p : Pl} {S : Sto} (h : p.ok) : f_most_water [p.toD] S = .ok (.int (wat p)) S := by
  have e1 := fun S => eq_end (S := S) h
  have e2 := fun S => eq_cham (S := S) h
  cases p with
  | e => simp [f_most_water, fnB, b_most_water, c_END, c_CHAMBER, e1, Pl.isE, wat]
  | c => simp [f_most_water, fnB, b_most_water, c_END, c_CHAMBER, e1, e2, Pl.isE, Pl.isC, wat]
  | p br de ro pr =>
    have g : ∀ S, DL.getD (Pl.toD (.p br de ro pr)) (.int 1) S = .ok (.int br) S := fun S => p1e
    simp [f_most_water, fnB, b_most_water, c_END, c_CHAMBER, e1, e2, Pl.isE, Pl.isC, wat, g]
def hol : Pl → Int → Bool
  | .e, _ => true
  | .c, b => decide (b ≤ 1)
  | .p _ _ ro _, b => decide (b ≤ ro)
theorem holds_ok {p : Pl} {b : Int} {S : Sto} (h : p.ok) : f_holds [p.toD, .int b] S = .ok (.bl (hol p b)) S := by
  have e1 := fun S => eq_end (S := S) h
  have e2 := fun S => eq_cham (S := S) h
  cases p with
  | e => simp [f_holds, fnB, b_holds, c_END, c_CHAMBER, e1, Pl.isE, hol]
  | c => simp [f_holds, fnB, b_holds, c_END, c_CHAMBER, e1, e2, Pl.isE, Pl.isC, hol]
  | p br de ro pr =>
    have g : ∀ S, DL.getD (Pl.toD (.p br de ro pr)) (.int 3) S = .ok (.int ro) S := fun S => p3e
    simp [f_holds, fnB, b_holds, c_END, c_CHAMBER, e1, e2, Pl.isE, Pl.isC, hol, g]
end Law
set_option Elab.async false
set_option linter.all false
set_option maxRecDepth 100000
namespace Law
open PySem PySem.Spec PyProof.Rows L2 DL
theorem for_chk {nxt : Nat → Sto → Option D} {g : Tg} {b : Sv} {l : List D} (gd : Nat → D → Bool) (I : Nat → Lc → Sto → Prop) (hn : ∀ k ρ S, I k ρ S → nxt k S = l[k]?)
    (hs : ∀ k d ρ S, l[k]? = some d → I k ρ S → ∃ ρ1, g d ρ = some ρ1 ∧ ((gd k d = true ∧ ∃ ρ2, b ρ1 S = .nx ρ2 S ∧ I (k + 1) ρ2 S) ∨ (gd k d = false ∧ b ρ1 S = .rt (.bl false) S))) :
    ∀ (n k : Nat) (ρ : Lc) (S : Sto), k ≤ l.length → I k ρ S → l.length < n + k →
      ((∀ j d, k ≤ j → l[j]? = some d → gd j d = true) ∧ ∃ ρ', forN nxt g b n k ρ S = .nx ρ' S ∧ I l.length ρ' S) ∨ ((∃ j d, k ≤ j ∧ l[j]? = some d ∧ gd j d = false) ∧ forN nxt g b n k ρ S = .rt (.bl false) S)
  | 0, k, ρ, S, h1, _, h2 => by omega
  | n + 1, k, ρ, S, h1, hI, h2 => by
    unfold forN
    rw [hn k ρ S hI]
    cases z : l[k]? with
    | none =>
      have : k = l.length := by have := List.getElem?_eq_none_iff.mp z; omega
      subst this
      refine .inl ⟨fun j d hj hd => ?_, ρ, rfl, hI⟩
      have := (List.getElem?_eq_some_iff.mp hd).1
      omega
    | some d =>
      have hk : k < l.length := (List.getElem?_eq_some_iff.mp z).1
      obtain ⟨ρ1, e1, h⟩ := hs k d ρ S z hI
      rcases h with ⟨hg, ρ2, e2, hI2⟩ | ⟨hg, e2⟩
      · simp only [e1, e2]
        rcases for_chk gd I hn hs n (k + 1) ρ2 S hk hI2 (by omega) with ⟨h3, ρ', e4, h5⟩ | ⟨⟨j, d', hj, hd', hg'⟩, e4⟩
        · refine .inl ⟨fun j d' hj hd' => ?_, ρ', e4, h5⟩
          by_cases hjk : j = k
          · subst hjk
            rw [z] at hd'
            cases hd'
            exact hg
          · exact h3 j d' (by omega) hd'
        · exact .inr ⟨⟨j, d', by omega, hd', hg'⟩, e4⟩
      · simp only [e1, e2]
        exact .inr ⟨⟨k, d, Nat.le_refl _, z, hg⟩, by first | rfl | trivial⟩
def enumL (l : List D) : List D := l.mapIdx fun k d => .tup [.int k, d]
def srcE (l : List D) : Src := ⟨fun k _ => (l[k]?).map fun d => .tup [.int k, d], l.length + 1⟩
theorem enum_src {f : Ev (List D)} {ρ : Lc} {S S' : Sto} {l : List D} (h : f ρ S = .ok [.tup l] S') : ienumerate f ρ S = .ok (srcE l) S' := by
  unfold ienumerate
  rw [h]
  rfl
theorem enum_get {l : List D} {k : Nat} {S : Sto} : (srcE l).nxt k S = (enumL l)[k]? := by
  show (l[k]?).map (fun d => D.tup [.int k, d]) = _
  unfold enumL
  rw [List.getElem?_mapIdx]
theorem enum_len {l : List D} : (enumL l).length = l.length := by unfold enumL; simp
theorem enum_of {l : List D} {k : Nat} {d : D} (h : (enumL l)[k]? = some d) : ∃ e, l[k]? = some e ∧ d = .tup [.int k, e] := by
  unfold enumL at h
  rw [List.getElem?_mapIdx] at h
  cases z : l[k]? with
  | none => rw [z] at h; cases h
  | some e => rw [z] at h; cases h; exact ⟨e, rfl, rfl⟩
def intOf : D → Int
  | .int i => i
  | _ => 0
theorem nn_vals : ∀ {l : List D}, l.all nnI = true → ∃ L : List Int, l = L.map D.int ∧ ∀ i ∈ L, 0 ≤ i
  | [], _ => ⟨[], rfl, fun i h => by cases h⟩
  | d :: l, h => by
    rw [List.all_cons, Bool.and_eq_true] at h
    obtain ⟨L, e, hL⟩ := nn_vals h.2
    cases d with
    | int i =>
      have hi : 0 ≤ i := by simpa [nnI] using h.1
      exact ⟨i :: L, by rw [e]; rfl, fun j hj => by
        rcases List.mem_cons.mp hj with rfl | hj
        · exact hi
        · exact hL j hj⟩
    | _ => cases h.1
def gk (ps : List Pl) (L R F : List Int) (k : Nat) : Bool := match ps[k]?, L[k]?, R[k]?, F[k]? with
  | some p, some l, some r, some f => decide (l ≤ wat p) && hol p (r + f)
  | _, _, _, _ => true
def intsD : D → List Int
  | .tup l => l.map intOf
  | _ => []
theorem ints_map' {L : List Int} : intsD (.tup (L.map D.int)) = L := by
  show (L.map D.int).map intOf = L
  rw [List.map_map]
  exact List.map_id'' (fun _ => rfl) L
def isSt (ps : List Pl) : D → Bool
  | .tup [a, b, c] => ((cnt ps.length a && cnt ps.length b) && cnt ps.length c) && ((List.range ps.length).all (gk ps (intsD a) (intsD b) (intsD c)) && decide ((intsD b).sum + (intsD c).sum ≤ 60))
  | _ => false
theorem cnt_of {m : Nat} {d : D} (h : cnt m d = true) : ∃ L : List Int, d = .tup (L.map D.int) ∧ L.length = m ∧ ∀ i ∈ L, 0 ≤ i := by
  cases d with
  | tup l =>
    have h : (l.length == m && l.all nnI) = true := h
    rw [Bool.and_eq_true] at h
    obtain ⟨L, e, hL⟩ := nn_vals h.2
    refine ⟨L, by rw [e], ?_, hL⟩
    have : l.length = m := by simpa using h.1
    rw [e] at this
    simpa using this
  | _ => cases h
theorem get_int {L : List Int} {k : Nat} {i : Int} {S : Sto} (h : L[k]? = some i) : DL.getD (.tup (L.map D.int)) (.int k) S = .ok (.int i) S :=
  get_t (atI_nn (by omega) (by rw [Int.toNat_natCast, List.getElem?_map, h]; rfl))
theorem is_stand_ok {ps : List Pl} {gd x : D} {S : Sto} (hp : ∀ p ∈ ps, p.ok) (hl : ps.length ≤ 13) : ∃ S', f_is_stand [.tup [.tup (ps.map Pl.toD), gd], x] S = .ok (.bl (isSt ps x)) S' ∧ Ex S S' := by
  have tw : ∀ S, f_is_tuple [x, .int 3] S = .ok (.bl (isT' 3 x)) S := fun S => tuple_ok (x := x) (m := 3) (S := S)
  have hf : ∀ X, f_is_stand [.tup [.tup (ps.map Pl.toD), gd], x] S = X ↔ fin (b_is_stand [some (.tup [.tup (ps.map Pl.toD), gd]), some x, none, none, none, none, none, none] S) = X := fun X => by rw [show f_is_stand [.tup [.tup (ps.map Pl.toD), gd], x] S = fin (b_is_stand [some (.tup [.tup (ps.map Pl.toD), gd]), some x, none, none, none, none, none, none] S) from fnB_ap (m := 8) (b := b_is_stand)]
  have e0 : sa (o2 DL.getD (vr 0) (cn (.int 0))) (gn 2) [some (.tup [.tup (ps.map Pl.toD), gd]), some x, none, none, none, none, none, none] S = .nx [some (.tup [.tup (ps.map Pl.toD), gd]), some x, some (.tup (ps.map Pl.toD)), none, none, none, none, none] S := by simp [p0e]
  by_cases c3 : isT' 3 x = true
  · cases x with
    | tup l =>
      have hl3 : l.length = 3 := by simpa [isT'] using c3
      obtain ⟨a, b, c, rfl⟩ : ∃ a b c, l = [a, b, c] := by
        match l, hl3 with
        | [a, b, c], _ => exact ⟨a, b, c, rfl⟩
      obtain ⟨S1, ec, x1⟩ := all_comp (l := [a, b, c]) (pk := [none, some 2]) (e := cl 2 (noExc f_are_counts) (ac (vr 0) (ac (b1 lenD (ac (vr 1) an)) an))) (ρ := [some (.tup [.tup (ps.map Pl.toD), gd]), some (.tup [a, b, c]), some (.tup (ps.map Pl.toD)), none, none, none, none, none]) (f := vr 1) (S := S) [some (.tup (ps.map Pl.toD))] (cnt ps.length) (by simp) rfl (by simp) fun d _ S' _ => by
        obtain ⟨S'', q1, q2⟩ := counts_ok (x := d) (m := ps.length) (S := S') (by omega)
        exact ⟨S'', by simp [q1], q2⟩
      have ec' : b1 allD (ac (cmp (isrc (vr 1)) [none, some 2] (gn 0) ttrue (cl 2 (noExc f_are_counts) (ac (vr 0) (ac (b1 lenD (ac (vr 1) an)) an)))) an) [some (.tup [.tup (ps.map Pl.toD), gd]), some (.tup [a, b, c]), some (.tup (ps.map Pl.toD)), none, none, none, none, none] S = .ok (.bl ([a, b, c].all (cnt ps.length))) S1 := by
        rw [b1_ap, ac_ap, ← ec]
        cases z : cmp (isrc (vr 1)) [none, some 2] (gn 0) ttrue (cl 2 (noExc f_are_counts) (ac (vr 0) (ac (b1 lenD (ac (vr 1) an)) an))) [some (.tup [.tup (ps.map Pl.toD), gd]), some (.tup [a, b, c]), some (.tup (ps.map Pl.toD)), none, none, none, none, none] S with
        | ok d S1 => simp
        | exc x S1 => rfl
        | bad => rfl
      have hall : [a, b, c].all (cnt ps.length) = ((cnt ps.length a && cnt ps.length b) && cnt ps.length c) := by simp [Bool.and_assoc]
      by_cases cc : ((cnt ps.length a && cnt ps.length b) && cnt ps.length c) = true
      · have cc' := cc
        rw [Bool.and_eq_true, Bool.and_eq_true] at cc'
        obtain ⟨L, rfl, lL, nL⟩ := cnt_of cc'.1.1
        obtain ⟨R, rfl, lR, nR⟩ := cnt_of cc'.1.2
        obtain ⟨F, rfl, lF, nF⟩ := cnt_of cc'.2
        have hst : isSt ps (.tup [.tup (L.map D.int), .tup (R.map D.int), .tup (F.map D.int)]) = ((List.range ps.length).all (gk ps L R F) && decide (R.sum + F.sum ≤ 60)) := by
          simp only [isSt, ints_map', cc, Bool.true_and]
        have chk := for_chk (nxt := (srcE (ps.map Pl.toD)).nxt) (g := gt (gcons (gn 6) (gcons (gn 7) gnil)) 2) (b := lb_is_stand_1) (l := enumL (ps.map Pl.toD)) (fun k _ => gk ps L R F k)
          (fun k ρ S' => S' = S1 ∧ ∃ g6 g7, ρ = [some (.tup [.tup (ps.map Pl.toD), gd]), some (.tup [.tup (L.map D.int), .tup (R.map D.int), .tup (F.map D.int)]), some (.tup (ps.map Pl.toD)), some (.tup (L.map D.int)), some (.tup (R.map D.int)), some (.tup (F.map D.int)), g6, g7])
          (fun k _ _ _ => enum_get) (fun k d ρ S' hd ⟨hS, g6, g7, h1⟩ => by
            subst h1 hS
            obtain ⟨e, he, rfl⟩ := enum_of hd
            rw [List.getElem?_map] at he
            cases hpk : ps[k]? with
            | none => rw [hpk] at he; cases he
            | some p =>
              rw [hpk] at he
              cases (Option.some.inj he)
              have hk : k < ps.length := (List.getElem?_eq_some_iff.mp hpk).1
              have hL : L[k]? = some L[k] := List.getElem?_eq_getElem (by omega)
              have hR : R[k]? = some R[k] := List.getElem?_eq_getElem (by omega)
              have hF : F[k]? = some F[k] := List.getElem?_eq_getElem (by omega)
              have ok := hp p (List.mem_of_getElem? hpk)
              have g1 := get_int (S := S') hL
              have g2 := get_int (S := S') hR
              have g3 := get_int (S := S') hF
              have w := water_ok (S := S') ok
              have ho := holds_ok (S := S') (b := R[k] + F[k]) ok
              have hg : gk ps L R F k = (decide (L[k] ≤ wat p) && hol p (R[k] + F[k])) := by simp only [gk, hpk, hL, hR, hF]
              refine ⟨_, rfl, ?_⟩
              by_cases q1 : L[k] ≤ wat p
              · have q1' : ¬ wat p < L[k] := by omega
                by_cases q2 : hol p (R[k] + F[k]) = true
                · exact .inl ⟨by rw [hg]; simp [q1, q2], [some (.tup [.tup (ps.map Pl.toD), gd]), some (.tup [.tup (L.map D.int), .tup (R.map D.int), .tup (F.map D.int)]), some (.tup (ps.map Pl.toD)), some (.tup (L.map D.int)), some (.tup (R.map D.int)), some (.tup (F.map D.int)), some (.int k), some p.toD], by simp [lb_is_stand_1, g1, w, q1', g2, g3, ho, q2, truD], rfl, _, _, rfl⟩
                · have q2 : hol p (R[k] + F[k]) = false := by simpa using q2
                  exact .inr ⟨by rw [hg]; simp [q1, q2], by simp [lb_is_stand_1, g1, w, q1', g2, g3, ho, q2, truD]⟩
              · have q1' : wat p < L[k] := by omega
                exact .inr ⟨by rw [hg]; simp [q1], by simp [lb_is_stand_1, g1, w, q1']⟩) (srcE (ps.map Pl.toD)).fuel 0 [some (.tup [.tup (ps.map Pl.toD), gd]), some (.tup [.tup (L.map D.int), .tup (R.map D.int), .tup (F.map D.int)]), some (.tup (ps.map Pl.toD)), some (.tup (L.map D.int)), some (.tup (R.map D.int)), some (.tup (F.map D.int)), none, none] S1 (Nat.zero_le _) ⟨rfl, none, none, rfl⟩ (by rw [enum_len]; exact Nat.lt_succ_self _)
        have es := enum_src (f := ac (vr 2) an) (ρ := [some (.tup [.tup (ps.map Pl.toD), gd]), some (.tup [.tup (L.map D.int), .tup (R.map D.int), .tup (F.map D.int)]), some (.tup (ps.map Pl.toD)), some (.tup (L.map D.int)), some (.tup (R.map D.int)), some (.tup (F.map D.int)), none, none]) (S := S1) (S' := S1) (l := ps.map Pl.toD) (by simp)
        refine ⟨S1, (hf _).mpr ?_, x1⟩
        rw [hst]
        unfold b_is_stand
        rw [fin_nx e0]
        refine (fin_nx (ρ' := [some (.tup [.tup (ps.map Pl.toD), gd]), some (.tup [.tup (L.map D.int), .tup (R.map D.int), .tup (F.map D.int)]), some (.tup (ps.map Pl.toD)), none, none, none, none, none]) (S' := S) (by simp [tw, c3, truD])).trans ?_
        refine (fin_nx (ρ' := [some (.tup [.tup (ps.map Pl.toD), gd]), some (.tup [.tup (L.map D.int), .tup (R.map D.int), .tup (F.map D.int)]), some (.tup (ps.map Pl.toD)), none, none, none, none, none]) (S' := S1) (by rw [sif_ap, tn_ap, tt_ap, ec', hall, cc]; rfl)).trans ?_
        refine (fin_nx (ρ' := [some (.tup [.tup (ps.map Pl.toD), gd]), some (.tup [.tup (L.map D.int), .tup (R.map D.int), .tup (F.map D.int)]), some (.tup (ps.map Pl.toD)), some (.tup (L.map D.int)), some (.tup (R.map D.int)), some (.tup (F.map D.int)), none, none]) (S' := S1) (by simp [gt, gcons, gnil])).trans ?_
        rcases chk with ⟨good, ρ', ef, _, g6, g7, hρ⟩ | ⟨⟨j, d, _, hd, hg⟩, ef⟩
        · have hgk : (List.range ps.length).all (gk ps L R F) = true := by
            rw [List.all_eq_true]
            intro k hk
            have hk : k < ps.length := List.mem_range.mp hk
            exact good k _ (Nat.zero_le _) (List.getElem?_eq_getElem (by rw [enum_len]; simpa using hk))
          rw [hgk, Bool.true_and]
          refine (fin_nx (ρ' := ρ') (S' := S1) (by rw [sfor_ap, es]; exact ef)).trans ?_
          rw [hρ]
          simp [c_MOST_BARGES]
        · have hgk : (List.range ps.length).all (gk ps L R F) = false := by
            rw [List.all_eq_false]
            have hj : j < ps.length := by have := (List.getElem?_eq_some_iff.mp hd).1; rw [enum_len] at this; simpa using this
            exact ⟨j, List.mem_range.mpr hj, by simpa using hg⟩
          rw [hgk, Bool.false_and]
          exact fin_ret (by rw [sfor_ap, es]; exact ef)
      · have cc : ((cnt ps.length a && cnt ps.length b) && cnt ps.length c) = false := by simpa using cc
        refine ⟨S1, (hf _).mpr ?_, x1⟩
        have hst : isSt ps (.tup [a, b, c]) = false := by
          show (((cnt ps.length a && cnt ps.length b) && cnt ps.length c) && _) = false
          rw [cc, Bool.false_and]
        rw [hst]
        unfold b_is_stand
        rw [fin_nx e0]
        refine (fin_nx (ρ' := [some (.tup [.tup (ps.map Pl.toD), gd]), some (.tup [a, b, c]), some (.tup (ps.map Pl.toD)), none, none, none, none, none]) (S' := S) (by simp [tw, c3, truD])).trans ?_
        exact fin_ret (by rw [sif_ap, tn_ap, tt_ap, ec', hall, cc]; rfl)
    | _ => cases c3
  · have c3 : isT' 3 x = false := by simpa using c3
    refine ⟨S, (hf _).mpr ?_, .refl⟩
    have hst : isSt ps x = false := by
      cases x with
      | tup l =>
        have hl3 : ¬ l.length = 3 := by simpa [isT'] using c3
        unfold isSt
        split
        · rename_i e; cases e; exact absurd rfl hl3
        · rfl
      | _ => rfl
    rw [hst]
    unfold b_is_stand
    rw [fin_nx e0]
    exact fin_ret (by simp [tw, c3, truD])
end Law
set_option Elab.async false
set_option linter.all false
set_option maxRecDepth 100000
namespace Law
open PySem PySem.Spec PyProof.Rows L2 DL
theorem take_sum1 {L : List Int} {k : Nat} {i : Int} (h : L[k]? = some i) : (L.take (k + 1)).sum = (L.take k).sum + i := by
  rw [List.take_add_one, h]
  simp
theorem row_ok {m : Nat} {r c0 pls : D} {lp : List D} {x : D} {g4 g5 g6 g7 g8 : Option D} {S : Sto} (hm : lp.length = m) :
    (cnt m r = true ∧ ∃ g4', lb__law_is_stand_2 [some c0, some x, some (.tup lp), some r, g4, g5, g6, g7, g8] S = .nx [some c0, some x, some (.tup lp), some r, g4', g5, g6, g7, g8] S) ∨ (cnt m r = false ∧ lb__law_is_stand_2 [some c0, some x, some (.tup lp), some r, g4, g5, g6, g7, g8] S = .rt (.bl false) S) := by
  cases r with
  | tup l =>
    by_cases hl : l.length = m
    · have st1 : sif (to (tn (tt (o1 (isD "tuple") (vr 3)))) (tb (o2 neD (b1 lenD (ac (vr 3) an)) (b1 lenD (ac (vr 2) an))))) (sret (cn (.bl false))) DL.skip [some c0, some x, some (.tup lp), some (.tup l), g4, g5, g6, g7, g8] S = .nx [some c0, some x, some (.tup lp), some (.tup l), g4, g5, g6, g7, g8] S := by
        simp [isD, isT, tyN, truD, hl, hm]
      have chk := for_chk (nxt := (srcT l).nxt) (g := gn 4) (b := lb__law_is_stand_1) (l := l) (fun _ d => nnI d) (fun _ ρ S' => S' = S ∧ ∃ g4, ρ = [some c0, some x, some (.tup lp), some (.tup l), g4, g5, g6, g7, g8]) (fun _ _ _ _ => rfl) (fun k d ρ S' hd ⟨hS, g4, h1⟩ => by
        subst h1 hS
        have w := lwhole_ok (x := d) (S := S')
        refine ⟨_, rfl, ?_⟩
        by_cases q : nnI d = true
        · cases d with
          | int i =>
            have hi : ¬ i < 0 := by simpa [nnI] using q
            exact .inl ⟨q, [some c0, some x, some (.tup lp), some (.tup l), some (.int i), g5, g6, g7, g8], by simp [lb__law_is_stand_1, w, isInt, truD, hi], rfl, _, rfl⟩
          | _ => cases q
        · have q : nnI d = false := by simpa using q
          refine .inr ⟨q, ?_⟩
          cases d with
          | int i =>
            have hi : i < 0 := by simpa [nnI] using q
            simp [lb__law_is_stand_1, w, isInt, truD, hi]
          | _ => simp [lb__law_is_stand_1, w, isInt, truD]) (srcT l).fuel 0 [some c0, some x, some (.tup lp), some (.tup l), g4, g5, g6, g7, g8] S (Nat.zero_le _) ⟨rfl, g4, rfl⟩ fuelT
      have hcnt : cnt m (.tup l) = l.all nnI := by simp [cnt, hl]
      have sf : sfor (isrc (vr 3)) (gn 4) lb__law_is_stand_1 [some c0, some x, some (.tup lp), some (.tup l), g4, g5, g6, g7, g8] S = forN (srcT l).nxt (gn 4) lb__law_is_stand_1 (srcT l).fuel 0 [some c0, some x, some (.tup lp), some (.tup l), g4, g5, g6, g7, g8] S := by
        rw [sfor_ap, isrc_ap]
        simp [src_t]
      rcases chk with ⟨good, ρ', ef, _, g4', hρ⟩ | ⟨⟨j, d, _, hd, hg⟩, ef⟩
      · refine .inl ⟨?_, g4', ?_⟩
        · rw [hcnt, List.all_eq_true]
          intro d hd
          obtain ⟨j, hj, rfl⟩ := List.getElem_of_mem hd
          exact good j _ (Nat.zero_le _) (List.getElem?_eq_getElem hj)
        · unfold lb__law_is_stand_2
          rw [sq_ap, st1]
          show sfor _ _ _ _ _ = _
          rw [sf, ef, hρ]
      · refine .inr ⟨?_, ?_⟩
        · rw [hcnt, List.all_eq_false]
          exact ⟨d, List.mem_of_getElem? hd, by simpa using hg⟩
        · unfold lb__law_is_stand_2
          rw [sq_ap, st1]
          show sfor _ _ _ _ _ = _
          rw [sf, ef]
    · have hl' : ¬ (l.length : Int) = lp.length := by omega
      refine .inr ⟨by simp [cnt, hl], ?_⟩
      simp [lb__law_is_stand_2, isD, isT, tyN, truD, hl']
  | _ => exact .inr ⟨rfl, by simp [lb__law_is_stand_2, isD, isT, tyN, truD]⟩
theorem law_step {ps : List Pl} {gd : D} {L R F : List Int} {k : Nat} {p : Pl} {tot l r f : Int} {g3 g4 g8 : Option D} {S : Sto} (ok : p.ok) (hL : L[k]? = some l) (hR : R[k]? = some r) (hF : F[k]? = some f) (hl : 0 ≤ l) :
    ((decide (l ≤ wat p) && hol p (r + f)) = true ∧ lb__law_is_stand_3 [some (.tup [.tup (ps.map Pl.toD), gd]), some (stD L R F), some (.tup (ps.map Pl.toD)), g3, g4, some (.int tot), some (.int k), some p.toD, g8] S = .nx [some (.tup [.tup (ps.map Pl.toD), gd]), some (stD L R F), some (.tup (ps.map Pl.toD)), g3, g4, some (.int (tot + (r + f))), some (.int k), some p.toD, some (.int (r + f))] S) ∨
    ((decide (l ≤ wat p) && hol p (r + f)) = false ∧ lb__law_is_stand_3 [some (.tup [.tup (ps.map Pl.toD), gd]), some (stD L R F), some (.tup (ps.map Pl.toD)), g3, g4, some (.int tot), some (.int k), some p.toD, g8] S = .rt (.bl false) S) := by
  have a0 : ∀ S, DL.getD (stD L R F) (.int 0) S = .ok (.tup (L.map D.int)) S := fun S => p0e
  have a1 : ∀ S, DL.getD (stD L R F) (.int 1) S = .ok (.tup (R.map D.int)) S := fun S => p1e
  have a2 : ∀ S, DL.getD (stD L R F) (.int 2) S = .ok (.tup (F.map D.int)) S := fun S => get_t (atI_nn (by decide) rfl)
  have b0 := fun S => get_int (S := S) hL
  have b1' := fun S => get_int (S := S) hR
  have b2 := fun S => get_int (S := S) hF
  cases p with
  | e =>
    have g : ∀ S, DL.getD (Pl.toD .e) (.int 0) S = .ok (.str "end") S := fun S => p0e
    by_cases q : l = 0
    · exact .inl ⟨by simp [wat, hol, q], by simp [lb__law_is_stand_3, a0, a1, a2, b0, b1', b2, g, s7, s1, s2, q]⟩
    · have q' : ¬ l ≤ 0 := by omega
      exact .inr ⟨by simp [wat, q'], by simp [lb__law_is_stand_3, a0, a1, a2, b0, b1', b2, g, s7, q]⟩
  | c =>
    have g : ∀ S, DL.getD (Pl.toD .c) (.int 0) S = .ok (.str "chamber") S := fun S => p0e
    by_cases q : l ≤ 1
    · have q' : ¬ 1 < l := by omega
      by_cases q2 : r + f ≤ 1
      · have q2' : ¬ 1 < r + f := by omega
        exact .inl ⟨by simp [wat, hol, q, q2], by simp [lb__law_is_stand_3, a0, a1, a2, b0, b1', b2, g, s8, s3, s4, q', q2']⟩
      · have q2' : 1 < r + f := by omega
        exact .inr ⟨by simp [wat, hol, q, q2], by simp [lb__law_is_stand_3, a0, a1, a2, b0, b1', b2, g, s8, s3, q', q2']⟩
    · have q' : 1 < l := by omega
      exact .inr ⟨by simp [wat, q], by simp [lb__law_is_stand_3, a0, a1, a2, b0, b1', b2, g, s8, s3, q']⟩
  | p br de ro pr =>
    have g : ∀ S, DL.getD (Pl.toD (.p br de ro pr)) (.int 0) S = .ok (.str "pound") S := fun S => p0e
    have g1 : ∀ S, DL.getD (Pl.toD (.p br de ro pr)) (.int 1) S = .ok (.int br) S := fun S => p1e
    have g3' : ∀ S, DL.getD (Pl.toD (.p br de ro pr)) (.int 3) S = .ok (.int ro) S := fun S => p3e
    by_cases q : l ≤ br
    · have q' : ¬ br < l := by omega
      by_cases q2 : r + f ≤ ro
      · have q2' : ¬ ro < r + f := by omega
        exact .inl ⟨by simp [wat, hol, q, q2], by simp [lb__law_is_stand_3, a0, a1, a2, b0, b1', b2, g, g1, g3', s9, s5, s6, q', q2']⟩
      · have q2' : ro < r + f := by omega
        exact .inr ⟨by simp [wat, hol, q, q2], by simp [lb__law_is_stand_3, a0, a1, a2, b0, b1', b2, g, g1, g3', s9, s5, s6, q', q2']⟩
    · have q' : br < l := by omega
      exact .inr ⟨by simp [wat, q], by simp [lb__law_is_stand_3, a0, a1, a2, b0, b1', b2, g, g1, s9, s5, s6, q']⟩
theorem lis_ok {ps : List Pl} {gd x : D} {S : Sto} (hp : ∀ p ∈ ps, p.ok) (hl : ps.length ≤ 13) : f__law_is_stand [.tup [.tup (ps.map Pl.toD), gd], x] S = .ok (.bl (isSt ps x)) S := by
  refine (fnB_ap (m := 9) (b := b__law_is_stand)).trans ?_
  show fin (b__law_is_stand [some (.tup [.tup (ps.map Pl.toD), gd]), some x, none, none, none, none, none, none, none] S) = _
  unfold b__law_is_stand
  refine (fin_nx (ρ' := [some (.tup [.tup (ps.map Pl.toD), gd]), some x, some (.tup (ps.map Pl.toD)), none, none, none, none, none, none]) (S' := S) (by simp [p0e])).trans ?_
  by_cases c3 : isT' 3 x = true
  · cases x with
    | tup l =>
      have hl3 : l.length = 3 := by simpa [isT'] using c3
      obtain ⟨a, b, c, rfl⟩ : ∃ a b c, l = [a, b, c] := by
        match l, hl3 with
        | [a, b, c], _ => exact ⟨a, b, c, rfl⟩
      refine (fin_nx (ρ' := [some (.tup [.tup (ps.map Pl.toD), gd]), some (.tup [a, b, c]), some (.tup (ps.map Pl.toD)), none, none, none, none, none, none]) (S' := S) (by simp [isD, isT, tyN, truD])).trans ?_
      have chk := for_chk (nxt := (srcT [a, b, c]).nxt) (g := gn 3) (b := lb__law_is_stand_2) (l := [a, b, c]) (fun _ d => cnt ps.length d) (fun _ ρ S' => S' = S ∧ ∃ g3 g4, ρ = [some (.tup [.tup (ps.map Pl.toD), gd]), some (.tup [a, b, c]), some (.tup (ps.map Pl.toD)), g3, g4, none, none, none, none]) (fun _ _ _ _ => rfl) (fun k d ρ S' hd ⟨hS, g3, g4, h1⟩ => by
        subst h1 hS
        refine ⟨_, rfl, ?_⟩
        rcases row_ok (m := ps.length) (r := d) (c0 := .tup [.tup (ps.map Pl.toD), gd]) (pls := d) (lp := ps.map Pl.toD) (x := .tup [a, b, c]) (g4 := g4) (g5 := none) (g6 := none) (g7 := none) (g8 := none) (S := S') (by simp) with ⟨h1, g4', h2⟩ | ⟨h1, h2⟩
        · exact .inl ⟨h1, _, h2, rfl, _, _, rfl⟩
        · exact .inr ⟨h1, h2⟩) (srcT [a, b, c]).fuel 0 [some (.tup [.tup (ps.map Pl.toD), gd]), some (.tup [a, b, c]), some (.tup (ps.map Pl.toD)), none, none, none, none, none, none] S (Nat.zero_le _) ⟨rfl, none, none, rfl⟩ fuelT
      have sf : ∀ ρ : Lc, ρ[1]? = some (some (.tup [a, b, c])) → sfor (isrc (vr 1)) (gn 3) lb__law_is_stand_2 ρ S = forN (srcT [a, b, c]).nxt (gn 3) lb__law_is_stand_2 (srcT [a, b, c]).fuel 0 ρ S := fun ρ hρ => by
        rw [sfor_ap, isrc_ap, vr_ap, hρ]
        simp [src_t]
      rcases chk with ⟨good, ρ', ef, _, g3, g4, hρ⟩ | ⟨⟨j, d, _, hd, hg⟩, ef⟩
      · have ga := good 0 a (Nat.zero_le _) rfl
        have gb := good 1 b (Nat.zero_le _) rfl
        have gc := good 2 c (Nat.zero_le _) rfl
        have cc : ((cnt ps.length a && cnt ps.length b) && cnt ps.length c) = true := by rw [ga, gb, gc]; rfl
        obtain ⟨L, rfl, lL, nL⟩ := cnt_of ga
        obtain ⟨R, rfl, lR, nR⟩ := cnt_of gb
        obtain ⟨F, rfl, lF, nF⟩ := cnt_of gc
        have hst : isSt ps (.tup [.tup (L.map D.int), .tup (R.map D.int), .tup (F.map D.int)]) = ((List.range ps.length).all (gk ps L R F) && decide (R.sum + F.sum ≤ 60)) := by
          simp only [isSt, ints_map', cc, Bool.true_and]
        rw [hst]
        refine (fin_nx (ρ' := ρ') (S' := S) (by rw [sf _ rfl]; exact ef)).trans ?_
        rw [hρ]
        refine (fin_nx (ρ' := [some (.tup [.tup (ps.map Pl.toD), gd]), some (stD L R F), some (.tup (ps.map Pl.toD)), g3, g4, some (.int 0), none, none, none]) (S' := S) (by simp [stD])).trans ?_
        have chk := for_chk (nxt := (srcE (ps.map Pl.toD)).nxt) (g := gt (gcons (gn 6) (gcons (gn 7) gnil)) 2) (b := lb__law_is_stand_3) (l := enumL (ps.map Pl.toD)) (fun k _ => gk ps L R F k)
          (fun k ρ S' => S' = S ∧ ∃ g6 g7 g8, ρ = [some (.tup [.tup (ps.map Pl.toD), gd]), some (stD L R F), some (.tup (ps.map Pl.toD)), g3, g4, some (.int ((R.take k).sum + (F.take k).sum)), g6, g7, g8])
          (fun k _ _ _ => enum_get) (fun k d ρ S' hd ⟨hS, g6, g7, g8, h1⟩ => by
            subst h1 hS
            obtain ⟨e, he, rfl⟩ := enum_of hd
            rw [List.getElem?_map] at he
            cases hpk : ps[k]? with
            | none => rw [hpk] at he; cases he
            | some p =>
              rw [hpk] at he
              cases (Option.some.inj he)
              have hk : k < ps.length := (List.getElem?_eq_some_iff.mp hpk).1
              have hL : L[k]? = some L[k] := List.getElem?_eq_getElem (by omega)
              have hR : R[k]? = some R[k] := List.getElem?_eq_getElem (by omega)
              have hF : F[k]? = some F[k] := List.getElem?_eq_getElem (by omega)
              have hg : gk ps L R F k = (decide (L[k] ≤ wat p) && hol p (R[k] + F[k])) := by simp only [gk, hpk, hL, hR, hF]
              have st := law_step (ps := ps) (gd := gd) (k := k) (tot := (R.take k).sum + (F.take k).sum) (g3 := g3) (g4 := g4) (g8 := g8) (S := S') (hp p (List.mem_of_getElem? hpk)) hL hR hF (nL _ (List.getElem_mem (by omega)))
              rw [hg]
              refine ⟨_, rfl, ?_⟩
              rcases st with ⟨h1, h2⟩ | ⟨h1, h2⟩
              · refine .inl ⟨h1, _, h2, rfl, some (.int k), some p.toD, some (.int (R[k] + F[k])), ?_⟩
                rw [take_sum1 hR, take_sum1 hF]
                have : (R.take k).sum + (F.take k).sum + (R[k] + F[k]) = (R.take k).sum + R[k] + ((F.take k).sum + F[k]) := by omega
                rw [this]
              · exact .inr ⟨h1, h2⟩) (srcE (ps.map Pl.toD)).fuel 0 [some (.tup [.tup (ps.map Pl.toD), gd]), some (stD L R F), some (.tup (ps.map Pl.toD)), g3, g4, some (.int 0), none, none, none] S (Nat.zero_le _) ⟨rfl, none, none, none, by simp⟩ (by rw [enum_len]; exact Nat.lt_succ_self _)
        have es := enum_src (f := ac (vr 2) an) (ρ := [some (.tup [.tup (ps.map Pl.toD), gd]), some (stD L R F), some (.tup (ps.map Pl.toD)), g3, g4, some (.int 0), none, none, none]) (S := S) (S' := S) (l := ps.map Pl.toD) (by simp)
        rcases chk with ⟨good, ρ', ef, _, g6, g7, g8, hρ⟩ | ⟨⟨j, d, _, hd, hg⟩, ef⟩
        · have hgk : (List.range ps.length).all (gk ps L R F) = true := by
            rw [List.all_eq_true]
            intro k hk
            have hk : k < ps.length := List.mem_range.mp hk
            exact good k _ (Nat.zero_le _) (List.getElem?_eq_getElem (by rw [enum_len]; simpa using hk))
          rw [hgk, Bool.true_and]
          refine (fin_nx (ρ' := ρ') (S' := S) (by rw [sfor_ap, es]; exact ef)).trans ?_
          rw [hρ]
          have hmL : (enumL (ps.map Pl.toD)).length = ps.length := by rw [enum_len]; simp
          rw [hmL, List.take_of_length_le (by omega), List.take_of_length_le (by omega)]
          have : decide (R.sum + F.sum < 61) = decide (R.sum + F.sum ≤ 60) := decide_eq_decide.mpr (by omega)
          simp [this]
        · have hgk : (List.range ps.length).all (gk ps L R F) = false := by
            rw [List.all_eq_false]
            have hj : j < ps.length := by have := (List.getElem?_eq_some_iff.mp hd).1; rw [enum_len] at this; simpa using this
            exact ⟨j, List.mem_range.mpr hj, by simpa using hg⟩
          rw [hgk, Bool.false_and]
          exact fin_ret (by rw [sfor_ap, es]; exact ef)
      · have cc : ((cnt ps.length a && cnt ps.length b) && cnt ps.length c) = false := by
          match j, hd with
          | 0, hd => cases (Option.some.inj hd); simp [hg]
          | 1, hd => cases (Option.some.inj hd); simp [hg]
          | 2, hd => cases (Option.some.inj hd); simp [hg]
          | j + 3, hd => simp at hd
        have hst : isSt ps (.tup [a, b, c]) = false := by
          show (((cnt ps.length a && cnt ps.length b) && cnt ps.length c) && _) = false
          rw [cc, Bool.false_and]
        rw [hst]
        exact fin_ret (by rw [sf _ rfl]; exact ef)
    | _ => cases c3
  · have c3 : isT' 3 x = false := by simpa using c3
    have hst : isSt ps x = false := by
      cases x with
      | tup l =>
        have hl3 : ¬ l.length = 3 := by simpa [isT'] using c3
        unfold isSt
        split
        · rename_i e; cases e; exact absurd rfl hl3
        · rfl
      | _ => rfl
    rw [hst]
    cases x with
    | tup l =>
      have hl3 : ¬ (l.length : Int) = 3 := by
        have : ¬ l.length = 3 := by simpa [isT'] using c3
        omega
      exact fin_ret (by simp [isD, isT, tyN, truD, hl3])
    | _ => exact fin_ret (by simp [isD, isT, tyN, truD])
end Law
set_option Elab.async false
set_option linter.all false
set_option maxRecDepth 100000
namespace Law
open PySem PySem.Spec PyProof.Rows L2 DL
theorem toP_ints {S : Sto} {n : Nat} : ∀ L : List Int, mapO (toP S (n + 1)) (L.map D.int) = some (L.map PyData.int)
  | [] => rfl
  | i :: L => by
    have := toP_ints (S := S) (n := n) L
    rw [List.map_cons, List.map_cons]
    simp only [mapO, this]
    rfl
theorem lay_ints : ∀ L : List Int, PyData.canLayAll0 (L.map .int) = true
  | [] => rfl
  | i :: L => by simp [PyData.canLayAll0, PyData.canLay0, lay_ints L]
theorem dep_ints : ∀ L : List Int, PyData.depthAll (L.map .int) = 0
  | [] => rfl
  | i :: L => by simp [PyData.depthAll, PyData.depth, dep_ints L]
theorem eqv_ints : ∀ L M : List Int, PyData.eqvAll (L.map .int) (M.map .int) = decide (L = M)
  | [], [] => by simp [PyData.eqvAll]
  | [], j :: M => by simp [PyData.eqvAll]
  | i :: L, [] => by simp [PyData.eqvAll]
  | i :: L, j :: M => by
    simp only [List.map_cons, PyData.eqvAll, PyData.eqv, eqv_ints L M]
    by_cases h1 : i = j <;> by_cases h2 : L = M <;> simp [h1, h2]
theorem add_tt {a b : List D} {S : Sto} (h : a.length + b.length ≤ 1000000) : addD (.tup a) (.tup b) S = .ok (.tup (a ++ b)) S := by
  show (if a.length + b.length ≤ 1000000 then Out.ok (D.tup (a ++ b)) S else .bad) = _
  rw [if_pos h]
theorem sok_app {a b : Str} (h1 : PyData.strOk a = true) (h2 : PyData.strOk b = true) : PyData.strOk (a ++ b) = true := by
  unfold PyData.strOk at *
  show ((a.cps ++ b.cps).all fun x => decide (x < 1114112)) = true
  rw [Array.all_append, h1, h2]
  rfl
theorem join_ok {n : Nat} : ∀ ts : List Str, (∀ t ∈ ts, PyData.strOk t = true ∧ t.length ≤ n) → PyData.strOk (Str.join ", " ts) = true ∧ (Str.join ", " ts).length ≤ (n + 2) * ts.length
  | [], _ => ⟨by decide +kernel, by show (Str.join ", " []).length ≤ _; exact Nat.le_of_eq (by rfl)⟩
  | [x], h => by
    obtain ⟨h1, h2⟩ := h x List.mem_cons_self
    exact ⟨h1, by show x.length ≤ _; simp; omega⟩
  | x :: y :: r, h => by
    obtain ⟨h1, h2⟩ := h x List.mem_cons_self
    obtain ⟨h3, h4⟩ := join_ok (y :: r) fun t ht => h t (List.mem_cons_of_mem _ ht)
    have e : Str.join ", " (x :: y :: r) = x ++ ", " ++ Str.join ", " (y :: r) := rfl
    refine ⟨by rw [e]; exact sok_app (sok_app h1 (stok _)) h3, ?_⟩
    rw [e, Str.length_append, Str.length_append]
    have e2 : ((", " : String) : Str).length = 2 := rfl
    rw [e2]
    simp only [List.length_cons] at h4 ⊢
    have : (n + 2) * (r.length + 1 + 1) = (n + 2) * (r.length + 1) + (n + 2) := by rw [Nat.mul_add (n + 2) (r.length + 1) 1]; omega
    omega
theorem tup_ok {n : Nat} {ts : List Str} (h : ∀ t ∈ ts, PyData.strOk t = true ∧ t.length ≤ n) : PyData.strOk (tupleText ts) = true ∧ (tupleText ts).length ≤ (n + 2) * ts.length + 3 := by
  obtain ⟨h1, h2⟩ := join_ok ts h
  unfold tupleText
  refine ⟨sok_app (sok_app (stok _) h1) (stok _), ?_⟩
  rw [Str.length_append, Str.length_append]
  have e1 : (("(" : String) : Str).length = 1 := rfl
  have e2 : ∀ b : Bool, (((if b = true then ",)" else ")" : String) : Str)).length ≤ 2 := fun b => by cases b <;> decide +kernel
  have := e2 (ts.length == 1)
  rw [e1]
  omega
theorem shownAll_len : ∀ L : List PyData, (PyData.shownAll L).length = L.length
  | [] => rfl
  | a :: L => by show (PyData.shown a :: PyData.shownAll L).length = _; simp [shownAll_len L]
end Law
set_option Elab.async false
set_option linter.all false
set_option maxRecDepth 100000
namespace Law
open PySem PySem.Spec PyProof.Rows L2 DL
theorem list_t {l : List D} {S : Sto} : listD [.tup l] S = .ok (.lst S.length) (S ++ [⟨false, l⟩]) := id rfl
structure Rw (S : Sto) (q x y z : Nat) (A B C : List D) : Prop where
  q0 : S[q]? = some ⟨false, [.lst x, .lst y, .lst z]⟩
  q1 : S[x]? = some ⟨false, A⟩
  q2 : S[y]? = some ⟨false, B⟩
  q3 : S[z]? = some ⟨false, C⟩
theorem forN_some {nxt : Nat → Sto → Option D} {g : Tg} {b : Sv} {n k : Nat} {ρ ρ1 ρ2 : Lc} {S S2 : Sto} {d : D} (h : nxt k S = some d) (h2 : g d ρ = some ρ1) (h3 : b ρ1 S = .nx ρ2 S2) : forN nxt g b (n + 1) k ρ S = forN nxt g b n (k + 1) ρ2 S2 := by
  conv => lhs; unfold forN
  simp only [h, h2, h3]
theorem forN_none {nxt : Nat → Sto → Option D} {g : Tg} {b : Sv} {n k : Nat} {ρ : Lc} {S : Sto} (h : nxt k S = none) : forN nxt g b (n + 1) k ρ S = .nx ρ S := by
  conv => lhs; unfold forN
  simp only [h]
theorem lists_ok {A B C : List D} {f : Ev D} {ρ : Lc} {S : Sto} (hf : f ρ S = .ok (.tup [.tup A, .tup B, .tup C]) S) : ∃ S', cmp (isrc f) [none] (gn 0) ttrue (b1 listD (ac (vr 0) an)) ρ S = .ok (.lst S.length) S' ∧ Rw S' S.length (S.length + 1) (S.length + 2) (S.length + 3) A B C ∧ Ex S S' := by
  have w : ∀ (l : Sto) (j : Nat), (S ++ l)[S.length + j]? = l[j]? := fun l j => by
    rw [List.getElem?_append_right (by omega)]
    congr 1
    omega
  have w0 : ∀ l : Sto, (S ++ l)[S.length]? = l[0]? := fun l => w l 0
  have st : ∀ (l : Sto) (c : Cell) (X : D), (S ++ (c :: l)).set S.length ⟨false, c.xs ++ [X]⟩ = S ++ (⟨false, c.xs ++ [X]⟩ :: l) := fun l c X => by
    rw [List.set_append_right _ _ (Nat.le_refl _), Nat.sub_self]; rfl
  have ev : ∀ (X : List D) (S' : Sto), b1 listD (ac (vr 0) an) [some (.tup X)] S' = .ok (.lst S'.length) (S' ++ [⟨false, X⟩]) := fun X S' => by simp [list_t]
  have b1' : cbody S.length ttrue (b1 listD (ac (vr 0) an)) [some (.tup A)] (S ++ [⟨false, []⟩]) = .nx [some (.tup A)] (S ++ [⟨false, [.lst (S.length + 1)]⟩, ⟨false, A⟩]) := by
    have := cbody_ok (a := S.length) (ev A (S ++ [⟨false, []⟩])) (xs := []) (by rw [List.append_assoc]; exact w0 _) (by simp)
    rw [this, List.append_assoc]
    refine congrArg (OS.nx _) ?_
    have q := st [⟨false, A⟩] ⟨false, []⟩ (.lst (S.length + 1))
    simpa using q
  have b2' : cbody S.length ttrue (b1 listD (ac (vr 0) an)) [some (.tup B)] (S ++ [⟨false, [.lst (S.length + 1)]⟩, ⟨false, A⟩]) = .nx [some (.tup B)] (S ++ [⟨false, [.lst (S.length + 1), .lst (S.length + 2)]⟩, ⟨false, A⟩, ⟨false, B⟩]) := by
    have := cbody_ok (a := S.length) (ev B (S ++ [⟨false, [.lst (S.length + 1)]⟩, ⟨false, A⟩])) (xs := [.lst (S.length + 1)]) (by rw [List.append_assoc]; exact w0 _) (by simp)
    rw [this, List.append_assoc]
    refine congrArg (OS.nx _) ?_
    have q := st [⟨false, A⟩, ⟨false, B⟩] ⟨false, [.lst (S.length + 1)]⟩ (.lst (S.length + 2))
    simpa using q
  have b3' : cbody S.length ttrue (b1 listD (ac (vr 0) an)) [some (.tup C)] (S ++ [⟨false, [.lst (S.length + 1), .lst (S.length + 2)]⟩, ⟨false, A⟩, ⟨false, B⟩]) = .nx [some (.tup C)] (S ++ [⟨false, [.lst (S.length + 1), .lst (S.length + 2), .lst (S.length + 3)]⟩, ⟨false, A⟩, ⟨false, B⟩, ⟨false, C⟩]) := by
    have := cbody_ok (a := S.length) (ev C (S ++ [⟨false, [.lst (S.length + 1), .lst (S.length + 2)]⟩, ⟨false, A⟩, ⟨false, B⟩])) (xs := [.lst (S.length + 1), .lst (S.length + 2)]) (by rw [List.append_assoc]; exact w0 _) (by simp)
    rw [this, List.append_assoc]
    refine congrArg (OS.nx _) ?_
    have q := st [⟨false, A⟩, ⟨false, B⟩, ⟨false, C⟩] ⟨false, [.lst (S.length + 1), .lst (S.length + 2)]⟩ (.lst (S.length + 3))
    simpa using q
  have lp : forN (srcT [.tup A, .tup B, .tup C]).nxt (gn 0) (cbody S.length ttrue (b1 listD (ac (vr 0) an))) (srcT [.tup A, .tup B, .tup C]).fuel 0 [none] (S ++ [⟨false, []⟩]) = .nx [some (.tup C)] (S ++ [⟨false, [.lst (S.length + 1), .lst (S.length + 2), .lst (S.length + 3)]⟩, ⟨false, A⟩, ⟨false, B⟩, ⟨false, C⟩]) := by
    show forN _ _ _ (3 + 1) 0 _ _ = _
    rw [forN_some (d := .tup A) rfl rfl b1', forN_some (d := .tup B) rfl rfl b2', forN_some (d := .tup C) rfl rfl b3', forN_none rfl]
  refine ⟨_, cmp_ok (s := srcT [.tup A, .tup B, .tup C]) (S1 := S) (by rw [isrc_ap, hf]; rfl) lp, ⟨w0 _, w _ 1, w _ 2, w _ 3⟩, ⟨by simp, fun i hi => by rw [List.getElem?_append_left hi]⟩⟩
theorem tups_ok {A B C : List D} {q x y z : Nat} {f : Ev D} {ρ : Lc} {S : Sto} (h : Rw S q x y z A B C) (hf : f ρ S = .ok (.lst q) S) : ∃ S', b1 tupD (ac (cmp (isrc f) [none] (gn 0) ttrue (b1 tupD (ac (vr 0) an))) an) ρ S = .ok (.tup [.tup A, .tup B, .tup C]) S' ∧ Ex S S' := by
  have ev : ∀ (i : Nat) (X : List D) (S' : Sto), S'[i]? = some ⟨false, X⟩ → b1 tupD (ac (vr 0) an) [some (.lst i)] S' = .ok (.tup X) S' := fun i X S' e => by simp [tup_l e]
  have S1x : Ex S (S ++ [⟨false, []⟩]) := Ex.app
  have c0 : (S ++ [(⟨false, []⟩ : Cell)])[S.length]? = some ⟨false, []⟩ := app_at
  have b1' := cbody_ok (a := S.length) (ρ := [some (.lst x)]) (ev x A _ (S1x.at h.q1)) c0 (by simp)
  have l1 : S.length < (S ++ [(⟨false, []⟩ : Cell)]).length := by simp
  have S2x := S1x.setq (q := S.length) (c := ⟨false, [] ++ [.tup A]⟩) (Nat.le_refl _)
  have c1 := List.getElem?_set_self (a := (⟨false, [] ++ [.tup A]⟩ : Cell)) l1
  generalize hS1 : (S ++ [(⟨false, []⟩ : Cell)]) = S1 at *
  generalize S1.set S.length ⟨false, [] ++ [.tup A]⟩ = S2 at *
  have b2' := cbody_ok (a := S.length) (ρ := [some (.lst y)]) (ev y B _ (S2x.at h.q2)) c1 (by simp)
  have l2 : S.length < S2.length := (List.getElem?_eq_some_iff.mp c1).1
  have S3x := S2x.setq (q := S.length) (c := ⟨false, ([] ++ [.tup A]) ++ [.tup B]⟩) (Nat.le_refl _)
  have c2 := List.getElem?_set_self (a := (⟨false, ([] ++ [.tup A]) ++ [.tup B]⟩ : Cell)) l2
  generalize S2.set S.length ⟨false, ([] ++ [.tup A]) ++ [.tup B]⟩ = S3 at *
  have b3' := cbody_ok (a := S.length) (ρ := [some (.lst z)]) (ev z C _ (S3x.at h.q3)) c2 (by simp)
  have l3 : S.length < S3.length := (List.getElem?_eq_some_iff.mp c2).1
  have S4x := S3x.setq (q := S.length) (c := ⟨false, (([] ++ [.tup A]) ++ [.tup B]) ++ [.tup C]⟩) (Nat.le_refl _)
  have c3 := List.getElem?_set_self (a := (⟨false, (([] ++ [.tup A]) ++ [.tup B]) ++ [.tup C]⟩ : Cell)) l3
  generalize S3.set S.length ⟨false, (([] ++ [.tup A]) ++ [.tup B]) ++ [.tup C]⟩ = S4 at *
  have nx : ∀ (S' : Sto) (k : Nat), Ex S S' → (srcL q 3).nxt k S' = [D.lst x, .lst y, .lst z][k]? := fun S' k e => by
    show (S'[q]?).bind (fun c => c.xs[k]?) = _
    rw [e.at h.q0]; rfl
  have lp : forN (srcL q 3).nxt (gn 0) (cbody S.length ttrue (b1 tupD (ac (vr 0) an))) (srcL q 3).fuel 0 [none] S1 = .nx [some (.lst z)] S4 := by
    show forN _ _ _ (3 + 1) 0 _ _ = _
    rw [forN_some (nx _ _ S1x) rfl b1', forN_some (nx _ _ S2x) rfl b2', forN_some (nx _ _ S3x) rfl b3', forN_none (nx _ _ S4x)]
  refine ⟨S4, ?_, S4x⟩
  have hc : cmp (isrc f) [none] (gn 0) ttrue (b1 tupD (ac (vr 0) an)) ρ S = .ok (.lst S.length) S4 := by
    unfold cmp
    rw [isrc_ap, hf, bind_ok, src_l h.q0]
    show (match forN (srcL q 3).nxt (gn 0) (cbody S.length ttrue (b1 tupD (ac (vr 0) an))) (srcL q 3).fuel 0 [none] (S ++ [⟨false, []⟩]) with | .nx _ S' => Out.ok (D.lst S.length) S' | _ => .bad) = _
    rw [hS1, lp]
  rw [b1_ap, ac_ap, hc, bind_ok, an_ap, bind_ok, bind_ok, tup_l c3]
  rfl
end Law
set_option Elab.async false
set_option linter.all false
set_option maxRecDepth 100000
namespace Law
open PySem PySem.Spec PyProof.Rows L2 DL
def plc (mid : List Pl) : List Pl := .e :: (mid ++ [.e])
theorem plc_len {mid : List Pl} : (plc mid).length = mid.length + 2 := by simp [plc]
theorem plc_ok {mid : List Pl} (h : ∀ p ∈ mid, p.ok ∧ p.isE = false) : ∀ p ∈ plc mid, p.ok := fun p hp => by
  rcases List.mem_cons.mp hp with rfl | hp
  · trivial
  · rcases List.mem_append.mp hp with hp | hp
    · exact (h p hp).1
    · have : p = .e := by simpa using hp
      subst this
      trivial
theorem mem_at {L : List Int} {i : Int} (h : i ∈ L) : ∃ k, k < L.length ∧ L[k]? = some i := by
  obtain ⟨k, hk, e⟩ := List.getElem_of_mem h
  exact ⟨k, hk, by rw [List.getElem?_eq_getElem hk, e]⟩
theorem StR.nn {cr : Int} {ps : List Pl} {L R F : List Int} (h : StR cr ps L R F) : (∀ i ∈ L, 0 ≤ i) ∧ (∀ i ∈ R, 0 ≤ i) ∧ ∀ i ∈ F, 0 ≤ i := by
  refine ⟨fun i hi => ?_, fun i hi => ?_, fun i hi => ?_⟩
  · obtain ⟨k, hk, e⟩ := mem_at hi
    rw [h.lL] at hk
    obtain ⟨l, r, f, e1, e2, e3, e4⟩ := h.at' k _ (List.getElem?_eq_getElem hk)
    rw [e] at e1; cases e1; exact e4.1
  · obtain ⟨k, hk, e⟩ := mem_at hi
    rw [h.lR] at hk
    obtain ⟨l, r, f, e1, e2, e3, e4⟩ := h.at' k _ (List.getElem?_eq_getElem hk)
    rw [e] at e2; cases e2; exact e4.2.1
  · obtain ⟨k, hk, e⟩ := mem_at hi
    rw [h.lF] at hk
    obtain ⟨l, r, f, e1, e2, e3, e4⟩ := h.at' k _ (List.getElem?_eq_getElem hk)
    rw [e] at e3; cases e3; exact e4.2.2.1
theorem vOk_le {cr : Int} {p : Pl} {l r f : Int} (ok : p.ok) (hc : cr ≤ 7) (h : vOk cr p l r f) : l ≤ 1000 ∧ r ≤ 1000 ∧ f ≤ 1000 := by
  obtain ⟨h1, h2, h3, h4⟩ := h
  cases p with
  | e => obtain ⟨a, b, c⟩ := h4; omega
  | c => obtain ⟨a, b⟩ := h4; omega
  | p br de ro pr =>
    obtain ⟨a, b⟩ := h4
    obtain ⟨_, o1, _, _, _, o2, _⟩ := ok
    omega
theorem StR.le {cr : Int} {ps : List Pl} {L R F : List Int} (h : StR cr ps L R F) (hp : ∀ p ∈ ps, p.ok) (hc : cr ≤ 7) : (∀ i ∈ L, 0 ≤ i ∧ i ≤ 1000) ∧ (∀ i ∈ R, 0 ≤ i ∧ i ≤ 1000) ∧ ∀ i ∈ F, 0 ≤ i ∧ i ≤ 1000 := by
  obtain ⟨n1, n2, n3⟩ := h.nn
  refine ⟨fun i hi => ⟨n1 i hi, ?_⟩, fun i hi => ⟨n2 i hi, ?_⟩, fun i hi => ⟨n3 i hi, ?_⟩⟩
  · obtain ⟨k, hk, e⟩ := mem_at hi
    rw [h.lL] at hk
    obtain ⟨l, r, f, e1, e2, e3, e4⟩ := h.at' k _ (List.getElem?_eq_getElem hk)
    rw [e] at e1; cases e1; exact (vOk_le (hp _ (List.getElem_mem hk)) hc e4).1
  · obtain ⟨k, hk, e⟩ := mem_at hi
    rw [h.lR] at hk
    obtain ⟨l, r, f, e1, e2, e3, e4⟩ := h.at' k _ (List.getElem?_eq_getElem hk)
    rw [e] at e2; cases e2; exact (vOk_le (hp _ (List.getElem_mem hk)) hc e4).2.1
  · obtain ⟨k, hk, e⟩ := mem_at hi
    rw [h.lF] at hk
    obtain ⟨l, r, f, e1, e2, e3, e4⟩ := h.at' k _ (List.getElem?_eq_getElem hk)
    rw [e] at e3; cases e3; exact (vOk_le (hp _ (List.getElem_mem hk)) hc e4).2.2
theorem cnt_ints {m : Nat} {L : List Int} (h1 : L.length = m) (h2 : ∀ i ∈ L, 0 ≤ i) : cnt m (.tup (L.map D.int)) = true := by
  have : (L.map D.int).all nnI = true := by
    rw [List.all_eq_true]
    intro d hd
    obtain ⟨i, hi, rfl⟩ := List.mem_map.mp hd
    exact decide_eq_true (h2 i hi)
  simp [cnt, h1, this]
end Law
set_option Elab.async false
set_option linter.all false
set_option maxRecDepth 100000
namespace Law
open PySem PySem.Spec PyProof.Rows L2 DL
abbrev CD (mid : List Pl) (gd : D) : D := .tup [.tup ((plc mid).map Pl.toD), gd]
theorem sum_by (v : Pl → Int) : ∀ (ps : List Pl) (R F : List Int), R.length = ps.length → F.length = ps.length → (∀ (i : Nat) (p : Pl), ps[i]? = some p → ∃ r f, R[i]? = some r ∧ F[i]? = some f ∧ r + f ≤ v p) → R.sum + F.sum ≤ (ps.map v).sum
  | [], R, F, h1, h2, _ => by
    have : R = [] := List.length_eq_zero_iff.mp h1
    have : F = [] := List.length_eq_zero_iff.mp h2
    subst_vars
    simp
  | p :: ps, R, F, h1, h2, h => by
    cases R with
    | nil => simp at h1
    | cons r R =>
      cases F with
      | nil => simp at h2
      | cons f F =>
        obtain ⟨r', f', e1, e2, e3⟩ := h 0 p rfl
        cases (Option.some.inj e1)
        cases (Option.some.inj e2)
        have ih := sum_by v ps R F (by simpa using h1) (by simpa using h2) fun i q hq => h (i + 1) q (by simpa using hq)
        rw [List.sum_cons, List.sum_cons, List.map_cons, List.sum_cons]
        omega
def bw : Pl → Int
  | .e => 14
  | p => wt p
theorem bw_mid : ∀ {mid : List Pl}, (∀ p ∈ mid, p.ok ∧ p.isE = false) → (mid.map bw).sum = (mid.map wt).sum
  | [], _ => rfl
  | p :: r, h => by
    have := bw_mid (mid := r) fun q hq => h q (List.mem_cons_of_mem _ hq)
    have hp := (h p List.mem_cons_self).2
    rw [List.map_cons, List.map_cons, List.sum_cons, List.sum_cons, this]
    cases p with
    | e => cases hp
    | c => rfl
    | p br de ro pr => rfl
theorem st_true {cr : Int} {mid : List Pl} {L R F : List Int} (hm : ∀ p ∈ mid, p.ok ∧ p.isE = false) (hw : Wt mid) (hl : mid.length ≤ 11) (hc : cr ≤ 7) (h : StR cr (plc mid) L R F) : isSt (plc mid) (stD L R F) = true := by
  obtain ⟨n1, n2, n3⟩ := h.nn
  have hsum := sum_by bw (plc mid) R F h.lR h.lF fun i p hp => by
    obtain ⟨l, r, f, e1, e2, e3, e4⟩ := h.at' i p hp
    refine ⟨r, f, e2, e3, ?_⟩
    have ok := plc_ok hm p (List.mem_of_getElem? hp)
    have := e4.2.2.2
    cases p with
    | e => simp only at this; show r + f ≤ 14; omega
    | c => simp only at this; show r + f ≤ 1; omega
    | p br de ro pr =>
      simp only at this
      obtain ⟨_, _, _, _, _, o2, _⟩ := ok
      show r + f ≤ 4
      omega
  have hs : ((plc mid).map bw).sum = 28 + (mid.map wt).sum := by
    unfold plc
    rw [List.map_cons, List.sum_cons, List.map_append, List.sum_append, bw_mid hm]
    show 14 + (_ + (14 + 0)) = _
    omega
  have hg : (List.range (plc mid).length).all (gk (plc mid) L R F) = true := by
    rw [List.all_eq_true]
    intro k hk
    have hk : k < (plc mid).length := List.mem_range.mp hk
    obtain ⟨l, r, f, e1, e2, e3, e4⟩ := h.at' k _ (List.getElem?_eq_getElem hk)
    have hgk : gk (plc mid) L R F k = (decide (l ≤ wat (plc mid)[k]) && hol (plc mid)[k] (r + f)) := by simp only [gk, List.getElem?_eq_getElem hk, e1, e2, e3]
    rw [hgk]
    have e5 := e4.2.2.2
    cases hpk : (plc mid)[k] with
    | e => rw [hpk] at e5; simp only at e5; simp [wat, hol, e5.1]
    | c => rw [hpk] at e5; simp only at e5; simp [wat, hol, e5.1, e5.2]
    | p br de ro pr => rw [hpk] at e5; simp only at e5; simp [wat, hol, e5.1, e5.2]
  show (((cnt (plc mid).length (.tup (L.map D.int)) && cnt (plc mid).length (.tup (R.map D.int))) && cnt (plc mid).length (.tup (F.map D.int))) && ((List.range (plc mid).length).all (gk (plc mid) (intsD (.tup (L.map D.int))) (intsD (.tup (R.map D.int))) (intsD (.tup (F.map D.int)))) && decide ((intsD (.tup (R.map D.int))).sum + (intsD (.tup (F.map D.int))).sum ≤ 60))) = true
  rw [ints_map', ints_map', ints_map', cnt_ints h.lL n1, cnt_ints h.lR n2, cnt_ints h.lF n3, hg]
  have : R.sum + F.sum ≤ 60 := by
    have := hw.le
    omega
  simp [this]
end Law
set_option Elab.async false
set_option linter.all false
set_option maxRecDepth 100000
namespace Law
open PySem PySem.Spec PyProof.Rows L2 DL
theorem sl_to {M : List Int} {k : Nat} {S : Sto} (h : k < M.length) : slD2 (.tup (M.map D.int)) none (some (k : Int)) S = .ok (.tup ((M.take k).map D.int)) S := by
  have e2 : HT.sIx (M.map D.int).length (M.map D.int).length (some (k : Int)) = k := by
    rw [HT.sIx_nat, List.length_map]
    omega
  show (if HT.sIx (M.map D.int).length 0 none = 0 ∧ HT.sIx (M.map D.int).length (M.map D.int).length (some (k : Int)) = (M.map D.int).length then Out.ok (D.tup (M.map D.int)) S else .ok (.tup (DL.cutD (M.map D.int) none (some (k : Int)))) S) = _
  rw [if_neg (by rw [e2, List.length_map]; omega)]
  unfold DL.cutD
  rw [e2, HT.sIx_none, List.map_take]
  rfl
theorem sl_less {M : List Int} {S : Sto} (h : 1 ≤ M.length) : slD2 (.tup (M.map D.int)) none (some (-1)) S = .ok (.tup ((M.take (M.length - 1)).map D.int)) S := by
  have e2 : HT.sIx (M.map D.int).length (M.map D.int).length (some (-1)) = M.length - 1 := by
    show (if (-1 : Int) < 0 then ((-1 : Int) + ((M.map D.int).length : Int)).toNat else min (-1 : Int).toNat (M.map D.int).length) = _
    rw [if_pos (by decide)]
    simp
    omega
  show (if HT.sIx (M.map D.int).length 0 none = 0 ∧ HT.sIx (M.map D.int).length (M.map D.int).length (some (-1)) = (M.map D.int).length then Out.ok (D.tup (M.map D.int)) S else .ok (.tup (DL.cutD (M.map D.int) none (some (-1)))) S) = _
  rw [if_neg (by rw [e2, List.length_map]; omega)]
  unfold DL.cutD
  rw [e2, HT.sIx_none, List.map_take]
  rfl
theorem sl_from1 {x : D} {l : List D} {S : Sto} : slD2 (.tup (x :: l)) (some 1) none S = .ok (.tup l) S := by
  have e1 : HT.sIx (x :: l).length 0 (some 1) = 1 := by
    have := HT.sIx_nat (x :: l).length 0 1
    rw [show ((1 : Nat) : Int) = 1 from rfl] at this
    rw [this]
    simp
  show (if HT.sIx (x :: l).length 0 (some 1) = 0 ∧ HT.sIx (x :: l).length (x :: l).length none = (x :: l).length then Out.ok (D.tup (x :: l)) S else .ok (.tup (DL.cutD (x :: l) (some 1) none)) S) = _
  rw [if_neg (by rw [e1]; simp)]
  unfold DL.cutD
  rw [e1, HT.sIx_none]
  simp
theorem sl_drop {M : List Int} {S : Sto} (h : 1 ≤ M.length) : slD2 (.tup (M.map D.int)) (some 1) none S = .ok (.tup ((M.drop 1).map D.int)) S := by
  cases M with
  | nil => simp at h
  | cons a M => exact sl_from1
def thr (R F : List Int) : Bool := decide ((R.take (R.length - 1)).sum = 0) && decide ((F.drop 1).sum = 0)
theorem through_ok {ps : List D} {gd : D} {L R F : List Int} {S : Sto} (h1 : 1 ≤ ps.length) (lR : R.length = ps.length) (lF : F.length = ps.length) : f_is_through [.tup [.tup ps, gd], stD L R F] S = .ok (.bl (thr R F)) S := by
  obtain ⟨k, hk⟩ : ∃ k : Nat, ps.length = k + 1 := ⟨ps.length - 1, by omega⟩
  have g0 : DL.getD (.tup [.tup ps, gd]) (.int 0) S = .ok (.tup ps) S := get_t rfl
  have g1 : DL.getD (stD L R F) (.int 1) S = .ok (.tup (R.map D.int)) S := get_t rfl
  have g2 : DL.getD (stD L R F) (.int 2) S = .ok (.tup (F.map D.int)) S := get_t rfl
  have ln : lenD [.tup ps] S = .ok (.int ((k : Int) + 1)) S := by rw [len_t, hk]; rfl
  have s1 : slD2 (.tup (R.map D.int)) none (some (k : Int)) S = .ok (.tup ((R.take k).map D.int)) S := sl_to (by omega)
  have s2 : slD2 (.tup (F.map D.int)) (some 1) none S = .ok (.tup ((F.drop 1).map D.int)) S := sl_drop (by omega)
  have hR : R.length - 1 = k := by omega
  unfold thr
  rw [hR]
  refine (fnB_ap (m := 5) (b := b_is_through)).trans ?_
  show fin (b_is_through [some (.tup [.tup ps, gd]), some (stD L R F), none, none, none] S) = _
  unfold b_is_through
  refine (fin_nx (ρ' := [some (.tup [.tup ps, gd]), some (stD L R F), some (.int k), none, none]) (S' := S) (by
    simp only [sa_ap, o2_ap, b1_ap, ac_ap, an_ap, vr_ap, cn_ap, List.getElem?_cons_zero, List.getElem?_cons_succ, bind_ok, g0, ln, sub_ii, bindS_ok, gn_ap]
    rw [show (k : Int) + 1 - 1 = k by omega]
    rfl)).trans ?_
  refine (fin_nx (ρ' := [some (.tup [.tup ps, gd]), some (stD L R F), some (.int k), some (.tup (R.map D.int)), some (.tup (F.map D.int))]) (S' := S) (by
    unfold spar
    simp only [o2_ap, ac_ap, an_ap, vr_ap, cn_ap, List.getElem?_cons_zero, List.getElem?_cons_succ, bind_ok, g1, g2, bindS_ok]
    rfl)).trans ?_
  have v1 : o2 eqD (b1 sumD (ac (sl2 (vr 3) onone (osome (vr 2))) an)) (cn (.int 0)) [some (.tup [.tup ps, gd]), some (stD L R F), some (.int k), some (.tup (R.map D.int)), some (.tup (F.map D.int))] S = .ok (.bl (decide ((R.take k).sum = 0))) S := by
    simp only [o2_ap, b1_ap, ac_ap, an_ap, sl2_ap, osome_ap, onone_ap, vr_ap, cn_ap, List.getElem?_cons_zero, List.getElem?_cons_succ, bind_ok, s1, sum_t, eq_ii]
  have v2 : o2 eqD (b1 sumD (ac (sl2 (vr 4) (osome (cn (.int 1))) onone) an)) (cn (.int 0)) [some (.tup [.tup ps, gd]), some (stD L R F), some (.int k), some (.tup (R.map D.int)), some (.tup (F.map D.int))] S = .ok (.bl (decide ((F.drop 1).sum = 0))) S := by
    simp only [o2_ap, b1_ap, ac_ap, an_ap, sl2_ap, osome_ap, onone_ap, vr_ap, cn_ap, List.getElem?_cons_zero, List.getElem?_cons_succ, bind_ok, s2, sum_t, eq_ii]
  rw [sret_ap, va_ap, v1, bind_ok]
  cases z : decide ((R.take k).sum = 0) with
  | false => rfl
  | true => simp only [v2, bindS_ok, Bool.true_and]; rfl
end Law
set_option Elab.async false
set_option linter.all false
set_option maxRecDepth 100000
namespace Law
open PySem PySem.Spec PyProof.Rows L2 DL
theorem sum_nn : ∀ {M : List Int}, (∀ i ∈ M, 0 ≤ i) → 0 ≤ M.sum
  | [], _ => by simp
  | a :: M, h => by
    have := sum_nn (M := M) fun i hi => h i (List.mem_cons_of_mem _ hi)
    have := h a List.mem_cons_self
    rw [List.sum_cons]; omega
theorem fil_nil : ∀ {M : List Int}, (∀ i ∈ M, 0 ≤ i) → (M.filter (fun i => decide (0 < i)) = [] ↔ M.sum = 0)
  | [], _ => by simp
  | a :: M, h => by
    have ih := fil_nil (M := M) fun i hi => h i (List.mem_cons_of_mem _ hi)
    have s0 := sum_nn (M := M) fun i hi => h i (List.mem_cons_of_mem _ hi)
    have a0 := h a List.mem_cons_self
    rw [List.sum_cons]
    by_cases c : 0 < a
    · rw [List.filter_cons_of_pos (by simpa using c)]
      constructor
      · intro z; cases z
      · intro z; omega
    · rw [List.filter_cons_of_neg (by simpa using c), ih]
      omega
end Law
set_option Elab.async false
set_option linter.all false
set_option maxRecDepth 100000
namespace Law
open PySem PySem.Spec PyProof.Rows L2 DL
theorem fil_comp {M : List Int} {ρ : Lc} {f : Ev D} {S : Sto} (hf : f ρ S = .ok (.tup (M.map D.int)) S) (hl : M.length < 1000) :
    ∃ S', cmp (isrc f) [none] (gn 0) (tb (o2 gtD (vr 0) (cn (.int 0)))) (vr 0) ρ S = .ok (.lst S.length) S' ∧ S'[S.length]? = some ⟨false, (M.filter (fun i => decide (0 < i))).map D.int⟩ ∧ Ex S S' := by
  obtain ⟨ρ', S', el, g, hρ, hq, hx⟩ := for_inv (nxt := (srcT (M.map D.int)).nxt) (g := gn 0) (b := cbody S.length (tb (o2 gtD (vr 0) (cn (.int 0)))) (vr 0)) (l := M.map D.int)
    (fun i ρ S' => ∃ g, ρ = [g] ∧ S'[S.length]? = some ⟨false, ((M.take i).filter (fun i => decide (0 < i))).map D.int⟩ ∧ Ex S S')
    (fun _ _ _ _ => rfl) (fun i d ρ S' hd ⟨g, h1, h2, h3⟩ => by
      subst h1
      obtain ⟨x, hx, rfl⟩ : ∃ x, M[i]? = some x ∧ d = .int x := by
        rw [List.getElem?_map] at hd
        cases z : M[i]? with
        | none => rw [z] at hd; cases hd
        | some x => rw [z] at hd; exact ⟨x, rfl, (Option.some.inj hd).symm⟩
      have lq : S.length < S'.length := (List.getElem?_eq_some_iff.mp h2).1
      have ht : M.take (i + 1) = M.take i ++ [x] := by rw [List.take_add_one, hx]; rfl
      have hlen : ((M.take i).filter (fun i => decide (0 < i))).length ≤ M.length := Nat.le_trans (List.length_filter_le _ _) (by simp; omega)
      by_cases c : 0 < x
      · refine ⟨[some (.int x)], [some (.int x)], S'.set S.length ⟨false, ((M.take i).filter (fun i => decide (0 < i))).map D.int ++ [.int x]⟩, rfl, ?_, some (.int x), rfl, ?_, h3.setq (Nat.le_refl _)⟩
        · unfold cbody
          simp only [tb_ap, o2_ap, vr_ap, cn_ap, List.getElem?_cons_zero, bind_ok, gt_ii, decide_eq_true c, bindS_ok, if_true, h2]
          rw [if_pos ⟨trivial, by simp only [List.length_map]; omega⟩]
        · rw [List.getElem?_set_self lq, ht, List.filter_append]
          simp [c]
      · refine ⟨[some (.int x)], [some (.int x)], S', rfl, ?_, some (.int x), rfl, ?_, h3⟩
        · unfold cbody
          simp only [tb_ap, o2_ap, vr_ap, cn_ap, List.getElem?_cons_zero, bind_ok, gt_ii, decide_eq_false c, bindS_ok]
          rfl
        · rw [h2, ht, List.filter_append]
          simp [c]) (srcT (M.map D.int)).fuel 0 [none] (S ++ [⟨false, []⟩]) (Nat.zero_le _) ⟨none, rfl, by simp [app_at], Ex.app⟩ fuelT
  rw [List.length_map, List.take_length] at hq
  exact ⟨S', cmp_ok (pk := [none]) (ρ := ρ) (S := S) (f := isrc f) (s := srcT (M.map D.int)) (S1 := S) (by rw [isrc_ap, hf]; rfl) el, hq, hx⟩
end Law
set_option Elab.async false
set_option linter.all false
set_option maxRecDepth 100000
namespace Law
open PySem PySem.Spec PyProof.Rows L2 DL
theorem eq_l0 {S : Sto} {a b : Nat} {M : List Int} (ha : S[a]? = some ⟨false, M.map D.int⟩) (hb : S[b]? = some ⟨false, []⟩) : eqD (.lst a) (.lst b) S = .ok (.bl (decide (M = []))) S := by
  have h1 : toP S 40 (.lst a) = some (.list (M.map .int)) := by
    show (match S[a]? with | some c => (mapO (toP S 39) c.xs).map PyData.list | none => none) = _
    rw [ha]
    show (mapO (toP S 39) (M.map D.int)).map PyData.list = _
    rw [toP_ints (n := 38)]; rfl
  have h2 : toP S 40 (.lst b) = some (.list []) := by
    show (match S[b]? with | some c => (mapO (toP S 39) c.xs).map PyData.list | none => none) = _
    rw [hb]
    rfl
  simp only [eqD, h1, h2]
  rw [if_pos (by simp [SeqAt.shaped, PyData.canLay0, PyData.canLayAll0, lay_ints, PyData.depth, PyData.depthAll, dep_ints])]
  refine congrArg (fun v => Out.ok (D.bl v) S) ?_
  simp only [PyData.eqv]
  exact eqv_ints M []
end Law
set_option Elab.async false
set_option linter.all false
set_option maxRecDepth 100000
namespace Law
open PySem PySem.Spec PyProof.Rows L2 DL
theorem own_ok {L R F : List Int} {ρ : Lc} {S : Sto} (hv : ∀ S, vr 4 ρ S = .ok (stD L R F) S) (nR : ∀ i ∈ R, 0 ≤ i) (nF : ∀ i ∈ F, 0 ≤ i) (lR : 1 ≤ R.length) (lR2 : R.length ≤ 100) (lF : 1 ≤ F.length) (lF2 : F.length ≤ 100) :
    ∃ S', o2 eqD (cmp (isrc (o2 addD (sl2 (o2 DL.getD (vr 4) (cn (.int 1))) onone (osome (o1 negD (cn (.int 1))))) (sl2 (o2 DL.getD (vr 4) (cn (.int 2))) (osome (cn (.int 1))) onone))) [none] (gn 0) (tb (o2 gtD (vr 0) (cn (.int 0)))) (vr 0)) (ls an) ρ S = .ok (.bl (thr R F)) S' ∧ Ex S S' := by
  have g1 : DL.getD (stD L R F) (.int 1) S = .ok (.tup (R.map D.int)) S := get_t rfl
  have g2 : DL.getD (stD L R F) (.int 2) S = .ok (.tup (F.map D.int)) S := get_t rfl
  have hf : o2 addD (sl2 (o2 DL.getD (vr 4) (cn (.int 1))) onone (osome (o1 negD (cn (.int 1))))) (sl2 (o2 DL.getD (vr 4) (cn (.int 2))) (osome (cn (.int 1))) onone) ρ S = .ok (.tup ((R.take (R.length - 1) ++ F.drop 1).map D.int)) S := by
    simp only [o2_ap, sl2_ap, hv, cn_ap, bind_ok, g1, g2, onone_ap, osome_ap, o1_ap, neg_i, sl_less lR, sl_drop lF]
    rw [add_tt (by simp; omega), List.map_append]
  obtain ⟨S1, e1, q1, x1⟩ := fil_comp hf (by simp; omega)
  have nn : ∀ i ∈ R.take (R.length - 1) ++ F.drop 1, 0 ≤ i := fun i hi => by
    rcases List.mem_append.mp hi with h | h
    · exact nR i (List.mem_of_mem_take h)
    · exact nF i (List.mem_of_mem_drop h)
  have s1 := sum_nn (M := R.take (R.length - 1)) fun i hi => nR i (List.mem_of_mem_take hi)
  have s2 := sum_nn (M := F.drop 1) fun i hi => nF i (List.mem_of_mem_drop hi)
  refine ⟨S1 ++ [⟨false, []⟩], ?_, x1.trans Ex.app⟩
  rw [o2_ap, e1, bind_ok]
  rw [show ls an ρ S1 = .ok (.lst S1.length) (S1 ++ [⟨false, []⟩]) by simp, bind_ok, eq_l0 (app_old q1) app_at]
  refine congrArg (fun v => Out.ok (D.bl v) (S1 ++ [(⟨false, []⟩ : Cell)])) ?_
  unfold thr
  rw [← Bool.decide_and]
  refine decide_eq_decide.mpr ((fil_nil nn).trans ?_)
  rw [List.sum_append]
  omega
end Law
set_option Elab.async false
set_option linter.all false
set_option maxRecDepth 100000
namespace Law
open PySem PySem.Spec PyProof.Rows L2 DL
theorem text_ok {n : Nat} : ∀ (ts : List Str) (k : Nat) (acc : Str), PyData.strOk acc = true → (∀ t ∈ ts, PyData.strOk t = true ∧ t.length ≤ n) → PyData.strOk (textFrom k acc ts) = true ∧ (textFrom k acc ts).length ≤ acc.length + (n + 2) * ts.length
  | [], k, acc, h, _ => ⟨h, by show acc.length ≤ _; simp⟩
  | t :: ts, k, acc, h, ht => by
    obtain ⟨a, b⟩ := ht t List.mem_cons_self
    have e2 : ∀ b : Bool, (((if b = true then ", " else "" : String) : Str)).length ≤ 2 := fun b => by cases b <;> decide +kernel
    obtain ⟨c, d⟩ := text_ok ts (k + 1) (acc ++ ((if k > 0 then ", " else "" : String) : Str) ++ t) (sok_app (sok_app h (stok _)) a) fun u hu => ht u (List.mem_cons_of_mem _ hu)
    refine ⟨c, Nat.le_trans d ?_⟩
    have := e2 (decide (k > 0))
    rw [Str.length_append, Str.length_append, List.length_cons]
    have hx : (n + 2) * (ts.length + 1) = (n + 2) * ts.length + (n + 2) := by rw [Nat.mul_add]; omega
    by_cases c : k > 0
    · rw [decide_eq_true c] at this; simp only [if_true] at this; rw [if_pos c]; omega
    · rw [decide_eq_false c] at this; simp only [Bool.false_eq_true, if_false] at this; rw [if_neg c]; omega
theorem lst_ok {n : Nat} {ts : List Str} (h : ∀ t ∈ ts, PyData.strOk t = true ∧ t.length ≤ n) : PyData.strOk (listText ts) = true ∧ (listText ts).length ≤ (n + 2) * ts.length + 3 := by
  obtain ⟨a, b⟩ := text_ok ts 0 "[" (stok _) h
  unfold listText
  refine ⟨sok_app a (stok _), ?_⟩
  rw [Str.length_append]
  have e1 : (("[" : String) : Str).length = 1 := rfl
  have e2 : (("]" : String) : Str).length = 1 := rfl
  rw [e2]
  rw [e1] at b
  omega
theorem str_len (s : String) : (Str.ofString s).length = s.toList.length := by
  rw [Str.ofString_eq_toList]
  show (Array.size _) = _
  simp
theorem int_len {i : Int} (h : i.natAbs < 10 ^ 60) : (Str.ofString (toString i)).length ≤ 61 := by
  rw [str_len]
  cases i with
  | ofNat m =>
    show (Nat.repr m).toList.length ≤ 61
    have := (Nat.length_toDigits_le_iff (b := 10) (n := m) (k := 60) (by decide) (by decide)).mpr h
    simp only [Nat.repr, String.toList_ofList]
    omega
  | negSucc m =>
    show ("-" ++ Nat.repr (m + 1)).toList.length ≤ 61
    have := (Nat.length_toDigits_le_iff (b := 10) (n := m + 1) (k := 60) (by decide) (by decide)).mpr h
    simp only [Nat.repr, String.toList_append, String.toList_ofList, List.length_append]
    have : ("-" : String).toList.length = 1 := rfl
    omega
structure Gp (p : PyData) (b e : Nat) : Prop where
  sh : p.showable = true
  nd : p.hasDict = false
  dp : p.depth ≤ e
  ok : PyData.strOk p.shown = true
  le : p.shown.length ≤ b
theorem Gp.mono {p : PyData} {b e b' e' : Nat} (h : Gp p b e) (h1 : b ≤ b') (h2 : e ≤ e') : Gp p b' e' := ⟨h.sh, h.nd, Nat.le_trans h.dp h2, h.ok, Nat.le_trans h.le h1⟩
theorem gp_all {b e : Nat} : ∀ {ps : List PyData}, (∀ p ∈ ps, Gp p b e) → PyData.showableAll ps = true ∧ PyData.hasDictAll ps = false ∧ PyData.depthAll ps ≤ e ∧ ∀ t ∈ PyData.shownAll ps, PyData.strOk t = true ∧ t.length ≤ b
  | [], _ => ⟨rfl, rfl, Nat.zero_le _, fun t ht => by cases ht⟩
  | p :: r, h => by
    have hp := h p List.mem_cons_self
    obtain ⟨a1, a2, a3, a4⟩ := gp_all (ps := r) fun q hq => h q (List.mem_cons_of_mem _ hq)
    refine ⟨?_, ?_, ?_, ?_⟩
    · show (p.showable && PyData.showableAll r) = true; rw [hp.sh, a1]; rfl
    · show (p.hasDict || PyData.hasDictAll r) = false; rw [hp.nd, a2]; rfl
    · show max p.depth (PyData.depthAll r) ≤ e; exact Nat.max_le.mpr ⟨hp.dp, a3⟩
    · intro t ht
      have ht : t ∈ p.shown :: PyData.shownAll r := ht
      rcases List.mem_cons.mp ht with rfl | ht
      · exact ⟨hp.ok, hp.le⟩
      · exact a4 t ht
theorem gp_tup {ps : List PyData} {b e : Nat} (h : ∀ p ∈ ps, Gp p b e) : Gp (.tuple ps) ((b + 2) * ps.length + 3) (e + 1) := by
  obtain ⟨a1, a2, a3, a4⟩ := gp_all h
  obtain ⟨c1, c2⟩ := tup_ok a4
  rw [shownAll_len] at c2
  refine ⟨by simpa [PyData.showable] using a1, by simpa [PyData.hasDict] using a2, by simp only [PyData.depth]; omega, ?_, ?_⟩
  · show PyData.strOk (tupleText (PyData.shownAll ps)) = true; exact c1
  · show (tupleText (PyData.shownAll ps)).length ≤ _; exact c2
theorem gp_lst {ps : List PyData} {b e : Nat} (h : ∀ p ∈ ps, Gp p b e) : Gp (.list ps) ((b + 2) * ps.length + 3) (e + 1) := by
  obtain ⟨a1, a2, a3, a4⟩ := gp_all h
  obtain ⟨c1, c2⟩ := lst_ok a4
  rw [shownAll_len] at c2
  refine ⟨by simpa [PyData.showable] using a1, by simpa [PyData.hasDict] using a2, by simp only [PyData.depth]; omega, ?_, ?_⟩
  · show PyData.strOk (listText (PyData.shownAll ps)) = true; exact c1
  · show (listText (PyData.shownAll ps)).length ≤ _; exact c2
def Sho (S : Sto) (d : D) (b e : Nat) : Prop := ∃ p, (∀ S', Ex S S' → ∀ n, e < n → toP S' n d = some p) ∧ Gp p b e
theorem Sho.mono {S : Sto} {d : D} {b e b' e' : Nat} (h : Sho S d b e) (h1 : b ≤ b') (h2 : e ≤ e') : Sho S d b' e' := by
  obtain ⟨p, a, g⟩ := h
  exact ⟨p, fun S' x n hn => a S' x n (by omega), g.mono h1 h2⟩
theorem Sho.ext {S S1 : Sto} {d : D} {b e : Nat} (h : Sho S d b e) (x : Ex S S1) : Sho S1 d b e := by
  obtain ⟨p, a, g⟩ := h
  exact ⟨p, fun S' x' n hn => a S' (x.trans x') n hn, g⟩
theorem sho_all {S : Sto} {b e : Nat} : ∀ {l : List D}, (∀ d ∈ l, Sho S d b e) → ∃ ps, (∀ S', Ex S S' → ∀ n, e < n → mapO (toP S' n) l = some ps) ∧ ps.length = l.length ∧ ∀ p ∈ ps, Gp p b e
  | [], _ => ⟨[], fun _ _ _ _ => rfl, rfl, fun p hp => by cases hp⟩
  | d :: l, h => by
    obtain ⟨p, a, g⟩ := h d List.mem_cons_self
    obtain ⟨ps, a2, a3, a4⟩ := sho_all (l := l) fun q hq => h q (List.mem_cons_of_mem _ hq)
    refine ⟨p :: ps, fun S' x n hn => ?_, by simp [a3], fun q hq => ?_⟩
    · simp only [mapO, a S' x n hn, a2 S' x n hn]
    · rcases List.mem_cons.mp hq with rfl | hq
      · exact g
      · exact a4 q hq
theorem sho_tup {S : Sto} {l : List D} {b e : Nat} (h : ∀ d ∈ l, Sho S d b e) : Sho S (.tup l) ((b + 2) * l.length + 3) (e + 1) := by
  obtain ⟨ps, a, hl, g⟩ := sho_all h
  refine ⟨.tuple ps, fun S' x n hn => ?_, by rw [← hl]; exact gp_tup g⟩
  obtain ⟨m, rfl⟩ : ∃ m, n = m + 1 := ⟨n - 1, by omega⟩
  show (mapO (toP S' m) l).map PyData.tuple = _
  rw [a S' x m (by omega)]
  rfl
theorem sho_lst {S : Sto} {q : Nat} {fz : Bool} {l : List D} {b e : Nat} (hq : S[q]? = some ⟨fz, l⟩) (h : ∀ d ∈ l, Sho S d b e) : Sho S (.lst q) ((b + 2) * l.length + 3) (e + 1) := by
  obtain ⟨ps, a, hl, g⟩ := sho_all h
  refine ⟨.list ps, fun S' x n hn => ?_, by rw [← hl]; exact gp_lst g⟩
  obtain ⟨m, rfl⟩ : ∃ m, n = m + 1 := ⟨n - 1, by omega⟩
  show (match S'[q]? with | some c => (mapO (toP S' m) c.xs).map PyData.list | none => none) = _
  rw [x.at hq]
  show (mapO (toP S' m) l).map PyData.list = _
  rw [a S' x m (by omega)]
  rfl
theorem sho_int {S : Sto} {i : Int} (h : i.natAbs < 10 ^ 60) : Sho S (.int i) 61 0 := by
  refine ⟨.int i, fun S' _ n hn => ?_, ⟨?_, rfl, Nat.le_refl _, ?_, ?_⟩⟩
  · obtain ⟨m, rfl⟩ : ∃ m, n = m + 1 := ⟨n - 1, by omega⟩
    rfl
  · show decide (i.natAbs.log2 < 1920) = true
    refine decide_eq_true ?_
    by_cases c : i.natAbs = 0
    · rw [c]; decide
    · refine Nat.lt_of_lt_of_le ((Nat.log2_lt c).mpr (show i.natAbs < 2 ^ 200 from Nat.lt_trans h (by decide))) (by decide)
  · show PyData.strOk (Str.ofString (toString i)) = true; exact stok _
  · show (Str.ofString (toString i)).length ≤ 61; exact int_len h
theorem sho_bl {S : Sto} {v : Bool} : Sho S (.bl v) 61 0 := by
  refine ⟨.bool v, fun S' _ n hn => ?_, ⟨rfl, rfl, Nat.le_refl _, ?_, ?_⟩⟩
  · obtain ⟨m, rfl⟩ : ∃ m, n = m + 1 := ⟨n - 1, by omega⟩
    rfl
  · cases v <;> decide +kernel
  · cases v <;> decide +kernel
theorem sho_non {S : Sto} : Sho S .non 61 0 := by
  refine ⟨.none, fun S' _ n hn => ?_, ⟨rfl, rfl, Nat.le_refl _, by decide +kernel, by decide +kernel⟩⟩
  obtain ⟨m, rfl⟩ : ∃ m, n = m + 1 := ⟨n - 1, by omega⟩
  rfl
theorem sho_s0 {S : Sto} : Sho S (.str "0") 61 0 := by
  refine ⟨.str "0", fun S' _ n hn => ?_, ⟨by decide +kernel, rfl, Nat.le_refl _, by decide +kernel, by decide +kernel⟩⟩
  obtain ⟨m, rfl⟩ : ∃ m, n = m + 1 := ⟨n - 1, by omega⟩
  rfl
theorem sho_se {S : Sto} : Sho S (.str "") 61 0 := by
  refine ⟨.str "", fun S' _ n hn => ?_, ⟨by decide +kernel, rfl, Nat.le_refl _, by decide +kernel, by decide +kernel⟩⟩
  obtain ⟨m, rfl⟩ : ∃ m, n = m + 1 := ⟨n - 1, by omega⟩
  rfl
theorem Sho.repr {S : Sto} {d : D} {b e : Nat} (h : Sho S d b e) (h1 : b ≤ 1000000) (h2 : e < 40) : ∃ s : Str, PyData.strOk s = true ∧ ∀ S', Ex S S' → reprD [d] S' = .ok (.str s) S' := by
  obtain ⟨p, a, g⟩ := h
  refine ⟨p.shown, g.ok, fun S' x => ?_⟩
  have ha := a S' x 40 h2
  have big : ∀ (q : PyData), q = p → (if (q.showable && !q.hasDict && decide (q.depth ≤ 60)) = true ∧ q.shown.length ≤ 1000000 then Out.ok (D.str q.shown) S' else .bad) = .ok (.str p.shown) S' := fun q hq => by
    subst hq
    rw [if_pos]
    refine ⟨?_, Nat.le_trans g.le h1⟩
    rw [g.sh, g.nd]
    have := g.dp
    simp
    omega
  cases d with
  | non => cases (Option.some.inj ha); rfl
  | bl v => cases (Option.some.inj ha); cases v <;> rfl
  | int i =>
    cases (Option.some.inj ha)
    have : i.natAbs.log2 < 1920 := of_decide_eq_true g.sh
    show (if i.natAbs.log2 < 1920 then Out.ok (D.str (toString i)) S' else .bad) = _
    rw [if_pos this]
    rfl
  | str z =>
    cases (Option.some.inj ha)
    have : (reprText z).length ≤ 1000000 := Nat.le_trans g.le h1
    show (if (reprText z).length ≤ 1000000 then Out.ok (D.str (reprText z)) S' else .bad) = _
    rw [if_pos this]
    rfl
  | tup l =>
    show (match toP S' 40 (.tup l) with
      | some p => if (p.showable && !p.hasDict && decide (p.depth ≤ 60)) = true ∧ p.shown.length ≤ 1000000 then Out.ok (D.str p.shown) S' else .bad
      | none => .bad) = _
    rw [ha]
    exact big p rfl
  | lst i =>
    show (match toP S' 40 (.lst i) with
      | some p => if (p.showable && !p.hasDict && decide (p.depth ≤ 60)) = true ∧ p.shown.length ≤ 1000000 then Out.ok (D.str p.shown) S' else .bad
      | none => .bad) = _
    rw [ha]
    exact big p rfl
end Law
set_option Elab.async false
set_option linter.all false
set_option maxRecDepth 100000
namespace Law
open PySem PySem.Spec PyProof.Rows L2 DL
structure R3 (S : Sto) (a : Nat) (M : Nat → List D) : Prop where
  h0 : S[a]? = some ⟨false, [.lst (a + 1), .lst (a + 2), .lst (a + 3)]⟩
  hj : ∀ j, j < 3 → S[a + 1 + j]? = some ⟨false, M j⟩
theorem R3.kp {S S' : Sto} {a t k : Nat} {M : Nat → List D} (h : R3 S a M) (kp : Kp S S' t k) (ht : t < a) (hk : k < a) : R3 S' a M :=
  ⟨kp.at h.h0 (by omega) (by omega), fun j hj => kp.at (h.hj j hj) (by omega) (by omega)⟩
theorem R3.ex {S S' : Sto} {a : Nat} {M : Nat → List D} (h : R3 S a M) (x : Ex S S') : R3 S' a M := ⟨x.at h.h0, fun j hj => x.at (h.hj j hj)⟩
theorem R3.row {S : Sto} {a j : Nat} {M : Nat → List D} (h : R3 S a M) (hj : j < 3) : DL.getD (.lst a) (.int j) S = .ok (.lst (a + 1 + j)) S := by
  rcases (by omega : j = 0 ∨ j = 1 ∨ j = 2) with rfl | rfl | rfl
  · exact get_l h.h0 rfl
  · exact get_l h.h0 rfl
  · exact get_l h.h0 rfl
theorem R3.set {S : Sto} {a j : Nat} {M : Nat → List D} {X : List D} (h : R3 S a M) (hj : j < 3) : R3 (S.set (a + 1 + j) ⟨false, X⟩) a (fun i => if i = j then X else M i) := by
  refine ⟨by rw [List.getElem?_set_ne (by omega)]; exact h.h0, fun i hi => ?_⟩
  by_cases c : i = j
  · subst c
    rw [List.getElem?_set_self (List.getElem?_eq_some_iff.mp (h.hj i hi)).1]
    simp
  · rw [List.getElem?_set_ne (by omega), h.hj i hi]
    simp [c]
theorem R3.rw {S : Sto} {a : Nat} {M : Nat → List D} (h : R3 S a M) : Rw S a (a + 1) (a + 2) (a + 3) (M 0) (M 1) (M 2) := ⟨h.h0, h.hj 0 (by decide), h.hj 1 (by decide), h.hj 2 (by decide)⟩
theorem sum_l {S : Sto} {i : Nat} {fz : Bool} {L : List Int} (e : S[i]? = some ⟨fz, L.map D.int⟩) : sumD [.lst i] S = .ok (.int L.sum) S := by
  show (match ((S[i]?).map (·.xs)).bind intsOf with | some ns => Out.ok (D.int ns.sum) S | none => .bad) = _
  rw [e]
  show (match intsOf (L.map D.int) with | some ns => Out.ok (D.int ns.sum) S | none => .bad) = _
  rw [DL.ints_map]
def N3 (L R F : List Int) : Nat → List Int
  | 0 => L
  | 1 => R
  | _ => F
def Gr (S : Sto) (M : Nat → List D) : Prop := ∀ j, (M j).length ≤ 20 ∧ ∀ d ∈ M j, Sho S d 200 1
theorem gr_int {S : Sto} {i : Int} (h : i.natAbs < 10 ^ 60) : Sho S (.int i) 200 1 := (sho_int h).mono (by decide) (by decide)
theorem gr_row {S : Sto} {X : List Int} (h : ∀ i ∈ X, 0 ≤ i ∧ i ≤ 1000) : ∀ d ∈ X.map D.int, Sho S d 200 1 := fun d hd => by
  obtain ⟨i, hi, rfl⟩ := List.mem_map.mp hd
  have := h i hi
  have h2 : (1001 : Nat) < 10 ^ 60 := by decide
  exact gr_int (by omega)
theorem gr_base {S : Sto} {L R F : List Int} {m : Nat} (hl : ∀ j, (N3 L R F j).length = m) (hm : m ≤ 13) (hb : ∀ j, ∀ i ∈ N3 L R F j, 0 ≤ i ∧ i ≤ 1000) : Gr S fun i => (N3 L R F i).map D.int := fun j =>
  ⟨by have := hl j; simp only [List.length_map]; omega, gr_row (hb j)⟩
theorem gr_set {S : Sto} {L R F : List Int} {m kk : Nat} {X : List D} (hl : ∀ j, (N3 L R F j).length = m) (hm : m ≤ 13) (hb : ∀ j, ∀ i ∈ N3 L R F j, 0 ≤ i ∧ i ≤ 1000) (h1 : X.length ≤ 20) (h2 : ∀ d ∈ X, Sho S d 200 1) : Gr S fun i => if i = kk then X else (N3 L R F i).map D.int := fun j => by
  by_cases c : j = kk
  · simp only [c, if_true]; exact ⟨h1, h2⟩
  · simp only [c, if_false]; exact gr_base hl hm hb j
theorem gr_one {S : Sto} {X : List Int} {at' : Nat} {x : D} (h : ∀ i ∈ X, 0 ≤ i ∧ i ≤ 1000) (hx : Sho S x 200 1) : ∀ d ∈ (X.map D.int).set at' x, Sho S d 200 1 := fun d hd => by
  rcases List.mem_or_eq_of_mem_set hd with h1 | rfl
  · exact gr_row h d h1
  · exact hx
theorem sum_bd : ∀ {X : List Int}, (∀ i ∈ X, 0 ≤ i ∧ i ≤ 1000) → 0 ≤ X.sum ∧ X.sum ≤ 1000 * (X.length : Int)
  | [], _ => by simp
  | a :: X, h => by
    have := sum_bd (X := X) fun i hi => h i (List.mem_cons_of_mem _ hi)
    have := h a List.mem_cons_self
    rw [List.sum_cons, List.length_cons]
    omega
theorem big_lt : (30000 : Nat) < 10 ^ 60 := by decide
abbrev rb (t : Nat) (x : D) (rows : Nat) (k at' : Nat) (way : Int) (x6 : Option D) : Lc := [some (.lst t), some x, some (.lst rows), some (.int k), some (.int at'), some (.int way), x6]
section
variable {S : Sto} {t k n a kk at' m : Nat} {L R F : List Int} {x6 : Option D}
theorem way_add {way : Int} (d : Dp S t k n) (h : R3 S a fun i => (N3 L R F i).map D.int) (ht : t < a) (hk : k < a) (hkk : kk < 3) (hl : ∀ j, (N3 L R F j).length = m) (ha : at' < m) (hm : m ≤ 13) (hb : ∀ j, ∀ i ∈ N3 L R F j, 0 ≤ i ∧ i ≤ 1000) (hw0 : 0 ≤ way) (hw : way < 5) :
    ∃ M S', ss (o2 addD (o2 DL.getD (o2 DL.getD (vr 2) (vr 3)) (vr 4)) (o2 DL.getD (ls (ac (cn (.int 1)) (ac (cn (.int 1)) (ac (o2 subD (cn (.int 0)) (cn (.int 1))) (ac (cn (.int 2)) (ac (cn (.int 0)) an)))))) (vr 5))) (o2 DL.getD (vr 2) (vr 3)) (vr 4) setD (rb t (stD L R F) a kk at' way x6) S = .nx (rb t (stD L R F) a kk at' way x6) S' ∧ R3 S' a M ∧ Gr S' M ∧ Dp S' t k n := by
  have g1 := h.row hkk
  have e1 := h.hj kk hkk
  obtain ⟨i, hi⟩ : ∃ i, (N3 L R F kk)[at']? = some i := ⟨_, List.getElem?_eq_getElem (by rw [hl]; exact ha)⟩
  have g2 : DL.getD (.lst (a + 1 + kk)) (.int at') S = .ok (.int i) S := get_l e1 (atI_nn (by omega) (by rw [Int.toNat_natCast, List.getElem?_map, hi]; rfl))
  have x1 : Ex S (S ++ [⟨false, [.int 1, .int 1, .int (0 - 1), .int 2, .int 0]⟩]) := Ex.app
  obtain ⟨w, hw2, gw⟩ : ∃ w : Int, w.natAbs ≤ 2 ∧ DL.getD (.lst S.length) (.int way) (S ++ [⟨false, [.int 1, .int 1, .int (0 - 1), .int 2, .int 0]⟩]) = .ok (.int w) (S ++ [⟨false, [.int 1, .int 1, .int (0 - 1), .int 2, .int 0]⟩]) := by
    rcases (by omega : way = 0 ∨ way = 1 ∨ way = 2 ∨ way = 3 ∨ way = 4) with rfl | rfl | rfl | rfl | rfl
    · exact ⟨1, by decide, get_l app_at rfl⟩
    · exact ⟨1, by decide, get_l app_at rfl⟩
    · exact ⟨0 - 1, by decide, get_l app_at rfl⟩
    · exact ⟨2, by decide, get_l app_at rfl⟩
    · exact ⟨0, by decide, get_l app_at rfl⟩
  have h1 := h.ex x1
  have d1 := d.ext x1
  have g3 := h1.row hkk
  have lsE : ls (ac (cn (.int 1)) (ac (cn (.int 1)) (ac (o2 subD (cn (.int 0)) (cn (.int 1))) (ac (cn (.int 2)) (ac (cn (.int 0)) an))))) (rb t (stD L R F) a kk at' way x6) S = .ok (.lst S.length) (S ++ [⟨false, [.int 1, .int 1, .int (0 - 1), .int 2, .int 0]⟩]) := by simp
  generalize S ++ [(⟨false, [.int 1, .int 1, .int (0 - 1), .int 2, .int 0]⟩ : Cell)] = S1 at *
  have es := set_l (d := .int (i + w)) (h1.hj kk hkk) (i := at') (by omega) (by simp [hl]; omega)
  refine ⟨_, _, ?_, h1.set (X := ((N3 L R F kk).map D.int).set ((at' : Int)).toNat (.int (i + w))) hkk, gr_set hl hm hb (by simp [hl]; omega) (gr_one (hb kk) (gr_int (by have := hb kk i (List.mem_of_getElem? hi); have := big_lt; omega))), d1.set (by omega) (by omega)⟩
  rw [ss_ap]
  simp only [o2_ap, vr_ap, List.getElem?_cons_zero, List.getElem?_cons_succ, bind_ok, g1, g2, lsE, gw, add_ii, bindS_ok, g3, es]
theorem way_odd {way : Int} (d : Dp S t k n) (hn : n < 2 ^ 57) (h : R3 S a fun i => (N3 L R F i).map D.int) (ht : t < a) (hk : k < a) (hkk : kk < 3) (hl : ∀ j, (N3 L R F j).length = m) (ha : at' < m) (hm : m ≤ 13) (hb : ∀ j, ∀ i ∈ N3 L R F j, 0 ≤ i ∧ i ≤ 1000) :
    ∃ M S', ss (o2 DL.getD (ls (ac (cn (.bl true)) (ac (cn (.bl false)) (ac (cn (.str "0")) (ac (cn .non) (ac (tp (ac (cn (.int 0)) an)) (ac (o2 subD (cn (.int 0)) (cn (.int 1))) (ac (ls (ac (cn (.int 0)) an)) (ac (ls an) (ac (o2 powD (cn (.int 10)) (cn (.int 59))) an)))))))))) (cl 2 (noExc f__law_draw) (ac (vr 0) (ac (cn (.int 9)) an)))) (o2 DL.getD (vr 2) (vr 3)) (vr 4) setD (rb t (stD L R F) a kk at' way x6) S = .nx (rb t (stD L R F) a kk at' way x6) S' ∧ R3 S' a M ∧ Gr S' M ∧ Dp S' t k (n + 1) := by
  have p59 : ∀ S : Sto, powD (.int 10) (.int 59) S = .ok (.int (10 ^ 59)) S := fun S => pow_nn (n := 59) (by decide) (by decide)
  have x2 : Ex S ((S ++ [(⟨false, [.int 0]⟩ : Cell)]) ++ [(⟨false, []⟩ : Cell)]) := Ex.app.trans Ex.app
  have hS2 : ((S ++ [(⟨false, [.int 0]⟩ : Cell)]) ++ [(⟨false, []⟩ : Cell)]).length = S.length + 2 := by simp
  have lsE : ls (ac (cn (.bl true)) (ac (cn (.bl false)) (ac (cn (.str "0")) (ac (cn .non) (ac (tp (ac (cn (.int 0)) an)) (ac (o2 subD (cn (.int 0)) (cn (.int 1))) (ac (ls (ac (cn (.int 0)) an)) (ac (ls an) (ac (o2 powD (cn (.int 10)) (cn (.int 59))) an))))))))) (rb t (stD L R F) a kk at' way x6) S = .ok (.lst ((S ++ [(⟨false, [.int 0]⟩ : Cell)]) ++ [(⟨false, []⟩ : Cell)]).length) (((S ++ [(⟨false, [.int 0]⟩ : Cell)]) ++ [(⟨false, []⟩ : Cell)]) ++ [(⟨false, [.bl true, .bl false, .str "0", .non, .tup [.int 0], .int (0 - 1), .lst S.length, .lst (S.length + 1), .int (10 ^ 59)]⟩ : Cell)]) := by
    simp [p59]
  have h2 := h.ex x2
  have d2 := d.ext x2
  have c0 : ((S ++ [(⟨false, [.int 0]⟩ : Cell)]) ++ [(⟨false, []⟩ : Cell)])[S.length]? = some ⟨false, [.int 0]⟩ := app_old app_at
  have c1 : ((S ++ [(⟨false, [.int 0]⟩ : Cell)]) ++ [(⟨false, []⟩ : Cell)])[S.length + 1]? = some ⟨false, []⟩ := by
    have := app_at (S := S ++ [(⟨false, [.int 0]⟩ : Cell)]) (c := (⟨false, []⟩ : Cell))
    rw [show (S ++ [(⟨false, [.int 0]⟩ : Cell)]).length = S.length + 1 by simp] at this
    exact this
  generalize (S ++ [(⟨false, [.int 0]⟩ : Cell)]) ++ [(⟨false, []⟩ : Cell)] = S2 at *
  obtain ⟨r, x, S3, e3, p3, m3, d3, k3⟩ := pick_ok (xs := [.bl true, .bl false, .str "0", .non, .tup [.int 0], .int (0 - 1), .lst S.length, .lst (S.length + 1), .int (10 ^ 59)]) (m := 9) d2 (by omega) rfl (by simp) (by simp)
  have h3 := h2.kp k3 ht hk
  have g3 := h3.row hkk
  have es := set_l (d := x) (h3.hj kk hkk) (i := at') (by omega) (by simp [hl]; omega)
  have lS := d.lt
  have la : a + 1 + kk < S.length := (List.getElem?_eq_some_iff.mp (h.hj kk hkk)).1
  have c0' := k3.at c0 (by omega) (by omega)
  have c1' := k3.at c1 (by omega) (by omega)
  have c0'' : (S3.set (a + 1 + kk) ⟨false, ((N3 L R F kk).map D.int).set ((at' : Int)).toNat x⟩)[S.length]? = some ⟨false, [.int 0]⟩ := by rw [List.getElem?_set_ne (by omega)]; exact c0'
  have c1'' : (S3.set (a + 1 + kk) ⟨false, ((N3 L R F kk).map D.int).set ((at' : Int)).toNat x⟩)[S.length + 1]? = some ⟨false, []⟩ := by rw [List.getElem?_set_ne (by omega)]; exact c1'
  generalize hS4 : S3.set (a + 1 + kk) ⟨false, ((N3 L R F kk).map D.int).set ((at' : Int)).toNat x⟩ = S4 at c0'' c1''
  have hx : Sho S4 x 200 1 := by
    simp only [List.mem_cons, List.not_mem_nil, or_false] at m3
    have i0 : ∀ d ∈ [D.int 0], Sho S4 d 61 0 := fun d hd => by
      have : d = .int 0 := by simpa using hd
      subst this
      exact sho_int (by decide)
    rcases m3 with rfl | rfl | rfl | rfl | rfl | rfl | rfl | rfl | rfl
    · exact sho_bl.mono (by decide) (by decide)
    · exact sho_bl.mono (by decide) (by decide)
    · exact sho_s0.mono (by decide) (by decide)
    · exact sho_non.mono (by decide) (by decide)
    · exact (sho_tup i0).mono (by decide) (by decide)
    · exact gr_int (by decide)
    · exact (sho_lst c0'' i0).mono (by decide) (by decide)
    · exact (sho_lst (b := 61) (e := 0) c1'' (fun d hd => by cases hd)).mono (by decide) (by decide)
    · exact gr_int (by decide)
  refine ⟨_, _, ?_, h3.set (X := ((N3 L R F kk).map D.int).set ((at' : Int)).toNat x) hkk, gr_set hl hm hb (by simp [hl]; omega) (gr_one (hb kk) (hS4 ▸ hx)), d3.set (by omega) (by omega)⟩
  rw [ss_ap]
  simp only [o2_ap, vr_ap, cn_ap, List.getElem?_cons_zero, List.getElem?_cons_succ, bind_ok, lsE, cl_ap, ac_ap, an_ap, List.length_cons, List.length_nil, Nat.reduceAdd, if_true, noExc_ap, e3, p3, bindS_ok, g3, es]
theorem way_pop {way : Int} (d : Dp S t k n) (h : R3 S a fun i => (N3 L R F i).map D.int) (ht : t < a) (hk : k < a) (hkk : kk < 3) (hl : ∀ j, (N3 L R F j).length = m) (ha : at' < m) (hm : m ≤ 13) (hb : ∀ j, ∀ i ∈ N3 L R F j, 0 ≤ i ∧ i ≤ 1000) :
    ∃ M S', sx (mt popD (o2 DL.getD (vr 2) (vr 3)) (ac (vr 4) an)) (rb t (stD L R F) a kk at' way x6) S = .nx (rb t (stD L R F) a kk at' way x6) S' ∧ R3 S' a M ∧ Gr S' M ∧ Dp S' t k n := by
  have g1 := h.row hkk
  have e1 := h.hj kk hkk
  obtain ⟨i, hi⟩ : ∃ i, ((N3 L R F kk).map D.int)[at']? = some i := ⟨_, List.getElem?_eq_getElem (by simp [hl]; exact ha)⟩
  have pp : popD (.lst (a + 1 + kk)) [.int at'] S = .ok i (S.set (a + 1 + kk) ⟨false, ((N3 L R F kk).map D.int).eraseIdx at'⟩) := by
    simp only [popD, e1]
    rw [if_pos ⟨trivial, by omega, by omega⟩, Int.toNat_natCast, hi]
  refine ⟨_, _, ?_, h.set (X := ((N3 L R F kk).map D.int).eraseIdx at') hkk, gr_set hl hm hb (Nat.le_trans (List.length_eraseIdx_le _ _) (by simp [hl]; omega)) (fun d hd => gr_row (hb kk) d (List.mem_of_mem_eraseIdx hd)), d.set (by omega) (by omega)⟩
  rw [sx_ap]
  simp only [mt_ap, o2_ap, vr_ap, List.getElem?_cons_zero, List.getElem?_cons_succ, bind_ok, g1, isL e1, if_true, ac_ap, an_ap, pp, bindS_ok]
theorem way_ins {way : Int} (d : Dp S t k n) (h : R3 S a fun i => (N3 L R F i).map D.int) (ht : t < a) (hk : k < a) (hkk : kk < 3) (hl : ∀ j, (N3 L R F j).length = m) (ha : at' < m) (hm : m ≤ 13) (hb : ∀ j, ∀ i ∈ N3 L R F j, 0 ≤ i ∧ i ≤ 1000) :
    ∃ M S', sx (mt insD (o2 DL.getD (vr 2) (vr 3)) (ac (vr 4) (ac (cn (.int 0)) an))) (rb t (stD L R F) a kk at' way x6) S = .nx (rb t (stD L R F) a kk at' way x6) S' ∧ R3 S' a M ∧ Gr S' M ∧ Dp S' t k n := by
  have g1 := h.row hkk
  have e1 := h.hj kk hkk
  have pp : insD (.lst (a + 1 + kk)) [.int at', .int 0] S = .ok .non (S.set (a + 1 + kk) ⟨false, ((N3 L R F kk).map D.int).take (min at' ((N3 L R F kk).map D.int).length) ++ .int 0 :: ((N3 L R F kk).map D.int).drop (min at' ((N3 L R F kk).map D.int).length)⟩) := by
    simp only [insD, e1]
    rw [if_pos ⟨trivial, ⟨by omega, by omega⟩, by simp [hl]; omega⟩, Int.toNat_natCast]
  refine ⟨_, _, ?_, h.set (X := ((N3 L R F kk).map D.int).take (min at' ((N3 L R F kk).map D.int).length) ++ .int 0 :: ((N3 L R F kk).map D.int).drop (min at' ((N3 L R F kk).map D.int).length)) hkk, gr_set hl hm hb (by simp [hl]; omega) (fun d hd => by
    rcases List.mem_append.mp hd with z | z
    · exact gr_row (hb kk) d (List.mem_of_mem_take z)
    · rcases List.mem_cons.mp z with rfl | z
      · exact gr_int (by decide)
      · exact gr_row (hb kk) d (List.mem_of_mem_drop z)), d.set (by omega) (by omega)⟩
  rw [sx_ap]
  simp only [mt_ap, o2_ap, vr_ap, cn_ap, List.getElem?_cons_zero, List.getElem?_cons_succ, bind_ok, g1, isL e1, if_true, ac_ap, an_ap, pp, bindS_ok]
theorem way_sum {way : Int} (d : Dp S t k n) (hn : n < 2 ^ 57) (h : R3 S a fun i => (N3 L R F i).map D.int) (ht : t < a) (hk : k < a) (hl : ∀ j, (N3 L R F j).length = m) (hm0 : 0 < m) (hm : m ≤ 13) (hb : ∀ j, ∀ i ∈ N3 L R F j, 0 ≤ i ∧ i ≤ 1000) :
    ∃ M y6 S', sq (sa (o2 addD (b1 sumD (ac (o2 DL.getD (vr 2) (cn (.int 1))) an)) (b1 sumD (ac (o2 DL.getD (vr 2) (cn (.int 2))) an))) (gn 6)) (ss (o2 subD (o2 addD (o2 addD (o2 DL.getD (o2 DL.getD (vr 2) (cn (.int 1))) (cn (.int 0))) (cn (.int 60))) (cl 2 (noExc f__law_draw) (ac (vr 0) (ac (cn (.int 2)) an)))) (vr 6)) (o2 DL.getD (vr 2) (cn (.int 1))) (cn (.int 0)) setD) (rb t (stD L R F) a kk at' way x6) S = .nx (rb t (stD L R F) a kk at' way y6) S' ∧ R3 S' a M ∧ Gr S' M ∧ Dp S' t k (n + 1) := by
  have g1 : DL.getD (.lst a) (.int 1) S = .ok (.lst (a + 1 + 1)) S := h.row (j := 1) (by decide)
  have g2 : DL.getD (.lst a) (.int 2) S = .ok (.lst (a + 1 + 2)) S := h.row (j := 2) (by decide)
  have e1 : S[a + 1 + 1]? = some ⟨false, R.map D.int⟩ := h.hj 1 (by decide)
  have e2 : S[a + 1 + 2]? = some ⟨false, F.map D.int⟩ := h.hj 2 (by decide)
  have s1' := sum_l e1
  have s2' := sum_l e2
  have lR : R.length = m := hl 1
  obtain ⟨i, hi⟩ : ∃ i, R[0]? = some i := ⟨_, List.getElem?_eq_getElem (by omega)⟩
  have g3 : DL.getD (.lst (a + 1 + 1)) (.int 0) S = .ok (.int i) S := get_l e1 (atI_nn (by decide) (by show (R.map D.int)[0]? = _; rw [List.getElem?_map, hi]; rfl))
  obtain ⟨r, S1, e3, r0, r1, d1, k1⟩ := draw_ok (m := 2) d (by omega) (by decide) (by decide)
  have h1 := h.kp k1 ht hk
  have g4 : DL.getD (.lst a) (.int 1) S1 = .ok (.lst (a + 1 + 1)) S1 := h1.row (j := 1) (by decide)
  have es := set_l (d := .int (i + 60 + r - (R.sum + F.sum))) (h1.hj 1 (by decide)) (i := 0) (by decide) (by show (0 : Int) < ((R.map D.int).length : Nat); simp; omega)
  refine ⟨_, some (.int (R.sum + F.sum)), _, ?_, h1.set (j := 1) (X := (R.map D.int).set ((0 : Int)).toNat (.int (i + 60 + r - (R.sum + F.sum)))) (by decide), gr_set (kk := 1) hl hm hb (by simp [lR]; omega) (gr_one (hb 1) (gr_int (by have q1 := sum_bd (hb 1); have q2 := sum_bd (hb 2); have q3 := hb 1 i (List.mem_of_getElem? hi); have q4 : (N3 L R F 1).length = m := hl 1; have q5 : (N3 L R F 2).length = m := hl 2; have := big_lt; rw [q4] at q1; rw [q5] at q2; have q1 : 0 ≤ R.sum ∧ R.sum ≤ 1000 * (m : Int) := q1; have q2 : 0 ≤ F.sum ∧ F.sum ≤ 1000 * (m : Int) := q2; omega))), d1.set (by omega) (by omega)⟩
  rw [sq_ap, sa_ap]
  simp only [o2_ap, b1_ap, ac_ap, an_ap, vr_ap, cn_ap, List.getElem?_cons_zero, List.getElem?_cons_succ, bind_ok, g1, g2, s1', s2', add_ii, bindS_ok, gn_ap, List.set_cons_zero, List.set_cons_succ]
  rw [ss_ap]
  simp only [o2_ap, vr_ap, cn_ap, List.getElem?_cons_zero, List.getElem?_cons_succ, bind_ok, g1, g3, add_ii, cl_ap, ac_ap, an_ap, List.length_cons, List.length_nil, Nat.reduceAdd, if_true, noExc_ap, e3, sub_ii, bindS_ok, g4, es]
  rfl
end
end Law
set_option Elab.async false
set_option linter.all false
set_option maxRecDepth 100000
namespace Law
open PySem PySem.Spec PyProof.Rows L2 DL
theorem sif_t {c : Ev Bool} {f g : Sv} {ρ : Lc} {S S1 : Sto} (h : c ρ S = .ok true S1) : sif c f g ρ S = f ρ S1 := by
  rw [sif_ap, h, bindS_ok, if_pos rfl]
theorem sif_f {c : Ev Bool} {f g : Sv} {ρ : Lc} {S S1 : Sto} (h : c ρ S = .ok false S1) : sif c f g ρ S = g ρ S1 := by
  rw [sif_ap, h, bindS_ok, if_neg (by decide)]
theorem sq_nx {f g : Sv} {ρ ρ' : Lc} {S S1 : Sto} (h : f ρ S = .nx ρ' S1) : sq f g ρ S = g ρ' S1 := by rw [sq_ap, h]
theorem sq_rt {f g : Sv} {ρ : Lc} {y : D} {S S1 : Sto} (h : f ρ S = .rt y S1) : sq f g ρ S = .rt y S1 := by rw [sq_ap, h]
def wys : Sv := (sif (tb (o2 ltD (vr 5) (cn (.int 5))))
    (ss (o2 addD (o2 DL.getD (o2 DL.getD (vr 2) (vr 3)) (vr 4)) (o2 DL.getD (ls (ac (cn (.int 1)) (ac (cn (.int 1)) (ac (o2 subD (cn (.int 0)) (cn (.int 1))) (ac (cn (.int 2)) (ac (cn (.int 0)) an)))))) (vr 5))) (o2 DL.getD (vr 2) (vr 3)) (vr 4) setD)
    (sif (tb (o2 eqD (vr 5) (cn (.int 5))))
    (ss (o2 DL.getD (ls (ac (cn (.bl true)) (ac (cn (.bl false)) (ac (cn (.str "0")) (ac (cn .non) (ac (tp (ac (cn (.int 0)) an)) (ac (o2 subD (cn (.int 0)) (cn (.int 1))) (ac (ls (ac (cn (.int 0)) an)) (ac (ls an) (ac (o2 powD (cn (.int 10)) (cn (.int 59))) an)))))))))) (cl 2 (noExc f__law_draw) (ac (vr 0) (ac (cn (.int 9)) an)))) (o2 DL.getD (vr 2) (vr 3)) (vr 4) setD)
    (sif (tb (o2 eqD (vr 5) (cn (.int 6))))
    (sx (mt popD (o2 DL.getD (vr 2) (vr 3)) (ac (vr 4) an)))
    (sif (tb (o2 eqD (vr 5) (cn (.int 7))))
    (sx (mt insD (o2 DL.getD (vr 2) (vr 3)) (ac (vr 4) (ac (cn (.int 0)) an))))
    (sif (tb (o2 eqD (vr 5) (cn (.int 8))))
    (sa (ls (ac (o2 DL.getD (vr 2) (cn (.int 1))) (ac (o2 DL.getD (vr 2) (cn (.int 0))) (ac (o2 DL.getD (vr 2) (cn (.int 2))) an)))) (gn 2))
    (sif (tb (o2 eqD (vr 5) (cn (.int 9))))
    (sq (sa (o2 addD (b1 sumD (ac (o2 DL.getD (vr 2) (cn (.int 1))) an)) (b1 sumD (ac (o2 DL.getD (vr 2) (cn (.int 2))) an))) (gn 6))
    (ss (o2 subD (o2 addD (o2 addD (o2 DL.getD (o2 DL.getD (vr 2) (cn (.int 1))) (cn (.int 0))) (cn (.int 60))) (cl 2 (noExc f__law_draw) (ac (vr 0) (ac (cn (.int 2)) an)))) (vr 6)) (o2 DL.getD (vr 2) (cn (.int 1))) (cn (.int 0)) setD))
    (sif (tb (o2 eqD (vr 5) (cn (.int 10))))
    (sret (o2 DL.getD (ls (ac (sl2 (vr 1) onone (osome (cn (.int 2)))) (ac (o2 addD (vr 1) (tp (ac (o2 DL.getD (vr 1) (cn (.int 2))) an))) (ac (b1 listD (ac (vr 1) an)) (ac (tp (ac (b1 listD (ac (o2 DL.getD (vr 1) (cn (.int 0))) an)) (ac (o2 DL.getD (vr 1) (cn (.int 1))) (ac (o2 DL.getD (vr 1) (cn (.int 2))) an)))) (ac (tp (ac (o2 DL.getD (vr 1) (cn (.int 0))) (ac (b1 listD (ac (o2 DL.getD (vr 1) (cn (.int 1))) an)) (ac (o2 DL.getD (vr 1) (cn (.int 2))) an)))) (ac (tp (ac (o2 DL.getD (vr 1) (cn (.int 0))) (ac (o2 DL.getD (vr 1) (cn (.int 1))) (ac (b1 listD (ac (o2 DL.getD (vr 1) (cn (.int 2))) an)) an)))) an))))))) (cl 2 (noExc f__law_draw) (ac (vr 0) (ac (cn (.int 6)) an)))))
    (sif (tb (o2 eqD (vr 5) (cn (.int 11))))
    (sret (o2 DL.getD (ls (ac (cn .non) (ac (cn (.int 0)) (ac (cn (.str "")) (ac (tp an) (ac (tp (ac (tp an) (ac (tp an) (ac (tp an) an)))) (ac (ls an) (ac (cn (.bl true)) (ac (tp (ac (tp (ac (cn (.int 0)) an)) (ac (tp (ac (cn (.int 0)) an)) (ac (tp (ac (cn (.int 0)) an)) an)))) an))))))))) (cl 2 (noExc f__law_draw) (ac (vr 0) (ac (cn (.int 8)) an)))))
    DL.skip))))))))
def wtl : Sv := (sret (b1 tupD (ac (cmp (isrc (vr 2)) [none] (gn 0) ttrue (b1 tupD (ac (vr 0) an))) an)))
theorem pick_rt {A : Ev (List D)} {ρ : Lc} {xs : List D} {S S1 : Sto} {t k n : Nat} {m : Int} (hA : A ρ S = .ok xs S1) (x1 : Ex S S1) (d : Dp S t k n) (hn : n < 2 ^ 57) (h0 : ρ[0]? = some (some (.lst t))) (hm : m = xs.length) (l0 : 0 < xs.length) (l1 : xs.length < 1000) (hs : ∀ S2, Kp S1 S2 t k → ∀ d ∈ xs, Sho S2 d 20000 5) :
    ∃ x S', sret (o2 DL.getD (ls A) (cl 2 (noExc f__law_draw) (ac (vr 0) (ac (cn (.int m)) an)))) ρ S = .rt x S' ∧ Sho S' x 20000 5 ∧ Dp S' t k (n + 1) := by
  obtain ⟨r, x, S2, e2, p2, m2, d2, k2⟩ := pick_ok (xs := xs) (m := m) (d.ext x1) (by omega) hm l0 l1
  refine ⟨x, S2, ?_, hs S2 k2 x m2, d2⟩
  have lE : ls A ρ S = .ok (.lst S1.length) (S1 ++ [⟨false, xs⟩]) := by rw [ls_ap, hA, bind_ok, if_pos (by omega)]
  have v0 : ∀ S, vr 0 ρ S = .ok (.lst t) S := fun S => by rw [vr_ap, h0]
  rw [sret_ap, o2_ap, lE, bind_ok, cl_ap, ac_ap, v0, bind_ok, ac_ap, cn_ap, bind_ok, an_ap, bind_ok, bind_ok, bind_ok]
  simp only [List.length_cons, List.length_nil, Nat.reduceAdd, if_true, noExc_ap, e2, bind_ok, p2, bindS_ok]
theorem a10_ok {la lb lc : List D} {S : Sto} {x0 x2 x3 x4 x5 x6 : Option D} : (ac (sl2 (vr 1) onone (osome (cn (.int 2)))) (ac (o2 addD (vr 1) (tp (ac (o2 DL.getD (vr 1) (cn (.int 2))) an))) (ac (b1 listD (ac (vr 1) an)) (ac (tp (ac (b1 listD (ac (o2 DL.getD (vr 1) (cn (.int 0))) an)) (ac (o2 DL.getD (vr 1) (cn (.int 1))) (ac (o2 DL.getD (vr 1) (cn (.int 2))) an)))) (ac (tp (ac (o2 DL.getD (vr 1) (cn (.int 0))) (ac (b1 listD (ac (o2 DL.getD (vr 1) (cn (.int 1))) an)) (ac (o2 DL.getD (vr 1) (cn (.int 2))) an)))) (ac (tp (ac (o2 DL.getD (vr 1) (cn (.int 0))) (ac (o2 DL.getD (vr 1) (cn (.int 1))) (ac (b1 listD (ac (o2 DL.getD (vr 1) (cn (.int 2))) an)) an)))) an)))))) [x0, some (.tup [.tup la, .tup lb, .tup lc]), x2, x3, x4, x5, x6] S = .ok [.tup [.tup la, .tup lb], .tup [.tup la, .tup lb, .tup lc, .tup lc], .lst S.length, .tup [.lst (S.length + 1), .tup lb, .tup lc], .tup [.tup la, .lst (S.length + 2), .tup lc], .tup [.tup la, .tup lb, .lst (S.length + 3)]] ((((S ++ [(⟨false, [.tup la, .tup lb, .tup lc]⟩ : Cell)]) ++ [(⟨false, la⟩ : Cell)]) ++ [(⟨false, lb⟩ : Cell)]) ++ [(⟨false, lc⟩ : Cell)]) := by
  have g0 : ∀ S, DL.getD (.tup [.tup la, .tup lb, .tup lc]) (.int 0) S = .ok (.tup la) S := fun S => get_t rfl
  have g1 : ∀ S, DL.getD (.tup [.tup la, .tup lb, .tup lc]) (.int 1) S = .ok (.tup lb) S := fun S => get_t rfl
  have g2 : ∀ S, DL.getD (.tup [.tup la, .tup lb, .tup lc]) (.int 2) S = .ok (.tup lc) S := fun S => get_t rfl
  have s2 : ∀ S, slD2 (.tup [.tup la, .tup lb, .tup lc]) none (some 2) S = .ok (.tup [.tup la, .tup lb]) S := fun S => rfl
  have ad : ∀ S, addD (.tup [.tup la, .tup lb, .tup lc]) (.tup [.tup lc]) S = .ok (.tup [.tup la, .tup lb, .tup lc, .tup lc]) S := fun S => add_tt (by simp)
  simp [g0, g1, g2, s2, ad, list_t]
theorem a11_ok {ρ : Lc} {S : Sto} : (ac (cn .non) (ac (cn (.int 0)) (ac (cn (.str "")) (ac (tp an) (ac (tp (ac (tp an) (ac (tp an) (ac (tp an) an)))) (ac (ls an) (ac (cn (.bl true)) (ac (tp (ac (tp (ac (cn (.int 0)) an)) (ac (tp (ac (cn (.int 0)) an)) (ac (tp (ac (cn (.int 0)) an)) an)))) an)))))))) ρ S = .ok [.non, .int 0, .str "", .tup [], .tup [.tup [], .tup [], .tup []], .lst S.length, .bl true, .tup [.tup [.int 0], .tup [.int 0], .tup [.int 0]]] (S ++ [(⟨false, []⟩ : Cell)]) := by
  simp
section
variable {S : Sto} {t k n a kk at' m : Nat} {L R F : List Int} {x6 : Option D} {way : Int}
theorem tlt {x : D} : tb (o2 ltD (vr 5) (cn (.int 5))) (rb t x a kk at' way x6) S = .ok (decide (way < 5)) S := by simp
theorem teq {x : D} {j : Int} : tb (o2 eqD (vr 5) (cn (.int j))) (rb t x a kk at' way x6) S = .ok (decide (way = j)) S := by simp
theorem wtl_ok {x : D} {q p1 p2 p3 : Nat} {A B C : List D} (h : Rw S q p1 p2 p3 A B C) (hA : A.length ≤ 20 ∧ ∀ d ∈ A, Sho S d 200 1) (hB : B.length ≤ 20 ∧ ∀ d ∈ B, Sho S d 200 1) (hC : C.length ≤ 20 ∧ ∀ d ∈ C, Sho S d 200 1) (d : Dp S t k n) : ∃ y S', wtl (rb t x q kk at' way x6) S = .rt y S' ∧ Sho S' y 20000 5 ∧ Dp S' t k n := by
  obtain ⟨S', e, x1⟩ := tups_ok (f := vr 2) (ρ := rb t x q kk at' way x6) h (by simp)
  have row : ∀ {X : List D}, (X.length ≤ 20 ∧ ∀ d ∈ X, Sho S d 200 1) → Sho S (.tup X) 4100 2 := fun {X} hX => (sho_tup hX.2).mono (by have := hX.1; omega) (by decide)
  have all3 : Sho S (.tup [.tup A, .tup B, .tup C]) 20000 5 := (sho_tup (b := 4100) (e := 2) (fun d hd => by
    simp only [List.mem_cons, List.not_mem_nil, or_false] at hd
    rcases hd with rfl | rfl | rfl
    · exact row hA
    · exact row hB
    · exact row hC)).mono (by simp) (by decide)
  refine ⟨.tup [.tup A, .tup B, .tup C], S', ?_, all3.ext x1, d.ext x1⟩
  unfold wtl
  rw [sret_ap, e]
  rfl
theorem ways_ok (d : Dp S t k n) (hn : n < 2 ^ 57) (h : R3 S a fun i => (N3 L R F i).map D.int) (ht : t < a) (hk : k < a) (hkk : kk < 3) (hl : ∀ j, (N3 L R F j).length = m) (ha : at' < m) (hm : m ≤ 13) (hb : ∀ j, ∀ i ∈ N3 L R F j, 0 ≤ i ∧ i ≤ 1000) (w0 : 0 ≤ way) (w1 : way < 14) :
    ∃ y S', sq wys wtl (rb t (stD L R F) a kk at' way x6) S = .rt y S' ∧ Sho S' y 20000 5 ∧ Dp S' t k (n + 1) := by
  have ffin : ∀ {M : Nat → List D} {S1 : Sto} {y6 : Option D} {n' : Nat}, n' ≤ n + 1 → wys (rb t (stD L R F) a kk at' way x6) S = .nx (rb t (stD L R F) a kk at' way y6) S1 → R3 S1 a M → Gr S1 M → Dp S1 t k n' → ∃ y S', sq wys wtl (rb t (stD L R F) a kk at' way x6) S = .rt y S' ∧ Sho S' y 20000 5 ∧ Dp S' t k (n + 1) := fun hn' e h1 hg d1 => by
    obtain ⟨y, S', e2, s2, d2⟩ := wtl_ok (t := t) (kk := kk) (at' := at') (way := way) (x := stD L R F) h1.rw (hg 0) (hg 1) (hg 2) d1
    exact ⟨y, S', (sq_nx e).trans e2, s2, d2.mono hn'⟩
  by_cases c : way < 5
  · obtain ⟨M, S1, e, h1, hg, d1⟩ := way_add (x6 := x6) d h ht hk hkk hl ha hm hb w0 c
    exact ffin (by omega) ((sif_t (tlt.trans (by rw [decide_eq_true c]))).trans e) h1 hg d1
  have f0 : ∀ {f g : Sv}, sif (tb (o2 ltD (vr 5) (cn (.int 5)))) f g (rb t (stD L R F) a kk at' way x6) S = g (rb t (stD L R F) a kk at' way x6) S := sif_f (tlt.trans (by rw [decide_eq_false c]))
  have ff : ∀ {f g : Sv} {j : Int}, way ≠ j → sif (tb (o2 eqD (vr 5) (cn (.int j)))) f g (rb t (stD L R F) a kk at' way x6) S = g (rb t (stD L R F) a kk at' way x6) S := fun hne => sif_f (teq.trans (by rw [decide_eq_false hne]))
  have ft : ∀ {f g : Sv} {j : Int}, way = j → sif (tb (o2 eqD (vr 5) (cn (.int j)))) f g (rb t (stD L R F) a kk at' way x6) S = f (rb t (stD L R F) a kk at' way x6) S := fun he => sif_t (teq.trans (by rw [decide_eq_true he]))
  by_cases c5 : way = 5
  · obtain ⟨M, S1, e, h1, hg, d1⟩ := way_odd (x6 := x6) (way := way) d hn h ht hk hkk hl ha hm hb
    exact ffin (by omega) (f0.trans ((ft c5).trans e)) h1 hg d1
  by_cases c6 : way = 6
  · obtain ⟨M, S1, e, h1, hg, d1⟩ := way_pop (x6 := x6) (way := way) d h ht hk hkk hl ha hm hb
    exact ffin (by omega) (f0.trans ((ff c5).trans ((ft c6).trans e))) h1 hg d1
  by_cases c7 : way = 7
  · obtain ⟨M, S1, e, h1, hg, d1⟩ := way_ins (x6 := x6) (way := way) d h ht hk hkk hl ha hm hb
    exact ffin (by omega) (f0.trans ((ff c5).trans ((ff c6).trans ((ft c7).trans e)))) h1 hg d1
  by_cases c8 : way = 8
  · have g0 : DL.getD (.lst a) (.int 0) S = .ok (.lst (a + 1)) S := h.row (j := 0) (by decide)
    have g1 : DL.getD (.lst a) (.int 1) S = .ok (.lst (a + 2)) S := h.row (j := 1) (by decide)
    have g2 : DL.getD (.lst a) (.int 2) S = .ok (.lst (a + 3)) S := h.row (j := 2) (by decide)
    have h' := h.rw
    have hr : Rw (S ++ [(⟨false, [.lst (a + 2), .lst (a + 1), .lst (a + 3)]⟩ : Cell)]) S.length (a + 2) (a + 1) (a + 3) (R.map D.int) (L.map D.int) (F.map D.int) := ⟨app_at, app_old h'.q2, app_old h'.q1, app_old h'.q3⟩
    have gb := gr_base (S := S ++ [(⟨false, [.lst (a + 2), .lst (a + 1), .lst (a + 3)]⟩ : Cell)]) hl hm hb
    obtain ⟨y, S', e2, s2, d2⟩ := wtl_ok (t := t) (kk := kk) (at' := at') (way := way) (x6 := x6) (x := stD L R F) hr (gb 1) (gb 0) (gb 2) d.app
    refine ⟨y, S', (sq_nx (ρ' := rb t (stD L R F) S.length kk at' way x6) (f0.trans ((ff c5).trans ((ff c6).trans ((ff c7).trans ((ft c8).trans ?_)))))).trans e2, s2, d2.mono (by omega)⟩
    simp [g0, g1, g2]
  by_cases c9 : way = 9
  · obtain ⟨M, y6, S1, e, h1, hg, d1⟩ := way_sum (kk := kk) (at' := at') (x6 := x6) (way := way) d hn h ht hk hl (by omega) hm hb
    exact ffin (by omega) (f0.trans ((ff c5).trans ((ff c6).trans ((ff c7).trans ((ff c8).trans ((ft c9).trans e)))))) h1 hg d1
  have lS := d.lt
  have lr : ∀ j, ((N3 L R F j).map D.int).length ≤ 13 := fun j => by rw [List.length_map, hl]; exact hm
  have row : ∀ (S2 : Sto) (j : Nat), Sho S2 (.tup ((N3 L R F j).map D.int)) 3000 2 := fun S2 j => (sho_tup (gr_row (hb j))).mono (by have := lr j; omega) (by decide)
  have lrow : ∀ (S2 : Sto) (q j : Nat), S2[q]? = some ⟨false, (N3 L R F j).map D.int⟩ → Sho S2 (.lst q) 3000 2 := fun S2 q j hq => (sho_lst hq (gr_row (hb j))).mono (by have := lr j; omega) (by decide)
  by_cases c10 : way = 10
  · have at1 : ∀ (T : Sto) (j : Nat), (S ++ T)[S.length + j]? = T[j]? := fun T j => by
      rw [List.getElem?_append_right (by omega)]
      exact congrArg (fun i => T[i]?) (by omega)
    obtain ⟨x, S', e, sx', d1⟩ := pick_rt (ρ := rb t (stD L R F) a kk at' way x6) (m := 6) a10_ok (((Ex.app.trans Ex.app).trans Ex.app).trans Ex.app) d hn rfl rfl (by simp) (by simp) (fun S2 k2 d hd => by
      have l2 : ∀ (j : Nat) (c : Cell), [(⟨false, [.tup (L.map D.int), .tup (R.map D.int), .tup (F.map D.int)]⟩ : Cell), ⟨false, L.map D.int⟩, ⟨false, R.map D.int⟩, ⟨false, F.map D.int⟩][j]? = some c → S2[S.length + j]? = some c := fun j c hc => by
        refine k2.at ?_ (by omega) (by omega)
        have := (at1 [(⟨false, [.tup (L.map D.int), .tup (R.map D.int), .tup (F.map D.int)]⟩ : Cell), ⟨false, L.map D.int⟩, ⟨false, R.map D.int⟩, ⟨false, F.map D.int⟩] j).trans hc
        simpa using this
      have t0 := row S2 0
      have t1 := row S2 1
      have t2 := row S2 2
      have q0 := l2 0 _ rfl
      have q1 := lrow S2 (S.length + 1) 0 (l2 1 _ rfl)
      have q2 := lrow S2 (S.length + 2) 1 (l2 2 _ rfl)
      have q3 := lrow S2 (S.length + 3) 2 (l2 3 _ rfl)
      simp only [List.mem_cons, List.not_mem_nil, or_false] at hd
      rcases hd with rfl | rfl | rfl | rfl | rfl | rfl
      · exact (sho_tup (b := 3000) (e := 2) (fun d hd => by
          simp only [List.mem_cons, List.not_mem_nil, or_false] at hd
          rcases hd with rfl | rfl <;> assumption)).mono (by simp) (by decide)
      · exact (sho_tup (b := 3000) (e := 2) (fun d hd => by
          simp only [List.mem_cons, List.not_mem_nil, or_false] at hd
          rcases hd with rfl | rfl | rfl | rfl <;> assumption)).mono (by simp) (by decide)
      · exact (sho_lst (b := 3000) (e := 2) q0 (fun d hd => by
          simp only [List.mem_cons, List.not_mem_nil, or_false] at hd
          rcases hd with rfl | rfl | rfl <;> assumption)).mono (by simp) (by decide)
      · exact (sho_tup (b := 3000) (e := 2) (fun d hd => by
          simp only [List.mem_cons, List.not_mem_nil, or_false] at hd
          rcases hd with rfl | rfl | rfl <;> assumption)).mono (by simp) (by decide)
      · exact (sho_tup (b := 3000) (e := 2) (fun d hd => by
          simp only [List.mem_cons, List.not_mem_nil, or_false] at hd
          rcases hd with rfl | rfl | rfl <;> assumption)).mono (by simp) (by decide)
      · exact (sho_tup (b := 3000) (e := 2) (fun d hd => by
          simp only [List.mem_cons, List.not_mem_nil, or_false] at hd
          rcases hd with rfl | rfl | rfl <;> assumption)).mono (by simp) (by decide))
    exact ⟨x, S', sq_rt (f0.trans ((ff c5).trans ((ff c6).trans ((ff c7).trans ((ff c8).trans ((ff c9).trans ((ft c10).trans e))))))), sx', d1⟩
  by_cases c11 : way = 11
  · obtain ⟨x, S', e, sx', d1⟩ := pick_rt (ρ := rb t (stD L R F) a kk at' way x6) (m := 8) a11_ok Ex.app d hn rfl rfl (by simp) (by simp) (fun S2 k2 d hd => by
      have q0 := k2.at (app_at (S := S) (c := (⟨false, []⟩ : Cell))) (by omega) (by omega)
      have i0 : ∀ d ∈ [D.int 0], Sho S2 d 61 0 := fun d hd => by
        have : d = .int 0 := by simpa using hd
        subst this
        exact sho_int (by decide)
      have te : Sho S2 (.tup []) 61 1 := (sho_tup (b := 1) (e := 0) (fun d hd => by cases hd)).mono (by simp) (by decide)
      have t0 := sho_tup i0
      simp only [List.mem_cons, List.not_mem_nil, or_false] at hd
      rcases hd with rfl | rfl | rfl | rfl | rfl | rfl | rfl | rfl
      · exact sho_non.mono (by simp) (by decide)
      · exact (sho_int (by decide)).mono (by simp) (by decide)
      · exact sho_se.mono (by simp) (by decide)
      · exact te.mono (by simp) (by decide)
      · exact (sho_tup (b := 61) (e := 1) (fun d hd => by
          simp only [List.mem_cons, List.not_mem_nil, or_false] at hd
          rcases hd with rfl | rfl | rfl <;> assumption)).mono (by simp) (by decide)
      · exact (sho_lst (b := 61) (e := 0) q0 (fun d hd => by cases hd)).mono (by simp) (by decide)
      · exact sho_bl.mono (by simp) (by decide)
      · exact (sho_tup (fun d hd => by
          simp only [List.mem_cons, List.not_mem_nil, or_false] at hd
          rcases hd with rfl | rfl | rfl <;> exact t0)).mono (by simp) (by decide))
    exact ⟨x, S', sq_rt (f0.trans ((ff c5).trans ((ff c6).trans ((ff c7).trans ((ff c8).trans ((ff c9).trans ((ff c10).trans ((ft c11).trans e)))))))), sx', d1⟩
  exact ffin (n' := n) (by omega) (f0.trans ((ff c5).trans ((ff c6).trans ((ff c7).trans ((ff c8).trans ((ff c9).trans ((ff c10).trans ((ff c11).trans skip_ap)))))))) h (gr_base hl hm hb) d
end
theorem bent_ok {S : Sto} {t k n m : Nat} {L R F : List Int} (d : Dp S t k n) (hn : n < 2 ^ 56) (lL : L.length = m) (lR : R.length = m) (lF : F.length = m) (m0 : 0 < m) (hm : m ≤ 13) (bL : ∀ i ∈ L, 0 ≤ i ∧ i ≤ 1000) (bR : ∀ i ∈ R, 0 ≤ i ∧ i ≤ 1000) (bF : ∀ i ∈ F, 0 ≤ i ∧ i ≤ 1000) :
    ∃ y S', f__law_bent [.lst t, stD L R F] S = .ok y S' ∧ Sho S' y 20000 5 ∧ Dp S' t k (n + 4) := by
  obtain ⟨S1, e1, r1, x1⟩ := lists_ok (A := L.map D.int) (B := R.map D.int) (C := F.map D.int) (f := vr 1) (ρ := [some (.lst t), some (stD L R F), none, none, none, none, none]) (S := S) (by simp [stD])
  have h1 : R3 S1 S.length fun i => (N3 L R F i).map D.int := ⟨r1.q0, fun j hj => by
    rcases (by omega : j = 0 ∨ j = 1 ∨ j = 2) with rfl | rfl | rfl
    · exact r1.q1
    · exact r1.q2
    · exact r1.q3⟩
  have lt := d.lt
  have d1 := d.ext x1
  have ht : t < S.length := lt.1
  have hk : k < S.length := lt.2
  have hl : ∀ j, (N3 L R F j).length = m := fun j => by
    rcases (by omega : j = 0 ∨ j = 1 ∨ 2 ≤ j) with rfl | rfl | z
    · exact lL
    · exact lR
    · obtain ⟨i, rfl⟩ : ∃ i, j = i + 2 := ⟨j - 2, by omega⟩
      exact lF
  have hb : ∀ j, ∀ i ∈ N3 L R F j, 0 ≤ i ∧ i ≤ 1000 := fun j => by
    rcases (by omega : j = 0 ∨ j = 1 ∨ 2 ≤ j) with rfl | rfl | z
    · exact bL
    · exact bR
    · obtain ⟨i, rfl⟩ : ∃ i, j = i + 2 := ⟨j - 2, by omega⟩
      exact bF
  obtain ⟨a, S2, e2, a0, a1, d2, k2⟩ := draw_ok (m := 3) d1 (by omega) (by decide) (by decide)
  have h2 := h1.kp k2 ht hk
  have g0 : DL.getD (.lst S.length) (.int 0) S2 = .ok (.lst (S.length + 1)) S2 := h2.row (j := 0) (by decide)
  have ln := len_l (h2.hj 0 (by decide))
  have ln : lenD [.lst (S.length + 1)] S2 = .ok (.int m) S2 := by
    have : ((L.map D.int).length : Int) = m := by simp [lL]
    rw [← this]
    exact ln
  obtain ⟨b, S3, e3, b0, b1, d3, k3⟩ := draw_ok (m := (m : Int)) d2 (by omega) (by omega) (by omega)
  have h3 := h2.kp k3 ht hk
  obtain ⟨w, S4, e4, w0, w1, d4, k4⟩ := draw_ok (m := 14) d3 (by omega) (by decide) (by decide)
  have h4 := h3.kp k4 ht hk
  obtain ⟨kk, rfl⟩ : ∃ kk : Nat, a = kk := ⟨a.toNat, by omega⟩
  obtain ⟨at', rfl⟩ : ∃ kk : Nat, b = kk := ⟨b.toNat, by omega⟩
  obtain ⟨y, S5, e5, s5, d5⟩ := ways_ok (way := w) (x6 := none) d4 (by omega) h4 ht hk (kk := kk) (by omega) hl (at' := at') (by omega) hm hb w0 w1
  refine ⟨y, S5, ?_, s5, d5.mono (by omega)⟩
  refine (fnB_ap (m := 7) (b := b__law_bent)).trans ?_
  show fin (b__law_bent [some (.lst t), some (stD L R F), none, none, none, none, none] S) = _
  unfold b__law_bent
  refine (fin_nx (ρ' := [some (.lst t), some (stD L R F), some (.lst S.length), none, none, none, none]) (S' := S1) (by rw [sa_ap, e1]; rfl)).trans ?_
  refine (fin_nx (ρ' := [some (.lst t), some (stD L R F), some (.lst S.length), some (.int kk), none, none, none]) (S' := S2) (by simp [e2])).trans ?_
  refine (fin_nx (ρ' := [some (.lst t), some (stD L R F), some (.lst S.length), some (.int kk), some (.int at'), none, none]) (S' := S3) (by simp [g0, ln, e3])).trans ?_
  refine (fin_nx (ρ' := [some (.lst t), some (stD L R F), some (.lst S.length), some (.int kk), some (.int at'), some (.int w), none]) (S' := S4) (by simp [e4])).trans ?_
  show fin (sq wys wtl (rb t (stD L R F) S.length kk at' w none) S4) = _
  rw [e5]
  rfl
end Law
set_option Elab.async false
set_option linter.all false
set_option maxRecDepth 100000
namespace Law
open PySem PySem.Spec PyProof.Rows L2 DL
theorem ne_bb {a : Bool} {S : Sto} : neD (.bl a) (.bl a) S = .ok (.bl false) S := by
  simp only [neD, toP]
  cases a <;> simp [SeqAt.shaped, PyData.eqv, PyData.canLay0, PyData.depth]
theorem ne_ss {s : Str} {S : Sto} (h : PyData.strOk s = true) : neD (.str s) (.str s) S = .ok (.bl false) S := by
  simp only [neD, toP]
  simp [SeqAt.shaped, PyData.eqv, PyData.canLay0, PyData.depth, h]
theorem lb1_ok {mid : List Pl} {gd : D} {L R F : List Int} {x0 x3 x5 x6 x7 x8 x9 x10 : Option D} {S : Sto} {t k n : Nat} (d : Dp S t k n) (hn : n < 2 ^ 56) (hm : ∀ p ∈ mid, p.ok ∧ p.isE = false) (h1 : 1 ≤ mid.length) (h2 : mid.length ≤ 11) (lL : L.length = mid.length + 2) (lR : R.length = mid.length + 2) (lF : F.length = mid.length + 2) (bL : ∀ i ∈ L, 0 ≤ i ∧ i ≤ 1000) (bR : ∀ i ∈ R, 0 ≤ i ∧ i ≤ 1000) (bF : ∀ i ∈ F, 0 ≤ i ∧ i ≤ 1000) :
    ∃ y5 y9 y10 S', lb_law_1 [x0, some (.lst t), some (CD mid gd), x3, some (stD L R F), x5, x6, x7, x8, x9, x10] S = .nx [x0, some (.lst t), some (CD mid gd), x3, some (stD L R F), y5, x6, x7, x8, y9, y10] S' ∧ Dp S' t k (n + 4) := by
  obtain ⟨y, S1, e1, sh, d1⟩ := bent_ok d hn lL lR lF (by omega) (by omega) bL bR bF
  obtain ⟨s, hs, er⟩ := sh.repr (by decide) (by decide)
  obtain ⟨S2, e2, x2⟩ := is_stand_ok (gd := gd) (x := y) (S := S1) (plc_ok hm) (by rw [plc_len]; omega)
  have e3 := lis_ok (gd := gd) (x := y) (S := S2) (plc_ok hm) (by rw [plc_len]; omega)
  have r1 := er S1 .refl
  have r2 := er S2 x2
  refine ⟨some (.bl (isSt (plc mid) y)), some y, some (.str s), S2, ?_, d1.ext x2⟩
  unfold lb_law_1
  refine (sq_nx (ρ' := [x0, some (.lst t), some (CD mid gd), x3, some (stD L R F), x5, x6, x7, x8, some y, x10]) (S1 := S1) (by simp [e1])).trans ?_
  refine (sq_nx (ρ' := [x0, some (.lst t), some (CD mid gd), x3, some (stD L R F), x5, x6, x7, x8, some y, some (.str s)]) (S1 := S1) (by simp [r1])).trans ?_
  refine (sq_nx (ρ' := [x0, some (.lst t), some (CD mid gd), x3, some (stD L R F), some (.bl (isSt (plc mid) y)), x6, x7, x8, some y, some (.str s)]) (S1 := S2) (by simp [e2])).trans ?_
  refine (sq_nx (ρ' := [x0, some (.lst t), some (CD mid gd), x3, some (stD L R F), some (.bl (isSt (plc mid) y)), x6, x7, x8, some y, some (.str s)]) (S1 := S2) ((sif_f (S1 := S2) (by simp [isD, isT, tyN, truD, e3, ne_bb])).trans skip_ap)).trans ?_
  exact (sif_f (S1 := S2) (by simp [r2, ne_ss hs])).trans skip_ap
theorem mul_0 {k : Nat} {S : Sto} (h2 : 2 ≤ k) (h3 : k ≤ 1000) : mulD (.tup [.int 0]) (.int k) S = .ok (.tup ((List.replicate k (0 : Int)).map D.int)) S := by
  show (if 0 < [D.int 0].length ∧ (2 ≤ (k : Int) ∧ (k : Int) ≤ 1000000) ∧ [D.int 0].length * (k : Int).toNat ≤ 1000000 then Out.ok (D.tup (List.replicate (k : Int).toNat [D.int 0]).flatten) S else .bad) = _
  rw [if_pos ⟨by simp, ⟨by omega, by omega⟩, by simp; omega⟩, Int.toNat_natCast]
  simp
theorem thr_none {k : Nat} {i : Int} : thr (List.replicate k 0 ++ [i]) (i :: List.replicate k 0) = true := by
  have h1 : (List.replicate k (0 : Int) ++ [i]).take ((List.replicate k (0 : Int) ++ [i]).length - 1) = List.replicate k 0 := by simp
  have h2 : ∀ k : Nat, (List.replicate k (0 : Int)).sum = 0 := fun k => by
    induction k with
    | zero => rfl
    | succ k ih => rw [List.replicate_succ, List.sum_cons, ih]; rfl
  unfold thr
  rw [h1, h2]
  show (decide ((0 : Int) = 0) && decide ((List.replicate k (0 : Int)).sum = 0)) = true
  rw [h2]
  rfl
theorem none_ok {ps : List D} {gd : D} {L R F : List Int} {x0 x1 x5 x6 x7 x8 x9 x10 : Option D} {S : Sto} {k : Nat} {i : Int} (hp : ps.length = k + 1) (h2 : 2 ≤ k) (h3 : k ≤ 1000) :
    (tp (ac (o2 DL.getD (vr 4) (cn (.int 0))) (ac (o2 addD (o2 mulD (tp (ac (cn (.int 0)) an)) (o2 subD (b1 lenD (ac (o2 DL.getD (vr 2) (cn (.int 0))) an)) (cn (.int 1)))) (tp (ac (vr 3) an))) (ac (o2 addD (tp (ac (vr 3) an)) (o2 mulD (tp (ac (cn (.int 0)) an)) (o2 subD (b1 lenD (ac (o2 DL.getD (vr 2) (cn (.int 0))) an)) (cn (.int 1))))) an)))) [x0, x1, some (.tup [.tup ps, gd]), some (.int i), some (stD L R F), x5, x6, x7, x8, x9, x10] S = .ok (stD L (List.replicate k 0 ++ [i]) (i :: List.replicate k 0)) S := by
  have g0 : DL.getD (.tup [.tup ps, gd]) (.int 0) S = .ok (.tup ps) S := get_t rfl
  have g1 : DL.getD (stD L R F) (.int 0) S = .ok (.tup (L.map D.int)) S := get_t rfl
  have ln : lenD [.tup ps] S = .ok (.int ((k : Int) + 1)) S := by rw [len_t, hp]; rfl
  have mu : mulD (.tup [.int 0]) (.int ((k : Int) + 1 - 1)) S = .ok (.tup ((List.replicate k (0 : Int)).map D.int)) S := by
    rw [show (k : Int) + 1 - 1 = k by omega]; exact mul_0 h2 h3
  have a1 : addD (.tup ((List.replicate k (0 : Int)).map D.int)) (.tup [.int i]) S = .ok (.tup ((List.replicate k 0 ++ [i]).map D.int)) S := by
    rw [add_tt (by simp; omega), List.map_append]; rfl
  have a2 : addD (.tup [.int i]) (.tup ((List.replicate k (0 : Int)).map D.int)) S = .ok (.tup ((i :: List.replicate k 0).map D.int)) S := by
    rw [add_tt (by simp; omega)]; rfl
  simp only [tp_ap, ac_ap, an_ap, o2_ap, b1_ap, vr_ap, cn_ap, List.getElem?_cons_zero, List.getElem?_cons_succ, bind_ok, g0, g1, ln, sub_ii, List.length_cons, List.length_nil, Nat.reduceAdd, Nat.reduceLeDiff, if_true, mu, a1, a2]
  rfl
theorem lb2_ok {mid : List Pl} {gd : D} {x0 x4 x5 x6 x7 x8 x9 x10 : Option D} {i : Nat} {S : Sto} {t k n : Nat} (hi : i < 3) (d : Dp S t k n) (hn : n < 2 ^ 55) (hm : ∀ p ∈ mid, p.ok ∧ p.isE = false) (hw : Wt mid) (h1 : 1 ≤ mid.length) (h2 : mid.length ≤ 11) :
    ∃ y4 y5 y6 y7 y8 y9 y10 S', lb_law_2 [x0, some (.lst t), some (CD mid gd), some (.int i), x4, x5, x6, x7, x8, x9, x10] S = .nx [x0, some (.lst t), some (CD mid gd), some (.int i), y4, y5, y6, y7, y8, y9, y10] S' ∧ Dp S' t k (n + 200) := by
  obtain ⟨cr, c0, c1, ec⟩ : ∃ cr : Int, 0 ≤ cr ∧ cr ≤ 7 ∧ DL.getD (.lst S.length) (.int i) (S ++ [⟨false, [.int 0, .int 1, .int 7]⟩]) = .ok (.int cr) (S ++ [⟨false, [.int 0, .int 1, .int 7]⟩]) := by
    rcases (by omega : i = 0 ∨ i = 1 ∨ i = 2) with rfl | rfl | rfl
    · exact ⟨0, by decide, by decide, get_l app_at rfl⟩
    · exact ⟨1, by decide, by decide, get_l app_at rfl⟩
    · exact ⟨7, by decide, by decide, get_l app_at rfl⟩
  obtain ⟨L, R, F, S1, e1, st, d1, _⟩ := stand_ok (gd := gd) (cr := cr) (d.app (c := ⟨false, [.int 0, .int 1, .int 7]⟩)) (by omega) (plc_ok hm) (by rw [plc_len]; omega) c0 (by omega)
  have e1 : f__law_stand [.lst t, CD mid gd, .int cr] (S ++ [⟨false, [.int 0, .int 1, .int 7]⟩]) = .ok (stD L R F) S1 := e1
  have tr := st_true hm hw h2 c1 st
  obtain ⟨n1, n2, n3⟩ := st.nn
  obtain ⟨bL, bR, bF⟩ := st.le (plc_ok hm) c1
  have lL := st.lL
  have lR := st.lR
  have lF := st.lF
  rw [plc_len] at lL lR lF
  have pl : ((plc mid).map Pl.toD).length = mid.length + 2 := by rw [List.length_map, plc_len]
  obtain ⟨S2, e2, x2⟩ := is_stand_ok (gd := gd) (x := stD L R F) (S := S1) (plc_ok hm) (by rw [plc_len]; omega)
  rw [tr] at e2
  have e2 : f_is_stand [CD mid gd, stD L R F] S1 = .ok (.bl true) S2 := e2
  have e3 : f_is_through [CD mid gd, stD L R F] S2 = .ok (.bl (thr R F)) S2 := through_ok (by omega) (by omega) (by omega)
  obtain ⟨S3, e4, x3⟩ := own_ok (ρ := [x0, some (.lst t), some (CD mid gd), some (.int i), some (stD L R F), some (.bl (thr R F)), x6, x7, x8, x9, x10]) (S := S2) (L := L) (fun S => by simp) n2 n3 (by omega) (by omega) (by omega) (by omega)
  have e5 := none_ok (ps := (plc mid).map Pl.toD) (gd := gd) (L := L) (R := R) (F := F) (x0 := x0) (x1 := some (.lst t)) (x5 := some (.bl (thr R F))) (x6 := some (.bl (thr R F))) (x7 := x7) (x8 := x8) (x9 := x9) (x10 := x10) (S := S3) (k := mid.length + 1) (i := (i : Int)) pl (by omega) (by omega)
  have e6 : f_is_through [CD mid gd, stD L (List.replicate (mid.length + 1) 0 ++ [(i : Int)]) ((i : Int) :: List.replicate (mid.length + 1) 0)] S3 = .ok (.bl true) S3 := by
    rw [through_ok (by omega) (by rw [pl]; simp) (by rw [pl]; simp), thr_none]
  have d3 := (d1.ext x2).ext x3
  obtain ⟨ρ6, S6, ef6, u5, u8, u9, u10, eρ6, d6⟩ := for_inv (nxt := (rsrc 0 4).nxt) (g := gn 8) (b := lb_law_1) (l := (List.range 4).map fun k : Nat => D.int (k : Int))
    (fun j ρ S' => ∃ u5 u8 u9 u10, ρ = [x0, some (.lst t), some (CD mid gd), some (.int i), some (stD L R F), u5, some (.bl (thr R F)), some (stD L (List.replicate (mid.length + 1) 0 ++ [(i : Int)]) ((i : Int) :: List.replicate (mid.length + 1) 0)), u8, u9, u10] ∧ Dp S' t k (n + 100 + 4 * j))
    (fun j _ S _ => rng_get) (fun j d ρ S' hd ⟨u5, u8, u9, u10, h1', h2'⟩ => by
      obtain ⟨hj, rfl⟩ := rng_of hd
      subst h1'
      obtain ⟨z5, z9, z10, S'', c1', c2'⟩ := lb1_ok (gd := gd) (x0 := x0) (x3 := some (.int i)) (x5 := u5) (x6 := some (.bl (thr R F))) (x7 := some (stD L (List.replicate (mid.length + 1) 0 ++ [(i : Int)]) ((i : Int) :: List.replicate (mid.length + 1) 0))) (x8 := some (.int j)) (x9 := u9) (x10 := u10) h2' (by omega) hm h1 h2 lL lR lF bL bR bF
      exact ⟨_, _, S'', rfl, c1', z5, some (.int j), z9, z10, rfl, c2'.mono (by omega)⟩) (4 + 1) 0 [x0, some (.lst t), some (CD mid gd), some (.int i), some (stD L R F), some (.bl (thr R F)), some (.bl (thr R F)), some (stD L (List.replicate (mid.length + 1) 0 ++ [(i : Int)]) ((i : Int) :: List.replicate (mid.length + 1) 0)), x8, x9, x10] S3 (Nat.zero_le _) ⟨_, x8, x9, x10, rfl, d3.mono (by omega)⟩ (by simp)
  subst eρ6
  refine ⟨some (stD L R F), u5, some (.bl (thr R F)), some (stD L (List.replicate (mid.length + 1) 0 ++ [(i : Int)]) ((i : Int) :: List.replicate (mid.length + 1) 0)), u8, u9, u10, S6, ?_, d6.mono (by simp)⟩
  unfold lb_law_2
  refine (sq_nx (ρ' := [x0, some (.lst t), some (CD mid gd), some (.int i), some (stD L R F), x5, x6, x7, x8, x9, x10]) (S1 := S1) (by simp [ec, e1])).trans ?_
  refine (sq_nx (ρ' := [x0, some (.lst t), some (CD mid gd), some (.int i), some (stD L R F), x5, x6, x7, x8, x9, x10]) (S1 := S2) ((sif_f (S1 := S2) (by simp [e2, notbD])).trans skip_ap)).trans ?_
  refine (sq_nx (ρ' := [x0, some (.lst t), some (CD mid gd), some (.int i), some (stD L R F), some (.bl (thr R F)), x6, x7, x8, x9, x10]) (S1 := S2) (by simp [e3])).trans ?_
  refine (sq_nx (ρ' := [x0, some (.lst t), some (CD mid gd), some (.int i), some (stD L R F), some (.bl (thr R F)), some (.bl (thr R F)), x7, x8, x9, x10]) (S1 := S3) (by rw [sa_ap, e4]; rfl)).trans ?_
  refine (sq_nx (ρ' := [x0, some (.lst t), some (CD mid gd), some (.int i), some (stD L R F), some (.bl (thr R F)), some (.bl (thr R F)), x7, x8, x9, x10]) (S1 := S3) ((sif_f (S1 := S3) (by simp [isD, isT, tyN, truD, ne_bb])).trans skip_ap)).trans ?_
  refine (sq_nx (ρ' := [x0, some (.lst t), some (CD mid gd), some (.int i), some (stD L R F), some (.bl (thr R F)), some (.bl (thr R F)), some (stD L (List.replicate (mid.length + 1) 0 ++ [(i : Int)]) ((i : Int) :: List.replicate (mid.length + 1) 0)), x8, x9, x10]) (S1 := S3) (by rw [sa_ap, e5]; rfl)).trans ?_
  refine (sq_nx (ρ' := [x0, some (.lst t), some (CD mid gd), some (.int i), some (stD L R F), some (.bl (thr R F)), some (.bl (thr R F)), some (stD L (List.replicate (mid.length + 1) 0 ++ [(i : Int)]) ((i : Int) :: List.replicate (mid.length + 1) 0)), x8, x9, x10]) (S1 := S3) ((sif_f (S1 := S3) (by simp [e6, notbD])).trans skip_ap)).trans ?_
  rw [sfor_ap, ir1_ok (n := 4) (S' := S3) (by simp) (by omega)]
  exact ef6
theorem sl_l {S : Sto} {q : Nat} {c : Cell} {lo hi : Option Int} (e : S[q]? = some c) : slD2 (.lst q) lo hi S = .ok (.lst S.length) (S ++ [⟨false, DL.cutD c.xs lo hi⟩]) := by
  simp only [slD2, e]
theorem list_l {S : Sto} {q : Nat} {c : Cell} (e : S[q]? = some c) : listD [.lst q] S = .ok (.lst S.length) (S ++ [⟨false, c.xs⟩]) := by
  simp only [listD, e]
theorem cut_map {ns : List Int} {lo hi : Option Int} : ∃ ys : List Int, DL.cutD (ns.map D.int) lo hi = ys.map D.int :=
  ⟨(ns.drop (HT.sIx (ns.map D.int).length 0 lo)).take (HT.sIx (ns.map D.int).length (ns.map D.int).length hi - HT.sIx (ns.map D.int).length 0 lo), by unfold DL.cutD; rw [List.map_take, List.map_drop]⟩
theorem tape_ok {S : Sto} {q : Nat} {fz : Bool} {ns : List Int} (e : S[q]? = some ⟨fz, ns.map D.int⟩) : ∃ (t k : Nat) (S' : Sto), f__law_tape [.lst q] S = .ok (.lst t) S' ∧ Dp S' t k 0 := by
  obtain ⟨ys, hy⟩ := cut_map (ns := ns) (lo := none) (hi := some 63)
  have s1 : slD2 (.lst q) none (some 63) S = .ok (.lst S.length) (S ++ [⟨false, ys.map D.int⟩]) := by rw [sl_l e, hy]
  have q1 : (S ++ [⟨false, ys.map D.int⟩])[S.length]? = some (⟨false, ys.map D.int⟩ : Cell) := app_at
  generalize hS1 : S ++ [⟨false, ys.map D.int⟩] = S1 at *
  have s3 : listD [.lst S.length] S1 = .ok (.lst S1.length) (S1 ++ [⟨false, ys.map D.int⟩]) := list_l q1
  have q3 : (S1 ++ [⟨false, ys.map D.int⟩])[S1.length]? = some (⟨false, ys.map D.int⟩ : Cell) := app_at
  have l3 : (S1 ++ [(⟨false, ys.map D.int⟩ : Cell)]).length = S1.length + 1 := by simp
  generalize hS3 : S1 ++ [⟨false, ys.map D.int⟩] = S3 at *
  refine ⟨S3.length, S1.length, S3 ++ [⟨false, [.lst S1.length, .int 0, .int 0]⟩], ?_, ⟨⟨0, 0, ys, app_at, app_old q3, by decide, by decide⟩, by omega⟩⟩
  refine (fnB_ap (m := 1) (b := b__law_tape)).trans ?_
  show fin (b__law_tape [some (.lst q)] S) = _
  unfold b__law_tape
  simp [s1, s3]
theorem law_ok {S : Sto} {q : Nat} {fz : Bool} {ns : List Int} (e : S[q]? = some ⟨fz, ns.map D.int⟩) : ∃ S', f_law [.lst q] S = .ok (.bl true) S' := by
  obtain ⟨t, k, S1, e1, d1⟩ := tape_ok e
  obtain ⟨mid, gs, S2, e2, hm, hw, h1, h2, d2, _⟩ := canal_ok (most := 11) d1 (by decide) (by decide) (by decide)
  have e2 : f__law_canal [.lst t, .int 11] S1 = .ok (CD mid (.tup gs)) S2 := e2
  obtain ⟨ρ3, S3, ef3, y3, y4, y5, y6, y7, y8, y9, y10, eρ, d3⟩ := for_inv (nxt := (rsrc 0 3).nxt) (g := gn 3) (b := lb_law_2) (l := (List.range 3).map fun k : Nat => D.int (k : Int))
    (fun i ρ S' => ∃ y3 y4 y5 y6 y7 y8 y9 y10, ρ = [some (.lst q), some (.lst t), some (CD mid (.tup gs)), y3, y4, y5, y6, y7, y8, y9, y10] ∧ Dp S' t k (200 + 200 * i))
    (fun i _ S _ => rng_get) (fun i d ρ S' hd ⟨y3, y4, y5, y6, y7, y8, y9, y10, h1', h2'⟩ => by
      obtain ⟨hi, rfl⟩ := rng_of hd
      subst h1'
      obtain ⟨z4, z5, z6, z7, z8, z9, z10, S'', c1, c2⟩ := lb2_ok (gd := .tup gs) (x0 := some (.lst q)) (x4 := y4) (x5 := y5) (x6 := y6) (x7 := y7) (x8 := y8) (x9 := y9) (x10 := y10) hi h2' (by omega) hm hw h1 h2
      exact ⟨_, _, S'', rfl, c1, some (.int i), z4, z5, z6, z7, z8, z9, z10, rfl, c2.mono (by omega)⟩) (3 + 1) 0 [some (.lst q), some (.lst t), some (CD mid (.tup gs)), none, none, none, none, none, none, none, none] S2 (Nat.zero_le _) ⟨none, none, none, none, none, none, none, none, rfl, d2.mono (by omega)⟩ (by simp)
  subst eρ
  refine ⟨S3, ?_⟩
  refine (fnB_ap (m := 11) (b := b_law)).trans ?_
  show fin (b_law [some (.lst q), none, none, none, none, none, none, none, none, none, none] S) = _
  unfold b_law
  refine (fin_nx (ρ' := [some (.lst q), some (.lst t), none, none, none, none, none, none, none, none, none]) (S' := S1) (by simp [e1])).trans ?_
  refine (fin_nx (ρ' := [some (.lst q), some (.lst t), some (CD mid (.tup gs)), none, none, none, none, none, none, none, none]) (S' := S2) (by simp [e2])).trans ?_
  refine (fin_nx (ρ' := [some (.lst q), some (.lst t), some (CD mid (.tup gs)), y3, y4, y5, y6, y7, y8, y9, y10]) (S' := S3) ?_).trans ?_
  · rw [sfor_ap, ir1_ok (n := 3) (S' := S2) (by simp) (by omega)]
    exact ef3
  simp
theorem rep_ints {K : PySem.W.Frag} {mp : List Addr} {H : Hp} : ∀ ns : List Int, RepL K mp H (ns.map D.int) (ns.map V.int)
  | [] => RepL.nil
  | a :: r => RepL.cons rfl (rep_ints r)
theorem hsp (K : PySem.W.Frag) (H : Hp) (a : Addr) (ns : List Int) (hl : ns.length ≤ 63) (hO : Only H) (hS : SqL K H a (ns.map V.int)) : spD K 1 f_law [.ref a] H (fun v _ => v = .bl true) fun _ _ _ => False := by
  have hF : SqF K H a (ns.map V.int) := by
    rcases hS with (h | h) | h
    · rcases hO a with z | ⟨o, xs, z⟩
      · rw [z] at h; cases h
      · rw [z] at h; cases h
    · exact .inl h
    · exact .inr h
  obtain ⟨S', e⟩ := law_ok (S := [⟨true, ns.map D.int⟩]) (q := 0) (fz := true) (ns := ns) rfl
  refine ⟨[a], [.lst 0], [⟨true, ns.map D.int⟩], ⟨rfl, fun i b c h1 h2 => ?_, fun i j b ci cj h1 h2 h3 h4 h5 h6 => ?_⟩, RepL.cons ⟨a, rfl, rfl⟩ RepL.nil, rfl, ?_⟩
  · cases i with
    | zero =>
      cases (Option.some.inj h1)
      cases (Option.some.inj h2)
      exact ⟨ns.map V.int, rep_ints ns, (if_pos rfl).mpr hF⟩
    | succ i => simp at h1
  · cases i with
    | zero => cases (Option.some.inj h3); cases h5
    | succ i => simp at h1
  · show PostF K [a] H (f_law [.lst 0] [⟨true, ns.map D.int⟩]) _
    rw [e]
    exact fun mp' H' v _ _ h => h
end Law
set_option Elab.async false
open PySem PySem.W PyProof.Rows
set_option maxRecDepth 100000 in
set_option maxHeartbeats 0 in
theorem PySem.Challenge.cw_summitwater_k05_stands_known_holds : PySem.Challenge.rw_summitwater_k05_stands_known.Holds := by
  w_on; o_law; k_head; (case hw => w_witness2)
  k_fill
  refine L2.walk_ofK (l := PySem.Challenge.rw_summitwater_k05_stands_known) (n := 63) (k := 4) (x := "_law_script") (CX := L2.CX0) (sp := fun K => DL.spD K 1 Law.f_law) rfl (by decide) rfl ⟨rfl, by decide, by decide, rfl⟩ (fun w h Y => PySem.W.kIn_of Y) ?F Law.hsp (fun _ _ _ _ z => z)
  case F =>
    intro w mg fa h KX G hmg
    refine' Law.all_mk KX G hmg ?a_is_whole ?l_is_whole ?c_is_whole ?k_is_whole ?a_is_tuple ?l_is_tuple ?c_is_tuple ?k_is_tuple ?a_most_water ?l_most_water ?c_most_water ?k_most_water ?a_holds ?l_holds ?c_holds ?k_holds ?a_are_counts ?l_are_counts ?c_are_counts ?k_are_counts ?a_is_stand ?l_is_stand ?c_is_stand ?k_is_stand ?a_is_through ?l_is_through ?c_is_through ?k_is_through ?a__law_tape ?l__law_tape ?c__law_tape ?k__law_tape ?a__law_draw ?l__law_draw ?c__law_draw ?k__law_draw ?a__law_pound ?l__law_pound ?c__law_pound ?k__law_pound ?a__law_canal ?l__law_canal ?c__law_canal ?k__law_canal ?a__law_stand ?l__law_stand ?c__law_stand ?k__law_stand ?a__law_whole ?l__law_whole ?c__law_whole ?k__law_whole ?a__law_is_stand ?l__law_is_stand ?c__law_is_stand ?k__law_is_stand ?a__law_bent ?l__law_bent ?c__law_bent ?k__law_bent ?a_law ?l_law ?c_law ?k_law ?z_all ?z_bool ?z_enumerate ?z_int ?z_isinstance ?z_len ?z_list ?z_min ?z_range ?z_repr ?z_sum ?z_tuple ?ka_CHAMBER ?kl_CHAMBER ?ka_END ?kl_END ?ka_MOST_BARGES
    (case a_is_whole => k_is); (case l_is_whole => k_is); (case c_is_whole => k_is); (case k_is_whole => k_is)
    (case a_is_tuple => k_is); (case l_is_tuple => k_is); (case c_is_tuple => k_is); (case k_is_tuple => k_is)
    (case a_most_water => k_is); (case l_most_water => k_is); (case c_most_water => k_is); (case k_most_water => k_is)
    (case a_holds => k_is); (case l_holds => k_is); (case c_holds => k_is); (case k_holds => k_is)
    (case a_are_counts => k_is); (case l_are_counts => k_is); (case c_are_counts => k_is); (case k_are_counts => k_is)
    (case a_is_stand => k_is); (case l_is_stand => k_is); (case c_is_stand => k_is); (case k_is_stand => k_is)
    (case a_is_through => k_is); (case l_is_through => k_is); (case c_is_through => k_is); (case k_is_through => k_is)
    (case a__law_tape => k_is); (case l__law_tape => k_is); (case c__law_tape => k_is); (case k__law_tape => k_is)
    (case a__law_draw => k_is); (case l__law_draw => k_is); (case c__law_draw => k_is); (case k__law_draw => k_is)
    (case a__law_pound => k_is); (case l__law_pound => k_is); (case c__law_pound => k_is); (case k__law_pound => k_is)
    (case a__law_canal => k_is); (case l__law_canal => k_is); (case c__law_canal => k_is); (case k__law_canal => k_is)
    (case a__law_stand => k_is); (case l__law_stand => k_is); (case c__law_stand => k_is); (case k__law_stand => k_is)
    (case a__law_whole => k_is); (case l__law_whole => k_is); (case c__law_whole => k_is); (case k__law_whole => k_is)
    (case a__law_is_stand => k_is); (case l__law_is_stand => k_is); (case c__law_is_stand => k_is); (case k__law_is_stand => k_is)
    (case a__law_bent => k_is); (case l__law_bent => k_is); (case c__law_bent => k_is); (case k__law_bent => k_is)
    (case a_law => k_is); (case l_law => k_is); (case c_law => k_is); (case k_law => k_is)
    (case z_all => k_is)
    (case z_bool => k_is)
    (case z_enumerate => k_is)
    (case z_int => k_is)
    (case z_isinstance => k_is)
    (case z_len => k_is)
    (case z_list => k_is)
    (case z_min => k_is)
    (case z_range => k_is)
    (case z_repr => k_is)
    (case z_sum => k_is)
    (case z_tuple => k_is)
    (case ka_CHAMBER => k_is)
    (case kl_CHAMBER => k_is)
    (case ka_END => k_is)
    (case kl_END => k_is)
    (case ka_MOST_BARGES => k_is)
