import PyProof.Rows.All
import Wide.All
import OpenK.AllK
import Wide.FinOn
import Lean
import PyProof.EqAt
import PyProof.EqKinds
import PyProof.TupleCall
import PySem.Challenge.RW_summitwater_k55_stretches_of_any_thing
-- CHANGE: your row's module here, as the last of these rows
set_option Elab.async false
set_option linter.all false
set_option maxRecDepth 100000
/-! THE HAND LAYER, for ints, bools, texts, own classes, LISTS and tuples (index, slices, in, append, pop ..), calls, loops. Paste it whole ahead of your own text; what your proof does not reach may be deleted. -/
namespace L2
open PySem PySem.Spec PyProof.Rows

/-- a key: an int or a str -/
abbrev Key := Sum Int Str
def keyIs : Key → Value → Bool
  | .inl k, v => Value.isInt k v
  | .inr x, v => Value.isStrOf x v
def keyH (w : World) : Key → Int
  | .inl k => hashInt k
  | .inr x => hashStr w x
theorem keyIs_shape : ∀ {k : Key} {v : Value}, keyIs k v = true → (∃ i t, k = Sum.inl i ∧ v = Value.int i t) ∨ (∃ x t, k = Sum.inr x ∧ v = Value.str x t)
  | .inl i, v, h => by
    obtain ⟨t, e⟩ := Value.isInt_shape (k := i) (v := v) h
    exact .inl ⟨i, t, rfl, e⟩
  | .inr x, v, h => by
    obtain ⟨t, e⟩ := Value.isStrOf_shape (x := x) (v := v) h
    exact .inr ⟨x, t, rfl, e⟩
theorem keyIs_int (i : Int) (t : Tok) : keyIs (.inl i) (.int i t) = true := by simp [keyIs, Value.isInt]
theorem keyIs_str (x : Str) (t : Tok) : keyIs (.inr x) (.str x t) = true := by simp [keyIs, Value.isStrOf]
theorem key_ll (a b : Int) : decide ((Sum.inl a : Key) = Sum.inl b) = (a == b) := by
  by_cases e : a = b
  · subst e; simp
  · have h : ¬ (Sum.inl a : Key) = Sum.inl b := fun q => e (Sum.inl.inj q)
    rw [decide_eq_false h]
    exact (beq_eq_false_iff_ne.mpr e).symm
theorem key_rr (a b : Str) : decide ((Sum.inr a : Key) = Sum.inr b) = decide (a = b) := by
  by_cases e : a = b
  · subst e; simp
  · have h : ¬ (Sum.inr a : Key) = Sum.inr b := fun q => e (Sum.inr.inj q)
    rw [decide_eq_false h, decide_eq_false e]
theorem key_lr (a : Int) (b : Str) : decide ((Sum.inl a : Key) = Sum.inr b) = false := decide_eq_false (fun q => nomatch q)
theorem key_rl (a : Str) (b : Int) : decide ((Sum.inr a : Key) = Sum.inl b) = false := decide_eq_false (fun q => nomatch q)

def mixKind (prog : Program) (w : World) : PySem.KeyKind prog w Key where
  is := keyIs
  hash := keyH w
  inj := fun v a b ha hb => by
    rcases keyIs_shape ha with ⟨i, t, rfl, rfl⟩ | ⟨x, t, rfl, rfl⟩
    · rcases keyIs_shape hb with ⟨j, u, rfl, e⟩ | ⟨y, u, rfl, e⟩
      · injection e with e1 _; rw [e1]
      · exact nomatch e
    · rcases keyIs_shape hb with ⟨j, u, rfl, e⟩ | ⟨y, u, rfl, e⟩
      · exact nomatch e
      · injection e with e1 _; rw [e1]
  byValue := fun k v h => by
    rcases keyIs_shape h with ⟨i, t, rfl, rfl⟩ | ⟨x, t, rfl, rfl⟩ <;> rfl
  pyHash := fun hv h => by
    rcases keyIs_shape hv with ⟨i, t, rfl, rfl⟩ | ⟨x, t, rfl, rfl⟩
    · exact wpAny_pyHash_int h
    · exact wpAny_pyHash_str h
  eqBool := fun hu hv h => by
    rcases keyIs_shape hu with ⟨i, t, rfl, rfl⟩ | ⟨x, t, rfl, rfl⟩
    · rcases keyIs_shape hv with ⟨j, u, rfl, rfl⟩ | ⟨y, u, rfl, rfl⟩
      · rw [key_ll] at h; exact wpAny_eqBool_int h
      · rw [key_lr] at h; exact SeqAt.EqAt.int_str i t y u _ _ _ _ h
    · rcases keyIs_shape hv with ⟨j, u, rfl, rfl⟩ | ⟨y, u, rfl, rfl⟩
      · rw [key_rl] at h; exact SeqAt.EqAt.str_int x t j u _ _ _ _ h
      · rw [key_rr] at h; exact wpAny_eqBool_str h
  «strs» := fun k x t v h => by
    rcases keyIs_shape h with ⟨i, u, rfl, e⟩ | ⟨y, u, rfl, e⟩
    · exact nomatch e
    · injection e with e1 _
      subst e1
      cases v <;> rfl

theorem mixKind_is (prog : Program) (w : World) (k : Key) (v : Value) : (mixKind prog w).is k v = keyIs k v := rfl
theorem mixKind_int (prog : Program) (w : World) (i : Int) (t : Tok) : (mixKind prog w).is (.inl i) (.int i t) = true := keyIs_int i t
theorem mixKind_str (prog : Program) (w : World) (x : Str) (t : Tok) : (mixKind prog w).is (.inr x) (.str x t) = true := keyIs_str x t
end L2

namespace L2
open PySem PySem.Spec PyProof.Rows

/-- a value, without the heap -/
inductive V where
  | non | bl (b : Bool) | int (i : Int) | str (x : Str) | byt (b : Array UInt8) | flt (b : UInt64) | ref (a : Addr) | ty (n : String)
  deriving DecidableEq

def RelV : V → Value → Prop
  | .non, u => u = Value.none
  | .bl b, u => u = Value.bool b
  | .int i, u => ∃ t, u = Value.int i t
  | .str x, u => ∃ t, u = Value.str x t
  | .byt b, u => ∃ t, u = Value.bytes b t
  | .flt b, u => ∃ t, u = Value.float b t
  | .ref a, u => u = Value.ref a
  | .ty n, u => u = Value.type n

abbrev Vals : List V → List Value → Prop := Paired RelV
theorem Vals.length {xs : List V} {us : List Value} (r : Vals xs us) : xs.length = us.length := Paired.length r
theorem Vals.get : ∀ {xs : List V} {us : List Value} {i : Nat} {x : V}, Vals xs us → xs[i]? = some x → ∃ u, us[i]? = some u ∧ RelV x u
  | _, _, _, _, .nil, e => by simp at e
  | _, _, 0, _, .cons r _, e => by simp at e; subst e; exact ⟨_, rfl, r⟩
  | _, _, i + 1, x, .cons _ t, e => by
    obtain ⟨u, h1, h2⟩ := Vals.get (i := i) (x := x) t (by simpa using e)
    exact ⟨u, by simpa using h1, h2⟩
theorem Vals.set {x : V} {u : Value} (r : RelV x u) : ∀ {xs : List V} {us : List Value} (i : Nat), Vals xs us → Vals (xs.set i x) (us.set i u)
  | _, _, _, .nil => .nil
  | _, _, 0, .cons _ t => .cons r t
  | _, _, i + 1, .cons q t => .cons q (Vals.set r i t)
theorem Vals.append : ∀ {xs ys : List V} {us ws : List Value}, Vals xs us → Vals ys ws → Vals (xs ++ ys) (us ++ ws)
  | _, _, _, _, .nil, s => s
  | _, _, _, _, .cons r t, s => .cons r (Vals.append t s)
theorem Vals.take : ∀ {xs : List V} {us : List Value} (n : Nat), Vals xs us → Vals (xs.take n) (us.take n)
  | _, _, 0, _ => .nil
  | _, _, _ + 1, .nil => .nil
  | _, _, n + 1, .cons r t => .cons r (Vals.take n t)
theorem Vals.drop : ∀ {xs : List V} {us : List Value} (n : Nat), Vals xs us → Vals (xs.drop n) (us.drop n)
  | _, _, 0, r => r
  | _, _, _ + 1, .nil => .nil
  | _, _, n + 1, .cons _ t => Vals.drop n t
theorem Vals.none_of : ∀ {xs : List V} {us : List Value} {i : Nat}, Vals xs us → xs[i]? = none → us[i]? = none := fun {xs us i} r e => by
  have h1 := r.length
  have h2 : xs.length ≤ i := List.getElem?_eq_none_iff.mp e
  exact List.getElem?_eq_none_iff.mpr (by omega)

def RelO : Option V → Option Value → Prop
  | some v, some u => RelV v u
  | none, none => True
  | _, _ => False
def KV {κ : Type} : List (κ × V) → List (κ × Value) → Prop := Paired fun (p : κ × V) (q : κ × Value) => p.1 = q.1 ∧ RelV p.2 q.2

/-- a key of a dict (00_mix): an int or a text -/
def kV : Key → V
  | .inl i => .int i
  | .inr x => .str x

/-- what stands at a tracked address -/
inductive HO where
  /-- a list -/
  | lst (xs : List V)
  /-- a tuple (never changes) -/
  | tup (xs : List V)
  /-- a dict whose keys are ints and texts; one whose keys are tuples of ints and texts (the empty one is both) -/
  | dK (kvs : List (Key × V)) | dT (kvs : List (List Key × V))
  /-- a set of ints: its members, its size -/
  | set (S : Int → Bool) (n : Nat)
  /-- an instance of the class at C, its dict at dx, its attributes -/
  | ins (C dx : Addr) (fs : List (Str × V))
  /-- the dict of the instance at x -/
  | own (x : Addr)
  /-- the dict of an exception -/
  | xd (fs : List (Str × V))
  /-- a bound method, f of x -/
  | met (f x : Addr)
  /-- a range object lo, lo + 1, .. below hi -/
  | rng (lo hi : Int)
  /-- a thing that is known to the object (the script; a dict while a loop walks it): read, never written while it is so -/
  | frz (o : Obj) (u : HO)
  /-- a code object's table -/
  | tbl (ps : Array Value)
  /-- any other thing, by what is true of its one object (a def of one's own: SetO a S n := HO.ext fun h => ..) -/
  | ext (φ : Heap → Prop)

abbrev Hp := Addr → Option HO
def upd (H : Hp) (a : Addr) (o : HO) : Hp := fun b => if b = a then some o else H b
theorem upd_same {H : Hp} {a : Addr} {o : HO} : upd H a o a = some o := by unfold upd; rw [if_pos rfl]
theorem upd_ne {H : Hp} {a b : Addr} {o : HO} (h : b ≠ a) : upd H a o b = H b := by unfold upd; rw [if_neg h]
theorem upd_upd {H : Hp} {a : Addr} {o u : HO} : upd (upd H a o) a u = upd H a u := by
  funext b; unfold upd; split <;> rfl
/-- two objects of different content stand apart -/
theorem ne_of {H : Hp} {a b : Addr} {o u : HO} (h : H a = some o) (h' : H b = some u) (d : o ≠ u) : a ≠ b := by
  intro e; subst e; rw [h] at h'; exact d (Option.some.inj h')
theorem ne_of_none {H : Hp} {a b : Addr} {o : HO} (h : H a = some o) (h' : H b = none) : a ≠ b := by
  intro e; subst e; rw [h] at h'; cases h'

section
variable (P : Program) (w : World)
def ObjOk (H : Hp) (h : Heap) (a : Addr) : HO → Prop
  | .lst xs => xs.length ≤ sizeLine ∧ ∃ (its : List Value) (n : Nat), Vals xs its ∧ h.get? a = some { cls := .type "list", data := .seq its.toArray n }
  | .tup xs => xs.length ≤ sizeLine ∧ ∃ its : List Value, Vals xs its ∧ IsTup h a its.toArray
  | .dK kvs => kvs.length ≤ sizeLine ∧ (a == sysModules) = false ∧ ∃ vs, KV kvs vs ∧ h.DictOf (mixKind P w) a vs
  | .dT kvs => kvs.length ≤ sizeLine ∧ (a == sysModules) = false ∧ ∃ xs : List (List Key × Addr × Value),
      Paired (fun (p : List Key × V) (q : List Key × Addr × Value) => p.1 = q.1 ∧ H q.2.1 = some (.tup (p.1.map kV)) ∧ RelV p.2 q.2.2) kvs xs ∧
      ∃ o es ep, h.get? a = some o ∧ o.ExactDict ∧ o.data = .dict es ep ∧ es.toList = xs.map (entryOfKey (tupleKind (mixKind P w))) ∧ (xs.map (·.1)).Nodup
  | .set S n => h.SetOf (intKind P w) a S n
  | .ins C dx fs => H dx = some (.own a) ∧ fs.length ≤ 1000 ∧ dx ≠ a ∧ h.get? a = some (PySem.W.instObj C dx) ∧
      ∃ mA, h.Ns1 dx mA ∧ (∀ f, RelO (fs.lookup f) (mA f)) ∧ PySem.Within mA (fs.map (·.1))
  | .own _ => ∃ o, h.get? a = some o
  | .xd fs => ∃ mA, h.Ns1 a mA ∧ ∀ f, RelO (fs.lookup f) (mA f)
  | .rng lo hi => ∃ t u v, h.get? a = some { cls := .type "range", data := .fields #[.int lo t, .int hi u, .int 1 v] }
  | .frz o u => h.get? a = some o ∧ ObjOk H h a u
  | .tbl ps => h.get? a = some { cls := .none, data := .fields ps }
  | .met f x => h.get? a = some (PySem.W.methodObj (.ref f) (.ref x))
  | .ext φ => φ h ∧ (∃ o, h.get? a = some o) ∧ ∀ h1 h2 : Heap, φ h1 → (∀ o, h1.get? a = some o → h2.get? a = some o) → φ h2
/-- the abstract heap is held -/
def HOk (H : Hp) (h : Heap) : Prop := ∀ a o, H a = some o → ObjOk P w H h a o
end

section
variable {P : Program} {w : World} {H H' : Hp} {h h' : Heap} {a : Addr} {o : HO}
theorem ObjOk.lt (x : ObjOk P w H h a o) : a < h.objs.size := by
  cases o with
  | lst xs => obtain ⟨_, _, _, _, e⟩ := x; exact Heap.lt_size e
  | tup xs => obtain ⟨_, _, _, p⟩ := x; exact p.lt
  | dK kvs => obtain ⟨_, _, _, _, o, _, _, e, _⟩ := x; exact Heap.lt_size e
  | dT kvs => obtain ⟨_, _, _, _, o, _, _, e, _⟩ := x; exact Heap.lt_size e
  | set S n => obtain ⟨o, _, _, _, e, _⟩ := x; exact Heap.lt_size e
  | ins C dx fs => obtain ⟨_, _, _, e, _⟩ := x; exact Heap.lt_size e
  | own y => obtain ⟨_, e⟩ := x; exact Heap.lt_size e
  | xd fs => obtain ⟨_, ⟨_, _, _, e, _⟩, _⟩ := x; exact Heap.lt_size e
  | rng lo hi => obtain ⟨_, _, _, e⟩ := x; exact Heap.lt_size e
  | frz ob u => obtain ⟨e, _⟩ := x; exact Heap.lt_size e
  | tbl ps => exact Heap.lt_size (show h.get? a = some _ from x)
  | met f y => exact Heap.lt_size (show h.get? a = some _ from x)
  | ext φ => obtain ⟨_, ⟨_, e⟩, _⟩ := x; exact Heap.lt_size e
theorem Paired.mapP {α β : Type} {F G : α → β → Prop} : ∀ {l₁ : List α} {l₂ : List β}, Paired F l₁ l₂ → (∀ a b, F a b → G a b) → Paired G l₁ l₂
  | _, _, .nil, _ => .nil
  | _, _, .cons r t, f => .cons (f _ _ r) (Paired.mapP t f)
theorem Paired.imp' {α β : Type} {F G : α → β → Prop} (f : ∀ a b, F a b → G a b) {l₁ : List α} {l₂ : List β} (r : Paired F l₁ l₂) : Paired G l₁ l₂ := Paired.mapP r f
/-- what an object's description leans on: its own object, its own dict, the tuples -/
theorem ObjOk.stay (x : ObjOk P w H h a o) (k : ∀ b u, (b = a ∨ H b = some (.own a)) → h.get? b = some u → h'.get? b = some u)
    (ho : ∀ b, H b = some (.own a) → H' b = some (.own a)) (ht : ∀ b xs, H b = some (.tup xs) → H' b = some (.tup xs)) : ObjOk P w H' h' a o := by
  induction o with
  | lst xs => obtain ⟨z, its, n, r, e⟩ := x; exact ⟨z, its, n, r, k _ _ (.inl rfl) e⟩
  | tup xs => obtain ⟨z, its, r, ob, e, c⟩ := x; exact ⟨z, its, r, ob, k _ _ (.inl rfl) e, c⟩
  | dK kvs => obtain ⟨z, y, vs, r, ob, es, ep, e, c⟩ := x; exact ⟨z, y, vs, r, ob, es, ep, k _ _ (.inl rfl) e, c⟩
  | dT kvs =>
    obtain ⟨z, y, xs, r, ob, es, ep, e, c⟩ := x
    exact ⟨z, y, xs, Paired.mapP r fun p q z => ⟨z.1, ht _ _ z.2.1, z.2.2⟩, ob, es, ep, k _ _ (.inl rfl) e, c⟩
  | set S n => obtain ⟨ob, es, ep, t, e, c⟩ := x; exact ⟨ob, es, ep, t, k _ _ (.inl rfl) e, c⟩
  | ins C dx fs =>
    obtain ⟨d, z, ne, e, mA, ⟨od, es, ep, e2, c⟩, r⟩ := x
    exact ⟨ho _ d, z, ne, k _ _ (.inl rfl) e, mA, ⟨od, es, ep, k _ _ (.inr d) e2, c⟩, r⟩
  | own y => obtain ⟨ob, e⟩ := x; exact ⟨ob, k _ _ (.inl rfl) e⟩
  | xd fs => obtain ⟨mA, ⟨od, es, ep, e, c⟩, r⟩ := x; exact ⟨mA, ⟨od, es, ep, k _ _ (.inl rfl) e, c⟩, r⟩
  | rng lo hi => obtain ⟨t, u, v, e⟩ := x; exact ⟨t, u, v, k _ _ (.inl rfl) e⟩
  | frz ob u ih => obtain ⟨e, q⟩ := x; exact ⟨k _ _ (.inl rfl) e, ih q⟩
  | tbl ps =>
    have e : h.get? a = some { cls := .none, data := .fields ps } := x
    show h'.get? a = some { cls := .none, data := .fields ps }
    exact k a _ (.inl rfl) e
  | met f y =>
    have e : h.get? a = some (PySem.W.methodObj (.ref f) (.ref y)) := x
    show h'.get? a = some (PySem.W.methodObj (.ref f) (.ref y))
    exact k a _ (.inl rfl) e
  | ext φ => obtain ⟨p, ⟨o, e⟩, st⟩ := x; exact ⟨st _ _ p fun o q => k _ _ (.inl rfl) q, ⟨o, k _ _ (.inl rfl) e⟩, st⟩
theorem HOk.lt (x : HOk P w H h) (e : H a = some o) : a < h.objs.size := (x a o e).lt
theorem HOk.fresh (x : HOk P w H h) (e : h.objs.size ≤ a) : H a = none := by
  cases q : H a with
  | none => rfl
  | some u => exact absurd (Nat.lt_of_lt_of_le (x.lt q) e) (Nat.lt_irrefl _)
/-- every object of the heap is kept -/
theorem HOk.kept (x : HOk P w H h) (k : ∀ b u, h.get? b = some u → h'.get? b = some u) : HOk P w H h' := fun a o e =>
  (x a o e).stay (fun b u _ q => k b u q) (fun _ q => q) fun _ _ q => q
/-- a new object is laid and tracked -/
theorem HOk.laid (x : HOk P w H h) (k : ∀ b u, h.get? b = some u → h'.get? b = some u) (hp : h.objs.size ≤ a) (new : ObjOk P w (upd H a o) h' a o) : HOk P w (upd H a o) h' := fun b u e => by
  have hn := x.fresh hp
  by_cases hb : b = a
  · subst hb; rw [upd_same] at e; cases e; exact new
  · rw [upd_ne hb] at e
    exact (x b u e).stay (fun c v _ q => k c v q) (fun c q => by rw [upd_ne (ne_of_none q hn)]; exact q) fun c xs q => by rw [upd_ne (ne_of_none q hn)]; exact q
end

/-- what may be read as u: it is u, or a known u -/
def Rd (H : Hp) (a : Addr) (u : HO) : Prop := H a = some u ∨ ∃ o, H a = some (.frz o u)
theorem Rd.of {H : Hp} {a : Addr} {u : HO} (h : H a = some u) : Rd H a u := .inl h
theorem Rd.ok {P : Program} {w : World} {H : Hp} {h : Heap} {a : Addr} {u : HO} (r : Rd H a u) (x : HOk P w H h) : ObjOk P w H h a u := by
  rcases r with r | ⟨o, r⟩
  · exact x a u r
  · obtain ⟨_, q⟩ := x a _ r
    exact q
/-- what may be written -/
def Mut : Option HO → Prop
  | some (.lst _) => True
  | some (.dK _) => True
  | some (.dT _) => True
  | some (.set _ _) => True
  | some (.ins _ _ _) => True
  | some (.ext _) => True
  | _ => False
section
variable {P : Program} {w : World} {H : Hp} {h h' : Heap} {x e : Addr} {o' : HO}
/-- the object at e is changed: x itself, or the dict of the instance x -/
theorem HOk.write (ok : HOk P w H h) (mu : Mut (H x)) (he : e = x ∨ H e = some (.own x)) (k : ∀ b u, b ≠ e → h.get? b = some u → h'.get? b = some u) (heo : ∃ u, h'.get? e = some u)
    (new : ObjOk P w (upd H x o') h' x o') : HOk P w (upd H x o') h' := fun b u q => by
  have nown : ∀ c y, H c = some (.own y) → c ≠ x := fun c y r z => by subst z; rw [r] at mu; exact mu
  have ntup : ∀ c xs, H c = some (.tup xs) → c ≠ x := fun c xs r z => by subst z; rw [r] at mu; exact mu
  by_cases hb : b = x
  · subst hb; rw [upd_same] at q; cases q; exact new
  · rw [upd_ne hb] at q
    by_cases hbe : b = e
    · have q' : H b = some (.own x) := by
        rcases he with z | z
        · exact absurd (hbe.trans z) hb
        · rw [hbe]; exact z
      rw [q] at q'; cases q'
      obtain ⟨v, hv⟩ := heo
      exact ⟨v, by rw [hbe]; exact hv⟩
    · refine (ok b u q).stay (fun c v hc r => k c v ?_ r) (fun c r => by rw [upd_ne (nown c b r)]; exact r) fun c xs r => by rw [upd_ne (ntup c xs r)]; exact r
      rcases hc with rfl | hc
      · exact hbe
      · rintro rfl
        rcases he with z | z
        · exact nown c b hc z
        · rw [hc] at z; cases z; exact hb rfl
end

/-! ### kept unless tracked; of the frames at fs (the callers') the slots may change (an exception that passes writes there); of the records at ex (iterators) nothing is said -/
structure Un (fs ex : List Addr) (H H' : Hp) (h h' : Heap) : Prop where
  keep : ∀ b o, h.get? b = some o → H b = none → b ∉ fs → b ∉ ex → h'.get? b = some o
  slot : ∀ b o, h.get? b = some o → H b = none → b ∈ fs → b ∉ ex → ∃ sl, h'.get? b = some { o with slots := sl }
  free : ∀ b o, h.get? b = some o → H b = none → b ∉ ex → H' b = none
  there : ∀ b o, h.get? b = some o → b ∉ ex → ∃ o', h'.get? b = some o'
  tups : ∀ b xs, H b = some (.tup xs) → H' b = some (.tup xs)
  frzs : ∀ b o u, H b = some (.frz o u) → H' b = some (.frz o u)
  tbls : ∀ b ps, H b = some (.tbl ps) → ∃ more, H' b = some (.tbl (ps ++ more))
section
variable {fs fs' ex ex' : List Addr} {H H1 H2 : Hp} {h h1 h2 h' : Heap} {a x e : Addr} {o : HO}
theorem Un.any (u : Un fs ex H H1 h h1) {b : Addr} {ob : Obj} (q : h.get? b = some ob) (n : H b = none) (hx : b ∉ ex) : ∃ sl, h1.get? b = some { ob with slots := sl } := by
  by_cases hb : b ∈ fs
  · exact u.slot b ob q n hb hx
  · exact ⟨ob.slots, u.keep b ob q n hb hx⟩
theorem Un.trans (a : Un fs ex H H1 h h1) (b : Un fs ex H1 H2 h1 h2) : Un fs ex H H2 h h2 where
  keep := fun c ob q n hc hx => b.keep c ob (a.keep c ob q n hc hx) (a.free c ob q n hx) hc hx
  slot := fun c ob q n hc hx => by
    obtain ⟨sl, e1⟩ := a.slot c ob q n hc hx
    obtain ⟨sl', e2⟩ := b.slot c _ e1 (a.free c ob q n hx) hc hx
    exact ⟨sl', e2⟩
  free := fun c ob q n hx => by
    obtain ⟨o', e1⟩ := a.there c ob q hx
    exact b.free c o' e1 (a.free c ob q n hx) hx
  there := fun c ob q hx => by
    obtain ⟨o', e1⟩ := a.there c ob q hx
    exact b.there c o' e1 hx
  tups := fun c xs q => b.tups c xs (a.tups c xs q)
  frzs := fun c ob xs q => b.frzs c ob xs (a.frzs c ob xs q)
  tbls := fun c ps q => by
    obtain ⟨m1, e1⟩ := a.tbls c ps q
    obtain ⟨m2, e2⟩ := b.tbls c _ e1
    exact ⟨m1 ++ m2, by rw [e2, Array.append_assoc]⟩
theorem Un.kept (k : ∀ b u, h.get? b = some u → h'.get? b = some u) : Un fs ex H H h h' :=
  ⟨fun b ob q _ _ _ => k b ob q, fun b ob q _ _ _ => ⟨ob.slots, k b ob q⟩, fun _ _ _ n _ => n, fun b ob q _ => ⟨ob, k b ob q⟩, fun _ _ q => q, fun _ _ _ q => q, fun _ ps q => ⟨#[], by rw [q]; simp⟩⟩
theorem Un.refl : Un fs ex H H h h := Un.kept fun _ _ q => q
theorem Un.laid (k : ∀ b u, h.get? b = some u → h'.get? b = some u) (hp : h.objs.size ≤ a) (hn : H a = none) : Un fs ex H (upd H a o) h h' where
  keep := fun b u q _ _ _ => k b u q
  slot := fun b u q _ _ _ => ⟨u.slots, k b u q⟩
  free := fun b u q n _ => by rw [upd_ne (Nat.ne_of_lt (Nat.lt_of_lt_of_le (Heap.lt_size q) hp))]; exact n
  there := fun b u q _ => ⟨u, k b u q⟩
  tups := fun b xs q => by rw [upd_ne (ne_of_none q hn)]; exact q
  frzs := fun b u xs q => by rw [upd_ne (ne_of_none q hn)]; exact q
  tbls := fun b ps q => ⟨#[], by rw [upd_ne (ne_of_none q hn), q]; simp⟩
theorem Un.write (mu : Mut (H x)) (he : e = x ∨ H e = some (.own x)) (k : ∀ b u, b ≠ e → h.get? b = some u → h'.get? b = some u) (heo : ∃ u, h'.get? e = some u) : Un fs ex H (upd H x o) h h' := by
  have hx : ∀ b, H b = none → b ≠ x := fun b n z => by subst z; rw [n] at mu; exact mu
  have hb : ∀ b, H b = none → b ≠ e := fun b n z => by
    subst z
    rcases he with r | r
    · exact hx b n r
    · rw [n] at r; cases r
  have hm : ∀ b u, H b = some u → ¬ Mut (some u) → b ≠ x := fun b u q nm z => by subst z; rw [q] at mu; exact nm mu
  refine ⟨fun b u q n _ _ => k b u (hb b n) q, fun b u q n _ _ => ⟨u.slots, k b u (hb b n) q⟩, fun b u q n _ => by rw [upd_ne (hx b n)]; exact n, fun b u q _ => ?_,
    fun b xs q => by rw [upd_ne (hm b _ q fun z => z)]; exact q, fun b u xs q => by rw [upd_ne (hm b _ q fun z => z)]; exact q, fun b ps q => ⟨#[], by rw [upd_ne (hm b _ q fun z => z), q]; simp⟩⟩
  by_cases hbe : b = e
  · subst hbe; exact heo
  · exact ⟨u, k b u hbe q⟩
theorem Un.mono (u : Un fs ex H H1 h h1) (hs : ∀ b ∈ fs, b ∈ fs') (hx : ∀ b ∈ ex, b ∈ ex') : Un fs' ex' H H1 h h1 :=
  ⟨fun b ob q n hb he => u.keep b ob q n (fun z => hb (hs b z)) fun z => he (hx b z), fun _ _ q n _ he => u.any q n fun z => he (hx _ z), fun b ob q n he => u.free b ob q n fun z => he (hx b z), fun b ob q he => u.there b ob q fun z => he (hx b z), u.tups, u.frzs, u.tbls⟩
end

/-! ### the heap without what is tracked -/
def trk (h : Heap) (H : Hp) : List Addr := (List.range h.objs.size).filter fun a => (H a).isSome
def hidT (h : Heap) (H : Hp) : Heap := PySem.W.hideAll h (trk h H)
theorem hidT_size (h : Heap) (H : Hp) : (hidT h H).objs.size = h.objs.size := PySem.W.hideAll_size _ _
theorem hidT_get {h : Heap} {H : Hp} {b : Addr} {o : Obj} (e : h.get? b = some o) (n : H b = none) : (hidT h H).get? b = some o :=
  PySem.W.hideAll_get _ e fun hm => by
    have q : (H b).isSome = true := (List.mem_filter.mp hm).2
    rw [n] at q; simp at q
theorem of_hidT {h : Heap} {H : Hp} {b : Addr} {o : Obj} (e : (hidT h H).get? b = some o) : h.get? b = some o ∧ H b = none := by
  have e' : h.get? b = some o := PySem.W.of_hideAll (trk h H) e
  refine ⟨e', ?_⟩
  cases q : H b with
  | none => rfl
  | some x =>
    have hm : b ∈ trk h H := List.mem_filter.mpr ⟨List.mem_range.mpr (Heap.lt_size e'), by simp [q]⟩
    have z : (hidT h H).get? b = none := PySem.W.hideAll_none (trk h H) hm
    rw [z] at e; cases e

/-! ### OpenK's ledger, filled with every new object but one -/
def allNews (g h : Heap) (L : Addr) : List (Addr × Obj) := (List.range h.objs.size).filterMap fun a => if a = L ∨ (g.get? a).isSome = true then none else (h.get? a).map fun o => (a, o)
theorem mem_allNews {g h : Heap} {L a : Addr} {o : Obj} (h1 : a ≠ L) (h2 : g.get? a = none) (h3 : h.get? a = some o) : (a, o) ∈ allNews g h L :=
  List.mem_filterMap.mpr ⟨a, List.mem_range.mpr (Heap.lt_size h3), by simp [h1, h2, h3]⟩
theorem of_mem_allNews {g h : Heap} {L : Addr} {p : Addr × Obj} (hp : p ∈ allNews g h L) : p.1 ≠ L ∧ g.get? p.1 = none ∧ h.get? p.1 = some p.2 := by
  obtain ⟨b, _, e⟩ := List.mem_filterMap.mp hp
  split at e
  · cases e
  · rename_i hn
    cases q : h.get? b with
    | none => rw [q] at e; simp at e
    | some u =>
      rw [q] at e
      simp only [Option.map_some, Option.some.injEq] at e
      subst e
      refine ⟨fun z => hn (.inl z), ?_, q⟩
      show g.get? b = none
      cases r : g.get? b with
      | none => rfl
      | some v => exact (hn (.inr (by simp [r]))).elim
def rest (g h : Heap) (L d : Addr) : List (Addr × Obj) := (allNews g h L).filter fun p => decide (p.1 ≠ d)
theorem rest_ne {g h : Heap} {L d : Addr} : ∀ p ∈ rest g h L d, p.1 ≠ d := fun p hp => of_decide_eq_true (List.mem_filter.mp hp).2
theorem mem_rest {g h : Heap} {L d a : Addr} {o : Obj} (h1 : a ≠ L) (h2 : g.get? a = none) (h3 : h.get? a = some o) (h4 : a ≠ d) : (a, o) ∈ rest g h L d :=
  List.mem_filter.mpr ⟨mem_allNews h1 h2 h3, decide_eq_true h4⟩
theorem news_all {g h : Heap} {L : Addr} : News g L h (allNews g h L) := fun p hp => let ⟨a, b, c⟩ := of_mem_allNews hp; ⟨c, a, b⟩
theorem news_at {g h : Heap} {L d : Addr} {o : Obj} (h1 : d ≠ L) (h2 : g.get? d = none) (h3 : h.get? d = some o) : News g L h ((d, o) :: rest g h L d) := fun p hp => by
  rcases List.mem_cons.mp hp with rfl | hp
  · exact ⟨h3, h1, h2⟩
  · exact news_all p (List.mem_filter.mp hp).1
/-- behind a rule that changed d alone: all else but the frame is kept -/
theorem kept_of_news {g h h' : Heap} {L d : Addr} {m : Str → Option Value} (k : ∀ b o, g.get? b = some o → h.get? b = some o) (F : Fr g L h' m) (N : News g L h' (rest g h L d)) :
    ∀ b o, b ≠ L → b ≠ d → h.get? b = some o → h'.get? b = some o := fun b o h1 h2 e => by
  cases q : g.get? b with
  | some u =>
    have := k b u q
    rw [e] at this; cases this
    exact F.keep b _ q
  | none => exact (N (b, o) (mem_rest h1 q e h2)).1
end L2

namespace L2
open PySem PySem.Spec PyProof.Rows

/-- the module's facts, over the base: the heap at the law's entry without what is tracked there -/
structure Mod (K : PySem.W.Frag) (mg : Str → Option Value) (base : Heap) : Prop where
  kin : K.In base
  glob : base.Ns mainGlobals mg
  blt : ∃ mb, base.Ns builtinsNs mb ∧ ∀ x : Str, x ≠ "__name__" → mb x = bootBuiltins x
  nolimit : base.NoLimit

/-- the context: a def's body (or a comprehension's block) running. base: fixed through the whole law; s₀, H₀: the entry; outer: the frames whose slots others may change (a def's callers); stack: all frames that run;
   ex: iterators that were made ahead of the entry and are walked here (a comprehension's); fn: the names whose cells were made at the entry (a def: all; a comprehension's block: its own); calm: not within an except suite; pn: pins that every state bears; xe: what is wanted of an exception that leaves the code -/
structure Cx where
  prog : Program
  w : World
  K : PySem.W.Frag
  mg : Str → Option Value
  base : Heap
  A : Around
  N : List Str
  s₀ : Shared
  H₀ : Hp
  env : Env
  outer : List Env
  stack : List Env
  ex : List Addr
  fn : Str → Bool
  calm : Bool
  pn : List (Addr × Obj)
  xe : Value → Shared → Prop
/-- the callers' frames -/
def frs (l : List Env) : List Addr := l.filterMap (·.frame)
abbrev Cx.fs (X : Cx) : List Addr := frs X.outer

def Vis (sc : Scope) (x : Str) : Prop := sc.names.lookup x = some .local ∨ sc.names.lookup x = some .cell ∨ sc.names.lookup x = some .free
def Loc (sc : Scope) (x : Str) : Prop := sc.names.lookup x = some .local ∨ sc.names.lookup x = some .cell
def Look (env : Env) (h : Heap) (m : Str → Option Value) (x : Str) (u : Value) : Prop :=
  (env.kindOf x = some .local ∧ m x = some u) ∨ ((env.kindOf x = some .cell ∨ env.kindOf x = some .free) ∧ ∃ c, env.cells.lookup x = some c ∧ h.IsCell c (some u))

structure Cx.Ok (X : Cx) : Prop where
  mod : Mod X.K X.mg X.base
  kind : X.env.scope.kind = .function
  glob : X.env.globals = mainGlobals
  blt : X.env.builtins = builtinsNs
  above : X.s₀.heap.objs.size ≤ X.env.locals
  inj : ∀ x y c, X.env.cells.lookup x = some c → X.env.cells.lookup y = some c → x = y
  has : ∀ x, (X.env.kindOf x = some .cell ∨ X.env.kindOf x = some .free) → ∃ c, X.env.cells.lookup x = some c
  cab : ∀ x c, X.fn x = true → X.env.cells.lookup x = some c → X.s₀.heap.objs.size ≤ c
  hd : X.calm = true → X.A.handled = none
  frames : X.A.frames = some X.stack
  stk : X.stack = X.outer ∨ (X.stack = X.env :: X.outer ∧ X.env.frame = some X.env.locals)
  exf : ∀ b ∈ X.ex, b ≠ X.env.locals ∧ ∀ x c, X.env.cells.lookup x = some c → c ≠ b
  bs : ∀ b o, X.base.get? b = some o → X.s₀.heap.get? b = some o ∧ X.H₀ b = none
  bsz : X.base.objs.size ≤ X.s₀.heap.objs.size
  noex : ∀ b o, X.base.get? b = some o → b ∉ X.ex
  exfs : ∀ b ∈ X.ex, b ∉ X.fs
  funs : X.s₀.heap.FunFrames X.base X.outer
  frf : ∀ b ∈ X.fs, X.H₀ b = none

structure Inv (X : Cx) (pins : List (Addr × Obj)) (σ : List (Option V)) (H : Hp) (s : Shared) : Prop where
  ok : X.Ok
  os : s.os = X.s₀.os
  bare : AllBare s.gens
  base : Un X.fs X.ex X.H₀ H X.s₀.heap s.heap
  loc : ∃ m, s.heap.Ns X.env.locals m ∧ ∀ (i : Nat) (x : Str) (v : V), X.N[i]? = some x → σ[i]? = some (some v) → Vis X.env.scope x → ∃ u, RelV v u ∧ Look X.env s.heap m x u
  cell : ∀ x c, X.env.cells.lookup x = some c → ∃ v, s.heap.IsCell c v
  free : H X.env.locals = none
  freeC : ∀ x c, X.env.cells.lookup x = some c → H c = none
  pin : ∀ p ∈ X.pn ++ pins, s.heap.get? p.1 = some p.2 ∧ H p.1 = none ∧ p.1 ≠ X.env.locals ∧ p.1 ∉ X.fs ∧ ∀ v, p.2.data ≠ .cell v
  hok : HOk X.prog X.w H s.heap
  len : σ.length = X.N.length

section
variable {X : Cx} {pins : List (Addr × Obj)} {σ : List (Option V)} {H H' : Hp} {s : Shared} {h' : Heap}

theorem Cx.Ok.nofr (ok : X.Ok) {b : Addr} {o : Obj} (e : X.base.get? b = some o) : b ∉ X.fs := fun hb => by
  have := (ok.funs.mem hb).1
  rw [e] at this; cases this
theorem Inv.bs (I : Inv X pins σ H s) : ∀ b o, X.base.get? b = some o → s.heap.get? b = some o ∧ H b = none := fun b o e =>
  ⟨I.base.keep b o (I.ok.bs b o e).1 (I.ok.bs b o e).2 (I.ok.nofr e) (I.ok.noex b o e), I.base.free b o (I.ok.bs b o e).1 (I.ok.bs b o e).2 (I.ok.noex b o e)⟩
theorem Inv.bk (I : Inv X pins σ H s) : ∀ b o, X.base.get? b = some o → s.heap.get? b = some o := fun b o e => (I.bs b o e).1
theorem Inv.mod (I : Inv X pins σ H s) : Mod X.K X.mg X.base := I.ok.mod
theorem Inv.kIn (I : Inv X pins σ H s) : X.K.In s.heap := I.ok.mod.kin.keeps I.bk
theorem Inv.nolimit (I : Inv X pins σ H s) : s.heap.NoLimit := I.ok.mod.nolimit.keeps I.bk
/-- the frame over the base: for OpenK's rules (K.In X.base is I.mod.kin) -/
theorem Inv.fr (I : Inv X pins σ H s) : ∃ m, Fr X.base X.env.locals s.heap m :=
  let ⟨m, hn, _⟩ := I.loc
  ⟨m, hn, I.bk, Nat.le_trans I.ok.bsz I.ok.above⟩
theorem Inv.lt (I : Inv X pins σ H s) : X.env.locals < s.heap.objs.size := let ⟨_, hn, _⟩ := I.loc; hn.lt
theorem Inv.sz (I : Inv X pins σ H s) : X.s₀.heap.objs.size ≤ s.heap.objs.size := Nat.le_trans I.ok.above (Nat.le_of_lt I.lt)
theorem Inv.nofs (I : Inv X pins σ H s) {a : Addr} (h : s.heap.objs.size ≤ a) : a ∉ X.fs := fun hb => by
  obtain ⟨_, o, ho, _⟩ := I.ok.funs.mem hb
  exact absurd (Nat.lt_of_lt_of_le (Heap.lt_size ho) (Nat.le_trans I.sz h)) (Nat.lt_irrefl _)
theorem Inv.cne (I : Inv X pins σ H s) : ∀ x c, X.env.cells.lookup x = some c → c ≠ X.env.locals := fun x c e z => by
  obtain ⟨v, o, ho, hd⟩ := I.cell x c e
  obtain ⟨m, ⟨o', es, ep, ho', hd', _⟩, _⟩ := I.loc
  rw [z, ho'] at ho; cases ho; rw [hd'] at hd; cases hd
theorem Inv.funs (I : Inv X pins σ H s) : s.heap.FunFrames X.base X.outer := by
  have all : ∀ (l : List Env), (∀ b ∈ frs l, b ∈ X.fs) → X.s₀.heap.FunFrames X.base l → s.heap.FunFrames X.base l := by
    intro l
    induction l with
    | nil => intro _ _; trivial
    | cons env r ih =>
      intro hs hl
      obtain ⟨hk, ⟨L, o, hf, hn, ho, hd⟩, hr⟩ := hl
      have hL : L ∈ X.fs := hs L (by unfold frs; rw [List.filterMap_cons, hf]; exact List.mem_cons_self)
      obtain ⟨sl, e⟩ := I.base.slot L o ho (I.ok.frf L hL) hL fun z => I.ok.exfs L z hL
      exact ⟨hk, ⟨L, _, hf, hn, e, hd⟩, ih (fun b hb => hs b (by unfold frs; rw [List.filterMap_cons, hf]; exact List.mem_cons_of_mem _ hb)) hr⟩
  exact all X.outer (fun _ hb => hb) I.ok.funs

/-- the frames that run, for a call -/
theorem Inv.stack (I : Inv X pins σ H s) : s.heap.FunFrames X.base X.stack := by
  rcases I.ok.stk with e | ⟨e, hf⟩
  · rw [e]; exact I.funs
  · rw [e]
    obtain ⟨m, hn, _⟩ := I.loc
    refine .cons (by rw [I.ok.kind]; decide) hf hn ?_ I.funs
    exact Heap.get?_none_of_le (Nat.le_trans I.ok.bsz I.ok.above)
theorem Inv.stkSub (I : Inv X pins σ H s) : ∀ b ∈ frs X.stack, b ∈ X.env.locals :: X.fs := fun b hb => by
  rcases I.ok.stk with e | ⟨e, hf⟩
  · rw [e] at hb; exact List.mem_cons_of_mem _ hb
  · rw [e] at hb
    unfold frs at hb
    rw [List.filterMap_cons, hf] at hb
    exact hb
theorem Inv.stkFree (I : Inv X pins σ H s) : ∀ b ∈ frs X.stack, H b = none := fun b hb => by
  rcases List.mem_cons.mp (I.stkSub b hb) with e | hb
  · rw [e]; exact I.free
  · obtain ⟨_, o, ho, _⟩ := I.ok.funs.mem hb
    exact I.base.free b o ho (I.ok.frf b hb) fun z => I.ok.exfs b z hb

/-- THE STEP: the untracked objects but the frame and the records at ch are kept (the callers' frames up to slots), the frame's map is kept, the new abstract heap is held -/
theorem Inv.step {g' : Array GenState} {t' : Nat} {d' : Drawn} {ch : List Addr} (I : Inv X pins σ H s)
    (hch : ∀ b ∈ ch, (b ∈ X.ex ∨ X.s₀.heap.objs.size ≤ b) ∧ b ≠ X.env.locals ∧ (∀ x c, X.env.cells.lookup x = some c → c ≠ b) ∧ ∀ p ∈ X.pn ++ pins, p.1 ≠ b)
    (keep : ∀ b o, b ≠ X.env.locals → b ∉ X.fs → b ∉ ch → s.heap.get? b = some o → H b = none → h'.get? b = some o)
    (slot : ∀ b o, b ≠ X.env.locals → b ∈ X.fs → b ∉ ch → s.heap.get? b = some o → H b = none → ∃ sl, h'.get? b = some { o with slots := sl }) (free : ∀ b o, b ∉ ch → s.heap.get? b = some o → H b = none → H' b = none)
    (there : ∀ b o, b ∉ ch → s.heap.get? b = some o → ∃ o', h'.get? b = some o')
    (tups : ∀ b xs, H b = some (.tup xs) → H' b = some (.tup xs)) (frzs : ∀ b o u, H b = some (.frz o u) → H' b = some (.frz o u)) (tbls : ∀ b ps, H b = some (.tbl ps) → ∃ more, H' b = some (.tbl (ps ++ more)))
    (ns : ∀ m, s.heap.Ns X.env.locals m → h'.Ns X.env.locals m) (hok : HOk X.prog X.w H' h') (hg : AllBare g') :
    Inv X pins σ H' { s with heap := h', gens := g', drawn := d', toks := t' } := by
  have neL : ∀ b o, X.s₀.heap.get? b = some o → b ≠ X.env.locals := fun b o e => Nat.ne_of_lt (Nat.lt_of_lt_of_le (Heap.lt_size e) I.ok.above)
  have neC : ∀ b o, X.s₀.heap.get? b = some o → b ∉ X.ex → b ∉ ch := fun b o e hx hb => by
    rcases (hch b hb).1 with z | z
    · exact hx z
    · exact absurd (Nat.lt_of_lt_of_le (Heap.lt_size e) z) (Nat.lt_irrefl _)
  have cellK : ∀ x c, X.env.cells.lookup x = some c → ∀ v, s.heap.IsCell c v → h'.IsCell c v := fun x c e v ⟨o, ho, hd⟩ => by
    have nch : c ∉ ch := fun z => (hch c z).2.2.1 x c e rfl
    by_cases hc : c ∈ X.fs
    · obtain ⟨sl, q⟩ := slot c o (I.cne x c e) hc nch ho (I.freeC x c e)
      exact ⟨_, q, hd⟩
    · exact ⟨o, keep c o (I.cne x c e) hc nch ho (I.freeC x c e), hd⟩
  refine ⟨I.ok, I.os, hg, ⟨fun b o e n hb hx => ?_, fun b o e n hb hx => ?_, fun b o e n hx => ?_, fun b o e hx => ?_, fun b xs e => tups b xs (I.base.tups b xs e), fun b o xs e => frzs b o xs (I.base.frzs b o xs e), fun b ps e => ?_⟩, ?_, fun x c e => ?_, ?_, fun x c e => ?_, fun p hp => ?_, hok, I.len⟩
  · exact keep b o (neL b o e) hb (neC b o e hx) (I.base.keep b o e n hb hx) (I.base.free b o e n hx)
  · obtain ⟨sl, e1⟩ := I.base.slot b o e n hb hx
    obtain ⟨sl', e2⟩ := slot b _ (neL b o e) hb (neC b o e hx) e1 (I.base.free b o e n hx)
    exact ⟨sl', e2⟩
  · obtain ⟨o', e1⟩ := I.base.there b o e hx
    exact free b o' (neC b o e hx) e1 (I.base.free b o e n hx)
  · obtain ⟨o', e1⟩ := I.base.there b o e hx
    exact there b o' (neC b o e hx) e1
  · obtain ⟨m1, e1⟩ := I.base.tbls b ps e
    obtain ⟨m2, e2⟩ := tbls b _ e1
    exact ⟨m1 ++ m2, by rw [e2, Array.append_assoc]⟩
  · obtain ⟨m, hn, hl⟩ := I.loc
    refine ⟨m, ns m hn, fun i x v e1 e2 e3 => ?_⟩
    obtain ⟨u, r, l⟩ := hl i x v e1 e2 e3
    refine ⟨u, r, ?_⟩
    rcases l with l | ⟨k, c, e, z⟩
    · exact .inl l
    · exact .inr ⟨k, c, e, cellK x c e _ z⟩
  · obtain ⟨v, z⟩ := I.cell x c e
    exact ⟨v, cellK x c e v z⟩
  · obtain ⟨m, ⟨o, _, _, ho, _⟩, _⟩ := I.loc
    exact free _ o (fun z => (hch _ z).2.1 rfl) ho I.free
  · obtain ⟨v, o, ho, hd⟩ := I.cell x c e
    exact free c o (fun z => (hch c z).2.2.1 x c e rfl) ho (I.freeC x c e)
  · obtain ⟨e, n, ne, nf, d⟩ := I.pin p hp
    have nch : p.1 ∉ ch := fun z => (hch p.1 z).2.2.2 p hp rfl
    exact ⟨keep p.1 p.2 ne nf nch e n, free p.1 p.2 nch e n, ne, nf, d⟩
/-- .. where the frame's own object is kept too -/
theorem Inv.un {t' : Nat} (I : Inv X pins σ H s) (u : Un X.fs [] H H' s.heap h') (hok : HOk X.prog X.w H' h') : Inv X pins σ H' { s with heap := h', toks := t' } := by
  obtain ⟨m, ⟨o, es, ep, ho, r⟩, _⟩ := id I.loc
  obtain ⟨sl, hL⟩ := u.any ho I.free (by simp)
  exact I.step (g' := s.gens) (d' := s.drawn) (ch := []) (fun _ z => nomatch z) (fun b o _ hb _ e n => u.keep b o e n hb (by simp)) (fun b o _ hb _ e n => u.slot b o e n hb (by simp)) (fun b o _ e n => u.free b o e n (by simp)) (fun b o _ e => u.there b o e (by simp)) u.tups u.frzs u.tbls (fun m' hm => by
    obtain ⟨o', es', ep', ho', r'⟩ := hm
    rw [ho] at ho'; cases ho'
    exact ⟨_, es', ep', hL, r'⟩) hok I.bare
/-- behind a call (or a comprehension's block): the slots of this frame may have changed too, the records at ch may have turned -/
theorem Inv.call {g' : Array GenState} {t' : Nat} {d' : Drawn} {ch : List Addr} (I : Inv X pins σ H s) (u : Un (frs X.stack) ch H H' s.heap h') (hok : HOk X.prog X.w H' h') (hg : AllBare g')
    (hch : ∀ b ∈ ch, (b ∈ X.ex ∨ X.s₀.heap.objs.size ≤ b) ∧ b ≠ X.env.locals ∧ (∀ x c, X.env.cells.lookup x = some c → c ≠ b) ∧ ∀ p ∈ X.pn ++ pins, p.1 ≠ b) :
    Inv X pins σ H' { s with heap := h', gens := g', drawn := d', toks := t' } := by
  obtain ⟨m, ⟨o, es, ep, ho, r⟩, _⟩ := id I.loc
  obtain ⟨sl, hL⟩ := u.any ho I.free fun z => (hch _ z).2.1 rfl
  exact I.step (ch := ch) hch (fun b o hL hb hc e n => u.keep b o e n (fun z => (List.mem_cons.mp (I.stkSub b z)).elim hL hb) hc) (fun b o _ _ hc e n => u.any e n hc) (fun b o hc e n => u.free b o e n hc) (fun b o hc e => u.there b o e hc) u.tups u.frzs u.tbls (fun m' hm => by
    obtain ⟨o', es', ep', ho', r'⟩ := hm
    rw [ho] at ho'; cases ho'
    exact ⟨_, es', ep', hL, r'⟩) hok hg
/-- an untracked record of ours (an iterator) has turned -/
theorem Inv.turned {t' : Nat} {it : Addr} (I : Inv X pins σ H s) (k : ∀ b o, b ≠ it → s.heap.get? b = some o → h'.get? b = some o) (hn : H it = none) (hL : it ≠ X.env.locals)
    (h1 : it ∈ X.ex ∨ X.s₀.heap.objs.size ≤ it) (h2 : ∀ x c, X.env.cells.lookup x = some c → c ≠ it) (h3 : ∀ p ∈ X.pn ++ pins, p.1 ≠ it) : Inv X pins σ H { s with heap := h', toks := t' } := by
  have nit : ∀ b u, H b = some u → b ≠ it := fun b u e z => by rw [z, hn] at e; cases e
  refine I.step (g' := s.gens) (d' := s.drawn) (ch := [it]) (fun b hb => ?_) (fun b o _ _ hc e _ => k b o (fun z => hc (by simp [z])) e) (fun b o _ _ hc e _ => ⟨o.slots, k b o (fun z => hc (by simp [z])) e⟩) (fun _ _ _ _ n => n)
    (fun b o hc e => ⟨o, k b o (fun z => hc (by simp [z])) e⟩) (fun _ _ e => e) (fun _ _ _ e => e) (fun b ps e => ⟨#[], by rw [e]; simp⟩) (fun m hm => ?_) (fun b u e => ?_) I.bare
  · have e : b = it := by simpa using hb
    subst e
    exact ⟨h1, hL, h2, h3⟩
  · obtain ⟨o, es, ep, ho, r⟩ := hm
    exact ⟨o, es, ep, k _ o (Ne.symm hL) ho, r⟩
  · refine (I.hok b u e).stay (fun c v hc q => k c v ?_ q) (fun _ q => q) fun _ _ q => q
    rcases hc with z | z
    · rw [z]; exact nit b u e
    · exact nit c _ z
theorem Inv.tok (I : Inv X pins σ H s) (t : Nat) : Inv X pins σ H { s with toks := t } := I.un (h' := s.heap) (t' := t) Un.refl I.hok
/-- all objects kept -/
theorem Inv.kept {t' : Nat} (I : Inv X pins σ H s) (k : ∀ b u, s.heap.get? b = some u → h'.get? b = some u) : Inv X pins σ H { s with heap := h', toks := t' } := I.un (Un.kept k) (I.hok.kept k)
/-- a new object laid and tracked -/
theorem Inv.laid {a : Addr} {o : HO} {t' : Nat} (I : Inv X pins σ H s) (k : ∀ b u, s.heap.get? b = some u → h'.get? b = some u) (hp : s.heap.objs.size ≤ a) (new : ObjOk X.prog X.w (upd H a o) h' a o) :
    Inv X pins σ (upd H a o) { s with heap := h', toks := t' } := I.un (Un.laid k hp (I.hok.fresh hp)) (I.hok.laid k hp new)
/-- an object written -/
theorem Inv.write {x e : Addr} {o : HO} {t' : Nat} (I : Inv X pins σ H s) (mu : Mut (H x)) (he : e = x ∨ H e = some (.own x)) (k : ∀ b u, b ≠ e → s.heap.get? b = some u → h'.get? b = some u) (heo : ∃ u, h'.get? e = some u)
    (new : ObjOk X.prog X.w (upd H x o) h' x o) : Inv X pins σ (upd H x o) { s with heap := h', toks := t' } := I.un (Un.write mu he k heo) (I.hok.write mu he k heo new)
/-- forgetting slots, pins -/
theorem Inv.weak {σ' : List (Option V)} (I : Inv X pins σ H s) (hl : σ'.length = σ.length) (w : ∀ (i : Nat) v, σ'[i]? = some (some v) → σ[i]? = some (some v)) : Inv X pins σ' H s :=
  ⟨I.ok, I.os, I.bare, I.base, let ⟨m, hn, hl'⟩ := I.loc; ⟨m, hn, fun i x v e1 e2 e3 => hl' i x v e1 (w i v e2) e3⟩, I.cell, I.free, I.freeC, I.pin, I.hok, hl.trans I.len⟩
theorem Inv.pins_of {pins' : List (Addr × Obj)} (I : Inv X pins σ H s) (h : ∀ p ∈ pins', s.heap.get? p.1 = some p.2 ∧ H p.1 = none ∧ p.1 ≠ X.env.locals ∧ p.1 ∉ X.fs ∧ ∀ v, p.2.data ≠ .cell v) : Inv X pins' σ H s :=
  ⟨I.ok, I.os, I.bare, I.base, I.loc, I.cell, I.free, I.freeC, fun p hp => (List.mem_append.mp hp).elim (fun z => I.pin p (List.mem_append_left _ z)) (h p), I.hok, I.len⟩

theorem nodup_ix {N : List Str} (hN : N.Nodup) {i j : Nat} {x : Str} (a : N[i]? = some x) (b : N[j]? = some x) : i = j := by
  obtain ⟨h1, e1⟩ := List.getElem?_eq_some_iff.mp a
  obtain ⟨h2, e2⟩ := List.getElem?_eq_some_iff.mp b
  exact (List.getElem_inj hN).mp (e1.trans e2.symm)

/-- a name is stored; what changed -/
theorem store_ok2 {M : Model} {A : Around} {E : Value → Shared → Prop} {i : Nat} {x : Str} {v : V} {u : Value} {Q : Unit → Shared → Prop} (I : Inv X pins σ H s) (hN : X.N.Nodup) (hi : X.N[i]? = some x) (hx : Loc X.env.scope x) (r : RelV v u)
    (h : ∀ s', Inv X pins (σ.set i (some v)) H s' → (∃ a, Heap.SameBut a s.heap s'.heap ∧ (a = X.env.locals ∨ X.env.cells.lookup x = some a)) → Q () s') (hf : X.fn x = true ∨ X.env.scope.names.lookup x = some .local := by first | exact .inl rfl | exact .inr rfl | assumption) : wpAny M A (storeName X.env x u) Q E s := by
  obtain ⟨m, hn, hl⟩ := id I.loc
  have hcls : (X.env.scope.kind == .class || (X.env.scope.kind == .module && X.env.locals != X.env.globals)) = false := by rw [I.ok.kind]; rfl
  have hiσ : i < σ.length := by rw [I.len]; exact (List.getElem?_eq_some_iff.mp hi).1
  have cne := I.cne
  have tracked : ∀ {a : Addr} {h' : Heap}, (∃ o, s.heap.get? a = some o ∧ H a = none) → Heap.SameBut a s.heap h' → HOk X.prog X.w H h' := fun {a h'} ha hs b ob e => by
    obtain ⟨_, _, hfree⟩ := ha
    refine (I.hok b ob e).stay (fun c w' hc q => (hs.2 c ?_).trans q) (fun _ q => q) fun _ _ q => q
    rintro rfl
    rcases hc with rfl | hc
    · rw [hfree] at e; cases e
    · rw [hfree] at hc; cases hc
  rcases hx with hk | hk
  · refine wpAny_storeName_local hk hn (fun h' hn' hs => ?_) hcls
    obtain ⟨oL, _, _, hoL, _⟩ := id hn
    refine h _ ⟨I.ok, I.os, I.bare, ⟨fun b o e n hb hx => ?_, fun b o e n hb hx => ?_, I.base.free, fun b o e hx => ?_, I.base.tups, I.base.frzs, I.base.tbls⟩, ⟨_, hn', fun j y v' e1 e2 e3 => ?_⟩, fun y c e => ?_, I.free, I.freeC, fun p hp => ?_, tracked ⟨oL, hoL, I.free⟩ hs, by simpa using I.len⟩ ⟨_, hs, .inl rfl⟩
    · exact (hs.2 b (Nat.ne_of_lt (Nat.lt_of_lt_of_le (Heap.lt_size e) I.ok.above))).trans (I.base.keep b o e n hb hx)
    · obtain ⟨sl, e1⟩ := I.base.slot b o e n hb hx
      exact ⟨sl, (hs.2 b (Nat.ne_of_lt (Nat.lt_of_lt_of_le (Heap.lt_size e) I.ok.above))).trans e1⟩
    · obtain ⟨o', e1⟩ := I.base.there b o e hx
      exact ⟨o', (hs.2 b (Nat.ne_of_lt (Nat.lt_of_lt_of_le (Heap.lt_size e) I.ok.above))).trans e1⟩
    · by_cases hj : j = i
      · subst hj
        rw [hi] at e1; cases e1
        rw [List.getElem?_set_self hiσ] at e2
        cases e2
        exact ⟨u, r, .inl ⟨hk, by simp⟩⟩
      · rw [List.getElem?_set_ne (Ne.symm hj)] at e2
        obtain ⟨u', r', q⟩ := hl j y v' e1 e2 e3
        refine ⟨u', r', ?_⟩
        rcases q with ⟨k, e⟩ | ⟨k, c, e, z⟩
        · refine .inl ⟨k, ?_⟩
          have : y ≠ x := fun e => hj (nodup_ix hN e1 (e ▸ hi))
          simp [this, e]
        · exact .inr ⟨k, c, e, z.sameBut hs (cne y c e)⟩
    · obtain ⟨w', z⟩ := I.cell y c e
      exact ⟨w', z.sameBut hs (cne y c e)⟩
    · obtain ⟨e, n, ne, nf, d⟩ := I.pin p hp
      exact ⟨(hs.2 p.1 ne).trans e, n, ne, nf, d⟩
  · have hfn : X.fn x = true := by
      rcases hf with z | z
      · exact z
      · rw [z] at hk; cases hk
    obtain ⟨c, hc⟩ := I.ok.has x (.inl hk)
    obtain ⟨w', z⟩ := I.cell x c hc
    refine wpAny_storeName_cell I.ok.kind hk hc z (fun h' hc' hs => ?_)
    obtain ⟨oc, hoc, hocd⟩ := id z
    refine h { s with heap := h' } ⟨I.ok, I.os, I.bare, ⟨fun b o e n hb hx => ?_, fun b o e n hb hx => ?_, I.base.free, fun b o e hx => ?_, I.base.tups, I.base.frzs, I.base.tbls⟩, ⟨m, hn.sameBut hs (Ne.symm (cne x c hc)), fun j y v' e1 e2 e3 => ?_⟩, fun y c' e => ?_, I.free, I.freeC, fun p hp => ?_, tracked ⟨oc, hoc, I.freeC x c hc⟩ hs, by simpa using I.len⟩ ⟨c, hs, .inr hc⟩
    · exact (hs.2 b (Nat.ne_of_lt (Nat.lt_of_lt_of_le (Heap.lt_size e) (I.ok.cab x c hfn hc)))).trans (I.base.keep b o e n hb hx)
    · obtain ⟨sl, e1⟩ := I.base.slot b o e n hb hx
      exact ⟨sl, (hs.2 b (Nat.ne_of_lt (Nat.lt_of_lt_of_le (Heap.lt_size e) (I.ok.cab x c hfn hc)))).trans e1⟩
    · obtain ⟨o', e1⟩ := I.base.there b o e hx
      exact ⟨o', (hs.2 b (Nat.ne_of_lt (Nat.lt_of_lt_of_le (Heap.lt_size e) (I.ok.cab x c hfn hc)))).trans e1⟩
    · by_cases hj : j = i
      · subst hj
        rw [hi] at e1; cases e1
        rw [List.getElem?_set_self hiσ] at e2
        cases e2
        exact ⟨u, r, .inr ⟨.inl hk, c, hc, hc'⟩⟩
      · rw [List.getElem?_set_ne (Ne.symm hj)] at e2
        obtain ⟨u', r', q⟩ := hl j y v' e1 e2 e3
        refine ⟨u', r', ?_⟩
        rcases q with q | ⟨k, c', e, z'⟩
        · exact .inl q
        · refine .inr ⟨k, c', e, z'.sameBut hs ?_⟩
          rintro rfl
          exact hj (nodup_ix hN e1 (I.ok.inj _ _ _ e hc ▸ hi))
    · by_cases hcc : c' = c
      · subst hcc; exact ⟨_, hc'⟩
      · obtain ⟨w2, z2⟩ := I.cell y c' e
        exact ⟨w2, z2.sameBut hs hcc⟩
    · obtain ⟨e, n, ne, nf, d⟩ := I.pin p hp
      refine ⟨(hs.2 p.1 ?_).trans e, n, ne, nf, d⟩
      intro q
      rw [q, hoc] at e
      have q' : oc = p.2 := Option.some.inj e
      exact d w' (by rw [← q']; exact hocd)
theorem store_ok {M : Model} {A : Around} {E : Value → Shared → Prop} {i : Nat} {x : Str} {v : V} {u : Value} {Q : Unit → Shared → Prop} (I : Inv X pins σ H s) (hN : X.N.Nodup) (hi : X.N[i]? = some x) (hx : Loc X.env.scope x) (r : RelV v u)
    (h : ∀ s', Inv X pins (σ.set i (some v)) H s' → Q () s') (hf : X.fn x = true ∨ X.env.scope.names.lookup x = some .local := by first | exact .inl rfl | exact .inr rfl | assumption) : wpAny M A (storeName X.env x u) Q E s :=
  store_ok2 I hN hi hx r (fun s' I' _ => h s' I') hf
/-- behind a call or a block, the state as it is -/
theorem Inv.call' {s' : Shared} {ch : List Addr} (I : Inv X pins σ H s) (ho : s'.os = s.os) (u : Un (frs X.stack) ch H H' s.heap s'.heap) (hok : HOk X.prog X.w H' s'.heap) (hg : AllBare s'.gens)
    (hch : ∀ b ∈ ch, (b ∈ X.ex ∨ X.s₀.heap.objs.size ≤ b) ∧ b ≠ X.env.locals ∧ (∀ x c, X.env.cells.lookup x = some c → c ≠ b) ∧ ∀ p ∈ X.pn ++ pins, p.1 ≠ b) : Inv X pins σ H' s' := by
  obtain ⟨h', g', d', t', o'⟩ := s'
  have e : o' = s.os := ho
  subst e
  exact I.call (g' := g') (t' := t') (d' := d') u hok hg hch
end

/-! ### the judgements -/
/-- an exception: its class, its own dict's address (where it has one), the abstract heap behind it -/
abbrev XK := Value → Option Addr → Hp → Prop
abbrev St := List (Option V)
abbrev VK := V → Hp → Prop
/-- an expression's reading; a test's; an argument list's -/
abbrev TE := St → Hp → VK → Prop
abbrev TT := St → Hp → (Bool → Hp → Prop) → Prop
abbrev TA := St → Hp → (List V → Hp → Prop) → Prop
/-- what is wanted behind a statement -/
structure Ends where
  nx : St → Hp → Prop
  rt : VK
  bk : St → Hp → Prop := fun _ _ => False
  ct : St → Hp → Prop := fun _ _ => False
abbrev TS := Ends → St → Hp → Prop

def EP (X : Cx) (pins : List (Addr × Obj)) (σ : St) (Q : VK) (u : Value) (s' : Shared) : Prop := ∃ v H', Inv X pins σ H' s' ∧ RelV v u ∧ Q v H'
def TP (X : Cx) (pins : List (Addr × Obj)) (σ : St) (Q : Bool → Hp → Prop) (b : Bool) (s' : Shared) : Prop := ∃ H', Inv X pins σ H' s' ∧ Q b H'
def AP (X : Cx) (pins : List (Addr × Obj)) (σ : St) (Q : List V → Hp → Prop) (us : List Value) (s' : Shared) : Prop := ∃ vs H', Inv X pins σ H' s' ∧ Vals vs us ∧ Q vs H'
def SP (X : Cx) (pins : List (Addr × Obj)) (D : Ends) (f : Flow) (s' : Shared) : Prop :=
  match f with
  | .next => ∃ σ' H', Inv X pins σ' H' s' ∧ D.nx σ' H'
  | .brk => ∃ σ' H', Inv X pins σ' H' s' ∧ D.bk σ' H'
  | .cont => ∃ σ' H', Inv X pins σ' H' s' ∧ D.ct σ' H'
  | .ret u => ∃ v σ' H', Inv X pins σ' H' s' ∧ RelV v u ∧ D.rt v H'

def PE (X : Cx) (e : Expr) (t : TE) : Prop :=
  ∀ (pins : List (Addr × Obj)) (s : Shared) (σ : St) (H : Hp) (Q : VK), Inv X pins σ H s → t σ H Q → wpAny (model X.prog X.w) X.A (eval e X.env) (EP X pins σ Q) X.xe s
def PT (X : Cx) (e : Expr) (t : TT) : Prop :=
  ∀ (pins : List (Addr × Obj)) (s : Shared) (σ : St) (H : Hp) (Q : Bool → Hp → Prop), Inv X pins σ H s → t σ H Q → wpAny (model X.prog X.w) X.A (isTrue e X.env (eval e X.env)) (TP X pins σ Q) X.xe s
/-- a test whatever its 'whole' is (and, or) -/
def PW (X : Cx) (e : Expr) (t : TT) : Prop :=
  ∀ (whole : Sem Value) (pins : List (Addr × Obj)) (s : Shared) (σ : St) (H : Hp) (Q : Bool → Hp → Prop), Inv X pins σ H s → t σ H Q → wpAny (model X.prog X.w) X.A (isTrue e X.env whole) (TP X pins σ Q) X.xe s
theorem PW.pt {X : Cx} {e : Expr} {t : TT} (h : PW X e t) : PT X e t := h _
/-- an argument list (no star), from the left -/
def PA (X : Cx) (es : List Expr) (t : TA) : Prop :=
  ∀ (pos : Pos) (pins : List (Addr × Obj)) (s : Shared) (σ : St) (H : Hp) (Q : List V → Hp → Prop), Inv X pins σ H s → t σ H Q → wpAny (model X.prog X.w) X.A (spliced (backTo pos (starEach es X.env))) (AP X pins σ Q) X.xe s
def PS (X : Cx) (st : Stmt) (t : TS) : Prop :=
  ∀ (pins : List (Addr × Obj)) (s : Shared) (σ : St) (H : Hp) (D : Ends), Inv X pins σ H s → t D σ H → wpAny (model X.prog X.w) X.A (exec st X.env) (SP X pins D) X.xe s
def PSs (X : Cx) (st : List Stmt) (t : TS) : Prop :=
  ∀ (pins : List (Addr × Obj)) (s : Shared) (σ : St) (H : Hp) (D : Ends), Inv X pins σ H s → t D σ H → wpAny (model X.prog X.w) X.A (execs st X.env) (SP X pins D) X.xe s
/-- weaken the end -/
theorem thn {α : Type} {t : Sem α} {Q Q' : α → Shared → Prop} {M : Model} {A : Around} {E : Value → Shared → Prop} {s : Shared} (h : wpAny M A t Q E s) (hQ : ∀ a s, Q a s → Q' a s) : wpAny M A t Q' E s := wpAny_mono h hQ fun _ _ x => x
end L2

namespace L2
open PySem PySem.Spec PyProof.Rows
section
variable {X : Cx}

/-- two expressions in a row -/
theorem bin {a b : Expr} {ta tb : TE} (ha : PE X a ta) (hb : PE X b tb) {pins : List (Addr × Obj)} {s : Shared} {σ : St} {H : Hp} {R : V → V → Hp → Prop} (I : Inv X pins σ H s) (h : ta σ H fun x H1 => tb σ H1 fun y H2 => R x y H2)
    {α : Type} {Q : α → Shared → Prop} {f : Value → Value → Sem α}
    (hf : ∀ v u s2 x y H2, Inv X pins σ H2 s2 → RelV x v → RelV y u → R x y H2 → wpAny (model X.prog X.w) X.A (f v u) Q X.xe s2) :
    wpAny (model X.prog X.w) X.A (eval a X.env) (fun v s₁ => wpAny (model X.prog X.w) X.A (eval b X.env) (fun u s₂ => wpAny (model X.prog X.w) X.A (f v u) Q X.xe s₂) X.xe s₁) X.xe s := by
  refine thn (ha pins s σ H _ I h) fun v s1 ⟨x, H1, I1, r1, q1⟩ => ?_
  refine thn (hb pins s1 σ H1 _ I1 q1) fun u s2 ⟨y, H2, I2, r2, q2⟩ => ?_
  exact hf v u s2 x y H2 I2 r1 r2 q2

/-! ### names and constants -/
def tVar (i : Nat) : TE := fun σ H Q => ∃ v, σ[i]? = some (some v) ∧ Q v H
def tC (v : V) : TE := fun _ H Q => Q v H
theorem pe_var {i : Nat} {x : Str} {pos : Pos} (hN : X.N[i]? = some x) (hv : Vis X.env.scope x) (hd : (x == ("__debug__" : Str)) = false := by decide) (hcd : (x == ("__classdict__" : Str)) = false := by decide) : PE X (.Name x pos) (tVar i) := by
  intro pins s σ H Q I h
  obtain ⟨v, e, h⟩ := h
  obtain ⟨m, hn, hl⟩ := I.loc
  obtain ⟨u, r, l⟩ := hl i x v hN e hv
  have fin : EP X pins σ Q u s := ⟨v, H, I, r, h⟩
  rcases l with ⟨hk, hm⟩ | ⟨hk, c, hc, hcell⟩
  · exact wpAny_Name (wpAny_loadName_local I.ok.kind hk hn hm fin) hd
  · rcases hk with hk | hk
    · exact wpAny_Name (wpAny_loadName_cell I.ok.kind hk hc hcell fin) hd
    · exact wpAny_Name (wpAny_loadName_free I.ok.kind hk hc hcell fin hcd) hd
theorem pe_int {i j pos} : PE X (.Constant (.int i) j pos) (tC (.int i)) := fun _ _ _ H _ I h => wpAny_Constant_int ⟨.int i, H, I.tok _, ⟨_, rfl⟩, h⟩
theorem pe_bl {b j pos} : PE X (.Constant (.bool b) j pos) (tC (.bl b)) := fun _ _ _ H _ I h => Constant_bool ⟨.bl b, H, I, rfl, h⟩
theorem pe_non {j pos} : PE X (.Constant .none j pos) (tC .non) := fun _ _ _ H _ I h => Constant_none ⟨.non, H, I, rfl, h⟩
theorem pe_str {x j pos} : PE X (.Constant (.str x) j pos) (tC (.str x)) := fun _ _ _ H _ I h => Calls.Constant_str ⟨.str x, H, I.tok _, ⟨_, rfl⟩, h⟩

/-- a global name of the def -/
def Gl (X : Cx) (x : Str) : Prop := X.env.kindOf x = some .globalImplicit
theorem ld_glob {E : Value → Shared → Prop} {pins : List (Addr × Obj)} {s : Shared} {σ : St} {H : Hp} {x : Str} {u : Value} {pos : Pos} {Q : Value → Shared → Prop} (I : Inv X pins σ H s) (hg : Gl X x) (hm : X.mg x = some u) (h : Q u s)
    (hd : (x == ("__debug__" : Str)) = false := by decide) : wpAny (model X.prog X.w) X.A (eval (.Name x pos) X.env) Q E s :=
  Calls.Name_function_global I.ok.kind hg (Calls.loadGlobal_global (by rw [I.ok.glob]; exact I.mod.glob.keeps I.bk) hm h) hd
theorem ld_blt {E : Value → Shared → Prop} {pins : List (Addr × Obj)} {s : Shared} {σ : St} {H : Hp} {x : Str} {u : Value} {pos : Pos} {Q : Value → Shared → Prop} (I : Inv X pins σ H s) (hg : Gl X x) (hm : X.mg x = none) (hv : bootBuiltins x = some u) (h : Q u s)
    (hn : x ≠ "__name__" := by decide) (hd : (x == ("__debug__" : Str)) = false := by decide) : wpAny (model X.prog X.w) X.A (eval (.Name x pos) X.env) Q E s := by
  obtain ⟨mb, h1, h2⟩ := I.mod.blt
  exact Calls.Name_function_global I.ok.kind hg (Calls.loadGlobal_builtin (by rw [I.ok.glob]; exact I.mod.glob.keeps I.bk) hm (by rw [I.ok.blt]; exact h1.keeps I.bk) ((h2 x hn).trans hv) h) hd
/-- a module's constant, a class, a function, as a value -/
theorem pe_glob {x : Str} {v : V} {u : Value} {pos : Pos} (hg : Gl X x) (hm : X.mg x = some u) (r : RelV v u) (hd : (x == ("__debug__" : Str)) = false := by decide) : PE X (.Name x pos) (tC v) :=
  fun _ _ _ H _ I h => ld_glob I hg hm ⟨v, H, I, r, h⟩ hd
theorem pe_bltn {x : Str} {v : V} {u : Value} {pos : Pos} (hg : Gl X x) (hm : X.mg x = none) (hv : bootBuiltins x = some u) (r : RelV v u) (hn : x ≠ "__name__" := by decide) (hd : (x == ("__debug__" : Str)) = false := by decide) : PE X (.Name x pos) (tC v) :=
  fun _ _ _ H _ I h => ld_blt I hg hm hv ⟨v, H, I, r, h⟩ hn hd

/-! ### arithmetic -/
/-- two ints -/
def t2I (ta tb : TE) (k : Int → Int → Hp → Prop) : St → Hp → Prop := fun σ H => ta σ H fun x H1 => tb σ H1 fun y H2 => ∃ i j, x = .int i ∧ y = .int j ∧ k i j H2
def tAdd (ta tb : TE) : TE := fun σ H Q => t2I ta tb (fun i j H2 => Q (.int (i + j)) H2) σ H
def tSub (ta tb : TE) : TE := fun σ H Q => t2I ta tb (fun i j H2 => Q (.int (i - j)) H2) σ H
/-- the left factor below 2^64 -/
def tMul (ta tb : TE) : TE := fun σ H Q => t2I ta tb (fun i j H2 => (-(2 ^ 64) < i ∧ i < 2 ^ 64) ∧ Q (.int (i * j)) H2) σ H
variable {a b : Expr} {ta tb : TE} {pos : Pos}
theorem pe_add (ha : PE X a ta) (hb : PE X b tb) : PE X (.BinOp a .Add b pos) (tAdd ta tb) := by
  intro pins s σ H Q I h
  refine wpAny_BinOp (bin ha hb I h fun v u s2 x y H2 I2 rx ry q => ?_)
  obtain ⟨i, j, rfl, rfl, q⟩ := q
  obtain ⟨t, rfl⟩ := rx
  obtain ⟨t', rfl⟩ := ry
  exact add_int ⟨.int _, H2, I2.tok _, ⟨_, rfl⟩, q⟩
theorem pe_sub (ha : PE X a ta) (hb : PE X b tb) : PE X (.BinOp a .Sub b pos) (tSub ta tb) := by
  intro pins s σ H Q I h
  refine wpAny_BinOp (bin ha hb I h fun v u s2 x y H2 I2 rx ry q => ?_)
  obtain ⟨i, j, rfl, rfl, q⟩ := q
  obtain ⟨t, rfl⟩ := rx
  obtain ⟨t', rfl⟩ := ry
  exact sub_int ⟨.int _, H2, I2.tok _, ⟨_, rfl⟩, q⟩
theorem pe_mul (ha : PE X a ta) (hb : PE X b tb) : PE X (.BinOp a .Mult b pos) (tMul ta tb) := by
  intro pins s σ H Q I h
  refine wpAny_BinOp (bin ha hb I h fun v u s2 x y H2 I2 rx ry q => ?_)
  obtain ⟨i, j, rfl, rfl, ⟨q1, q2⟩, q⟩ := q
  obtain ⟨t, rfl⟩ := rx
  obtain ⟨t', rfl⟩ := ry
  exact mul_int ⟨.int _, H2, I2.tok _, ⟨_, rfl⟩, q⟩ (.of_left (intBits_le_64 q1 q2))

/-! ### comparisons -/
def PC (X : Cx) (op : CmpOp) (a b : Expr) (t : TE) : Prop :=
  ∀ (pins : List (Addr × Obj)) (s : Shared) (σ : St) (H : Hp) (Q : VK), Inv X pins σ H s → t σ H Q →
    wpAny (model X.prog X.w) X.A (eval a X.env) (fun v s₁ => wpAny (model X.prog X.w) X.A (eval b X.env) (fun u s₂ => wpAny (model X.prog X.w) X.A (compareOp op v u) (EP X pins σ Q) X.xe s₂) X.xe s₁) X.xe s
theorem nobehind (b : Expr) {op : CmpOp} (h : op ≠ .In) (h2 : op ≠ .NotIn) : behindInMarks op b = false := by
  have e1 : (op == CmpOp.In) = false := by cases op <;> first | rfl | exact absurd rfl h
  have e2 : (op == CmpOp.NotIn) = false := by cases op <;> first | rfl | exact absurd rfl h2
  cases b <;> simp [behindInMarks, e1, e2]
def tCmp (p : Int → Int → Bool) (ta tb : TE) : TE := fun σ H Q => t2I ta tb (fun i j H2 => Q (.bl (p i j)) H2) σ H
abbrev tLt : TE → TE → TE := tCmp fun i j => decide (i < j)
abbrev tLe : TE → TE → TE := tCmp fun i j => decide (i ≤ j)
abbrev tGt : TE → TE → TE := tCmp fun i j => decide (j < i)
abbrev tGe : TE → TE → TE := tCmp fun i j => decide (j ≤ i)
abbrev tEqI : TE → TE → TE := tCmp fun i j => decide (i = j)
abbrev tNeI : TE → TE → TE := tCmp fun i j => !decide (i = j)
/-- a comparison of two ints, by its rule -/
theorem pc_int {op : CmpOp} {p : Int → Int → Bool} (ha : PE X a ta) (hb : PE X b tb)
    (rule : ∀ (i j : Int) (t u : Tok) (Q : Value → Shared → Prop) (s : Shared), Q (.bool (p i j)) s → wpAny (model X.prog X.w) X.A (compareOp op (.int i t) (.int j u)) Q X.xe s) : PC X op a b (tCmp p ta tb) := by
  intro pins s σ H Q I h
  refine bin ha hb I h fun v u s2 x y H2 I2 rx ry q => ?_
  obtain ⟨i, j, rfl, rfl, q⟩ := q
  obtain ⟨t, rfl⟩ := rx
  obtain ⟨t', rfl⟩ := ry
  exact rule i j t t' _ s2 ⟨.bl _, H2, I2, rfl, q⟩
theorem pc_lt (ha : PE X a ta) (hb : PE X b tb) : PC X .Lt a b (tLt ta tb) := pc_int ha hb fun _ _ _ _ _ _ h => lt_int h
theorem pc_le (ha : PE X a ta) (hb : PE X b tb) : PC X .LtE a b (tLe ta tb) := pc_int ha hb fun _ _ _ _ _ _ h => le_int h
theorem pc_gt (ha : PE X a ta) (hb : PE X b tb) : PC X .Gt a b (tGt ta tb) := pc_int ha hb fun _ _ _ _ _ _ h => gt_int h
theorem pc_ge (ha : PE X a ta) (hb : PE X b tb) : PC X .GtE a b (tGe ta tb) := pc_int ha hb fun _ _ _ _ _ _ h => ge_int h
theorem pc_eqI (ha : PE X a ta) (hb : PE X b tb) : PC X .Eq a b (tEqI ta tb) := pc_int ha hb fun _ _ _ _ _ _ h => eq_int (by rw [Bool.beq_eq_decide_eq]; exact h)
theorem pc_neI (ha : PE X a ta) (hb : PE X b tb) : PC X .NotEq a b (tNeI ta tb) := pc_int ha hb fun _ _ _ _ _ _ h => ne_int (by rw [bne, Bool.beq_eq_decide_eq]; exact h)
/-- is None -/
def tIsN (ta : TE) : TE := fun σ H Q => ta σ H fun x H1 => Q (.bl (decide (x = .non))) H1
def tNotN (ta : TE) : TE := fun σ H Q => ta σ H fun x H1 => Q (.bl (!decide (x = .non))) H1
theorem RelV.none_iff {x : V} {v : Value} (r : RelV x v) : (v == Value.none) = decide (x = .non) := by
  cases x with
  | non => cases r; rfl
  | bl _ => cases r; rfl
  | int _ => obtain ⟨t, rfl⟩ := r; rfl
  | str _ => obtain ⟨t, rfl⟩ := r; rfl
  | byt _ => obtain ⟨t, rfl⟩ := r; rfl
  | flt _ => obtain ⟨t, rfl⟩ := r; rfl
  | ref _ => cases r; rfl
  | ty _ => cases r; rfl
theorem pc_isN {j pos'} (ha : PE X a ta) : PC X .Is a (.Constant .none j pos') (tIsN ta) := by
  intro pins s σ H Q I h
  refine thn (ha pins s σ H _ I h) fun v s1 ⟨x, H1, I1, r1, q1⟩ => ?_
  exact Constant_none (is_none_gen ⟨.bl _, H1, I1, by rw [r1.none_iff]; rfl, q1⟩)
theorem pc_notN {j pos'} (ha : PE X a ta) : PC X .IsNot a (.Constant .none j pos') (tNotN ta) := by
  intro pins s σ H Q I h
  refine thn (ha pins s σ H _ I h) fun v s1 ⟨x, H1, I1, r1, q1⟩ => ?_
  exact Constant_none (isnot_none_gen ⟨.bl _, H1, I1, by rw [r1.none_iff]; rfl, q1⟩)
/-- a comparison as a value, as a test -/
def tB (t : TE) : TT := fun σ H Q => t σ H fun x H1 => ∃ c, x = .bl c ∧ Q c H1
theorem pe_cmp {op : CmpOp} {t : TE} (h : PC X op a b t) (h1 : behindInMarks op b = false := by first | exact nobehind _ (by decide) (by decide) | rfl) : PE X (.Compare a [op] [b] pos) t := fun pins s σ H Q I hw => wpAny_Compare1 (h pins s σ H Q I hw) h1
theorem pt_cmp {op : CmpOp} {t : TE} (h : PC X op a b t) (h1 : behindInMarks op b = false := by first | exact nobehind _ (by decide) (by decide) | rfl) : PT X (.Compare a [op] [b] pos) (tB t) := by
  intro pins s σ H Q I hw
  refine wpAny_isTrue_Compare1 (thn (h pins s σ H _ I hw) fun v s1 h1 => thn h1 fun u s2 h2 => thn h2 fun c s3 ⟨x, H1, I1, r1, q1⟩ => ?_) h1
  obtain ⟨d, rfl, q⟩ := q1
  cases r1
  exact wpAny_truthy_bool ⟨H1, I1, q⟩
/-- an expression whose value is a bool, as a test -/
theorem pt_val {e : Expr} {t : TE} (h : PE X e t) (he : ∀ whole, isTrue e X.env whole = (do let v ← whole; standAt e.pos; holding [v] (truthy v)) := by intro _; rfl) : PT X e (tB t) := by
  intro pins s σ H Q I hw
  refine isTrue_plain (thn (h pins s σ H _ I hw) fun v s1 ⟨x, H1, I1, r1, q1⟩ => ?_) (he _)
  obtain ⟨d, rfl, q⟩ := q1
  cases r1
  exact wpAny_truthy_bool ⟨H1, I1, q⟩

/-! ### and, or, not -/
variable {tA tB' : TT} {rest : List Expr}
def tAnd (t u : TT) : TT := fun σ H Q => t σ H fun c H1 => if c = true then u σ H1 Q else Q false H1
def tOr (t u : TT) : TT := fun σ H Q => t σ H fun c H1 => if c = true then Q true H1 else u σ H1 Q
def tNot (t : TT) : TT := fun σ H Q => t σ H fun c H1 => Q (!c) H1
theorem pw_and1 (ha : PT X a tA) : PW X (.BoolOp .And [a] pos) tA := by
  intro wh pins s σ H Q I h
  refine isTrue_and (thn (ha pins s σ H Q I h) fun c s1 e => ?_)
  cases c with
  | true => exact isTrue_and_nil e
  | false => exact e
theorem pw_or1 (ha : PT X a tA) : PW X (.BoolOp .Or [a] pos) tA := by
  intro wh pins s σ H Q I h
  refine isTrue_or (thn (ha pins s σ H Q I h) fun c s1 e => ?_)
  cases c with
  | false => exact isTrue_or_nil e
  | true => exact e
theorem pw_and (ha : PT X a tA) (hb : PW X (.BoolOp .And (b :: rest) pos) tB') : PW X (.BoolOp .And (a :: b :: rest) pos) (tAnd tA tB') := by
  intro wh pins s σ H Q I h
  refine isTrue_and (thn (ha pins s σ H _ I h) fun c s1 ⟨H1, I1, q1⟩ => ?_)
  cases c with
  | true => exact hb wh pins s1 σ H1 Q I1 q1
  | false => exact ⟨H1, I1, q1⟩
theorem pw_or (ha : PT X a tA) (hb : PW X (.BoolOp .Or (b :: rest) pos) tB') : PW X (.BoolOp .Or (a :: b :: rest) pos) (tOr tA tB') := by
  intro wh pins s σ H Q I h
  refine isTrue_or (thn (ha pins s σ H _ I h) fun c s1 ⟨H1, I1, q1⟩ => ?_)
  cases c with
  | true => exact ⟨H1, I1, q1⟩
  | false => exact hb wh pins s1 σ H1 Q I1 q1
theorem pt_not (ha : PT X a tA) : PT X (.UnaryOp .Not a pos) (tNot tA) := by
  intro pins s σ H Q I h
  exact isTrue_not (ha pins s σ H (fun c H1 => Q (!c) H1) I h)
/-- .. as values (bools) -/
def tAndV (ta tb : TE) : TE := fun σ H Q => ta σ H fun x H1 => ∃ c, x = .bl c ∧ if c = true then tb σ H1 Q else Q (.bl false) H1
def tOrV (ta tb : TE) : TE := fun σ H Q => ta σ H fun x H1 => ∃ c, x = .bl c ∧ if c = true then Q (.bl true) H1 else tb σ H1 Q
def tNotV (ta : TE) : TE := fun σ H Q => ta σ H fun x H1 => ∃ c, x = .bl c ∧ Q (.bl (!c)) H1
theorem pe_one {op} {t : TE} (h : PE X a t) : PE X (.BoolOp op [a] pos) t := fun pins s σ H Q I hw => BoolOp_one (h pins s σ H Q I hw)
theorem pe_and (ha : PE X a ta) (hb : PE X (.BoolOp .And (b :: rest) pos) tb) : PE X (.BoolOp .And (a :: b :: rest) pos) (tAndV ta tb) := by
  intro pins s σ H Q I h
  refine BoolOp_and (thn (ha pins s σ H _ I h) fun v s1 ⟨x, H1, I1, r1, q1⟩ => ?_)
  obtain ⟨c, rfl, q1⟩ := q1
  cases r1
  refine wpAny_truthy_bool ?_
  cases c with
  | true => exact hb pins s1 σ H1 Q I1 q1
  | false => exact ⟨.bl false, H1, I1, rfl, q1⟩
theorem pe_or (ha : PE X a ta) (hb : PE X (.BoolOp .Or (b :: rest) pos) tb) : PE X (.BoolOp .Or (a :: b :: rest) pos) (tOrV ta tb) := by
  intro pins s σ H Q I h
  refine BoolOp_or (thn (ha pins s σ H _ I h) fun v s1 ⟨x, H1, I1, r1, q1⟩ => ?_)
  obtain ⟨c, rfl, q1⟩ := q1
  cases r1
  refine wpAny_truthy_bool ?_
  cases c with
  | false => exact hb pins s1 σ H1 Q I1 q1
  | true => exact ⟨.bl true, H1, I1, rfl, q1⟩
theorem pe_not (ha : PE X a ta) : PE X (.UnaryOp .Not a pos) (tNotV ta) := by
  intro pins s σ H Q I h
  refine UnaryOp_ (thn (ha pins s σ H _ I h) fun v s1 ⟨x, H1, I1, r1, q1⟩ => ?_)
  obtain ⟨c, rfl, q1⟩ := q1
  cases r1
  exact not_of (wpAny_truthy_bool ⟨.bl (!c), H1, I1, rfl, q1⟩)
/-- a if t else b -/
def tIf (t : TT) (ta tb : TE) : TE := fun σ H Q => t σ H fun c H1 => if c = true then ta σ H1 Q else tb σ H1 Q
theorem pe_ifExp {c : Expr} (hc : PT X c tA) (ha : PE X a ta) (hb : PE X b tb) : PE X (.IfExp c a b pos) (tIf tA ta tb) := by
  intro pins s σ H Q I h
  refine wpAny_IfExp (thn (hc pins s σ H _ I h) fun d s1 ⟨H1, I1, q1⟩ => ?_)
  cases d with
  | true => exact ha pins s1 σ H1 Q I1 q1
  | false => exact hb pins s1 σ H1 Q I1 q1
end
end L2

namespace L2
open PySem PySem.Spec PyProof.Rows

/-! ### a list, a tuple that is read: tracked, frozen, or an object of the module -/
def SqL (K : PySem.W.Frag) (H : Hp) (a : Addr) (xs : List V) : Prop :=
  Rd H a (.lst xs) ∨
    ∃ (o : Obj) (its : Array Value) (n : Nat), K.lookup a = some o ∧ o.cls = .type "list" ∧ o.dict = none ∧ o.data = .seq its n ∧ its.size ≤ sizeLine ∧ Vals xs its.toList
def SqT (K : PySem.W.Frag) (H : Hp) (a : Addr) (xs : List V) : Prop :=
  Rd H a (.tup xs) ∨
    ∃ (o : Obj) (its : Array Value) (n : Nat), K.lookup a = some o ∧ o.cls = .type "tuple" ∧ o.data = .seq its n ∧ its.size ≤ sizeLine ∧ Vals xs its.toList
def absV : Value → Option V
  | .none => some .non
  | .bool b => some (.bl b)
  | .int i _ => some (.int i)
  | .str x _ => some (.str x)
  | .bytes b _ => some (.byt b)
  | .float b _ => some (.flt b)
  | .ref a => some (.ref a)
  | .type n => some (.ty n)
  | _ => none
theorem RelV.abs {x : V} {u : Value} (r : RelV x u) : absV u = some x := by
  cases x with
  | non => cases r; rfl
  | bl _ => cases r; rfl
  | int _ => obtain ⟨t, rfl⟩ := r; rfl
  | str _ => obtain ⟨t, rfl⟩ := r; rfl
  | byt _ => obtain ⟨t, rfl⟩ := r; rfl
  | flt _ => obtain ⟨t, rfl⟩ := r; rfl
  | ref _ => cases r; rfl
  | ty _ => cases r; rfl
theorem RelV.inj {x y : V} {u : Value} (r : RelV x u) (q : RelV y u) : x = y := Option.some.inj (r.abs.symm.trans q.abs)
theorem Vals.inj : ∀ {xs ys : List V} {us : List Value}, Vals xs us → Vals ys us → xs = ys
  | _, _, _, .nil, .nil => rfl
  | _, _, _, .cons r t, .cons r' t' => by rw [r.inj r', Vals.inj t t']
section
variable {X : Cx} {pins : List (Addr × Obj)} {σ : St} {H : Hp} {s : Shared} {a : Addr} {xs ys : List V}
theorem SqL.of {K : PySem.W.Frag} (h : H a = some (.lst xs)) : SqL K H a xs := .inl (.inl h)
theorem SqT.of {K : PySem.W.Frag} (h : H a = some (.tup xs)) : SqT K H a xs := .inl (.inl h)
theorem Inv.list (I : Inv X pins σ H s) (h : SqL X.K H a xs) : ∃ its : List Value, Vals xs its ∧ PlainL s.heap a its.toArray ∧ xs.length ≤ sizeLine := by
  rcases h with h | ⟨o, its, n, hk, hc, hd, hs, hz, r⟩
  · obtain ⟨z, its, n, r, e⟩ := h.ok I.hok
    exact ⟨its, r, ⟨_, n, e, rfl, rfl, rfl⟩, z⟩
  · refine ⟨its.toList, r, ⟨o, n, I.kIn a o hk, hc, hd, by simpa using hs⟩, ?_⟩
    have e := r.length
    simp only [Array.length_toList] at e
    omega
theorem Inv.tuple (I : Inv X pins σ H s) (h : SqT X.K H a xs) : ∃ its : List Value, Vals xs its ∧ IsTup s.heap a its.toArray ∧ xs.length ≤ sizeLine := by
  rcases h with h | ⟨o, its, n, hk, hc, hs, hz, r⟩
  · obtain ⟨z, its, r, p⟩ := h.ok I.hok
    exact ⟨its, r, p, z⟩
  · refine ⟨its.toList, r, ⟨o, I.kIn a o hk, hc, n, by simpa using hs⟩, ?_⟩
    have e := r.length
    simp only [Array.length_toList] at e
    omega
theorem Inv.list_inj (I : Inv X pins σ H s) (h : SqL X.K H a xs) (h' : SqL X.K H a ys) : xs = ys := by
  obtain ⟨its, r, ⟨o, n, e, _, _, d⟩, _⟩ := I.list h
  obtain ⟨its', r', ⟨o', n', e', _, _, d'⟩, _⟩ := I.list h'
  rw [e] at e'; cases e'
  rw [d] at d'
  injection d' with d1 _
  have : its = its' := by simpa using congrArg Array.toList d1
  subst this
  exact r.inj r'
theorem Inv.tuple_inj (I : Inv X pins σ H s) (h : SqT X.K H a xs) (h' : SqT X.K H a ys) : xs = ys := by
  obtain ⟨its, r, ⟨o, e, _, n, d⟩, _⟩ := I.tuple h
  obtain ⟨its', r', ⟨o', e', _, n', d'⟩, _⟩ := I.tuple h'
  rw [e] at e'; cases e'
  rw [d] at d'
  injection d' with d1 _
  have : its = its' := by simpa using congrArg Array.toList d1
  subst this
  exact r.inj r'
end

/-! ### another wish about exceptions -/
abbrev Cx.wish (X : Cx) (E : Value → Shared → Prop) : Cx := { X with xe := E }
/-- no exception leaves -/
abbrev Cx.nox (X : Cx) : Cx := X.wish fun _ _ => False
theorem Cx.Ok.wish {X : Cx} (ok : X.Ok) (E : Value → Shared → Prop) : (X.wish E).Ok :=
  ⟨ok.mod, ok.kind, ok.glob, ok.blt, ok.above, ok.inj, ok.has, ok.cab, ok.hd, ok.frames, ok.stk, ok.exf, ok.bs, ok.bsz, ok.noex, ok.exfs, ok.funs, ok.frf⟩
theorem Cx.Ok.unwish {X : Cx} {E : Value → Shared → Prop} (ok : (X.wish E).Ok) : X.Ok :=
  ⟨ok.mod, ok.kind, ok.glob, ok.blt, ok.above, ok.inj, ok.has, ok.cab, ok.hd, ok.frames, ok.stk, ok.exf, ok.bs, ok.bsz, ok.noex, ok.exfs, ok.funs, ok.frf⟩
section
variable {X : Cx} {pins : List (Addr × Obj)} {σ : St} {H : Hp} {s : Shared} {E : Value → Shared → Prop}
theorem Inv.wish (I : Inv X pins σ H s) (E : Value → Shared → Prop) : Inv (X.wish E) pins σ H s := ⟨I.ok.wish E, I.os, I.bare, I.base, I.loc, I.cell, I.free, I.freeC, I.pin, I.hok, I.len⟩
theorem Inv.unwish (I : Inv (X.wish E) pins σ H s) : Inv X pins σ H s := ⟨I.ok.unwish, I.os, I.bare, I.base, I.loc, I.cell, I.free, I.freeC, I.pin, I.hok, I.len⟩
theorem SP.unwish {D : Ends} {f : Flow} {s' : Shared} (h : SP (X.wish E) pins D f s') : SP X pins D f s' := by
  cases f with
  | next => obtain ⟨σ', H', I, q⟩ := h; exact ⟨σ', H', I.unwish, q⟩
  | brk => obtain ⟨σ', H', I, q⟩ := h; exact ⟨σ', H', I.unwish, q⟩
  | cont => obtain ⟨σ', H', I, q⟩ := h; exact ⟨σ', H', I.unwish, q⟩
  | ret u => obtain ⟨v, σ', H', I, r, q⟩ := h; exact ⟨v, σ', H', I.unwish, r, q⟩
theorem PE.nox {e : Expr} {t : TE} (h : PE X.nox e t) : PE X e t := fun pins s σ H Q I hw =>
  wpAny_mono (h pins s σ H Q (I.wish _) hw) (fun _ _ ⟨v, H', I', r, q⟩ => ⟨v, H', I'.unwish, r, q⟩) fun _ _ z => False.elim z
theorem PT.nox {e : Expr} {t : TT} (h : PT X.nox e t) : PT X e t := fun pins s σ H Q I hw =>
  wpAny_mono (h pins s σ H Q (I.wish _) hw) (fun _ _ ⟨H', I', q⟩ => ⟨H', I'.unwish, q⟩) fun _ _ z => False.elim z
theorem PSs.nox {st : List Stmt} {t : TS} (h : PSs X.nox st t) : PSs X st t := fun pins s σ H D I hw =>
  wpAny_mono (h pins s σ H D (I.wish _) hw) (fun _ _ q => q.unwish) fun _ _ z => False.elim z
end

/-! ### blocks and small statements -/
section
variable {X : Cx} {st : Stmt} {rest : List Stmt} {t u : TS} {e : Expr} {te : TE} {pos : Pos}
def tNext : TS := fun D σ H => D.nx σ H
def tSeq (t u : TS) : TS := fun D σ H => t { D with nx := u D } σ H
theorem pss_nil : PSs X [] tNext := fun _ _ σ H _ I h => wpAny_execs_nil ⟨σ, H, I, h⟩
theorem pss_cons (h1 : PS X st t) (h2 : PSs X rest u) : PSs X (st :: rest) (tSeq t u) := by
  intro pins s σ H D I h
  refine wpAny_execs_cons (thn (h1 pins s σ H { D with nx := u D } I h) fun f s1 q => ?_)
  cases f with
  | next =>
    obtain ⟨σ', H', I', q⟩ := q
    exact h2 pins s1 σ' H' D I' q
  | ret v => exact q
  | brk => exact q
  | cont => exact q
theorem pss_one (h1 : PS X st t) : PSs X [st] t := by
  intro pins s σ H D I h
  refine wpAny_execs_cons (thn (h1 pins s σ H D I h) fun f s1 q => ?_)
  cases f with
  | next => exact wpAny_execs_nil q
  | ret v => exact q
  | brk => exact q
  | cont => exact q
def tBreak : TS := fun D σ H => D.bk σ H
def tCont : TS := fun D σ H => D.ct σ H
theorem ps_pass : PS X (.Pass pos) tNext := fun _ _ σ H _ I h => wpAny_Pass ⟨σ, H, I, h⟩
theorem ps_break : PS X (.Break pos) tBreak := fun _ _ σ H _ I h => wpAny_Break ⟨σ, H, I, h⟩
theorem ps_continue : PS X (.Continue pos) tCont := fun _ _ σ H _ I h => wpAny_Continue ⟨σ, H, I, h⟩
/-- in a def's body nothing is shown -/
theorem Inv.quiet {pins : List (Addr × Obj)} {σ : St} {H : Hp} {s : Shared} (I : Inv X pins σ H s) : interactive X.env = false := by simp [interactive, I.ok.kind]
/-- a docstring -/
theorem ps_doc {x j pos pos'} : PS X (.Expr (.Constant (.str x) j pos) pos') tNext := fun _ s σ H _ I h => wpAny_Expr (Calls.Constant_str (show SP X _ _ .next { s with toks := s.toks + 1 } from ⟨σ, H, I.tok _, h⟩)) I.quiet
/-- an expression whose value is dropped -/
def tDrop (te : TE) : TS := fun D σ H => te σ H fun _ H1 => D.nx σ H1
theorem ps_expr (he : PE X e te) (hs : swapsWith e none pos.line X.env = pure false := by rfl) : PS X (.Expr e pos) (tDrop te) := by
  intro pins s σ H D I h
  exact wpAny_Expr_any (thn (he pins s σ H _ I h) fun v s1 ⟨x, H1, I1, r1, q1⟩ => ⟨σ, H1, I1, q1⟩) I.quiet hs
def tRet (te : TE) : TS := fun D σ H => te σ H D.rt
theorem ps_ret (he : PE X e te) : PS X (.Return (some e) pos) (tRet te) := by
  intro pins s σ H D I h
  exact wpAny_Return_some (thn (he pins s σ H _ I h) fun v s1 ⟨x, H1, I1, r1, q1⟩ => ⟨x, σ, H1, I1, r1, q1⟩)
def tRetN : TS := fun D _ H => D.rt .non H
theorem ps_retN : PS X (.Return none pos) tRetN := fun _ _ σ H _ I h => wpAny_Return_none ⟨.non, σ, H, I, rfl, h⟩
def tIfS (c : TT) (t u : TS) : TS := fun D σ H => c σ H fun b H1 => if b = true then t D σ H1 else u D σ H1
theorem ps_if {c : Expr} {a b : List Stmt} {tc : TT} (hc : PT X c tc) (ha : PSs X a t) (hb : PSs X b u) : PS X (.If c a b pos) (tIfS tc t u) := by
  intro pins s σ H D I h
  refine wpAny_If (thn (hc pins s σ H _ I h) fun d s1 ⟨H1, I1, q1⟩ => ?_)
  cases d with
  | true => exact ha pins s1 σ H1 D I1 q1
  | false => exact hb pins s1 σ H1 D I1 q1
/-- code that the proof never comes to -/
def tNever : TS := fun _ _ _ => False
theorem ps_never : PS X st tNever := fun _ _ _ _ _ _ h => h.elim
theorem pss_never {sts : List Stmt} : PSs X sts tNever := fun _ _ _ _ _ _ h => h.elim
end

/-! ### targets -/
abbrev TG := V → St → Hp → (St → Hp → Prop) → Prop
abbrev TGs := List V → St → Hp → (St → Hp → Prop) → Prop
def PG (X : Cx) (target : Expr) (t : TG) : Prop :=
  ∀ (pins : List (Addr × Obj)) (s : Shared) (σ : St) (H : Hp) (v : V) (u : Value) (Q : St → Hp → Prop), Inv X pins σ H s → RelV v u → t v σ H Q →
    wpAny (model X.prog X.w) X.A (assign target X.env u) (fun _ s' => ∃ σ' H', Inv X pins σ' H' s' ∧ Q σ' H') X.xe s
/-- several targets, one after another -/
def PGs (X : Cx) (ts : List Expr) (t : TGs) : Prop :=
  ∀ (pins : List (Addr × Obj)) (s : Shared) (σ : St) (H : Hp) (vs : List V) (us : List Value) (Q : St → Hp → Prop), Inv X pins σ H s → Vals vs us → t vs σ H Q →
    wpAny (model X.prog X.w) X.A (assignInOrder ((assignEach ts X.env).map (·.2)) us) (fun _ s' => ∃ σ' H', Inv X pins σ' H' s' ∧ Q σ' H') X.xe s
/-- o[i] = v, by values -/
abbrev TSet := V → V → V → Hp → (Hp → Prop) → Prop
def PSet (X : Cx) (t : TSet) : Prop :=
  ∀ (pins : List (Addr × Obj)) (s : Shared) (σ : St) (H : Hp) (o i v : V) (ov iv u : Value) (Q : Hp → Prop), Inv X pins σ H s → RelV o ov → RelV i iv → RelV v u → t o i v H Q →
    wpAny (model X.prog X.w) X.A (setItem ov iv u) (fun _ s' => ∃ H', Inv X pins σ H' s' ∧ Q H') X.xe s
/-- a op= b, by values -/
abbrev TIp := V → V → Hp → VK → Prop
def PIp (X : Cx) (op : Operator) (t : TIp) : Prop :=
  ∀ (pins : List (Addr × Obj)) (s : Shared) (σ : St) (H : Hp) (x y : V) (v u : Value) (Q : VK), Inv X pins σ H s → RelV x v → RelV y u → t x y H Q →
    wpAny (model X.prog X.w) X.A (inplaceOp op v u) (EP X pins σ Q) X.xe s
section
variable {X : Cx} {pos : Pos}
def gName (i : Nat) : TG := fun v σ H Q => Q (σ.set i (some v)) H
theorem pg_name {i : Nat} {x : Str} (hN : X.N.Nodup) (hi : X.N[i]? = some x) (hx : Loc X.env.scope x) (hf : X.fn x = true ∨ X.env.scope.names.lookup x = some .local := by first | exact .inl rfl | exact .inr rfl | assumption) : PG X (.Name x pos) (gName i) := by
  intro pins s σ H v u Q I r h
  exact wpAny_assign_Name (store_ok I hN hi hx r (fun s' I' => ⟨_, H, I', h⟩) hf)
def gNil : TGs := fun vs σ H Q => vs = [] ∧ Q σ H
def gCons (t : TG) (u : TGs) : TGs := fun vs σ H Q => ∃ v r, vs = v :: r ∧ t v σ H fun σ' H' => u r σ' H' Q
theorem pgs_nil : PGs X [] gNil := by
  intro pins s σ H vs us Q I r h
  obtain ⟨e, h⟩ := h
  subst e
  cases r
  exact assignInOrder_nil ⟨σ, H, I, h⟩
theorem pgs_cons {e : Expr} {es : List Expr} {t : TG} {u : TGs} (h1 : PG X e t) (h2 : PGs X es u)
    (hs : (assignEach (e :: es) X.env).map (·.2) = assign e X.env :: (assignEach es X.env).map (·.2) := by rfl) : PGs X (e :: es) (gCons t u) := by
  intro pins s σ H vs us Q I r h
  obtain ⟨v, vr, e1, h⟩ := h
  subst e1
  cases r with
  | cons r rr =>
    rw [hs]
    refine assignInOrder_cons (thn (h1 pins s σ H _ _ _ I r h) fun _ s1 ⟨σ1, H1, I1, q1⟩ => ?_)
    exact h2 pins s1 σ1 H1 _ _ Q I1 rr q1
/-- (a, b, ..) = a tuple of that length -/
def gTup (K : PySem.W.Frag) (n : Nat) (t : TGs) : TG := fun v σ H Q => ∃ a xs, v = .ref a ∧ SqT K H a xs ∧ xs.length = n ∧ t xs σ H Q
theorem pg_tup {es : List Expr} {k : Nat} {t : TGs} {n : Nat} (hc : X.calm = true) (h : PGs X es t)
    (hn : (assignEach es X.env).length = n := by rfl) (hst : (assignEach es X.env).findIdx? (·.1) = none := by rfl) : PG X (.Tuple es k pos) (gTup X.K n t) := by
  intro pins s σ H v u Q I r hw
  obtain ⟨a, xs, e1, hq, hl, hw⟩ := hw
  subst e1
  cases r
  obtain ⟨its, rv, ht, hz⟩ := I.tuple hq
  refine assign_Tuple_tuple (I.ok.hd hc) ht (by simp [hn, ← hl, rv.length]) hst fun h' hx => ?_
  have I1 : Inv X pins σ H { s with heap := h' } := I.kept (t' := s.toks) fun b o e => hx b o (Nat.ne_of_lt (Heap.lt_size e)) e
  exact h pins _ σ H xs _ Q I1 (by simpa using rv) hw
/-- o[i] = .. -/
def gSub (to ti : TE) (t : TSet) : TG := fun v σ H Q => to σ H fun o H1 => ti σ H1 fun i H2 => t o i v H2 fun H3 => Q σ H3
theorem pg_sub {o i : Expr} {to ti : TE} {t : TSet} (ho : PE X o to) (hi : PE X i ti) (hs : PSet X t)
    (ha : ∀ v, assign (.Subscript o i pos) X.env v = (do
      let ov ← holding [v] (eval o X.env)
      let iv ← holding [v, ov] (eval i X.env)
      standAt pos
      holding [v, ov, iv] (setItem ov iv v)
      release [v, ov, iv] []) := by intro _; rfl) : PG X (.Subscript o i pos) (gSub to ti t) := by
  intro pins s σ H v u Q I r h
  rw [ha]
  refine wpAny_bind (wpAny_holding (thn (ho pins s σ H _ I h) fun ov s1 ⟨x, H1, I1, r1, q1⟩ => ?_))
  refine wpAny_bind (wpAny_holding (thn (hi pins s1 σ H1 _ I1 q1) fun iv s2 ⟨y, H2, I2, r2, q2⟩ => ?_))
  refine wpAny_bind (wpAny_standAt (wpAny_bind (wpAny_holding (thn (hs pins s2 σ H2 x y v ov iv u _ I2 r1 r2 r q2) fun _ s3 ⟨H3, I3, q3⟩ => ?_))))
  exact wpAny_release ⟨σ, H3, I3, q3⟩
/-- target = value -/
def tAsg (te : TE) (g : TG) : TS := fun D σ H => te σ H fun x H1 => g x σ H1 D.nx
theorem ps_asg {tg e : Expr} {te : TE} {g : TG} (he : PE X e te) (hg : PG X tg g) (hs : swapsWithSole [tg] e pos.line X.env = pure false := by rfl) (hw : swappedStores [tg] e X.env = pure none := by rfl)
    (h1 : (assignEach [tg] X.env).map (·.2) = [assign tg X.env] := by rfl) : PS X (.Assign [tg] e pos) (tAsg te g) := by
  intro pins s σ H D I h
  refine wpAny_Assign_stores (thn (he pins s σ H _ I h) fun v s1 ⟨x, H1, I1, r1, q1⟩ => ?_) hs hw
  rw [h1]
  exact thn (hg pins s1 σ H1 x v _ I1 r1 q1) fun _ s2 q => q
/-- name = value -/
theorem ps_set {i : Nat} {x : Str} {e : Expr} {te : TE} {pos' : Pos} (hN : X.N.Nodup) (hi : X.N[i]? = some x) (hx : Loc X.env.scope x) (he : PE X e te) (hs : swapsWith e (some (.Name x pos')) pos.line X.env = pure false := by rfl) (hf : X.fn x = true ∨ X.env.scope.names.lookup x = some .local := by first | exact .inl rfl | exact .inr rfl | assumption) :
    PS X (.Assign [.Name x pos'] e pos) (tAsg te (gName i)) := by
  intro pins s σ H D I h
  refine wpAny_Assign_Name (thn (he pins s σ H _ I h) fun v s1 ⟨y, H1, I1, r1, q1⟩ => ?_) hs
  exact store_ok I1 hN hi hx r1 (fun s2 I2 => ⟨_, H1, I2, q1⟩) hf
/-- a, b = x, y with plain local names: stored from the right; the pair itself is not tracked (the opening rows as in PyProof/Rows/TupAssign.lean:23) -/
def tPar (i j : Nat) (ta : TA) : TS := fun D σ H => ta σ H fun vs H1 => ∃ v w, vs = [v, w] ∧ D.nx ((σ.set i (some v)).set j (some w)) H1
theorem ps_par {i j : Nat} {x y : Str} {a b : Expr} {ta : TA} {px py pt : Pos} {kt k2 pt2} (hc : X.calm = true) (hN : X.N.Nodup) (hi : X.N[i]? = some x) (hj : X.N[j]? = some y) (hij : i ≠ j)
    (hx : X.env.scope.names.lookup x = some .local) (hy : X.env.scope.names.lookup y = some .local) (ha : PA X [a, b] ta)
    (hw : swappedStores [.Tuple [.Name x px, .Name y py] kt pt] (.Tuple [a, b] k2 pt2) X.env = pure (some [x, y]))
    (hs : swapsWithSole [.Tuple [.Name x px, .Name y py] kt pt] (.Tuple [a, b] k2 pt2) pos.line X.env = pure false := by rfl) :
    PS X (.Assign [.Tuple [.Name x px, .Name y py] kt pt] (.Tuple [a, b] k2 pt2) pos) (tPar i j ta) := by
  intro pins s σ H D I h
  rw [exec_Assign_arm]
  refine wpAny_bind (wpAny_standAt ?_)
  rw [hs]
  refine wpAny_bind (wpAny_pure ?_)
  rw [if_neg (by decide)]
  refine wpAny_bind (Tuple_ (thn (ha _ pins s σ H _ I h) fun us s1 ⟨vs, H1, I1, r1, q1⟩ => ?_))
  obtain ⟨v, w, e1, q1⟩ := q1
  subst e1
  obtain ⟨u1, u2, rfl, rv, rw'⟩ : ∃ u1 u2, us = [u1, u2] ∧ RelV v u1 ∧ RelV w u2 := by
    cases r1 with
    | cons p q =>
      cases q with
      | cons p' q' =>
        cases q'
        exact ⟨_, _, rfl, p, p'⟩
  refine wpAny_newObj_type ?_ (by show 2 ≤ sizeLine; decide)
  have I2 : Inv X pins σ H1 { s1 with heap := s1.heap.push { cls := .type "tuple", data := .seq [u1, u2].toArray } } := I1.kept (t' := s1.toks) fun b o e => Heap.get?_push_of_some _ e
  rw [hw]
  refine wpAny_bind (wpAny_pure ?_)
  show wpAny (model X.prog X.w) X.A (do rule "assign.swapped-stores"; let items ← unpackItems (.ref s1.heap.objs.size) 2 none; assignInOrder [fun v => bindName X.env y v, fun v => bindName X.env x v] items.reverse; pure Flow.next) _ _ _
  refine wpAny_bind (wpAny_rule (wpAny_bind (unpackItems_tuple (items := #[u1, u2]) (I.ok.hd hc) (IsTup.new s1.heap _) fun h' hx' => ?_)))
  have I3 := I2.kept (h' := h') (t' := s1.toks) fun b o e => hx' b o (Nat.ne_of_lt (Heap.lt_size e)) e
  show wpAny _ _ (assignInOrder [fun v => bindName X.env y v, fun v => bindName X.env x v] [u2, u1] >>= fun _ => pure Flow.next) _ _ _
  refine wpAny_bind (assignInOrder_cons (wpAny_bindName (store_ok I3 hN hj (.inl hy) rw' (fun s2 I4 => ?_) (.inr hy))))
  refine assignInOrder_cons (wpAny_bindName (store_ok I4 hN hi (.inl hx) rv (fun s3 I5 => assignInOrder_nil (wpAny_pure ?_)) (.inr hx)))
  rw [List.set_comm _ _ (Ne.symm hij)] at I5
  exact ⟨_, H1, I5, q1⟩
/-- name op= e -/
def tAug (i : Nat) (te : TE) (ti : TIp) : TS := fun D σ H => ∃ x, σ[i]? = some (some x) ∧ te σ H fun y H1 => ti x y H1 fun z H2 => D.nx (σ.set i (some z)) H2
theorem ps_aug {i : Nat} {x : Str} {e : Expr} {te : TE} {op : Operator} {ti : TIp} {pos' : Pos} (hN : X.N.Nodup) (hi : X.N[i]? = some x) (hx : Loc X.env.scope x) (he : PE X e te) (ho : PIp X op ti) (hf : X.fn x = true ∨ X.env.scope.names.lookup x = some .local := by first | exact .inl rfl | exact .inr rfl | assumption) :
    PS X (.AugAssign (.Name x pos') op e pos) (tAug i te ti) := by
  intro pins s σ H D I h
  obtain ⟨v, e1, h⟩ := h
  obtain ⟨m, hn, hl⟩ := I.loc
  have vis : Vis X.env.scope x := by rcases hx with k | k; exact .inl k; exact .inr (.inl k)
  obtain ⟨u, r, l⟩ := hl i x v hi e1 vis
  refine wpAny_AugAssign_Name ?_
  have go : wpAny (model X.prog X.w) X.A (eval e X.env) (fun w s₂ => wpAny (model X.prog X.w) X.A (inplaceOp op u w) (fun r s₃ => wpAny (model X.prog X.w) X.A (storeName X.env x r) (fun _ => SP X pins D .next) X.xe s₃) X.xe s₂) X.xe s := by
    refine thn (he pins s σ H _ I h) fun w s1 ⟨y, H1, I1, r1, q1⟩ => ?_
    refine thn (ho pins s1 σ H1 v y u w _ I1 r r1 q1) fun z s2 ⟨zv, H2, I2, r2, q2⟩ => ?_
    exact store_ok I2 hN hi hx r2 (fun s3 I3 => ⟨_, H2, I3, q2⟩) hf
  rcases l with ⟨hk, hm⟩ | ⟨hk, c, hc, hcell⟩
  · exact wpAny_loadName_local I.ok.kind hk hn hm go
  · rcases hk with hk | hk
    · exact wpAny_loadName_cell I.ok.kind hk hc hcell go
    · rcases hx with k | k
      · have : X.env.scope.names.lookup x = some .free := hk
        rw [k] at this; cases this
      · have : X.env.scope.names.lookup x = some .free := hk
        rw [k] at this; cases this
/-- o[i] op= e -/
def tAugS (to ti te : TE) (tget : V → V → Hp → VK → Prop) (tip : TIp) (tset : TSet) : TS := fun D σ H => to σ H fun o H1 => ti σ H1 fun i H2 => tget o i H2 fun x H3 => te σ H3 fun y H4 => tip x y H4 fun z H5 => tset o i z H5 fun H6 => D.nx σ H6
/-- o[i], by values -/
def PGet (X : Cx) (t : V → V → Hp → VK → Prop) : Prop :=
  ∀ (pins : List (Addr × Obj)) (s : Shared) (σ : St) (H : Hp) (o i : V) (ov iv : Value) (Q : VK), Inv X pins σ H s → RelV o ov → RelV i iv → t o i H Q →
    wpAny (model X.prog X.w) X.A (getItem ov iv) (EP X pins σ Q) X.xe s
theorem ps_augS {o i e : Expr} {to ti te : TE} {tget : V → V → Hp → VK → Prop} {tip : TIp} {tset : TSet} {op : Operator} {tpos : Pos} (ho : PE X o to) (hi : PE X i ti) (hg : PGet X tget) (he : PE X e te) (hp : PIp X op tip) (hs : PSet X tset)
    (ha : ∀ ov iv new, augStore i ov iv new = (do holding [new, ov, iv] (setItem ov iv new); release [new, ov, iv] []; pure .next) := by intros; rfl) : PS X (.AugAssign (.Subscript o i tpos) op e pos) (tAugS to ti te tget tip tset) := by
  intro pins s σ H D I h
  refine wpAny_AugAssign_SubscriptAny (thn (ho pins s σ H _ I h) fun ov s1 ⟨x1, H1, I1, r1, q1⟩ => ?_) ha
  refine thn (hi pins s1 σ H1 _ I1 q1) fun iv s2 ⟨x2, H2, I2, r2, q2⟩ => ?_
  refine thn (hg pins s2 σ H2 x1 x2 ov iv _ I2 r1 r2 q2) fun old s3 ⟨x3, H3, I3, r3, q3⟩ => ?_
  refine thn (he pins s3 σ H3 _ I3 q3) fun v s4 ⟨x4, H4, I4, r4, q4⟩ => ?_
  refine thn (hp pins s4 σ H4 x3 x4 old v _ I4 r3 r4 q4) fun new s5 ⟨x5, H5, I5, r5, q5⟩ => ?_
  exact thn (hs pins s5 σ H5 x1 x2 x5 ov iv new _ I5 r1 r2 r5 q5) fun _ s6 ⟨H6, I6, q6⟩ => ⟨σ, H6, I6, q6⟩
/-- ints -/
def ipI (f : Int → Int → Int) : TIp := fun x y H Q => ∃ i j, x = .int i ∧ y = .int j ∧ Q (.int (f i j)) H
theorem ip_add : PIp X .Add (ipI fun i j => i + j) := by
  intro pins s σ H x y v u Q I r1 r2 h
  obtain ⟨i, j, e1, e2, q⟩ := h
  subst e1; subst e2
  obtain ⟨t, rfl⟩ := r1
  obtain ⟨t', rfl⟩ := r2
  exact iadd_int ⟨.int _, H, I.tok _, ⟨_, rfl⟩, q⟩
theorem ip_sub : PIp X .Sub (ipI fun i j => i - j) := by
  intro pins s σ H x y v u Q I r1 r2 h
  obtain ⟨i, j, e1, e2, q⟩ := h
  subst e1; subst e2
  obtain ⟨t, rfl⟩ := r1
  obtain ⟨t', rfl⟩ := r2
  exact isub_int ⟨.int _, H, I.tok _, ⟨_, rfl⟩, q⟩
end

/-! ### while -/
section
variable {X : Cx} {pos : Pos}
/-- the invariant W with its measure -/
def tWhile (c : TT) (tb : TS) : TS := fun D σ H => ∃ W : Nat → St → Hp → Prop, (∃ m, W m σ H) ∧ ∀ m σ H, W m σ H →
  c σ H fun b H1 => if b = true then ∃ N : St → Hp → Prop, (∀ σ' H', N σ' H' → ∃ m', m' < m ∧ W m' σ' H') ∧ tb { D with nx := N, ct := N, bk := D.nx } σ H1 else D.nx σ H1
theorem ps_while {c : Expr} {body : List Stmt} {tc : TT} {tb : TS} (hp : PassesOwn (model X.prog X.w) X.A X.env X.xe) (hc : PT X c tc) (hb : PSs X body tb) : PS X (.While c body [] pos) (tWhile tc tb) := by
  intro pins s σ H D I h
  obtain ⟨W, ⟨m0, w0⟩, turn⟩ := h
  refine wpAny_While (codeAny_whileLoop (fun n s' => ∃ σ' H', Inv X pins σ' H' s' ∧ W n σ' H') ?_ m0 ⟨σ, H, I, w0⟩)
  rintro n s1 ⟨σ1, H1, I1, w1⟩
  refine wpAny_passesOwn hp (thn (hc pins s1 σ1 H1 _ I1 (turn n σ1 H1 w1)) fun b s2 ⟨H2, I2, q2⟩ => ?_)
  cases b with
  | true =>
    obtain ⟨N, hN, q2⟩ := q2
    rw [if_pos rfl]
    refine wpAny_passesOwn hp (thn (hb pins s2 σ1 H2 _ I2 q2) fun f s3 q3 => ?_)
    cases f with
    | next =>
      obtain ⟨σ3, H3, I3, n3⟩ := q3
      obtain ⟨m', hm, w3⟩ := hN σ3 H3 n3
      exact ⟨m', hm, σ3, H3, I3, w3⟩
    | cont =>
      obtain ⟨σ3, H3, I3, n3⟩ := q3
      obtain ⟨m', hm, w3⟩ := hN σ3 H3 n3
      exact ⟨m', hm, σ3, H3, I3, w3⟩
    | brk => exact q3
    | ret v => exact q3
  | false =>
    rw [if_neg Bool.false_ne_true]
    exact wpAny_execs_nil ⟨σ1, H2, I2, q2⟩
end

/-! ### what a loop or a comprehension walks -/
/-- at turn i: it yields x (the heap may grow), or it stops -/
structure It where
  go : Nat → Hp → Prop
  yld : Nat → Hp → V → Hp → Prop
  stop : Nat → Hp → Prop
/-- the iterator's own objects may turn: they are not the frame's, not pinned, younger than the entry (or a comprehension's own) -/
def FpOk (X : Cx) (pins : List (Addr × Obj)) (H : Hp) (b : Addr) : Prop :=
  H b = none ∧ b ≠ X.env.locals ∧ b ∉ X.fs ∧ (b ∈ X.ex ∨ X.s₀.heap.objs.size ≤ b) ∧ (∀ x c, X.env.cells.lookup x = some c → c ≠ b) ∧ ∀ p ∈ X.pn ++ pins, p.1 ≠ b
theorem Inv.fpOk {X : Cx} {pins : List (Addr × Obj)} {σ : St} {H H' : Hp} {s : Shared} {b : Addr} (I : Inv X pins σ H s) (hb : s.heap.objs.size ≤ b) (hn : H' b = none) : FpOk X pins H' b := by
  refine ⟨hn, Nat.ne_of_gt (Nat.lt_of_lt_of_le I.lt hb), I.nofs hb, .inr (Nat.le_trans I.sz hb), fun x c e z => ?_, fun p hp z => ?_⟩
  · obtain ⟨v, q⟩ := I.cell x c e
    exact absurd (Nat.lt_of_lt_of_le q.lt (by rw [z]; exact hb)) (Nat.lt_irrefl _)
  · exact absurd (Nat.lt_of_lt_of_le (Heap.lt_size (I.pin p hp).1) (by rw [z]; exact hb)) (Nat.lt_irrefl _)
structure Turn (P : Program) (w : World) (K : PySem.W.Frag) (tg : Expr) (J : It) (fp : List Addr) (it : Addr) (tn : Nat → Heap → Prop) : Prop where
  mem : it ∈ fp
  obj : ∀ i h, tn i h → ∀ b ∈ fp, ∃ o, h.get? b = some o ∧ ∀ v, o.data ≠ .cell v
  keep : ∀ i h h', tn i h → (∀ b ∈ fp, ∀ o, h.get? b = some o → h'.get? b = some o) → tn i h'
  item : ∀ (X : Cx), X.prog = P → X.w = w → X.K = K → X.calm = true → ∀ (i : Nat) (pins : List (Addr × Obj)) (s : Shared) (σ : St) (H : Hp) (E : Value → Shared → Prop), Inv X pins σ H s → (∀ b ∈ fp, FpOk X pins H b) → tn i s.heap → J.go i H →
    wpAny (model P w) X.A (pyNext (.ref it)) (fun r s1 => ∃ u, r = some u ∧
      wpAny (model P w) X.A (letOwnedTupleGo tg (.ref it) u) (fun _ s2 => ∃ x H', Inv X pins σ H' s2 ∧ RelV x u ∧ J.yld i H x H' ∧ tn (i + 1) s2.heap ∧ ∀ b ∈ fp, H' b = none) E s1) E s
  done : ∀ (X : Cx), X.prog = P → X.w = w → X.K = K → X.calm = true → ∀ (i : Nat) (pins : List (Addr × Obj)) (s : Shared) (σ : St) (H : Hp) (E : Value → Shared → Prop), Inv X pins σ H s → (∀ b ∈ fp, FpOk X pins H b) → tn i s.heap → J.stop i H →
    wpAny (model P w) X.A (pyNext (.ref it)) (fun r s1 => r = none ∧ Inv X pins σ H s1) E s
  self : ∀ (A : Around) (i : Nat) (s : Shared) (Q : Value → Shared → Prop) (E : Value → Shared → Prop), tn i s.heap → Q (.ref it) s → wpAny (model P w) A (pyIter (.ref it)) Q E s
abbrev TI := St → Hp → (It → Hp → Prop) → Prop
/-- an iterator has come -/
def PIE (X : Cx) (pins : List (Addr × Obj)) (σ : St) (tg : Expr) (R : It → Hp → Prop) (itv : Value) (s2 : Shared) : Prop :=
  ∃ (it : Addr) (fp : List Addr) (tn : Nat → Heap → Prop) (J : It) (H' : Hp), itv = .ref it ∧ Inv X pins σ H' s2 ∧ Turn X.prog X.w X.K tg J fp it tn ∧ tn 0 s2.heap ∧ (∀ b ∈ fp, FpOk X pins H' b) ∧ R J H'
def PI (X : Cx) (tg iter : Expr) (wi : TI) : Prop :=
  ∀ (pins : List (Addr × Obj)) (s : Shared) (σ : St) (H : Hp) (R : It → Hp → Prop), Inv X pins σ H s → wi σ H R →
    wpAny (model X.prog X.w) X.A (eval iter X.env) (fun v s1 => wpAny (model X.prog X.w) X.A (pyIter v) (PIE X pins σ tg R) X.xe s1) X.xe s

/-- the step ahead of the store is nothing for an iterator that keeps no tuple -/
theorem go_of {M : Model} {A : Around} {E : Value → Shared → Prop} {s : Shared} {tg : Expr} {it : Addr} {u : Value} {o : Obj} {n : String} {vs : Array Value} {Q : Unit → Shared → Prop} (ho : s.heap.get? it = some o) (hc : o.cls = .type n) (hd : o.data = .fields vs)
    (hn : ["enumerate", "zip", "dict_itemiterator", "dict_reverseitemiterator", "odict_iterator", "itertools.zip_longest", "itertools.pairwise"].contains n = false) (hQ : Q () s) : wpAny M A (letOwnedTupleGo tg (.ref it) u) Q E s := by
  unfold letOwnedTupleGo
  cases tg <;> first
    | exact wpAny_pure hQ
    | (cases u <;> first
        | exact wpAny_pure hQ
        | (refine wpAny_bind (wpAny_load ho ?_)
           rw [hc, hd]
           show wpAny M A (if (["enumerate", "zip", "dict_itemiterator", "dict_reverseitemiterator", "odict_iterator", "itertools.zip_longest", "itertools.pairwise"].contains n && vs[0]? == some (rawInt _)) = true then _ else _) Q E s
           rw [if_neg (by intro h; rw [hn, Bool.false_and] at h; cases h)]
           exact wpAny_pure hQ))

/-- the list at a, as it stands at each turn (a loop may append to it) -/
def Itl (K : PySem.W.Frag) (a : Addr) : It :=
  ⟨fun i H => ∃ xs x, SqL K H a xs ∧ xs[i]? = some x, fun i H x H' => H' = H ∧ ∀ xs, SqL K H a xs → xs[i]? = some x, fun i H => ∃ xs, SqL K H a xs ∧ xs.length ≤ i⟩
def Itt (K : PySem.W.Frag) (a : Addr) : It :=
  ⟨fun i H => ∃ xs x, SqT K H a xs ∧ xs[i]? = some x, fun i H x H' => H' = H ∧ ∀ xs, SqT K H a xs → xs[i]? = some x, fun i H => ∃ xs, SqT K H a xs ∧ xs.length ≤ i⟩
/-- lo, lo + 1, .. (n of them) -/
def Itr (lo : Int) (n : Nat) : It := ⟨fun i _ => i < n, fun i H x H' => H' = H ∧ x = .int (lo + i), fun i _ => n ≤ i⟩
theorem turn_list {P : Program} {w : World} {K : PySem.W.Frag} {tg : Expr} (a it : Addr) : Turn P w K tg (Itl K a) [it] it (fun i h => h.IsListIter it a i) where
  mem := by simp
  obj := fun i h st b hb => by
    have e : b = it := by simpa using hb
    subst e
    obtain ⟨o, e, c, d⟩ := st
    exact ⟨o, e, fun v z => by rw [d] at z; cases z⟩
  keep := fun i h h' st k => st.at fun o e => k it (by simp) o e
  item := by
    intro X hP hw hK hc i pins s σ H E I hf st hg
    subst hP hw hK
    obtain ⟨xs, x, hq, hx⟩ := hg
    obtain ⟨its, rv, p, hz⟩ := I.list hq
    obtain ⟨u, hu, ru⟩ := rv.get hx
    obtain ⟨f0, f1, f2, f3, f4, f5⟩ := hf it (by simp)
    refine wpAny_pyNext_list_item st p.isList (x := u) (by simpa using hu) fun h' st' sb => ?_
    have I1 : Inv X pins σ H { s with heap := h' } := I.turned (t' := s.toks) (fun b o hb e => (sb.2 b hb).trans e) f0 f1 f3 f4 f5
    obtain ⟨o, e, c, d⟩ := id st'
    exact ⟨u, rfl, go_of (s := { s with heap := h' }) e c d (by decide) ⟨x, H, I1, ru, ⟨rfl, fun ys hy => by rw [I.list_inj hy hq]; exact hx⟩, st', fun b hb => (hf b hb).1⟩⟩
  done := by
    intro X hP hw hK hc i pins s σ H E I hf st hg
    subst hP hw hK
    obtain ⟨xs, hq, hx⟩ := hg
    obtain ⟨its, rv, p, hz⟩ := I.list hq
    obtain ⟨f0, f1, f2, f3, f4, f5⟩ := hf it (by simp)
    have hl := rv.length
    exact wpAny_pyNext_list_end (I.ok.hd hc) st p.isList (by simp; omega) fun h' eb => ⟨rfl, I.turned (t' := s.toks) (fun b o hb e => eb b o hb e) f0 f1 f3 f4 f5⟩
  self := fun _ _ _ _ _ st h => wpAny_pyIter_listiter st h
theorem turn_tuple {P : Program} {w : World} {K : PySem.W.Frag} {tg : Expr} (a it : Addr) : Turn P w K tg (Itt K a) [it] it (fun i h => h.IsTupleIter it a i) where
  mem := by simp
  obj := fun i h st b hb => by
    have e : b = it := by simpa using hb
    subst e
    obtain ⟨o, e, c, d⟩ := st
    exact ⟨o, e, fun v z => by rw [d] at z; cases z⟩
  keep := fun i h h' st k => st.at fun o e => k it (by simp) o e
  item := by
    intro X hP hw hK hc i pins s σ H E I hf st hg
    subst hP hw hK
    obtain ⟨xs, x, hq, hx⟩ := hg
    obtain ⟨its, rv, p, hz⟩ := I.tuple hq
    obtain ⟨u, hu, ru⟩ := rv.get hx
    obtain ⟨f0, f1, f2, f3, f4, f5⟩ := hf it (by simp)
    refine wpAny_pyNext_tuple_item st (show s.heap.IsTuple a its.toArray from p) (x := u) (by simpa using hu) fun h' st' sb => ?_
    have I1 : Inv X pins σ H { s with heap := h' } := I.turned (t' := s.toks) (fun b o hb e => (sb.2 b hb).trans e) f0 f1 f3 f4 f5
    obtain ⟨o, e, c, d⟩ := id st'
    exact ⟨u, rfl, go_of (s := { s with heap := h' }) e c d (by decide) ⟨x, H, I1, ru, ⟨rfl, fun ys hy => by rw [I.tuple_inj hy hq]; exact hx⟩, st', fun b hb => (hf b hb).1⟩⟩
  done := by
    intro X hP hw hK hc i pins s σ H E I hf st hg
    subst hP hw hK
    obtain ⟨xs, hq, hx⟩ := hg
    obtain ⟨its, rv, p, hz⟩ := I.tuple hq
    obtain ⟨f0, f1, f2, f3, f4, f5⟩ := hf it (by simp)
    have hl := rv.length
    exact wpAny_pyNext_tuple_end (I.ok.hd hc) st (show s.heap.IsTuple a its.toArray from p) (by simp; omega) fun h' eb => ⟨rfl, I.turned (t' := s.toks) (fun b o hb e => eb b o hb e) f0 f1 f3 f4 f5⟩
  self := fun _ _ _ _ _ st h => wpAny_pyIter_tupleiter st h
theorem turn_range {P : Program} {w : World} {K : PySem.W.Frag} {tg : Expr} (it : Addr) (lo : Int) (n : Nat) : Turn P w K tg (Itr lo n) [it] it (fun i h => IsRangeIter h it (lo + (i : Nat) * 1) ((n : Int) - (i : Nat)) 1) where
  mem := by simp
  obj := fun i h st b hb => by
    have e : b = it := by simpa using hb
    subst e
    exact ⟨_, st, fun v z => by
      have z' : Data.fields _ = Data.cell v := z
      cases z'⟩
  keep := fun i h h' st k => k it (by simp) _ st
  item := by
    intro X hP hw hK hc i pins s σ H E I hf st hg
    subst hP hw hK
    obtain ⟨f0, f1, f2, f3, f4, f5⟩ := hf it (by simp)
    have W := Walks.range (prog := X.prog) (w := X.w) (I.ok.hd hc) it lo 1 n
    refine W.item i s _ _ hg st fun v h' tk hv st' kk => ?_
    obtain ⟨t, rfl⟩ := hv
    have I1 : Inv X pins σ H { s with heap := h', toks := tk } := I.turned (fun b o hb e => kk b o (by simpa using hb) e) f0 f1 f3 f4 f5
    refine ⟨_, rfl, go_of (s := { s with heap := h', toks := tk }) (n := "range_iterator") st' rfl rfl (by decide) ⟨.int (lo + i), H, I1, ⟨t, ?_⟩, ⟨rfl, rfl⟩, st', fun b hb => (hf b hb).1⟩⟩
    rw [Int.mul_one]
  done := by
    intro X hP hw hK hc i pins s σ H E I hf st hg
    subst hP hw hK
    obtain ⟨f0, f1, f2, f3, f4, f5⟩ := hf it (by simp)
    exact wpAny_pyNext_range_end (I.ok.hd hc) st (by have : n ≤ i := hg; omega) fun h' eb => ⟨rfl, I.turned (t' := s.toks) (fun b o hb e => eb b o hb e) f0 f1 f3 f4 f5⟩
  self := fun _ _ _ _ _ st h => wpAny_pyIter_rangeiter st h
end L2

namespace L2
open PySem PySem.Spec PyProof.Rows
section
variable {X : Cx} {tg : Expr}
def iList (K : PySem.W.Frag) (tl : TE) : TI := fun σ H R => tl σ H fun x H1 => ∃ a, x = .ref a ∧ (∃ xs, SqL K H1 a xs) ∧ R (Itl K a) H1
def iTup (K : PySem.W.Frag) (tl : TE) : TI := fun σ H R => tl σ H fun x H1 => ∃ a, x = .ref a ∧ (∃ xs, SqT K H1 a xs) ∧ R (Itt K a) H1
theorem pi_list {l : Expr} {tl : TE} (hl : PE X l tl) : PI X tg l (iList X.K tl) := by
  intro pins s σ H R I h
  refine thn (hl pins s σ H _ I h) fun v s1 ⟨x, H1, I1, r1, q1⟩ => ?_
  obtain ⟨a, e, ⟨xs, hq⟩, q⟩ := q1
  subst e
  cases r1
  obtain ⟨its, rv, p, hz⟩ := I1.list hq
  refine wpAny_pyIter_list p.isList ?_
  refine ⟨s1.heap.objs.size, [s1.heap.objs.size], _, _, H1, rfl, I1.kept (t' := s1.toks) fun b o e => Heap.get?_push_of_some _ e, turn_list a _, ⟨_, Heap.get?_push_size _ rfl, rfl, rfl⟩, fun b hb => ?_, q⟩
  have e : b = s1.heap.objs.size := by simpa using hb
  subst e
  exact I1.fpOk (Nat.le_refl _) (I1.hok.fresh (Nat.le_refl _))
theorem pi_tup {l : Expr} {tl : TE} (hl : PE X l tl) : PI X tg l (iTup X.K tl) := by
  intro pins s σ H R I h
  refine thn (hl pins s σ H _ I h) fun v s1 ⟨x, H1, I1, r1, q1⟩ => ?_
  obtain ⟨a, e, ⟨xs, hq⟩, q⟩ := q1
  subst e
  cases r1
  obtain ⟨its, rv, p, hz⟩ := I1.tuple hq
  refine wpAny_pyIter_tuple (show s1.heap.IsTuple a its.toArray from p) ?_
  refine ⟨s1.heap.objs.size, [s1.heap.objs.size], _, _, H1, rfl, I1.kept (t' := s1.toks) fun b o e => Heap.get?_push_of_some _ e, turn_tuple a _, ⟨_, Heap.get?_push_size _ rfl, rfl, rfl⟩, fun b hb => ?_, q⟩
  have e : b = s1.heap.objs.size := by simpa using hb
  subst e
  exact I1.fpOk (Nat.le_refl _) (I1.hok.fresh (Nat.le_refl _))
/-- a range object just made, walked -/
theorem range_it {pins : List (Addr × Obj)} {σ : St} {H : Hp} {s : Shared} {R : It → Hp → Prop} {E : Value → Shared → Prop} {lo hi : Int} {t u v : Tok} {tk : Nat} (I : Inv X pins σ H s) (h1 : -(2 ^ 62) ≤ lo) (h2 : lo < 2 ^ 62) (h3 : -(2 ^ 62) ≤ hi) (h4 : hi < 2 ^ 62)
    (q : R (Itr lo (hi - lo).toNat) H) : wpAny (model X.prog X.w) X.A (pyIter (.ref s.heap.objs.size)) (PIE X pins σ tg R) E { s with heap := s.heap.push { cls := .type "range", data := .fields #[.int lo t, .int hi u, .int 1 v] }, toks := tk } := by
  refine wpAny_pyIter_range (IsRange.new ..) (small_one h1 h2 h3 h4) ?_
  have I1 : Inv X pins σ H { s with heap := s.heap.push { cls := .type "range", data := .fields #[.int lo t, .int hi u, .int 1 v] }, toks := tk } := I.kept fun b o e => Heap.get?_push_of_some _ e
  refine ⟨(s.heap.push { cls := .type "range", data := .fields #[.int lo t, .int hi u, .int 1 v] }).objs.size, [(s.heap.push { cls := .type "range", data := .fields #[.int lo t, .int hi u, .int 1 v] }).objs.size], _, _, H, rfl,
    I1.kept (t' := tk) fun b o e => Heap.get?_push_of_some _ e, turn_range _ lo (hi - lo).toNat, ?_, fun b hb => ?_, q⟩
  · have e1 : lo + ((0 : Nat) : Int) * 1 = lo := by simp
    have e2 : (((hi - lo).toNat : Nat) : Int) - ((0 : Nat) : Int) = Builtin.Range.rangeSize lo hi 1 := by rw [rangeSize_one]; split <;> omega
    show IsRangeIter _ _ (lo + ((0 : Nat) : Int) * 1) ((((hi - lo).toNat : Nat) : Int) - ((0 : Nat) : Int)) 1
    rw [e1, e2]
    exact Heap.get?_push_size _ rfl
  · have e : b = (s.heap.push { cls := .type "range", data := .fields #[.int lo t, .int hi u, .int 1 v] }).objs.size := by simpa using hb
    subst e
    exact I1.fpOk (Nat.le_refl _) (I1.hok.fresh (Nat.le_refl _))
def iRng1 (ta : TA) : TI := fun σ H R => ta σ H fun vs H1 => ∃ j : Int, vs = [.int j] ∧ -(2 ^ 62) ≤ j ∧ j < 2 ^ 62 ∧ R (Itr 0 j.toNat) H1
def iRng2 (ta : TA) : TI := fun σ H R => ta σ H fun vs H1 => ∃ i j : Int, vs = [.int i, .int j] ∧ (-(2 ^ 62) ≤ i ∧ i < 2 ^ 62 ∧ -(2 ^ 62) ≤ j ∧ j < 2 ^ 62) ∧ R (Itr i (j - i).toNat) H1
theorem pi_range1 {a : Expr} {ta : TA} {p pos : Pos} (hg : Gl X "range") (hm : X.mg "range" = none) (ha : PA X [a] ta) (hs : starEach [a] X.env = [(false, eval a X.env)] := by rfl) : PI X tg (.Call (.Name "range" p) [a] [] pos) (iRng1 ta) := by
  intro pins s σ H R I h
  refine Call_ (ld_blt I hg hm boot_range (PyProof.Rows.callWith_type1 (thn (ha pos pins s σ H _ I h) fun us s1 ⟨vs, H1, I1, r1, q1⟩ => ?_) hs rfl))
  obtain ⟨j, e, q1, q2, q⟩ := q1
  subst e
  cases r1 with
  | cons r rr =>
    cases rr
    obtain ⟨t, rfl⟩ := r
    exact call_range_1 (range_it I1 (by omega) (by omega) q1 q2 (by simpa using q))
theorem pi_range2 {a b : Expr} {ta : TA} {p pos : Pos} (hg : Gl X "range") (hm : X.mg "range" = none) (ha : PA X [a, b] ta) (hs : starEach [a, b] X.env = [(false, eval a X.env), (false, eval b X.env)] := by rfl) (hs2 : starEach [b] X.env = [(false, eval b X.env)] := by rfl) :
    PI X tg (.Call (.Name "range" p) [a, b] [] pos) (iRng2 ta) := by
  intro pins s σ H R I h
  refine Call_ (ld_blt I hg hm boot_range (PyProof.Rows.callWith_type1 (thn (ha pos pins s σ H _ I h) fun us s1 ⟨vs, H1, I1, r1, q1⟩ => ?_) (by rw [hs, hs2]) (by rw [hs2]; rfl)))
  obtain ⟨i, j, e, ⟨q1, q2, q3, q4⟩, q⟩ := q1
  subst e
  cases r1 with
  | cons r rr =>
    cases rr with
    | cons r' rr =>
      cases rr
      obtain ⟨t, rfl⟩ := r
      obtain ⟨t', rfl⟩ := r'
      exact call_range_2 (range_it I1 q1 q2 q3 q4 q)

/-! ### for -/
/-- W: the invariant by the turn and a measure; N: what the body is to reach -/
def tFor (wi : TI) (g : TG) (tb : TS) : TS := fun D σ H => wi σ H fun J H1 => ∃ W : Nat → Nat → St → Hp → Prop, (∃ m, W 0 m σ H1) ∧ ∀ i m σ H, W i m σ H →
  (J.stop i H ∧ D.nx σ H) ∨ (J.go i H ∧ ∃ N : St → Hp → Prop, (∀ σ' H', N σ' H' → ∃ m', m' < m ∧ W (i + 1) m' σ' H') ∧ ∀ x H', J.yld i H x H' → g x σ H' fun σ2 H2 => tb { D with nx := N, ct := N, bk := D.nx } σ2 H2)
/-- the records at fp as they stand -/
def pinsAt (fp : List Addr) (h : Heap) : List (Addr × Obj) := fp.filterMap fun b => (h.get? b).map fun o => (b, o)
theorem mem_pinsAt {fp : List Addr} {h : Heap} {b : Addr} {o : Obj} (hb : b ∈ fp) (e : h.get? b = some o) : (b, o) ∈ pinsAt fp h := List.mem_filterMap.mpr ⟨b, hb, by rw [e]; rfl⟩
theorem of_pinsAt {fp : List Addr} {h : Heap} {p : Addr × Obj} (hp : p ∈ pinsAt fp h) : p.1 ∈ fp ∧ h.get? p.1 = some p.2 := by
  obtain ⟨b, hb, e⟩ := List.mem_filterMap.mp hp
  cases q : h.get? b with
  | none => rw [q] at e; cases e
  | some o =>
    rw [q] at e
    have e' : (b, o) = p := Option.some.inj e
    subst e'
    exact ⟨hb, q⟩
theorem Inv.pinned {pins : List (Addr × Obj)} {σ : St} {H : Hp} {s : Shared} {fp : List Addr} (I : Inv X pins σ H s) (hf : ∀ b ∈ fp, FpOk X pins H b) (ho : ∀ b ∈ fp, ∃ o, s.heap.get? b = some o ∧ ∀ v, o.data ≠ .cell v) : Inv X (pins ++ pinsAt fp s.heap) σ H s :=
  I.pins_of fun p hp => (List.mem_append.mp hp).elim (fun z => I.pin p (List.mem_append_right _ z)) fun z => by
    obtain ⟨hb, e⟩ := of_pinsAt z
    obtain ⟨f0, f1, f2, _⟩ := hf p.1 hb
    obtain ⟨o, e', d⟩ := ho p.1 hb
    rw [e] at e'; cases e'
    exact ⟨e, f0, f1, f2, d⟩
theorem Inv.unpinned {pins pl : List (Addr × Obj)} {σ : St} {H : Hp} {s : Shared} (I : Inv X (pins ++ pl) σ H s) : Inv X pins σ H s := I.pins_of fun p hp => I.pin p (List.mem_append_right _ (List.mem_append_left _ hp))
theorem ps_for {iter : Expr} {body : List Stmt} {wi : TI} {g : TG} {tb : TS} {pos : Pos} (hp : PassesOwn (model X.prog X.w) X.A X.env X.xe) (hc : X.calm = true) (hi : PI X tg iter wi) (hg : PG X tg g) (hb : PSs X body tb)
    (hs : ∀ x, foldedSetIterable iter X.env x = pure x := by intro _; rfl) : PS X (.For tg iter body [] pos) (tFor wi g tb) := by
  intro pins s σ H D I h
  refine wpAny_For (thn (hi pins s σ H _ I h) fun v s1 h1 => thn h1 fun itv s2 h2 => ?_) hs
  obtain ⟨it, fp, tn, J, H2, e, I2, T, st2, f2, W, ⟨m0, w0⟩, turn⟩ := h2
  subst e
  -- what stays true of the iterator's objects through the loop
  have stat : ∀ {H' : Hp}, (∀ b ∈ fp, H' b = none) → ∀ b ∈ fp, FpOk X pins H' b := fun hn b hb => ⟨hn b hb, (f2 b hb).2⟩
  refine codeAny_forLoop_any (fun n s' => ∃ i σ' H', Inv X pins σ' H' s' ∧ tn i s'.heap ∧ (∀ b ∈ fp, H' b = none) ∧ W i n σ' H') ?_ m0 ⟨0, σ, H2, I2, st2, fun b hb => (f2 b hb).1, w0⟩
  rintro n s3 ⟨i, σ3, H3, I3, st3, fr3, w3⟩
  rcases turn i n σ3 H3 w3 with ⟨stop, qn⟩ | ⟨go, N, hN, step⟩
  · refine wpAny_passesOwn hp (thn (T.done X rfl rfl rfl hc i pins s3 σ3 H3 X.xe I3 (stat fr3) st3 stop) fun r s4 ⟨hr, I4⟩ => ?_)
    subst hr
    exact wpAny_execs_nil ⟨σ3, H3, I4, qn⟩
  · refine wpAny_passesOwn hp (thn (T.item X rfl rfl rfl hc i pins s3 σ3 H3 X.xe I3 (stat fr3) st3 go) fun r s4 ⟨u, hr, h4⟩ => ?_)
    subst hr
    refine wpAny_passesOwn hp (thn h4 fun _ s5 ⟨x, H5, I5, r5, y5, st5, fr5⟩ => ?_)
    have I5' := I5.pinned (stat fr5) (T.obj _ _ st5)
    refine wpAny_passesOwn hp (thn (hg _ s5 σ3 H5 x u _ I5' r5 (step x H5 y5)) fun _ s6 ⟨σ6, H6, I6, q6⟩ => ?_)
    refine wpAny_passesOwn hp (thn (hb _ s6 σ6 H6 _ I6 q6) fun f s7 q7 => ?_)
    have again : ∀ {σ7 : St} {H7 : Hp}, Inv X (pins ++ pinsAt fp s5.heap) σ7 H7 s7 → N σ7 H7 → ∃ m, m < n ∧ ∃ i σ' H', Inv X pins σ' H' s7 ∧ tn i s7.heap ∧ (∀ b ∈ fp, H' b = none) ∧ W i m σ' H' := fun {σ7 H7} I7 n7 => by
      obtain ⟨m', hm, w7⟩ := hN σ7 H7 n7
      refine ⟨m', hm, i + 1, σ7, H7, I7.unpinned, T.keep _ _ _ st5 fun b hb o e => (I7.pin (b, o) (List.mem_append_right _ (List.mem_append_right _ (mem_pinsAt hb e)))).1, fun b hb => ?_, w7⟩
      obtain ⟨o, e, d⟩ := T.obj _ _ st5 b hb
      exact (I7.pin (b, o) (List.mem_append_right _ (List.mem_append_right _ (mem_pinsAt hb e)))).2.1
    cases f with
    | next => obtain ⟨σ7, H7, I7, n7⟩ := q7; exact again I7 n7
    | cont => obtain ⟨σ7, H7, I7, n7⟩ := q7; exact again I7 n7
    | brk => obtain ⟨σ7, H7, I7, q7⟩ := q7; exact ⟨σ7, H7, I7.unpinned, q7⟩
    | ret v => obtain ⟨x7, σ7, H7, I7, r7, q7⟩ := q7; exact ⟨x7, σ7, H7, I7.unpinned, r7, q7⟩
end

/-! ### the forms one uses -/
/-- over a list that the body leaves as it is -/
theorem for_list {K : PySem.W.Frag} {a : Addr} {xs : List V} {g : TG} {tb : TS} {D : Ends} {σ : St} {H : Hp} (Pv : Nat → St → Hp → Prop) (h0 : Pv 0 σ H) (hl : ∀ i σ H, i ≤ xs.length → Pv i σ H → SqL K H a xs)
    (hs : ∀ i x σ H, xs[i]? = some x → Pv i σ H → g x σ H fun σ2 H2 => tb { D with nx := Pv (i + 1), ct := Pv (i + 1), bk := D.nx } σ2 H2) (hd : ∀ σ H, Pv xs.length σ H → D.nx σ H) :
    ∃ W : Nat → Nat → St → Hp → Prop, (∃ m, W 0 m σ H) ∧ ∀ i m σ H, W i m σ H →
      ((Itl K a).stop i H ∧ D.nx σ H) ∨ ((Itl K a).go i H ∧ ∃ N : St → Hp → Prop, (∀ σ' H', N σ' H' → ∃ m', m' < m ∧ W (i + 1) m' σ' H') ∧ ∀ x H', (Itl K a).yld i H x H' → g x σ H' fun σ2 H2 => tb { D with nx := N, ct := N, bk := D.nx } σ2 H2) := by
  refine ⟨fun i m σ H => m = xs.length - i ∧ i ≤ xs.length ∧ Pv i σ H, ⟨xs.length, by simp, Nat.zero_le _, h0⟩, ?_⟩
  rintro i m σ H ⟨rfl, hi, p⟩
  have q := hl i σ H hi p
  by_cases hlt : i < xs.length
  · refine .inr ⟨⟨xs, xs[i], q, by simp [hlt]⟩, Pv (i + 1), fun σ' H' p' => ⟨xs.length - (i + 1), by omega, rfl, hlt, p'⟩, fun x H' y => ?_⟩
    obtain ⟨e, y⟩ := y
    subst e
    exact hs i x σ _ (y xs q) p
  · have e : i = xs.length := by omega
    subst e
    exact .inl ⟨⟨xs, q, Nat.le_refl _⟩, hd σ H p⟩
theorem for_tup {K : PySem.W.Frag} {a : Addr} {xs : List V} {g : TG} {tb : TS} {D : Ends} {σ : St} {H : Hp} (Pv : Nat → St → Hp → Prop) (h0 : Pv 0 σ H) (hl : ∀ i σ H, i ≤ xs.length → Pv i σ H → SqT K H a xs)
    (hs : ∀ i x σ H, xs[i]? = some x → Pv i σ H → g x σ H fun σ2 H2 => tb { D with nx := Pv (i + 1), ct := Pv (i + 1), bk := D.nx } σ2 H2) (hd : ∀ σ H, Pv xs.length σ H → D.nx σ H) :
    ∃ W : Nat → Nat → St → Hp → Prop, (∃ m, W 0 m σ H) ∧ ∀ i m σ H, W i m σ H →
      ((Itt K a).stop i H ∧ D.nx σ H) ∨ ((Itt K a).go i H ∧ ∃ N : St → Hp → Prop, (∀ σ' H', N σ' H' → ∃ m', m' < m ∧ W (i + 1) m' σ' H') ∧ ∀ x H', (Itt K a).yld i H x H' → g x σ H' fun σ2 H2 => tb { D with nx := N, ct := N, bk := D.nx } σ2 H2) := by
  refine ⟨fun i m σ H => m = xs.length - i ∧ i ≤ xs.length ∧ Pv i σ H, ⟨xs.length, by simp, Nat.zero_le _, h0⟩, ?_⟩
  rintro i m σ H ⟨rfl, hi, p⟩
  have q := hl i σ H hi p
  by_cases hlt : i < xs.length
  · refine .inr ⟨⟨xs, xs[i], q, by simp [hlt]⟩, Pv (i + 1), fun σ' H' p' => ⟨xs.length - (i + 1), by omega, rfl, hlt, p'⟩, fun x H' y => ?_⟩
    obtain ⟨e, y⟩ := y
    subst e
    exact hs i x σ _ (y xs q) p
  · have e : i = xs.length := by omega
    subst e
    exact .inl ⟨⟨xs, q, Nat.le_refl _⟩, hd σ H p⟩
theorem for_range {lo : Int} {n : Nat} {g : TG} {tb : TS} {D : Ends} {σ : St} {H : Hp} (Pv : Nat → St → Hp → Prop) (h0 : Pv 0 σ H)
    (hs : ∀ i σ H, i < n → Pv i σ H → g (.int (lo + i)) σ H fun σ2 H2 => tb { D with nx := Pv (i + 1), ct := Pv (i + 1), bk := D.nx } σ2 H2) (hd : ∀ σ H, Pv n σ H → D.nx σ H) :
    ∃ W : Nat → Nat → St → Hp → Prop, (∃ m, W 0 m σ H) ∧ ∀ i m σ H, W i m σ H →
      ((Itr lo n).stop i H ∧ D.nx σ H) ∨ ((Itr lo n).go i H ∧ ∃ N : St → Hp → Prop, (∀ σ' H', N σ' H' → ∃ m', m' < m ∧ W (i + 1) m' σ' H') ∧ ∀ x H', (Itr lo n).yld i H x H' → g x σ H' fun σ2 H2 => tb { D with nx := N, ct := N, bk := D.nx } σ2 H2) := by
  refine ⟨fun i m σ H => m = n - i ∧ i ≤ n ∧ Pv i σ H, ⟨n, by simp, Nat.zero_le _, h0⟩, ?_⟩
  rintro i m σ H ⟨rfl, hi, p⟩
  by_cases hlt : i < n
  · refine .inr ⟨hlt, Pv (i + 1), fun σ' H' p' => ⟨n - (i + 1), by omega, rfl, hlt, p'⟩, fun x H' y => ?_⟩
    obtain ⟨e, y⟩ := y
    subst e y
    exact hs i σ _ hlt p
  · have e : i = n := by omega
    subst e
    exact .inl ⟨Nat.le_refl _, hd σ H p⟩
/-- while, by a word and a measure of the state -/
theorem while_by {c : TT} {tb : TS} {D : Ends} {σ : St} {H : Hp} (Pv : St → Hp → Prop) (μ : St → Hp → Nat) (h0 : Pv σ H)
    (hs : ∀ σ H, Pv σ H → c σ H fun b H1 => if b = true then tb { D with nx := fun σ' H' => Pv σ' H' ∧ μ σ' H' < μ σ H, ct := fun σ' H' => Pv σ' H' ∧ μ σ' H' < μ σ H, bk := D.nx } σ H1 else D.nx σ H1)
    (mono : ∀ σ H Q Q', (∀ b H1, Q b H1 → Q' b H1) → c σ H Q → c σ H Q') : tWhile c tb D σ H := by
  refine ⟨fun m σ H => m = μ σ H ∧ Pv σ H, ⟨_, rfl, h0⟩, ?_⟩
  rintro m σ H ⟨rfl, p⟩
  refine mono σ H _ _ (fun b H1 q => ?_) (hs σ H p)
  cases b with
  | true => exact ⟨_, fun σ' H' ⟨p', l⟩ => ⟨_, l, rfl, p'⟩, q⟩
  | false => exact q
end L2

namespace L2
open PySem PySem.Spec PyProof.Rows

abbrev R2 := V → V → Hp → VK → Prop
/-- a two-place operation on values: f is binaryOp op, inplaceOp op or compareOp op -/
def OpR (X : Cx) (f : Value → Value → Sem Value) (r : R2) : Prop :=
  ∀ (pins : List (Addr × Obj)) (s : Shared) (σ : St) (H : Hp) (x y : V) (v u : Value) (Q : VK), Inv X pins σ H s → RelV x v → RelV y u → r x y H Q →
    wpAny (model X.prog X.w) X.A (f v u) (EP X pins σ Q) X.xe s
/-- a one-place operation -/
def UnR (X : Cx) (f : Value → Sem Value) (r : V → Hp → VK → Prop) : Prop :=
  ∀ (pins : List (Addr × Obj)) (s : Shared) (σ : St) (H : Hp) (x : V) (v : Value) (Q : VK), Inv X pins σ H s → RelV x v → r x H Q →
    wpAny (model X.prog X.w) X.A (f v) (EP X pins σ Q) X.xe s
/-- a call of a value that is known (a builtin, a type) with values -/
def CallR (X : Cx) (f : Value) (r : List V → Hp → VK → Prop) : Prop :=
  ∀ (pins : List (Addr × Obj)) (s : Shared) (σ : St) (H : Hp) (xs : List V) (us : List Value) (Q : VK), Inv X pins σ H s → Vals xs us → r xs H Q →
    wpAny (model X.prog X.w) X.A (call f us) (EP X pins σ Q) X.xe s
/-- a value's truth -/
def TruR (X : Cx) (r : V → Hp → (Bool → Hp → Prop) → Prop) : Prop :=
  ∀ (pins : List (Addr × Obj)) (s : Shared) (σ : St) (H : Hp) (x : V) (v : Value) (Q : Bool → Hp → Prop), Inv X pins σ H s → RelV x v → r x H Q →
    wpAny (model X.prog X.w) X.A (truthy v) (TP X pins σ Q) X.xe s

def tOp (r : R2) (ta tb : TE) : TE := fun σ H Q => ta σ H fun x H1 => tb σ H1 fun y H2 => r x y H2 Q
def tUn (r : V → Hp → VK → Prop) (ta : TE) : TE := fun σ H Q => ta σ H fun x H1 => r x H1 Q
/-- ints in, under C, and a value out -/
def rI (C : Int → Int → Prop) (g : Int → Int → V) : R2 := fun x y H Q => ∃ i j, x = .int i ∧ y = .int j ∧ C i j ∧ Q (g i j) H
def rI0 (g : Int → Int → V) : R2 := fun x y H Q => ∃ i j, x = .int i ∧ y = .int j ∧ Q (g i j) H
def rU (g : Int → V) : V → Hp → VK → Prop := fun x H Q => ∃ i, x = .int i ∧ Q (g i) H

section
variable {X : Cx} {a b c : Expr} {ta tb tc : TE} {pos : Pos}

theorem binT (ha : PE X a ta) (hb : PE X b tb) {pins : List (Addr × Obj)} {s : Shared} {σ : St} {H : Hp} {R : V → V → Hp → Prop} (I : Inv X pins σ H s)
    (h : ta σ H fun x H1 => tb σ H1 fun y H2 => R x y H2) {Q : Value → Shared → Prop} {f : Value → Value → Sem Value}
    (hf : ∀ v u s2 x y H2, Inv X pins σ H2 s2 → RelV x v → RelV y u → R x y H2 → wpAny (model X.prog X.w) X.A (f v u) Q X.xe s2) :
    wpAny (model X.prog X.w) X.A (eval a X.env) (fun v s₁ => wpAny (model X.prog X.w) X.A (eval b X.env) (fun u s₂ => wpAny (model X.prog X.w) X.A (f v u) Q X.xe s₂) X.xe s₁) X.xe s := by
  refine thn (ha pins s σ H _ I h) fun v s1 ⟨x, H1, I1, r1, q1⟩ => ?_
  refine thn (hb pins s1 σ H1 _ I1 q1) fun u s2 ⟨y, H2, I2, r2, q2⟩ => ?_
  exact hf v u s2 x y H2 I2 r1 r2 q2

theorem pe_op {op : Operator} {r : R2} (ho : OpR X (binaryOp op) r) (ha : PE X a ta) (hb : PE X b tb) : PE X (.BinOp a op b pos) (tOp r ta tb) := by
  intro pins s σ H Q I h
  exact wpAny_BinOp (binT ha hb I h fun v u s2 x y H2 I2 rx ry q => ho pins s2 σ H2 x y v u Q I2 rx ry q)
theorem pe_un {op : UnaryOp} {r : V → Hp → VK → Prop} (ho : UnR X (unaryOp op) r) (ha : PE X a ta) : PE X (.UnaryOp op a pos) (tUn r ta) := by
  intro pins s σ H Q I h
  exact UnaryOp_ (thn (ha pins s σ H _ I h) fun v s1 ⟨x, H1, I1, r1, q1⟩ => ho pins s1 σ H1 x v Q I1 r1 q1)
/-- a op= e at a name: the name's slot i -/
theorem augR {op : Operator} {r : R2} (ho : OpR X (inplaceOp op) r) {pins : List (Addr × Obj)} {s : Shared} {σ : St} {H : Hp} {x y : V} {v u : Value} {Q : VK} (I : Inv X pins σ H s)
    (rx : RelV x v) (ry : RelV y u) (q : r x y H Q) : wpAny (model X.prog X.w) X.A (inplaceOp op v u) (EP X pins σ Q) X.xe s := ho pins s σ H x y v u Q I rx ry q

/-! ### ints -/
theorem opI {f : Value → Value → Sem Value} {C : Int → Int → Prop} {g : Int → Int → Int}
    (rule : ∀ (i j : Int) (t u : Tok) (s : Shared) (Q : Value → Shared → Prop) (E : Value → Shared → Prop), C i j → Q (.int (g i j) s.toks) { s with toks := s.toks + 1 } → wpAny (model X.prog X.w) X.A (f (.int i t) (.int j u)) Q E s) :
    OpR X f (rI C fun i j => .int (g i j)) := by
  intro pins s σ H x y v u Q I rx ry h
  obtain ⟨i, j, rfl, rfl, hc, q⟩ := h
  obtain ⟨t, rfl⟩ := rx
  obtain ⟨t', rfl⟩ := ry
  exact rule i j t t' s _ _ hc ⟨.int (g i j), H, I.tok _, ⟨_, rfl⟩, q⟩
theorem opI0 {f : Value → Value → Sem Value} {g : Int → Int → Int}
    (rule : ∀ (i j : Int) (t u : Tok) (s : Shared) (Q : Value → Shared → Prop) (E : Value → Shared → Prop), Q (.int (g i j) s.toks) { s with toks := s.toks + 1 } → wpAny (model X.prog X.w) X.A (f (.int i t) (.int j u)) Q E s) :
    OpR X f (rI0 fun i j => .int (g i j)) := by
  intro pins s σ H x y v u Q I rx ry h
  obtain ⟨i, j, rfl, rfl, q⟩ := h
  obtain ⟨t, rfl⟩ := rx
  obtain ⟨t', rfl⟩ := ry
  exact rule i j t t' s _ _ ⟨.int (g i j), H, I.tok _, ⟨_, rfl⟩, q⟩
theorem opB0 {f : Value → Value → Sem Value} {g : Int → Int → Bool}
    (rule : ∀ (i j : Int) (t u : Tok) (s : Shared) (Q : Value → Shared → Prop) (E : Value → Shared → Prop), Q (.bool (g i j)) s → wpAny (model X.prog X.w) X.A (f (.int i t) (.int j u)) Q E s) :
    OpR X f (rI0 fun i j => .bl (g i j)) := by
  intro pins s σ H x y v u Q I rx ry h
  obtain ⟨i, j, rfl, rfl, q⟩ := h
  obtain ⟨t, rfl⟩ := rx
  obtain ⟨t', rfl⟩ := ry
  exact rule i j t t' s _ _ ⟨.bl (g i j), H, I, rfl, q⟩

def CDiv (i j : Int) : Prop := 0 < j ∧ j < 1073741824
def CDivN (i j : Int) : Prop := j ≠ 0 ∧ j.natAbs < 1073741824
def CPow (i j : Int) : Prop := 0 ≤ j ∧ j ≤ 1000000 ∧ i.natAbs < 2 ^ 64
def CMul (i j : Int) : Prop := (-(2 ^ 64) < i ∧ i < 2 ^ 64) ∨ (-(2 ^ 64) < j ∧ j < 2 ^ 64)
theorem CMul.ok {i j : Int} (h : CMul i j) : IntMulOk i j := by
  rcases h with ⟨h1, h2⟩ | ⟨h1, h2⟩
  · exact .of_left (intBits_le_64 h1 h2)
  · exact .of_right (intBits_le_64 h1 h2)
theorem two_pow_nn (k : Nat) : (0 : Int) ≤ 2 ^ k := by
  rw [two_pow_cast]
  exact Int.natCast_nonneg _

theorem op_add : OpR X (binaryOp .Add) (rI0 fun i j => .int (i + j)) := opI0 fun _ _ _ _ _ _ _ q => add_int q
theorem op_sub : OpR X (binaryOp .Sub) (rI0 fun i j => .int (i - j)) := opI0 fun _ _ _ _ _ _ _ q => sub_int q
theorem op_mul : OpR X (binaryOp .Mult) (rI CMul fun i j => .int (i * j)) := opI fun _ _ _ _ _ _ _ hc q => mul_int q hc.ok
/-- // by a positive divisor -/
theorem op_fdiv : OpR X (binaryOp .FloorDiv) (rI CDiv fun i j => .int (i / j)) := opI fun i j _ _ _ _ _ hc q => by
  have h1 : (0 : Int) < j := hc.1
  have h2 : j < 1073741824 := hc.2
  exact floordiv_int (by omega) (by rw [Int.fdiv_eq_ediv_of_nonneg i (by omega)]; exact q) (.inl (PyProof.noPylong_small (by omega)))
theorem op_fdivN : OpR X (binaryOp .FloorDiv) (rI CDivN fun i j => .int (i.fdiv j)) := opI fun _ _ _ _ _ _ _ hc q => floordiv_int hc.1 q (.inl (PyProof.noPylong_small hc.2))
/-- % by a positive divisor of any size -/
theorem op_mod : OpR X (binaryOp .Mod) (rI (fun _ j => 0 < j) fun i j => .int (i % j)) := opI fun i j _ _ _ _ _ hc q => by
  have h1 : (0 : Int) < j := hc
  exact mod_int' (by omega) (by rw [Int.fmod_eq_emod_of_nonneg i (by omega)]; exact q)
theorem op_modN : OpR X (binaryOp .Mod) (rI (fun _ j => j ≠ 0) fun i j => .int (i.fmod j)) := opI fun _ _ _ _ _ _ _ hc q => mod_int' hc q
theorem op_pow : OpR X (binaryOp .Pow) (rI CPow fun i j => .int (i ^ j.toNat)) := opI fun _ _ _ _ _ _ _ hc q => pow_int_small hc.1 hc.2.1 hc.2.2 q
theorem op_shl : OpR X (binaryOp .LShift) (rI CPow fun i j => .int (i * 2 ^ j.toNat)) := opI fun _ _ _ _ _ _ _ hc q => lshift_int_small hc.1 hc.2.1 hc.2.2 q
theorem op_shr : OpR X (binaryOp .RShift) (rI (fun _ j => 0 ≤ j) fun i j => .int (i / 2 ^ j.toNat)) := opI fun i j _ _ _ _ _ hc q =>
  rshift_int hc (by rw [Int.fdiv_eq_ediv_of_nonneg i (two_pow_nn _)]; exact q)
theorem op_and : OpR X (binaryOp .BitAnd) (rI0 fun i j => .int (Builtin.bitAnd i j)) := opI0 fun _ _ _ _ _ _ _ q => and_int q
theorem op_or : OpR X (binaryOp .BitOr) (rI0 fun i j => .int (Builtin.bitOr i j)) := opI0 fun _ _ _ _ _ _ _ q => or_int q
theorem op_xor : OpR X (binaryOp .BitXor) (rI0 fun i j => .int (Builtin.bitXor i j)) := opI0 fun _ _ _ _ _ _ _ q => xor_int q

theorem iop_add : OpR X (inplaceOp .Add) (rI0 fun i j => .int (i + j)) := opI0 fun _ _ _ _ _ _ _ q => iadd_int q
theorem iop_sub : OpR X (inplaceOp .Sub) (rI0 fun i j => .int (i - j)) := opI0 fun _ _ _ _ _ _ _ q => isub_int q
theorem iop_mul : OpR X (inplaceOp .Mult) (rI CMul fun i j => .int (i * j)) := opI fun _ _ _ _ _ _ _ hc q => imul_int q hc.ok
theorem iop_fdiv : OpR X (inplaceOp .FloorDiv) (rI CDiv fun i j => .int (i / j)) := opI fun i j _ _ _ _ _ hc q => by
  have h1 : (0 : Int) < j := hc.1
  have h2 : j < 1073741824 := hc.2
  exact ifloordiv_int (by omega) (by rw [Int.fdiv_eq_ediv_of_nonneg i (by omega)]; exact q) (.inl (PyProof.noPylong_small (by omega)))
theorem iop_mod : OpR X (inplaceOp .Mod) (rI (fun _ j => 0 < j) fun i j => .int (i % j)) := opI fun i j _ _ _ _ _ hc q => by
  have h1 : (0 : Int) < j := hc
  exact imod_int (by omega) (by rw [Int.fmod_eq_emod_of_nonneg i (by omega)]; exact q)
theorem iop_shl : OpR X (inplaceOp .LShift) (rI CPow fun i j => .int (i * 2 ^ j.toNat)) := opI fun _ _ _ _ _ _ _ hc q => ilshift_int_small hc.1 hc.2.1 hc.2.2 q
theorem iop_shr : OpR X (inplaceOp .RShift) (rI (fun _ j => 0 ≤ j) fun i j => .int (i / 2 ^ j.toNat)) := opI fun i j _ _ _ _ _ hc q =>
  irshift_int hc (by rw [Int.fdiv_eq_ediv_of_nonneg i (two_pow_nn _)]; exact q)
theorem iop_and : OpR X (inplaceOp .BitAnd) (rI0 fun i j => .int (Builtin.bitAnd i j)) := opI0 fun _ _ _ _ _ _ _ q => iand_int q
theorem iop_or : OpR X (inplaceOp .BitOr) (rI0 fun i j => .int (Builtin.bitOr i j)) := opI0 fun _ _ _ _ _ _ _ q => ior_int q
theorem iop_xor : OpR X (inplaceOp .BitXor) (rI0 fun i j => .int (Builtin.bitXor i j)) := opI0 fun _ _ _ _ _ _ _ q => ixor_int q

theorem unI {f : Value → Sem Value} {g : Int → Int}
    (rule : ∀ (i : Int) (t : Tok) (s : Shared) (Q : Value → Shared → Prop) (E : Value → Shared → Prop), Q (.int (g i) s.toks) { s with toks := s.toks + 1 } → wpAny (model X.prog X.w) X.A (f (.int i t)) Q E s) :
    UnR X f (rU fun i => .int (g i)) := by
  intro pins s σ H x v Q I rx h
  obtain ⟨i, rfl, q⟩ := h
  obtain ⟨t, rfl⟩ := rx
  exact rule i t s _ _ ⟨.int (g i), H, I.tok _, ⟨_, rfl⟩, q⟩
theorem un_neg : UnR X (unaryOp .USub) (rU fun i => .int (-i)) := unI fun _ _ _ _ _ q => neg_int q
theorem un_inv : UnR X (unaryOp .Invert) (rU fun i => .int (Builtin.bitNot i)) := unI fun _ _ _ _ _ q => invert_int q

/-! ### bools among ints: n += (a < b) -/
theorem op_add_ib : OpR X (binaryOp .Add) (fun x y H Q => ∃ i k, x = .int i ∧ y = .bl k ∧ Q (.int (i + b2i k)) H) := by
  intro pins s σ H x y v u Q I rx ry h
  obtain ⟨i, k, rfl, rfl, q⟩ := h
  obtain ⟨t, rfl⟩ := rx
  cases ry
  exact add_int_bool ⟨.int (i + b2i k), H, I.tok _, ⟨_, rfl⟩, q⟩
end

/-! ### comparisons -/
/-- the scalars that == tells apart as data does -/
def scal : V → V → Bool
  | .non, .non => true | .non, .int _ => true | .int _, .non => true | .non, .bl _ => true | .bl _, .non => true | .non, .str _ => true | .str _, .non => true
  | .int _, .int _ => true | .bl _, .bl _ => true | .str _, .str _ => true | .byt _, .byt _ => true
  | .int _, .str _ => true | .str _, .int _ => true | .bl _, .str _ => true | .str _, .bl _ => true
  | _, _ => false
def rEq : R2 := fun x y H Q => scal x y = true ∧ Q (.bl (decide (x = y))) H
def rNe : R2 := fun x y H Q => scal x y = true ∧ Q (.bl (!decide (x = y))) H

theorem dec_int {i j : Int} : decide (V.int i = V.int j) = (i == j) := by
  rw [Bool.eq_iff_iff]
  simp
theorem dec_bl {i j : Bool} : decide (V.bl i = V.bl j) = (i == j) := by
  rw [Bool.eq_iff_iff]
  simp
theorem dec_str {i j : Str} : decide (V.str i = V.str j) = (i == j) := by
  rw [Bool.eq_iff_iff]
  simp
theorem dec_byt {i j : Array UInt8} : decide (V.byt i = V.byt j) = (i.toList == j.toList) := by
  rw [Bool.eq_iff_iff]
  cases i
  cases j
  simp

section
variable {X : Cx} {a b c : Expr} {ta tb tc : TE} {pos : Pos}
theorem fin_bl {pins : List (Addr × Obj)} {σ : St} {H : Hp} {s : Shared} {Q : VK} {k k' : Bool} (I : Inv X pins σ H s) (q : Q (.bl k) H) (e : k = k') : EP X pins σ Q (.bool k') s := by
  subst e
  exact ⟨.bl k, H, I, rfl, q⟩
theorem op_eq : OpR X (compareOp .Eq) rEq := by
  intro pins s σ H x y v u Q I rx ry h
  obtain ⟨hs, q⟩ := h
  cases x with
  | non =>
    cases rx
    cases y with
    | non => cases ry; exact PySem.EqNone.eq_none_none (fin_bl I q (by simp))
    | bl j => cases ry; exact PySem.EqNone.eq_none_bool (fin_bl I q (by simp))
    | int j => obtain ⟨t', rfl⟩ := ry; exact PySem.EqNone.eq_none_int (fin_bl I q (by simp))
    | str j => obtain ⟨t', rfl⟩ := ry; exact PySem.EqNone.eq_none_str (fin_bl I q (by simp))
    | _ => exact absurd (show false = true from hs) Bool.false_ne_true
  | bl i =>
    cases rx
    cases y with
    | non => cases ry; exact PySem.EqNone.eq_bool_none (fin_bl I q (by simp))
    | bl j => cases ry; exact eq_bool (fin_bl I q dec_bl)
    | str j => obtain ⟨t', rfl⟩ := ry; exact PySem.EqMixed.eq_bool_str (fin_bl I q (by simp))
    | _ => exact absurd (show false = true from hs) Bool.false_ne_true
  | int i =>
    obtain ⟨t, rfl⟩ := rx
    cases y with
    | non => cases ry; exact PySem.EqNone.eq_int_none (fin_bl I q (by simp))
    | int j => obtain ⟨t', rfl⟩ := ry; exact eq_int (fin_bl I q dec_int)
    | str j => obtain ⟨t', rfl⟩ := ry; exact PySem.EqMixed.eq_int_str (fin_bl I q (by simp))
    | _ => exact absurd (show false = true from hs) Bool.false_ne_true
  | str i =>
    obtain ⟨t, rfl⟩ := rx
    cases y with
    | non => cases ry; exact PySem.EqNone.eq_str_none (fin_bl I q (by simp))
    | bl j => cases ry; exact PySem.EqMixed.eq_str_bool (fin_bl I q (by simp))
    | int j => obtain ⟨t', rfl⟩ := ry; exact PySem.EqMixed.eq_str_int (fin_bl I q (by simp))
    | str j => obtain ⟨t', rfl⟩ := ry; exact eq_str (fin_bl I q dec_str)
    | _ => exact absurd (show false = true from hs) Bool.false_ne_true
  | byt i =>
    obtain ⟨t, rfl⟩ := rx
    cases y with
    | byt j => obtain ⟨t', rfl⟩ := ry; exact PySem.W.eq_bytes (fin_bl I q dec_byt)
    | _ => exact absurd (show false = true from hs) Bool.false_ne_true
  | _ => cases y <;> exact absurd (show false = true from hs) Bool.false_ne_true
theorem op_ne : OpR X (compareOp .NotEq) rNe := by
  intro pins s σ H x y v u Q I rx ry h
  obtain ⟨hs, q⟩ := h
  cases x with
  | non =>
    cases rx
    cases y with
    | non => cases ry; exact PySem.EqNone.ne_none_none (fin_bl I q (by simp))
    | bl j => cases ry; exact PySem.EqNone.ne_none_bool (fin_bl I q (by simp))
    | int j => obtain ⟨t', rfl⟩ := ry; exact PySem.EqNone.ne_none_int (fin_bl I q (by simp))
    | str j => obtain ⟨t', rfl⟩ := ry; exact PySem.EqNone.ne_none_str (fin_bl I q (by simp))
    | _ => exact absurd (show false = true from hs) Bool.false_ne_true
  | bl i =>
    cases rx
    cases y with
    | non => cases ry; exact PySem.EqNone.ne_bool_none (fin_bl I q (by simp))
    | bl j => cases ry; exact ne_bool (fin_bl I q (congrArg not dec_bl))
    | str j => obtain ⟨t', rfl⟩ := ry; exact PySem.EqMixed.ne_bool_str (fin_bl I q (by simp))
    | _ => exact absurd (show false = true from hs) Bool.false_ne_true
  | int i =>
    obtain ⟨t, rfl⟩ := rx
    cases y with
    | non => cases ry; exact PySem.EqNone.ne_int_none (fin_bl I q (by simp))
    | int j => obtain ⟨t', rfl⟩ := ry; exact ne_int (fin_bl I q (congrArg not dec_int))
    | str j => obtain ⟨t', rfl⟩ := ry; exact PySem.EqMixed.ne_int_str (fin_bl I q (by simp))
    | _ => exact absurd (show false = true from hs) Bool.false_ne_true
  | str i =>
    obtain ⟨t, rfl⟩ := rx
    cases y with
    | non => cases ry; exact PySem.EqNone.ne_str_none (fin_bl I q (by simp))
    | bl j => cases ry; exact PySem.EqMixed.ne_str_bool (fin_bl I q (by simp))
    | int j => obtain ⟨t', rfl⟩ := ry; exact PySem.EqMixed.ne_str_int (fin_bl I q (by simp))
    | str j => obtain ⟨t', rfl⟩ := ry; exact ne_str (fin_bl I q (congrArg not dec_str))
    | _ => exact absurd (show false = true from hs) Bool.false_ne_true
  | byt i =>
    obtain ⟨t, rfl⟩ := rx
    cases y with
    | byt j => obtain ⟨t', rfl⟩ := ry; exact PySem.W.ne_bytes (fin_bl I q (congrArg not dec_byt))
    | _ => exact absurd (show false = true from hs) Bool.false_ne_true
  | _ => cases y <;> exact absurd (show false = true from hs) Bool.false_ne_true

theorem op_lt : OpR X (compareOp .Lt) (rI0 fun i j => .bl (decide (i < j))) := opB0 fun _ _ _ _ _ _ _ q => lt_int q
theorem op_le : OpR X (compareOp .LtE) (rI0 fun i j => .bl (decide (i ≤ j))) := opB0 fun _ _ _ _ _ _ _ q => le_int q
theorem op_gt : OpR X (compareOp .Gt) (rI0 fun i j => .bl (decide (j < i))) := opB0 fun _ _ _ _ _ _ _ q => gt_int q
theorem op_ge : OpR X (compareOp .GtE) (rI0 fun i j => .bl (decide (j ≤ i))) := opB0 fun _ _ _ _ _ _ _ q => ge_int q
theorem op_lt_str : OpR X (compareOp .Lt) (fun x y H Q => ∃ i j, x = .str i ∧ y = .str j ∧ Q (.bl (decide (i.cps.toList < j.cps.toList))) H) := by
  intro pins s σ H x y v u Q I rx ry h
  obtain ⟨i, j, rfl, rfl, q⟩ := h
  obtain ⟨t, rfl⟩ := rx
  obtain ⟨t', rfl⟩ := ry
  exact lt_str (fin_bl I q rfl)
/-- the one string within the other -/
theorem op_in_str : OpR X (compareOp .In) (fun x y H Q => ∃ i j, x = .str i ∧ y = .str j ∧ Q (.bl (!(Builtin.Str.occurrences j i 0 j.length 1).isEmpty)) H) := by
  intro pins s σ H x y v u Q I rx ry h
  obtain ⟨i, j, rfl, rfl, q⟩ := h
  obtain ⟨t, rfl⟩ := rx
  obtain ⟨t', rfl⟩ := ry
  exact in_str (fin_bl I q rfl)

/-- is None, is not None: the right side a value none -/
theorem op_isN : OpR X (compareOp .Is) (fun x y H Q => y = .non ∧ Q (.bl (decide (x = .non))) H) := by
  intro pins s σ H x y v u Q I rx ry h
  obtain ⟨rfl, q⟩ := h
  cases ry
  refine is_none_gen (fin_bl I q ?_)
  cases x <;> first
    | (cases rx; rfl)
    | (obtain ⟨t, rfl⟩ := rx; rfl)
theorem op_notN : OpR X (compareOp .IsNot) (fun x y H Q => y = .non ∧ Q (.bl (!decide (x = .non))) H) := by
  intro pins s σ H x y v u Q I rx ry h
  obtain ⟨rfl, q⟩ := h
  cases ry
  refine isnot_none_gen (fin_bl I q ?_)
  cases x <;> first
    | (cases rx; rfl)
    | (obtain ⟨t, rfl⟩ := rx; rfl)

theorem op_notin_str : OpR X (compareOp .NotIn) (fun x y H Q => ∃ i j, x = .str i ∧ y = .str j ∧ Q (.bl (!(!(Builtin.Str.occurrences j i 0 j.length 1).isEmpty))) H) := by
  intro pins s σ H x y v u Q I rx ry h
  obtain ⟨i, j, rfl, rfl, q⟩ := h
  obtain ⟨t, rfl⟩ := rx
  obtain ⟨t', rfl⟩ := ry
  exact notIn_str (fin_bl I q rfl)
/-- is, is not of two objects that are tracked lists or instances -/
def isObj : HO → Bool
  | .lst _ => true
  | .ins _ _ _ => true
  | _ => false
theorem obj_there {pins : List (Addr × Obj)} {s : Shared} {σ : St} {H : Hp} {a : Addr} {o : HO} (I : Inv X pins σ H s) (h : H a = some o) (p : isObj o = true) : ∃ ob, s.heap.get? a = some ob ∧ ob.cls ≠ .type "tuple" := by
  cases o with
  | lst xs =>
    obtain ⟨_, its, n, _, e⟩ : xs.length ≤ sizeLine ∧ ∃ (its : List Value) (n : Nat), Vals xs its ∧ s.heap.get? a = some { cls := .type "list", data := .seq its.toArray n } := I.hok a _ h
    exact ⟨_, e, (by show Value.type "list" ≠ .type "tuple"; decide +kernel)⟩
  | ins C dx fs =>
    have x := I.hok a _ h
    obtain ⟨_, _, _, e, _⟩ := x
    exact ⟨_, e, (by show Value.ref C ≠ .type "tuple"; exact fun z => by cases z)⟩
  | _ => exact absurd (show false = true from p) Bool.false_ne_true
theorem op_is_ref : OpR X (compareOp .Is) (fun x y H Q => ∃ a b oa ob, x = .ref a ∧ y = .ref b ∧ H a = some oa ∧ isObj oa = true ∧ H b = some ob ∧ isObj ob = true ∧ Q (.bl (decide (a = b))) H) := by
  intro pins s σ H x y v u Q I rx ry h
  obtain ⟨a, b, oa, ob, rfl, rfl, ha, pa, hb, pb, q⟩ := h
  cases rx
  cases ry
  obtain ⟨o1, e1, n1⟩ := obj_there I ha pa
  obtain ⟨o2, e2, _⟩ := obj_there I hb pb
  by_cases z : a = b
  · subst z
    exact wpAny_is_ref_self (fin_bl I q (by simp))
  · exact wpAny_is_ref_other z e1 e2 n1 (fin_bl I q (by simp [z]))
theorem op_isnot_ref : OpR X (compareOp .IsNot) (fun x y H Q => ∃ a b oa ob, x = .ref a ∧ y = .ref b ∧ H a = some oa ∧ isObj oa = true ∧ H b = some ob ∧ isObj ob = true ∧ Q (.bl (!decide (a = b))) H) := by
  intro pins s σ H x y v u Q I rx ry h
  obtain ⟨a, b, oa, ob, rfl, rfl, ha, pa, hb, pb, q⟩ := h
  cases rx
  cases ry
  obtain ⟨o1, e1, n1⟩ := obj_there I ha pa
  obtain ⟨o2, e2, _⟩ := obj_there I hb pb
  by_cases z : a = b
  · subst z
    exact wpAny_isNot_ref_self (fin_bl I q (by simp))
  · exact wpAny_isNot_ref_other z e1 e2 n1 (fin_bl I q (by simp [z]))

/-- two rules for one operation: by cases -/
theorem OpR.or {f : Value → Value → Sem Value} {r r' : R2} (h : OpR X f r) (h' : OpR X f r') : OpR X f (fun x y H Q => r x y H Q ∨ r' x y H Q) := by
  intro pins s σ H x y v u Q I rx ry q
  rcases q with q | q
  · exact h pins s σ H x y v u Q I rx ry q
  · exact h' pins s σ H x y v u Q I rx ry q

theorem nomark (b : Expr) {op : CmpOp} (h : op ≠ .In := by decide) (h2 : op ≠ .NotIn := by decide) : behindInMarks op b = false := by
  have e1 : (op == CmpOp.In) = false := by cases op <;> first | rfl | exact absurd rfl h
  have e2 : (op == CmpOp.NotIn) = false := by cases op <;> first | rfl | exact absurd rfl h2
  cases b <;> simp [behindInMarks, e1, e2]
/-- a comparison as a value; hm: nomark b, or (for in, not in) by with_unfolding_all rfl -/
theorem pe_cmpR {op : CmpOp} {r : R2} (ho : OpR X (compareOp op) r) (ha : PE X a ta) (hb : PE X b tb) (hm : behindInMarks op b = false) : PE X (.Compare a [op] [b] pos) (tOp r ta tb) := by
  intro pins s σ H Q I h
  exact wpAny_Compare1 (binT ha hb I h fun v u s2 x y H2 I2 rx ry q => ho pins s2 σ H2 x y v u Q I2 rx ry q) hm
/-- a reading of a value as a test -/
def tTest (t : TE) : TT := fun σ H Q => t σ H fun x H' => ∃ k, x = .bl k ∧ Q k H'
theorem pt_cmpR {op : CmpOp} {r : R2} (ho : OpR X (compareOp op) r) (ha : PE X a ta) (hb : PE X b tb) (hm : behindInMarks op b = false) : PT X (.Compare a [op] [b] pos) (tTest (tOp r ta tb)) := by
  intro pins s σ H Q I h
  refine wpAny_isTrue_Compare1 (thn (ha pins s σ H _ I h) fun v s1 ⟨x, H1, I1, r1, q1⟩ => thn (hb pins s1 σ H1 _ I1 q1) fun u s2 ⟨y, H2, I2, r2, q2⟩ =>
    thn (ho pins s2 σ H2 x y v u _ I2 r1 r2 q2) fun c s3 ⟨z, H3, I3, r3, k, e, q3⟩ => ?_) hm
  subst e
  cases r3
  exact wpAny_truthy_bool ⟨H3, I3, q3⟩
/-- a op1 b op2 c -/
def tChain (r r' : R2) (ta tb tc : TE) : TE := fun σ H Q => ta σ H fun x H1 => tb σ H1 fun y H2 => r x y H2 fun z H3 => ∃ k, z = .bl k ∧
  (if k = true then tc σ H3 fun w' H4 => r' y w' H4 Q else Q (.bl false) H3)
theorem pe_chain {op op' : CmpOp} {r r' : R2} (ho : OpR X (compareOp op) r) (ho' : OpR X (compareOp op') r') (ha : PE X a ta) (hb : PE X b tb) (hc : PE X c tc)
    (hm : lastMarks [op, op'] [b, c] = false := by with_unfolding_all rfl) : PE X (.Compare a [op, op'] [b, c] pos) (tChain r r' ta tb tc) := by
  intro pins s σ H Q I h
  refine Compare_chain (thn (ha pins s σ H _ I h) fun v s1 ⟨x, H1, I1, r1, q1⟩ => chain_link (thn (hb pins s1 σ H1 _ I1 q1) fun u s2 ⟨y, H2, I2, r2, q2⟩ =>
    thn (ho pins s2 σ H2 x y v u _ I2 r1 r2 q2) fun d s3 ⟨z, H3, I3, r3, k, e, q3⟩ => ?_)) hm
  subst e
  cases r3
  refine wpAny_truthy_bool ?_
  cases k with
  | false => exact ite_ff ⟨.bl false, H3, I3, rfl, q3⟩
  | true => exact ite_tt (chain_last (thn (hc pins s3 σ H3 _ I3 q3) fun w' s4 ⟨z', H4, I4, r4, q4⟩ => ho' pins s4 σ H4 y z' u w' Q I4 r2 r4 q4))
theorem pt_chain {op op' : CmpOp} {r r' : R2} (ho : OpR X (compareOp op) r) (ho' : OpR X (compareOp op') r') (ha : PE X a ta) (hb : PE X b tb) (hc : PE X c tc)
    (hm : lastMarks [op, op'] [b, c] = false := by with_unfolding_all rfl) : PT X (.Compare a [op, op'] [b, c] pos) (tTest (tChain r r' ta tb tc)) := by
  intro pins s σ H Q I h
  refine isTrue_chain (thn (ha pins s σ H _ I h) fun v s1 ⟨x, H1, I1, r1, q1⟩ => test_link (thn (hb pins s1 σ H1 _ I1 q1) fun u s2 ⟨y, H2, I2, r2, q2⟩ =>
    thn (ho pins s2 σ H2 x y v u _ I2 r1 r2 q2) fun d s3 ⟨z, H3, I3, r3, k, e, q3⟩ => ?_)) hm
  subst e
  cases r3
  refine wpAny_truthy_bool ?_
  cases k with
  | false =>
    obtain ⟨k', e', q'⟩ := q3
    cases e'
    exact ite_ff ⟨H3, I3, q'⟩
  | true =>
    refine ite_tt (test_last (thn (hc pins s3 σ H3 _ I3 q3) fun w' s4 ⟨z', H4, I4, r4, q4⟩ => thn (ho' pins s4 σ H4 y z' u w' _ I4 r2 r4 q4) fun d' s5 ⟨z2, H5, I5, r5, k2, e2, q5⟩ => ?_))
    subst e2
    cases r5
    exact wpAny_truthy_bool ⟨H5, I5, q5⟩

/-! ### truth -/
/-- a value's truth by the abstract heap -/
def TruV (K : PySem.W.Frag) (x : V) (H : Hp) (k : Bool) : Prop :=
  match x with
  | .non => k = false
  | .bl b => k = b
  | .int i => k = (i != 0)
  | .str y => y.length ≤ sizeLine ∧ k = ((y.length : Int) != 0)
  | .byt y => y.size ≤ sizeLine ∧ k = ((y.size : Int) != 0)
  | .ref p => (∃ xs, SqL K H p xs ∧ k = !xs.isEmpty) ∨ (∃ xs, SqT K H p xs ∧ k = !xs.isEmpty) ∨ ∃ kvs, H p = some (.dK kvs) ∧ k = !kvs.isEmpty
  | _ => False
theorem isEmpty_kv {κ : Type} {kvs : List (κ × V)} {vs : List (κ × Value)} (r : KV kvs vs) : (!vs.isEmpty) = !kvs.isEmpty := by
  cases r <;> rfl
theorem isEmpty_of {xs : List V} {its : List Value} (r : Vals xs its) : (!its.toArray.isEmpty) = !xs.isEmpty := by
  cases r <;> simp
theorem line63 : (sizeLine : Nat) < 2 ^ 63 := by rw [sizeLine_eq]; decide
theorem tru_ok : TruR X (fun x H Q => ∃ k, TruV X.K x H k ∧ Q k H) := by
  intro pins s σ H x v Q I rx h
  obtain ⟨k, e, q⟩ := h
  have hl := line63
  have hs : sizeLine = 16777216 := sizeLine_eq
  cases x with
  | non =>
    cases rx
    have e' : k = false := e
    subst e'
    exact truthy_none ⟨H, I, q⟩
  | bl b =>
    cases rx
    have e' : k = b := e
    subst e'
    exact wpAny_truthy_bool ⟨H, I, q⟩
  | int i =>
    obtain ⟨t, rfl⟩ := rx
    have e' : k = (i != 0) := e
    subst e'
    exact PySem.P.truthy_int ⟨H, I, q⟩
  | str y =>
    obtain ⟨t, rfl⟩ := rx
    obtain ⟨hy, e'⟩ : y.length ≤ sizeLine ∧ k = ((y.length : Int) != 0) := e
    subst e'
    exact PySem.P.truthy_str (by omega) ⟨H, I.tok _, q⟩
  | byt y =>
    obtain ⟨t, rfl⟩ := rx
    obtain ⟨hy, e'⟩ : y.size ≤ sizeLine ∧ k = ((y.size : Int) != 0) := e
    subst e'
    exact PySem.W.truthy_bytes (by omega) ⟨H, I.tok _, q⟩
  | ref p =>
    cases rx
    have e' : (∃ xs, SqL X.K H p xs ∧ k = !xs.isEmpty) ∨ (∃ xs, SqT X.K H p xs ∧ k = !xs.isEmpty) ∨ ∃ kvs, H p = some (.dK kvs) ∧ k = !kvs.isEmpty := e
    rcases e' with ⟨xs, hx, e'⟩ | ⟨xs, hx, e'⟩ | ⟨kvs, hx, e'⟩
    · subst e'
      obtain ⟨its, r, pl, hz⟩ := I.list hx
      have hlen := r.length
      exact wpAny_truthy_list pl.isList (by simp only [List.size_toArray]; omega) ⟨H, I.tok _, by rw [isEmpty_of r]; exact q⟩
    · subst e'
      obtain ⟨its, r, pl, hz⟩ := I.tuple hx
      have hlen := r.length
      exact truthy_tuple pl (by simp only [List.size_toArray]; omega) ⟨H, I.tok _, by rw [isEmpty_of r]; exact q⟩
    · subst e'
      obtain ⟨hz, hS, vs, r, m⟩ : kvs.length ≤ sizeLine ∧ (p == sysModules) = false ∧ ∃ vs, KV kvs vs ∧ s.heap.DictOf (mixKind X.prog X.w) p vs := I.hok p _ hx
      have hlen : kvs.length = vs.length := Paired.length r
      exact wpAny_truthy_dict hS m (by omega) ⟨H, I.tok _, by rw [isEmpty_kv r]; exact q⟩
  | _ => exact (show False from e).elim
/-- any expression whose test is its value's truth (a name, a call, a subscript, a field ..: he by fun _ => rfl) -/
theorem pt_truth (ha : PE X a ta) (he : ∀ whole, isTrue a X.env whole = (do let v ← whole; standAt a.pos; holding [v] (truthy v))) :
    PT X a (fun σ H Q => ta σ H fun x H' => ∃ k, TruV X.K x H' k ∧ Q k H') := by
  intro pins s σ H Q I h
  exact isTrue_plain (thn (ha pins s σ H _ I h) fun v s1 ⟨x, H1, I1, r1, q1⟩ => tru_ok pins s1 σ H1 x v Q I1 r1 q1) (he _)

/-! ### strs and bytes -/
theorem pe_byt {x : List UInt8} {k : Nat} : PE X (.Constant (.bytes x) k pos) (fun _ H Q => Q (.byt x.toArray) H) := fun _ _ _ H _ I h => PySem.W.Constant_bytes ⟨.byt x.toArray, H, I.tok _, ⟨_, rfl⟩, h⟩
theorem op_add_str : OpR X (binaryOp .Add) (fun x y H Q => ∃ i j, x = .str i ∧ y = .str j ∧ i.length + j.length ≤ sizeLine ∧ Q (.str (i ++ j)) H) := by
  intro pins s σ H x y v u Q I rx ry h
  obtain ⟨i, j, rfl, rfl, hz, q⟩ := h
  obtain ⟨t, rfl⟩ := rx
  obtain ⟨t', rfl⟩ := ry
  exact add_str (fun t' tk => ⟨.str (i ++ j), H, I.tok _, ⟨_, rfl⟩, q⟩) hz
theorem iop_add_str : OpR X (inplaceOp .Add) (fun x y H Q => ∃ i j, x = .str i ∧ y = .str j ∧ i.length + j.length ≤ sizeLine ∧ Q (.str (i ++ j)) H) := by
  intro pins s σ H x y v u Q I rx ry h
  obtain ⟨i, j, rfl, rfl, hz, q⟩ := h
  obtain ⟨t, rfl⟩ := rx
  obtain ⟨t', rfl⟩ := ry
  exact iadd_str (fun t' tk => ⟨.str (i ++ j), H, I.tok _, ⟨_, rfl⟩, q⟩) hz
theorem op_add_byt : OpR X (binaryOp .Add) (fun x y H Q => ∃ i j, x = .byt i ∧ y = .byt j ∧ i.size + j.size ≤ 16777216 ∧ Q (.byt (i ++ j)) H) := by
  intro pins s σ H x y v u Q I rx ry h
  obtain ⟨i, j, rfl, rfl, hz, q⟩ := h
  obtain ⟨t, rfl⟩ := rx
  obtain ⟨t', rfl⟩ := ry
  exact PySem.W.KBy.add_bytes hz (fun t' tk => ⟨.byt (i ++ j), H, I.tok _, ⟨_, rfl⟩, q⟩)

def PlainIxT (b : Expr) : Prop := ∀ o i, subscripted b false o i = operate [o, i] (getItem o i)
/-- s[i], 0 ≤ i < len -/
theorem pe_item_str (ha : PE X a ta) (hb : PE X b tb) (hs : PlainIxT b) :
    PE X (.Subscript a b pos) (tOp (fun x y H Q => ∃ z i c, x = .str z ∧ y = .int i ∧ 0 ≤ i ∧ i < 2 ^ 63 ∧ i < z.length ∧ z.cps[i.toNat]? = some c ∧ Q (.str ⟨#[c]⟩) H) ta tb) := by
  intro pins s σ H Q I h
  refine Subscript_ (binT ha hb I h fun v u s2 x y H2 I2 rx ry q => ?_)
  obtain ⟨z, i, c, rfl, rfl, h0, h63, h1, hc, q⟩ := q
  obtain ⟨t, rfl⟩ := rx
  obtain ⟨t', rfl⟩ := ry
  have e : seqIndex? i z.length = some i.toNat := PySem.StrLaws.seqIndex_nonneg h0 h1
  exact tail_any (typeIs_str s2 z t) slot_str_getitem.lookup (getItem_str (c := c) (by
    have e1 : decide (i < -(2 ^ 63 : Int)) = false := decide_eq_false (by omega)
    have e2 : decide (i ≥ 2 ^ 63) = false := decide_eq_false (by omega)
    rw [e1, e2] <;> rfl) (by rw [e]; exact hc) ⟨.str ⟨#[c]⟩, H2, I2.tok _, ⟨_, rfl⟩, q⟩) (hs _ _)
/-- b[i], 0 ≤ i < len -/
theorem pe_item_byt (ha : PE X a ta) (hb : PE X b tb) (hs : PlainIxT b) :
    PE X (.Subscript a b pos) (tOp (fun x y H Q => ∃ (z : List UInt8) (i : Int), x = .byt z.toArray ∧ y = .int i ∧ z.length ≤ sizeLine ∧ 0 ≤ i ∧ i < z.length ∧ Q (.int ((z.getD i.toNat 0).toNat : Nat)) H) ta tb) := by
  intro pins s σ H Q I h
  refine Subscript_ (binT ha hb I h fun v u s2 x y H2 I2 rx ry q => ?_)
  obtain ⟨z, i, rfl, rfl, hz, h0, h1, q⟩ := q
  obtain ⟨t, rfl⟩ := rx
  obtain ⟨t', rfl⟩ := ry
  have hl : sizeLine = 16777216 := sizeLine_eq
  exact tail_any (PySem.W.typeIs_bytes s2 z.toArray t) PySem.W.FB.slot_bytes_getitem.lookup (PySem.W.getItem_bytes (by omega) h0 h1 ⟨.int ((z.getD i.toNat 0).toNat : Nat), H2, I2.tok _, ⟨_, rfl⟩, q⟩) (hs _ _)

/-! ### scalar builtins, by CallR -/
theorem vals1 {x : V} {us : List Value} (r : Vals [x] us) : ∃ u, us = [u] ∧ RelV x u := by
  cases r with
  | cons r1 r2 => cases r2; exact ⟨_, rfl, r1⟩
theorem vals2 {x y : V} {us : List Value} (r : Vals [x, y] us) : ∃ u w', us = [u, w'] ∧ RelV x u ∧ RelV y w' := by
  cases r with
  | cons r1 r2 =>
    cases r2 with
    | cons r3 r4 => cases r4; exact ⟨_, _, rfl, r1, r3⟩
theorem call_abs : CallR X (.builtin "abs") (fun xs H Q => ∃ i, xs = [.int i] ∧ Q (.int (if i < 0 then -i else i)) H) := by
  intro pins s σ H xs us Q I r h
  obtain ⟨i, rfl, q⟩ := h
  obtain ⟨u, rfl, t, rfl⟩ := vals1 r
  exact call_abs_int fun u tk => ⟨.int (if i < 0 then -i else i), H, I.tok _, ⟨_, rfl⟩, q⟩
theorem call_max2 (hc : X.calm = true) : CallR X (.builtin "max") (fun xs H Q => ∃ i j, xs = [.int i, .int j] ∧ Q (.int (if j > i then j else i)) H) := by
  intro pins s σ H xs us Q I r h
  obtain ⟨i, j, rfl, q⟩ := h
  obtain ⟨u, w', rfl, ⟨t, rfl⟩, ⟨t', rfl⟩⟩ := vals2 r
  refine max_two_ints (I.ok.hd hc) fun h' tk k => ⟨_, H, I.kept k, ?_, q⟩
  by_cases hj : j > i
  · rw [if_pos hj, if_pos hj]; exact ⟨_, rfl⟩
  · rw [if_neg hj, if_neg hj]; exact ⟨_, rfl⟩
theorem call_min2 (hc : X.calm = true) : CallR X (.builtin "min") (fun xs H Q => ∃ i j, xs = [.int i, .int j] ∧ Q (.int (if j < i then j else i)) H) := by
  intro pins s σ H xs us Q I r h
  obtain ⟨i, j, rfl, q⟩ := h
  obtain ⟨u, w', rfl, ⟨t, rfl⟩, ⟨t', rfl⟩⟩ := vals2 r
  refine min_two_ints (I.ok.hd hc) fun h' tk k => ⟨_, H, I.kept k, ?_, q⟩
  by_cases hj : j < i
  · rw [if_pos hj, if_pos hj]; exact ⟨_, rfl⟩
  · rw [if_neg hj, if_neg hj]; exact ⟨_, rfl⟩
theorem call_int1 : CallR X (.type "int") (fun xs H Q => (∃ i, xs = [.int i] ∧ Q (.int i) H) ∨ ∃ k, xs = [.bl k] ∧ Q (.int (if k then 1 else 0)) H) := by
  intro pins s σ H xs us Q I r h
  rcases h with ⟨i, rfl, q⟩ | ⟨k, rfl, q⟩
  · obtain ⟨u, rfl, t, rfl⟩ := vals1 r
    exact call_int_int ⟨.int i, H, I, ⟨_, rfl⟩, q⟩
  · obtain ⟨u, rfl, r1⟩ := vals1 r
    cases r1
    exact call_int_bool ⟨.int (if k then 1 else 0), H, I.tok _, ⟨_, rfl⟩, q⟩
theorem call_bool1 : CallR X (.type "bool") (fun xs H Q => (∃ i, xs = [.int i] ∧ Q (.bl (i != 0)) H) ∨ ∃ k, xs = [.bl k] ∧ Q (.bl k) H) := by
  intro pins s σ H xs us Q I r h
  rcases h with ⟨i, rfl, q⟩ | ⟨k, rfl, q⟩
  · obtain ⟨u, rfl, t, rfl⟩ := vals1 r
    exact call_bool_int ⟨.bl (i != 0), H, I, rfl, q⟩
  · obtain ⟨u, rfl, r1⟩ := vals1 r
    cases r1
    exact call_bool_bool ⟨.bl k, H, I, rfl, q⟩
theorem call_str_int : CallR X (.type "str") (fun xs H Q => ∃ i, xs = [.int i] ∧ i.natAbs.log2 < 1920 ∧ Q (.str (toString i)) H) := by
  intro pins s σ H xs us Q I r h
  obtain ⟨i, rfl, hz, q⟩ := h
  obtain ⟨u, rfl, t, rfl⟩ := vals1 r
  exact PySem.P.str_of_int hz ⟨.str _, H, I.tok _, ⟨_, rfl⟩, q⟩
theorem call_ord : CallR X (.builtin "ord") (fun xs H Q => ∃ x, xs = [.str x] ∧ x.length = 1 ∧ Q (.int (x.cps.getD 0 0 : Nat)) H) := by
  intro pins s σ H xs us Q I r h
  obtain ⟨x, rfl, hz, q⟩ := h
  obtain ⟨u, rfl, t, rfl⟩ := vals1 r
  exact ord_of_one hz ⟨.int _, H, I.tok _, ⟨_, rfl⟩, q⟩
theorem call_chr : CallR X (.builtin "chr") (fun xs H Q => ∃ i, xs = [.int i] ∧ 0 ≤ i ∧ i ≤ 1114111 ∧ Q (.str ⟨#[i.toNat]⟩) H) := by
  intro pins s σ H xs us Q I r h
  obtain ⟨i, rfl, h0, h1, q⟩ := h
  obtain ⟨u, rfl, t, rfl⟩ := vals1 r
  exact chr_of_range h0 h1 ⟨.str _, H, I.tok _, ⟨_, rfl⟩, q⟩
/-- len of a str, a bytes, a list, a tuple -/
def LenV (K : PySem.W.Frag) (x : V) (H : Hp) (n : Nat) : Prop :=
  match x with
  | .str y => y.length ≤ sizeLine ∧ n = y.length
  | .byt y => y.size ≤ sizeLine ∧ n = y.size
  | .ref p => (∃ xs, SqL K H p xs ∧ n = xs.length) ∨ ∃ xs, SqT K H p xs ∧ n = xs.length
  | _ => False
theorem call_len : CallR X (.builtin "len") (fun xs H Q => ∃ x n, xs = [x] ∧ LenV X.K x H n ∧ Q (.int n) H) := by
  intro pins s σ H xs us Q I r h
  obtain ⟨x, n, rfl, e, q⟩ := h
  obtain ⟨u, rfl, rx⟩ := vals1 r
  have hl := line63
  have hs : sizeLine = 16777216 := sizeLine_eq
  cases x with
  | str y =>
    obtain ⟨t, rfl⟩ := rx
    obtain ⟨hy, e'⟩ : y.length ≤ sizeLine ∧ n = y.length := e
    subst e'
    exact len_str (by omega) ⟨.int _, H, I.tok _, ⟨_, rfl⟩, q⟩
  | byt y =>
    obtain ⟨t, rfl⟩ := rx
    obtain ⟨hy, e'⟩ : y.size ≤ sizeLine ∧ n = y.size := e
    subst e'
    exact PySem.W.len_bytes (by omega) ⟨.int _, H, I.tok _, ⟨_, rfl⟩, q⟩
  | ref p =>
    cases rx
    have e' : (∃ xs, SqL X.K H p xs ∧ n = xs.length) ∨ ∃ xs, SqT X.K H p xs ∧ n = xs.length := e
    rcases e' with ⟨xs, hx, e'⟩ | ⟨xs, hx, e'⟩
    · subst e'
      obtain ⟨its, r', pl, hz⟩ := I.list hx
      have hlen := r'.length
      exact Calls.call_len_list pl.isList (by simp only [List.size_toArray]; omega) ⟨.int xs.length, H, I.tok _, ⟨_, by simp only [List.size_toArray]; rw [hlen]⟩, q⟩
    · subst e'
      obtain ⟨its, r', pl, hz⟩ := I.tuple hx
      have hlen := r'.length
      exact len_tuple pl (by simp only [List.size_toArray]; omega) ⟨.int xs.length, H, I.tok _, ⟨_, by simp only [List.size_toArray]; rw [hlen]⟩, q⟩
  | _ => exact (show False from e).elim
/-- divmod: a new tuple -/
theorem call_divmod : CallR X (.builtin "divmod") (fun xs H Q => ∃ i j, xs = [.int i, .int j] ∧ CDiv i j ∧ ∀ p, H p = none → Q (.ref p) (upd H p (.tup [.int (i / j), .int (i % j)]))) := by
  intro pins s σ H xs us Q I r h
  obtain ⟨i, j, rfl, ⟨h1, h2⟩, q⟩ := h
  obtain ⟨u, w', rfl, ⟨t, rfl⟩, ⟨t', rfl⟩⟩ := vals2 r
  refine divmod_int (by omega) ?_ (.inl (PyProof.noPylong_small (by omega)))
  rw [Int.fdiv_eq_ediv_of_nonneg i (by omega), Int.fmod_eq_emod_of_nonneg i (by omega)]
  have hn : H s.heap.objs.size = none := I.hok.fresh (Nat.le_refl _)
  refine ⟨.ref s.heap.objs.size, _, ?_, rfl, q _ hn⟩
  refine I.laid (fun b o e => Heap.get?_push_of_some _ e) (Nat.le_refl _) ⟨by simp only [List.length_cons, List.length_nil]; rw [sizeLine_eq]; decide, [.int (i / j) s.toks, .int (i % j) (s.toks + 1)], .cons ⟨_, rfl⟩ (.cons ⟨_, rfl⟩ .nil), ?_⟩
  exact ⟨_, Heap.get?_push_size s.heap rfl, rfl, 0, rfl⟩
end
end L2

namespace L2
open PySem PySem.Spec PyProof.Rows

/-! ### an instance, its attributes a map -/
structure ObjM (h : Heap) (x dx C : Addr) (mA : Str → Option Value) : Prop where
  obj : h.get? x = some (PySem.W.instObj C dx)
  ns : h.Ns1 dx mA
  ne : dx ≠ x

theorem lookIn_ns {h : Heap} {dx : Addr} {mA : Str → Option Value} (n : h.Ns1 dx mA) : ∃ od, h.get? dx = some od ∧ ∀ name, PySem.W.lookIn name od = some (mA name) := by
  obtain ⟨o, es, ep, ho, hd, hk, _, hm⟩ := n
  refine ⟨o, ho, fun name => ?_⟩
  have e := hm name
  unfold nsFind findBy at e
  rw [← Array.find?_toList] at e
  unfold PySem.W.lookIn
  rw [hd]
  dsimp only
  split
  · rename_i y q
    rw [q] at e
    exact congrArg some e
  · rename_i q
    rw [q] at e
    have a : es.toList.any (·.refKey) = false := by
      rw [List.any_eq_false]
      intro y hy
      obtain ⟨z, t, hkey⟩ := hk y (Array.mem_toList_iff.mp hy)
      simp [DictEntry.refKey, hkey]
    have a' : ¬ es.toList.any (·.refKey) = true := by rw [a]; exact Bool.false_ne_true
    rw [if_neg a']
    exact congrArg some e

theorem ObjM.look {h : Heap} {x dx C : Addr} {mA : Str → Option Value} (I : ObjM h x dx C mA) : ∃ od, PySem.W.InstAt h x (PySem.W.instObj C dx) C (some od) ∧ ∀ name, PySem.W.lookIn name od = some (mA name) :=
  let ⟨od, ho, hl⟩ := lookIn_ns I.ns
  ⟨od, ⟨I.obj, rfl, rfl, ho⟩, hl⟩

section
variable {prog : Program} {w : World} {A : Around} {E : Value → Shared → Prop} {s : Shared} {K : PySem.W.Frag} {x dx C f : Addr} {mA : Str → Option Value} {name : Str} {v : Value}

theorem get_map {expr : Bool} {Q : Value → Shared → Prop} (X : K.In s.heap) (I : ObjM s.heap x dx C mA) (hg : PySem.W.plainGet K C name = true) (hh : PySem.W.hasDictIn K C = true)
    (ha : PySem.W.findIn K (.ref C) name = some none) (hv : mA name = some v) (hv' : PySem.W.handedIn v = true) (h : Q v { s with toks := s.toks + 1 }) :
    wpAny (model prog w) A (getAttr (.ref x) name expr) Q E s := by
  obtain ⟨od, J, hl⟩ := I.look
  exact PySem.W.get_value X J (PySem.W.plainGet_of hg).1 (PySem.W.findObj_own hh ha rfl (by rw [hl, hv])) hv' h

theorem get_const {expr : Bool} {a : Value} {Q : Value → Shared → Prop} (X : K.In s.heap) (I : ObjM s.heap x dx C mA) (hg : PySem.W.plainGet K C name = true) (hh : PySem.W.hasDictIn K C = true)
    (ha : PySem.W.findIn K (.ref C) name = some (some a)) (hn : PySem.W.specialIn K a "__get__" = some none) (hc : PySem.W.copiedNames.contains name = false) (hv : mA name = none) (hv' : PySem.W.handedIn a = true)
    (h : Q a { s with toks := s.toks + 1 }) : wpAny (model prog w) A (getAttr (.ref x) name expr) Q E s := by
  obtain ⟨od, J, hl⟩ := I.look
  exact PySem.W.get_value X J (PySem.W.plainGet_of hg).1 (PySem.W.findObj_cls hh ha hn hv' hc (by rw [hl, hv])) hv' h

theorem get_meth {pl : Sem Bool} {Q : Value × List Value → Shared → Prop} (X : K.In s.heap) (I : ObjM s.heap x dx C mA) (hg : PySem.W.plainGet K C name = true)
    (hf : PySem.W.findIn K (.ref C) name = some (some (.ref f))) (ht : PySem.W.isFn K (.ref f) = true) (hv : mA name = none) (h : Q (.ref f, [.ref x]) s) :
    wpAny (model prog w) A (getMethod (.ref x) name pl) Q E s := by
  obtain ⟨od, J, hl⟩ := I.look
  exact PySem.W.method_fn X J (PySem.W.plainGet_of hg).1 (PySem.W.plainGet_of hg).2 hf (beq_iff_eq.mp ht) (by show (PySem.W.lookIn name od).map (·.isSome) = some false; rw [hl, hv]; rfl) h

theorem set_map {ns : List Str} {Q : Unit → Shared → Prop} (X : K.In s.heap) (I : ObjM s.heap x dx C mA)
    (hs : PySem.W.findIn K (.ref C) "__setattr__" = some (some (.builtin "object.__setattr__"))) (hp : PySem.W.plainOver K C = true) (ht : PySem.W.takerIn K C name = some none) (hh : PySem.W.hasDictIn K C = true)
    (hw : PySem.Within mA ns) (hsz : ns.length ≤ sizeLine)
    (h : ∀ h', ObjM h' x dx C (fun y => if y = name then some v else mA y) → Heap.SameBut dx s.heap h' → Q () { s with heap := h', toks := s.toks + 2 }) :
    wpAny (model prog w) A (setAttr (.ref x) name v) Q E s := by
  obtain ⟨od, J, hl⟩ := I.look
  refine PySem.W.set_plain X J hs (PySem.W.osa_open (s := { s with toks := s.toks + 1 }) (r := none) X J hp ht fun b => ?_)
  obtain ⟨cd, hc, hd'⟩ := PySem.W.any_some hh
  have hx : s.heap.get? x = some ⟨.ref C, some dx, .plain, #[]⟩ := I.obj
  refine wpAny_bind (wpAny_pure (wpAny_bind (wpAny_bind (wpAny_loadPart hx (wpAny_bind (PySem.W.Looks.here (s := { s with toks := s.toks + 1 }) (PySem.W.looks_clsIn X hc) ?_))))))
  rw [hd']
  refine wpAny_pure (a := some dx) (wpAny_bind (wpAny_pure (wpAny_bind ?_)))
  refine wpAny_nsSet1 (s := { s with toks := s.toks + 1 }) I.ns fun h' hn2 hs2 => ?_
  obtain ⟨oD, esD, epD, hoD, hdD, hcD⟩ := hn2.count (PySem.Within.cons name v hw)
  refine wpAny_bind (wpAny_lookBehind hoD (by rw [hdD]; exact pastItsLine_dict (Nat.le_trans hcD (by rw [List.length_cons]; omega))) ?_)
  exact wpAny_pure (h _ ⟨(hs2.2 _ (Ne.symm I.ne)).trans I.obj, hn2, I.ne⟩ hs2)

/-- C(..): the dict at the heap's end, the instance behind it; then its __init__ -/
theorem make_map {R : Result → Shared → Prop} {vs : List Value} {kw : List (Str × Value)} (X : K.In s.heap) (hm : PySem.W.makesIn K C = true)
    (hi : PySem.W.findIn K (.ref C) "__init__" = some (some (.ref f))) (hf : PySem.W.typeIn K (.ref f) = some (.type "function"))
    (h : codeAny (model prog w) (A.under (.builtin "type.__call__" ⟨.ref C :: vs, kw⟩)) (.call (.ref f) ⟨.ref (s.heap.objs.size + 1) :: vs, kw⟩) (PySem.W.InitBack (s.heap.objs.size + 1) R)
      { s with heap := (s.heap.push PySem.W.emptyDict).push (PySem.W.instObj C s.heap.objs.size) }) :
    codeAny (model prog w) A (.call (.ref C) ⟨vs, kw⟩) R s := by
  obtain ⟨hh, g, d, t, os⟩ := s
  exact PySem.W.make_core (PySem.W.makes_of X hm) (PySem.W.looks_findIn X hi) (fun self => PySem.W.bind_fn X self hf) (.inl rfl) h
/-- C() where there is no __init__ but object's -/
theorem make_map0 {R : Result → Shared → Prop} (X : K.In s.heap) (hm : PySem.W.makesIn K C = true)
    (hi : PySem.W.findIn K (.ref C) "__init__" = some (some (.builtin "object.__init__")))
    (hb : ∀ self, PySem.W.Looks (model prog w) s.heap (bindSpecial (.builtin "object.__init__") self) (.builtin "object.__init__", [self]))
    (h : codeAny (model prog w) (A.under (.builtin "type.__call__" ⟨[.ref C], []⟩)) (.call (.builtin "object.__init__") ⟨[.ref (s.heap.objs.size + 1)], []⟩) (PySem.W.InitBack (s.heap.objs.size + 1) R)
      { s with heap := (s.heap.push PySem.W.emptyDict).push (PySem.W.instObj C s.heap.objs.size) }) :
    codeAny (model prog w) A (.call (.ref C) ⟨[], []⟩) R s := by
  obtain ⟨hh, g, d, t, os⟩ := s
  exact PySem.W.make_core (PySem.W.makes_of X hm) (PySem.W.looks_findIn X hi) hb (.inr ⟨rfl, rfl⟩) h
end

/-! ### the attributes as a list of pairs -/
def putF (f : Str) (v : V) : List (Str × V) → List (Str × V)
  | [] => [(f, v)]
  | (g, x) :: r => if g = f then (g, v) :: r else (g, x) :: putF f v r
theorem lookup_putF (f g : Str) (v : V) : ∀ fs : List (Str × V), (putF f v fs).lookup g = if g = f then some v else fs.lookup g
  | [] => by
    show List.lookup g [(f, v)] = _
    by_cases h : g = f
    · have hb : (g == f) = true := beq_iff_eq.mpr h
      simp only [List.lookup, hb, if_pos h]
    · have hb : (g == f) = false := beq_eq_false_iff_ne.mpr h
      simp only [List.lookup, hb, if_neg h]
  | (k, x) :: r => by
    have ih := lookup_putF f g v r
    rw [show putF f v ((k, x) :: r) = (if k = f then (k, v) :: r else (k, x) :: putF f v r) from rfl]
    by_cases hk : k = f
    · rw [if_pos hk]
      by_cases h : g = k
      · have hb : (g == k) = true := beq_iff_eq.mpr h
        simp only [List.lookup, hb, if_pos (h.trans hk)]
      · have hb : (g == k) = false := beq_eq_false_iff_ne.mpr h
        simp only [List.lookup, hb, if_neg (fun e : g = f => h (e.trans hk.symm))]
    · rw [if_neg hk]
      by_cases h : g = k
      · have hb : (g == k) = true := beq_iff_eq.mpr h
        simp only [List.lookup, hb, if_neg (fun e : g = f => hk (h.symm.trans e))]
      · have hb : (g == k) = false := beq_eq_false_iff_ne.mpr h
        simp only [List.lookup, hb]
        exact ih
theorem keys_putF (f : Str) (v : V) : ∀ fs : List (Str × V), f ∈ (putF f v fs).map (·.1) ∧ ∀ g, g ∈ fs.map (·.1) → g ∈ (putF f v fs).map (·.1)
  | [] => ⟨by simp [putF], fun g h => by simp at h⟩
  | (k, x) :: r => by
    obtain ⟨i1, i2⟩ := keys_putF f v r
    rw [show putF f v ((k, x) :: r) = (if k = f then (k, v) :: r else (k, x) :: putF f v r) from rfl]
    by_cases hk : k = f
    · rw [if_pos hk]
      subst hk
      exact ⟨by simp, fun g h => by simpa using h⟩
    · rw [if_neg hk]
      refine ⟨?_, fun g h => ?_⟩
      · rw [List.map_cons]
        exact List.mem_cons_of_mem _ i1
      · rw [List.map_cons] at h ⊢
        rcases List.mem_cons.mp h with e | e
        · exact List.mem_cons.mpr (.inl e)
        · exact List.mem_cons_of_mem _ (i2 g e)
theorem length_putF (f : Str) (v : V) : ∀ fs : List (Str × V), (putF f v fs).length ≤ fs.length + 1
  | [] => by simp [putF]
  | (k, x) :: r => by
    have ih := length_putF f v r
    rw [show putF f v ((k, x) :: r) = (if k = f then (k, v) :: r else (k, x) :: putF f v r) from rfl]
    by_cases hk : k = f
    · rw [if_pos hk, List.length_cons, List.length_cons]; omega
    · rw [if_neg hk, List.length_cons, List.length_cons]; omega

theorem RelO.some_of {v : V} {o : Option Value} (r : RelO (some v) o) : ∃ u, o = some u ∧ RelV v u := by
  cases o with
  | none => exact (show False from r).elim
  | some u => exact ⟨u, rfl, r⟩
theorem RelO.none_of {o : Option Value} (r : RelO none o) : o = none := by
  cases o with
  | none => rfl
  | some u => exact (show False from r).elim
theorem handed_of {v : V} {u : Value} (r : RelV v u) : PySem.W.handedIn u = true := by
  cases v with
  | non => cases (show u = Value.none from r); rfl
  | bl b => cases (show u = Value.bool b from r); rfl
  | int i => obtain ⟨t, e⟩ := (show ∃ t, u = Value.int i t from r); cases e; rfl
  | str x => obtain ⟨t, e⟩ := (show ∃ t, u = Value.str x t from r); cases e; rfl
  | byt b => obtain ⟨t, e⟩ := (show ∃ t, u = Value.bytes b t from r); cases e; rfl
  | flt b => obtain ⟨t, e⟩ := (show ∃ t, u = Value.float b t from r); cases e; rfl
  | ref a => cases (show u = Value.ref a from r); rfl
  | ty n => cases (show u = Value.type n from r); rfl

section
variable {P : Program} {w : World} {H H' : Hp} {h h' : Heap} {a C dx : Addr} {fs fs' : List (Str × V)}
theorem ins_get (hok : HOk P w H h) (e : H a = some (.ins C dx fs)) : ∃ mA, ObjM h a dx C mA ∧ (∀ f, RelO (fs.lookup f) (mA f)) ∧ PySem.Within mA (fs.map (·.1)) ∧ fs.length ≤ 1000 ∧ H dx = some (.own a) := by
  obtain ⟨d, z, ne, ob, mA, n, r, q⟩ := (show ObjOk P w H h a (.ins C dx fs) from hok a _ e)
  exact ⟨mA, ⟨ob, n, ne⟩, r, q, z, d⟩
end

/-! ### what of the text a class must have -/
structure Cls (K : PySem.W.Frag) (C : Addr) : Prop where
  pg : PySem.W.plainGet K C Str.empty = true
  hd : PySem.W.hasDictIn K C = true
  po : PySem.W.plainOver K C = true
  sa : PySem.W.findIn K (.ref C) "__setattr__" = some (some (.builtin "object.__setattr__"))
theorem Cls.get {K : PySem.W.Frag} {C : Addr} (c : Cls K C) (f : Str) : PySem.W.plainGet K C f = true := c.pg
/-- no class of it has the name -/
def NoAttr (K : PySem.W.Frag) (C : Addr) (f : Str) : Prop := PySem.W.findIn K (.ref C) f = some none
theorem NoAttr.taker {K : PySem.W.Frag} {C : Addr} {f : Str} (n : NoAttr K C f) : PySem.W.takerIn K C f = some none := by
  unfold PySem.W.takerIn
  rw [show PySem.W.findIn K (.ref C) f = some none from n]
  rfl
/-- a constant of the class -/
structure Con (K : PySem.W.Frag) (C : Addr) (f : Str) (v : V) (u : Value) : Prop where
  at_ : PySem.W.findIn K (.ref C) f = some (some u)
  rel : RelV v u
  get : PySem.W.specialIn K u "__get__" = some none
  cp : PySem.W.copiedNames.contains f = false
/-- a method: a plain def of the class or of one above it -/
structure Meth (K : PySem.W.Frag) (C : Addr) (m : Str) (f : Addr) : Prop where
  at_ : PySem.W.findIn K (.ref C) m = some (some (.ref f))
  fn : PySem.W.isFn K (.ref f) = true
  kp : PySem.W.keepIn K (.ref f) = true

section
variable {X : Cx} {pins : List (Addr × Obj)} {σ : St} {H : Hp} {s : Shared} {a C dx : Addr} {fs : List (Str × V)} {f : Str} {v : V} {A : Around} {E : Value → Shared → Prop}

theorem getattr_ok {b : Bool} {Q : Value → Shared → Prop} (I : Inv X pins σ H s) (e : H a = some (.ins C dx fs)) (c : Cls X.K C) (n : NoAttr X.K C f) (l : fs.lookup f = some v)
    (h : ∀ u s', Inv X pins σ H s' → RelV v u → Q u s') : wpAny (model X.prog X.w) A (getAttr (.ref a) f b) Q E s := by
  obtain ⟨mA, O, r, _, _, _⟩ := ins_get I.hok e
  obtain ⟨u, hu, ru⟩ := RelO.some_of (v := v) (o := mA f) (by rw [← l]; exact r f)
  exact get_map I.kIn O (c.get f) c.hd n hu (handed_of ru) (h u _ (I.tok _) ru)

theorem getcon_ok {b : Bool} {u : Value} {Q : Value → Shared → Prop} (I : Inv X pins σ H s) (e : H a = some (.ins C dx fs)) (c : Cls X.K C) (k : Con X.K C f v u) (l : fs.lookup f = none)
    (h : ∀ s', Inv X pins σ H s' → Q u s') : wpAny (model X.prog X.w) A (getAttr (.ref a) f b) Q E s := by
  obtain ⟨mA, O, r, _, _, _⟩ := ins_get I.hok e
  have hn : mA f = none := RelO.none_of (by rw [← l]; exact r f)
  exact get_const I.kIn O (c.get f) c.hd k.at_ k.get k.cp hn (handed_of k.rel) (h _ (I.tok _))

theorem getmeth_ok {m : Str} {g : Addr} {pl : Sem Bool} {Q : Value × List Value → Shared → Prop} (I : Inv X pins σ H s) (e : H a = some (.ins C dx fs)) (c : Cls X.K C) (k : Meth X.K C m g) (l : fs.lookup m = none)
    (h : Q (.ref g, [.ref a]) s) : wpAny (model X.prog X.w) A (getMethod (.ref a) m pl) Q E s := by
  obtain ⟨mA, O, r, _, _, _⟩ := ins_get I.hok e
  have hn : mA m = none := RelO.none_of (by rw [← l]; exact r m)
  exact get_meth I.kIn O (c.get m) k.at_ k.fn hn h

theorem setattr_ok {y : V} {u : Value} {Q : Unit → Shared → Prop} (I : Inv X pins σ H s) (e : H a = some (.ins C dx fs)) (c : Cls X.K C) (n : NoAttr X.K C f) (hl : fs.length < 1000) (ry : RelV y u)
    (h : ∀ s', Inv X pins σ (upd H a (.ins C dx (putF f y fs))) s' → Q () s') : wpAny (model X.prog X.w) A (setAttr (.ref a) f u) Q E s := by
  obtain ⟨mA, O, r, wi, _, ho⟩ := ins_get I.hok e
  have hz : (fs.map (·.1)).length ≤ sizeLine := by rw [List.length_map, sizeLine_eq]; omega
  refine set_map I.kIn O c.sa c.po n.taker c.hd wi hz fun h' O' sb => h _ ?_
  have hd : ∃ o, h'.get? dx = some o := let ⟨o, _, _, e', _⟩ := O'.ns; ⟨o, e'⟩
  refine I.write (x := a) (e := dx) (by rw [e]; exact True.intro) (.inr ho) (fun b q hb z => (sb.2 b hb).trans z) hd ?_
  refine ⟨by rw [upd_ne O.ne]; exact ho, ?_, O.ne, O'.obj, _, O'.ns, fun g => ?_, fun g hg => ?_⟩
  · have := length_putF f y fs; omega
  · show RelO ((putF f y fs).lookup g) (if g = f then some u else mA g)
    rw [lookup_putF]
    by_cases q : g = f
    · rw [if_pos q, if_pos q]; exact ry
    · rw [if_neg q, if_neg q]; exact r g
  · by_cases q : g = f
    · rw [q]; exact (keys_putF f y fs).1
    · refine (keys_putF f y fs).2 g (wi g fun z => hg ?_)
      show (if g = f then some u else mA g) = none
      rw [if_neg q]; exact z

/-- a new instance, tracked, without attributes -/
theorem Inv.made (I : Inv X pins σ H s) : Inv X pins σ (upd (upd H s.heap.objs.size (.own (s.heap.objs.size + 1))) (s.heap.objs.size + 1) (.ins C s.heap.objs.size []))
    { s with heap := (s.heap.push PySem.W.emptyDict).push (PySem.W.instObj C s.heap.objs.size) } := by
  have e1 : (s.heap.push PySem.W.emptyDict).get? s.heap.objs.size = some PySem.W.emptyDict := Heap.get?_push_size s.heap rfl
  have e2 : ((s.heap.push PySem.W.emptyDict).push (PySem.W.instObj C s.heap.objs.size)).get? (s.heap.objs.size + 1) = some (PySem.W.instObj C s.heap.objs.size) := by
    have := Heap.get?_push_size (s.heap.push PySem.W.emptyDict) (o := PySem.W.instObj C s.heap.objs.size) rfl
    rwa [Heap.size_push] at this
  have e3 : (s.heap.push PySem.W.emptyDict).Ns s.heap.objs.size (fun _ => none) := ⟨PySem.W.emptyDict, #[], _, e1, rfl, (fun e he => absurd he (by simp)), fun _ => rfl⟩
  have I1 := I.laid (a := s.heap.objs.size) (o := .own (s.heap.objs.size + 1)) (h' := s.heap.push PySem.W.emptyDict) (t' := s.toks) (fun b u q => Heap.get?_push_of_some _ q) (Nat.le_refl _) ⟨_, e1⟩
  refine I1.laid (a := s.heap.objs.size + 1) (o := .ins C s.heap.objs.size []) (t' := s.toks) (fun b u q => Heap.get?_push_of_some _ q) (Nat.le_of_eq (Heap.size_push _ _)) ?_
  have ne : s.heap.objs.size ≠ s.heap.objs.size + 1 := Nat.ne_of_lt (Nat.lt_succ_self _)
  refine ⟨by rw [upd_ne ne, upd_same], Nat.zero_le _, ne, e2, fun _ => none, (Heap.Ns1.of_empty e3).at fun o q => Heap.get?_push_of_some _ q, fun _ => True.intro, fun y hy => absurd rfl hy⟩

/-- e.f where nothing but the object is asked: through attributeBase (super) and the last hold -/
theorem attr_of {prog : Program} {w : World} {env : Env} {e : Expr} {f : Str} {pos : Pos} {s : Shared} {Q : Value → Shared → Prop} (hb : attributeBase e f env (eval e env) = eval e env)
    (h : wpAny (model prog w) A (eval e env) (fun o s₁ => wpAny (model prog w) A (getAttr o f true) Q E s₁) E s) : wpAny (model prog w) A (eval (.Attribute e f pos) env) Q E s :=
  Attribute_any_ h (by rw [arm_eval_Attribute, hb])
end

/-! ### readings and rules -/
/-- e.f, an attribute of the instance -/
def tFld (K : PySem.W.Frag) (ta : TE) (f : Str) : TE := fun σ H Q => ta σ H fun x H1 => ∃ a C dx fs v, x = .ref a ∧ H1 a = some (.ins C dx fs) ∧ Cls K C ∧ NoAttr K C f ∧ fs.lookup f = some v ∧ Q v H1
/-- e.f, a constant of the class -/
def tCon (K : PySem.W.Frag) (ta : TE) (f : Str) : TE := fun σ H Q => ta σ H fun x H1 => ∃ a C dx fs v u, x = .ref a ∧ H1 a = some (.ins C dx fs) ∧ Cls K C ∧ Con K C f v u ∧ fs.lookup f = none ∧ Q v H1
/-- e.f = value -/
def sFld (K : PySem.W.Frag) (ta tv : TE) (f : Str) : TS := fun D σ H => tv σ H fun y H1 => ta σ H1 fun x H2 => ∃ a C dx fs, x = .ref a ∧ H2 a = some (.ins C dx fs) ∧ Cls K C ∧ NoAttr K C f ∧ fs.length < 1000 ∧
  D.nx σ (upd H2 a (.ins C dx (putF f y fs)))
/-- an augmented operator on two values -/
def InOp (X : Cx) (op : Operator) (rd : V → V → Hp → VK → Prop) : Prop :=
  ∀ (pins : List (Addr × Obj)) (s : Shared) (σ : St) (H : Hp) (x y : V) (u v : Value) (Q : VK), Inv X pins σ H s → RelV x u → RelV y v → rd x y H Q → wpAny (model X.prog X.w) X.A (inplaceOp op u v) (EP X pins σ Q) X.xe s
/-- e.f op= value -/
def sFldAug (K : PySem.W.Frag) (ta tv : TE) (rd : V → V → Hp → VK → Prop) (f : Str) : TS := fun D σ H => ta σ H fun x H1 => ∃ a C dx fs v, x = .ref a ∧ H1 a = some (.ins C dx fs) ∧ Cls K C ∧ NoAttr K C f ∧ fs.lookup f = some v ∧
  tv σ H1 fun y H2 => rd v y H2 fun z H3 => ∃ dx' fs', H3 a = some (.ins C dx' fs') ∧ fs'.length < 1000 ∧ D.nx σ (upd H3 a (.ins C dx' (putF f z fs')))

section
variable {X : Cx} {o e value : Expr} {f : Str} {pos pos' tpos : Pos} {ta tv : TE}
theorem pe_fld (he : PE X e ta) (hb : attributeBase e f X.env (eval e X.env) = eval e X.env) : PE X (.Attribute e f pos) (tFld X.K ta f) := by
  intro pins s σ H Q I h
  refine attr_of hb (thn (he pins s σ H _ I h) fun u s1 ⟨x, H1, I1, rx, a, C, dx, fs, v, ex, ea, c, n, l, q⟩ => ?_)
  subst ex
  obtain rfl : u = Value.ref a := rx
  exact getattr_ok I1 ea c n l fun u' s2 I2 ru => ⟨v, H1, I2, ru, q⟩
theorem pe_con (he : PE X e ta) (hb : attributeBase e f X.env (eval e X.env) = eval e X.env) : PE X (.Attribute e f pos) (tCon X.K ta f) := by
  intro pins s σ H Q I h
  refine attr_of hb (thn (he pins s σ H _ I h) fun u s1 ⟨x, H1, I1, rx, a, C, dx, fs, v, u0, ex, ea, c, k, l, q⟩ => ?_)
  subst ex
  obtain rfl : u = Value.ref a := rx
  exact getcon_ok I1 ea c k l fun s2 I2 => ⟨v, H1, I2, k.rel, q⟩
theorem ps_fld (ha : PE X o ta) (hv : PE X value tv) (hs : swapsWith value (some (.Attribute o f pos')) pos.line X.env = pure false) : PS X (.Assign [.Attribute o f pos'] value pos) (sFld X.K ta tv f) := by
  intro pins s σ H D I h
  refine plainObj_wpAny_Assign_Attribute (thn (hv pins s σ H _ I h) fun u s1 ⟨y, H1, I1, ry, q⟩ => thn (ha pins s1 σ H1 _ I1 q) fun ov s2 ⟨x, H2, I2, rx, a, C, dx, fs, ex, ea, c, n, l, q2⟩ => ?_) hs
  subst ex
  obtain rfl : ov = Value.ref a := rx
  exact setattr_ok I2 ea c n l ry fun s3 I3 => ⟨σ, _, I3, q2⟩
theorem ps_fldaug {op : Operator} {rd : V → V → Hp → VK → Prop} (ha : PE X o ta) (hv : PE X value tv) (hop : InOp X op rd) : PS X (.AugAssign (.Attribute o f tpos) op value pos) (sFldAug X.K ta tv rd f) := by
  intro pins s σ H D I h
  refine wpAny_AugAssign_AttributeAny (thn (ha pins s σ H _ I h) fun ov s1 ⟨x, H1, I1, rx, a, C, dx, fs, v, ex, ea, c, n, l, q⟩ => ?_)
  subst ex
  obtain rfl : ov = Value.ref a := rx
  refine getattr_ok I1 ea c n l fun u s2 I2 ru => thn (hv pins s2 σ H1 _ I2 q) fun w3 s3 ⟨y, H2, I3, ry, q3⟩ => thn (hop pins s3 σ H2 v y u w3 _ I3 ru ry q3) fun w4 s4 ⟨z, H3, I4, rz, dx', fs', ea', l', q4⟩ => ?_
  exact setattr_ok I4 ea' c n l' rz fun s5 I5 => ⟨σ, _, I5, q4⟩
def rAdd : V → V → Hp → VK → Prop := fun x y H Q => ∃ i j, x = .int i ∧ y = .int j ∧ Q (.int (i + j)) H
def rSub : V → V → Hp → VK → Prop := fun x y H Q => ∃ i j, x = .int i ∧ y = .int j ∧ Q (.int (i - j)) H
theorem in_add : InOp X .Add rAdd := by
  rintro pins s σ H x y u v Q I rx ry ⟨i, j, rfl, rfl, q⟩
  obtain ⟨t, rfl⟩ := (show ∃ t, u = Value.int i t from rx)
  obtain ⟨t', rfl⟩ := (show ∃ t', v = Value.int j t' from ry)
  exact PyProof.Rows.iadd_int ⟨.int (i + j), H, I.tok _, ⟨_, rfl⟩, q⟩
theorem in_sub : InOp X .Sub rSub := by
  rintro pins s σ H x y u v Q I rx ry ⟨i, j, rfl, rfl, q⟩
  obtain ⟨t, rfl⟩ := (show ∃ t, u = Value.int i t from rx)
  obtain ⟨t', rfl⟩ := (show ∃ t', v = Value.int j t' from ry)
  exact PyProof.Rows.isub_int ⟨.int (i - j), H, I.tok _, ⟨_, rfl⟩, q⟩

/-- what is between an instance and its method: the tree of a method call -/
theorem methcall_of {pl : Sem Bool} {m : Str} {apos : Pos} {args : List Expr} {pins : List (Addr × Obj)} {s : Shared} {σ : St} {H : Hp} {Q : Value → Shared → Prop} {te : TE} (he : PE X e te) (I : Inv X pins σ H s)
    (h : te σ H fun x H1 => ∃ a C dx fs g, x = .ref a ∧ H1 a = some (.ins C dx fs) ∧ Cls X.K C ∧ Meth X.K C m g ∧ fs.lookup m = none ∧
      ∀ s1, Inv X pins σ H1 s1 → wpAny (model X.prog X.w) X.A (callWith pos (.ref g) [.ref a] (backTo pos (starEach args X.env)) (backToKw pos (keywordEach [] X.env))) Q X.xe s1)
    (ht : eval (.Call (.Attribute e m apos) args [] pos) X.env = (do
      let ov ← eval e X.env
      standAt apos.atName
      let (f, first) ← holding [ov] (getMethod ov m pl)
      callWith pos f first (backTo pos (starEach args X.env)) (backToKw pos (keywordEach [] X.env)))) :
    wpAny (model X.prog X.w) X.A (eval (.Call (.Attribute e m apos) args [] pos) X.env) Q X.xe s := by
  refine PySem.W.methodCall_KW (pl := pl) (thn (he pins s σ H _ I h) fun u s1 ⟨x, H1, I1, rx, a, C, dx, fs, g, ex, ea, c, k, l, q⟩ => ?_) ht
  subst ex
  obtain rfl : u = Value.ref a := rx
  exact getmeth_ok I1 ea c k l (q s1 I1)
end

/-! ### isinstance -/
section
variable {X : Cx} {pins : List (Addr × Obj)} {σ : St} {H : Hp} {s : Shared} {A : Around} {E : Value → Shared → Prop} {Q : Value → Shared → Prop} {c : Value} {b : Bool}
/-- the type of a value, as the fragment's deciders take it; for an instance its class -/
inductive TyOf (K : PySem.W.Frag) (H : Hp) : V → Value → Prop where
  | non : TyOf K H .non (.type "NoneType")
  | bl (x : Bool) : TyOf K H (.bl x) (.type "bool")
  | int (i : Int) : TyOf K H (.int i) (.type "int")
  | str (x : Str) : TyOf K H (.str x) (.type "str")
  | flt (x : UInt64) : TyOf K H (.flt x) (.type "float")
  | lst {a : Addr} {xs : List V} (e : H a = some (.lst xs)) : TyOf K H (.ref a) (.type "list")
  | frz {a : Addr} {o : Obj} {xs : List V} (e : H a = some (.frz o (.lst xs))) : TyOf K H (.ref a) (.type "list")
  | tup {a : Addr} {xs : List V} (e : H a = some (.tup xs)) : TyOf K H (.ref a) (.type "tuple")
  | dK {a : Addr} {kvs : List (Key × V)} (e : H a = some (.dK kvs)) : TyOf K H (.ref a) (.type "dict")
  | dT {a : Addr} {kvs : List (List Key × V)} (e : H a = some (.dT kvs)) : TyOf K H (.ref a) (.type "dict")
  | ins {a C dx : Addr} {fs : List (Str × V)} (e : H a = some (.ins C dx fs)) (cl : Cls K C) (ha : PySem.W.findIn K (.ref C) "__class__" = some (some (.builtin "object.__class__")))
      (hn : PySem.W.specialIn K (.builtin "object.__class__") "__get__" = some (some (.builtin "getset_descriptor.__get__"))) (htk : PySem.W.takesIn K (.builtin "object.__class__") = some true)
      (hm : PySem.W.mroIn K C (.type "object") = some true) : TyOf K H (.ref a) (.ref C)
/-- isinstance(x, c) for one class c, a built-in or an own one: kitOne's answer -/
theorem isinst_ok {x : V} {u t : Value} (I : Inv X pins σ H s) (rx : RelV x u) (ty : TyOf X.K H x t) (e : PySem.W.kitOne X.K t c = some b) (h : ∀ tk, Q (.bool b) { s with toks := tk }) :
    wpAny (model X.prog X.w) A (call (.builtin "isinstance") [u, c]) Q E s := by
  cases ty with
  | non => cases (show u = Value.none from rx); exact PySem.W.kia_one PySem.W.kitx_none I.kIn True.intro e (fun z => nomatch z) h
  | bl y => cases (show u = Value.bool y from rx); exact PySem.W.kia_one PySem.W.kitx_bool I.kIn True.intro e (fun z => nomatch z) h
  | int i => obtain ⟨t, q⟩ := (show ∃ t, u = Value.int i t from rx); cases q; exact PySem.W.kia_one PySem.W.kitx_int I.kIn True.intro e (fun z => nomatch z) h
  | str y => obtain ⟨t, q⟩ := (show ∃ t, u = Value.str y t from rx); cases q; exact PySem.W.kia_one PySem.W.kitx_str I.kIn True.intro e (fun z => nomatch z) h
  | flt y => obtain ⟨t, q⟩ := (show ∃ t, u = Value.float y t from rx); cases q; exact PySem.W.kia_one PySem.W.kitx_float I.kIn True.intro e (fun z => nomatch z) h
  | @lst a xs ea =>
    cases (show u = Value.ref a from rx)
    obtain ⟨_, _, n, _, h1⟩ := (show ObjOk X.prog X.w H s.heap a (.lst xs) from I.hok a _ ea)
    exact PySem.W.kia_one PySem.W.kitx_list I.kIn ⟨_, h1, rfl⟩ e (fun z => nomatch z) h
  | @frz a ob xs ea =>
    cases (show u = Value.ref a from rx)
    obtain ⟨_, _, _, n, _, h1⟩ := (show ObjOk X.prog X.w H s.heap a (.frz ob (.lst xs)) from I.hok a _ ea)
    exact PySem.W.kia_one PySem.W.kitx_list I.kIn ⟨_, h1, rfl⟩ e (fun z => nomatch z) h
  | @tup a xs ea =>
    cases (show u = Value.ref a from rx)
    obtain ⟨_, _, _, p⟩ := (show ObjOk X.prog X.w H s.heap a (.tup xs) from I.hok a _ ea)
    obtain ⟨o, h1, h2, _⟩ := p
    exact PySem.W.kia_one PySem.W.kitx_tuple I.kIn ⟨o, h1, h2⟩ e (fun z => nomatch z) h
  | @dK a kvs ea =>
    cases (show u = Value.ref a from rx)
    obtain ⟨_, _, vs, _, p⟩ := (show ObjOk X.prog X.w H s.heap a (.dK kvs) from I.hok a _ ea)
    obtain ⟨o, es, ep, h1, h2, _⟩ := p
    exact PySem.W.kia_one PySem.W.kitx_dict I.kIn ⟨o, h1, h2.1⟩ e (fun z => nomatch z) h
  | @dT a kvs ea =>
    cases (show u = Value.ref a from rx)
    obtain ⟨_, _, xs, _, o, es, ep, h1, h2, _⟩ := (show ObjOk X.prog X.w H s.heap a (.dT kvs) from I.hok a _ ea)
    exact PySem.W.kia_one PySem.W.kitx_dict I.kIn ⟨o, h1, h2.1⟩ e (fun z => nomatch z) h
  | @ins a C dx fs ea cl ha hn htk hm =>
    cases (show u = Value.ref a from rx)
    obtain ⟨mA, O, _⟩ := ins_get I.hok ea
    obtain ⟨od, J, _⟩ := O.look
    exact PySem.W.kia_one (PySem.W.kitx_own (cl.get _) cl.hd ha hn htk hm) I.kIn J e (fun z => nomatch z) h
end
end L2

namespace L2
open PySem PySem.Spec PyProof.Rows

/-! ### room -/
structure Room (k : Nat) (A : Around) : Prop where
  hd : A.handled = none
  dp : A.depth + 3 * k + 5 < recursionLimit
  un : A.units + 16 * k + 200 < cLine
  gd : A.guards = some []
theorem Room.mono {j k : Nat} {A : Around} (r : Room k A) (h : j ≤ k) : Room j A := ⟨r.hd, by have := r.dp; omega, by have := r.un; omega, r.gd⟩
theorem Room.deeper {k : Nat} {A : Around} (r : Room (k + 1) A) (env : Env) : Room k (A.deeper env) :=
  ⟨r.hd, by have := r.dp; show A.depth + 1 + 3 * k + 5 < _; omega, by have := r.un; show A.units + 3 + 16 * k + 200 < _; omega, by first | exact r.gd | (simpa [Around.deeper] using r.gd)⟩
theorem Room.in1 {k : Nat} {A : Around} (r : Room (k + 1) A) : Room k A.in1 :=
  ⟨r.hd, by have := r.dp; show A.depth + 3 * k + 5 < _; omega, by have := r.un; show A.units + 1 + 16 * k + 200 < _; omega, r.gd⟩
theorem make_depth {A : Around} {C : Addr} {us : List Value} {kw : List (Str × Value)} : (A.under (.builtin "type.__call__" ⟨.ref C :: us, kw⟩)).depth = A.depth + 1 := by
  first | rfl | simp [Around.under, Code.weight, Code.isCreation, Code.isGuard, Code.isCaller, Code.frames, Code.isFrame, guardIds]
theorem make_units {A : Around} {C : Addr} {us : List Value} {kw : List (Str × Value)} : (A.under (.builtin "type.__call__" ⟨.ref C :: us, kw⟩)).units = A.units + 1 := by
  first | rfl | simp [Around.under, Code.cUnits, Code.frames, Code.isFrame]
theorem Room.make {k : Nat} {A : Around} (r : Room (k + 1) A) (C : Addr) (us : List Value) (kw : List (Str × Value)) : Room k (A.under (.builtin "type.__call__" ⟨.ref C :: us, kw⟩)) :=
  ⟨r.hd, by have := r.dp; rw [make_depth]; omega, by have := r.un; rw [make_units]; omega, by first | exact r.gd | (simpa [Around.under, pushGuards, Code.guards, Code.isGuard, guardIds] using r.gd)⟩
theorem Room.depth {k : Nat} {A : Around} (r : Room k A) : A.depth < recursionLimit := by have := r.dp; omega
theorem Room.units {k : Nat} {A : Around} (r : Room k A) : A.units + 64 < cLine := by have := r.un; omega
theorem Room.units0 {k : Nat} {A : Around} (r : Room k A) : A.units < cLine := by have := r.un; omega

/-! ### argument lists and displays -/
def tNil : TA := fun _ H Q => Q [] H
def tCons (ta : TE) (tr : TA) : TA := fun σ H Q => ta σ H fun x H1 => tr σ H1 fun xs H2 => Q (x :: xs) H2
section
variable {X : Cx} {e : Expr} {es : List Expr} {te : TE} {t : TA} {pos : Pos}
theorem pa_nil : PA X [] tNil := fun _ _ _ _ H Q I h => Calls.spliced_nil ⟨[], H, I, .nil, h⟩
theorem pa_cons (ha : PE X e te) (hr : PA X es t) (hs : starEach (e :: es) X.env = (false, eval e X.env) :: starEach es X.env := by rfl) : PA X (e :: es) (tCons te t) := by
  intro pos pins s σ H Q I h
  rw [hs]
  show wpAny _ _ (spliced ((false, eval e X.env) :: backTo pos (starEach es X.env))) _ _ s
  refine Calls.spliced_cons (thn (ha pins s σ H _ I h) fun u s1 ⟨x, H1, I1, r1, q1⟩ => ?_)
  exact thn (hr pos pins s1 σ H1 _ I1 q1) fun us s2 ⟨xs, H2, I2, r2, q2⟩ => ⟨x :: xs, H2, I2, .cons r1 r2, q2⟩

/-- a tuple, a list of written items -/
def tTup (t : TA) : TE := fun σ H Q => t σ H fun xs H1 => xs.length ≤ sizeLine ∧ ∀ p, H1 p = none → Q (.ref p) (upd H1 p (.tup xs))
def tLst (t : TA) : TE := fun σ H Q => t σ H fun xs H1 => xs.length ≤ sizeLine ∧ ∀ p, H1 p = none → Q (.ref p) (upd H1 p (.lst xs))
theorem pe_tup {x1} (h : PA X es t) : PE X (.Tuple es x1 pos) (tTup t) := by
  intro pins s σ H Q I hq
  refine wpAny_Tuple_spliced (thn (h pos pins s σ H _ I hq) fun us s1 ⟨xs, H1, I1, r, z, q⟩ => ⟨by rw [← r.length]; exact z, ?_⟩)
  have hf : H1 s1.heap.objs.size = none := I1.hok.fresh (Nat.le_refl _)
  refine ⟨.ref s1.heap.objs.size, upd H1 s1.heap.objs.size (.tup xs), I1.laid (t' := s1.toks) (fun b u e => Heap.get?_push_of_some _ e) (Nat.le_refl _) ?_, rfl, q _ hf⟩
  exact ⟨z, us, r, ⟨_, Heap.get?_push_size _ rfl, rfl, _, rfl⟩⟩
theorem pe_lst (h : PA X es t) : PE X (.List es pos) (tLst t) := by
  intro pins s σ H Q I hq
  refine wpAny_List_spliced (thn (h pos pins s σ H _ I hq) fun us s1 ⟨xs, H1, I1, r, z, q⟩ => ⟨by rw [← r.length]; exact z, ?_⟩)
  have hf : H1 s1.heap.objs.size = none := I1.hok.fresh (Nat.le_refl _)
  refine ⟨.ref s1.heap.objs.size, upd H1 s1.heap.objs.size (.lst xs), I1.laid (t' := s1.toks) (fun b u e => Heap.get?_push_of_some _ e) (Nat.le_refl _) ?_, rfl, q _ hf⟩
  exact ⟨z, us, 0, r, Heap.get?_push_size _ rfl⟩
end

/-! ### what a def promises -/
/-- a def's promise: the bound arguments in the parameters' order, the heap, the wanted end, the wanted exception -/
abbrev Sp := List V → Hp → VK → XK → Prop
/-- how an exception lies behind a call (file 08 gives it): the callers' frames, abstract heap and state ahead of the call, the wish, the exception, the state -/
abbrev CXT := List Env → Hp → Shared → XK → Value → Shared → Prop

/-- the state at a call -/
structure Env0 (P : Program) (w : World) (K : PySem.W.Frag) (mg : Str → Option Value) (base : Heap) (A : Around) (outer : List Env) (s : Shared) (H : Hp) : Prop where
  frames : A.frames = some outer
  mod : Mod K mg base
  bs : ∀ b o, base.get? b = some o → s.heap.get? b = some o ∧ H b = none
  bsz : base.objs.size ≤ s.heap.objs.size
  funs : s.heap.FunFrames base outer
  frf : ∀ b ∈ frs outer, H b = none
  hok : HOk P w H s.heap
  bare : AllBare s.gens
/-- a call's end -/
def CE (outer : List Env) (P : Program) (w : World) (H : Hp) (s : Shared) (Q : VK) (u : Value) (s' : Shared) : Prop :=
  ∃ v H', s'.os = s.os ∧ AllBare s'.gens ∧ Un (frs outer) [] H H' s.heap s'.heap ∧ HOk P w H' s'.heap ∧ RelV v u ∧ Q v H'
def CR (CX : CXT) (outer : List Env) (P : Program) (w : World) (H : Hp) (s : Shared) (Q : VK) (E : XK) (r : Result) (s' : Shared) : Prop :=
  match r with
  | .ok (.ret u) => CE outer P w H s Q u s'
  | .ok _ => False
  | .error e => CX outer H s E e s'
structure FnOk (P : Program) (w : World) (K : PySem.W.Frag) (mg : Str → Option Value) (base : Heap) (CX : CXT) (k : Nat) (f : Addr) (fd : FuncData) (ps : List Str) (sp : Sp) : Prop where
  len : ∀ vs H Q E, sp vs H Q E → vs.length = ps.length
  run : ∀ (A : Around) (outer : List Env) (s : Shared) (H : Hp) (args : Args) (us : List Value) (vs : List V) (Q : VK) (E : XK), Room k A → Env0 P w K mg base A outer s H → BindsTo s fd args (ps.zip us) → Vals vs us → sp vs H Q E →
    codeAny (model P w) A (.call (.ref f) args) (CR CX outer P w H s Q E) s
theorem FnOk.mono {P : Program} {w : World} {K : PySem.W.Frag} {mg : Str → Option Value} {base : Heap} {CX : CXT} {j k : Nat} {f : Addr} {fd : FuncData} {ps : List Str} {sp : Sp} (F : FnOk P w K mg base CX j f fd ps sp) (h : j ≤ k) :
    FnOk P w K mg base CX k f fd ps sp := ⟨F.len, fun A outer s H args us vs Q E hr => F.run A outer s H args us vs Q E (hr.mono h)⟩
/-- a weaker promise -/
theorem FnOk.imp {P : Program} {w : World} {K : PySem.W.Frag} {mg : Str → Option Value} {base : Heap} {CX : CXT} {k : Nat} {f : Addr} {fd : FuncData} {ps : List Str} {sp sp' : Sp} (F : FnOk P w K mg base CX k f fd ps sp)
    (h : ∀ vs H Q E, sp' vs H Q E → sp vs H Q E) : FnOk P w K mg base CX k f fd ps sp' :=
  ⟨fun vs H Q E q => F.len vs H Q E (h _ _ _ _ q), fun A outer s H args us vs Q E hr he hb hv hs => F.run A outer s H args us vs Q E hr he hb hv (h _ _ _ _ hs)⟩

theorem Env0.make {P : Program} {w : World} {K : PySem.W.Frag} {mg : Str → Option Value} {base : Heap} {A : Around} {outer : List Env} {s : Shared} {H : Hp} (e : Env0 P w K mg base A outer s H) (C : Addr) (us : List Value) (kw : List (Str × Value)) :
    Env0 P w K mg base (A.under (.builtin "type.__call__" ⟨.ref C :: us, kw⟩)) outer s H := ⟨by first | exact e.frames | (simpa [Around.under, Code.envs, Code.isFrame, pushEnvs] using e.frames), e.mod, e.bs, e.bsz, e.funs, e.frf, e.hok, e.bare⟩
theorem Env0.in1 {P : Program} {w : World} {K : PySem.W.Frag} {mg : Str → Option Value} {base : Heap} {A : Around} {outer : List Env} {s : Shared} {H : Hp} (e : Env0 P w K mg base A outer s H) :
    Env0 P w K mg base A.in1 outer s H := ⟨e.frames, e.mod, e.bs, e.bsz, e.funs, e.frf, e.hok, e.bare⟩

section
variable {X : Cx} {pins : List (Addr × Obj)} {σ : St} {H : Hp} {s s' : Shared}
/-- from a body: what a callee wants -/
theorem Inv.env0 (I : Inv X pins σ H s) : Env0 X.prog X.w X.K X.mg X.base X.A X.stack s H :=
  ⟨I.ok.frames, I.ok.mod, I.bs, Nat.le_trans I.ok.bsz I.sz, I.stack, I.stkFree, I.hok, I.bare⟩
/-- behind a call -/
theorem Inv.after {Q : VK} {u : Value} (I : Inv X pins σ H s) (h : CE X.stack X.prog X.w H s Q u s') : EP X pins σ Q u s' := by
  obtain ⟨v, H', os, bare, un, hok, r, q⟩ := h
  obtain ⟨hh, g, d, t, os'⟩ := s'
  obtain rfl : os' = s.os := os
  exact ⟨v, H', I.call (h' := hh) (g' := g) (d' := d) (t' := t) (ch := []) un hok bare (fun b z => absurd z (by simp)), r, q⟩
end

/-! ### calls -/
/-- f(..): the written arguments, then the defaults dvs; E: what is wanted of an exception -/
def tCall (sp : Sp) (dvs : List V) (E : XK) (t : TA) : TE := fun σ H Q => t σ H fun vs H1 => sp (vs ++ dvs) H1 Q E
/-- o.m(..) of an instance of the class at C -/
def tMeth (C : Addr) (m : Str) (sp : Sp) (dvs : List V) (E : XK) (ta : TE) (t : TA) : TE := fun σ H Q => ta σ H fun x H1 => ∃ a dx fs, x = .ref a ∧ H1 a = some (.ins C dx fs) ∧ fs.lookup m = none ∧
  t σ H1 fun vs H2 => sp (x :: (vs ++ dvs)) H2 Q E
/-- C(..): a new instance and its dict, then __init__ -/
def tMake (C : Addr) (sp : Sp) (dvs : List V) (E : XK) (t : TA) : TE := fun σ H Q => t σ H fun vs H1 => ∀ x dx, H1 x = none → H1 dx = none → dx ≠ x →
  sp (.ref x :: (vs ++ dvs)) (upd (upd H1 dx (.own x)) x (.ins C dx [])) (fun v H2 => v = .non ∧ Q (.ref x) H2) E

/-- how the parameters are bound: us the positional arguments, kw the keywords' values by name, ds the defaults that fill up -/
def Binds (K : PySem.W.Frag) (fd : FuncData) (ps : List Str) (ds : List Value) : Prop :=
  ∀ (s : Shared) (us : List Value), K.In s.heap → (us ++ ds).length = ps.length → BindsTo s fd ⟨us, []⟩ (ps.zip (us ++ ds))
/-- every parameter is given -/
theorem Binds.all {K : PySem.W.Frag} {fd : FuncData} {ps : List Str} (h : ∀ us : List Value, us.length = ps.length → bindArgs fd ⟨us, []⟩ = pure (ps.zip us)) : Binds K fd ps [] := fun s us _ hl => by
  rw [List.append_nil] at hl ⊢
  exact .of_eq (h us hl)

/-- an exception of a callee reaches what this body wants of exceptions -/
def Passes (CX : CXT) (X : Cx) (E : XK) : Prop := ∀ (pins : List (Addr × Obj)) (σ : St) (H : Hp) (s : Shared) (e : Value) (s' : Shared), Inv X pins σ H s → CX X.stack H s E e s' → X.xe e s'

section
variable {X : Cx} {CX : CXT} {k : Nat} {f C : Addr} {fd : FuncData} {ps : List Str} {sp : Sp} {dvs : List V} {ds : List Value} {E : XK} {x m : Str} {p pos apos : Pos} {e o : Expr} {es : List Expr} {ta : TE} {t : TA}

/-- the callee runs -/
theorem run_fn {pins : List (Addr × Obj)} {σ : St} {H : Hp} {s : Shared} {Q : VK} {us : List Value} {vs : List V} (F : FnOk X.prog X.w X.K X.mg X.base CX k f fd ps sp) (hr : Room k X.A) (hb : Binds X.K fd ps ds) (hd : Vals dvs ds) (hx : Passes CX X E)
    (I : Inv X pins σ H s) (r : Vals vs us) (h : sp (vs ++ dvs) H Q E) : wpAny (model X.prog X.w) X.A (call (.ref f) us) (EP X pins σ Q) X.xe s := by
  have r2 : Vals (vs ++ dvs) (us ++ ds) := r.append hd
  have hl : (us ++ ds).length = ps.length := by rw [← r2.length]; exact F.len _ _ _ _ h
  refine wpAny_call (codeAny_mono (F.run X.A X.stack s H ⟨us, []⟩ (us ++ ds) (vs ++ dvs) Q E hr I.env0 (hb s us I.kIn hl) r2 h) fun r s' hq => ?_)
  cases r with
  | error e => exact hx pins σ H s e s' I hq
  | ok fl =>
    cases fl with
    | ret u => exact I.after hq
    | next => exact False.elim hq
    | brk => exact False.elim hq
    | cont => exact False.elim hq

theorem pe_call (F : FnOk X.prog X.w X.K X.mg X.base CX k f fd ps sp) (hr : Room k X.A) (hg : Gl X x) (hm : X.mg x = some (.ref f)) (hk : PySem.W.keepIn X.K (.ref f) = true) (hb : Binds X.K fd ps ds) (hd : Vals dvs ds) (hx : Passes CX X E)
    (ha : PA X (e :: es) t) (hdb : (x == ("__debug__" : Str)) = false := by decide) (he : starEach (e :: es) X.env = (false, eval e X.env) :: starEach es X.env := by rfl) (hpl : (backTo pos (starEach es X.env)).any (·.1) = false := by rfl) :
    PE X (.Call (.Name x p) (e :: es) [] pos) (tCall sp dvs E t) := by
  intro pins s σ H Q I h
  refine wpAny_Call_Name_kw (ld_glob I hg hm ?_ hdb)
  refine PySem.W.callWith_K (h₀ := X.base) I.ok.mod.kin hk (thn (ha pos pins s σ H _ I h) fun us s1 ⟨vs, H1, I1, r, q⟩ => ⟨I1.kIn, ?_⟩) he hpl
  exact run_fn F hr hb hd hx I1 r q
theorem pe_call0 (F : FnOk X.prog X.w X.K X.mg X.base CX k f fd ps sp) (hr : Room k X.A) (hg : Gl X x) (hm : X.mg x = some (.ref f)) (hk : PySem.W.keepIn X.K (.ref f) = true) (hb : Binds X.K fd ps ds) (hd : Vals dvs ds) (hx : Passes CX X E)
    (hdb : (x == ("__debug__" : Str)) = false := by decide) : PE X (.Call (.Name x p) [] [] pos) (tCall sp dvs E tNil) := by
  intro pins s σ H Q I h
  refine wpAny_Call_Name_kw (ld_glob I hg hm ?_ hdb)
  exact PySem.W.callWith_K0 I.kIn hk (run_fn (us := []) F hr hb hd hx I .nil h)

/-- o.m(e, ..) -/
theorem pe_meth {pl : Sem Bool} (he : PE X o ta) (c : Cls X.K C) (hm : Meth X.K C m f) (F : FnOk X.prog X.w X.K X.mg X.base CX k f fd ps sp) (hr : Room k X.A) (hb : Binds X.K fd ps ds) (hd : Vals dvs ds) (hx : Passes CX X E) (ha : PA X (e :: es) t)
    (hst : starEach (e :: es) X.env = (false, eval e X.env) :: starEach es X.env := by rfl) (hpl : (backTo pos (starEach es X.env)).any (·.1) = false := by rfl)
    (ht : eval (.Call (.Attribute o m apos) (e :: es) [] pos) X.env = (do
      let ov ← eval o X.env
      standAt apos.atName
      let (f, first) ← holding [ov] (getMethod ov m pl)
      callWith pos f first (backTo pos (starEach (e :: es) X.env)) (backToKw pos (keywordEach [] X.env))) := by rfl) :
    PE X (.Call (.Attribute o m apos) (e :: es) [] pos) (tMeth C m sp dvs E ta t) := by
  intro pins s σ H Q I h
  refine PySem.W.methodCall_KW (pl := pl) (thn (he pins s σ H _ I h) fun u s1 ⟨x, H1, I1, rx, a, dx, fs, ex, ea, l, q⟩ => ?_) ht
  subst ex
  obtain rfl : u = Value.ref a := rx
  refine getmeth_ok I1 ea c hm l ?_
  refine PySem.W.callWith_K (first := [.ref a]) (h₀ := X.base) I.ok.mod.kin hm.kp (thn (ha pos pins s1 σ H1 _ I1 q) fun us s2 ⟨vs, H2, I2, r, q2⟩ => ⟨I2.kIn, ?_⟩) hst hpl
  exact run_fn (us := .ref a :: us) (vs := .ref a :: vs) F hr hb hd hx I2 (.cons rfl r) q2
/-- o.m() -/
theorem pe_meth0 {pl : Sem Bool} (he : PE X o ta) (c : Cls X.K C) (hm : Meth X.K C m f) (F : FnOk X.prog X.w X.K X.mg X.base CX k f fd ps sp) (hr : Room k X.A) (hb : Binds X.K fd ps ds) (hd : Vals dvs ds) (hx : Passes CX X E)
    (ht : eval (.Call (.Attribute o m apos) [] [] pos) X.env = (do
      let ov ← eval o X.env
      standAt apos.atName
      let (f, first) ← holding [ov] (getMethod ov m pl)
      callWith pos f first (backTo pos (starEach [] X.env)) (backToKw pos (keywordEach [] X.env))) := by rfl) :
    PE X (.Call (.Attribute o m apos) [] [] pos) (tMeth C m sp dvs E ta tNil) := by
  intro pins s σ H Q I h
  refine PySem.W.methodCall_KW (pl := pl) (thn (he pins s σ H _ I h) fun u s1 ⟨x, H1, I1, rx, a, dx, fs, ex, ea, l, q⟩ => ?_) ht
  subst ex
  obtain rfl : u = Value.ref a := rx
  refine getmeth_ok I1 ea c hm l ?_
  exact PySem.W.callWith_K0 (first := [.ref a]) I1.kIn hm.kp (run_fn (us := [.ref a]) (vs := [.ref a]) F hr hb hd hx I1 (.cons rfl .nil) q)

/-- what a class must have to be made -/
structure Mk (K : PySem.W.Frag) (C f : Addr) : Prop where
  makes : PySem.W.makesIn K C = true
  init : PySem.W.findIn K (.ref C) "__init__" = some (some (.ref f))
  fn : PySem.W.isFn K (.ref f) = true
  kp : PySem.W.keepIn K (.ref C) = true

theorem run_make {pins : List (Addr × Obj)} {σ : St} {H : Hp} {s : Shared} {Q : VK} {us : List Value} {vs : List V} (M : Mk X.K C f) (F : FnOk X.prog X.w X.K X.mg X.base CX k f fd ps sp) (hr : Room (k + 1) X.A) (hb : Binds X.K fd ps ds) (hd : Vals dvs ds)
    (hx : Passes CX X E) (I : Inv X pins σ H s) (r : Vals vs us)
    (h : ∀ x dx, H x = none → H dx = none → dx ≠ x → sp (.ref x :: (vs ++ dvs)) (upd (upd H dx (.own x)) x (.ins C dx [])) (fun v H2 => v = .non ∧ Q (.ref x) H2) E) :
    wpAny (model X.prog X.w) X.A (call (.ref C) us) (EP X pins σ Q) X.xe s := by
  have hq := h (s.heap.objs.size + 1) s.heap.objs.size (I.hok.fresh (Nat.le_succ _)) (I.hok.fresh (Nat.le_refl _)) (Nat.ne_of_lt (Nat.lt_succ_self _))
  have I2 := Inv.made (C := C) I
  have r2 : Vals (V.ref (s.heap.objs.size + 1) :: (vs ++ dvs)) (Value.ref (s.heap.objs.size + 1) :: (us ++ ds)) := .cons rfl (r.append hd)
  have hl : (Value.ref (s.heap.objs.size + 1) :: us ++ ds).length = ps.length := by
    have e := r2.length
    rw [F.len _ _ _ _ hq] at e
    exact e.symm
  refine wpAny_call (make_map (f := f) I.kIn M.makes M.init (beq_iff_eq.mp M.fn) (codeAny_mono (F.run _ X.stack _ _ ⟨Value.ref (s.heap.objs.size + 1) :: us, []⟩ (Value.ref (s.heap.objs.size + 1) :: (us ++ ds)) _ _ E (hr.make C us [])
    (I2.env0.make C us []) (hb _ (Value.ref (s.heap.objs.size + 1) :: us) I2.kIn hl) r2 hq) fun r s' hq' => ?_))
  cases r with
  | error e => exact hx pins σ _ _ e s' I2 hq'
  | ok fl =>
    cases fl with
    | ret u =>
      obtain ⟨v, H', I3, rv, ev, q3⟩ := I2.after hq'
      subst ev
      exact ⟨rv, ⟨V.ref (s.heap.objs.size + 1), H', I3, rfl, q3⟩⟩
    | next => exact False.elim hq'
    | brk => exact False.elim hq'
    | cont => exact False.elim hq'
theorem pe_make (M : Mk X.K C f) (F : FnOk X.prog X.w X.K X.mg X.base CX k f fd ps sp) (hr : Room (k + 1) X.A) (hg : Gl X x) (hm : X.mg x = some (.ref C)) (hb : Binds X.K fd ps ds) (hd : Vals dvs ds) (hx : Passes CX X E)
    (ha : PA X (e :: es) t) (hdb : (x == ("__debug__" : Str)) = false := by decide) (he : starEach (e :: es) X.env = (false, eval e X.env) :: starEach es X.env := by rfl) (hpl : (backTo pos (starEach es X.env)).any (·.1) = false := by rfl) :
    PE X (.Call (.Name x p) (e :: es) [] pos) (tMake C sp dvs E t) := by
  intro pins s σ H Q I h
  refine wpAny_Call_Name_kw (ld_glob I hg hm ?_ hdb)
  refine PySem.W.callWith_K (h₀ := X.base) I.ok.mod.kin M.kp (thn (ha pos pins s σ H _ I h) fun us s1 ⟨vs, H1, I1, r, q⟩ => ⟨I1.kIn, ?_⟩) he hpl
  exact run_make M F hr hb hd hx I1 r q
theorem pe_make0 (M : Mk X.K C f) (F : FnOk X.prog X.w X.K X.mg X.base CX k f fd ps sp) (hr : Room (k + 1) X.A) (hg : Gl X x) (hm : X.mg x = some (.ref C)) (hb : Binds X.K fd ps ds) (hd : Vals dvs ds) (hx : Passes CX X E)
    (hdb : (x == ("__debug__" : Str)) = false := by decide) : PE X (.Call (.Name x p) [] [] pos) (tMake C sp dvs E tNil) := by
  intro pins s σ H Q I h
  refine wpAny_Call_Name_kw (ld_glob I hg hm ?_ hdb)
  exact PySem.W.callWith_K0 I.kIn M.kp (run_make (us := []) M F hr hb hd hx I .nil h)
end

/-! ### keywords -/
/-- the values of the keywords, from the left -/
def PK (X : Cx) (kws : List Keyword) (t : TA) : Prop :=
  ∀ (pos : Pos) (pins : List (Addr × Obj)) (s : Shared) (σ : St) (H : Hp) (Q : List V → Hp → Prop), Inv X pins σ H s → t σ H Q → wpAny (model X.prog X.w) X.A (evalAll ((backToKw pos (keywordEach kws X.env)).map (·.2))) (AP X pins σ Q) X.xe s
section
variable {X : Cx} {CX : CXT} {k : Nat} {f C : Addr} {fd : FuncData} {ps ks : List Str} {sp : Sp} {E : XK} {x m : Str} {p pos apos kpos : Pos} {e o : Expr} {es : List Expr} {kws : List Keyword} {te ta : TE} {t tk : TA} {nm : Option Str}
theorem pk_nil : PK X [] tNil := fun _ _ _ _ H Q I h => wpAny_evalAll_nil ⟨[], H, I, .nil, h⟩
theorem pk_cons (ha : PE X e te) (hr : PK X kws t) : PK X (⟨nm, e, kpos⟩ :: kws) (tCons te t) := by
  intro pos pins s σ H Q I h
  show wpAny _ _ (evalAll ((do let v ← eval e X.env; standAt pos; pure v) :: (backToKw pos (keywordEach kws X.env)).map (·.2))) _ _ s
  refine wpAny_evalAll_cons (wpAny_bind (thn (ha pins s σ H _ I h) fun u s1 ⟨x, H1, I1, r1, q1⟩ => wpAny_bind (wpAny_standAt (wpAny_pure ?_))))
  exact thn (hr pos pins s1 σ H1 _ I1 q1) fun us s2 ⟨xs, H2, I2, r2, q2⟩ => ⟨x :: xs, H2, I2, .cons r1 r2, q2⟩

/-- how a call with keywords binds: g puts the positional values us and the keywords' values ws (names ks) in the parameters' order, defaults among them -/
structure KBinds (K : PySem.W.Frag) (fd : FuncData) (ps ks : List Str) (g : List Value → List Value → List Value) (gV : List V → List V → List V) : Prop where
  to : ∀ (s : Shared) (us ws : List Value), K.In s.heap → (g us ws).length = ps.length → BindsTo s fd ⟨us, ks.zip ws⟩ (ps.zip (g us ws))
  rel : ∀ {vs : List V} {us : List Value} {zs : List V} {ws : List Value}, Vals vs us → Vals zs ws → Vals (gV vs zs) (g us ws)
def tCallK (sp : Sp) (gV : List V → List V → List V) (E : XK) (t tk : TA) : TE := fun σ H Q => t σ H fun vs H1 => tk σ H1 fun zs H2 => sp (gV vs zs) H2 Q E
variable {g : List Value → List Value → List Value} {gV : List V → List V → List V}
theorem run_fnk {pins : List (Addr × Obj)} {σ : St} {H : Hp} {s : Shared} {Q : VK} {us ws : List Value} {vs zs : List V} (F : FnOk X.prog X.w X.K X.mg X.base CX k f fd ps sp) (hr : Room k X.A) (hb : KBinds X.K fd ps ks g gV) (hx : Passes CX X E)
    (I : Inv X pins σ H s) (r : Vals vs us) (rz : Vals zs ws) (h : sp (gV vs zs) H Q E) : wpAny (model X.prog X.w) X.A (call (.ref f) us (ks.zip ws)) (EP X pins σ Q) X.xe s := by
  have r2 := hb.rel r rz
  have hl : (g us ws).length = ps.length := by rw [← r2.length]; exact F.len _ _ _ _ h
  refine wpAny_call (codeAny_mono (F.run X.A X.stack s H ⟨us, ks.zip ws⟩ (g us ws) (gV vs zs) Q E hr I.env0 (hb.to s us ws I.kIn hl) r2 h) fun r s' hq => ?_)
  cases r with
  | error e => exact hx pins σ H s e s' I hq
  | ok fl =>
    cases fl with
    | ret u => exact I.after hq
    | next => exact False.elim hq
    | brk => exact False.elim hq
    | cont => exact False.elim hq
/-- f(e, .., k = v, ..) -/
theorem pe_callK (F : FnOk X.prog X.w X.K X.mg X.base CX k f fd ps sp) (hr : Room k X.A) (hg : Gl X x) (hm : X.mg x = some (.ref f)) (hk : PySem.W.keepIn X.K (.ref f) = true) (hb : KBinds X.K fd ps ks g gV) (hx : Passes CX X E)
    (ha : PA X (e :: es) t) (hkw : PK X kws tk) (hall : (backToKw pos (keywordEach kws X.env)).all (·.1.isSome) = true := by rfl) (hks : (backToKw pos (keywordEach kws X.env)).filterMap (·.1) = ks := by rfl)
    (hdb : (x == ("__debug__" : Str)) = false := by decide) (he : starEach (e :: es) X.env = (false, eval e X.env) :: starEach es X.env := by rfl)
    (hpl : ((backTo pos (starEach (e :: es) X.env)).any (·.1) || (backToKw pos (keywordEach kws X.env)).any (·.1.isNone)) = false := by rfl) :
    PE X (.Call (.Name x p) (e :: es) kws pos) (tCallK sp gV E t tk) := by
  intro pins s σ H Q I h
  refine wpAny_Call_Name_kw (ld_glob I hg hm ?_ hdb)
  refine PySem.W.callWith_KW (h₀ := X.base) I.ok.mod.kin hk hall (thn (ha pos pins s σ H _ I h) fun us s1 ⟨vs, H1, I1, r, q⟩ => ?_) hpl he
  refine thn (hkw pos pins s1 σ H1 _ I1 q) fun ws s2 ⟨zs, H2, I2, rz, q2⟩ => ⟨I2.kIn, ?_⟩
  rw [hks]
  exact run_fnk F hr hb hx I2 r rz q2
end

/-! ### a def's body keeps its promise -/
/-- names: the parameters first -/
structure FnScope (N P : List Str) (sc : Scope) : Prop where
  kind : sc.kind = .function
  co : sc.isCoroutine = false
  gen : sc.isGenerator = false
  nd : N.Nodup
  pre : N.take P.length = P
  par : ∀ x ∈ P, sc.names.lookup x = some .local ∨ sc.names.lookup x = some .cell
  nofree : ∀ y ∈ sc.names, y.2 ≠ .free

theorem bindL_out {kindOf : Str → Option NameKind} {x : Str} : ∀ {binds : List (Str × Value)} {m : Str → Option Value}, (∀ v, (x, v) ∉ binds) → bindL kindOf binds m x = m x
  | [], _, _ => rfl
  | (n, v) :: r, m, h => by
    unfold bindL
    rw [bindL_out fun w hw => h w (List.mem_cons_of_mem _ hw)]
    split
    · have : x ≠ n := by rintro rfl; exact h v List.mem_cons_self
      simp [this]
    · rfl
theorem bindC_out {kindOf : Str → Option NameKind} {x : Str} : ∀ {binds : List (Str × Value)} {m : Str → Option Value}, (∀ v, (x, v) ∉ binds) → bindC kindOf binds m x = m x
  | [], _, _ => rfl
  | (n, v) :: r, m, h => by
    unfold bindC
    rw [bindC_out fun w hw => h w (List.mem_cons_of_mem _ hw)]
    split
    · rfl
    · have : x ≠ n := by rintro rfl; exact h v List.mem_cons_self
      simp [this]
theorem bindL_get {kindOf : Str → Option NameKind} {x : Str} {v : Value} : ∀ {P : List Str} {vs : List Value} {i : Nat} {m : Str → Option Value}, P.Nodup → P[i]? = some x → vs[i]? = some v → kindOf x = some .local →
    bindL kindOf (P.zip vs) m x = some v
  | [], _, _, _, _, h, _, _ => by simp at h
  | _ :: _, [], _, _, _, _, h, _ => by simp at h
  | p :: P, w :: vs, 0, m, nd, h1, h2, hk => by
    simp at h1 h2; subst h1; subst h2
    show bindL kindOf ((p, w) :: P.zip vs) m p = _
    unfold bindL
    rw [bindL_out fun v hv => (List.nodup_cons.mp nd).1 (List.of_mem_zip hv).1, if_pos hk]
    simp
  | p :: P, w :: vs, i + 1, m, nd, h1, h2, hk => by
    show bindL kindOf ((p, w) :: P.zip vs) m x = _
    unfold bindL
    exact bindL_get (i := i) (List.nodup_cons.mp nd).2 (by simpa using h1) (by simpa using h2) hk
theorem bindC_get {kindOf : Str → Option NameKind} {x : Str} {v : Value} : ∀ {P : List Str} {vs : List Value} {i : Nat} {m : Str → Option Value}, P.Nodup → P[i]? = some x → vs[i]? = some v → kindOf x ≠ some .local →
    bindC kindOf (P.zip vs) m x = some v
  | [], _, _, _, _, h, _, _ => by simp at h
  | _ :: _, [], _, _, _, _, h, _ => by simp at h
  | p :: P, w :: vs, 0, m, nd, h1, h2, hk => by
    simp at h1 h2; subst h1; subst h2
    show bindC kindOf ((p, w) :: P.zip vs) m p = _
    unfold bindC
    rw [bindC_out fun v hv => (List.nodup_cons.mp nd).1 (List.of_mem_zip hv).1, if_neg hk]
    simp
  | p :: P, w :: vs, i + 1, m, nd, h1, h2, hk => by
    show bindC kindOf ((p, w) :: P.zip vs) m x = _
    unfold bindC
    exact bindC_get (i := i) (List.nodup_cons.mp nd).2 (by simpa using h1) (by simpa using h2) hk

/-- the names' values at the entry -/
def start (N : List Str) (vs : List V) : St := vs.map some ++ List.replicate (N.length - vs.length) none

/-- the context of a def's body, at its entry; an exception leaves the frame, then lies as CX says -/
def cxOf (CX : CXT) (P : Program) (w : World) (K : PySem.W.Frag) (mg : Str → Option Value) (base : Heap) (N : List Str) (qual : Str) (scope : Scope) (f : Addr) (cd : Value) (A : Around) (outer : List Env) (s : Shared) (H : Hp) (E : XK) : Cx where
  prog := P
  w := w
  K := K
  mg := mg
  base := base
  A := A.deeper (envOfC qual scope s.heap.objs.size f cd)
  N := N
  s₀ := s
  H₀ := H
  env := envOfC qual scope s.heap.objs.size f cd
  outer := outer
  stack := envOfC qual scope s.heap.objs.size f cd :: outer
  ex := []
  calm := true
  fn := fun _ => true
  pn := []
  xe := fun e s' => wpAny (model P w) (A.deeper (envOfC qual scope s.heap.objs.size f cd)) (leaving (envOfC qual scope s.heap.objs.size f cd) e) (fun _ s'' => CX outer H s E e s'') (fun e' s'' => CX outer H s E e' s'') s'

theorem cell_has {sc : Scope} {n : Nat} {x : Str} (h : sc.names.lookup x = some .cell) : ∃ c, (cellsFrom n sc.names []).lookup x = some c := by
  have q := PySem.W.cellsFrom_some sc.names n [] (.inl h)
  exact Option.isSome_iff_exists.mp q

theorem inv_start {CX : CXT} {P : Program} {w : World} {K : PySem.W.Frag} {mg : Str → Option Value} {base : Heap} {N ps : List Str} {qual : Str} {scope : Scope} {f : Addr} {cd : Value} {A : Around} {outer : List Env} {s s1 : Shared} {H : Hp} {E : XK} {us : List Value} {vs : List V}
    (S : FnScope N ps scope) (hd : A.handled = none) (e0 : Env0 P w K mg base A outer s H) (hl : vs.length = ps.length) (r : Vals vs us)
    (x : InCallC s s.heap.objs.size (bindL (envOfC qual scope s.heap.objs.size f cd).kindOf (ps.zip us) fun _ => none) (cellsFrom (s.heap.objs.size + 1) scope.names []) (bindC (envOfC qual scope s.heap.objs.size f cd).kindOf (ps.zip us) fun _ => none) s1) :
    Inv (cxOf CX P w K mg base N qual scope f cd A outer s H E) [] (start N vs) H s1 := by
  have hpl : ps.length ≤ N.length := by have := congrArg List.length S.pre; rw [List.length_take] at this; omega
  obtain ⟨h1, tk, rfl, hk⟩ := x.done
  have noA : ∀ b : Addr, b ∉ (cxOf CX P w K mg base N qual scope f cd A outer s H E).ex := fun b z => absurd (show b ∈ ([] : List Addr) from z) (by simp)
  refine ⟨⟨e0.mod, S.kind, rfl, rfl, Nat.le_refl _, fun y z c h1 h2 => ?_, fun y hy => ?_, fun y c _ h => ?_, fun _ => hd, Around.frames_deeper e0.frames, .inr ⟨rfl, rfl⟩, fun b z => absurd z (noA b), e0.bs, e0.bsz, fun b _ _ => noA b, fun b z => absurd z (noA b), e0.funs, e0.frf⟩,
    rfl, e0.bare, Un.kept hk, ⟨_, x.toInCall.ns, fun i y v h1 h2 h3 => ?_⟩, fun y c h => ⟨_, x.cell y c h⟩, e0.hok.fresh (Nat.le_refl _), fun y c h => ?_, fun p hp => absurd (show p ∈ ([] : List (Addr × Obj)) from hp) (by simp), e0.hok.kept hk, ?_⟩
  · exact name_of_addr x.apart (PySem.mem_of_lookup h1) (PySem.mem_of_lookup h2)
  · have hy : scope.names.lookup y = some .cell ∨ scope.names.lookup y = some .free := hy
    rcases hy with hy | hy
    · exact cell_has hy
    · exact absurd rfl (S.nofree _ (PySem.mem_of_lookup hy))
  · exact Nat.le_of_lt (x.above y c (PySem.mem_of_lookup h))
  · have hi : i < vs.length := by
      unfold start at h2
      by_cases hi : i < vs.length
      · exact hi
      · rw [List.getElem?_append_right (by simpa using hi)] at h2
        rw [List.getElem?_replicate] at h2
        split at h2 <;> cases h2
    have ha : vs[i]? = some v := by
      unfold start at h2
      rw [List.getElem?_append_left (by simpa using hi), List.getElem?_map] at h2
      cases e : vs[i]? with
      | none => rw [e] at h2; cases h2
      | some a => rw [e] at h2; cases h2; rfl
    obtain ⟨u, hu, rv⟩ := r.get ha
    have hp : ps[i]? = some y := by
      rw [← S.pre, List.getElem?_take_of_lt (by omega)]; exact h1
    have ndP : ps.Nodup := by rw [← S.pre]; exact S.nd.sublist (List.take_sublist _ _)
    refine ⟨u, rv, ?_⟩
    rcases S.par y (List.mem_of_getElem? hp) with k | k
    · exact .inl ⟨k, bindL_get ndP hp hu k⟩
    · obtain ⟨c, e⟩ := cell_has (n := s.heap.objs.size + 1) k
      refine .inr ⟨.inl k, c, e, ?_⟩
      have q := x.cell y c e
      rw [bindC_get ndP hp hu (by show scope.names.lookup y ≠ _; rw [k]; decide)] at q
      exact q
  · exact e0.hok.fresh (Nat.le_of_lt (x.above y c (PySem.mem_of_lookup h)))
  · unfold start
    show _ = N.length
    rw [List.length_append, List.length_map, List.length_replicate]
    omega

/-- THE RULE: a def (or a method) of the text, by its body. The body's reading t is chosen for each entry; it is run at the parameters' values -/
theorem fn_of {CX : CXT} {P : Program} {w : World} {K : PySem.W.Frag} {mg : Str → Option Value} {base : Heap} {k : Nat} {f : Addr} {name qual : Str} {params : Arguments} {body : List Stmt} {scope : Scope} {dV kV doc pm cdv ct oc : Value} {an od : Option Addr}
    {osl : Array (Option Value)} {N ps : List Str} {sp : Sp} (lk : K.lookup f = some ⟨oc, od, .func (PySem.W.fnOf name qual params body scope dV kV doc pm an cdv ct), osl⟩) (hcd : PySem.W.codeIn K cdv qual = true) (S : FnScope N ps scope)
    (len : ∀ vs H Q E, sp vs H Q E → vs.length = ps.length)
    (hbody : ∀ (A : Around) (outer : List Env) (s : Shared) (H : Hp) (vs : List V) (Q : VK) (E : XK), Room k (A.deeper (envOfC qual scope s.heap.objs.size f cdv)) → sp vs H Q E →
      ∃ t, PSs (cxOf CX P w K mg base N qual scope f cdv A outer s H E) body t ∧ t { nx := fun _ H' => Q .non H', rt := Q } (start N vs) H) :
    FnOk P w K mg base CX (k + 1) f (PySem.W.fnOf name qual params body scope dV kV doc pm an cdv ct) ps sp := by
  refine ⟨len, fun A outer s H args us vs Q E hr e0 hb r hsp => ?_⟩
  have hl := len _ _ _ _ hsp
  have KX : K.In s.heap := e0.mod.kin.keeps fun b o e => (e0.bs b o e).1
  have lim : s.heap.NoLimit := e0.mod.nolimit.keeps fun b o e => (e0.bs b o e).1
  have hkind : ∀ y ∈ ps.zip us, scope.names.lookup y.1 = some .local ∨ (scope.names.lookup y.1 = some .cell ∧ ((cellsFrom (s.heap.objs.size + 1) scope.names []).lookup y.1).isSome = true) := fun ⟨n, v⟩ hy => by
    rcases S.par n (List.of_mem_zip hy).1 with q | q
    · exact .inl q
    · exact .inr ⟨q, PySem.W.cellsFrom_some _ _ _ (.inl q)⟩
  refine codeAny_call_function hr.depth (KX _ _ lk) rfl S.co S.gen rfl (PySem.W.codeRec_of KX hcd) (hb _ _ _ _ ?_)
  refine wpAny_newFunctionEnv_cells S.kind hkind fun env he s1 x => ?_
  subst he
  refine ⟨lim.keeps x.toInCall.keep, codeAny_func ?_⟩
  obtain ⟨t, ht, hq⟩ := hbody A outer s H vs Q E (hr.deeper _) hsp
  have I : Inv (cxOf CX P w K mg base N qual scope f cdv A outer s H E) [] (start N vs) H s1 := inv_start S hr.hd e0 hl r x
  refine wpAny_mono (ht [] s1 (start N vs) H _ I hq) (fun fl s' hs => ?_) fun e s' hs => hs
  have fin : ∀ {σ' : St} {H' : Hp} {v : V} {u : Value}, Inv (cxOf CX P w K mg base N qual scope f cdv A outer s H E) [] σ' H' s' → RelV v u → Q v H' → CE outer P w H s Q u s' :=
    fun {σ' H' v u} J rv q => ⟨v, H', J.os, J.bare, J.base, J.hok, rv, q⟩
  cases fl with
  | ret u =>
    obtain ⟨v, σ', H', J, rv, q⟩ := hs
    exact fin J rv q
  | next =>
    obtain ⟨σ', H', J, q⟩ := hs
    exact fin (v := V.non) (u := Value.none) J rfl q
  | brk =>
    obtain ⟨_, _, _, q⟩ := hs
    exact False.elim q
  | cont =>
    obtain ⟨_, _, _, q⟩ := hs
    exact False.elim q
end L2

namespace L2
open PySem PySem.Spec PyProof.Rows
section
variable {X : Cx} {x : Str} {p pos : Pos} {e : Expr} {es : List Expr} {t : TA} {id T : String} {r : List V → Hp → VK → Prop}

def tCB (r : List V → Hp → VK → Prop) (t : TA) : TE := fun σ H Q => t σ H fun vs H1 => r vs H1 Q
/-- f(e, ..), f a built-in function -/
theorem pe_callB (hc : CallR X (.builtin id) r) (hg : Gl X x) (hm : X.mg x = none) (hv : bootBuiltins x = some (.builtin id)) (ha : PA X (e :: es) t) (hn : x ≠ "__name__" := by decide) (hdb : (x == ("__debug__" : Str)) = false := by decide)
    (he : starEach (e :: es) X.env = (false, eval e X.env) :: starEach es X.env := by rfl) (hpl : (backTo pos (starEach es X.env)).any (·.1) = false := by rfl) : PE X (.Call (.Name x p) (e :: es) [] pos) (tCB r t) := by
  intro pins s σ H Q I h
  refine wpAny_Call_Name_kw (ld_blt I hg hm hv ?_ hn hdb)
  exact PyProof.Rows.callWith_builtin1 (thn (ha pos pins s σ H _ I h) fun us s1 ⟨vs, H1, I1, r1, q1⟩ => hc pins s1 σ H1 vs us Q I1 r1 q1) he hpl
/-- T(e, ..), T a built-in type -/
theorem pe_callTy (hc : CallR X (.type T) r) (hg : Gl X x) (hm : X.mg x = none) (hv : bootBuiltins x = some (.type T)) (ha : PA X (e :: es) t) (hn : x ≠ "__name__" := by decide) (hdb : (x == ("__debug__" : Str)) = false := by decide)
    (he : starEach (e :: es) X.env = (false, eval e X.env) :: starEach es X.env := by rfl) (hpl : (backTo pos (starEach es X.env)).any (·.1) = false := by rfl) : PE X (.Call (.Name x p) (e :: es) [] pos) (tCB r t) := by
  intro pins s σ H Q I h
  refine wpAny_Call_Name_kw (ld_blt I hg hm hv ?_ hn hdb)
  exact PyProof.Rows.callWith_type1 (thn (ha pos pins s σ H _ I h) fun us s1 ⟨vs, H1, I1, r1, q1⟩ => hc pins s1 σ H1 vs us Q I1 r1 q1) he hpl
/-- T() -/
theorem pe_callTy0 (hc : CallR X (.type T) r) (hg : Gl X x) (hm : X.mg x = none) (hv : bootBuiltins x = some (.type T)) (hn : x ≠ "__name__" := by decide) (hdb : (x == ("__debug__" : Str)) = false := by decide) :
    PE X (.Call (.Name x p) [] [] pos) (tCB r tNil) := by
  intro pins s σ H Q I h
  refine wpAny_Call_Name_kw (ld_blt I hg hm hv ?_ hn hdb)
  exact PyProof.Rows.callWith_type0 (hc pins s σ H [] [] Q I .nil h)
end
end L2

namespace HT
open PySem PyProof.Rows

/-- t < u of tuples of ints -/
def lexLt : List Int → List Int → Bool
  | [], [] => false
  | [], _ :: _ => true
  | _ :: _, [] => false
  | x :: xs, y :: ys => if x = y then lexLt xs ys else decide (x < y)
theorem lexLt_cons (x y : Int) (xs ys : List Int) : lexLt (x :: xs) (y :: ys) = if x = y then lexLt xs ys else decide (x < y) := rfl
theorem lexLt_nil_nil : lexLt [] [] = false := rfl
theorem lexLt_nil_cons (y : Int) (ys : List Int) : lexLt [] (y :: ys) = true := rfl
theorem lexLt_cons_nil (x : Int) (xs : List Int) : lexLt (x :: xs) [] = false := rfl

theorem eqAt_int (A : Around) (s : Shared) (a : Int) (t : Tok) (c : Int) (u : Tok) : ∃ e, SeqAt.EqAt A s (.int a t) (.int c u) e ∧ (e = true ↔ a = c) :=
  ⟨(a == c), SeqAt.EqAt.int_int a t c u, by simp⟩
theorem rcLt_int (A : Around) (s : Shared) (a : Int) (t : Tok) (c : Int) (u : Tok) (prog : Program) (w : World) (E : Value → Shared → Prop) (Q : Value → Shared → Prop) (h : Q (.bool (decide (a < c))) s) :
    wpAny (model prog w) A (richCompare .Lt (.int a t) (.int c u)) Q E s :=
  (PyProof.Rows.lt_int h : wpAny (model prog w) A (compareOp .Lt (.int a t) (.int c u)) Q E s)

section
open PySem.SeqAt
open PySem.AutoSeq1 (wpAny_loadPart')
open PySem.MeetsSeq PySem.MeetsSeq2 PySem.MeetsSeq3

theorem tuple_lt_ints (l b : Addr) (items items2 : Array Value) (n n2 : Nat) (dd dd2 : Option Addr) (sl sl2 : Array (Option Value)) (ns ms : List Int) (hi : IntsAre items.toList ns) (hj : IntsAre items2.toList ms) :
    Meets (Builtin.«tuple.__lt__» ⟨[.ref l, .ref b], []⟩)
      (fun _ R s => s.heap.get? l = some { cls := .type "tuple", dict := dd, data := .seq items n, slots := sl } ∧ s.heap.get? b = some { cls := .type "tuple", dict := dd2, data := .seq items2 n2, slots := sl2 } ∧
        R (.ok (.ret (.bool (lexLt ns ms)))) s) :=
  .of_wp fun prog w A R s h => by
    obtain ⟨hp, g, d, tk, os⟩ := s; obtain ⟨hl, hb, h⟩ := h
    have f2 := AutoSeq1.sub_tuple_tuple
    have z1 : items.size = ns.length := by rw [← hi.length]; simp
    have z2 : items2.size = ms.length := by rw [← hj.length]; simp
    wp_walk using wpAny_loadPart' hl, wpAny_loadPart' hb, wpAny_forIn_list _ (fun rest b s' => b.1 = none ∧ s' = ⟨hp, g, d, tk, os⟩ ∧ ∃ (vs ws : List Value) (ns' ms' : List Int), rest = vs.zip ws ∧
      IntsAre vs ns' ∧ IntsAre ws ms' ∧ ns'.length + items2.size = ms'.length + items.size ∧ R (.ok (.ret (.bool (lexLt ns' ms')))) ⟨hp, g, d, tk, os⟩) _
    case turn =>
      rintro ⟨y, x⟩ rest b s' ⟨hb', rfl, vs, ws, ns', ms', hz, hvi, hwi, hlen, hR⟩
      cases hvi with
      | nil => rw [List.zip_nil_left] at hz; cases hz
      | cons a t hvi' =>
        cases hwi with
        | nil => rw [List.zip_nil_right] at hz; cases hz
        | cons c u hwi' =>
          rw [List.zip_cons_cons] at hz
          injection hz with hyx hrest
          injection hyx with hy hx
          subst hy hx
          rw [lexLt_cons] at hR
          simp only [List.length_cons] at hlen
          obtain ⟨e, he, hiff⟩ := eqAt_int A.in1 ⟨hp, g, d, tk, os⟩ a t c u
          refine wpAny_bind (he prog w _ _ ?_)
          cases e with
          | true =>
            rw [if_pos (hiff.mp rfl)] at hR
            wp_walk
            exact ⟨rfl, rfl, _, _, _, _, hrest, hvi', hwi', by omega, hR⟩
          | false =>
            rw [if_neg (fun q => absurd (hiff.mpr q) Bool.false_ne_true)] at hR
            have hri := rcLt_int A.in1 ⟨hp, g, d, tk, os⟩ a t c u prog w
            wp_walk using hri
            exact ⟨_, rfl, by simpa using hR⟩
    case fin =>
      rintro ⟨b1, b2⟩ s' ⟨hb', rfl, vs, ws, ns', ms', hz, hvi, hwi, hlen, hR⟩
      simp only at hb'
      subst hb'
      have hv : lexLt ns' ms' = decide (items.size < items2.size) := by
        cases hvi with
        | nil =>
          cases hwi with
          | nil =>
            simp only [List.length_nil] at hlen
            rw [lexLt_nil_nil]
            exact (decide_eq_false (by omega)).symm
          | cons c u hw =>
            simp only [List.length_nil, List.length_cons] at hlen
            rw [lexLt_nil_cons]
            exact (decide_eq_true (by omega)).symm
        | cons a t hv =>
          cases hwi with
          | nil =>
            simp only [List.length_nil, List.length_cons] at hlen
            rw [lexLt_cons_nil]
            exact (decide_eq_false (by omega)).symm
          | cons c u hw =>
            rw [List.zip_cons_cons] at hz
            cases hz
      rw [hv] at hR
      wp_walk
      exact ⟨_, rfl, by simpa [Builtin.Tuple.tupleCompareSizes] using hR⟩
    case h =>
      exact ⟨rfl, rfl, items.toList, items2.toList, ns, ms, rfl, hi, hj, by omega, h⟩
end

section
variable {prog : Program} {w : World} {A : Around} {E : Value → Shared → Prop} {s : Shared}

theorem lt_tupInts {l b : Addr} {items items2 : Array Value} {ns ms : List Int} {Q : Value → Shared → Prop} (hl : IsTup s.heap l items) (hb : IsTup s.heap b items2) (hi : IntsAre items.toList ns) (hj : IntsAre items2.toList ms)
    (hu : A.units < cLine) (h : Q (.bool (lexLt ns ms)) s) : wpAny (model prog w) A (compareOp .Lt (.ref l) (.ref b)) Q E s := by
  obtain ⟨⟨cls, dd, data, sl⟩, ho, hc, n, hd⟩ := id hl
  obtain ⟨⟨cls2, dd2, data2, sl2⟩, ho2, hc2, n2, hd2⟩ := id hb
  simp only at hc hd hc2 hd2
  subst hc hd hc2 hd2
  exact richCompare_meets_room (op := .Lt) ⟨_, ho, rfl⟩ ⟨_, ho2, rfl⟩ PySem.F.slot_tuple_lt PySem.F.entry_tuple_lt (PySem.F.args_tuple_lt_2 _ _) (tuple_lt_ints l b items items2 n n2 dd dd2 sl sl2 ns ms hi hj)
    ⟨ho, ho2, show Value.bool (lexLt ns ms) ≠ Value.notImplemented ∧ Q (.bool (lexLt ns ms)) s from ⟨(fun x => nomatch x), h⟩⟩ hu

/-- t + u, t not empty -/
theorem cat_tup {t b : Addr} {vs ws : List Value} {Q : Value → Shared → Prop} (ht : IsTup s.heap t vs.toArray) (hb : IsTup s.heap b ws.toArray) (hv : vs ≠ [])
    (h1 : ws = [] → Q (.ref t) s) (h2 : ws ≠ [] → Q (.ref s.heap.objs.size) { s with heap := s.heap.push { cls := .type "tuple", data := .seq (vs ++ ws).toArray } })
    (hsz : vs.length + ws.length ≤ sizeLine) : wpAny (model prog w) A (binaryOp .Add (.ref t) (.ref b)) Q E s := by
  obtain ⟨⟨cls, dd, data, sl⟩, ho, hc, n, hd⟩ := id ht
  obtain ⟨⟨cls2, dd2, data2, sl2⟩, ho2, hc2, n2, hd2⟩ := id hb
  simp only at hc hd hc2 hd2
  subst hc hd hc2 hd2
  have e : vs.toArray ++ ws.toArray = (vs ++ ws).toArray := by simp
  by_cases hw : ws = []
  · exact concat_meets ⟨_, ho, rfl⟩ ⟨_, ho2, rfl⟩ noFill_tuple_add seq_tuple_add PySem.F.slot_tuple_add PySem.F.entry_tuple_add (PySem.F.args_tuple_add_2 _ _)
      (tuple_addW1 t b vs.toArray ws.toArray n n2 dd dd2 sl sl2 (by simpa using hv) (by simp [hw])) ⟨ho, ho2, h1 hw⟩
  · refine concat_meets ⟨_, ho, rfl⟩ ⟨_, ho2, rfl⟩ noFill_tuple_add seq_tuple_add PySem.F.slot_tuple_add PySem.F.entry_tuple_add (PySem.F.args_tuple_add_2 _ _)
      (tuple_addW2 t b vs.toArray ws.toArray n n2 dd dd2 sl sl2 (by simpa using hv) (by simpa using hw) (by rw [List.size_toArray, List.size_toArray]; exact hsz)) ⟨ho, ho2, ?_⟩
    rw [e]
    exact h2 hw

/-! ### t[a:b], not the whole -/
/-- a slice's bound as a place among n (d where it is left out) -/
def sIx (n d : Nat) : Option Int → Nat
  | none => d
  | some v => if v < 0 then (v + (n : Int)).toNat else min v.toNat n
theorem sIx_none (n d : Nat) : sIx n d none = d := rfl
theorem sIx_nat (n d k : Nat) : sIx n d (some (k : Int)) = min k n := by
  show (if (k : Int) < 0 then ((k : Int) + (n : Int)).toNat else min (k : Int).toNat n) = min k n
  rw [if_neg (by omega), Int.toNat_natCast]
theorem sIx_le (n d : Nat) (hd : d ≤ n) (o : Option Int) : sIx n d o ≤ n := by
  cases o with
  | none => exact hd
  | some v =>
    show (if v < 0 then (v + (n : Int)).toNat else min v.toNat n) ≤ n
    by_cases hv : v < 0
    · rw [if_pos hv]; omega
    · rw [if_neg hv]; exact Nat.min_le_right _ _
theorem clip_eq (v : Int) (n d : Nat) : (if v < 0 then max (v + (n : Int)) 0 else min v (n : Int)) = ((sIx n d (some v) : Nat) : Int) := by
  show (if v < 0 then max (v + (n : Int)) 0 else min v (n : Int)) = (((if v < 0 then (v + (n : Int)).toNat else min v.toNat n) : Nat) : Int)
  by_cases hv : v < 0
  · simp only [if_pos hv]; omega
  · simp only [if_neg hv]; omega
theorem adjust_gen (lo hi : Option Int) (n : Nat) : Builtin.Slice.sliceAdjust lo hi 1 (n : Int) = (((sIx n 0 lo : Nat) : Int), ((sIx n n hi : Nat) : Int)) := by
  have h1 : ¬ ((1 : Int) < 0) := by omega
  unfold Builtin.Slice.sliceAdjust
  simp only [h1, if_false]
  refine Prod.ext ?_ ?_
  · cases lo with
    | none => rfl
    | some v => exact clip_eq v n 0
  · cases hi with
    | none => rfl
    | some v => exact clip_eq v n n
theorem places_gen (i j : Nat) : Builtin.Slice.slicePlaces (i : Int) (j : Int) 1 = j - i := by
  unfold Builtin.Slice.slicePlaces
  have h1 : (1 : Int) > 0 := by omega
  simp only [h1, if_true, Int.ediv_one]
  split <;> omega
theorem slicePart_ {v : Value} {o : Option Int} {Q : Option Int → Shared → Prop} (p : IsPart v o) (h : Q o s) : wpAny (model prog w) A (Builtin.Slice.slicePartIndex v) Q E s := by
  cases p with
  | none => exact slicePart_none h
  | int i t => exact slicePart_int h
theorem sliceApplied_gen {sl : Addr} {vl vu : Value} {lo hi : Option Int} {n : Nat} {Q : Int × Int × Nat → Shared → Prop} (hs : s.heap.IsSliceOf sl vl vu .none) (pl : IsPart vl lo) (pu : IsPart vu hi)
    (h : Q (((sIx n 0 lo : Nat) : Int), 1, sIx n n hi - sIx n 0 lo) s) : wpAny (model prog w) A (Builtin.Slice.sliceApplied (.ref sl) (pure (n : Int))) Q E s := by
  obtain ⟨os, hos, hcs, hds⟩ := id hs
  unfold Builtin.Slice.sliceApplied Builtin.Slice.sliceFields
  refine wpAny_bind (wpAny_bind (wpAny_field hos hds (x := vl) rfl (wpAny_bind (wpAny_field hos hds (x := vu) rfl (wpAny_bind (wpAny_field hos hds (x := .none) rfl (wpAny_pure ?_)))))))
  refine wpAny_bind (slicePart_none ?_)
  show wpAny _ _ (if ((1 : Int) == 0) = true then _ else _) _ _ s
  rw [if_neg (by decide)]
  refine wpAny_bind (slicePart_ pl (wpAny_bind (slicePart_ pu (wpAny_bind (wpAny_pure ?_)))))
  show wpAny _ _ (match Builtin.Slice.sliceAdjust lo hi 1 (n : Int) with | (lo, hi) => pure (lo, (1 : Int), Builtin.Slice.slicePlaces lo hi 1)) _ _ s
  rw [adjust_gen lo hi n]
  show wpAny _ _ (pure (((sIx n 0 lo : Nat) : Int), (1 : Int), Builtin.Slice.slicePlaces ((sIx n 0 lo : Nat) : Int) ((sIx n n hi : Nat) : Int) 1)) _ _ s
  rw [places_gen]
  exact wpAny_pure h
theorem pick_gen (xs : Array Value) (i k : Nat) : ((List.range k).filterMap fun (m : Nat) => xs[((i : Int) + (m : Int) * 1).toNat]?).toArray = ((xs.toList.drop i).take k).toArray := by
  have e : (fun (m : Nat) => xs[((i : Int) + (m : Int) * 1).toNat]?) = fun m => xs[i + m]? := by
    funext m
    have : ((i : Int) + (m : Int) * 1).toNat = i + m := by omega
    rw [this]
  rw [e]
  have := pick_run xs i k
  rw [List.filterMap_map] at this
  have e2 : ((fun x => xs[x]?) ∘ fun x => i + x) = fun m => xs[i + m]? := rfl
  rw [e2] at this
  rw [this]

theorem getItem_tuple_cut {t sl : Addr} {items : Array Value} {vl vu : Value} {lo hi : Option Int} {Q : Value → Shared → Prop} (ht : IsTup s.heap t items) (hs : s.heap.IsSliceOf sl vl vu .none) (pl : IsPart vl lo) (pu : IsPart vu hi)
    (hw : ¬ (sIx items.size 0 lo = 0 ∧ sIx items.size items.size hi = items.size))
    (h : Q (.ref s.heap.objs.size) { s with heap := s.heap.push { cls := .type "tuple", data := .seq ((items.toList.drop (sIx items.size 0 lo)).take (sIx items.size items.size hi - sIx items.size 0 lo)).toArray } })
    (hsz : items.size ≤ sizeLine) : wpAny (model prog w) A (getItem (.ref t) (.ref sl)) Q E s := by
  have htake : sizeOk (.seq ((items.toList.drop (sIx items.size 0 lo)).take (sIx items.size items.size hi - sIx items.size 0 lo)).toArray) := by
    show ((items.toList.drop (sIx items.size 0 lo)).take (sIx items.size items.size hi - sIx items.size 0 lo)).toArray.size ≤ sizeLine
    rw [List.size_toArray, List.length_take, List.length_drop, Array.length_toList]
    omega
  have hj : sIx items.size items.size hi ≤ items.size := sIx_le _ _ (Nat.le_refl _) hi
  obtain ⟨os, hos, hcs, hds⟩ := id hs
  have hTs : s.TypeIs (.ref sl) "slice" := ⟨os, hos, hcs⟩
  unfold getItem
  try with_reducible refine wpAny_holding ?_
  first | refine wpAny_bind (wpAny_pure ?_) | skip
  refine wpAny_bind (wpAny_sequenceKey ht.typeIs (by decide) ?_)
  refine wpAny_bind (wpAny_callSpecial?_slot (name := Str.ofString "__getitem__") ht.typeIs PyProof.Rows.slot_tuple_getitem
    (wpAny_call_entry PyProof.Rows.slot_tuple_getitem ht.typeIs entry_tuple_getitem ?_ (args_tuple_getitem _ _)))
  show wpAny _ _ (Builtin.Tuple.tupleItemsOf (.ref t) >>= _) _ _ s
  refine wpAny_bind (tupleItemsOf_ ht ?_)
  refine wpAny_bind (wpAny_typeOf hTs ?_)
  rw [if_pos (by decide)]
  refine wpAny_bind (sliceApplied_gen hs pl pu ?_)
  have hno : ¬ ((((sIx items.size 0 lo : Nat) : Int) == 0 && (1 : Int) == 1 && (sIx items.size items.size hi - sIx items.size 0 lo) == items.size) = true) := by
    intro q
    rw [Bool.and_eq_true, Bool.and_eq_true] at q
    have q1 : ((sIx items.size 0 lo : Nat) : Int) = 0 := eq_of_beq q.1.1
    have q2 : sIx items.size items.size hi - sIx items.size 0 lo = items.size := eq_of_beq q.2
    exact hw ⟨by omega, by omega⟩
  show wpAny _ _ (if (((sIx items.size 0 lo : Nat) : Int) == 0 && (1 : Int) == 1 && (sIx items.size items.size hi - sIx items.size 0 lo) == items.size) = true then _ else _) _ _ s
  rw [if_neg hno, pick_gen]
  first
    | exact wpAny_bind (m := Builtin.Tuple.tupleExact _) (wpAny_newObj_type (wpAny_pure ⟨_, rfl, wpAny_pure h⟩) htake)
    | exact wpAny_bind (m := Builtin.Tuple.tupleExact _) (wpAny_newObj_type (wpAny_bind (wpAny_pure (wpAny_pure ⟨_, rfl, wpAny_pure h⟩))) htake)
    | exact wpAny_bind (wpAny_bind (m := Builtin.Tuple.tupleExact _) (wpAny_newObj_type (wpAny_pure (wpAny_pure ⟨_, rfl, wpAny_pure h⟩)) htake))
    | exact wpAny_bind (wpAny_bind (m := Builtin.Tuple.tupleExact _) (wpAny_newObj_type (wpAny_pure ⟨_, rfl, wpAny_pure h⟩) htake))
end
end HT

namespace L2
open PySem PySem.Spec PyProof.Rows

/-! ### the parts of a slice -/
abbrev TO := St → Hp → (Option Int → Hp → Prop) → Prop
/-- a slice's part (left out, or an int) -/
def PO (X : Cx) (e : Option Expr) (t : TO) : Prop :=
  ∀ (pins : List (Addr × Obj)) (s : Shared) (σ : St) (H : Hp) (Q : Option Int → Hp → Prop), Inv X pins σ H s → t σ H Q →
    wpAny (model X.prog X.w) X.A (evalPart e X.env) (fun u s' => ∃ o H', Inv X pins σ H' s' ∧ IsPart u o ∧ Q o H') X.xe s
def tNoPart : TO := fun _ H Q => Q none H
def tPart (t : TE) : TO := fun σ H Q => t σ H fun x H1 => ∃ i, x = .int i ∧ Q (some i) H1

theorem intsAre_of {ns : List Int} : ∀ {us : List Value}, Vals (ns.map V.int) us → IntsAre us ns := by
  induction ns with
  | nil => intro us r; rw [List.map_nil] at r; cases r; exact .nil
  | cons n ns ih =>
    intro us r
    rw [List.map_cons] at r
    cases r with
    | cons r1 r2 =>
      obtain ⟨t, e⟩ := r1
      subst e
      exact .cons n t (ih r2)

section
variable {X : Cx} {e : Expr} {te : TE} {lo hi : Option Expr} {tl th : TO} {pos p2 : Pos}

theorem po_none : PO X none tNoPart := by
  intro pins s σ H Q I h
  rw [evalPart_none]
  exact wpAny_pure ⟨none, H, I, .none, h⟩
theorem po_some (h : PE X e te) : PO X (some e) (tPart te) := by
  intro pins s σ H Q I hw
  rw [evalPart_some]
  refine thn (h pins s σ H _ I hw) fun u s1 ⟨x, H1, I1, r1, q1⟩ => ?_
  obtain ⟨i, rfl, q⟩ := q1
  obtain ⟨t, rfl⟩ := r1
  exact ⟨some i, H1, I1, .int i t, q⟩

/-- what a slice of a value is, by values: the slice object stands at sl -/
def SlR (X : Cx) (r : V → Option Int → Option Int → Hp → VK → Prop) : Prop :=
  ∀ (pins : List (Addr × Obj)) (s : Shared) (σ : St) (H : Hp) (x : V) (v vl vu : Value) (lo hi : Option Int) (sl : Addr) (Q : VK), Inv X pins σ H s → RelV x v → s.heap.IsSliceOf sl vl vu .none → IsPart vl lo → IsPart vu hi → r x lo hi H Q →
    ∃ T id, typeLookup (.type T) "__getitem__" = pure (some (.builtin id)) ∧ s.TypeIs v T ∧ wpAny (model X.prog X.w) X.A (getItem v (.ref sl)) (EP X pins σ Q) X.xe s
theorem SlR.or {r r' : V → Option Int → Option Int → Hp → VK → Prop} (h : SlR X r) (h' : SlR X r') : SlR X (fun x lo hi H Q => r x lo hi H Q ∨ r' x lo hi H Q) := by
  intro pins s σ H x v vl vu lo hi sl Q I rx hs pl pu q
  rcases q with q | q
  · exact h pins s σ H x v vl vu lo hi sl Q I rx hs pl pu q
  · exact h' pins s σ H x v vl vu lo hi sl Q I rx hs pl pu q
def tSl (r : V → Option Int → Option Int → Hp → VK → Prop) (te : TE) (tl th : TO) : TE := fun σ H Q => te σ H fun x H1 => tl σ H1 fun l H2 => th σ H2 fun u H3 => r x l u H3 Q
/-- a[lo:hi], any a -/
theorem pe_slice {r : V → Option Int → Option Int → Hp → VK → Prop} (hr : SlR X r) (he : PE X e te) (hl : PO X lo tl) (hu : PO X hi th) : PE X (.Subscript e (.Slice lo hi none p2) pos) (tSl r te tl th) := by
  intro pins s σ H Q I h
  refine Subscript_ (thn (he pins s σ H _ I h) fun v s1 ⟨x, H1, I1, r1, q1⟩ => ?_)
  refine wpAny_Slice (thn (hl pins s1 σ H1 _ I1 q1) fun vl s2 ⟨l, H2, I2, pl, q2⟩ => thn (hu pins s2 σ H2 _ I2 q2) fun vu s3 ⟨u, H3, I3, pu, q3⟩ => ?_)
  rw [evalPart_none]
  refine wpAny_pure ?_
  have I4 : Inv X pins σ H3 { s3 with heap := s3.heap.push { cls := .type "slice", data := .fields #[vl, vu, .none] } } := I3.kept (t' := s3.toks) fun b ob q => Heap.get?_push_of_some _ q
  obtain ⟨T, id, hT, ht, hg⟩ := hr pins { s3 with heap := s3.heap.push { cls := .type "slice", data := .fields #[vl, vu, .none] } } σ H3 x v vl vu l u s3.heap.objs.size Q I4 r1 (Heap.IsSliceOf.new ..) pl pu q3
  show wpAny (model X.prog X.w) X.A (subscriptTail e (.Slice lo hi none p2) v (.ref s3.heap.objs.size)) (EP X pins σ Q) X.xe { s3 with heap := s3.heap.push { cls := .type "slice", data := .fields #[vl, vu, .none] } }
  exact tail_any (ops := [.ref s3.heap.objs.size, v]) ht hT hg (by with_unfolding_all rfl)

/-- the items of xs[lo:hi] -/
def cutV (xs : List V) (lo hi : Option Int) : List V := (xs.drop (HT.sIx xs.length 0 lo)).take (HT.sIx xs.length xs.length hi - HT.sIx xs.length 0 lo)
theorem cutV_length (xs : List V) (lo hi : Option Int) : (cutV xs lo hi).length ≤ xs.length := by
  unfold cutV
  rw [List.length_take, List.length_drop]
  omega
/-- t[lo:hi], not the whole of it (the whole would be t itself) -/
def rSlT (K : PySem.W.Frag) : V → Option Int → Option Int → Hp → VK → Prop := fun x lo hi H Q => ∃ a xs, x = .ref a ∧ SqT K H a xs ∧
  ¬ (HT.sIx xs.length 0 lo = 0 ∧ HT.sIx xs.length xs.length hi = xs.length) ∧ ∀ p, H p = none → Q (.ref p) (upd H p (.tup (cutV xs lo hi)))
theorem sl_tup : SlR X (rSlT X.K) := by
  intro pins s σ H x v vl vu lo hi sl Q I rx hs pl pu h
  obtain ⟨a, xs, rfl, hx, hw, q⟩ := h
  cases rx
  obtain ⟨its, r, ht, hz⟩ := I.tuple hx
  have hlen : its.toArray.size = xs.length := by rw [List.size_toArray]; exact r.length.symm
  refine ⟨"tuple", _, PyProof.Rows.slot_tuple_getitem.lookup, ht.typeIs, ?_⟩
  refine HT.getItem_tuple_cut ht hs pl pu (by rw [hlen]; exact hw) ?_ (by rw [hlen]; exact hz)
  rw [hlen]
  refine ⟨.ref s.heap.objs.size, _, I.laid (t' := s.toks) (o := .tup (cutV xs lo hi)) (fun b ob q => Heap.get?_push_of_some _ q) (Nat.le_refl _) ?_, rfl, q _ (I.hok.fresh (Nat.le_refl _))⟩
  exact ⟨Nat.le_trans (cutV_length xs lo hi) hz, _, (r.drop (HT.sIx xs.length 0 lo)).take (HT.sIx xs.length xs.length hi - HT.sIx xs.length 0 lo), IsTup.new _ _⟩

/-! ### t < u, t + u -/
def rLtT (K : PySem.W.Frag) : R2 := fun x y H Q => ∃ a b ns ms, x = .ref a ∧ y = .ref b ∧ SqT K H a (ns.map V.int) ∧ SqT K H b (ms.map V.int) ∧ Q (.bl (HT.lexLt ns ms)) H
theorem op_ltT (hu : X.A.units < cLine) : OpR X (compareOp .Lt) (rLtT X.K) := by
  intro pins s σ H x y v u Q I rx ry h
  obtain ⟨a, b, ns, ms, rfl, rfl, ha, hb, q⟩ := h
  cases rx
  cases ry
  obtain ⟨its, r1, p1, _⟩ := I.tuple ha
  obtain ⟨its2, r2, p2, _⟩ := I.tuple hb
  have i1 : IntsAre its.toArray.toList ns := intsAre_of r1
  have i2 : IntsAre its2.toArray.toList ms := intsAre_of r2
  exact HT.lt_tupInts p1 p2 i1 i2 hu ⟨.bl (HT.lexLt ns ms), H, I, rfl, q⟩
/-- t + u, t not empty: u empty gives t itself -/
def rCatT (K : PySem.W.Frag) : R2 := fun x y H Q => ∃ a b xs ys, x = .ref a ∧ y = .ref b ∧ SqT K H a xs ∧ SqT K H b ys ∧ xs ≠ [] ∧ xs.length + ys.length ≤ sizeLine ∧
  (ys = [] → Q (.ref a) H) ∧ (ys ≠ [] → ∀ p, H p = none → Q (.ref p) (upd H p (.tup (xs ++ ys))))
theorem Vals.nil_iff {xs : List V} {us : List Value} (r : Vals xs us) : us = [] ↔ xs = [] := by
  cases r with
  | nil => simp
  | cons _ _ => simp
theorem op_catT : OpR X (binaryOp .Add) (rCatT X.K) := by
  intro pins s σ H x y v u Q I rx ry h
  obtain ⟨a, b, xs, ys, rfl, rfl, ha, hb, hx, hz, q1, q2⟩ := h
  cases rx
  cases ry
  obtain ⟨its, r1, p1, _⟩ := I.tuple ha
  obtain ⟨its2, r2, p2, _⟩ := I.tuple hb
  refine HT.cat_tup p1 p2 (fun z => hx (r1.nil_iff.mp z)) (fun z => ⟨.ref a, H, I, rfl, q1 (r2.nil_iff.mp z)⟩) (fun z => ?_) (by rw [← r1.length, ← r2.length]; exact hz)
  refine ⟨.ref s.heap.objs.size, _, I.laid (t' := s.toks) (o := .tup (xs ++ ys)) (fun b ob q => Heap.get?_push_of_some _ q) (Nat.le_refl _) ?_, rfl, q2 (fun w => z (r2.nil_iff.mpr w)) _ (I.hok.fresh (Nat.le_refl _))⟩
  exact ⟨by rw [List.length_append]; exact hz, _, r1.append r2, IsTup.new _ _⟩
/-- tuple(t) -/
theorem call_tupleT : CallR X (.type "tuple") (fun xs H Q => ∃ a ys, xs = [.ref a] ∧ SqT X.K H a ys ∧ Q (.ref a) H) := by
  intro pins s σ H xs us Q I r h
  obtain ⟨a, ys, rfl, ha, q⟩ := h
  obtain ⟨u, rfl, ru⟩ := vals1 r
  cases ru
  obtain ⟨its, _, p1, _⟩ := I.tuple ha
  exact call_tuple_same (items := its.toArray) p1 ⟨.ref a, H, I, rfl, q⟩
end
end L2

namespace L2
open PySem PySem.Spec PyProof.Rows

/-! ### places -/
/-- the place that an index of any sign means -/
def ixN (n : Nat) (i : Int) : Option Nat := if 0 ≤ i then (if i < n then some i.toNat else none) else if -(n : Int) ≤ i then some (i + n).toNat else none
def atI {α : Type} (xs : List α) (i : Int) : Option α := (ixN xs.length i).bind fun j => xs[j]?
theorem ixN_seq {n : Nat} {i : Int} {j : Nat} (h : ixN n i = some j) : seqIndex? i n = some j ∧ j < n ∧ -(n : Int) ≤ i ∧ i < n := by
  unfold ixN at h
  by_cases h0 : 0 ≤ i
  · rw [if_pos h0] at h
    by_cases h1 : i < n
    · rw [if_pos h1] at h
      have e : i.toNat = j := Option.some.inj h
      exact ⟨by rw [seqIndex_of h0 h1, e], by omega, by omega, h1⟩
    · rw [if_neg h1] at h; cases h
  · rw [if_neg h0] at h
    by_cases h1 : -(n : Int) ≤ i
    · rw [if_pos h1] at h
      have e : (i + n).toNat = j := Option.some.inj h
      exact ⟨by rw [seqIndex_neg (by omega) h1, e], by omega, h1, by omega⟩
    · rw [if_neg h1] at h; cases h
theorem atI_get {α : Type} {xs : List α} {i : Int} {v : α} (h : atI xs i = some v) : ∃ j, seqIndex? i xs.length = some j ∧ xs[j]? = some v ∧ j < xs.length ∧ -(xs.length : Int) ≤ i ∧ i < xs.length := by
  unfold atI at h
  cases e : ixN xs.length i with
  | none => rw [e] at h; cases h
  | some j =>
    rw [e] at h
    obtain ⟨h1, h2, h3, h4⟩ := ixN_seq e
    exact ⟨j, h1, h, h2, h3, h4⟩
theorem atI_nat {α : Type} {xs : List α} {j : Nat} {v : α} (h : xs[j]? = some v) : atI xs (j : Int) = some v := by
  have hj : j < xs.length := (List.getElem?_eq_some_iff.mp h).1
  have e : ixN xs.length (j : Int) = some j := by
    unfold ixN
    rw [if_pos (by omega), if_pos (by omega)]; simp
  unfold atI; rw [e]; exact h
theorem atI_last {α : Type} (xs : List α) (v : α) : atI (xs ++ [v]) (-1) = some v := by
  have hl : (xs ++ [v]).length = xs.length + 1 := by simp
  have e : ixN (xs ++ [v]).length (-1) = some xs.length := by
    unfold ixN
    rw [hl, if_neg (by decide), if_pos (by omega)]
    congr 1
    omega
  unfold atI
  rw [e]
  show (xs ++ [v])[xs.length]? = some v
  simp

/-! ### what may be subscripted -/
/-- what stands as an index of a plain subscript -/
def PlainIx (b : Expr) : Prop := ∀ o i, subscripted b false o i = operate [o, i] (getItem o i)
/-- a subscript by values -/
def IxR (X : Cx) (r : R2) : Prop :=
  ∀ (value slice : Expr) (pins : List (Addr × Obj)) (s : Shared) (σ : St) (H : Hp) (x y : V) (v u : Value) (Q : VK), Inv X pins σ H s → RelV x v → RelV y u → r x y H Q →
    subscripted slice false v u = operate [v, u] (getItem v u) → wpAny (model X.prog X.w) X.A (subscriptTail value slice v u) (EP X pins σ Q) X.xe s
/-- a call of a builtin's method by values: the receiver, the arguments -/
def MtR (X : Cx) (id : String) (r : V → List V → Hp → VK → Prop) : Prop :=
  ∀ (pins : List (Addr × Obj)) (s : Shared) (σ : St) (H : Hp) (x : V) (xs : List V) (v : Value) (us : List Value) (Q : VK), Inv X pins σ H s → RelV x v → Vals xs us → r x xs H Q →
    wpAny (model X.prog X.w) X.A (call (.builtin id) (v :: us)) (EP X pins σ Q) X.xe s
section
variable {X : Cx} {a b : Expr} {ta tb : TE} {pos : Pos}
theorem IxR.or {r r' : R2} (h : IxR X r) (h' : IxR X r') : IxR X (fun x y H Q => r x y H Q ∨ r' x y H Q) := by
  intro value slice pins s σ H x y v u Q I rx ry q hs
  rcases q with q | q
  · exact h value slice pins s σ H x y v u Q I rx ry q hs
  · exact h' value slice pins s σ H x y v u Q I rx ry q hs
theorem MtR.or {id : String} {r r' : V → List V → Hp → VK → Prop} (h : MtR X id r) (h' : MtR X id r') : MtR X id (fun x xs H Q => r x xs H Q ∨ r' x xs H Q) := by
  intro pins s σ H x xs v us Q I rx rs q
  rcases q with q | q
  · exact h pins s σ H x xs v us Q I rx rs q
  · exact h' pins s σ H x xs v us Q I rx rs q
/-- a[b] -/
theorem pe_ix {r : R2} (hr : IxR X r) (ha : PE X a ta) (hb : PE X b tb) (hs : PlainIx b) : PE X (.Subscript a b pos) (tOp r ta tb) := by
  intro pins s σ H Q I h
  exact Subscript_ (binT ha hb I h fun v u s2 x y H2 I2 rx ry q => hr a b pins s2 σ H2 x y v u Q I2 rx ry q (hs _ _))

def rIxL (K : PySem.W.Frag) : R2 := fun x y H Q => ∃ p xs i v, x = .ref p ∧ y = .int i ∧ SqL K H p xs ∧ atI xs i = some v ∧ Q v H
def rIxT (K : PySem.W.Frag) : R2 := fun x y H Q => ∃ p xs i v, x = .ref p ∧ y = .int i ∧ SqT K H p xs ∧ atI xs i = some v ∧ Q v H
def rIxS : R2 := fun x y H Q => ∃ z i c, x = .str z ∧ y = .int i ∧ z.length ≤ sizeLine ∧ atI z.cps.toList i = some c ∧ Q (.str ⟨#[c]⟩) H
theorem ix_list : IxR X (rIxL X.K) := by
  intro value slice pins s σ H x y v u Q I rx ry h hs
  obtain ⟨p, xs, i, z, rfl, rfl, hq, he, q⟩ := h
  cases rx
  obtain ⟨t, rfl⟩ := ry
  obtain ⟨its, r, pl, hz⟩ := I.list hq
  obtain ⟨j, h1, h2, h3, h4, h5⟩ := atI_get he
  obtain ⟨w, ew, rw'⟩ := r.get h2
  have hl := r.length
  have hn := line63
  have fin : EP X pins σ Q w s := ⟨z, H, I, rw', q⟩
  by_cases h0 : 0 ≤ i
  · have hj : i.toNat = j := by
      rw [seqIndex_of h0 h5] at h1
      exact Option.some.inj h1
    exact item_listR pl.isList h0 (by omega) (by rw [hj]; simpa using ew) fin hs
  · have hj : (i + (its.toArray.size : Int)).toNat = j := by
      rw [seqIndex_neg (by omega) h4] at h1
      rw [List.size_toArray, ← hl]
      exact Option.some.inj h1
    exact subscriptTail_builtinR (x := w) pl.isList.typeIs slot_list_getitem.lookup
      (wpAny_getItem_list_neg (Q := fun r s' => r = w ∧ EP X pins σ Q r s') pl.isList (by omega) (by rw [List.size_toArray] <;> omega) (by omega) (by rw [hj]; simpa using ew) ⟨rfl, fin⟩) hs
theorem ix_tup : IxR X (rIxT X.K) := by
  intro value slice pins s σ H x y v u Q I rx ry h hs
  obtain ⟨p, xs, i, z, rfl, rfl, hq, he, q⟩ := h
  cases rx
  obtain ⟨t, rfl⟩ := ry
  obtain ⟨its, r, pl, hz⟩ := I.tuple hq
  obtain ⟨j, h1, h2, h3, h4, h5⟩ := atI_get he
  obtain ⟨w, ew, rw'⟩ := r.get h2
  have hl := r.length
  have hn := line63
  have fin : EP X pins σ Q w s := ⟨z, H, I, rw', q⟩
  exact subscriptTail_builtinR (x := w) pl.typeIs slot_tuple_getitem.lookup
    (getItem_tuple (j := j) (Q := fun r s' => r = w ∧ EP X pins σ Q r s') pl (by omega) (by omega) (by rw [List.size_toArray, ← hl]; exact h1) (by simpa using ew) ⟨rfl, fin⟩) hs
theorem ix_str : IxR X rIxS := by
  intro value slice pins s σ H x y v u Q I rx ry h hs
  obtain ⟨z, i, c, rfl, rfl, hz, he, q⟩ := h
  obtain ⟨t, rfl⟩ := rx
  obtain ⟨t', rfl⟩ := ry
  obtain ⟨j, h1, h2, h3, h4, h5⟩ := atI_get he
  have hl : z.cps.toList.length = z.length := by simp [Str.length]
  rw [hl] at h1 h4 h5
  have hn := line63
  exact tail_any (typeIs_str s z t) slot_str_getitem.lookup (getItem_str (c := c) (by
    have e1 : decide (i < -(2 ^ 63 : Int)) = false := decide_eq_false (by omega)
    have e2 : decide (i ≥ 2 ^ 63) = false := decide_eq_false (by omega)
    rw [e1, e2, Bool.or_false]) (by rw [h1]; simpa using h2) ⟨.str ⟨#[c]⟩, H, I.tok _, ⟨_, rfl⟩, q⟩) hs
/-- list, tuple or str -/
def rIx (K : PySem.W.Frag) : R2 := fun x y H Q => rIxL K x y H Q ∨ rIxT K x y H Q ∨ rIxS x y H Q
theorem ix_seq : IxR X (rIx X.K) := ix_list.or (ix_tup.or ix_str)

/-! ### xs[i] = v, any sign -/
/-- the list's object behind a store -/
theorem mapSeq_set (its : List Value) (n j : Nat) (u : Value) : Obj.mapSeq (·.setIfInBounds j u) { cls := .type "list", data := .seq its.toArray n } = { cls := .type "list", data := .seq (its.set j u).toArray n } := by
  simp [Obj.mapSeq]
theorem Inv.lst {pins : List (Addr × Obj)} {σ : St} {H : Hp} {s : Shared} {p : Addr} {xs : List V} (I : Inv X pins σ H s) (h : H p = some (.lst xs)) :
    ∃ (its : List Value) (n : Nat), Vals xs its ∧ s.heap.get? p = some { cls := .type "list", data := .seq its.toArray n } ∧ xs.length ≤ sizeLine := by
  obtain ⟨z, its, n, r, e⟩ := I.hok p _ h
  exact ⟨its, n, r, e, z⟩
/-- the list at p is written by an update of its object -/
theorem Inv.lstUpd {pins : List (Addr × Obj)} {σ : St} {H : Hp} {s : Shared} {p : Addr} {xs ys : List V} {its its' : List Value} {n n' : Nat} {f : Obj → Obj} (I : Inv X pins σ H s) (h : H p = some (.lst xs))
    (ho : s.heap.get? p = some { cls := .type "list", data := .seq its.toArray n }) (hf : f { cls := .type "list", data := .seq its.toArray n } = { cls := .type "list", data := .seq its'.toArray n' }) (r : Vals ys its') (hz : ys.length ≤ sizeLine) (t : Nat) :
    Inv X pins σ (upd H p (.lst ys)) { s with heap := s.heap.update p f, toks := t } := by
  have e : (s.heap.update p f).get? p = some { cls := .type "list", data := .seq its'.toArray n' } := by
    rw [Heap.get?_update_self f ho (by rw [hf] <;> rfl), hf]
  refine I.write (x := p) (e := p) (by rw [h]; trivial) (.inl rfl) (fun b u hb q => (Heap.get?_update_other _ _ (Ne.symm hb)).trans q) ⟨_, e⟩ ?_
  exact ⟨hz, its', n', r, e⟩
def rSetL : V → V → V → Hp → (Hp → Prop) → Prop := fun o i v H Q => ∃ p xs k j, o = .ref p ∧ i = .int k ∧ H p = some (.lst xs) ∧ ixN xs.length k = some j ∧ Q (upd H p (.lst (xs.set j v)))
theorem set_list : PSet X rSetL := by
  intro pins s σ H o i v ov iv u Q I ro ri rv h
  obtain ⟨p, xs, k, j, rfl, rfl, hp, hj, q⟩ := h
  cases ro
  obtain ⟨t, rfl⟩ := ri
  obtain ⟨its, n, r, ho, hz⟩ := I.lst hp
  obtain ⟨h1, h2, h3, h4⟩ := ixN_seq hj
  have hl := r.length
  have hn := line63
  have I' : Inv X pins σ (upd H p (.lst (xs.set j v))) { s with heap := s.heap.update p (Obj.mapSeq (·.setIfInBounds j u)) } :=
    I.lstUpd hp ho (mapSeq_set its n j u) (r.set rv j) (by rw [List.length_set]; exact hz) s.toks
  by_cases h0 : 0 ≤ k
  · have hk : k.toNat = j := by
      rw [seqIndex_of h0 h4] at h1
      exact Option.some.inj h1
    exact PySem.W.ki_setAt ho h0 (by omega) (by rw [List.size_toArray, ← hl]; exact h4) (by rw [hk]; exact ⟨_, I', q⟩)
  · have hk : (k + (its.toArray.size : Int)).toNat = j := by
      rw [seqIndex_neg (by omega) h3] at h1
      rw [List.size_toArray, ← hl]
      exact Option.some.inj h1
    exact PySem.W.ki_setBack ho (by omega) (by rw [List.size_toArray, ← hl]; exact h3) (by omega) (by rw [hk]; exact ⟨_, I', q⟩)

/-! ### slices -/
theorem slice_bounds (lo hi : Option Int) (n : Nat) : (sliceBounds lo hi none n).1 = ((HT.sIx n 0 lo : Nat) : Int) ∧ (sliceBounds lo hi none n).2.1 = ((HT.sIx n n hi : Nat) : Int) ∧ (sliceBounds lo hi none n).2.2 = 1 := by
  refine ⟨?_, ?_, rfl⟩
  · cases lo with
    | none => simp [sliceBounds, HT.sIx]
    | some i =>
      simp only [sliceBounds, HT.sIx, Option.getD_none, show (1 : Int) > 0 by decide, if_true]
      by_cases h : i < 0
      · simp only [h, if_true] <;> omega
      · simp only [h, if_false] <;> omega
  · cases hi with
    | none => simp [sliceBounds, HT.sIx]
    | some i =>
      simp only [sliceBounds, HT.sIx, Option.getD_none, show (1 : Int) > 0 by decide, if_true]
      by_cases h : i < 0
      · simp only [h, if_true] <;> omega
      · simp only [h, if_false] <;> omega
theorem slicePick_cut (its : List Value) (lo hi : Option Int) : slicePick its.toArray lo hi none = ((its.drop (HT.sIx its.length 0 lo)).take (HT.sIx its.length its.length hi - HT.sIx its.length 0 lo)).toArray := by
  obtain ⟨h1, h2, h3⟩ := slice_bounds lo hi its.toArray.size
  unfold slicePick
  rw [h1, h2, h3]
  simp only [sliceRange_one, pick_run, List.size_toArray] <;> rfl
/-- xs[lo:hi] of a list: a new list -/
def rSlL (K : PySem.W.Frag) : V → Option Int → Option Int → Hp → VK → Prop := fun x lo hi H Q => ∃ a xs, x = .ref a ∧ SqL K H a xs ∧ ∀ p, H p = none → Q (.ref p) (upd H p (.lst (cutV xs lo hi)))
theorem sl_list : SlR X (rSlL X.K) := by
  intro pins s σ H x v vl vu lo hi sl Q I rx hs pl pu h
  obtain ⟨a, xs, rfl, hx, q⟩ := h
  cases rx
  obtain ⟨its, r, ht, hz⟩ := I.list hx
  have hlen := r.length
  refine ⟨"list", _, slot_list_getitem.lookup, ht.isList.typeIs, ?_⟩
  refine wpAny_getItem_list_slice ht.isList hs pl pu .none (by simp) ?_ (by rw [List.size_toArray] <;> omega)
  rw [slicePick_cut, ← hlen]
  refine ⟨.ref s.heap.objs.size, _, I.laid (t' := s.toks) (o := .lst (cutV xs lo hi)) (fun b ob q => Heap.get?_push_of_some _ q) (Nat.le_refl _) ?_, rfl, q _ (I.hok.fresh (Nat.le_refl _))⟩
  exact ⟨Nat.le_trans (cutV_length xs lo hi) hz, _, 0, (r.drop (HT.sIx xs.length 0 lo)).take (HT.sIx xs.length xs.length hi - HT.sIx xs.length 0 lo), Heap.get?_push_size _ rfl⟩

/-! ### in, not in: flat items -/
def flatV : V → Bool
  | .non => true
  | .bl _ => true
  | .int _ => true
  | .str _ => true
  | _ => false
/-- == of flat values -/
def eqV : V → V → Bool
  | .non, .non => true
  | .bl a, .bl b => a == b
  | .bl a, .int b => (if a then 1 else 0) == b
  | .int a, .bl b => a == (if b then 1 else 0)
  | .int a, .int b => a == b
  | .str a, .str b => a == b
  | _, _ => false
theorem eqAt_V {A : Around} {s : Shared} {y x : V} {u v : Value} (ry : RelV y u) (rx : RelV x v) (fy : flatV y = true) (fx : flatV x = true) : SeqAt.EqAt A s u v (eqV y x) := by
  cases y with
  | non =>
    cases ry
    cases x with
    | non => cases rx; exact SeqAt.EqAt.same _
    | bl b => cases rx; exact SeqAt.EqAt.none_bool b
    | int b => obtain ⟨t, rfl⟩ := rx; exact SeqAt.EqAt.none_int b t
    | str b => obtain ⟨t, rfl⟩ := rx; exact SeqAt.EqAt.none_str b t
    | _ => exact absurd (show false = true from fx) Bool.false_ne_true
  | bl a =>
    cases ry
    cases x with
    | non => cases rx; exact SeqAt.EqAt.bool_none a
    | bl b => cases rx; exact SeqAt.EqAt.bool_bool a b
    | int b => obtain ⟨t, rfl⟩ := rx; exact SeqAt.EqAt.bool_int a b t
    | str b => obtain ⟨t, rfl⟩ := rx; exact SeqAt.EqAt.bool_str a b t
    | _ => exact absurd (show false = true from fx) Bool.false_ne_true
  | int a =>
    obtain ⟨t', rfl⟩ := ry
    cases x with
    | non => cases rx; exact SeqAt.EqAt.int_none a t'
    | bl b => cases rx; exact SeqAt.EqAt.int_bool a t' b
    | int b => obtain ⟨t, rfl⟩ := rx; exact SeqAt.EqAt.int_int a t' b t
    | str b => obtain ⟨t, rfl⟩ := rx; exact SeqAt.EqAt.int_str a t' b t
    | _ => exact absurd (show false = true from fx) Bool.false_ne_true
  | str a =>
    obtain ⟨t', rfl⟩ := ry
    cases x with
    | non => cases rx; exact SeqAt.EqAt.str_none a t'
    | bl b => cases rx; exact SeqAt.EqAt.str_bool a t' b
    | int b => obtain ⟨t, rfl⟩ := rx; exact SeqAt.EqAt.str_int a t' b t
    | str b => obtain ⟨t, rfl⟩ := rx; exact SeqAt.EqAt.str_str a t' b t
    | _ => exact absurd (show false = true from fx) Bool.false_ne_true
  | _ => exact absurd (show false = true from fy) Bool.false_ne_true
/-- the items' answers, read off the values (a value's own answer does not lean on its token) -/
def eqU (x : V) (u : Value) : Bool := match u with
  | .none => eqV .non x
  | .bool b => eqV (.bl b) x
  | .int i _ => eqV (.int i) x
  | .str z _ => eqV (.str z) x
  | _ => false
theorem eqU_of {x y : V} {u : Value} (r : RelV y u) (f : flatV y = true) : eqU x u = eqV y x := by
  cases y with
  | non => cases r; rfl
  | bl b => cases r; rfl
  | int i => obtain ⟨t, rfl⟩ := r; rfl
  | str z => obtain ⟨t, rfl⟩ := r; rfl
  | _ => exact absurd (show false = true from f) Bool.false_ne_true
theorem any_eqU {x : V} : ∀ {xs : List V} {us : List Value}, Vals xs us → xs.all flatV = true → us.any (eqU x) = xs.any fun y => eqV y x
  | _, _, .nil, _ => rfl
  | y :: xs, u :: us, .cons r t, f => by
    rw [List.all_cons, Bool.and_eq_true] at f
    rw [List.any_cons, List.any_cons, eqU_of r f.1, any_eqU t f.2]
theorem mem_eqAt {A : Around} {s : Shared} {x : V} {v : Value} (rx : RelV x v) (fx : flatV x = true) : ∀ {xs : List V} {us : List Value}, Vals xs us → xs.all flatV = true → ∀ u ∈ us, SeqAt.EqAt A s u v (eqU x u)
  | _, _, .nil, _ => fun u hu => by cases hu
  | y :: xs, u :: us, .cons r t, f => fun u' hu => by
    rw [List.all_cons, Bool.and_eq_true] at f
    rcases List.mem_cons.mp hu with rfl | hu
    · rw [eqU_of r f.1]; exact eqAt_V r rx f.1 fx
    · exact mem_eqAt rx fx t f.2 u' hu
def inV (x : V) (xs : List V) : Bool := xs.any fun y => eqV y x
/-- x in a list or tuple of flat items -/
def rIn (K : PySem.W.Frag) (neg : Bool) : R2 := fun x y H Q => ∃ p xs, y = .ref p ∧ (SqL K H p xs ∨ SqT K H p xs) ∧ flatV x = true ∧ xs.all flatV = true ∧ Q (.bl (if neg then !inV x xs else inV x xs)) H
theorem op_in_seq : OpR X (compareOp .In) (rIn X.K false) := by
  intro pins s σ H x y v u Q I rx ry h
  obtain ⟨p, xs, rfl, hq, fx, fs, q⟩ := h
  cases ry
  rcases hq with hq | hq
  · obtain ⟨its, r, pl, hz⟩ := I.list hq
    refine SeqAt.in_listAt (eqU x) pl.isList (fun w hw => mem_eqAt rx fx r fs w (by simpa using hw)) ⟨.bl _, H, I, rfl, ?_⟩
    rw [show its.toArray.any (eqU x) = its.any (eqU x) by simp, any_eqU r fs]
    exact q
  · obtain ⟨its, r, pl, hz⟩ := I.tuple hq
    refine SeqAt.in_tupleAt (eqU x) pl (fun w hw => mem_eqAt rx fx r fs w (by simpa using hw)) ⟨.bl _, H, I, rfl, ?_⟩
    rw [show its.toArray.any (eqU x) = its.any (eqU x) by simp, any_eqU r fs]
    exact q
theorem op_notIn_seq : OpR X (compareOp .NotIn) (rIn X.K true) := by
  intro pins s σ H x y v u Q I rx ry h
  obtain ⟨p, xs, rfl, hq, fx, fs, q⟩ := h
  cases ry
  rcases hq with hq | hq
  · obtain ⟨its, r, pl, hz⟩ := I.list hq
    refine SeqAt.notIn_listAt (eqU x) pl.isList (fun w hw => mem_eqAt rx fx r fs w (by simpa using hw)) ⟨.bl _, H, I, rfl, ?_⟩
    rw [show its.toArray.any (eqU x) = its.any (eqU x) by simp, any_eqU r fs]
    exact q
  · obtain ⟨its, r, pl, hz⟩ := I.tuple hq
    refine SeqAt.notIn_tupleAt (eqU x) pl (fun w hw => mem_eqAt rx fx r fs w (by simpa using hw)) ⟨.bl _, H, I, rfl, ?_⟩
    rw [show its.toArray.any (eqU x) = its.any (eqU x) by simp, any_eqU r fs]
    exact q
theorem op_notIn_str : OpR X (compareOp .NotIn) (fun x y H Q => ∃ i j, x = .str i ∧ y = .str j ∧ Q (.bl (!(!(Builtin.Str.occurrences j i 0 j.length 1).isEmpty))) H) := by
  intro pins s σ H x y v u Q I rx ry h
  obtain ⟨i, j, rfl, rfl, q⟩ := h
  obtain ⟨t, rfl⟩ := rx
  obtain ⟨t', rfl⟩ := ry
  exact notIn_str ⟨.bl _, H, I, rfl, q⟩

/-! ### len, list(x), tuple(x) of any list or tuple that is read -/
theorem call_len_seq : CallR X (.builtin "len") (fun xs H Q => ∃ p ys, xs = [.ref p] ∧ (SqL X.K H p ys ∨ SqT X.K H p ys) ∧ Q (.int ys.length) H) := by
  intro pins s σ H xs us Q I r h
  obtain ⟨p, ys, rfl, hq, q⟩ := h
  obtain ⟨u, rfl, rx⟩ := vals1 r
  cases rx
  have hn := line63
  rcases hq with hq | hq
  · obtain ⟨its, r', pl, hz⟩ := I.list hq
    have hlen := r'.length
    exact Calls.call_len_list pl.isList (by simp only [List.size_toArray] <;> omega) ⟨.int ys.length, H, I.tok _, ⟨s.toks + 1, by rw [List.size_toArray, hlen]⟩, q⟩
  · obtain ⟨its, r', pl, hz⟩ := I.tuple hq
    have hlen := r'.length
    exact len_tuple pl (by simp only [List.size_toArray] <;> omega) ⟨.int ys.length, H, I.tok _, ⟨s.toks + 1, by rw [List.size_toArray, hlen]⟩, q⟩
theorem call_len_str : CallR X (.builtin "len") (fun xs H Q => ∃ z, xs = [.str z] ∧ z.length ≤ sizeLine ∧ Q (.int z.length) H) := by
  intro pins s σ H xs us Q I r h
  obtain ⟨z, rfl, hz, q⟩ := h
  obtain ⟨u, rfl, t, rfl⟩ := vals1 r
  have hn := line63
  exact len_str (by omega) ⟨.int z.length, H, I.tok _, ⟨_, rfl⟩, q⟩
theorem CallR.or {f : Value} {r r' : List V → Hp → VK → Prop} (h : CallR X f r) (h' : CallR X f r') : CallR X f (fun xs H Q => r xs H Q ∨ r' xs H Q) := by
  intro pins s σ H xs us Q I rs q
  rcases q with q | q
  · exact h pins s σ H xs us Q I rs q
  · exact h' pins s σ H xs us Q I rs q
theorem call_list_of : CallR X (.type "list") (fun xs H Q => ∃ p ys, xs = [.ref p] ∧ (SqL X.K H p ys ∨ SqT X.K H p ys) ∧ ∀ l, H l = none → Q (.ref l) (upd H l (.lst ys))) := by
  intro pins s σ H xs us Q I r h
  obtain ⟨p, ys, rfl, hq, q⟩ := h
  obtain ⟨u, rfl, rx⟩ := vals1 r
  cases rx
  have fin : ∀ (its : List Value), Vals ys its → ys.length ≤ sizeLine → ∀ (h' : Heap) (c' : Nat), (∀ b o', s.heap.get? b = some o' → h'.get? b = some o') →
      h'.get? s.heap.objs.size = some { cls := .type "list", dict := none, data := .seq its.toArray c', slots := #[] } → EP X pins σ Q (.ref s.heap.objs.size) { s with heap := h' } := fun its r' hz h' c' kp e =>
    ⟨.ref s.heap.objs.size, _, I.laid (t' := s.toks) kp (Nat.le_refl _) (show ObjOk X.prog X.w _ h' _ (.lst ys) from ⟨hz, its, c', r', e⟩), rfl, q _ (I.hok.fresh (Nat.le_refl _))⟩
  rcases hq with hq | hq
  · obtain ⟨its, r', pl, hz⟩ := I.list hq
    have hlen := r'.length
    obtain ⟨o, ho, hc, n, hd⟩ := pl.isList
    exact call_list_seq p (.inl rfl) ho hc hd (fun h' c' kp e => fin its r' hz h' c' kp e) (by simp only [List.size_toArray] <;> omega)
  · obtain ⟨its, r', pl, hz⟩ := I.tuple hq
    have hlen := r'.length
    obtain ⟨o, ho, hc, n, hd⟩ := pl
    exact call_list_seq p (.inr rfl) ho hc hd (fun h' c' kp e => fin its r' hz h' c' kp e) (by simp only [List.size_toArray] <;> omega)
theorem call_tuple_of : CallR X (.type "tuple") (fun xs H Q => ∃ p ys, xs = [.ref p] ∧ ((SqL X.K H p ys ∧ ∀ l, H l = none → Q (.ref l) (upd H l (.tup ys))) ∨ (SqT X.K H p ys ∧ Q (.ref p) H))) := by
  intro pins s σ H xs us Q I r h
  obtain ⟨p, ys, rfl, h⟩ := h
  obtain ⟨u, rfl, rx⟩ := vals1 r
  cases rx
  rcases h with ⟨hq, q⟩ | ⟨hq, q⟩
  · obtain ⟨its, r', pl, hz⟩ := I.list hq
    have hlen := r'.length
    refine call_tuple_list pl.isList (fun h' kp => ?_) (by simp only [List.size_toArray] <;> omega)
    have I1 : Inv X pins σ H { s with heap := h' } := I.kept (t' := s.toks) kp
    have I2 : Inv X pins σ (upd H h'.objs.size (.tup ys)) { s with heap := h'.push { cls := .type "tuple", data := .seq its.toArray } } :=
      I1.laid (t' := s.toks) (fun b o e => Heap.get?_push_of_some _ e) (Nat.le_refl _) (show ObjOk X.prog X.w _ _ _ (.tup ys) from ⟨hz, its, r', IsTup.new _ _⟩)
    exact ⟨.ref h'.objs.size, _, I2, rfl, q _ (I1.hok.fresh (Nat.le_refl _))⟩
  · obtain ⟨its, r', pl, hz⟩ := I.tuple hq
    exact call_tuple_same pl ⟨.ref p, H, I, rfl, q⟩

/-! ### the call of a builtin's method: o.m(..) -/
/-- the value is of that builtin type -/
def tyV (K : PySem.W.Frag) (T : String) (x : V) (H : Hp) : Prop := match x with
  | .str _ => T = "str"
  | .int _ => T = "int"
  | .ref p => (T = "list" ∧ ∃ xs, SqL K H p xs) ∨ (T = "tuple" ∧ ∃ o, K.lookup p = some o ∧ o.cls = .type "tuple" ∧ o.dict = none) ∨
      (T = "dict" ∧ ((∃ kvs, H p = some (.dK kvs)) ∨ ∃ kvs, H p = some (.dT kvs))) ∨ (T = "set" ∧ ∃ S n, H p = some (.set S n))
  | _ => False
theorem tyV_is {pins : List (Addr × Obj)} {σ : St} {H : Hp} {s : Shared} {T : String} {x : V} {v : Value} (I : Inv X pins σ H s) (r : RelV x v) (ty : tyV X.K T x H) :
    s.TypeIs v T ∧ ∀ a, v = .ref a → ∃ ob, s.heap.get? a = some ob ∧ ob.dict = none := by
  cases x with
  | str z =>
    obtain ⟨t, rfl⟩ := r
    cases (show T = "str" from ty)
    exact ⟨typeIs_str s z t, fun _ e => nomatch e⟩
  | int i =>
    obtain ⟨t, rfl⟩ := r
    cases (show T = "int" from ty)
    exact ⟨typeIs_int s i t, fun _ e => nomatch e⟩
  | ref p =>
    cases r
    rcases ty with ⟨rfl, xs, hq⟩ | ⟨rfl, o, hk, hc, hd⟩ | ⟨rfl, hk⟩ | ⟨rfl, S, n, hk⟩
    · obtain ⟨its, _, pl, _⟩ := I.list hq
      refine ⟨pl.isList.typeIs, fun a e => ?_⟩
      cases e
      obtain ⟨o, n, e, c, hd, _⟩ := pl
      exact ⟨o, e, hd⟩
    · refine ⟨⟨o, I.kIn p o hk, hc⟩, fun a e => ?_⟩
      cases e
      exact ⟨o, I.kIn _ o hk, hd⟩
    · have z : ∃ o, s.heap.get? p = some o ∧ o.ExactDict := by
        rcases hk with ⟨kvs, hk⟩ | ⟨kvs, hk⟩
        · obtain ⟨_, _, _, _, o, _, _, e, ex, _⟩ := I.hok p _ hk
          exact ⟨o, e, ex⟩
        · obtain ⟨_, _, _, _, o, _, _, e, ex, _⟩ := I.hok p _ hk
          exact ⟨o, e, ex⟩
      obtain ⟨o, e, ex⟩ := z
      refine ⟨⟨o, e, ex.1⟩, fun a e2 => ?_⟩
      cases e2
      exact ⟨o, e, ex.2.1⟩
    · obtain ⟨o, _, _, _, e, ex, _⟩ := I.hok p _ hk
      refine ⟨⟨o, e, ex.1⟩, fun a e2 => ?_⟩
      cases e2
      exact ⟨o, e, ex.2.1⟩
  | _ => exact False.elim ty
def tBM0 (K : PySem.W.Frag) (T : String) (r : V → List V → Hp → VK → Prop) (to : TE) : TE := fun σ H Q => to σ H fun x H1 => tyV K T x H1 ∧ r x [] H1 Q
def tBM (K : PySem.W.Frag) (T : String) (r : V → List V → Hp → VK → Prop) (to : TE) (t : TA) : TE := fun σ H Q => to σ H fun x H1 => tyV K T x H1 ∧ t σ H1 fun xs H2 => r x xs H2 Q
variable {o e : Expr} {es : List Expr} {to : TE} {t : TA} {name : Str} {apos cpos : Pos} {T id : String} {r : V → List V → Hp → VK → Prop}
theorem pe_bm0 (pa : PlainAttrs T) (slot : Slot T name id) (hty : typeOf (.builtin id) = pure (.type "method_descriptor")) (hm : MtR X id r) (ho : PE X o to)
    (hbase : attributeBase o name X.env (eval o X.env) = eval o X.env := by rfl) (hline : (apos.endLine == cpos.line) = true := by rfl) : PE X (.Call (.Attribute o name apos) [] [] cpos) (tBM0 X.K T r to) := by
  intro pins s σ H Q I h
  refine wpAny_Call_method0_late hbase hline (thn (ho pins s σ H _ I h) fun v s1 ⟨x, H1, I1, r1, ty, q1⟩ => ?_)
  obtain ⟨h1, h2⟩ := tyV_is I1 r1 ty
  exact ⟨T, id, pa, slot, hty, h1, h2, Calls.callWith_builtin rfl (PySem.evalArgs_none (hm pins s1 σ H1 x [] v [] Q I1 r1 .nil q1))⟩
theorem pe_bm (pa : PlainAttrs T) (slot : Slot T name id) (hty : typeOf (.builtin id) = pure (.type "method_descriptor")) (hm : MtR X id r) (ho : PE X o to) (ha : PA X (e :: es) t)
    (hbase : attributeBase o name X.env (eval o X.env) = eval o X.env := by rfl)
    (hfew : ((backTo cpos (starEach (e :: es) X.env)).all (fun x => !x.1) && (backToKw cpos (keywordEach [] X.env)).all (fun x => x.1.isSome)
      && decide ((e :: es).length + ([] : List Keyword).length + (if ([] : List Keyword).isEmpty then 0 else 1) < 30)) = true := by rfl)
    (hline : (apos.endLine == cpos.line) = true := by rfl) (hs : starEach (e :: es) X.env = (false, eval e X.env) :: starEach es X.env := by rfl) (hplain : (backTo cpos (starEach es X.env)).any (·.1) = false := by rfl) :
    PE X (.Call (.Attribute o name apos) (e :: es) [] cpos) (tBM X.K T r to t) := by
  intro pins s σ H Q I h
  refine wpAny_Call_method_late hbase hfew hline rfl (thn (ho pins s σ H _ I h) fun v s1 ⟨x, H1, I1, r1, ty, q1⟩ => ?_)
  obtain ⟨h1, h2⟩ := tyV_is I1 r1 ty
  refine ⟨T, id, pa, slot, hty, h1, h2, ?_⟩
  have hA := ha cpos pins s1 σ H1 _ I1 q1
  rw [hs] at hA ⊢
  refine Calls.callWith_builtin (by show (false || (backTo cpos (starEach es X.env)).any (·.1)) = false; rw [hplain] <;> rfl) (Calls.evalArgs_plain ?_)
  exact thn hA fun us s2 ⟨vs, H2, I2, r2, q2⟩ => hm pins s2 σ H2 x vs v us Q I2 r1 r2 q2
/- xs.append(e), list.index on a module's tuple .. are MtR facts of 06m -/
end
end L2

namespace L2
open PySem PySem.Spec PyProof.Rows

def MtM (X : Cx) (id : String) (r : V → List V → Hp → VK → Prop) : Prop :=
  ∀ (pins : List (Addr × Obj)) (s : Shared) (σ : St) (H : Hp) (x : V) (xs : List V) (v : Value) (us : List Value) (Q : VK), Inv X pins σ H s → RelV x v → Vals xs us → r x xs H Q →
    wpAny (model X.prog X.w) X.A (call (.builtin id) (v :: us)) (EP X pins σ Q) X.xe s

/-! ### lists of values -/
theorem Vals.one : ∀ {x : V} {us : List Value}, Vals [x] us → ∃ u, us = [u] ∧ RelV x u
  | _, _, .cons r .nil => ⟨_, rfl, r⟩
theorem Vals.two : ∀ {x y : V} {us : List Value}, Vals [x, y] us → ∃ u v, us = [u, v] ∧ RelV x u ∧ RelV y v
  | _, _, _, .cons r (.cons q .nil) => ⟨_, _, rfl, r, q⟩
theorem Vals.zero : ∀ {us : List Value}, Vals [] us → us = []
  | _, .nil => rfl
theorem Vals.dropLast {xs : List V} {us : List Value} (h : Vals xs us) : Vals xs.dropLast us.dropLast := by
  induction h with
  | nil => exact .nil
  | cons r t ih =>
    cases t with
    | nil => exact .nil
    | cons q t' => exact .cons r ih
theorem Vals.eraseIdx : ∀ {xs : List V} {us : List Value} (i : Nat), Vals xs us → Vals (xs.eraseIdx i) (us.eraseIdx i)
  | _, _, _, .nil => .nil
  | _, _, 0, .cons _ t => t
  | _, _, i + 1, .cons r t => .cons r (Vals.eraseIdx i t)
theorem Vals.reverse {xs : List V} {us : List Value} (h : Vals xs us) : Vals xs.reverse us.reverse := by
  induction h with
  | nil => exact .nil
  | cons r t ih => rw [List.reverse_cons, List.reverse_cons]; exact Vals.append ih (.cons r .nil)
theorem Vals.rep {xs : List V} {us : List Value} (h : Vals xs us) : ∀ k : Nat, Vals (List.replicate k xs).flatten (List.replicate k us).flatten
  | 0 => .nil
  | k + 1 => by
    rw [List.replicate_succ, List.replicate_succ, List.flatten_cons, List.flatten_cons]
    exact Vals.append h (Vals.rep h k)
theorem erase_last {α : Type} (l : List α) : l.eraseIdx (l.length - 1) = l.dropLast := by
  induction l with
  | nil => rfl
  | cons a r ih =>
    cases r with
    | nil => rfl
    | cons b r =>
      have e : (a :: b :: r).length - 1 = ((b :: r).length - 1) + 1 := by
        have h1 : (a :: b :: r).length = r.length + 2 := rfl
        have h2 : (b :: r).length = r.length + 1 := rfl
        omega
      rw [e, List.eraseIdx_cons_succ, ih]
      all_goals rfl
theorem len_erase {α : Type} : ∀ (l : List α) (i : Nat), (l.eraseIdx i).length ≤ l.length
  | [], _ => Nat.le_refl _
  | _ :: _, 0 => Nat.le_succ _
  | _ :: r, i + 1 => Nat.succ_le_succ (len_erase r i)
theorem foldl_rep (its : List Value) : ∀ (k : Nat) (acc : List Value),
    List.foldl (fun x1 x2 => x1 ++ x2) acc.toArray (List.replicate k its.toArray) = (acc ++ (List.replicate k its).flatten).toArray
  | 0, acc => by simp
  | k + 1, acc => by
    have e : acc.toArray ++ its.toArray = (acc ++ its).toArray := by simp
    have e2 : (acc ++ its) ++ (List.replicate k its).flatten = acc ++ (List.replicate (k + 1) its).flatten := by
      rw [List.replicate_succ, List.flatten_cons, List.append_assoc]
    rw [← e2, ← foldl_rep its k (acc ++ its), ← e, List.replicate_succ, List.foldl_cons]

section
variable {X : Cx} {pins : List (Addr × Obj)} {σ : St} {H : Hp} {s : Shared} {l b : Addr} {xs ys zs : List V}

/-! ### the two steps: a tracked list is rewritten, a new list is laid -/
theorem Inv.lset {its its' : List Value} {n : Nat} {f : Array Value → Array Value} {t' : Nat} (I : Inv X pins σ H s) (hH : H l = some (.lst xs))
    (e : s.heap.get? l = some { cls := .type "list", data := .seq its.toArray n }) (hf : f its.toArray = its'.toArray) (hv : Vals ys its') (hz : ys.length ≤ sizeLine) :
    Inv X pins σ (upd H l (.lst ys)) { s with heap := s.heap.update l (Obj.mapSeq f), toks := t' } := by
  have q := PySem.IsL.update e f
  rw [hf] at q
  refine I.write (x := l) (e := l) (by rw [hH]; exact trivial) (.inl rfl) (fun b' u hb hu => (Heap.get?_update_other s.heap (Obj.mapSeq f) (Ne.symm hb)).trans hu) ⟨_, q⟩ ?_
  exact ⟨hz, its', _, hv, q⟩
theorem Inv.lnew {its : List Value} {t' : Nat} (I : Inv X pins σ H s) (hv : Vals ys its) (hz : ys.length ≤ sizeLine) :
    Inv X pins σ (upd H s.heap.objs.size (.lst ys)) { s with heap := s.heap.push { cls := .type "list", data := .seq its.toArray }, toks := t' } :=
  I.laid (fun _ _ q => Heap.get?_push_of_some _ q) (Nat.le_refl _) ⟨hz, its, 0, hv, Heap.get?_push_size _ rfl⟩
theorem Inv.fresh (I : Inv X pins σ H s) : H s.heap.objs.size = none := I.hok.fresh (Nat.le_refl _)
theorem Inv.lstM (I : Inv X pins σ H s) (hH : H l = some (.lst xs)) : xs.length ≤ sizeLine ∧ ∃ (its : List Value) (n : Nat), Vals xs its ∧ xs.length = its.length ∧ s.heap.get? l = some { cls := .type "list", data := .seq its.toArray n } := by
  obtain ⟨z, its, n, r, e⟩ := I.hok l _ hH
  exact ⟨z, its, n, r, r.length, e⟩

theorem notLongL {n : Nat} (h : n ≤ sizeLine) : Builtin.List.listTooLong n = false := by
  unfold Builtin.List.listTooLong
  exact decide_eq_false (by omega)
end

section
variable {X : Cx}

/-! ### methods -/
def rAppend : V → List V → Hp → VK → Prop := fun x vs H Q => ∃ l xs y, x = .ref l ∧ vs = [y] ∧ H l = some (.lst xs) ∧ xs.length < sizeLine ∧ Q .non (upd H l (.lst (xs ++ [y])))
theorem mt_append : MtM X "list.append" rAppend := by
  intro pins s σ H x vs v us Q I rx rv h
  obtain ⟨l, xs, y, rfl, rfl, hH, hz, q⟩ := h
  cases rx
  obtain ⟨u, rfl, ru⟩ := rv.one
  obtain ⟨z, its, n, r, hl, e⟩ := I.lstM hH
  refine call_meets F.slot_list_append ⟨_, e, rfl⟩ F.entry_list_append (F.args_list_append_2 _ _) (PySem.list_append l its.toArray n u (by rw [List.size_toArray]; omega)) ⟨e, ?_⟩
  refine ⟨.non, _, I.lset (its' := its ++ [u]) hH e (by simp) (r.append (.cons ru .nil)) ?_, rfl, q⟩
  rw [List.length_append, List.length_singleton]
  omega

def rExtend : V → List V → Hp → VK → Prop := fun x vs H Q => ∃ l b xs zs, x = .ref l ∧ vs = [.ref b] ∧ H l = some (.lst xs) ∧ H b = some (.lst zs) ∧ xs.length + zs.length ≤ sizeLine ∧ Q .non (upd H l (.lst (xs ++ zs)))
theorem mt_extend : MtM X "list.extend" rExtend := by
  intro pins s σ H x vs v us Q I rx rv h
  obtain ⟨l, b, xs, zs, rfl, rfl, hH, hB, hz, q⟩ := h
  cases rx
  obtain ⟨u, rfl, ru⟩ := rv.one
  cases ru
  obtain ⟨z, its, n, r, hl, e⟩ := I.lstM hH
  obtain ⟨z2, its2, n2, r2, hl2, e2⟩ := I.lstM hB
  have hsz : its.toArray.size + its2.toArray.size ≤ sizeLine := by rw [List.size_toArray, List.size_toArray]; omega
  have hlong : ¬ (!its.toArray.isEmpty && Builtin.List.listTooLong (its.toArray.size + its2.toArray.size)) = true := by
    rw [notLongL hsz, Bool.and_false]
    exact Bool.false_ne_true
  refine call_meets F.slot_list_extend ⟨_, e, rfl⟩ F.entry_list_extend (F.args_list_extend_2 _ _)
    (AutoSeq1.list_extend_list_list_0 l its.toArray n b its2.toArray n2 hlong (by rw [List.size_toArray]; omega) (by omega)) ⟨e, e2, ?_⟩
  refine ⟨.non, _, I.lset (its' := its ++ its2) hH e (by simp) (r.append r2) ?_, rfl, q⟩
  rw [List.length_append]
  omega

def rPop : V → List V → Hp → VK → Prop := fun x vs H Q => ∃ l xs y, x = .ref l ∧ vs = [] ∧ H l = some (.lst xs) ∧ xs[xs.length - 1]? = some y ∧ Q y (upd H l (.lst xs.dropLast))
theorem mt_pop : MtM X "list.pop" rPop := by
  intro pins s σ H x vs v us Q I rx rv h
  obtain ⟨l, xs, y, rfl, rfl, hH, hy, q⟩ := h
  cases rx
  have hus := rv.zero
  subst hus
  obtain ⟨z, its, n, r, hl, e⟩ := I.lstM hH
  obtain ⟨u, hu, ru⟩ := r.get hy
  have hy' : its.toArray[its.toArray.size - 1]? = some u := by
    show its.toArray[its.length - 1]? = some u
    rw [← Array.getElem?_toList, ← hl]
    exact hu
  refine call_meets F.slot_list_pop ⟨_, e, rfl⟩ F.entry_list_pop (F.args_list_pop_1 _) (MeetsSeq.list_pop_last l its.toArray n u hy' (by rw [List.size_toArray]; omega)) ⟨e, ?_⟩
  refine ⟨y, _, I.lset (its' := its.dropLast) hH e ?_ r.dropLast ?_, ru, q⟩
  · show its.toArray.eraseIdxIfInBounds (its.toArray.size - 1) = its.dropLast.toArray
    rw [List.size_toArray, List.eraseIdxIfInBounds_toArray, erase_last]
  · rw [List.length_dropLast]
    omega

def rPopAt : V → List V → Hp → VK → Prop := fun x vs H Q => ∃ l xs i k y, x = .ref l ∧ vs = [.int i] ∧ H l = some (.lst xs) ∧ -(2 ^ 63) ≤ i ∧ i < 2 ^ 63 ∧ seqIndex? i xs.length = some k ∧ xs[k]? = some y ∧ Q y (upd H l (.lst (xs.eraseIdx k)))
theorem mt_popAt : MtM X "list.pop" rPopAt := by
  intro pins s σ H x vs v us Q I rx rv h
  obtain ⟨l, xs, i, k, y, rfl, rfl, hH, h1, h2, hk, hy, q⟩ := h
  cases rx
  obtain ⟨u, rfl, ru⟩ := rv.one
  obtain ⟨t, rfl⟩ := ru
  obtain ⟨z, its, n, r, hl, e⟩ := I.lstM hH
  obtain ⟨w, hw, rw'⟩ := r.get hy
  refine call_meets F.slot_list_pop ⟨_, e, rfl⟩ F.entry_list_pop (F.args_list_pop_2 _ _)
    (MeetsSeq.list_pop_at l its.toArray n i t k w (fitsIndex_both h1 h2) (by rw [List.size_toArray, ← hl]; exact hk) (by rw [← Array.getElem?_toList]; exact hw) (by rw [List.size_toArray]; omega)) ⟨e, ?_⟩
  refine ⟨y, _, I.lset (its' := its.eraseIdx k) hH e ?_ (r.eraseIdx k) ?_, rw', q⟩
  · show its.toArray.eraseIdxIfInBounds k = (its.eraseIdx k).toArray
    rw [List.eraseIdxIfInBounds_toArray]
  · have := len_erase xs k
    omega

def rReverse : V → List V → Hp → VK → Prop := fun x vs H Q => ∃ l xs, x = .ref l ∧ vs = [] ∧ H l = some (.lst xs) ∧ Q .non (upd H l (.lst xs.reverse))
theorem mt_reverse : MtM X "list.reverse" rReverse := by
  intro pins s σ H x vs v us Q I rx rv h
  obtain ⟨l, xs, rfl, rfl, hH, q⟩ := h
  cases rx
  have hus := rv.zero
  subst hus
  obtain ⟨z, its, n, r, hl, e⟩ := I.lstM hH
  refine call_meets F.slot_list_reverse ⟨_, e, rfl⟩ F.entry_list_reverse (F.args_list_reverse_1 _) (AutoSeq1.list_reverse_list_0 l its.toArray n (by rw [List.size_toArray]; omega)) ⟨e, ?_⟩
  refine ⟨.non, _, I.lset (its' := its.reverse) hH e (by simp) r.reverse ?_, rfl, q⟩
  rw [List.length_reverse]
  omega

def rClear : V → List V → Hp → VK → Prop := fun x vs H Q => ∃ l xs, x = .ref l ∧ vs = [] ∧ H l = some (.lst xs) ∧ Q .non (upd H l (.lst []))
theorem mt_clear : MtM X "list.clear" rClear := by
  intro pins s σ H x vs v us Q I rx rv h
  obtain ⟨l, xs, rfl, rfl, hH, q⟩ := h
  cases rx
  have hus := rv.zero
  subst hus
  obtain ⟨z, its, n, r, hl, e⟩ := I.lstM hH
  refine call_meets F.slot_list_clear ⟨_, e, rfl⟩ F.entry_list_clear (F.args_list_clear_1 _) (AutoSeq1.list_clear_list_0 l its.toArray n (by rw [List.size_toArray]; omega)) ⟨e, ?_⟩
  exact ⟨.non, _, I.lset (its' := []) (ys := []) hH e rfl .nil (Nat.zero_le _), rfl, q⟩

/-! ### list + list, list += list, list * int -/
def rCat : R2 := fun x y H Q => ∃ l b xs zs, x = .ref l ∧ y = .ref b ∧ H l = some (.lst xs) ∧ H b = some (.lst zs) ∧ xs.length + zs.length ≤ sizeLine ∧ ∀ p, H p = none → Q (.ref p) (upd H p (.lst (xs ++ zs)))
theorem op_cat : OpR X (binaryOp .Add) rCat := by
  intro pins s σ H x y v u Q I rx ry h
  obtain ⟨l, b, xs, zs, rfl, rfl, hH, hB, hz, q⟩ := h
  cases rx
  cases ry
  obtain ⟨z, its, n, r, hl, e⟩ := I.lstM hH
  obtain ⟨z2, its2, n2, r2, hl2, e2⟩ := I.lstM hB
  refine PySem.P.add_list e e2 ?_ (by rw [List.size_toArray, List.size_toArray]; omega)
  have ea : its.toArray ++ its2.toArray = (its ++ its2).toArray := by simp
  rw [ea]
  exact ⟨.ref _, _, I.lnew (t' := s.toks) (r.append r2) (by rw [List.length_append]; omega), rfl, q _ I.fresh⟩
/-- a list times an int (a negative one is nothing) -/
def rRep : R2 := fun x y H Q => ∃ l k xs, x = .ref l ∧ y = .int k ∧ H l = some (.lst xs) ∧ -(2 ^ 63) ≤ k ∧ k < 2 ^ 63 ∧ xs.length * k.toNat ≤ sizeLine ∧
  ∀ p, H p = none → Q (.ref p) (upd H p (.lst (List.replicate k.toNat xs).flatten))
theorem len_rep {α : Type} (xs : List α) (k : Nat) : (List.replicate k xs).flatten.length = k * xs.length := by
  induction k with
  | zero => simp
  | succ k ih => rw [List.replicate_succ, List.flatten_cons, List.length_append, ih, Nat.succ_mul, Nat.add_comm]
theorem op_rep : OpR X (binaryOp .Mult) rRep := by
  intro pins s σ H x y v u Q I rx ry h
  obtain ⟨l, k, xs, rfl, rfl, hH, h1, h2, hz, q⟩ := h
  cases rx
  obtain ⟨t, rfl⟩ := ry
  obtain ⟨z, its, n, r, hl, e⟩ := I.lstM hH
  have hlen : its.toArray.size * k.toNat ≤ sizeLine := by rw [List.size_toArray, ← hl]; exact hz
  have hcap : ¬ its.toArray.size * k.toNat > (2 ^ 63 - 1) / 8 := by
    have : (sizeLine : Nat) ≤ (2 ^ 63 - 1) / 8 := by decide
    omega
  have hfit : ¬ (!Builtin.List.listFitsIndex k) = true := by
    rw [fitsIndex_both h1 h2]
    exact Bool.false_ne_true
  have hlong : ¬ Builtin.List.listTooLong (its.toArray.size * k.toNat) = true := by
    rw [notLongL hlen]
    exact Bool.false_ne_true
  have hnew : List.foldl (fun x1 x2 => x1 ++ x2) #[] (List.replicate (if its.toArray.isEmpty = true then 0 else k.toNat) its.toArray) = (List.replicate k.toNat its).flatten.toArray := by
    have f0 : ∀ m : Nat, List.foldl (fun x1 x2 => x1 ++ x2) #[] (List.replicate m its.toArray) = (List.replicate m its).flatten.toArray := fun m => by
      have := foldl_rep its m []
      rw [List.nil_append] at this
      exact this
    rw [f0]
    cases its with
    | nil => simp
    | cons a r' => rw [if_neg (by simp)]
  refine wpAny_binaryOp_repeat_ref (T := "list") (U := "int") (by decide) ⟨_, e, rfl⟩ (fun s' => typeIs_int s' k t) noFill_list_mul F.fills_int_mul F.slot_int_rmul repeat_list F.slot_int_index.lookup
    (call_meets F.slot_int_rmul (typeIs_int s k t) F.entry_int_rmul (F.args_int_rmul_2 _ _) (int___rmul___int_list k t l its.toArray n)
      ⟨e, rfl, ⟨_, e, rfl⟩, call_meets F.slot_list_mul ⟨_, e, rfl⟩ F.entry_list_mul (F.args_list_mul_2 _ _) (AutoListH.list___mul___list_int_3 l its.toArray n k t hfit hcap hlong) ⟨e, ?_⟩⟩)
  rw [hnew]
  exact ⟨.ref _, _, I.lnew (t' := s.toks) (r.rep k.toNat) (by rw [len_rep, Nat.mul_comm]; exact hz), rfl, q _ I.fresh⟩

/-! ### del xs[i] -/
theorem del_list {pins : List (Addr × Obj)} {s : Shared} {σ : St} {H : Hp} {l : Addr} {xs : List V} {i : Int} {t : Tok} {k : Nat} {Q : Unit → Shared → Prop} (I : Inv X pins σ H s) (hH : H l = some (.lst xs))
    (h1 : -(2 ^ 63) ≤ i) (h2 : i < 2 ^ 63) (hk : seqIndex? i xs.length = some k) (h : ∀ s', Inv X pins σ (upd H l (.lst (xs.eraseIdx k))) s' → Q () s') :
    wpAny (model X.prog X.w) X.A (delItem (.ref l) (.int i t)) Q X.xe s := by
  obtain ⟨z, its, n, r, hl, e⟩ := I.lstM hH
  refine PySem.P.delItem_list (k := k) e (fitsIndex_both h1 h2) (by rw [List.size_toArray, ← hl]; exact hk) (h _ ?_) (by rw [List.size_toArray]; omega)
  refine I.lset (its' := its.eraseIdx k) (t' := s.toks) hH e ?_ (r.eraseIdx k) ?_
  · show its.toArray.eraseIdxIfInBounds k = (its.eraseIdx k).toArray
    rw [List.eraseIdxIfInBounds_toArray]
  · have := len_erase xs k
    omega
end

/-! ### xs[a:b] = ys -/
section
variable {prog : Program} {w : World} {A : Around} {E : Value → Shared → Prop} {s : Shared}
theorem splice_eq (its its2 : List Value) (a c : Nat) : its.toArray.extract 0 a ++ its2.toArray ++ its.toArray.extract c its.toArray.size = (its.take a ++ its2 ++ its.drop c).toArray := by
  apply Array.toList_inj.mp
  first
    | (simp
       exact List.take_of_length_le (by simp))
    | simp [List.take_of_length_le]
    | simp
theorem bounds_run {a c n : Nat} (hac : a ≤ c) (hc : c ≤ n) : sliceBounds (some (a : Int)) (some (c : Int)) none n = ((a : Int), (c : Int), 1) := by
  simp only [sliceBounds, Option.getD_none]
  have h1 : ¬ ((a : Int) < 0) := by omega
  have h2 : ¬ ((c : Int) < 0) := by omega
  simp only [h1, h2, if_false, show (1 : Int) > 0 by decide, if_true]
  congr 1
  · omega
  · congr 1; omega
set_option maxRecDepth 100000 in
/-- list.__setitem__ with a slice of step one and another list -/
theorem setItem_slice {l b sl : Addr} {items new : Array Value} {n n2 : Nat} {vl vu : Value} {a c : Nat} {Q : Unit → Shared → Prop}
    (e : s.heap.get? l = some { cls := .type "list", data := .seq items n }) (e2 : s.heap.get? b = some { cls := .type "list", data := .seq new n2 }) (hne : l ≠ b)
    (hs : s.heap.IsSliceOf sl vl vu .none) (pl : IsPart vl (some (a : Int))) (pu : IsPart vu (some (c : Int))) (hac : a ≤ c) (hc : c ≤ items.size)
    (hsz : items.size + new.size ≤ sizeLine) (h : Q () { s with heap := s.heap.update l (Obj.mapSeq fun xs => xs.extract 0 a ++ new ++ xs.extract c xs.size) }) :
    wpAny (model prog w) A (setItem (.ref l) (.ref sl) (.ref b)) Q E s := by
  have hl : s.heap.IsList l items := PySem.IsL.isList e
  have hb : s.heap.IsList b new := PySem.IsL.isList e2
  obtain ⟨os, hos, hcs, hds⟩ := id hs
  have hTs : s.TypeIs (.ref sl) "slice" := ⟨os, hos, hcs⟩
  have hstep : ¬ ((rawPart none == rawInt 0) = true) := Bool.false_ne_true
  have hsame : Builtin.List.listSameRef (.ref l) (.ref b) = false := by
    unfold Builtin.List.listSameRef
    exact beq_eq_false_iff_ne.mpr hne
  have hmax : (max (a : Int) (c : Int)).toNat = c := by omega
  have hz' : ((fun xs : Array Value => xs.extract 0 a ++ new ++ xs.extract c xs.size) items).size ≤ sizeLine + 1 := by
    simp only [Array.size_append, Array.size_extract]
    omega
  unfold setItem
  try with_reducible refine wpAny_holding ?_
  first | refine wpAny_bind (wpAny_pure ?_) | skip
  refine wpAny_bind (wpAny_sequenceKey hl.typeIs (by decide) ?_)
  refine wpAny_bind (wpAny_callSpecial?_slot (name := Str.ofString "__setitem__") hl.typeIs slot_list_setitem
    (wpAny_call_entry slot_list_setitem hl.typeIs entry_list_setitem ?_ (args_list_setitem _ _ _)))
  show wpAny _ _ (Builtin.List.listSubscript? (.ref sl) >>= _) _ _ s
  refine wpAny_bind ?_
  unfold Builtin.List.listSubscript?
  refine wpAny_bind (wpAny_specialOf hTs slice_no_index ?_)
  simp only [Option.isNone_none, if_true]
  refine wpAny_pure ?_
  show wpAny _ _ (typeOf (.ref sl) >>= _) _ _ s
  refine wpAny_bind (wpAny_typeOf hTs ?_)
  first
    | rw [if_neg (by decide)]
    | refine PySem.W.KFB.if_not (by decide) ?_
  rw [listSliceParts_eq]
  refine wpAny_bind (wpAny_bind (wpAny_field hos hds (x := .none) rfl (wpAny_bind (wpAny_listPart .none ?_))))
  rw [if_neg hstep]
  refine wpAny_bind (wpAny_field hos hds (x := vl) rfl (wpAny_bind (wpAny_listPart pl ?_)))
  refine wpAny_bind (wpAny_field hos hds (x := vu) rfl (wpAny_bind (wpAny_listPart pu (wpAny_pure ?_))))
  first
    | simp only [hsame, Bool.false_eq_true, if_false]
    | refine PySem.W.KFB.if_not hsame ?_
    | (dsimp only
       rw [if_neg (by rw [hsame]; exact Bool.false_ne_true)])
  refine wpAny_bind (m := Builtin.List.listAllItems (.ref b) "must assign iterable to extended slice") ?_
  unfold Builtin.List.listAllItems
  refine wpAny_bind (wpAny_typeOf hb.typeIs ?_)
  first
    | refine PySem.W.KFB.if_so (by decide) ?_
    | rw [if_pos (by decide)]
    | simp only [beq_self_eq_true, Bool.true_or, if_true]
  unfold Builtin.List.listItems
  refine wpAny_bind (wpAny_seqItems e2 rfl (wpAny_pure ?_))
  refine wpAny_bind (wpAny_bind (wpAny_seqItems e rfl (wpAny_pure ?_)))
  refine wpAny_bind (wpAny_of_eq ((sliceIndices_raw (some (a : Int)) (some (c : Int)) none items.size (by simp)).trans (congrArg (pure : Int × Int × Int → Sem (Int × Int × Int)) (bounds_run hac hc))) ?_)
  show wpAny _ _ (if ((1 : Int) == 1) = true then _ else _) _ _ s
  rw [if_pos (by decide)]
  refine wpAny_bind (wpAny_rule ?_)
  first
    | simp only [notLongL hsz, Bool.false_eq_true, if_false]
    | refine PySem.W.KFB.if_not (notLongL hsz) ?_
  first | refine wpAny_bind (wpAny_pure ?_) | skip
  show wpAny _ _ (updateSeq l (fun xs => xs.extract 0 ((a : Int)).toNat ++ new ++ xs.extract (max (a : Int) (c : Int)).toNat xs.size) >>= _) _ _ s
  rw [hmax, Int.toNat_natCast]
  refine wpAny_bind (wpAny_updateSeq (hz := Nat.le_trans (Nat.le_add_right _ _) hsz) (_hz' := hz') e rfl ?_)
  refine wpAny_bind (wpAny_letGo ?_)
  first
    | exact wpAny_bind (wpAny_pure (wpAny_pure ⟨.none, rfl, wpAny_pure h⟩))
    | exact wpAny_pure ⟨.none, rfl, wpAny_pure h⟩
end

section
variable {X : Cx}
/-- xs[a:c] = ys of another list, at the value level: sl is the slice object that was just made -/
theorem set_slice {pins : List (Addr × Obj)} {s : Shared} {σ : St} {H : Hp} {l b sl : Addr} {xs ys : List V} {a c : Int} {vl vu : Value} {Q : Unit → Shared → Prop} (I : Inv X pins σ H s)
    (hH : H l = some (.lst xs)) (hB : H b = some (.lst ys)) (hne : l ≠ b) (hs : s.heap.IsSliceOf sl vl vu .none) (ra : RelV (.int a) vl) (rc : RelV (.int c) vu) (h0 : 0 ≤ a) (hac : a ≤ c) (hc : c ≤ xs.length)
    (hz : xs.length + ys.length ≤ sizeLine) (h : ∀ s', Inv X pins σ (upd H l (.lst (xs.take a.toNat ++ ys ++ xs.drop c.toNat))) s' → Q () s') :
    wpAny (model X.prog X.w) X.A (setItem (.ref l) (.ref sl) (.ref b)) Q X.xe s := by
  obtain ⟨ta, rfl⟩ := ra
  obtain ⟨tc, rfl⟩ := rc
  obtain ⟨z, its, n, r, hl, e⟩ := I.lstM hH
  obtain ⟨z2, its2, n2, r2, hl2, e2⟩ := I.lstM hB
  obtain ⟨a', rfl⟩ := Int.eq_ofNat_of_zero_le h0
  obtain ⟨c', rfl⟩ := Int.eq_ofNat_of_zero_le (Int.le_trans h0 hac)
  simp only [Int.toNat_natCast] at h
  refine setItem_slice (a := a') (c := c') e e2 hne hs (.int _ _) (.int _ _) (by omega) (by rw [List.size_toArray]; omega) (by rw [List.size_toArray, List.size_toArray]; omega) (h _ ?_)
  refine I.lset (its' := its.take a' ++ its2 ++ its.drop c') (t' := s.toks) hH e ?_ (Vals.append (Vals.append (r.take _) r2) (r.drop _)) ?_
  · exact splice_eq its its2 a' c'
  · rw [List.length_append, List.length_append, List.length_take, List.length_drop]
    omega
end
end L2

namespace Att
open PySem PySem.W PySem.Calls PyProof.Rows

/-! ### the script -/
theorem ints_of_wellAll {P : Params} {h : Heap} : ∀ (ns : List Int) (vs : List Value), WellAll P h vs (ns.map WData.int) → IntsAre vs ns := by
  intro ns
  induction ns with
  | nil =>
    intro vs w
    rw [List.map_nil] at w
    cases w
    exact .nil
  | cons n ns ih =>
    intro vs w
    rw [List.map_cons] at w
    cases w with
    | cons a b =>
      cases a
      exact .cons _ _ (ih _ b)

theorem script_of {l : OpenLaw} {n : Nat} (hn : l.most = some n) {P : Params} {h : Heap} {args : List WData} {vals : List Value}
    (hpre : l.row.toRowW.claim.pre args = true) (hwl : WellAll P h vals args) :
    ∃ a vs ns, vals = [Value.ref a] ∧ args = [WData.list (ns.map WData.int)] ∧ h.get? a = some { cls := .type "list", data := .seq vs.toArray } ∧ IntsAre vs ns ∧ ns.length ≤ n := by
  have hsh : WShape.hasAll [] args [.list .int] = true := (pre_splitW hpre).1
  have hc : l.pre.holds [] { args := args } = true := (pre_splitW hpre).2
  obtain ⟨d, r, rfl, h1, h2⟩ := hasAllW_cons hsh
  obtain rfl := hasAllW_nil h2
  obtain ⟨xs, rfl, h3⟩ := hasW_list h1
  obtain ⟨ns, rfl⟩ := items_int h3
  have hlen : ns.length ≤ n := by
    unfold OpenLaw.pre at hc
    have h4 : (WTm.not (.lt (.lit (.int (n : Int))) (.len (.arg 0)))).holds [] { args := [.list (ns.map .int)] } = true := by
      have h4 := (holds_andW hc).1
      rw [hn] at h4
      exact h4
    have h5 := condW_of h4 (w_not (w_lt w_lit (w_len_list (w_arg rfl))))
    rw [List.length_map] at h5
    refine Nat.le_of_not_lt fun q => ?_
    have q' : (n : Int) < ((ns.length : Nat) : Int) := by omega
    first
      | (rw [decide_eq_true q'] at h5; exact absurd h5 (by decide))
      | (simp at h5; omega)
  cases hwl with
  | cons w1 w2 =>
    cases w2
    cases w1 with
    | list ho hall => exact ⟨_, _, ns, rfl, rfl, ho, ints_of_wellAll ns _ hall, hlen⟩

theorem post_true (l : OpenLaw) (args : List WData) : l.row.toRowW.claim.post args (.bool true) args = true :=
  postW_of (r := l.row.toRowW) (X := (true == true))
    (show WShape.has [] (.bool true) .bool = true by first | rfl | decide | simp [WShape.has, WShape.arms, WShape.armsAll])
    (show (WTm.eq .res (.lit (.bool true))).value [] { args := args, res := some (.bool true), after := args } = some (.bool (true == true)) from w_eq_bool (w_res rfl) w_lit) rfl

/-! ### the attachment: holds_open's last premise (the goal 'hc' behind k_head) from a wpAny of the law's body -/
theorem attach {l : OpenLaw} {n : Nat} {q : Program} {loose : List Str} {XP : (Str → Option Value) → Heap → Prop} {YP : World → Heap → Prop} {d : DefRec} {x : Str}
    (hn : l.most = some n) (hdf : d.params.defaults = [])
    (hbind : ∀ pm cd doc v : Value, bindArgs (docDef d.name d.params d.body d.scope pm cd doc) ⟨[v], []⟩ = pure [(x, v)])
    (hx : d.scope.names.lookup x = some .local ∨ d.scope.names.lookup x = some .cell)
    (hk : d.scope.kind = .function) (hco : d.scope.isCoroutine = false) (hgen : d.scope.isGenerator = false)
    (body : ∀ (w : World) (s₀ s₁ s : Shared) (mg mb : Str → Option Value) (fa : Addr) (o : Obj) (pm cd doc : Value) (a : Addr) (vs : List Value) (ns : List Int),
      Ground q loose [] XP w s₀ mg mb s₁.heap → YP w s₁.heap →
      s₁.heap.get? fa = some o → o.data = .func (docDef d.name d.params d.body d.scope pm cd doc) → s₁.heap.CodeRec cd d.name → mg d.name = some (.ref fa) →
      s₁.heap.get? a = some { cls := .type "list", data := .seq vs.toArray } → IntsAre vs ns → ns.length ≤ n →
      s.gens = #[] → s.os = s₁.os →
      Fr s₁.heap s₁.heap.objs.size s.heap (bindL (envOfC d.name d.scope s₁.heap.objs.size fa cd).kindOf [(x, .ref a)] fun _ => none) →
      Cl s₁.heap.objs.size (cellsFrom (s₁.heap.objs.size + 1) d.scope.names []) s.heap (bindC (envOfC d.name d.scope s₁.heap.objs.size fa cd).kindOf [(x, .ref a)] fun _ => none) →
      wpAny (model l.prog w) (callerA.deeper (envOfC d.name d.scope s₁.heap.objs.size fa cd)) (execs d.body (envOfC d.name d.scope s₁.heap.objs.size fa cd))
        (fun f s' => f = .ret (.bool true) ∧ OldK s₁.heap s'.heap ∧ s'.os = s₁.os ∧ AllBare s'.gens) (fun _ _ => False) s) :
    WalkO q loose XP YP l.row.toRowW d [] (fun f vs => PySem.call f vs) := by
  intro w s₀ s₁ mg mb G Y fa o pm cd doc dV kV ho hd hcd hD hmg hg args vals as hpre hlay hrd hwl hlo
  obtain rfl : dV = .none := Dflts.none hD hdf
  obtain rfl : kV = .none := Dflts.noKw hD
  obtain ⟨a, vs, ns, rfl, rfl, hobj, hints, hlen⟩ := script_of hn hpre hwl
  refine enter_call ?_
  refine call_cells_ret (o := o) (by rw [depth_caller]; decide) ho (fd_plain hd) G.T.nolimit hcd (hbind pm cd doc (.ref a)) (fun y hy => ?_) (fun h₁ tk F X => ?_) hco hgen hk
  · obtain rfl : y = (x, Value.ref a) := List.mem_singleton.mp hy
    rcases hx with e | e
    · exact .inl e
    · exact .inr ⟨e, cellsFrom_some _ _ _ (.inl e)⟩
  · refine wpAny_mono (body w s₀ s₁ { s₁ with heap := h₁, toks := tk } mg mb fa o pm cd doc a vs ns G Y ho (fd_plain hd) hcd hmg hobj hints hlen hg rfl F X) (fun f s' hq => ?_) (fun _ _ hq => hq)
    obtain ⟨rfl, h2, h3, h4⟩ := hq
    exact ⟨.inl ⟨.bool true, .bool true, [], rfl, fun _ => rfl, .bool true, post_true l _, fun _ => ⟨List.Pairwise.nil, fun _ hm => (nomatch hm)⟩⟩, h2, h3, h4⟩

/-- the same from a codeAny of the CALL (for a layer whose function contracts speak of calls) -/
theorem attach_call {l : OpenLaw} {n : Nat} {q : Program} {loose : List Str} {XP : (Str → Option Value) → Heap → Prop} {YP : World → Heap → Prop} {d : DefRec}
    (hn : l.most = some n) (hdf : d.params.defaults = [])
    (call : ∀ (w : World) (s₀ s₁ : Shared) (mg mb : Str → Option Value) (fa : Addr) (o : Obj) (pm cd doc : Value) (a : Addr) (vs : List Value) (ns : List Int),
      Ground q loose [] XP w s₀ mg mb s₁.heap → YP w s₁.heap →
      s₁.heap.get? fa = some o → o.data = .func (docDef d.name d.params d.body d.scope pm cd doc) → s₁.heap.CodeRec cd d.name → mg d.name = some (.ref fa) →
      s₁.heap.get? a = some { cls := .type "list", data := .seq vs.toArray } → IntsAre vs ns → ns.length ≤ n → s₁.gens = #[] →
      codeAny (model l.prog w) callerA (.call (.ref fa) ⟨[.ref a], []⟩) (fun r s' => r = .ok (.ret (.bool true)) ∧ OldK s₁.heap s'.heap ∧ s'.os = s₁.os ∧ AllBare s'.gens) s₁) :
    WalkO q loose XP YP l.row.toRowW d [] (fun f vs => PySem.call f vs) := by
  intro w s₀ s₁ mg mb G Y fa o pm cd doc dV kV ho hd hcd hD hmg hg args vals as hpre hlay hrd hwl hlo
  obtain rfl : dV = .none := Dflts.none hD hdf
  obtain rfl : kV = .none := Dflts.noKw hD
  obtain ⟨a, vs, ns, rfl, rfl, hobj, hints, hlen⟩ := script_of hn hpre hwl
  refine enter_call (codeAny_mono (call w s₀ s₁ mg mb fa o pm cd doc a vs ns G Y ho (fd_plain hd) hcd hmg hobj hints hlen hg) fun r s' hq => ?_)
  obtain ⟨rfl, h2, h3, h4⟩ := hq
  exact ⟨.inl ⟨.bool true, .bool true, [], rfl, fun _ => rfl, .bool true, post_true l _, fun _ => ⟨List.Pairwise.nil, fun _ hm => (nomatch hm)⟩⟩, h2, h3, h4⟩

/-- the same where the top left finished generators (o_head chose holds_openN): nothing may have changed at all and no generator may be left -/
theorem attachN {l : OpenLaw} {n : Nat} {q : Program} {loose : List Str} {XP : (Str → Option Value) → Heap → Prop} {YP : World → Heap → Prop} {d : DefRec} {x : Str}
    (hn : l.most = some n) (hdf : d.params.defaults = [])
    (hbind : ∀ pm cd doc v : Value, bindArgs (docDef d.name d.params d.body d.scope pm cd doc) ⟨[v], []⟩ = pure [(x, v)])
    (hx : d.scope.names.lookup x = some .local ∨ d.scope.names.lookup x = some .cell)
    (hk : d.scope.kind = .function) (hco : d.scope.isCoroutine = false) (hgen : d.scope.isGenerator = false)
    (body : ∀ (w : World) (s₀ s₁ s : Shared) (mg mb : Str → Option Value) (fa : Addr) (o : Obj) (pm cd doc : Value) (a : Addr) (vs : List Value) (ns : List Int),
      Ground q loose [] XP w s₀ mg mb s₁.heap → YP w s₁.heap →
      s₁.heap.get? fa = some o → o.data = .func (docDef d.name d.params d.body d.scope pm cd doc) → s₁.heap.CodeRec cd d.name → mg d.name = some (.ref fa) →
      s₁.heap.get? a = some { cls := .type "list", data := .seq vs.toArray } → IntsAre vs ns → ns.length ≤ n →
      s.gens = #[] → s.os = s₁.os →
      Fr s₁.heap s₁.heap.objs.size s.heap (bindL (envOfC d.name d.scope s₁.heap.objs.size fa cd).kindOf [(x, .ref a)] fun _ => none) →
      Cl s₁.heap.objs.size (cellsFrom (s₁.heap.objs.size + 1) d.scope.names []) s.heap (bindC (envOfC d.name d.scope s₁.heap.objs.size fa cd).kindOf [(x, .ref a)] fun _ => none) →
      wpAny (model l.prog w) (callerA.deeper (envOfC d.name d.scope s₁.heap.objs.size fa cd)) (execs d.body (envOfC d.name d.scope s₁.heap.objs.size fa cd))
        (fun f s' => f = .ret (.bool true) ∧ (∀ b o, s₁.heap.get? b = some o → s'.heap.get? b = some o) ∧ s'.os = s₁.os ∧ s'.gens = #[]) (fun _ _ => False) s) :
    WalkN q loose XP YP l.row.toRowW d [] (fun f vs => PySem.call f vs) := by
  intro w s₀ s₁ mg mb G Y fa o pm cd doc dV kV ho hd hcd hD hmg hg args vals as hpre hlay hrd hwl hlo
  obtain rfl : dV = .none := Dflts.none hD hdf
  obtain rfl : kV = .none := Dflts.noKw hD
  obtain ⟨a, vs, ns, rfl, rfl, hobj, hints, hlen⟩ := script_of hn hpre hwl
  refine enter_callW ?_
  refine call_cells_ret (o := o) (by rw [depth_caller]; decide) ho (fd_plain hd) G.T.nolimit hcd (hbind pm cd doc (.ref a)) (fun y hy => ?_) (fun h₁ tk F X => ?_) hco hgen hk
  · obtain rfl : y = (x, Value.ref a) := List.mem_singleton.mp hy
    rcases hx with e | e
    · exact .inl e
    · exact .inr ⟨e, cellsFrom_some _ _ _ (.inl e)⟩
  · refine wpAny_mono (body w s₀ s₁ { s₁ with heap := h₁, toks := tk } mg mb fa o pm cd doc a vs ns G Y ho (fd_plain hd) hcd hmg hobj hints hlen hg rfl F X) (fun f s' hq => ?_) (fun _ _ hq => hq)
    obtain ⟨rfl, h2, h3, h4⟩ := hq
    exact ⟨.inl ⟨.bool true, .bool true, [], rfl, fun _ => rfl, .bool true, post_true l _, fun _ => ⟨List.Pairwise.nil, fun _ hm => (nomatch hm)⟩⟩, h2, h3, h4⟩

/-! ### rules over ANY heap (no ledger) from facts about the written part K: the library's own take a ledger (News) for what they write -/
section
variable {prog : Program} {w : World} {A : Around} {E : Value → Shared → Prop} {s : Shared} {K : Frag}

/-- a def of the module, or a method (qual 'C.m'), entered: the frame is the next address; cells behind it -/
theorem call_fn {R : Result → Shared → Prop} {name qual : Str} {params : Arguments} {body : List Stmt} {scope : Scope} {dV kV doc pm cdv ct oc : Value} {an od : Option Addr} {osl : Array (Option Value)} {f : Addr} {args : Args} {binds : List (Str × Value)}
    (X : K.In s.heap) (hlim : s.heap.NoLimit) (ho : K.lookup f = some ⟨oc, od, .func (fnOf name qual params body scope dV kV doc pm an cdv ct), osl⟩) (hcd : codeIn K cdv qual = true) (hroom : A.depth < recursionLimit)
    (hbind : BindsTo s (fnOf name qual params body scope dV kV doc pm an cdv ct) args binds)
    (hkind : (binds.all fun y => scope.names.lookup y.1 == some .local || scope.names.lookup y.1 == some .cell) = true)
    (h : ∀ s₁, InCallC s s.heap.objs.size (bindL (envOfC qual scope s.heap.objs.size f cdv).kindOf binds fun _ => none) (cellsFrom (s.heap.objs.size + 1) scope.names [])
        (bindC (envOfC qual scope s.heap.objs.size f cdv).kindOf binds fun _ => none) s₁ →
      wpAny (model prog w) (A.deeper (envOfC qual scope s.heap.objs.size f cdv)) (execs body (envOfC qual scope s.heap.objs.size f cdv))
        (fun fl s' => R (.ok (.ret (match fl with | .ret v => v | _ => .none))) s')
        (fun e s' => wpAny (model prog w) (A.deeper (envOfC qual scope s.heap.objs.size f cdv)) (leaving (envOfC qual scope s.heap.objs.size f cdv) e) (fun _ s'' => R (.error e) s'') (fun e' s'' => R (.error e') s'') s') s₁)
    (hco : scope.isCoroutine = false) (hgen : scope.isGenerator = false) (hk : scope.kind = .function) : codeAny (model prog w) A (.call (.ref f) args) R s := by
  refine codeAny_call_function hroom (X _ _ ho) rfl hco hgen rfl (codeRec_of X hcd) (hbind _ _ _ _ ?_)
  refine wpAny_newFunctionEnv_cells hk (kindsX hkind _) fun env he s₁ x => ?_
  subst he
  exact ⟨hlim.keeps x.toInCall.keep, codeAny_func (h s₁ x)⟩

/-- C(..): dict at size, instance at size + 1, then __init__ -/
theorem make_obj {R : Result → Shared → Prop} {C fI : Addr} {rest : List Value} {kw : List (Str × Value)}
    (X : K.In s.heap) (hm : makesIn K C = true) (hi : findIn K (.ref C) "__init__" = some (some (.ref fI))) (hf : isFn K (.ref fI) = true)
    (h : codeAny (model prog w) (A.under (.builtin "type.__call__" ⟨.ref C :: rest, kw⟩)) (.call (.ref fI) ⟨.ref (s.heap.objs.size + 1) :: rest, kw⟩) (InitBack (s.heap.objs.size + 1) R)
      { s with heap := (s.heap.push emptyDict).push (instObj C s.heap.objs.size) }) : codeAny (model prog w) A (.call (.ref C) ⟨rest, kw⟩) R s := by
  obtain ⟨hh, g, d, t, os⟩ := s
  exact make_core (makes_of X hm) (looks_findIn X hi) (fun self => bind_fn X self (beq_iff_eq.mp hf)) (.inl rfl) h

/-- x.name where the instance's dict holds the name and the class does not -/
theorem get_field {x C : Addr} {ox : Obj} {es : List DictEntry} {n : Nat} {name : Str} {expr : Bool} {v : Value} {Q : Value → Shared → Prop}
    (X : K.In s.heap) (I : PySem.W.InstAt s.heap x ox C (some (dictOf es n))) (hg : plainGet K C name = true) (hh : hasDictIn K C = true) (ha : findIn K (.ref C) name = some none)
    (hl : getL name es = some (some v)) (hv : handedIn v = true) (h : Q v { s with toks := s.toks + 1 }) : wpAny (model prog w) A (getAttr (.ref x) name expr) Q E s :=
  get_value X I (plainGet_of hg).1 (findObj_own hh ha rfl hl) hv h

/-- x.m(..): the method found in the class -/
theorem get_method {x C f : Addr} {ox : Obj} {es : List DictEntry} {n : Nat} {name : Str} {pl : Sem Bool} {Q : Value × List Value → Shared → Prop}
    (X : K.In s.heap) (I : PySem.W.InstAt s.heap x ox C (some (dictOf es n))) (hg : plainGet K C name = true) (hf : findIn K (.ref C) name = some (some (.ref f))) (ht : isFn K (.ref f) = true)
    (hl : getL name es = some none) (h : Q (.ref f, [.ref x]) s) : wpAny (model prog w) A (getMethod (.ref x) name pl) Q E s :=
  method_fn X I (plainGet_of hg).1 (plainGet_of hg).2 hf (beq_iff_eq.mp ht) (by show (lookIn name (dictOf es n)).map _ = _; rw [lookIn_dict, hl]; rfl) h

/-! the whole heap as the ledger: makes every rule that writes through a ledger a rule over any heap -/
def noObjs (h : Heap) : Heap := { h with objs := #[] }
theorem noObjs_get (h : Heap) (b : Addr) : (noObjs h).get? b = none := by
  cases e : (noObjs h).get? b with
  | none => rfl
  | some o => exact absurd (Heap.lt_size e) (Nat.not_lt_zero _)
def ledger (h : Heap) (L d : Addr) : List (Addr × Obj) := (List.range h.objs.size).filterMap fun a => if a = L ∨ a = d then none else (h.get? a).map fun o => (a, o)
theorem mem_ledger {h : Heap} {L d a : Addr} {o : Obj} : (a, o) ∈ ledger h L d ↔ a ≠ L ∧ a ≠ d ∧ h.get? a = some o := by
  unfold ledger
  rw [List.mem_filterMap]
  constructor
  · rintro ⟨b, _, e⟩
    split at e
    · cases e
    · rename_i hb
      obtain ⟨o', ho, e'⟩ := Option.map_eq_some_iff.mp e
      cases e'
      exact ⟨fun q => hb (.inl q), fun q => hb (.inr q), ho⟩
  · rintro ⟨n1, n2, ho⟩
    refine ⟨a, List.mem_range.mpr (Heap.lt_size ho), ?_⟩
    rw [if_neg (show ¬ (a = L ∨ a = d) from fun q => q.elim n1 n2), ho] <;> rfl
theorem news_ledger {h : Heap} {L d : Addr} {od : Obj} (hne : d ≠ L) (ho : h.get? d = some od) : News (noObjs h) L h ([] ++ (d, od) :: ledger h L d) := by
  rintro ⟨a, o⟩ hp
  rcases List.mem_cons.mp hp with e | hp
  · cases e
    exact ⟨ho, hne, noObjs_get _ _⟩
  · obtain ⟨n1, n2, e⟩ := mem_ledger.mp hp
    exact ⟨e, n1, noObjs_get _ _⟩
theorem fr_all {h : Heap} {L : Addr} {m : Str → Option Value} (n : h.Ns L m) : Fr (noObjs h) L h m :=
  ⟨n, fun b o e => (by rw [noObjs_get] at e; cases e), Nat.zero_le _⟩
/-- Upd of the head entry (for append_K, setItem_K ..) -/
theorem upd_ledger {h : Heap} {L d : Addr} {o o' : Obj} : Upd d o o' ((d, o) :: ledger h L d) ((d, o') :: ledger h L d) :=
  .head fun ⟨_, _⟩ hp => (mem_ledger.mp hp).2.1

/-- x.name = v over any heap: L is any namespace of the heap (the frame's, say): its map stays, its object is not told; all else but the dict stays -/
theorem set_field {x C dx L : Addr} {ox : Obj} {m : Str → Option Value} {es es' : List DictEntry} {n n' : Nat} {name : Str} {v : Value} {Q : Unit → Shared → Prop}
    (X : K.In s.heap) (I : PySem.W.InstAt s.heap x ox C (some (dictOf es n))) (hd : ox.dict = some dx) (hL : s.heap.Ns L m) (hne : dx ≠ L)
    (hs : findIn K (.ref C) "__setattr__" = some (some (.builtin "object.__setattr__"))) (hp : plainOver K C = true) (ht : takerIn K C name = some none) (hh : hasDictIn K C = true) (hl : (getL name es).isSome = true)
    (e : (putL name (PyData.keyHash w.params name) (.str name (s.toks + 1)) v es, putN name es n) = (es', n')) (hz : es'.length ≤ 1000)
    (h : ∀ h' : Heap, h'.Ns L m → h'.get? dx = some (dictOf es' n') → (∀ b o, b ≠ dx → b ≠ L → s.heap.get? b = some o → h'.get? b = some o) → Q () { s with heap := h', toks := s.toks + 2 }) :
    wpAny (model prog w) A (setAttr (.ref x) name v) Q E s := by
  obtain ⟨e1, e2⟩ := Prod.mk.inj e
  have hdx : s.heap.get? dx = some (dictOf es n) := by
    have := I.dict
    rw [hd] at this
    exact this
  refine set_plain X I hs (osa_dict (s := { s with toks := s.toks + 1 }) (h₀ := noObjs s.heap) (L := L) (m := m) (od := dictOf es n) (od' := dictOf es' n') (es := es') (n := n') (pre := []) (post := ledger s.heap L dx)
    (fr_all hL) (news_ledger hne hdx) X I hd hp ht hh hl (fun _ q => nomatch q) (fun ⟨_, _⟩ q => (mem_ledger.mp q).2.1) (by rw [putName_dict, e1, e2]) rfl hz fun h' F' N' => ?_)
  exact h h' F'.ns (N'.get (List.Mem.head _)) fun b o n1 n2 ho => N'.get (List.Mem.tail _ (mem_ledger.mpr ⟨n2, n1, ho⟩))
end
end Att

namespace L2
open PySem PySem.Spec PyProof.Rows

theorem vals_ints : ∀ {vs : List Value} {ns : List Int}, IntsAre vs ns → Vals (ns.map V.int) vs
  | _, _, .nil => .nil
  | _, _, .cons n t h => .cons ⟨t, rfl⟩ (vals_ints h)

/-- nothing is tracked but the script, known to the object (or it is an object of the module) -/
def Only (H : Hp) : Prop := ∀ b, H b = none ∨ ∃ o xs, H b = some (.frz o (.lst xs))

/-- THE HEAD: the law's promise, at the heap behind the top. F, the promise of the law's def, may use that base is part of the heap (so K.In base, base.Ns mainGlobals mg stand in Mod) -/
theorem law_call {P : Program} {w : World} {K : PySem.W.Frag} {mg mb : Str → Option Value} {CX : CXT} {k : Nat} {fa a : Addr} {fd : FuncData} {x : Str} {sp : Sp} {s₁ : Shared} {vs : List Value} {ns : List Int}
    (KX : K.In s₁.heap) (hns : s₁.heap.Ns mainGlobals mg) (hb : s₁.heap.Ns builtinsNs mb) (hbb : ∀ x : Str, x ≠ "__name__" → mb x = bootBuiltins x) (hlim : s₁.heap.NoLimit) (hg : s₁.gens = #[])
    (ha : s₁.heap.get? a = some { cls := .type "list", data := .seq vs.toArray }) (hi : IntsAre vs ns) (hl : ns.length ≤ sizeLine) (hr : Room k callerA)
    (F : ∀ base : Heap, K.In base → base.Ns mainGlobals mg → FnOk P w K mg base CX k fa fd [x] sp) (hbind : ∀ (s : Shared) (u : Value), BindsTo s fd ⟨[u], []⟩ [(x, u)])
    (hsp : ∀ H : Hp, Only H → SqL K H a (ns.map V.int) → sp [.ref a] H (fun v _ => v = .bl true) fun _ _ _ => False)
    (hCX : ∀ H e s', CX [] H s₁ (fun _ _ _ => False) e s' → False) :
    codeAny (model P w) callerA (.call (.ref fa) ⟨[.ref a], []⟩) (fun r s' => r = .ok (.ret (.bool true)) ∧ OldK s₁.heap s'.heap ∧ s'.os = s₁.os ∧ AllBare s'.gens) s₁ := by
  have rv := vals_ints hi
  have lenV := hi.length
  -- from an abstract heap in which nothing but the script may be tracked
  have core : ∀ H : Hp, Only H → SqL K H a (ns.map V.int) → HOk P w H s₁.heap → (∀ b, H b ≠ none → b = a) → (H a ≠ none → K.lookup a = none) →
      codeAny (model P w) callerA (.call (.ref fa) ⟨[.ref a], []⟩) (fun r s' => r = .ok (.ret (.bool true)) ∧ OldK s₁.heap s'.heap ∧ s'.os = s₁.os ∧ AllBare s'.gens) s₁ := by
    intro H hO hS hok hA hK
    have base_of : ∀ {b : Addr} {o : Obj}, s₁.heap.get? b = some o → H b = none → (hidT s₁.heap H).get? b = some o := fun e n => hidT_get e n
    have noA : ∀ {b : Addr} {o : Obj} {es : Array DictEntry} {ep : Nat}, s₁.heap.get? b = some o → o.data = .dict es ep → H b = none := fun {b o es ep} e d => by
      cases q : H b with
      | none => rfl
      | some u =>
        have e' : b = a := hA b (by rw [q]; simp)
        subst e'
        rw [ha] at e; cases e
        have d' : Data.seq vs.toArray _ = Data.dict es ep := d
        cases d'
    have nsK : ∀ {b : Addr} {m : Str → Option Value}, s₁.heap.Ns b m → (hidT s₁.heap H).Ns b m := fun {b m} ⟨o, es, ep, e, d, r⟩ => ⟨o, es, ep, base_of e (noA e d), d, r⟩
    have hKb : K.In (hidT s₁.heap H) := fun b o e => base_of (KX b o e) (by
      cases q : H b with
      | none => rfl
      | some u =>
        have e' : b = a := hA b (by rw [q]; simp)
        subst e'
        rw [hK (by rw [q]; simp)] at e; cases e)
    have hM : Mod K mg (hidT s₁.heap H) := ⟨hKb, nsK hns, ⟨mb, nsK hb, hbb⟩, let ⟨mc, h1, h2⟩ := hlim; ⟨mc, nsK h1, h2⟩⟩
    have e0 : Env0 P w K mg (hidT s₁.heap H) callerA [] s₁ H := ⟨rfl, hM, fun b o e => of_hidT e, Nat.le_of_eq (hidT_size _ _), trivial, fun b hb => absurd (show b ∈ ([] : List Addr) from hb) (by simp), hok, .of_eq hg⟩
    refine codeAny_mono ((F _ hKb (nsK hns)).run callerA [] s₁ H ⟨[.ref a], []⟩ [.ref a] [.ref a] _ _ hr e0 (hbind s₁ (.ref a)) (.cons rfl .nil) (hsp H hO hS)) fun r s' h => ?_
    cases r with
    | error e => exact (hCX H e s' h).elim
    | ok fl =>
      cases fl with
      | next => exact False.elim h
      | brk => exact False.elim h
      | cont => exact False.elim h
      | ret u =>
        obtain ⟨v, H', os, bare, un, hok', r', q⟩ := h
        have q' : v = .bl true := q
        subst q'
        obtain rfl : u = Value.bool true := r'
        refine ⟨rfl, OldK.of_keep fun b o e => ?_, os, bare⟩
        cases q : H b with
        | none => exact un.keep b o e q (by intro z; exact absurd (show b ∈ ([] : List Addr) from z) (by simp)) (by simp)
        | some u =>
          rcases hO b with z | ⟨ob, xs, z⟩
          · rw [q] at z; cases z
          · have z2 := un.frzs b ob _ z
            obtain ⟨e1, _⟩ := hok b _ z
            obtain ⟨e2, _⟩ := hok' b _ z2
            rw [e] at e1; cases e1
            exact e2
  cases hk : K.lookup a with
  | some o =>
    -- the script is one of the module's own objects
    have e := KX a o hk
    rw [ha] at e
    cases e
    refine core (fun _ => none) (fun _ => .inl rfl) (.inr ⟨_, vs.toArray, _, hk, rfl, rfl, rfl, by rw [List.size_toArray, lenV]; exact hl, by simpa using rv⟩) (fun b u z => by have z' : (none : Option HO) = some u := z; cases z') (fun b z => absurd rfl z) fun z => absurd rfl z
  | none =>
    refine core (fun b => if b = a then some (.frz { cls := .type "list", data := .seq vs.toArray } (.lst (ns.map V.int))) else none) (fun b => ?_) (.inl (.inr ⟨{ cls := .type "list", data := .seq vs.toArray }, if_pos rfl⟩)) (fun b u z => ?_) (fun b z => ?_) fun _ => hk
    · by_cases hb : b = a
      · exact .inr ⟨_, _, if_pos hb⟩
      · exact .inl (if_neg hb)
    · by_cases hb : b = a
      · have z' := (if_pos hb).symm.trans z
        cases z'
        subst hb
        exact ⟨ha, by rw [List.length_map]; exact hl, vs, _, rv, ha⟩
      · have z' := (if_neg hb).symm.trans z
        cases z'
    · by_cases hb : b = a
      · exact hb
      · exact absurd (if_neg hb) z
end L2

namespace L2
open PySem PySem.Spec PyProof.Rows

abbrev KOf {K : PySem.W.Frag} {h : Heap} (_ : K.In h) : PySem.W.Frag := K

/-- the goal that k_head leaves (case hc), from the law's promise. F gives the function object fd (K's own) once, then the promise over every base -/
theorem walk_of {l : PySem.W.OpenLaw} {n k : Nat} {q : Program} {loose : List Str} {XP : (Str → Option Value) → Heap → Prop} {YP : World → Heap → Prop} {d : DefRec} {K : Params → PySem.W.Frag} {CX : World → CXT} {sp : World → Sp} {x : Str}
    (hn : l.most = some n) (hn2 : n ≤ sizeLine) (hdf : d.params.defaults = []) (hr : Room k callerA)
    (hY : ∀ (w : World) (h : Heap), YP w h → (K w.params).In h)
    (F : ∀ (w : World) (mg : Str → Option Value) (fa : Addr) (h : Heap), (K w.params).In h → h.Ns mainGlobals mg → mg d.name = some (.ref fa) →
      ∃ fd : FuncData, (∀ (s : Shared) (u : Value), BindsTo s fd ⟨[u], []⟩ [(x, u)]) ∧
        ∀ base : Heap, (K w.params).In base → base.Ns mainGlobals mg → FnOk l.prog w (K w.params) mg base (CX w) k fa fd [x] (sp w))
    (hsp : ∀ (w : World) (H : Hp) (a : Addr) (ns : List Int), ns.length ≤ n → Only H → SqL (K w.params) H a (ns.map V.int) → sp w [.ref a] H (fun v _ => v = .bl true) fun _ _ _ => False)
    (hCX : ∀ (w : World) (H : Hp) (s : Shared) (e : Value) (s' : Shared), CX w [] H s (fun _ _ _ => False) e s' → False) :
    PySem.W.WalkO q loose XP YP l.row.toRowW d [] (fun f vs => PySem.call f vs) := by
  refine Att.attach_call hn hdf fun w s₀ s₁ mg mb fa o pm cd doc a vs ns G Y ho hd hcd hmg hobj hints hlen hg => ?_
  have KX := hY w _ Y
  obtain ⟨fd, hb, hF⟩ := F w mg fa _ KX G.T.g hmg
  exact law_call KX G.T.g G.T.b G.T.builtins G.T.nolimit hg hobj hints (Nat.le_trans hlen hn2) hr hF hb (fun H hO hS => hsp w H a ns hlen hO hS) fun H e s' => hCX w H s₁ e s'
/-- the same where the promise hangs on the written part alone: (sp := My.sp_law), no hole under a binder -/
theorem walk_ofK {l : PySem.W.OpenLaw} {n k : Nat} {q : Program} {loose : List Str} {XP : (Str → Option Value) → Heap → Prop} {YP : World → Heap → Prop} {d : DefRec} {K : Params → PySem.W.Frag} {CX : CXT} {sp : PySem.W.Frag → Sp} {x : Str}
    (hn : l.most = some n) (hn2 : n ≤ sizeLine) (hdf : d.params.defaults = []) (hr : Room k callerA)
    (hY : ∀ (w : World) (h : Heap), YP w h → (K w.params).In h)
    (F : ∀ (w : World) (mg : Str → Option Value) (fa : Addr) (h : Heap), (K w.params).In h → h.Ns mainGlobals mg → mg d.name = some (.ref fa) →
      ∃ fd : FuncData, (∀ (s : Shared) (u : Value), BindsTo s fd ⟨[u], []⟩ [(x, u)]) ∧
        ∀ base : Heap, (K w.params).In base → base.Ns mainGlobals mg → FnOk l.prog w (K w.params) mg base CX k fa fd [x] (sp (K w.params)))
    (hsp : ∀ (K : PySem.W.Frag) (H : Hp) (a : Addr) (ns : List Int), ns.length ≤ n → Only H → SqL K H a (ns.map V.int) → sp K [.ref a] H (fun v _ => v = .bl true) fun _ _ _ => False)
    (hCX : ∀ (H : Hp) (s : Shared) (e : Value) (s' : Shared), CX [] H s (fun _ _ _ => False) e s' → False) :
    PySem.W.WalkO q loose XP YP l.row.toRowW d [] (fun f vs => PySem.call f vs) :=
  walk_of (K := K) (CX := fun _ => CX) (sp := fun w => sp (K w.params)) hn hn2 hdf hr hY F (fun w H a ns h1 h2 h3 => hsp (K w.params) H a ns h1 h2 h3) fun _ H s e s' => hCX H s e s'
end L2

/- THE LAST THEOREM (shape; LID, My.* are yours):
   My.Adr: a structure of the addresses that your layer names (classes, functions); My.Txt K t: a structure (Prop) of the equations over K;
   My.txt_mk : {K} {implicit addresses ..} (e1 : nsIn K mainGlobals "law" = some (some (.ref f))) (e2 : K.lookup f = some ⟨oc, od, .func (fnOf "law" "law" params body scope dV kV doc pm an cdv ct), sl⟩) (e3 : codeIn K cdv "law" = true) .. : ∃ t, My.Txt K t

set_option maxRecDepth 100000 in
set_option maxHeartbeats 0 in
theorem PySem.Challenge.cw_LID_holds : PySem.Challenge.rw_LID.Holds := by
  w_on; o_law; k_head; (case hw => w_witness2)
  k_fill
  refine L2.walk_of (l := PySem.Challenge.rw_LID) (n := 63) (k := 40) (x := "script") (CX := fun w => ..) (sp := fun _ => My.sp_law) rfl (by decide) rfl ⟨rfl, by decide, by decide⟩ (fun w h Y => PySem.W.kIn_of Y) ?F ?S ?C
  case F =>
    intro w mg fa h KX G hmg
    have T : ∃ t, My.Txt (L2.KOf KX) t := by
      dsimp only [L2.KOf]                          -- K must stand as «<heap const> w.params» for k_is
      refine' My.txt_mk ?e1 ?e2 ?e3 ..
      (case e1 => PySem.W.k_is)                    -- in the order: a name -> its address -> its object -> its parts
      (case e2 => PySem.W.k_is)
      ..
    obtain ⟨t, T⟩ := T
    have e0 := hmg.symm.trans (PySem.W.mg_of KX G T.law)
    cases e0                                       -- fa is the law's own address
    exact ⟨_, fun s u => .of_eq rfl, fun base kb nb => My.law_fn T kb nb⟩     -- if «.of_eq rfl» comes too early: refine' ⟨_, ?b, fun base kb nb => My.law_fn T kb nb⟩; exact fun s u => .of_eq rfl
  case S => exact fun w H a ns hl hO hS => ..
  case C => exact ..
(the tactic k_is has no namespace: write k_is) -/

/-! SHORT WORDS over the layer: a def of the text, its body, what a loop and a test want. -/
namespace L2
open PySem PySem.Spec PyProof.Rows

/-! ### the text by places -/
/-- the j-th statement of a class's body -/
def inClass (s : Stmt) (j : Nat) : Stmt := match s with
  | .ClassDef _ _ _ body _ _ _ _ _ _ _ => body.getD j (.Pass ⟨0, 0, 0, 0⟩)
  | _ => .Pass ⟨0, 0, 0, 0⟩
def defArgs (s : Stmt) : Arguments := match s with
  | .FunctionDef _ a _ _ _ _ _ _ _ _ => a
  | _ => { posonlyargs := [], args := [], vararg := none, kwonlyargs := [], kw_defaults := [], kwarg := none, defaults := [] }
def defBody (s : Stmt) : List Stmt := match s with
  | .FunctionDef _ _ b _ _ _ _ _ _ _ => b
  | _ => []
def defScope (s : Stmt) : Scope := match s with
  | .FunctionDef _ _ _ _ _ _ sc _ _ _ => sc
  | _ => { kind := .function, names := [], isGenerator := false, isCoroutine := false }

/-! ### no exception leaves a def -/
abbrev CX0 : CXT := fun _ _ _ _ _ _ => False
abbrev E0 : XK := fun _ _ _ => False
theorem pass0 {X : Cx} : Passes CX0 X E0 := fun _ _ _ _ _ _ _ h => h.elim

/-! ### a def (or method) of the text as it stands behind the top -/
structure Fun (K : PySem.W.Frag) (x qual : Str) (st : Stmt) (f : Addr) (fd : FuncData) : Prop where
  ex : ∃ (oc : Value) (od : Option Addr) (kV doc pm : Value) (an : Option Addr) (cdv ct : Value) (osl : Array (Option Value)),
    fd = PySem.W.fnOf x qual (defArgs st) (defBody st) (defScope st) .none kV doc pm an cdv ct ∧ K.lookup f = some ⟨oc, od, .func fd, osl⟩ ∧ PySem.W.codeIn K cdv qual = true
  kp : PySem.W.keepIn K (.ref f) = true
section
variable {P : Program} {w : World} {K : PySem.W.Frag} {mg : Str → Option Value} {base : Heap}
/-- THE RULE for a def: its body as a term of rules, and the reading of that term -/
theorem Fun.ok {x qual : Str} {st : Stmt} {f : Addr} {fd : FuncData} {N ps : List Str} {k : Nat} {sp : Sp} (F : Fun K x qual st f fd) (S : FnScope N ps (defScope st)) (len : ∀ vs H Q E, sp vs H Q E → vs.length = ps.length)
    (hbody : ∀ (cdv : Value) (A : Around) (outer : List Env) (s : Shared) (H : Hp) (vs : List V) (Q : VK) (E : XK), Room k (A.deeper (envOfC qual (defScope st) s.heap.objs.size f cdv)) → sp vs H Q E →
      ∃ t, PSs (cxOf CX0 P w K mg base N qual (defScope st) f cdv A outer s H E).nox (defBody st) t ∧ t { nx := fun _ H' => Q .non H', rt := Q } (start N vs) H) : FnOk P w K mg base CX0 (k + 1) f fd ps sp := by
  obtain ⟨oc, od, kV, doc, pm, an, cdv, ct, osl, rfl, lk, hcd⟩ := F.ex
  refine fn_of lk hcd S len fun A outer s H vs Q E hr hsp => ?_
  obtain ⟨t, h, q⟩ := hbody cdv A outer s H vs Q E hr hsp
  exact ⟨t, h.nox, q⟩
/-- how its arguments bind (no defaults): h is «fun _ _ _ _ _ _ us hl => match us, hl with | [_, _], _ => rfl», one _ a parameter -/
theorem Fun.binds {x qual : Str} {st : Stmt} {f : Addr} {fd : FuncData} {ps : List Str} (F : Fun K x qual st f fd)
    (h : ∀ (kV doc pm : Value) (an : Option Addr) (cdv ct : Value) (us : List Value), us.length = ps.length → bindArgs (PySem.W.fnOf x qual (defArgs st) (defBody st) (defScope st) .none kV doc pm an cdv ct) ⟨us, []⟩ = pure (ps.zip us)) : Binds K fd ps [] := by
  obtain ⟨oc, od, kV, doc, pm, an, cdv, ct, osl, rfl, lk, hcd⟩ := F.ex
  exact .all (h kV doc pm an cdv ct)
theorem fun_mk {x qual : Str} {st : Stmt} {f : Addr} {oc : Value} {od an : Option Addr} {osl : Array (Option Value)} {kV doc pm cdv ct : Value} (l : K.lookup f = some ⟨oc, od, .func (PySem.W.fnOf x qual (defArgs st) (defBody st) (defScope st) .none kV doc pm an cdv ct), osl⟩)
    (c : PySem.W.codeIn K cdv qual = true) (k : PySem.W.keepIn K (.ref f) = true) : Fun K x qual st f (PySem.W.fnOf x qual (defArgs st) (defBody st) (defScope st) .none kV doc pm an cdv ct) := ⟨⟨oc, od, kV, doc, pm, an, cdv, ct, osl, rfl, l, c⟩, k⟩
end
theorem hu_of {A : Around} {k : Nat} (hr : Room k A) : A.units + 1 < cLine := Nat.lt_of_le_of_lt (Nat.add_le_add_left (by decide : 1 ≤ 64) _) hr.units
theorem small1000 {n : Nat} (h : n ≤ 1000) : n < sizeLine := Nat.lt_of_le_of_lt h (by decide)

/-! ### expressions in short: the name that stands in the i-th slot -/
section
variable {X : Cx}
theorem pv (i : Nat) {x : Str} {pos : Pos} (hN : X.N[i]? = some x := by rfl) (hv : Vis X.env.scope x := by first | exact Or.inl rfl | exact Or.inr (Or.inl rfl) | exact Or.inr (Or.inr rfl)) (hd : (x == ("__debug__" : Str)) = false := by decide)
    (hcd : (x == ("__classdict__" : Str)) = false := by decide) : PE X (.Name x pos) (tVar i) := pe_var hN hv hd hcd
end

/-! ### tests -/
theorem iteF {A B : Prop} (h : B) : if false = true then A else B := by
  rw [if_neg Bool.false_ne_true]
  exact h
theorem iteT {A B : Prop} (h : A) : if true = true then A else B := by
  rw [if_pos rfl]
  exact h
theorem ite2 {c A B : Prop} [Decidable c] (h1 : c → A) (h2 : ¬ c → B) : if c then A else B := by
  by_cases h : c
  · rw [if_pos h]
    exact h1 h
  · rw [if_neg h]
    exact h2 h
theorem iteNS {c A B : Prop} [Decidable c] (hc : c) (h : B) : if (!decide c) = true then A else B := by
  rw [decide_eq_true hc]
  exact iteF h

/-! ### heaps -/
/-- all that was tracked is as it was -/
def Same (H H' : Hp) : Prop := ∀ b o, H b = some o → H' b = some o
theorem Same.refl (H : Hp) : Same H H := fun _ _ h => h
theorem Same.trans {H H1 H2 : Hp} (a : Same H H1) (b : Same H1 H2) : Same H H2 := fun c o h => b c o (a c o h)
theorem Same.free {H H' : Hp} (e : Same H H') {l : Addr} (h : H' l = Option.none) : H l = Option.none := by
  cases q : H l with
  | none => rfl
  | some o =>
    rw [e l o q] at h
    cases h
theorem Same.seq {K : PySem.W.Frag} {H H' : Hp} {a : Addr} {xs : List V} (e : Same H H') (h : SqL K H a xs) : SqL K H' a xs := by
  rcases h with (h | ⟨o, h⟩) | h
  · exact .inl (.inl (e _ _ h))
  · exact .inl (.inr ⟨o, e _ _ h⟩)
  · exact .inr h

end L2

set_option Elab.async false
set_option linter.all false
set_option maxRecDepth 100000
namespace DL
open PySem PySem.Spec PyProof.Rows L2

/-- data: tuples by value, lists by their number in the store -/
inductive D where
  | non | bl (b : Bool) | int (i : Int) | str (x : Str) | tup (l : List D) | lst (i : Nat)

structure Cell where
  fz : Bool
  xs : List D

abbrev Sto := List Cell
abbrev Lc := List (Option D)

/-- an error that leaves: the number of its class, its field -/
structure XD where
  cls : Nat
  fld : Option D

inductive Out (α : Type) where
  | ok (a : α) (S : Sto)
  | exc (x : XD) (S : Sto)
  | bad

def Out.bind {α β : Type} (o : Out α) (g : α → Sto → Out β) : Out β :=
  match o with
  | .ok a S => g a S
  | .exc x S => .exc x S
  | .bad => .bad

mutual
def Rep (K : PySem.W.Frag) (mp : List Addr) (H : Hp) : D → V → Prop
  | .non, v => v = .non
  | .bl b, v => v = .bl b
  | .int i, v => v = .int i
  | .str x, v => v = .str x
  | .tup l, v => ∃ a xs, v = .ref a ∧ SqT K H a xs ∧ RepL K mp H l xs
  | .lst i, v => ∃ a, v = .ref a ∧ mp[i]? = some a
def RepL (K : PySem.W.Frag) (mp : List Addr) (H : Hp) : List D → List V → Prop
  | [], vs => vs = []
  | d :: l, vs => ∃ v r, vs = v :: r ∧ Rep K mp H d v ∧ RepL K mp H l r
end

structure Aft (K : PySem.W.Frag) (mp : List Addr) (H : Hp) (mp' : List Addr) (H' : Hp) : Prop where
  pre : ∀ (i : Nat) (a : Addr), mp[i]? = some a → mp'[i]? = some a
  tup : ∀ a xs, SqT K H a xs → SqT K H' a xs

theorem Aft.refl {K : PySem.W.Frag} {mp : List Addr} {H : Hp} : Aft K mp H mp H := ⟨fun _ _ h => h, fun _ _ h => h⟩
theorem Aft.trans {K : PySem.W.Frag} {mp mp1 mp2 : List Addr} {H H1 H2 : Hp} (a : Aft K mp H mp1 H1) (b : Aft K mp1 H1 mp2 H2) : Aft K mp H mp2 H2 :=
  ⟨fun i x h => b.pre i x (a.pre i x h), fun x xs h => b.tup x xs (a.tup x xs h)⟩

mutual
theorem Rep.aft {K : PySem.W.Frag} {mp mp' : List Addr} {H H' : Hp} (a : Aft K mp H mp' H') : ∀ (d : D) (v : V), Rep K mp H d v → Rep K mp' H' d v
  | .non, v, h => h
  | .bl _, v, h => h
  | .int _, v, h => h
  | .str _, v, h => h
  | .tup l, v, h => by
    obtain ⟨p, xs, e, s, r⟩ := (show ∃ a xs, v = .ref a ∧ SqT K H a xs ∧ RepL K mp H l xs from h)
    exact ⟨p, xs, e, a.tup _ _ s, RepL.aft a l xs r⟩
  | .lst i, v, h => by
    obtain ⟨p, e, s⟩ := (show ∃ a, v = .ref a ∧ mp[i]? = some a from h)
    exact ⟨p, e, a.pre _ _ s⟩
theorem RepL.aft {K : PySem.W.Frag} {mp mp' : List Addr} {H H' : Hp} (a : Aft K mp H mp' H') : ∀ (l : List D) (vs : List V), RepL K mp H l vs → RepL K mp' H' l vs
  | [], vs, h => h
  | d :: l, vs, h => by
    obtain ⟨v, r, e, h1, h2⟩ := (show ∃ v r, vs = v :: r ∧ Rep K mp H d v ∧ RepL K mp H l r from h)
    exact ⟨v, r, e, Rep.aft a d v h1, RepL.aft a l r h2⟩
end

section
variable {K : PySem.W.Frag} {mp : List Addr} {H : Hp}
theorem RepL.nil : RepL K mp H [] [] := rfl
theorem RepL.cons {d : D} {v : V} {l : List D} {r : List V} (h : Rep K mp H d v) (t : RepL K mp H l r) : RepL K mp H (d :: l) (v :: r) := ⟨v, r, rfl, h, t⟩
theorem RepL.len : ∀ {l : List D} {vs : List V}, RepL K mp H l vs → vs.length = l.length
  | [], vs, h => by cases (show vs = [] from h); rfl
  | d :: l, vs, h => by
    obtain ⟨v, r, e, h1, h2⟩ := h
    subst e
    simp [RepL.len h2]
theorem RepL.get : ∀ {l : List D} {vs : List V} {i : Nat} {d : D}, RepL K mp H l vs → l[i]? = some d → ∃ v, vs[i]? = some v ∧ Rep K mp H d v
  | [], _, _, _, _, e => by simp at e
  | d :: l, vs, 0, _, h, e => by
    obtain ⟨v, r, q, h1, h2⟩ := h
    subst q
    simp at e
    subst e
    exact ⟨v, rfl, h1⟩
  | d :: l, vs, i + 1, x, h, e => by
    obtain ⟨v, r, q, h1, h2⟩ := h
    subst q
    obtain ⟨v', a, b⟩ := RepL.get (i := i) (d := x) h2 (by simpa using e)
    exact ⟨v', by simpa using a, b⟩
theorem RepL.getV : ∀ {l : List D} {vs : List V} {i : Nat} {v : V}, RepL K mp H l vs → vs[i]? = some v → ∃ d, l[i]? = some d ∧ Rep K mp H d v
  | [], vs, i, v, h, e => by cases (show vs = [] from h); simp at e
  | d :: l, vs, 0, v, h, e => by
    obtain ⟨v', r, q, h1, h2⟩ := h
    subst q
    simp at e
    subst e
    exact ⟨d, rfl, h1⟩
  | d :: l, vs, i + 1, v, h, e => by
    obtain ⟨v', r, q, h1, h2⟩ := h
    subst q
    obtain ⟨x, a, b⟩ := RepL.getV (i := i) (v := v) h2 (by simpa using e)
    exact ⟨x, by simpa using a, b⟩
theorem RepL.append : ∀ {l m : List D} {vs ws : List V}, RepL K mp H l vs → RepL K mp H m ws → RepL K mp H (l ++ m) (vs ++ ws)
  | [], m, vs, ws, h, g => by cases (show vs = [] from h); exact g
  | d :: l, m, vs, ws, h, g => by
    obtain ⟨v, r, q, h1, h2⟩ := h
    subst q
    exact ⟨v, r ++ ws, rfl, h1, RepL.append h2 g⟩
theorem RepL.take : ∀ {l : List D} {vs : List V} (n : Nat), RepL K mp H l vs → RepL K mp H (l.take n) (vs.take n)
  | [], vs, n, h => by cases (show vs = [] from h); simp; exact RepL.nil
  | d :: l, vs, 0, h => by simp; exact RepL.nil
  | d :: l, vs, n + 1, h => by
    obtain ⟨v, r, q, h1, h2⟩ := h
    subst q
    simpa using RepL.cons h1 (RepL.take n h2)
theorem RepL.drop : ∀ {l : List D} {vs : List V} (n : Nat), RepL K mp H l vs → RepL K mp H (l.drop n) (vs.drop n)
  | [], vs, n, h => by cases (show vs = [] from h); simp; exact RepL.nil
  | d :: l, vs, 0, h => by simpa using h
  | d :: l, vs, n + 1, h => by
    obtain ⟨v, r, q, h1, h2⟩ := h
    subst q
    simpa using RepL.drop n h2
theorem RepL.set : ∀ {l : List D} {vs : List V} {d : D} {v : V} (n : Nat), RepL K mp H l vs → Rep K mp H d v → RepL K mp H (l.set n d) (vs.set n v)
  | [], vs, d, v, n, h, g => by cases (show vs = [] from h); simp; exact RepL.nil
  | x :: l, vs, d, v, 0, h, g => by
    obtain ⟨v', r, q, h1, h2⟩ := h
    subst q
    simpa using RepL.cons g h2
  | x :: l, vs, d, v, n + 1, h, g => by
    obtain ⟨v', r, q, h1, h2⟩ := h
    subst q
    simpa using RepL.cons h1 (RepL.set n h2 g)
theorem RepL.rep {d : D} {v : V} (h : Rep K mp H d v) : ∀ n : Nat, RepL K mp H (List.replicate n d) (List.replicate n v)
  | 0 => RepL.nil
  | n + 1 => RepL.cons h (RepL.rep h n)
theorem RepL.rev : ∀ {l : List D} {vs : List V}, RepL K mp H l vs → RepL K mp H l.reverse vs.reverse
  | [], vs, h => by cases (show vs = [] from h); exact RepL.nil
  | d :: l, vs, h => by
    obtain ⟨v, r, q, h1, h2⟩ := h
    subst q
    simpa using RepL.append (RepL.rev h2) (RepL.cons h1 RepL.nil)
theorem RepL.ofGet : ∀ {l : List D} {vs : List V}, vs.length = l.length → (∀ (i : Nat) (d : D), l[i]? = some d → ∃ v, vs[i]? = some v ∧ Rep K mp H d v) → RepL K mp H l vs
  | [], vs, hl, _ => by cases vs with | nil => exact RepL.nil | cons _ _ => simp at hl
  | d :: l, vs, hl, h => by
    cases vs with
    | nil => simp at hl
    | cons v r =>
      obtain ⟨v', e, g⟩ := h 0 d rfl
      simp at e
      subst e
      refine RepL.cons g (RepL.ofGet (by simpa using hl) fun i x hx => ?_)
      obtain ⟨v2, e2, g2⟩ := h (i + 1) x (by simpa using hx)
      exact ⟨v2, by simpa using e2, g2⟩
end

/-- a list that is read alone -/
def SqF (K : PySem.W.Frag) (H : Hp) (a : Addr) (xs : List V) : Prop :=
  (∃ o, H a = some (.frz o (.lst xs))) ∨
    ∃ (o : Obj) (its : Array Value) (n : Nat), K.lookup a = some o ∧ o.cls = .type "list" ∧ o.dict = none ∧ o.data = .seq its n ∧ its.size ≤ sizeLine ∧ Vals xs its.toList
theorem SqF.sq {K : PySem.W.Frag} {H : Hp} {a : Addr} {xs : List V} (h : SqF K H a xs) : SqL K H a xs := by
  rcases h with h | h
  · exact .inl (.inr h)
  · exact .inr h
def CellOk (K : PySem.W.Frag) (mp : List Addr) (H : Hp) (a : Addr) (c : Cell) : Prop :=
  ∃ xs, RepL K mp H c.xs xs ∧ (if c.fz = true then SqF K H a xs else H a = some (.lst xs))
structure RS (K : PySem.W.Frag) (mp : List Addr) (H : Hp) (S : Sto) : Prop where
  len : mp.length = S.length
  cell : ∀ (i : Nat) (a : Addr) (c : Cell), mp[i]? = some a → S[i]? = some c → CellOk K mp H a c
  inj : ∀ (i j : Nat) (a : Addr) (ci cj : Cell), mp[i]? = some a → mp[j]? = some a → S[i]? = some ci → S[j]? = some cj → ci.fz = false → cj.fz = false → i = j
structure Gd (K : PySem.W.Frag) (mp : List Addr) (H : Hp) (σ : L2.St) (ρ : Lc) (S : Sto) : Prop where
  rs : RS K mp H S
  len : σ.length = ρ.length
  loc : ∀ (i : Nat) (d : D), ρ[i]? = some (some d) → ∃ v, σ[i]? = some (some v) ∧ Rep K mp H d v
theorem Gd.aft {K : PySem.W.Frag} {mp mp' : List Addr} {H H' : Hp} {σ : L2.St} {ρ : Lc} {S S' : Sto} (g : Gd K mp H σ ρ S) (a : Aft K mp H mp' H') (r : RS K mp' H' S') : Gd K mp' H' σ ρ S' :=
  ⟨r, g.len, fun i d h => let ⟨v, e, q⟩ := g.loc i d h; ⟨v, e, q.aft a⟩⟩

abbrev XW := XD → List Addr → Hp → L2.St → Lc → Sto → Prop
abbrev RL (α β : Type) := List Addr → Hp → α → β → Prop
def PostG {α β : Type} (K : PySem.W.Frag) (R : RL α β) (XQ : XW) (σ : L2.St) (ρ : Lc) (mp : List Addr) (H : Hp) (o : Out α) (Q : β → Hp → Prop) : Prop :=
  match o with
  | .ok d S => ∀ mp' H' v, Aft K mp H mp' H' → RS K mp' H' S → R mp' H' d v → Q v H'
  | .exc x S => ∀ mp' H', Aft K mp H mp' H' → Gd K mp' H' σ ρ S → XQ x mp' H' σ ρ S
  | .bad => False
theorem PostG.aft {α β : Type} {K : PySem.W.Frag} {R : RL α β} {XQ : XW} {σ : L2.St} {ρ : Lc} {mp mp' : List Addr} {H H' : Hp} {o : Out α} {Q : β → Hp → Prop} (p : PostG K R XQ σ ρ mp H o Q) (a : Aft K mp H mp' H') : PostG K R XQ σ ρ mp' H' o Q := by
  cases o with
  | ok d S => exact fun m h v b => p m h v (a.trans b)
  | exc x S => exact fun m h b => p m h (a.trans b)
  | bad => exact p
theorem PostG.ok {α β : Type} {K : PySem.W.Frag} {R : RL α β} {XQ : XW} {σ : L2.St} {ρ : Lc} {mp : List Addr} {H : Hp} {d : α} {S : Sto} {v : β} {Q : β → Hp → Prop} (p : PostG K R XQ σ ρ mp H (.ok d S) Q) (r : RS K mp H S) (h : R mp H d v) : Q v H := p mp H v .refl r h
abbrev Post (K : PySem.W.Frag) (XQ : XW) := PostG (β := V) K (Rep K) XQ

abbrev Ev (α : Type) := Lc → Sto → Out α
def rdG {α β : Type} (K : PySem.W.Frag) (R : RL α β) (XQ : XW) (f : Ev α) : L2.St → Hp → (β → Hp → Prop) → Prop := fun σ H Q => ∃ mp ρ S, Gd K mp H σ ρ S ∧ PostG K R XQ σ ρ mp H (f ρ S) Q
def kB : RL Bool Bool := fun _ _ a b => b = a
def kO : RL (Option Int) (Option Int) := fun _ _ a b => b = a
abbrev rdE (K : PySem.W.Frag) (XQ : XW) (f : Ev D) : TE := rdG K (Rep K) XQ f
abbrev rdA (K : PySem.W.Frag) (XQ : XW) (f : Ev (List D)) : TA := rdG K (RepL K) XQ f
abbrev rdT (K : PySem.W.Frag) (XQ : XW) (f : Ev Bool) : TT := rdG K kB XQ f
abbrev rdO (K : PySem.W.Frag) (XQ : XW) (f : Ev (Option Int)) : TO := rdG K kO XQ f
def JE (X : Cx) (XQ : XW) (e : Expr) (f : Ev D) : Prop := PE X e (rdE X.K XQ f)
def JA (X : Cx) (XQ : XW) (es : List Expr) (f : Ev (List D)) : Prop := PA X es (rdA X.K XQ f)
def JT (X : Cx) (XQ : XW) (e : Expr) (f : Ev Bool) : Prop := PT X e (rdT X.K XQ f)
def JW (X : Cx) (XQ : XW) (e : Expr) (f : Ev Bool) : Prop := PW X e (rdT X.K XQ f)
def JO (X : Cx) (XQ : XW) (e : Option Expr) (f : Ev (Option Int)) : Prop := PO X e (rdO X.K XQ f)

theorem PE.mono {X : Cx} {e : Expr} {t t' : TE} (h : PE X e t) (m : ∀ σ H Q, t' σ H Q → t σ H Q) : PE X e t' := fun pins s σ H Q I q => h pins s σ H Q I (m σ H Q q)
theorem PT.mono {X : Cx} {e : Expr} {t t' : TT} (h : PT X e t) (m : ∀ σ H Q, t' σ H Q → t σ H Q) : PT X e t' := fun pins s σ H Q I q => h pins s σ H Q I (m σ H Q q)
theorem PW.mono {X : Cx} {e : Expr} {t t' : TT} (h : PW X e t) (m : ∀ σ H Q, t' σ H Q → t σ H Q) : PW X e t' := fun wh pins s σ H Q I q => h wh pins s σ H Q I (m σ H Q q)
theorem PO.mono {X : Cx} {e : Option Expr} {t t' : TO} (h : PO X e t) (m : ∀ σ H Q, t' σ H Q → t σ H Q) : PO X e t' := fun pins s σ H Q I q => h pins s σ H Q I (m σ H Q q)
theorem PA.mono {X : Cx} {e : List Expr} {t t' : TA} (h : PA X e t) (m : ∀ σ H Q, t' σ H Q → t σ H Q) : PA X e t' := fun pos pins s σ H Q I q => h pos pins s σ H Q I (m σ H Q q)
theorem PS.mono {X : Cx} {e : Stmt} {t t' : TS} (h : PS X e t) (m : ∀ D σ H, t' D σ H → t D σ H) : PS X e t' := fun pins s σ H D I q => h pins s σ H D I (m D σ H q)
theorem PSs.mono {X : Cx} {e : List Stmt} {t t' : TS} (h : PSs X e t) (m : ∀ D σ H, t' D σ H → t D σ H) : PSs X e t' := fun pins s σ H D I q => h pins s σ H D I (m D σ H q)

/-- one part, then the rest -/
theorem bindP {α β γ δ : Type} {K : PySem.W.Frag} {R : RL α β} {R' : RL γ δ} {XQ : XW} {mp : List Addr} {H : Hp} {σ : L2.St} {ρ : Lc} {S : Sto} {f : Ev α} {g : α → Sto → Out γ} {Q : δ → Hp → Prop} {Q1 : β → Hp → Prop} (G : Gd K mp H σ ρ S) (p : PostG K R' XQ σ ρ mp H ((f ρ S).bind g) Q)
    (k : ∀ mp1 H1 d S1 v, Aft K mp H mp1 H1 → Gd K mp1 H1 σ ρ S1 → R mp1 H1 d v → PostG K R' XQ σ ρ mp1 H1 (g d S1) Q → Q1 v H1) : rdG K R XQ f σ H Q1 := by
  refine ⟨mp, ρ, S, G, ?_⟩
  cases e : f ρ S with
  | ok d S1 =>
    rw [e] at p
    exact fun mp1 H1 v a rs r => k mp1 H1 d S1 v a (G.aft a rs) r (PostG.aft p a)
  | exc x S1 => rw [e] at p; exact p
  | bad => rw [e] at p; exact p

/-! ### names, constants -/
def vr (i : Nat) : Ev D := fun ρ S => match ρ[i]? with
  | some (some d) => .ok d S
  | _ => .bad
def cn (d : D) : Ev D := fun _ S => .ok d S
section
variable {X : Cx} {XQ : XW}
theorem je_var (i : Nat) {x : Str} {pos : Pos} (hN : X.N[i]? = some x := by rfl) (hv : Vis X.env.scope x := by first | exact Or.inl rfl | exact Or.inr (Or.inl rfl) | exact Or.inr (Or.inr rfl)) (hd : (x == ("__debug__" : Str)) = false := by decide)
    (hcd : (x == ("__classdict__" : Str)) = false := by decide) : JE X XQ (.Name x pos) (vr i) := by
  refine PE.mono (pe_var hN hv hd hcd) fun σ H Q ⟨mp, ρ, S, G, p⟩ => ?_
  unfold vr at p
  cases e : ρ[i]? with
  | none => rw [e] at p; exact p.elim
  | some o =>
    rw [e] at p
    cases o with
    | none => exact p.elim
    | some d =>
      obtain ⟨v, h1, h2⟩ := G.loc i d e
      exact ⟨v, h1, PostG.ok p G.rs h2⟩
theorem je_const {e : Expr} {d : D} {v : V} (h : PE X e (tC v)) (r : ∀ mp H, Rep X.K mp H d v) : JE X XQ e (cn d) :=
  PE.mono h fun σ H Q ⟨mp, ρ, S, G, p⟩ => PostG.ok p G.rs (r mp H)
theorem je_int {i : Int} {j pos} : JE X XQ (.Constant (.int i) j pos) (cn (.int i)) := je_const pe_int fun _ _ => rfl
theorem je_bl {b : Bool} {j pos} : JE X XQ (.Constant (.bool b) j pos) (cn (.bl b)) := je_const pe_bl fun _ _ => rfl
theorem je_non {j pos} : JE X XQ (.Constant .none j pos) (cn .non) := je_const pe_non fun _ _ => rfl
theorem je_str {x : Str} {j pos} : JE X XQ (.Constant (.str x) j pos) (cn (.str x)) := je_const pe_str fun _ _ => rfl

/-! ### argument lists -/
def an : Ev (List D) := fun _ S => .ok [] S
def ac (f : Ev D) (g : Ev (List D)) : Ev (List D) := fun ρ S => (f ρ S).bind fun x S1 => (g ρ S1).bind fun xs S2 => .ok (x :: xs) S2
theorem ja_nil : JA X XQ [] an := PA.mono pa_nil fun σ H Q ⟨mp, ρ, S, G, p⟩ => PostG.ok p G.rs RepL.nil
theorem ja_cons {e : Expr} {es : List Expr} {f : Ev D} {g : Ev (List D)} (ha : JE X XQ e f) (hr : JA X XQ es g) (hs : starEach (e :: es) X.env = (false, eval e X.env) :: starEach es X.env := by rfl) : JA X XQ (e :: es) (ac f g) := by
  refine PA.mono (pa_cons ha hr hs) fun σ H Q ⟨mp, ρ, S, G, p⟩ => ?_
  refine bindP G p fun mp1 H1 x S1 v a1 G1 r1 p1 => ?_
  refine bindP G1 p1 fun mp2 H2 xs S2 vs a2 G2 r2 p2 => ?_
  exact PostG.ok p2 G2.rs (RepL.cons (Rep.aft a2 _ _ r1) r2)

/-! ### new objects -/
theorem aft_new {K : PySem.W.Frag} {mp : List Addr} {H : Hp} {p : Addr} {o : HO} (h : H p = none) : Aft K mp H mp (upd H p o) := by
  refine ⟨fun _ _ e => e, fun a xs s => ?_⟩
  rcases s with (s | ⟨ob, s⟩) | s
  · exact .inl (.inl (by rw [upd_ne (ne_of_none s h)]; exact s))
  · exact .inl (.inr ⟨ob, by rw [upd_ne (ne_of_none s h)]; exact s⟩)
  · exact .inr s
theorem sqF_new {K : PySem.W.Frag} {H : Hp} {p a : Addr} {o : HO} {xs : List V} (h : H p = none) (s : SqF K H a xs) : SqF K (upd H p o) a xs := by
  rcases s with ⟨ob, s⟩ | s
  · exact .inl ⟨ob, by rw [upd_ne (ne_of_none s h)]; exact s⟩
  · exact .inr s
theorem CellOk.new {K : PySem.W.Frag} {mp mp' : List Addr} {H : Hp} {p a : Addr} {o : HO} {c : Cell} (h : H p = none) (af : Aft K mp H mp' (upd H p o)) (q : CellOk K mp H a c) : CellOk K mp' (upd H p o) a c := by
  obtain ⟨xs, r, e⟩ := q
  refine ⟨xs, RepL.aft af _ _ r, ?_⟩
  cases z : c.fz with
  | true => rw [z] at e; exact (if_pos rfl).mpr (sqF_new h ((if_pos rfl).mp e))
  | false =>
    rw [z, if_neg Bool.false_ne_true] at e
    rw [if_neg Bool.false_ne_true, upd_ne (ne_of_none e h)]
    exact e
theorem RS.new {K : PySem.W.Frag} {mp : List Addr} {H : Hp} {S : Sto} {p : Addr} {o : HO} (r : RS K mp H S) (h : H p = none) : RS K mp (upd H p o) S :=
  ⟨r.len, fun i a c e1 e2 => (r.cell i a c e1 e2).new h (aft_new h), r.inj⟩
/-- a new list -/
theorem RS.newL {K : PySem.W.Frag} {mp : List Addr} {H : Hp} {S : Sto} {p : Addr} {ds : List D} {vs : List V} (r : RS K mp H S) (h : H p = none) (q : RepL K mp H ds vs) :
    Aft K mp H (mp ++ [p]) (upd H p (.lst vs)) ∧ RS K (mp ++ [p]) (upd H p (.lst vs)) (S ++ [⟨false, ds⟩]) ∧ (mp ++ [p])[S.length]? = some p := by
  have af : Aft K mp H (mp ++ [p]) (upd H p (.lst vs)) := ⟨fun i a e => by rw [List.getElem?_append_left (List.getElem?_eq_some_iff.mp e).1]; exact e, (aft_new (mp := mp) h).tup⟩
  have hl := r.len
  have lastp : (mp ++ [p])[S.length]? = some p := by rw [← hl]; simp
  refine ⟨af, ⟨by simp [hl], fun i a c e1 e2 => ?_, fun i j a ci cj e1 e2 e3 e4 f1 f2 => ?_⟩, lastp⟩
  · by_cases hi : i < S.length
    · rw [List.getElem?_append_left (by omega)] at e1
      rw [List.getElem?_append_left hi] at e2
      exact (r.cell i a c e1 e2).new h af
    · have hi' : i = S.length := by
        have := (List.getElem?_eq_some_iff.mp e2).1
        simp at this
        omega
      subst hi'
      rw [lastp] at e1
      cases e1
      simp at e2
      subst e2
      exact ⟨vs, RepL.aft af _ _ q, by simp [upd_same]⟩
  · have old : ∀ (i : Nat) (a : Addr) (c : Cell), i < S.length → (mp ++ [p])[i]? = some a → (S ++ [⟨false, ds⟩])[i]? = some c → c.fz = false → mp[i]? = some a ∧ S[i]? = some c ∧ a ≠ p := fun i a c hi e1 e2 f => by
      rw [List.getElem?_append_left (by omega)] at e1
      rw [List.getElem?_append_left hi] at e2
      refine ⟨e1, e2, ?_⟩
      obtain ⟨xs, _, e⟩ := r.cell i a c e1 e2
      rw [f, if_neg Bool.false_ne_true] at e
      exact ne_of_none e h
    have hi := (List.getElem?_eq_some_iff.mp e3).1
    have hj := (List.getElem?_eq_some_iff.mp e4).1
    simp at hi hj
    by_cases hi' : i < S.length
    · obtain ⟨o1, o2, o3⟩ := old i a ci hi' e1 e3 f1
      by_cases hj' : j < S.length
      · obtain ⟨u1, u2, u3⟩ := old j a cj hj' e2 e4 f2
        exact r.inj i j a ci cj o1 u1 o2 u2 f1 f2
      · have : j = S.length := by omega
        subst this
        rw [lastp] at e2
        cases e2
        exact absurd rfl o3
    · have : i = S.length := by omega
      subst this
      rw [lastp] at e1
      cases e1
      by_cases hj' : j < S.length
      · obtain ⟨u1, u2, u3⟩ := old j _ cj hj' e2 e4 f2
        exact absurd rfl u3
      · omega
/-- a list is rewritten -/
theorem RS.setL {K : PySem.W.Frag} {mp : List Addr} {H : Hp} {S : Sto} {i : Nat} {a : Addr} {c : Cell} {xs vs : List V} {ds : List D} (r : RS K mp H S) (hi : mp[i]? = some a) (hc : S[i]? = some c) (hf : c.fz = false) (ha : H a = some (.lst xs)) (q : RepL K mp H ds vs) :
    Aft K mp H mp (upd H a (.lst vs)) ∧ RS K mp (upd H a (.lst vs)) (S.set i ⟨false, ds⟩) := by
  have af : Aft K mp H mp (upd H a (.lst vs)) := by
    refine ⟨fun _ _ e => e, fun b ys s => ?_⟩
    rcases s with (s | ⟨ob, s⟩) | s
    · exact .inl (.inl (by rw [upd_ne (ne_of s ha (by intro z; cases z))]; exact s))
    · exact .inl (.inr ⟨ob, by rw [upd_ne (ne_of s ha (by intro z; cases z))]; exact s⟩)
    · exact .inr s
  refine ⟨af, ⟨by simp [r.len], fun j b cj e1 e2 => ?_, fun j k b cj ck e1 e2 e3 e4 f1 f2 => ?_⟩⟩
  · by_cases hj : j = i
    · subst hj
      rw [hi] at e1
      cases e1
      rw [List.getElem?_set_self (List.getElem?_eq_some_iff.mp hc).1] at e2
      cases e2
      exact ⟨vs, RepL.aft af _ _ q, by simp [upd_same]⟩
    · rw [List.getElem?_set_ne (Ne.symm hj)] at e2
      obtain ⟨ys, h1, h2⟩ := r.cell j b cj e1 e2
      refine ⟨ys, RepL.aft af _ _ h1, ?_⟩
      cases z : cj.fz with
      | true =>
        rw [z] at h2
        have h2 : SqF K H b ys := (if_pos rfl).mp h2
        refine (if_pos rfl).mpr ?_
        rcases h2 with ⟨ob, s⟩ | s
        · exact .inl ⟨ob, by rw [upd_ne (ne_of s ha (by intro z; cases z))]; exact s⟩
        · exact .inr s
      | false =>
        rw [z, if_neg Bool.false_ne_true] at h2
        rw [if_neg Bool.false_ne_true]
        have hb : b ≠ a := fun hb => by
          subst hb
          exact hj (r.inj j i b cj c e1 hi e2 hc z hf)
        rw [upd_ne hb]
        exact h2
  · have fz : ∀ (j : Nat) (cj : Cell), (S.set i ⟨false, ds⟩)[j]? = some cj → cj.fz = false → ∃ c', S[j]? = some c' ∧ c'.fz = false := fun j cj e f => by
      by_cases hj : j = i
      · subst hj
        exact ⟨c, hc, hf⟩
      · rw [List.getElem?_set_ne (Ne.symm hj)] at e
        exact ⟨cj, e, f⟩
    obtain ⟨c1, g1, g2⟩ := fz j cj e3 f1
    obtain ⟨c2, g3, g4⟩ := fz k ck e4 f2
    exact r.inj j k b c1 c2 e1 e2 g1 g3 g2 g4

/-- the items of a list -/
theorem RS.items {K : PySem.W.Frag} {mp : List Addr} {H : Hp} {S : Sto} {i : Nat} {c : Cell} {v : V} (r : RS K mp H S) (h : Rep K mp H (.lst i) v) (e : S[i]? = some c) : ∃ a xs, v = .ref a ∧ mp[i]? = some a ∧ SqL K H a xs ∧ RepL K mp H c.xs xs ∧ (c.fz = false → H a = some (.lst xs)) := by
  obtain ⟨a, ev, ea⟩ := (show ∃ a, v = .ref a ∧ mp[i]? = some a from h)
  obtain ⟨xs, q, z⟩ := r.cell i a c ea e
  cases f : c.fz with
  | true => rw [f] at z; exact ⟨a, xs, ev, ea, ((if_pos rfl).mp z : SqF K H a xs).sq, q, fun w => nomatch w⟩
  | false => rw [f, if_neg Bool.false_ne_true] at z; exact ⟨a, xs, ev, ea, SqL.of z, q, fun _ => z⟩
theorem Rep.tup {K : PySem.W.Frag} {mp : List Addr} {H : Hp} {l : List D} {v : V} (h : Rep K mp H (.tup l) v) : ∃ a xs, v = .ref a ∧ SqT K H a xs ∧ RepL K mp H l xs := h

/-! ### two-place operations -/
def OpD (K : PySem.W.Frag) (r : R2) (o : D → D → Sto → Out D) : Prop :=
  ∀ (XQ : XW) (σ : L2.St) (ρ : Lc) (mp : List Addr) (H : Hp) (S : Sto) (x y : D) (v u : V) (Q : VK), RS K mp H S → Rep K mp H x v → Rep K mp H y u → Post K XQ σ ρ mp H (o x y S) Q → r v u H Q
def o2 (o : D → D → Sto → Out D) (fa fb : Ev D) : Ev D := fun ρ S => (fa ρ S).bind fun x S1 => (fb ρ S1).bind fun y S2 => o x y S2
theorem opR2 {r : R2} {o : D → D → Sto → Out D} {fa fb : Ev D} (hd : OpD X.K r o) : ∀ σ H Q, rdE X.K XQ (o2 o fa fb) σ H Q → tOp r (rdE X.K XQ fa) (rdE X.K XQ fb) σ H Q := by
  intro σ H Q ⟨mp, ρ, S, G, p⟩
  refine bindP G p fun mp1 H1 x S1 v a1 G1 r1 p1 => ?_
  refine bindP G1 p1 fun mp2 H2 y S2 u a2 G2 r2 p2 => ?_
  exact hd XQ σ ρ mp2 H2 S2 x y v u Q G2.rs (Rep.aft a2 _ _ r1) r2 p2
theorem je_op {a b : Expr} {fa fb : Ev D} {op : Operator} {r : R2} {o : D → D → Sto → Out D} {pos : Pos} (ho : OpR X (binaryOp op) r) (hd : OpD X.K r o) (ha : JE X XQ a fa) (hb : JE X XQ b fb) : JE X XQ (.BinOp a op b pos) (o2 o fa fb) :=
  PE.mono (pe_op ho ha hb) (opR2 hd)
theorem je_cmp {a b : Expr} {fa fb : Ev D} {op : CmpOp} {r : R2} {o : D → D → Sto → Out D} {pos : Pos} (ho : OpR X (compareOp op) r) (hd : OpD X.K r o) (ha : JE X XQ a fa) (hb : JE X XQ b fb) (hm : behindInMarks op b = false) : JE X XQ (.Compare a [op] [b] pos) (o2 o fa fb) :=
  PE.mono (pe_cmpR ho ha hb hm) (opR2 hd)
theorem je_ix {a b : Expr} {fa fb : Ev D} {r : R2} {o : D → D → Sto → Out D} {pos : Pos} (hr : IxR X r) (hd : OpD X.K r o) (ha : JE X XQ a fa) (hb : JE X XQ b fb) (hs : PlainIx b) : JE X XQ (.Subscript a b pos) (o2 o fa fb) :=
  PE.mono (pe_ix hr ha hb hs) (opR2 hd)

/-! ### one-place operations -/
def UnD (K : PySem.W.Frag) (r : V → Hp → VK → Prop) (o : D → Sto → Out D) : Prop :=
  ∀ (XQ : XW) (σ : L2.St) (ρ : Lc) (mp : List Addr) (H : Hp) (S : Sto) (x : D) (v : V) (Q : VK), RS K mp H S → Rep K mp H x v → Post K XQ σ ρ mp H (o x S) Q → r v H Q
def o1 (o : D → Sto → Out D) (fa : Ev D) : Ev D := fun ρ S => (fa ρ S).bind fun x S1 => o x S1
theorem je_un {a : Expr} {fa : Ev D} {op : UnaryOp} {r : V → Hp → VK → Prop} {o : D → Sto → Out D} {pos : Pos} (ho : UnR X (unaryOp op) r) (hd : UnD X.K r o) (ha : JE X XQ a fa) : JE X XQ (.UnaryOp op a pos) (o1 o fa) := by
  refine PE.mono (pe_un ho ha) fun σ H Q ⟨mp, ρ, S, G, p⟩ => ?_
  exact bindP G p fun mp1 H1 x S1 v a1 G1 r1 p1 => hd XQ σ ρ mp1 H1 S1 x v Q G1.rs r1 p1

/-! ### displays -/
def tp (f : Ev (List D)) : Ev D := fun ρ S => (f ρ S).bind fun xs S1 => if xs.length ≤ 1000000 then .ok (.tup xs) S1 else .bad
def ls (f : Ev (List D)) : Ev D := fun ρ S => (f ρ S).bind fun xs S1 => if xs.length ≤ 1000000 then .ok (.lst S1.length) (S1 ++ [⟨false, xs⟩]) else .bad
theorem line_le {n : Nat} (h : n ≤ 1000000) : n ≤ sizeLine := Nat.le_trans h (by decide)
/-- a new tuple told -/
theorem post_tup {K : PySem.W.Frag} {σ : L2.St} {ρ : Lc} {mp : List Addr} {H : Hp} {S : Sto} {ds : List D} {vs : List V} {Q : VK} {p : Addr} (po : Post K XQ σ ρ mp H (.ok (.tup ds) S) Q) (r : RS K mp H S) (q : RepL K mp H ds vs) (h : H p = none) : Q (.ref p) (upd H p (.tup vs)) := by
  have af : Aft K mp H mp (upd H p (.tup vs)) := aft_new h
  exact po mp _ _ af (r.new h) ⟨p, vs, rfl, SqT.of upd_same, RepL.aft af _ _ q⟩
theorem post_lst {K : PySem.W.Frag} {σ : L2.St} {ρ : Lc} {mp : List Addr} {H : Hp} {S : Sto} {ds : List D} {vs : List V} {Q : VK} {p : Addr} (po : Post K XQ σ ρ mp H (.ok (.lst S.length) (S ++ [⟨false, ds⟩])) Q) (r : RS K mp H S) (q : RepL K mp H ds vs) (h : H p = none) : Q (.ref p) (upd H p (.lst vs)) := by
  obtain ⟨af, rs, e⟩ := r.newL h q
  exact po _ _ _ af rs ⟨p, rfl, e⟩
theorem je_tup {es : List Expr} {f : Ev (List D)} {x1} {pos : Pos} (h : JA X XQ es f) : JE X XQ (.Tuple es x1 pos) (tp f) := by
  refine PE.mono (pe_tup h) fun σ H Q ⟨mp, ρ, S, G, p⟩ => ?_
  refine bindP G p fun mp1 H1 xs S1 vs a1 G1 r1 p1 => ?_
  by_cases hl : xs.length ≤ 1000000
  · rw [if_pos hl] at p1
    exact ⟨by rw [r1.len]; exact line_le hl, fun q hq => post_tup p1 G1.rs r1 hq⟩
  · rw [if_neg hl] at p1; exact p1.elim
theorem je_lst {es : List Expr} {f : Ev (List D)} {pos : Pos} (h : JA X XQ es f) : JE X XQ (.List es pos) (ls f) := by
  refine PE.mono (pe_lst h) fun σ H Q ⟨mp, ρ, S, G, p⟩ => ?_
  refine bindP G p fun mp1 H1 xs S1 vs a1 G1 r1 p1 => ?_
  by_cases hl : xs.length ≤ 1000000
  · rw [if_pos hl] at p1
    exact ⟨by rw [r1.len]; exact line_le hl, fun q hq => post_lst p1 G1.rs r1 hq⟩
  · rw [if_neg hl] at p1; exact p1.elim

/-! ### tests -/
def truD : D → Sto → Option Bool
  | .non, _ => some false
  | .bl b, _ => some b
  | .int i, _ => some (i != 0)
  | .str y, _ => if y.length ≤ 1000000 then some ((y.length : Int) != 0) else none
  | .tup l, _ => some (!l.isEmpty)
  | .lst i, S => match S[i]? with
    | some c => some (!c.xs.isEmpty)
    | none => none
def tt (f : Ev D) : Ev Bool := fun ρ S => (f ρ S).bind fun x S1 => match truD x S1 with
  | some b => .ok b S1
  | none => .bad
theorem RepL.empty {K : PySem.W.Frag} {mp : List Addr} {H : Hp} {l : List D} {vs : List V} (h : RepL K mp H l vs) : (!l.isEmpty) = !vs.isEmpty := by
  have e := h.len
  cases l <;> cases vs <;> simp_all
theorem truV_of {K : PySem.W.Frag} {mp : List Addr} {H : Hp} {S : Sto} {x : D} {v : V} {b : Bool} (r : RS K mp H S) (h : Rep K mp H x v) (e : truD x S = some b) : TruV K v H b := by
  cases x with
  | non => cases (show v = .non from h); exact (Option.some.inj e).symm
  | bl c => cases (show v = .bl c from h); exact (Option.some.inj e).symm
  | int i => cases (show v = .int i from h); exact (Option.some.inj e).symm
  | str y =>
    cases (show v = .str y from h)
    have e : (if y.length ≤ 1000000 then some ((y.length : Int) != 0) else none) = some b := e
    by_cases hl : y.length ≤ 1000000
    · rw [if_pos hl] at e; exact ⟨line_le hl, (Option.some.inj e).symm⟩
    · rw [if_neg hl] at e; cases e
  | tup l =>
    obtain ⟨a, xs, rfl, s, q⟩ := Rep.tup h
    exact .inr (.inl ⟨xs, s, by rw [← q.empty]; exact (Option.some.inj e).symm⟩)
  | lst i =>
    have e : (match S[i]? with | some c => some (!c.xs.isEmpty) | none => none) = some b := e
    cases z : S[i]? with
    | none => rw [z] at e; cases e
    | some c =>
      rw [z] at e
      obtain ⟨a, xs, rfl, _, s, q, _⟩ := r.items h z
      exact .inl ⟨xs, s, by rw [← q.empty]; exact (Option.some.inj e).symm⟩
/-- a value's truth -/
theorem jt_val {e : Expr} {f : Ev D} (h : JE X XQ e f) (he : ∀ whole, isTrue e X.env whole = (do let v ← whole; standAt e.pos; holding [v] (truthy v)) := by intro _; rfl) : JT X XQ e (tt f) := by
  refine PT.mono (pt_truth h he) fun σ H Q ⟨mp, ρ, S, G, p⟩ => ?_
  refine bindP G p fun mp1 H1 x S1 v a1 G1 r1 p1 => ?_
  cases z : truD x S1 with
  | none => rw [z] at p1; exact p1.elim
  | some b =>
    rw [z] at p1
    exact ⟨b, truV_of G1.rs r1 z, PostG.ok p1 G1.rs rfl⟩
def tb (f : Ev D) : Ev Bool := fun ρ S => (f ρ S).bind fun x S1 => match x with
  | .bl b => .ok b S1
  | _ => .bad
theorem tb_of {K : PySem.W.Frag} {f : Ev D} {σ : L2.St} {H : Hp} {Q : Bool → Hp → Prop} (h : rdT K XQ (tb f) σ H Q) : rdE K XQ f σ H fun x H1 => ∃ k, x = .bl k ∧ Q k H1 := by
  obtain ⟨mp, ρ, S, G, p⟩ := h
  refine bindP G p fun mp1 H1 x S1 v a1 G1 r1 p1 => ?_
  cases x with
  | bl b => exact ⟨b, r1, PostG.ok p1 G1.rs rfl⟩
  | _ => exact p1.elim
theorem jt_cmp {a b : Expr} {fa fb : Ev D} {op : CmpOp} {r : R2} {o : D → D → Sto → Out D} {pos : Pos} (ho : OpR X (compareOp op) r) (hd : OpD X.K r o) (ha : JE X XQ a fa) (hb : JE X XQ b fb) (hm : behindInMarks op b = false) : JT X XQ (.Compare a [op] [b] pos) (tb (o2 o fa fb)) :=
  PT.mono (pt_cmpR ho ha hb hm) fun σ H Q h => opR2 hd σ H _ (tb_of h)
def tn (f : Ev Bool) : Ev Bool := fun ρ S => (f ρ S).bind fun b S1 => .ok (!b) S1
def ta (f g : Ev Bool) : Ev Bool := fun ρ S => (f ρ S).bind fun b S1 => if b = true then g ρ S1 else .ok false S1
def to (f g : Ev Bool) : Ev Bool := fun ρ S => (f ρ S).bind fun b S1 => if b = true then .ok true S1 else g ρ S1
theorem jt_not {a : Expr} {f : Ev Bool} {pos : Pos} (h : JT X XQ a f) : JT X XQ (.UnaryOp .Not a pos) (tn f) :=
  PT.mono (pt_not h) fun σ H Q ⟨mp, ρ, S, G, p⟩ => bindP G p fun mp1 H1 b S1 c a1 G1 r1 p1 => by
    cases (show c = b from r1)
    exact PostG.ok p1 G1.rs rfl
theorem jw_and1 {a : Expr} {f : Ev Bool} {pos : Pos} (h : JT X XQ a f) : JW X XQ (.BoolOp .And [a] pos) f := pw_and1 h
theorem jw_or1 {a : Expr} {f : Ev Bool} {pos : Pos} (h : JT X XQ a f) : JW X XQ (.BoolOp .Or [a] pos) f := pw_or1 h
theorem jw_and {a b : Expr} {rest : List Expr} {f g : Ev Bool} {pos : Pos} (h : JT X XQ a f) (hb : JW X XQ (.BoolOp .And (b :: rest) pos) g) : JW X XQ (.BoolOp .And (a :: b :: rest) pos) (ta f g) :=
  PW.mono (pw_and h hb) fun σ H Q ⟨mp, ρ, S, G, p⟩ => bindP G p fun mp1 H1 b S1 c a1 G1 r1 p1 => by
    cases (show c = b from r1)
    cases b with
    | true => exact (if_pos rfl).mpr ⟨mp1, ρ, S1, G1, by simpa using p1⟩
    | false => exact (if_neg Bool.false_ne_true).mpr (PostG.ok (R := kB) (d := false) (S := S1) (by simpa using p1) G1.rs rfl)
theorem jw_or {a b : Expr} {rest : List Expr} {f g : Ev Bool} {pos : Pos} (h : JT X XQ a f) (hb : JW X XQ (.BoolOp .Or (b :: rest) pos) g) : JW X XQ (.BoolOp .Or (a :: b :: rest) pos) (to f g) :=
  PW.mono (pw_or h hb) fun σ H Q ⟨mp, ρ, S, G, p⟩ => bindP G p fun mp1 H1 b S1 c a1 G1 r1 p1 => by
    cases (show c = b from r1)
    cases b with
    | false => exact (if_neg Bool.false_ne_true).mpr ⟨mp1, ρ, S1, G1, by simpa using p1⟩
    | true => exact (if_pos rfl).mpr (PostG.ok (R := kB) (d := true) (S := S1) (by simpa using p1) G1.rs rfl)
theorem JW.jt {e : Expr} {f : Ev Bool} (h : JW X XQ e f) : JT X XQ e f := PW.pt h
/-- .. as values (bools) -/
def va (f g : Ev D) : Ev D := fun ρ S => (f ρ S).bind fun x S1 => match x with
  | .bl b => if b = true then g ρ S1 else .ok (.bl false) S1
  | _ => .bad
def vo (f g : Ev D) : Ev D := fun ρ S => (f ρ S).bind fun x S1 => match x with
  | .bl b => if b = true then .ok (.bl true) S1 else g ρ S1
  | _ => .bad
def vn (f : Ev D) : Ev D := fun ρ S => (f ρ S).bind fun x S1 => match x with
  | .bl b => .ok (.bl (!b)) S1
  | _ => .bad
theorem je_one {a : Expr} {op} {f : Ev D} {pos : Pos} (h : JE X XQ a f) : JE X XQ (.BoolOp op [a] pos) f := pe_one h
theorem je_and {a b : Expr} {rest : List Expr} {f g : Ev D} {pos : Pos} (ha : JE X XQ a f) (hb : JE X XQ (.BoolOp .And (b :: rest) pos) g) : JE X XQ (.BoolOp .And (a :: b :: rest) pos) (va f g) :=
  PE.mono (pe_and ha hb) fun σ H Q ⟨mp, ρ, S, G, p⟩ => bindP G p fun mp1 H1 x S1 v a1 G1 r1 p1 => by
    cases x with
    | bl b =>
      refine ⟨b, r1, ?_⟩
      cases b with
      | true => exact (if_pos rfl).mpr ⟨mp1, ρ, S1, G1, by simpa using p1⟩
      | false => exact (if_neg Bool.false_ne_true).mpr (PostG.ok (R := Rep X.K) (d := .bl false) (S := S1) (by simpa using p1) G1.rs rfl)
    | _ => exact p1.elim
theorem je_or {a b : Expr} {rest : List Expr} {f g : Ev D} {pos : Pos} (ha : JE X XQ a f) (hb : JE X XQ (.BoolOp .Or (b :: rest) pos) g) : JE X XQ (.BoolOp .Or (a :: b :: rest) pos) (vo f g) :=
  PE.mono (pe_or ha hb) fun σ H Q ⟨mp, ρ, S, G, p⟩ => bindP G p fun mp1 H1 x S1 v a1 G1 r1 p1 => by
    cases x with
    | bl b =>
      refine ⟨b, r1, ?_⟩
      cases b with
      | false => exact (if_neg Bool.false_ne_true).mpr ⟨mp1, ρ, S1, G1, by simpa using p1⟩
      | true => exact (if_pos rfl).mpr (PostG.ok (R := Rep X.K) (d := .bl true) (S := S1) (by simpa using p1) G1.rs rfl)
    | _ => exact p1.elim
theorem je_not {a : Expr} {f : Ev D} {pos : Pos} (ha : JE X XQ a f) : JE X XQ (.UnaryOp .Not a pos) (vn f) :=
  PE.mono (pe_not ha) fun σ H Q ⟨mp, ρ, S, G, p⟩ => bindP G p fun mp1 H1 x S1 v a1 G1 r1 p1 => by
    cases x with
    | bl b => exact ⟨b, r1, PostG.ok p1 G1.rs rfl⟩
    | _ => exact p1.elim
def ie (c : Ev Bool) (f g : Ev D) : Ev D := fun ρ S => (c ρ S).bind fun b S1 => if b = true then f ρ S1 else g ρ S1
theorem je_ifx {a b c : Expr} {fc : Ev Bool} {fa fb : Ev D} {pos : Pos} (hc : JT X XQ c fc) (ha : JE X XQ a fa) (hb : JE X XQ b fb) : JE X XQ (.IfExp c a b pos) (ie fc fa fb) :=
  PE.mono (pe_ifExp hc ha hb) fun σ H Q ⟨mp, ρ, S, G, p⟩ => bindP G p fun mp1 H1 b S1 c a1 G1 r1 p1 => by
    cases (show c = b from r1)
    cases b with
    | true => exact (if_pos rfl).mpr ⟨mp1, ρ, S1, G1, by simpa using p1⟩
    | false => exact (if_neg Bool.false_ne_true).mpr ⟨mp1, ρ, S1, G1, by simpa using p1⟩
end
end DL

set_option Elab.async false
set_option linter.all false
set_option maxRecDepth 100000
namespace DL
open PySem PySem.Spec PyProof.Rows L2

/-! ### statements -/
inductive OS where
  | nx (ρ : Lc) (S : Sto) | rt (d : D) (S : Sto) | bk (ρ : Lc) (S : Sto) | ct (ρ : Lc) (S : Sto) | exc (x : XD) (ρ : Lc) (S : Sto) | bad
abbrev Sv := Lc → Sto → OS
def PostS (K : PySem.W.Frag) (XQ : XW) (mp : List Addr) (H : Hp) (o : OS) (E : Ends) : Prop :=
  match o with
  | .nx ρ S => ∀ mp' H' σ', Aft K mp H mp' H' → Gd K mp' H' σ' ρ S → E.nx σ' H'
  | .rt d S => ∀ mp' H' v, Aft K mp H mp' H' → RS K mp' H' S → Rep K mp' H' d v → E.rt v H'
  | .bk ρ S => ∀ mp' H' σ', Aft K mp H mp' H' → Gd K mp' H' σ' ρ S → E.bk σ' H'
  | .ct ρ S => ∀ mp' H' σ', Aft K mp H mp' H' → Gd K mp' H' σ' ρ S → E.ct σ' H'
  | .exc x ρ S => ∀ mp' H' σ', Aft K mp H mp' H' → Gd K mp' H' σ' ρ S → XQ x mp' H' σ' ρ S
  | .bad => False
theorem PostS.aft {K : PySem.W.Frag} {XQ : XW} {mp mp' : List Addr} {H H' : Hp} {o : OS} {E : Ends} (p : PostS K XQ mp H o E) (a : Aft K mp H mp' H') : PostS K XQ mp' H' o E := by
  cases o with
  | nx ρ S => exact fun m h v b => p m h v (a.trans b)
  | rt d S => exact fun m h v b => p m h v (a.trans b)
  | bk ρ S => exact fun m h v b => p m h v (a.trans b)
  | ct ρ S => exact fun m h v b => p m h v (a.trans b)
  | exc x ρ S => exact fun m h v b => p m h v (a.trans b)
  | bad => exact p
def rdS (K : PySem.W.Frag) (XQ : XW) (f : Sv) : TS := fun E σ H => ∃ mp ρ S, Gd K mp H σ ρ S ∧ PostS K XQ mp H (f ρ S) E
def JS (X : Cx) (XQ : XW) (st : Stmt) (f : Sv) : Prop := PS X st (rdS X.K XQ f)
def JSs (X : Cx) (XQ : XW) (st : List Stmt) (f : Sv) : Prop := PSs X st (rdS X.K XQ f)

def bindS {α : Type} (o : Out α) (ρ : Lc) (k : α → Sto → OS) : OS :=
  match o with
  | .ok a S => k a S
  | .exc x S => .exc x ρ S
  | .bad => .bad
/-- an expression, then the rest of a statement -/
theorem bindSP {α β : Type} {K : PySem.W.Frag} {R : RL α β} {XQ : XW} {mp : List Addr} {H : Hp} {σ : L2.St} {ρ : Lc} {S : Sto} {f : Ev α} {g : α → Sto → OS} {E : Ends} {Q1 : β → Hp → Prop} (G : Gd K mp H σ ρ S) (p : PostS K XQ mp H (bindS (f ρ S) ρ g) E)
    (k : ∀ mp1 H1 d S1 v, Aft K mp H mp1 H1 → Gd K mp1 H1 σ ρ S1 → R mp1 H1 d v → PostS K XQ mp1 H1 (g d S1) E → Q1 v H1) : rdG K R XQ f σ H Q1 := by
  refine ⟨mp, ρ, S, G, ?_⟩
  cases e : f ρ S with
  | ok d S1 =>
    rw [e] at p
    exact fun mp1 H1 v a rs r => k mp1 H1 d S1 v a (G.aft a rs) r (PostS.aft p a)
  | exc x S1 => rw [e] at p; exact fun m h b c => p m h σ b c
  | bad => rw [e] at p; exact p

def skip : Sv := fun ρ S => .nx ρ S
def sq (f g : Sv) : Sv := fun ρ S => match f ρ S with
  | .nx ρ' S' => g ρ' S'
  | .rt d S' => .rt d S'
  | .bk ρ' S' => .bk ρ' S'
  | .ct ρ' S' => .ct ρ' S'
  | .exc x ρ' S' => .exc x ρ' S'
  | .bad => .bad
section
variable {X : Cx} {XQ : XW}
theorem PostS.nx {K : PySem.W.Frag} {mp : List Addr} {H : Hp} {σ : L2.St} {ρ : Lc} {S : Sto} {E : Ends} (p : PostS K XQ mp H (.nx ρ S) E) (G : Gd K mp H σ ρ S) : E.nx σ H := p mp H σ .refl G
theorem PostS.rt {K : PySem.W.Frag} {mp : List Addr} {H : Hp} {d : D} {v : V} {S : Sto} {E : Ends} (p : PostS K XQ mp H (.rt d S) E) (r : RS K mp H S) (h : Rep K mp H d v) : E.rt v H := p mp H v .refl r h
theorem jss_nil : JSs X XQ [] skip := PSs.mono pss_nil fun E σ H ⟨mp, ρ, S, G, p⟩ => PostS.nx p G
theorem jss_cons {st : Stmt} {rest : List Stmt} {f g : Sv} (h1 : JS X XQ st f) (h2 : JSs X XQ rest g) : JSs X XQ (st :: rest) (sq f g) := by
  refine PSs.mono (pss_cons h1 h2) fun E σ H ⟨mp, ρ, S, G, p⟩ => ⟨mp, ρ, S, G, ?_⟩
  unfold sq at p
  cases e : f ρ S with
  | nx ρ' S' => rw [e] at p; exact fun m h v a G' => ⟨m, ρ', S', G', PostS.aft p a⟩
  | rt d S' => rw [e] at p; exact p
  | bk ρ' S' => rw [e] at p; exact p
  | ct ρ' S' => rw [e] at p; exact p
  | exc x ρ' S' => rw [e] at p; exact p
  | bad => rw [e] at p; exact p
theorem jss_one {st : Stmt} {f : Sv} (h1 : JS X XQ st f) : JSs X XQ [st] f := pss_one h1
theorem js_pass {pos : Pos} : JS X XQ (.Pass pos) skip := PS.mono ps_pass fun E σ H ⟨mp, ρ, S, G, p⟩ => PostS.nx p G
def sbk : Sv := fun ρ S => .bk ρ S
def sct : Sv := fun ρ S => .ct ρ S
theorem js_break {pos : Pos} : JS X XQ (.Break pos) sbk := PS.mono ps_break fun E σ H ⟨mp, ρ, S, G, p⟩ => p mp H σ .refl G
theorem js_continue {pos : Pos} : JS X XQ (.Continue pos) sct := PS.mono ps_continue fun E σ H ⟨mp, ρ, S, G, p⟩ => p mp H σ .refl G
def sx (f : Ev D) : Sv := fun ρ S => bindS (f ρ S) ρ fun _ S1 => .nx ρ S1
theorem js_expr {e : Expr} {f : Ev D} {pos : Pos} (he : JE X XQ e f) (hs : swapsWith e none pos.line X.env = pure false := by rfl) : JS X XQ (.Expr e pos) (sx f) :=
  PS.mono (ps_expr he hs) fun E σ H ⟨mp, ρ, S, G, p⟩ => bindSP G p fun mp1 H1 d S1 v a1 G1 r1 p1 => PostS.nx p1 G1
def sret (f : Ev D) : Sv := fun ρ S => bindS (f ρ S) ρ fun d S1 => .rt d S1
theorem js_ret {e : Expr} {f : Ev D} {pos : Pos} (he : JE X XQ e f) : JS X XQ (.Return (some e) pos) (sret f) :=
  PS.mono (ps_ret he) fun E σ H ⟨mp, ρ, S, G, p⟩ => bindSP G p fun mp1 H1 d S1 v a1 G1 r1 p1 => PostS.rt p1 G1.rs r1
def sif (c : Ev Bool) (f g : Sv) : Sv := fun ρ S => bindS (c ρ S) ρ fun b S1 => if b = true then f ρ S1 else g ρ S1
theorem js_if {c : Expr} {a b : List Stmt} {fc : Ev Bool} {f g : Sv} {pos : Pos} (hc : JT X XQ c fc) (ha : JSs X XQ a f) (hb : JSs X XQ b g) : JS X XQ (.If c a b pos) (sif fc f g) :=
  PS.mono (ps_if hc ha hb) fun E σ H ⟨mp, ρ, S, G, p⟩ => bindSP G p fun mp1 H1 b S1 c a1 G1 r1 p1 => by
    cases (show c = b from r1)
    cases b with
    | true => exact (if_pos rfl).mpr ⟨mp1, ρ, S1, G1, by simpa using p1⟩
    | false => exact (if_neg Bool.false_ne_true).mpr ⟨mp1, ρ, S1, G1, by simpa using p1⟩

/-! ### targets -/
theorem Gd.set {K : PySem.W.Frag} {mp : List Addr} {H : Hp} {σ : L2.St} {ρ : Lc} {S : Sto} {d : D} {v : V} (G : Gd K mp H σ ρ S) (i : Nat) (r : Rep K mp H d v) : Gd K mp H (σ.set i (some v)) (ρ.set i (some d)) S := by
  refine ⟨G.rs, by simp [G.len], fun j e h => ?_⟩
  by_cases hj : j = i
  · subst hj
    have hl : j < ρ.length := by
      have := (List.getElem?_eq_some_iff.mp h).1
      simpa using this
    rw [List.getElem?_set_self hl] at h
    cases h
    exact ⟨v, by rw [List.getElem?_set_self (by rw [G.len]; exact hl)], r⟩
  · rw [List.getElem?_set_ne (Ne.symm hj)] at h ⊢
    exact G.loc j e h
abbrev Tg := D → Lc → Option Lc
def rdG1 (K : PySem.W.Frag) (g : Tg) : TG := fun v σ H Q => ∃ mp ρ S d ρ', Gd K mp H σ ρ S ∧ Rep K mp H d v ∧ g d ρ = some ρ' ∧ ∀ σ', Gd K mp H σ' ρ' S → Q σ' H
def JG (X : Cx) (tg : Expr) (g : Tg) : Prop := PG X tg (rdG1 X.K g)
theorem PG.mono {X : Cx} {e : Expr} {t t' : TG} (h : PG X e t) (m : ∀ v σ H Q, t' v σ H Q → t v σ H Q) : PG X e t' := fun pins s σ H v u Q I r q => h pins s σ H v u Q I r (m v σ H Q q)
def gn (i : Nat) : Tg := fun d ρ => some (ρ.set i (some d))
theorem jg_name (i : Nat) {x : Str} {pos : Pos} (hN : X.N.Nodup) (hi : X.N[i]? = some x := by rfl) (hx : Loc X.env.scope x := by first | exact Or.inl rfl | exact Or.inr rfl) (hf : X.fn x = true ∨ X.env.scope.names.lookup x = some .local := by first | exact .inl rfl | exact .inr rfl | assumption) : JG X (.Name x pos) (gn i) :=
  PG.mono (pg_name hN hi hx hf) fun v σ H Q ⟨mp, ρ, S, d, ρ', G, r, e, k⟩ => by
    cases (Option.some.inj e)
    exact k _ (G.set i r)
abbrev Tgs := List D → Lc → Option Lc
def rdGs (K : PySem.W.Frag) (g : Tgs) : TGs := fun vs σ H Q => ∃ mp ρ S ds ρ', Gd K mp H σ ρ S ∧ RepL K mp H ds vs ∧ g ds ρ = some ρ' ∧ ∀ σ', Gd K mp H σ' ρ' S → Q σ' H
def JGs (X : Cx) (ts : List Expr) (g : Tgs) : Prop := PGs X ts (rdGs X.K g)
theorem PGs.mono {X : Cx} {e : List Expr} {t t' : TGs} (h : PGs X e t) (m : ∀ v σ H Q, t' v σ H Q → t v σ H Q) : PGs X e t' := fun pins s σ H v u Q I r q => h pins s σ H v u Q I r (m v σ H Q q)
def gnil : Tgs := fun ds ρ => match ds with
  | [] => some ρ
  | _ :: _ => none
def gcons (g : Tg) (k : Tgs) : Tgs := fun ds ρ => match ds with
  | [] => none
  | d :: r => (g d ρ).bind fun ρ' => k r ρ'
theorem jgs_nil : JGs X [] gnil := PGs.mono pgs_nil fun vs σ H Q ⟨mp, ρ, S, ds, ρ', G, r, e, k⟩ => by
  cases ds with
  | nil =>
    cases (show some ρ = some ρ' from e)
    exact ⟨r, k _ G⟩
  | cons _ _ => cases (show (none : Option Lc) = some ρ' from e)
theorem jgs_cons {e : Expr} {es : List Expr} {g : Tg} {k : Tgs} (h1 : JG X e g) (h2 : JGs X es k)
    (hs : (assignEach (e :: es) X.env).map (·.2) = assign e X.env :: (assignEach es X.env).map (·.2) := by rfl) : JGs X (e :: es) (gcons g k) :=
  PGs.mono (pgs_cons h1 h2 hs) fun vs σ H Q ⟨mp, ρ, S, ds, ρ', G, r, e, q⟩ => by
    cases ds with
    | nil => cases (show (none : Option Lc) = some ρ' from e)
    | cons d ds =>
      have e : (g d ρ).bind (fun ρ' => k ds ρ') = some ρ' := e
      obtain ⟨v, vr, ev, h3, h4⟩ := (show ∃ v r, vs = v :: r ∧ Rep X.K mp H d v ∧ RepL X.K mp H ds r from r)
      cases z : g d ρ with
      | none => rw [z] at e; cases e
      | some ρ1 =>
        rw [z] at e
        exact ⟨v, vr, ev, mp, ρ, S, d, ρ1, G, h3, z, fun σ1 G1 => ⟨mp, ρ1, S, ds, ρ', G1, h4, e, q⟩⟩
def gt (k : Tgs) (n : Nat) : Tg := fun d ρ => match d with
  | .tup ds => if ds.length = n then k ds ρ else none
  | _ => none
theorem jg_tup {es : List Expr} {m : Nat} {k : Tgs} {n : Nat} {pos : Pos} (hc : X.calm = true) (h : JGs X es k)
    (hn : (assignEach es X.env).length = n := by rfl) (hst : (assignEach es X.env).findIdx? (·.1) = none := by rfl) : JG X (.Tuple es m pos) (gt k n) :=
  PG.mono (pg_tup hc h hn hst) fun v σ H Q ⟨mp, ρ, S, d, ρ', G, r, e, q⟩ => by
    cases d with
    | tup ds =>
      have e : (if ds.length = n then k ds ρ else none) = some ρ' := e
      obtain ⟨a, xs, ev, sq, rl⟩ := Rep.tup r
      by_cases hl : ds.length = n
      · rw [if_pos hl] at e
        exact ⟨a, xs, ev, sq, by rw [rl.len]; exact hl, mp, ρ, S, ds, ρ', G, rl, e, q⟩
      · rw [if_neg hl] at e; cases e
    | _ => cases (show (none : Option Lc) = some ρ' from e)
def sa (f : Ev D) (g : Tg) : Sv := fun ρ S => bindS (f ρ S) ρ fun d S1 => match g d ρ with
  | some ρ' => .nx ρ' S1
  | none => .bad
theorem asgP {K : PySem.W.Frag} {f : Ev D} {g : Tg} (E : Ends) (σ : L2.St) (H : Hp) (h : rdS K XQ (sa f g) E σ H) : tAsg (rdE K XQ f) (rdG1 K g) E σ H := by
  obtain ⟨mp, ρ, S, G, p⟩ := h
  refine bindSP G p fun mp1 H1 d S1 v a1 G1 r1 p1 => ?_
  cases z : g d ρ with
  | none => rw [z] at p1; exact p1.elim
  | some ρ' =>
    rw [z] at p1
    exact ⟨mp1, ρ, S1, d, ρ', G1, r1, z, fun σ' G' => PostS.nx p1 G'⟩
theorem js_asg {tg e : Expr} {f : Ev D} {g : Tg} {pos : Pos} (he : JE X XQ e f) (hg : JG X tg g) (hs : swapsWithSole [tg] e pos.line X.env = pure false := by rfl) (hw : swappedStores [tg] e X.env = pure none := by rfl)
    (h1 : (assignEach [tg] X.env).map (·.2) = [assign tg X.env] := by rfl) : JS X XQ (.Assign [tg] e pos) (sa f g) :=
  PS.mono (ps_asg he hg hs hw h1) asgP
theorem js_set (i : Nat) {x : Str} {e : Expr} {f : Ev D} {pos pos' : Pos} (hN : X.N.Nodup) (he : JE X XQ e f) (hi : X.N[i]? = some x := by rfl) (hx : Loc X.env.scope x := by first | exact Or.inl rfl | exact Or.inr rfl) (hs : swapsWith e (some (.Name x pos')) pos.line X.env = pure false := by rfl)
    (hf : X.fn x = true ∨ X.env.scope.names.lookup x = some .local := by first | exact .inl rfl | exact .inr rfl | assumption) : JS X XQ (.Assign [.Name x pos'] e pos) (sa f (gn i)) :=
  PS.mono (ps_set hN hi hx he hs hf) fun E σ H ⟨mp, ρ, S, G, p⟩ => bindSP G p fun mp1 H1 d S1 v a1 G1 r1 p1 => PostS.nx p1 (G1.set i r1)
/-- xs[i] = e -/
def SetD (t : TSet) (K : PySem.W.Frag) (o : D → D → D → Sto → Option Sto) : Prop :=
  ∀ (mp : List Addr) (H : Hp) (S S' : Sto) (x y z : D) (v u w : V) (Q : Hp → Prop), RS K mp H S → Rep K mp H x v → Rep K mp H y u → Rep K mp H z w → o x y z S = some S' → (∀ H', Aft K mp H mp H' → RS K mp H' S' → Q H') → t v u w H Q
def ss (f fo fi : Ev D) (o : D → D → D → Sto → Option Sto) : Sv := fun ρ S => bindS (f ρ S) ρ fun d S1 => bindS (fo ρ S1) ρ fun x S2 => bindS (fi ρ S2) ρ fun y S3 => match o x y d S3 with
  | some S4 => .nx ρ S4
  | none => .bad
theorem js_sub {ob ix e : Expr} {f fo fi : Ev D} {t : TSet} {o : D → D → D → Sto → Option Sto} {pos p2 : Pos} (hset : PSet X t) (ho : SetD t X.K o) (he : JE X XQ e f) (hob : JE X XQ ob fo) (hix : JE X XQ ix fi)
    (hs : swapsWithSole [.Subscript ob ix p2] e pos.line X.env = pure false := by rfl) (hw : swappedStores [.Subscript ob ix p2] e X.env = pure none := by rfl)
    (h1 : (assignEach [.Subscript ob ix p2] X.env).map (·.2) = [assign (.Subscript ob ix p2) X.env] := by rfl) (ha : ∀ v, assign (.Subscript ob ix p2) X.env v = (do
      let ov ← holding [v] (eval ob X.env)
      let iv ← holding [v, ov] (eval ix X.env)
      standAt p2
      holding [v, ov, iv] (setItem ov iv v)
      release [v, ov, iv] []) := by intro _; rfl) : JS X XQ (.Assign [.Subscript ob ix p2] e pos) (ss f fo fi o) := by
  refine PS.mono (ps_asg he (pg_sub hob hix hset ha) hs hw h1) fun E σ H ⟨mp, ρ, S, G, p⟩ => ?_
  refine bindSP G p fun mp1 H1 d S1 v a1 G1 r1 p1 => ?_
  refine bindSP G1 p1 fun mp2 H2 x S2 vx a2 G2 r2 p2 => ?_
  refine bindSP G2 p2 fun mp3 H3 y S3 vy a3 G3 r3 p3 => ?_
  cases z : o x y d S3 with
  | none => rw [z] at p3; exact p3.elim
  | some S4 =>
    rw [z] at p3
    exact ho mp3 H3 S3 S4 x y d vx vy v _ G3.rs (Rep.aft a3 _ _ r2) r3 (Rep.aft (a2.trans a3) _ _ r1) z fun H' af rs => p3 mp3 H' σ af (G3.aft af rs)

/-! ### loops -/
/-- what is walked: the item at a turn -/
structure Src where
  nxt : Nat → Sto → Option D
  fuel : Nat
def ItOk (K : PySem.W.Frag) (mp0 : List Addr) (H0 : Hp) (J : It) (nxt : Nat → Sto → Option D) : Prop :=
  ∀ (mp : List Addr) (H : Hp) (S : Sto), Aft K mp0 H0 mp H → RS K mp H S → ∀ k, match nxt k S with
    | some d => J.go k H ∧ ∀ x H', J.yld k H x H' → Aft K mp H mp H' ∧ RS K mp H' S ∧ Rep K mp H' d x
    | none => J.stop k H
def kI (K : PySem.W.Frag) : RL Src It := fun mp H s J => ItOk K mp H J s.nxt
abbrev rdI (K : PySem.W.Frag) (XQ : XW) (f : Ev Src) : TI := rdG K (kI K) XQ f
def JI (X : Cx) (XQ : XW) (tg iter : Expr) (f : Ev Src) : Prop := PI X tg iter (rdI X.K XQ f)
theorem PI.mono {X : Cx} {tg e : Expr} {t t' : TI} (h : PI X tg e t) (m : ∀ σ H Q, t' σ H Q → t σ H Q) : PI X tg e t' := fun pins s σ H Q I q => h pins s σ H Q I (m σ H Q q)
def forN (nxt : Nat → Sto → Option D) (g : Tg) (b : Sv) : Nat → Nat → Sv
  | 0, _, _, _ => .bad
  | n + 1, k, ρ, S => match nxt k S with
    | none => .nx ρ S
    | some d => match g d ρ with
      | none => .bad
      | some ρ1 => match b ρ1 S with
        | .nx ρ2 S2 => forN nxt g b n (k + 1) ρ2 S2
        | .ct ρ2 S2 => forN nxt g b n (k + 1) ρ2 S2
        | .bk ρ2 S2 => .nx ρ2 S2
        | .rt d S2 => .rt d S2
        | .exc x ρ2 S2 => .exc x ρ2 S2
        | .bad => .bad
def sfor (f : Ev Src) (g : Tg) (b : Sv) : Sv := fun ρ S => bindS (f ρ S) ρ fun s S1 => forN s.nxt g b s.fuel 0 ρ S1
theorem js_for {tg iter : Expr} {body : List Stmt} {f : Ev Src} {g : Tg} {b : Sv} {pos : Pos} (hp : PassesOwn (model X.prog X.w) X.A X.env X.xe) (hc : X.calm = true) (hi : JI X XQ tg iter f) (hg : JG X tg g) (hb : JSs X XQ body b)
    (hs : ∀ x, foldedSetIterable iter X.env x = pure x := by intro _; rfl) : JS X XQ (.For tg iter body [] pos) (sfor f g b) := by
  refine PS.mono (ps_for hp hc hi hg hb hs) fun E σ H ⟨mp, ρ, S, G, p⟩ => ?_
  refine bindSP G p fun mp1 H1 s S1 J a1 G1 j1 p1 => ?_
  refine ⟨fun i m σ' H' => ∃ mp' ρ' S', Aft X.K mp1 H1 mp' H' ∧ Gd X.K mp' H' σ' ρ' S' ∧ PostS X.K XQ mp' H' (forN s.nxt g b m i ρ' S') E, ⟨s.fuel, mp1, ρ, S1, .refl, G1, p1⟩, ?_⟩
  rintro i m σ' H' ⟨mp', ρ', S', a', G', p'⟩
  cases m with
  | zero => exact (show False from p').elim
  | succ n =>
    have j := j1 mp' H' S' a' G'.rs i
    unfold forN at p'
    cases z : s.nxt i S' with
    | none =>
      rw [z] at j p'
      exact .inl ⟨j, PostS.nx p' G'⟩
    | some d =>
      rw [z] at j p'
      obtain ⟨j1, j2⟩ := j
      refine .inr ⟨j1, fun σ2 H2 => ∃ mp2 ρ2 S2, Aft X.K mp1 H1 mp2 H2 ∧ Gd X.K mp2 H2 σ2 ρ2 S2 ∧ PostS X.K XQ mp2 H2 (forN s.nxt g b n (i + 1) ρ2 S2) E, fun σ2 H2 q => ⟨n, Nat.lt_succ_self n, q⟩, fun x H2 y => ?_⟩
      obtain ⟨a2, r2, x2⟩ := j2 x H2 y
      have G2 := G'.aft a2 r2
      cases zg : g d ρ' with
      | none => simp only [zg] at p'; exact p'.elim
      | some ρ1 =>
        simp only [zg] at p'
        refine ⟨mp', ρ', S', d, ρ1, G2, x2, zg, fun σ3 G3 => ⟨mp', ρ1, S', G3, ?_⟩⟩
        have p2 := PostS.aft p' a2
        cases zb : b ρ1 S' with
        | nx ρ2 S2 => simp only [zb] at p2; exact fun m h v af G4 => ⟨m, ρ2, S2, (a'.trans a2).trans af, G4, PostS.aft p2 af⟩
        | ct ρ2 S2 => simp only [zb] at p2; exact fun m h v af G4 => ⟨m, ρ2, S2, (a'.trans a2).trans af, G4, PostS.aft p2 af⟩
        | bk ρ2 S2 => simp only [zb] at p2; exact p2
        | rt d S2 => simp only [zb] at p2; exact p2
        | exc x ρ2 S2 => simp only [zb] at p2; exact p2
        | bad => simp only [zb] at p2; exact p2
/-- over a list, a tuple, a range -/
def srcOf : D → Sto → Out Src
  | .tup l, S => .ok ⟨fun k _ => l[k]?, l.length + 1⟩ S
  | .lst i, S => match S[i]? with
    | some c => .ok ⟨fun k S => (S[i]?).bind fun c => c.xs[k]?, c.xs.length + 1⟩ S
    | none => .bad
  | _, _ => .bad
end
end DL

set_option Elab.async false
set_option linter.all false
set_option maxRecDepth 100000
namespace DL
open PySem PySem.Spec PyProof.Rows L2

section
variable {X : Cx} {XQ : XW}
/-! ### what is walked -/
def iSeq (K : PySem.W.Frag) (tl : TE) : TI := fun σ H R => tl σ H fun x H1 => ∃ a, x = .ref a ∧ (((∃ xs, SqL K H1 a xs) ∧ R (Itl K a) H1) ∨ ((∃ xs, SqT K H1 a xs) ∧ R (Itt K a) H1))
theorem pi_seq {tg l : Expr} {tl : TE} (hl : PE X l tl) : PI X tg l (iSeq X.K tl) := by
  intro pins s σ H R I h
  refine thn (hl pins s σ H _ I h) fun v s1 ⟨x, H1, I1, r1, q1⟩ => ?_
  obtain ⟨a, e, q⟩ := q1
  subst e
  cases r1
  rcases q with ⟨⟨xs, hq⟩, q⟩ | ⟨⟨xs, hq⟩, q⟩
  · obtain ⟨its, rv, p, hz⟩ := I1.list hq
    refine wpAny_pyIter_list p.isList ?_
    refine ⟨s1.heap.objs.size, [s1.heap.objs.size], _, _, H1, rfl, I1.kept (t' := s1.toks) fun b o e => Heap.get?_push_of_some _ e, turn_list a _, ⟨_, Heap.get?_push_size _ rfl, rfl, rfl⟩, fun b hb => ?_, q⟩
    have e : b = s1.heap.objs.size := by simpa using hb
    subst e
    exact I1.fpOk (Nat.le_refl _) (I1.hok.fresh (Nat.le_refl _))
  · obtain ⟨its, rv, p, hz⟩ := I1.tuple hq
    refine wpAny_pyIter_tuple (show s1.heap.IsTuple a its.toArray from p) ?_
    refine ⟨s1.heap.objs.size, [s1.heap.objs.size], _, _, H1, rfl, I1.kept (t' := s1.toks) fun b o e => Heap.get?_push_of_some _ e, turn_tuple a _, ⟨_, Heap.get?_push_size _ rfl, rfl, rfl⟩, fun b hb => ?_, q⟩
    have e : b = s1.heap.objs.size := by simpa using hb
    subst e
    exact I1.fpOk (Nat.le_refl _) (I1.hok.fresh (Nat.le_refl _))
def isrc (f : Ev D) : Ev Src := fun ρ S => (f ρ S).bind srcOf
theorem itt_ok {K : PySem.W.Frag} {mp : List Addr} {H : Hp} {a : Addr} {xs : List V} {l : List D} (s : SqT K H a xs) (r : RepL K mp H l xs) : ItOk K mp H (Itt K a) (fun k _ => l[k]?) := by
  intro mp' H' S' af rs k
  show match l[k]? with
    | some d => (Itt K a).go k H' ∧ ∀ x H2, (Itt K a).yld k H' x H2 → Aft K mp' H' mp' H2 ∧ RS K mp' H2 S' ∧ Rep K mp' H2 d x
    | none => (Itt K a).stop k H'
  cases z : l[k]? with
  | none =>
    refine ⟨xs, af.tup _ _ s, ?_⟩
    rw [r.len]
    exact List.getElem?_eq_none_iff.mp z
  | some d =>
    have r' := RepL.aft af _ _ r
    obtain ⟨v, e, q⟩ := r'.get z
    refine ⟨⟨xs, v, af.tup _ _ s, e⟩, fun x H2 ⟨h1, h2⟩ => ?_⟩
    subst h1
    have e2 := h2 xs (af.tup _ _ s)
    rw [e] at e2
    cases e2
    exact ⟨.refl, rs, q⟩
theorem itl_ok {K : PySem.W.Frag} {mp : List Addr} {H : Hp} {a : Addr} {i : Nat} (hi : mp[i]? = some a) : ItOk K mp H (Itl K a) (fun k S => (S[i]?).bind fun c => c.xs[k]?) := by
  intro mp' H' S' af rs k
  have hi' := af.pre i a hi
  have hl : i < S'.length := by rw [← rs.len]; exact (List.getElem?_eq_some_iff.mp hi').1
  have hc : S'[i]? = some S'[i] := List.getElem?_eq_getElem hl
  obtain ⟨a2, xs, e1, e2, sq, r, _⟩ := rs.items (v := .ref a) ⟨a, rfl, hi'⟩ hc
  cases e1
  simp only [hc, Option.bind_some]
  cases z : (S'[i]).xs[k]? with
  | none =>
    refine ⟨xs, sq, ?_⟩
    rw [r.len]
    exact List.getElem?_eq_none_iff.mp z
  | some d =>
    obtain ⟨v, e, q⟩ := r.get z
    refine ⟨⟨xs, v, sq, e⟩, fun x H2 ⟨h1, h2⟩ => ?_⟩
    subst h1
    have e2 := h2 xs sq
    rw [e] at e2
    cases e2
    exact ⟨.refl, rs, q⟩
theorem ji_seq {tg l : Expr} {f : Ev D} (hl : JE X XQ l f) : JI X XQ tg l (isrc f) := by
  refine PI.mono (pi_seq hl) fun σ H R ⟨mp, ρ, S, G, p⟩ => ?_
  refine bindP G p fun mp1 H1 d S1 v a1 G1 r1 p1 => ?_
  cases d with
  | tup ds =>
    obtain ⟨a, xs, rfl, s, q⟩ := Rep.tup r1
    exact ⟨a, rfl, .inr ⟨⟨xs, s⟩, PostG.ok (R := kI X.K) (d := ⟨fun k _ => ds[k]?, ds.length + 1⟩) (S := S1) p1 G1.rs (itt_ok s q)⟩⟩
  | lst i =>
    have p1 : PostG X.K (kI X.K) XQ σ ρ mp1 H1 (match S1[i]? with | some c => .ok ⟨fun k S => (S[i]?).bind fun c => c.xs[k]?, c.xs.length + 1⟩ S1 | none => .bad) R := p1
    cases z : S1[i]? with
    | none => rw [z] at p1; exact p1.elim
    | some c =>
      rw [z] at p1
      obtain ⟨a, xs, rfl, ha, s, q, _⟩ := G1.rs.items r1 z
      exact ⟨a, rfl, .inl ⟨⟨xs, s⟩, PostG.ok (R := kI X.K) (d := ⟨fun k S => (S[i]?).bind fun c => c.xs[k]?, c.xs.length + 1⟩) (S := S1) p1 G1.rs (itl_ok ha)⟩⟩
  | _ => exact (show False from p1).elim
def irange (lo hi : Int) : Out Src → Out Src := fun o => o
def rsrc (lo : Int) (n : Nat) : Src := ⟨fun k _ => if k < n then some (.int (lo + k)) else none, n + 1⟩
theorem itr_ok {K : PySem.W.Frag} {mp : List Addr} {H : Hp} {lo : Int} {n : Nat} : ItOk K mp H (Itr lo n) (rsrc lo n).nxt := by
  intro mp' H' S' af rs k
  show match (if k < n then some (D.int (lo + k)) else none) with
    | some d => (Itr lo n).go k H' ∧ ∀ x H2, (Itr lo n).yld k H' x H2 → Aft K mp' H' mp' H2 ∧ RS K mp' H2 S' ∧ Rep K mp' H2 d x
    | none => (Itr lo n).stop k H'
  by_cases h : k < n
  · rw [if_pos h]
    refine ⟨h, fun x H2 ⟨h1, h2⟩ => ?_⟩
    subst h1 h2
    exact ⟨.refl, rs, rfl⟩
  · rw [if_neg h]
    exact Nat.not_lt.mp h
def ir1 (f : Ev (List D)) : Ev Src := fun ρ S => (f ρ S).bind fun ds S1 => match ds with
  | [.int j] => if -1000000000000 ≤ j ∧ j ≤ 1000000000000 then .ok (rsrc 0 j.toNat) S1 else .bad
  | _ => .bad
def ir2 (f : Ev (List D)) : Ev Src := fun ρ S => (f ρ S).bind fun ds S1 => match ds with
  | [.int i, .int j] => if (-1000000000000 ≤ i ∧ i ≤ 1000000000000) ∧ -1000000000000 ≤ j ∧ j ≤ 1000000000000 then .ok (rsrc i (j - i).toNat) S1 else .bad
  | _ => .bad
theorem RepL.one {K : PySem.W.Frag} {mp : List Addr} {H : Hp} {d : D} {vs : List V} (h : RepL K mp H [d] vs) : ∃ v, vs = [v] ∧ Rep K mp H d v := by
  obtain ⟨v, r, rfl, h1, h2⟩ := h
  cases (show r = [] from h2)
  exact ⟨v, rfl, h1⟩
theorem RepL.two {K : PySem.W.Frag} {mp : List Addr} {H : Hp} {d e : D} {vs : List V} (h : RepL K mp H [d, e] vs) : ∃ v w, vs = [v, w] ∧ Rep K mp H d v ∧ Rep K mp H e w := by
  obtain ⟨v, r, rfl, h1, h2⟩ := h
  obtain ⟨w, rfl, h3⟩ := RepL.one h2
  exact ⟨v, w, rfl, h1, h3⟩
theorem ji_range1 {tg a : Expr} {f : Ev (List D)} {p pos : Pos} (hg : Gl X "range") (hm : X.mg "range" = none) (ha : JA X XQ [a] f) (hs : starEach [a] X.env = [(false, eval a X.env)] := by rfl) : JI X XQ tg (.Call (.Name "range" p) [a] [] pos) (ir1 f) := by
  refine PI.mono (pi_range1 hg hm ha hs) fun σ H R ⟨mp, ρ, S, G, p⟩ => ?_
  refine bindP G p fun mp1 H1 ds S1 vs a1 G1 r1 p1 => ?_
  split at p1
  · rename_i j
    by_cases hb : -1000000000000 ≤ j ∧ j ≤ 1000000000000
    · rw [if_pos hb] at p1
      obtain ⟨v, rfl, h1⟩ := RepL.one r1
      cases (show v = .int j from h1)
      refine ⟨j, rfl, by omega, by omega, PostG.ok (R := kI X.K) (d := rsrc 0 j.toNat) (S := S1) p1 G1.rs itr_ok⟩
    · rw [if_neg hb] at p1; exact p1.elim
  · exact p1.elim
theorem ji_range2 {tg a b : Expr} {f : Ev (List D)} {p pos : Pos} (hg : Gl X "range") (hm : X.mg "range" = none) (ha : JA X XQ [a, b] f) (hs : starEach [a, b] X.env = [(false, eval a X.env), (false, eval b X.env)] := by rfl) (hs2 : starEach [b] X.env = [(false, eval b X.env)] := by rfl) : JI X XQ tg (.Call (.Name "range" p) [a, b] [] pos) (ir2 f) := by
  refine PI.mono (pi_range2 hg hm ha hs hs2) fun σ H R ⟨mp, ρ, S, G, p⟩ => ?_
  refine bindP G p fun mp1 H1 ds S1 vs a1 G1 r1 p1 => ?_
  split at p1
  · rename_i i j
    by_cases hb : (-1000000000000 ≤ i ∧ i ≤ 1000000000000) ∧ -1000000000000 ≤ j ∧ j ≤ 1000000000000
    · rw [if_pos hb] at p1
      obtain ⟨v, w, rfl, h1, h2⟩ := RepL.two r1
      cases (show v = .int i from h1)
      cases (show w = .int j from h2)
      refine ⟨i, j, rfl, ⟨by omega, by omega, by omega, by omega⟩, PostG.ok (R := kI X.K) (d := rsrc i (j - i).toNat) (S := S1) p1 G1.rs itr_ok⟩
    · rw [if_neg hb] at p1; exact p1.elim
  · exact p1.elim

/-! ### while -/
def whN (c : Ev Bool) (b : Sv) : Nat → Sv
  | 0, _, _ => .bad
  | n + 1, ρ, S => bindS (c ρ S) ρ fun t S1 => if t = true then (match b ρ S1 with
        | .nx ρ2 S2 => whN c b n ρ2 S2
        | .ct ρ2 S2 => whN c b n ρ2 S2
        | .bk ρ2 S2 => .nx ρ2 S2
        | .rt d S2 => .rt d S2
        | .exc x ρ2 S2 => .exc x ρ2 S2
        | .bad => .bad) else .nx ρ S1
theorem js_while (fuel : Nat) {c : Expr} {body : List Stmt} {fc : Ev Bool} {b : Sv} {pos : Pos} (hp : PassesOwn (model X.prog X.w) X.A X.env X.xe) (hc : JT X XQ c fc) (hb : JSs X XQ body b) : JS X XQ (.While c body [] pos) (whN fc b fuel) := by
  refine PS.mono (ps_while hp hc hb) fun E σ H ⟨mp, ρ, S, G, p⟩ => ?_
  refine ⟨fun m σ' H' => ∃ mp' ρ' S', Gd X.K mp' H' σ' ρ' S' ∧ PostS X.K XQ mp' H' (whN fc b m ρ' S') E, ⟨fuel, mp, ρ, S, G, p⟩, ?_⟩
  rintro m σ' H' ⟨mp', ρ', S', G', p'⟩
  cases m with
  | zero => exact (show False from p').elim
  | succ n =>
    refine bindSP G' p' fun mp1 H1 t S1 t' a1 G1 r1 p1 => ?_
    cases (show t' = t from r1)
    cases t with
    | false => exact (if_neg Bool.false_ne_true).mpr (PostS.nx (by simpa using p1) G1)
    | true =>
      refine (if_pos rfl).mpr ⟨fun σ2 H2 => ∃ mp2 ρ2 S2, Gd X.K mp2 H2 σ2 ρ2 S2 ∧ PostS X.K XQ mp2 H2 (whN fc b n ρ2 S2) E, fun σ2 H2 q => ⟨n, Nat.lt_succ_self n, q⟩, ⟨mp1, ρ', S1, G1, ?_⟩⟩
      simp only [if_true] at p1
      cases zb : b ρ' S1 with
      | nx ρ2 S2 => simp only [zb] at p1; exact fun m h v af G4 => ⟨m, ρ2, S2, G4, PostS.aft p1 af⟩
      | ct ρ2 S2 => simp only [zb] at p1; exact fun m h v af G4 => ⟨m, ρ2, S2, G4, PostS.aft p1 af⟩
      | bk ρ2 S2 => simp only [zb] at p1; exact p1
      | rt d S2 => simp only [zb] at p1; exact p1
      | exc x ρ2 S2 => simp only [zb] at p1; exact p1
      | bad => simp only [zb] at p1; exact p1
end

/-! ### defs and calls (no exception leaves a def) -/
abbrev Fn := List D → Sto → Out D
def PostF (K : PySem.W.Frag) (mp : List Addr) (H : Hp) (o : Out D) (Q : VK) : Prop :=
  match o with
  | .ok d S => ∀ mp' H' v, Aft K mp H mp' H' → RS K mp' H' S → Rep K mp' H' d v → Q v H'
  | _ => False
def spD (K : PySem.W.Frag) (n : Nat) (fn : Fn) : Sp := fun vs H Q _ => ∃ mp ds S, RS K mp H S ∧ RepL K mp H ds vs ∧ ds.length = n ∧ PostF K mp H (fn ds S) Q
def fnB (m : Nat) (b : Sv) : Fn := fun ds S => match b (ds.map some ++ List.replicate (m - ds.length) none) S with
  | .rt d S' => .ok d S'
  | .nx _ S' => .ok .non S'
  | .exc x _ S' => .exc x S'
  | _ => .bad
theorem start_ok {K : PySem.W.Frag} {mp : List Addr} {H : Hp} {S : Sto} {N : List Str} {ds : List D} {vs : List V} (r : RS K mp H S) (h : RepL K mp H ds vs) : Gd K mp H (start N vs) (ds.map some ++ List.replicate (N.length - ds.length) none) S := by
  have hl := h.len
  refine ⟨r, by simp [L2.start, hl], fun i d e => ?_⟩
  by_cases hi : i < ds.length
  · rw [List.getElem?_append_left (by simpa using hi), List.getElem?_map] at e
    cases z : ds[i]? with
    | none => rw [z] at e; cases e
    | some d' =>
      rw [z] at e
      cases e
      obtain ⟨v, e1, q⟩ := h.get z
      refine ⟨v, ?_, q⟩
      unfold L2.start
      rw [List.getElem?_append_left (by simp [hl]; exact hi), List.getElem?_map, e1]
      rfl
  · rw [List.getElem?_append_right (by simpa using hi), List.getElem?_replicate] at e
    split at e
    · cases e
    · cases e
section
variable {P : Program} {w : World} {K : PySem.W.Frag} {mg : Str → Option Value} {base : Heap}
theorem fn_ok {x qual : Str} {st : Stmt} {f : Addr} {fd : FuncData} {N ps : List Str} {k : Nat} {b : Sv} (F : Fun K x qual st f fd) (Sc : FnScope N ps (defScope st))
    (hb : ∀ (cdv : Value) (A : Around) (outer : List PySem.Env) (s : Shared) (H : Hp) (E : XK), Room k (A.deeper (envOfC qual (defScope st) s.heap.objs.size f cdv)) →
      JSs (cxOf CX0 P w K mg base N qual (defScope st) f cdv A outer s H E).nox (fun _ _ _ _ _ _ => False) (defBody st) b) : FnOk P w K mg base CX0 (k + 1) f fd ps (spD K ps.length (fnB N.length b)) := by
  refine F.ok Sc (fun vs H Q E ⟨mp, ds, S, rs, r, hl, _⟩ => by rw [r.len]; exact hl) fun cdv A outer s H vs Q E hr ⟨mp, ds, S, rs, r, hl, p⟩ => ?_
  refine ⟨_, hb cdv A outer s H E hr, mp, _, S, start_ok rs r, ?_⟩
  unfold fnB at p
  show PostS K _ mp H (b (ds.map some ++ List.replicate (N.length - ds.length) none) S) _
  cases z : b (ds.map some ++ List.replicate (N.length - ds.length) none) S with
  | rt d S' => rw [z] at p; exact p
  | nx ρ' S' => rw [z] at p; exact fun m h v af G => p m h .non af G.rs rfl
  | bk ρ' S' => rw [z] at p; exact p.elim
  | ct ρ' S' => rw [z] at p; exact p.elim
  | exc x ρ' S' => rw [z] at p; exact p.elim
  | bad => rw [z] at p; exact p.elim
end
section
variable {X : Cx} {XQ : XW} {k : Nat} {f : Addr} {fd : FuncData} {ps : List Str} {fn : Fn} {x : Str} {p pos : Pos} {e : Expr} {es : List Expr} {t : Ev (List D)}
def cl (n : Nat) (fn : Fn) (t : Ev (List D)) : Ev D := fun ρ S => (t ρ S).bind fun ds S1 => if ds.length = n then fn ds S1 else .bad
def noExc (fn : Fn) : Fn := fun ds S => match fn ds S with
  | .ok d S' => .ok d S'
  | _ => .bad
theorem je_call {j : Nat} (F : FnOk X.prog X.w X.K X.mg X.base CX0 j f fd ps (spD X.K ps.length fn)) (hr : Room k X.A) (hj : j ≤ k) (hg : Gl X x) (hm : X.mg x = some (.ref f)) (hk : PySem.W.keepIn X.K (.ref f) = true) (hb : Binds X.K fd ps [])
    (ha : JA X XQ (e :: es) t) (hdb : (x == ("__debug__" : Str)) = false := by decide) (he : starEach (e :: es) X.env = (false, eval e X.env) :: starEach es X.env := by rfl) (hpl : (backTo pos (starEach es X.env)).any (·.1) = false := by rfl) :
    JE X XQ (.Call (.Name x p) (e :: es) [] pos) (cl ps.length (noExc fn) t) := by
  refine PE.mono (pe_call (F.mono hj) hr hg hm hk hb .nil (pass0) ha hdb he hpl) fun σ H Q ⟨mp, ρ, S, G, p⟩ => ?_
  refine bindP G p fun mp1 H1 ds S1 vs a1 G1 r1 p1 => ?_
  by_cases hl : ds.length = ps.length
  · rw [if_pos hl] at p1
    refine ⟨mp1, ds, S1, G1.rs, by rw [List.append_nil]; exact r1, hl, ?_⟩
    unfold noExc at p1
    cases z : fn ds S1 with
    | ok d S' => rw [z] at p1; exact p1
    | exc x S' => rw [z] at p1; exact p1.elim
    | bad => rw [z] at p1; exact p1.elim
  · rw [if_neg hl] at p1; exact p1.elim
end
end DL

set_option Elab.async false
set_option linter.all false
set_option maxRecDepth 100000
namespace DL
open PySem PySem.Spec PyProof.Rows L2

section
variable {prog : Program} {w : World} {A : Around} {E : Value → Shared → Prop} {R : Result → Shared → Prop} {s : Shared}
/-- a comprehension's loop, whatever its target is -/
theorem compLoop_any {elt target iter : Expr} {ifs : List Expr} {scope : Scope} {pos : Pos} {it acc : Value} {env : PySem.Env} (I : Nat → Shared → Prop)
    (turn : ∀ n s, I n s → wpAny (model prog w) A (pyNext it) (fun r s₁ => match r with
      | none => R (.ok .next) s₁
      | some v => wpAny (model prog w) A (letOwnedTupleGo target it v) (fun _ s₁ => wpAny (model prog w) A (assign target env v) (fun _ s₂ =>
          wpAny (model prog w) A (forIn ifs true fun c r => if r = true then do let ok ← isTrue c env (eval c env); pure (ForInStep.yield ok) else pure (ForInStep.yield r)) (fun ok s₃ =>
            if ok = true then wpAny (model prog w) A (eval elt env) (fun x s₄ =>
              wpAny (model prog w) A (call (.builtin "list.append") [acc, x]) (fun _ s₅ => ∃ m, m < n ∧ I m s₅) (fun _ _ => False) s₄) (fun _ _ => False) s₃
            else ∃ m, m < n ∧ I m s₃) (fun _ _ => False) s₂) (fun _ _ => False) s₁) (fun _ _ => False) s₁) (fun _ _ => False) s)
    (n : Nat) (h : I n s) :
    codeAny (model prog w) A (.compLoop (.ListComp elt [⟨target, iter, ifs, 0⟩] scope pos) 0 it acc env) R s := by
  have noE : ∀ {α : Type} {m : Sem α} {Q : α → Shared → Prop} {E' : Value → Shared → Prop} {s : Shared}, wpAny (model prog w) A m Q (fun _ _ => False) s → wpAny (model prog w) A m Q E' s := fun h => wpAny_mono h (fun _ _ q => q) fun _ _ z => z.elim
  refine codeAny_loop rfl I (fun n s hI => ?_) n h
  show wpAny _ A ((compTurn (.ListComp elt [⟨target, iter, ifs, 0⟩] scope pos) 0 it acc env).onRaise (fun x => do noteFrame x env; theTreesLotGoes x)) _ _ s
  refine wpAny_noted ?_
  rw [compTurn_list]
  refine wpAny_bind (wpAny_standAt (wpAny_bind (noE (wpAny_mono (turn n s hI) (fun r s₁ h₁ => ?_) fun _ _ z => z))))
  cases r with
  | none => exact wpAny_pure h₁
  | some v =>
    refine wpAny_bind (noE (wpAny_mono h₁ (fun _ s₁ h₁ => ?_) fun _ _ z => z))
    refine wpAny_bind (noE (wpAny_mono h₁ (fun _ s₂ h₂ => wpAny_bind (noE (wpAny_mono h₂ (fun ok s₃ h₃ => ?_) fun _ _ z => z))) fun _ _ z => z))
    cases ok with
    | false => exact wpAny_pure ⟨rfl, h₃⟩
    | true =>
      exact wpAny_bind (wpAny_bind (noE (wpAny_mono h₃ (fun x s₄ h₄ => wpAny_bind (noE (wpAny_mono h₄ (fun _ s₅ h₅ => wpAny_pure (wpAny_pure ⟨rfl, h₅⟩)) fun _ _ z => z))) fun _ _ z => z)))
end

/-- the block of a comprehension -/
def blk (X : Cx) (s2 : Shared) (H2 : Hp) (C : Addr) (scope : Scope) (cl : List (Str × Addr)) (N' : List Str) (fp : List Addr) : Cx :=
  { X with N := N', s₀ := s2, H₀ := H2, env := compEnvC scope cl C X.env, outer := X.stack, ex := fp, fn := fun _ => false, pn := [], xe := fun _ _ => False }
/-- what its table must be; pk: the slots of the names that it takes from around it -/
structure CompSc (X : Cx) (scope : Scope) (cl : List (Str × Addr)) (N' : List Str) (pk : List (Option Nat)) : Prop where
  kind : scope.kind = .function
  cell : ∀ y ∈ scope.names, y.2 ≠ .cell
  names : ∀ y ∈ scope.names, y.2 = .local → scope.names.lookup y.1 = some .local
  clos : closureFor scope X.env = pure cl
  sub : ∀ x c, cl.lookup x = some c → X.env.cells.lookup x = some c
  has : ∀ x, ((relabel scope X.env).names.lookup x = some .cell ∨ (relabel scope X.env).names.lookup x = some .free) → ∃ c, cl.lookup x = some c
  len : pk.length = N'.length
  take : ∀ (i j : Nat) (x : Str), pk[i]? = some (some j) → N'[i]? = some x → X.N[j]? = some x ∧ (X.env.kindOf x = some .cell ∨ X.env.kindOf x = some .free) ∧ ((relabel scope X.env).names.lookup x = some .cell ∨ (relabel scope X.env).names.lookup x = some .free)
def pkS {α : Type} (pk : List (Option Nat)) (σ : List (Option α)) : List (Option α) := pk.map fun o => o.bind fun j => (σ[j]?).bind id

/-- a comprehension's tests -/
def PTs (Y : Cx) (ifs : List Expr) (t : TT) : Prop :=
  ∀ (pins : List (Addr × Obj)) (s : Shared) (σ : L2.St) (H : Hp) (Q : Bool → Hp → Prop), Inv Y pins σ H s → t σ H Q →
    wpAny (model Y.prog Y.w) Y.A (forIn ifs true fun c r => if r = true then do let ok ← isTrue c Y.env (eval c Y.env); pure (ForInStep.yield ok) else pure (ForInStep.yield r)) (TP Y pins σ Q) Y.xe s
theorem pts_nil {Y : Cx} : PTs Y [] (fun _ H Q => Q true H) := fun _ _ _ H _ I h => wpAny_tests_nil ⟨H, I, h⟩
theorem pts_one {Y : Cx} {c : Expr} {t : TT} (h : PT Y c t) : PTs Y [c] t := fun pins s σ H Q I q => wpAny_tests_one (h pins s σ H Q I q)

def tComp (wi : TI) (pk : List (Option Nat)) (g : TG) (tt : TT) (te : TE) : TE := fun σ H Q => wi σ H fun J H1 => ∀ a, H1 a = none → ∃ W : Nat → Nat → L2.St → Hp → Prop, (∃ m, W 0 m (pkS pk σ) (upd H1 a (.lst []))) ∧ ∀ i m σ' H', W i m σ' H' →
  (J.stop i H' ∧ Q (.ref a) H') ∨ (J.go i H' ∧ ∀ x H2, J.yld i H' x H2 → g x σ' H2 fun σ3 H3 => tt σ3 H3 fun b H4 => if b = true then te σ3 H4 fun v H5 => ∃ xs, H5 a = some (.lst xs) ∧ xs.length < sizeLine ∧ ∃ m', m' < m ∧ W (i + 1) m' σ3 (upd H5 a (.lst (xs ++ [v])))
    else ∃ m', m' < m ∧ W (i + 1) m' σ3 H4)

theorem hok_same {P : Program} {w : World} {H : Hp} {h h' : Heap} {C : Addr} (k : HOk P w H h) (hn : H C = none) (hs : Heap.SameBut C h h') : HOk P w H h' := fun b ob e => by
  refine (k b ob e).stay (fun c w' hc q => (hs.2 c ?_).trans q) (fun _ q => q) fun _ _ q => q
  rintro rfl
  rcases hc with rfl | hc
  · rw [hn] at e; cases e
  · rw [hn] at hc; cases hc

section
variable {X : Cx}
/-- the block's end, and the list told -/
theorem comp_block {elt tg iter : Expr} {ifs : List Expr} {scope : Scope} {pos : Pos} {cl : List (Str × Addr)} {N' : List Str} {pk : List (Option Nat)} {g : TG} {tt : TT} {te : TE} (cs : CompSc X scope cl N' pk) (hcm : X.calm = true)
    (hg : ∀ s2 H2 C fp, PG (blk X s2 H2 C scope cl N' fp) tg g) (ht : ∀ s2 H2 C fp, PTs (blk X s2 H2 C scope cl N' fp) ifs tt) (he : ∀ s2 H2 C fp, PE (blk X s2 H2 C scope cl N' fp) elt te)
    {pins : List (Addr × Obj)} {σ : L2.St} {H2 : Hp} {s2 : Shared} {it : Addr} {fp : List Addr} {tn : Nat → Heap → Prop} {J : It} (I2 : Inv X pins σ H2 s2) (T : Turn X.prog X.w X.K tg J fp it tn) (st2 : tn 0 s2.heap) (f2 : ∀ b ∈ fp, FpOk X pins H2 b)
    {Q : VK} (hQ : ∀ a, H2 a = none → ∃ W : Nat → Nat → L2.St → Hp → Prop, (∃ m, W 0 m (pkS pk σ) (upd H2 a (.lst []))) ∧ ∀ i m σ' H', W i m σ' H' →
      (J.stop i H' ∧ Q (.ref a) H') ∨ (J.go i H' ∧ ∀ x H3, J.yld i H' x H3 → g x σ' H3 fun σ3 H3 => tt σ3 H3 fun b H4 => if b = true then te σ3 H4 fun v H5 => ∃ xs, H5 a = some (.lst xs) ∧ xs.length < sizeLine ∧ ∃ m', m' < m ∧ W (i + 1) m' σ3 (upd H5 a (.lst (xs ++ [v])))
        else ∃ m', m' < m ∧ W (i + 1) m' σ3 H4)) {E : Value → Shared → Prop} {RR : Value → Addr → Result → Shared → Prop}
    (hRR : ∀ D C s' (H' : Hp), Q (.ref D) H' → (∃ m, s'.heap.Ns C m) → Inv X pins σ H' s' → H' C = none → s2.heap.objs.size ≤ C → RR (.ref D) C (.ok .next) s') :
    wpAny (model X.prog X.w) X.A (newList []) (fun acc s₃ => wpAny (model X.prog X.w) X.A (newFunctionEnv scope X.env.globals cl [] X.env.qual none .none (some X.env)) (fun cenv s₄ =>
      codeAny (model X.prog X.w) X.A (.compStart (.ListComp elt [⟨tg, iter, ifs, 0⟩] scope pos) 0 (.ref it) acc { cenv with scope := relabel scope X.env }) (RR acc cenv.locals) s₄) E s₃) E s2 := by
  have hD : H2 s2.heap.objs.size = none := I2.hok.fresh (Nat.le_refl _)
  obtain ⟨W, ⟨m0, w0⟩, turn⟩ := hQ s2.heap.objs.size hD
  refine wpAny_newObj_type (wpAny_newFunctionEnv cs.cell (by intro y hy; simp at hy) (fun h₁ hns₁ hsb₁ => ?_) cs.kind)
  dsimp only at hns₁ hsb₁ ⊢
  generalize hHh : s2.heap.push { cls := .type "list", dict := none, data := .seq ([] : List Value).toArray } = Hh at hns₁ hsb₁ ⊢
  have hC : Hh.objs.size = s2.heap.objs.size + 1 := by rw [← hHh, Heap.size_push]
  have hDC : s2.heap.objs.size ≠ Hh.objs.size := by rw [hC]; exact Nat.ne_of_lt (Nat.lt_succ_self _)
  have hCle : s2.heap.objs.size ≤ Hh.objs.size := by rw [hC]; exact Nat.le_succ _
  have below : ∀ b, b < s2.heap.objs.size → b ≠ Hh.objs.size ∧ b ≠ s2.heap.objs.size := fun b hb => ⟨by rw [hC]; exact Nat.ne_of_lt (Nat.lt_succ_of_lt hb), Nat.ne_of_lt hb⟩
  have old : ∀ b o, s2.heap.get? b = some o → h₁.get? b = some o := fun b o e => hsb₁.extBut b o (below b (Heap.lt_size e)).1 (Heap.get?_push_of_some _ (hHh ▸ Heap.get?_push_of_some _ e))
  have hacc : h₁.get? s2.heap.objs.size = some { cls := .type "list", dict := none, data := .seq ([] : List Value).toArray } := hsb₁.extBut _ _ hDC (Heap.get?_push_of_some _ (hHh ▸ Heap.get?_push_size _ rfl))
  let Y := blk X s2 H2 Hh.objs.size scope cl N' fp
  have fpLt : ∀ b ∈ fp, b < s2.heap.objs.size := fun b hb => by
    obtain ⟨o, e, _⟩ := T.obj _ _ st2 b hb
    exact Heap.lt_size e
  have okY : Y.Ok := by
    refine ⟨I2.ok.mod, (by show (relabel scope X.env).kind = .function; exact cs.kind), I2.ok.glob, I2.ok.blt, hCle, fun x y c h1 h2 => I2.ok.inj x y c (cs.sub x c h1) (cs.sub y c h2), cs.has, (fun _ _ z => nomatch z), I2.ok.hd, I2.ok.frames, .inl rfl, fun b hb => ⟨Nat.ne_of_lt (by rw [show Y.env.locals = Hh.objs.size from rfl, hC]; exact Nat.lt_succ_of_lt (fpLt b hb)), fun x c h => (f2 b hb).2.2.2.2.1 x c (cs.sub x c h)⟩, I2.bs, Nat.le_trans I2.ok.bsz I2.sz, fun b o e hb => ?_, fun b hb hs => ?_, I2.stack, I2.stkFree⟩
    · rcases (f2 b hb).2.2.2.1 with z | z
      · exact I2.ok.noex b o e z
      · exact absurd (Nat.lt_of_lt_of_le (Heap.lt_size e) (Nat.le_trans I2.ok.bsz z)) (Nat.lt_irrefl _)
    · rcases List.mem_cons.mp (I2.stkSub b hs) with z | z
      · exact (f2 b hb).2.1 z
      · exact (f2 b hb).2.2.1 z
  have hokY : HOk X.prog X.w (upd H2 s2.heap.objs.size (.lst [])) h₁ := I2.hok.laid old (Nat.le_refl _) ⟨by decide, [], 0, .nil, hacc⟩
  have IY : ∀ tk, Inv Y [] (pkS pk σ) (upd H2 s2.heap.objs.size (.lst [])) { s2 with heap := h₁, toks := tk } := fun tk => by
    refine ⟨okY, rfl, I2.bare, ?_, ⟨_, hns₁, fun i x v h1 h2 h3 => ?_⟩, fun x c h => ?_, ?_, fun x c h => ?_, fun p hp => absurd (show p ∈ ([] : List (Addr × Obj)) from hp) (by simp), hokY, by show (pkS pk σ).length = N'.length; rw [← cs.len]; simp [pkS]⟩
    · exact Un.laid old (Nat.le_refl _) hD
    · unfold pkS at h2
      rw [List.getElem?_map] at h2
      cases e : pk[i]? with
      | none => rw [e] at h2; cases h2
      | some o =>
        rw [e] at h2
        cases o with
        | none => cases h2
        | some j =>
          have h2 : (σ[j]?).bind id = some v := Option.some.inj h2
          have h2 : σ[j]? = some (some v) := by
            cases z : σ[j]? with
            | none => rw [z] at h2; cases h2
            | some q =>
              rw [z] at h2
              have h2 : q = some v := h2
              rw [h2]
          obtain ⟨n1, n2, n3⟩ := cs.take i j x e h1
          obtain ⟨m, _, hl⟩ := I2.loc
          have vis : Vis X.env.scope x := by
            rcases n2 with n2 | n2
            · exact .inr (.inl n2)
            · exact .inr (.inr n2)
          obtain ⟨u, r, l⟩ := hl j x v n1 h2 vis
          refine ⟨u, r, .inr ⟨n3, ?_⟩⟩
          rcases l with ⟨k, _⟩ | ⟨_, c, hc, ⟨o, ho, hd⟩⟩
          · rcases n2 with n2 | n2 <;> rw [k] at n2 <;> cases n2
          · obtain ⟨c', hc'⟩ := cs.has x n3
            have e2 := cs.sub x c' hc'
            rw [hc] at e2
            cases e2
            exact ⟨c, hc', o, old c o ho, hd⟩
    · obtain ⟨v, o, ho, hd⟩ := I2.cell x c (cs.sub x c h)
      exact ⟨v, o, old c o ho, hd⟩
    · show upd H2 s2.heap.objs.size (.lst []) Hh.objs.size = none
      rw [upd_ne (Ne.symm hDC)]
      exact I2.hok.fresh hCle
    · have q := I2.freeC x c (cs.sub x c h)
      obtain ⟨v, o, ho, hd⟩ := I2.cell x c (cs.sub x c h)
      show upd H2 s2.heap.objs.size (.lst []) c = none
      rw [upd_ne (below c (Heap.lt_size ho)).2]
      exact q
  have stat : ∀ {H' : Hp}, (∀ b ∈ fp, H' b = none) → ∀ b ∈ fp, FpOk Y [] H' b := fun hn b hb =>
    ⟨hn b hb, (okY.exf b hb).1, okY.exfs b hb, .inl hb, (okY.exf b hb).2, fun p hp => absurd (show p ∈ ([] : List (Addr × Obj)) from hp) (by simp)⟩
  have fin : ∀ (H' : Hp) (σ' : L2.St) (s' : Shared), Inv Y [] σ' H' s' → ∀ h', Heap.SameBut Hh.objs.size s'.heap h' → Inv X pins σ H' { s' with heap := h' } := fun H' σ' s' I' h' hs => by
    have sub : ∀ b o, s2.heap.get? b = some o → b ≠ Hh.objs.size := fun b o e => (below b (Heap.lt_size e)).1
    have un : Un (frs X.stack) fp H2 H' s2.heap s'.heap := I'.base
    refine I2.call' (ch := fp) I'.os ⟨fun b o e n hb hx => (hs.2 b (sub b o e)).trans (un.keep b o e n hb hx), fun b o e n hb hx => ?_, un.free, fun b o e hx => ?_, un.tups, un.frzs, un.tbls⟩ (hok_same I'.hok I'.free hs) I'.bare fun b hb => ⟨(f2 b hb).2.2.2.1, (f2 b hb).2.1, (f2 b hb).2.2.2.2.1, (f2 b hb).2.2.2.2.2⟩
    · obtain ⟨sl, q⟩ := un.slot b o e n hb hx
      exact ⟨sl, (hs.2 b (sub b o e)).trans q⟩
    · obtain ⟨o', q⟩ := un.there b o e hx
      exact ⟨o', (hs.2 b (sub b o e)).trans q⟩
  have loop : ∀ s3 : Shared, (∃ tk, s3 = { s2 with heap := h₁, toks := tk }) →
      codeAny (model X.prog X.w) X.A (.compLoop (.ListComp elt [⟨tg, iter, ifs, 0⟩] scope pos) 0 (.ref it) (.ref s2.heap.objs.size) (compEnvC scope cl Hh.objs.size X.env)) (RR (.ref s2.heap.objs.size) Hh.objs.size) s3 := by
    rintro s3 ⟨tk, rfl⟩
    refine compLoop_any (fun n s' => ∃ i σ' H', Inv Y [] σ' H' s' ∧ tn i s'.heap ∧ (∀ b ∈ fp, H' b = none) ∧ W i n σ' H') ?_ m0 ⟨0, _, _, IY tk, T.keep _ _ _ st2 (fun b _ o e => old b o e), fun b hb => by rw [upd_ne (below b (fpLt b hb)).2]; exact (f2 b hb).1, w0⟩
    rintro n s4 ⟨i, σ4, H4, I4, st4, fr4, w4⟩
    rcases turn i n σ4 H4 w4 with ⟨stop, qn⟩ | ⟨go, step⟩
    · refine wpAny_mono (T.done Y rfl rfl rfl hcm i [] s4 σ4 H4 (fun _ _ => False) I4 (stat fr4) st4 stop) (fun r s5 ⟨hr, I5⟩ => ?_) fun _ _ z => z
      subst hr
      obtain ⟨m, hn, _⟩ := I5.loc
      exact hRR _ _ s5 H4 qn ⟨m, hn⟩ (fin H4 σ4 s5 I5 s5.heap (.refl ..)) I5.free hCle
    · refine wpAny_mono (T.item Y rfl rfl rfl hcm i [] s4 σ4 H4 (fun _ _ => False) I4 (stat fr4) st4 go) (fun r s5 ⟨u, hr, h5⟩ => ?_) fun _ _ z => z
      subst hr
      refine wpAny_mono h5 (fun _ s6 ⟨x, H6, I6, r6, y6, st6, fr6⟩ => ?_) fun _ _ z => z
      have I6' := I6.pinned (stat fr6) (T.obj _ _ st6)
      refine wpAny_mono (hg s2 H2 Hh.objs.size fp _ s6 σ4 H6 x u _ I6' r6 (step x H6 y6)) (fun _ s7 ⟨σ7, H7, I7, q7⟩ => ?_) fun _ _ z => z
      refine wpAny_mono (ht s2 H2 Hh.objs.size fp _ s7 σ7 H7 _ I7 q7) (fun ok s8 ⟨H8, I8, q8⟩ => ?_) fun _ _ z => z
      have back : ∀ {σ9 : L2.St} {H9 : Hp} {s9 : Shared}, Inv Y ([] ++ pinsAt fp s6.heap) σ9 H9 s9 → Inv Y [] σ9 H9 s9 ∧ tn (i + 1) s9.heap ∧ ∀ b ∈ fp, H9 b = none := fun {σ9 H9 s9} I9 =>
        ⟨I9.unpinned, T.keep _ _ _ st6 fun b hb o e => (I9.pin (b, o) (List.mem_append_right _ (List.mem_append_right _ (mem_pinsAt hb e)))).1, fun b hb => by
          obtain ⟨o, e, d⟩ := T.obj _ _ st6 b hb
          exact (I9.pin (b, o) (List.mem_append_right _ (List.mem_append_right _ (mem_pinsAt hb e)))).2.1⟩
      cases ok with
      | false =>
        obtain ⟨m', hm, w'⟩ := (if_neg Bool.false_ne_true).mp q8
        obtain ⟨b1, b2, b3⟩ := back I8
        exact (if_neg Bool.false_ne_true).mpr ⟨m', hm, i + 1, σ7, H8, b1, b2, b3, w'⟩
      | true =>
        refine (if_pos rfl).mpr ?_
        refine wpAny_mono (he s2 H2 Hh.objs.size fp _ s8 σ7 H8 _ I8 ((if_pos rfl).mp q8)) (fun ux s9 ⟨v, H9, I9, r9, xs, ex, hx, m', hm, w'⟩ => ?_) fun _ _ z => z
        refine wpAny_mono (mt_append (X := Y) _ s9 σ7 H9 (.ref s2.heap.objs.size) [v] (.ref s2.heap.objs.size) [ux] (fun _ H' => H' = upd H9 s2.heap.objs.size (.lst (xs ++ [v]))) I9 rfl (.cons r9 .nil) ⟨_, xs, v, rfl, rfl, ex, hx, rfl⟩) (fun _ s10 ⟨_, H10, I10, _, e10⟩ => ?_) fun _ _ z => z
        subst e10
        obtain ⟨b1, b2, b3⟩ := back I10
        exact ⟨m', hm, i + 1, σ7, _, b1, b2, b3, w'⟩
  exact codeAny_compStart_list (loop _ ⟨_, rfl⟩) (T.self _ 0 _ _ _ (T.keep _ _ _ st2 fun b _ o e => old b o e) (loop _ ⟨_, rfl⟩))

/-- nothing of ours stands at C -/
theorem inv_let {pins : List (Addr × Obj)} {σ σ2 : L2.St} {H2 H' : Hp} {s2 s' : Shared} {C : Addr} {h' : Heap} (I2 : Inv X pins σ2 H2 s2) (I : Inv X pins σ H' s') (hn : H' C = none) (hC : s2.heap.objs.size ≤ C) (hs : Heap.SameBut C s'.heap h') : Inv X pins σ H' { s' with heap := h' } := by
  refine I.turned (t' := s'.toks) (it := C) (fun b o hb e => (hs.2 b hb).trans e) hn (fun z => ?_) (.inr (Nat.le_trans I2.sz hC)) (fun x c h z => ?_) fun p hp z => ?_
  · exact absurd (Nat.lt_of_lt_of_le I2.lt (by rw [← z]; exact hC)) (Nat.lt_irrefl _)
  · obtain ⟨v, q⟩ := I2.cell x c h
    exact absurd (Nat.lt_of_lt_of_le q.lt (by rw [z]; exact hC)) (Nat.lt_irrefl _)
  · exact absurd (Nat.lt_of_lt_of_le (Heap.lt_size (I2.pin p hp).1) (by rw [z]; exact hC)) (Nat.lt_irrefl _)

/-- the closure -/
theorem closure_of {env : PySem.Env} : ∀ (names : List (Str × NameKind)) (acc : List (Str × Addr)), (∀ x ∈ names, x.2 = .free → ∃ c, env.cells.lookup x.1 = some c) → (∀ x c, acc.lookup x = some c → env.cells.lookup x = some c) →
    ∃ cl, (forIn names acc fun x cs => (if (x.2 == NameKind.free) = true then do let c ← cellOf env x.1; pure (ForInStep.yield ((x.1, c) :: cs)) else pure (ForInStep.yield cs) : Sem _)) = pure cl ∧ (∀ x c, cl.lookup x = some c → env.cells.lookup x = some c) ∧
      (∀ x, (∃ c, acc.lookup x = some c) ∨ (x, NameKind.free) ∈ names → ∃ c, cl.lookup x = some c)
  | [], acc, _, ha => ⟨acc, rfl, ha, fun x h => by
      rcases h with h | h
      · exact h
      · simp at h⟩
  | (n, k) :: r, acc, hn, ha => by
    have hr : ∀ x ∈ r, x.2 = .free → ∃ c, env.cells.lookup x.1 = some c := fun x hx => hn x (List.mem_cons_of_mem _ hx)
    by_cases hk : k = .free
    · subst hk
      obtain ⟨c, hc⟩ := hn (n, .free) List.mem_cons_self rfl
      obtain ⟨cl, e, h1, h2⟩ := closure_of r ((n, c) :: acc) hr (fun x c' h => by
        rw [List.lookup_cons] at h
        by_cases hx : (x == n) = true
        · rw [hx] at h
          cases h
          have : x = n := by simpa using hx
          rw [this]; exact hc
        · have hx : (x == n) = false := by simpa using hx
          rw [hx] at h
          exact ha x c' h)
      refine ⟨cl, ?_, h1, fun x h => h2 x ?_⟩
      · rw [List.forIn_cons]
        simp only [beq_self_eq_true, if_true]
        have q : cellOf env n = pure c := by unfold cellOf; rw [hc]
        rw [q]
        exact e
      · rcases h with ⟨c', h⟩ | h
        · left
          rw [List.lookup_cons]
          by_cases hx : (x == n) = true
          · rw [hx]; exact ⟨c, rfl⟩
          · have hx : (x == n) = false := by simpa using hx
            rw [hx]; exact ⟨c', h⟩
        · rcases List.mem_cons.mp h with h | h
          · left
            cases h
            exact ⟨c, by rw [List.lookup_cons, beq_self_eq_true]⟩
          · exact .inr h
    · have hb : (k == NameKind.free) = false := by simpa using hk
      obtain ⟨cl, e, h1, h2⟩ := closure_of r acc hr ha
      refine ⟨cl, ?_, h1, fun x h => h2 x ?_⟩
      · rw [List.forIn_cons]
        simp only [hb, Bool.false_eq_true, if_false]
        exact e
      · rcases h with h | h
        · exact .inl h
        · rcases List.mem_cons.mp h with h | h
          · cases h; exact absurd rfl hk
          · exact .inr h
theorem closure_ok {env : PySem.Env} {scope : Scope} (hn : ∀ x ∈ scope.names, x.2 = .free → ∃ c, env.cells.lookup x.1 = some c) : ∃ cl, closureFor scope env = pure cl ∧ (∀ x c, cl.lookup x = some c → env.cells.lookup x = some c) ∧ (∀ x, (x, NameKind.free) ∈ scope.names → ∃ c, cl.lookup x = some c) := by
  obtain ⟨cl, e, h1, h2⟩ := closure_of (env := env) scope.names [] hn (fun x c h => by simp at h)
  refine ⟨cl, ?_, h1, fun x h => h2 x (.inr h)⟩
  unfold closureFor
  have e2 : (forIn scope.names ([] : List (Str × Addr)) fun x r => (match x with
      | (name, kind) => if (kind == NameKind.free) = true then do let c ← cellOf env name; pure (ForInStep.yield ((name, c) :: r)) else pure (ForInStep.yield r) : Sem _)) = pure cl := e
  first
    | exact congrArg (fun m => m >>= fun cs => pure cs) e2
    | (show (do let cs ← forIn scope.names ([] : List (Str × Addr)) fun x r => _; pure cs) = _; rw [e2]; rfl)
/-- what a table must be, apart from the closure; sc: the table around -/
structure CompTab (sc scope : Scope) (N N' : List Str) (pk : List (Option Nat)) : Prop where
  kind : scope.kind = .function
  cell : ∀ y ∈ scope.names, y.2 ≠ .cell
  names : ∀ y ∈ scope.names, y.2 = .local → scope.names.lookup y.1 = some .local
  free : ∀ y ∈ scope.names, y.2 = .free → sc.names.lookup y.1 = some .cell ∨ sc.names.lookup y.1 = some .free
  len : pk.length = N'.length
  take : ((List.range N'.length).all fun i => match pk[i]? with
    | some (some j) => match N[j]?, N'[i]? with
      | some x, some y => (x == y) && ((sc.names.lookup y == some NameKind.cell) || (sc.names.lookup y == some NameKind.free)) && (scope.names.lookup y == some NameKind.free)
      | _, _ => false
    | _ => true) = true
theorem relabel_lookup {scope : Scope} {env : PySem.Env} {x : Str} : ∀ (names : List (Str × NameKind)), ((names.map fun (n, k) => if (k == NameKind.free && env.scope.kind == .function && env.kindOf n == some .cell) = true then (n, NameKind.cell) else (n, k)).lookup x = some .cell ∨
      (names.map fun (n, k) => if (k == NameKind.free && env.scope.kind == .function && env.kindOf n == some .cell) = true then (n, NameKind.cell) else (n, k)).lookup x = some .free) → (∀ y ∈ names, y.2 ≠ .cell) → (x, NameKind.free) ∈ names
  | [], h, _ => by simp at h
  | (n, k) :: r, h, hc => by
    rw [List.map_cons] at h
    by_cases hx : (x == n) = true
    · have e : x = n := by simpa using hx
      subst e
      have hk := hc (x, k) List.mem_cons_self
      by_cases hq : (k == NameKind.free && env.scope.kind == .function && env.kindOf x == some .cell) = true
      · have : k = .free := by
          rw [Bool.and_eq_true, Bool.and_eq_true] at hq
          simpa using hq.1.1
        subst this
        exact List.mem_cons_self
      · simp only [hq, Bool.false_eq_true, if_false, List.lookup_cons, beq_self_eq_true] at h
        rcases h with h | h
        · exact absurd (by simpa using h) hk
        · have : k = .free := by simpa using h
          subst this
          exact List.mem_cons_self
    · have hx : (x == n) = false := by simpa using hx
      refine List.mem_cons_of_mem _ (relabel_lookup (scope := scope) (env := env) r ?_ fun y hy => hc y (List.mem_cons_of_mem _ hy))
      by_cases hq : (k == NameKind.free && env.scope.kind == .function && env.kindOf n == some .cell) = true
      · simpa only [hq, if_true, List.lookup_cons, hx] using h
      · simpa only [hq, Bool.false_eq_true, if_false, List.lookup_cons, hx] using h
theorem lookup_relabel_free {scope : Scope} {env : PySem.Env} {x : Str} : ∀ (names : List (Str × NameKind)), names.lookup x = some .free → ((names.map fun (n, k) => if (k == NameKind.free && env.scope.kind == .function && env.kindOf n == some .cell) = true then (n, NameKind.cell) else (n, k)).lookup x = some .cell ∨
      (names.map fun (n, k) => if (k == NameKind.free && env.scope.kind == .function && env.kindOf n == some .cell) = true then (n, NameKind.cell) else (n, k)).lookup x = some .free)
  | [], h => by simp at h
  | (n, k) :: r, h => by
    rw [List.map_cons]
    by_cases hx : (x == n) = true
    · rw [List.lookup_cons, hx] at h
      have : k = .free := by simpa using h
      subst this
      by_cases hq : (NameKind.free == NameKind.free && env.scope.kind == .function && env.kindOf n == some .cell) = true
      · left; simp only [hq, if_true, List.lookup_cons, hx]
      · right; simp only [hq, Bool.false_eq_true, if_false, List.lookup_cons, hx]
    · have hx : (x == n) = false := by simpa using hx
      rw [List.lookup_cons, hx] at h
      have := lookup_relabel_free (scope := scope) (env := env) r h
      by_cases hq : (k == NameKind.free && env.scope.kind == .function && env.kindOf n == some .cell) = true
      · simpa only [hq, if_true, List.lookup_cons, hx] using this
      · simpa only [hq, Bool.false_eq_true, if_false, List.lookup_cons, hx] using this
theorem CompTab.sc {scope : Scope} {N' : List Str} {pk : List (Option Nat)} (t : CompTab X.env.scope scope X.N N' pk) (ok : X.Ok) : ∃ cl, CompSc X scope cl N' pk := by
  obtain ⟨cl, e, h1, h2⟩ := closure_ok (env := X.env) (scope := scope) fun x hx hf => ok.has x.1 (t.free x hx hf)
  refine ⟨cl, t.kind, t.cell, t.names, e, h1, fun x h => h2 x (relabel_lookup (scope := scope) (env := X.env) scope.names h t.cell), t.len, fun i j x hp hn => ?_⟩
  have hi : i < N'.length := (List.getElem?_eq_some_iff.mp hn).1
  have q := List.all_eq_true.mp t.take i (List.mem_range.mpr hi)
  simp only [hp, hn] at q
  cases hj : X.N[j]? with
  | none => simp [hj] at q
  | some y =>
    simp only [hj, Bool.and_eq_true, Bool.or_eq_true, beq_iff_eq] at q
    obtain ⟨⟨e1, e2⟩, e3⟩ := q
    subst e1
    exact ⟨rfl, e2, lookup_relabel_free (scope := scope) (env := X.env) scope.names e3⟩

theorem pe_comp {elt tg iter : Expr} {ifs : List Expr} {scope : Scope} {pos : Pos} {N' : List Str} {pk : List (Option Nat)} {wi : TI} {g : TG} {tt : TT} {te : TE} (ct : CompTab X.env.scope scope X.N N' pk) (hcm : X.calm = true) (hi : PI X tg iter wi)
    (hg : ∀ cl s2 H2 C fp, PG (blk X s2 H2 C scope cl N' fp) tg g) (ht : ∀ cl s2 H2 C fp, PTs (blk X s2 H2 C scope cl N' fp) ifs tt) (he : ∀ cl s2 H2 C fp, PE (blk X s2 H2 C scope cl N' fp) elt te)
    (hs : ∀ x, foldedSetIterable iter X.env x = pure x := by intro _; rfl) : PE X (.ListComp elt [⟨tg, iter, ifs, 0⟩] scope pos) (tComp wi pk g tt te) := by
  intro pins s σ H Q I h
  obtain ⟨cl, cs⟩ := ct.sc I.ok
  rw [eval_ListComp]
  refine wpAny_comprehension_free (use := none) rfl hs cs.clos cs.kind cs.names (thn (hi pins s σ H _ I h) fun x s1 h1 => thn h1 fun itv s2 h2 => ?_)
  obtain ⟨it, fp, tn, J, H2, e, I2, T, st2, f2, hQ⟩ := h2
  subst e
  refine comp_block cs hcm (hg cl) (ht cl) (he cl) I2 T st2 f2 hQ (RR := fun acc C => compPost (model X.prog X.w) X.A X.xe none (EP X pins σ Q) acc C) fun D C s' H' q hn inv hf hC => ?_
  obtain ⟨m, hn⟩ := hn
  exact ⟨m, hn, fun h' hs' => ⟨.ref D, H', inv_let I2 inv hf hC hs', rfl, q⟩⟩
/-- x = [.. for ..], stored by the comprehension itself -/
theorem ps_setComp {i : Nat} {y : Str} {py spos : Pos} {elt tg iter : Expr} {ifs : List Expr} {scope : Scope} {pos : Pos} {N' : List Str} {pk : List (Option Nat)} {wi : TI} {g : TG} {tt : TT} {te : TE} (ct : CompTab X.env.scope scope X.N N' pk) (hcm : X.calm = true) (hi : PI X tg iter wi)
    (hg : ∀ cl s2 H2 C fp, PG (blk X s2 H2 C scope cl N' fp) tg g) (ht : ∀ cl s2 H2 C fp, PTs (blk X s2 H2 C scope cl N' fp) ifs tt) (he : ∀ cl s2 H2 C fp, PE (blk X s2 H2 C scope cl N' fp) elt te)
    (hN : X.N.Nodup) (hy : X.N[i]? = some y) (hx : Loc X.env.scope y) (hsw : swapsWith (.ListComp elt [⟨tg, iter, ifs, 0⟩] scope pos) (some (.Name y py)) spos.line X.env = pure true)
    (hs : ∀ x, foldedSetIterable iter X.env x = pure x := by intro _; rfl) (hf : X.fn y = true ∨ X.env.scope.names.lookup y = some .local := by first | exact .inl rfl | exact .inr rfl | assumption) :
    PS X (.Assign [.Name y py] (.ListComp elt [⟨tg, iter, ifs, 0⟩] scope pos) spos) (tAsg (tComp wi pk g tt te) (gName i)) := by
  intro pins s σ H E I h
  obtain ⟨cl, cs⟩ := ct.sc I.ok
  rw [exec_Assign_Name_used _ _ _ _ hsw]
  refine wpAny_bind (wpAny_standAt (wpAny_bind ?_))
  show wpAny _ X.A (do let _ ← comprehension (.ListComp elt [⟨tg, iter, ifs, 0⟩] scope pos) scope X.env _ (newList []) false (eval iter X.env) (some (assign (.Name y py) X.env))) _ _ s
  refine wpAny_bind (wpAny_mono (wpAny_comprehension_free (use := some (assign (.Name y py) X.env)) (Q := fun _ s' => SP X pins E .next s') rfl hs cs.clos cs.kind cs.names
    (thn (hi pins s σ H _ I h) fun x s1 h1 => thn h1 fun itv s2 h2 => ?_)) (fun _ s' hq => wpAny_pure (wpAny_pure hq)) fun _ _ e => e)
  obtain ⟨it, fp, tn, J, H2, e, I2, T, st2, f2, hQ⟩ := h2
  subst e
  refine comp_block cs hcm (hg cl) (ht cl) (he cl) I2 T st2 f2 (Q := fun x H1 => gName i x σ H1 E.nx) hQ (RR := fun acc C => compPost (model X.prog X.w) X.A X.xe (some (assign (.Name y py) X.env)) (fun _ s' => SP X pins E .next s') acc C) fun D C s' H' q hn inv hfr hC => ?_
  obtain ⟨m, hn⟩ := hn
  show wpAny _ X.A (assign (.Name y py) X.env (.ref D)) _ _ _
  refine wpAny_assign_Name (store_ok2 inv hN hy hx (v := .ref D) rfl (fun s'' I'' hch => ?_) hf)
  obtain ⟨a, hsb, ha⟩ := hch
  have hCa : C ≠ a := by
    rcases ha with ha | ha
    · rintro rfl
      exact absurd (Nat.lt_of_lt_of_le I2.lt (by rw [← ha]; exact hC)) (Nat.lt_irrefl _)
    · rintro rfl
      obtain ⟨v, z⟩ := I2.cell y _ ha
      exact absurd (Nat.lt_of_lt_of_le z.lt hC) (Nat.lt_irrefl _)
  exact ⟨m, hn.sameBut hsb hCa, fun h' hs' => ⟨_, H', inv_let I2 I'' hfr hC hs', q⟩⟩

/-! ### the same over data -/
abbrev XN : XW := fun _ _ _ _ _ _ => False
def cbody (a : Nat) (t : Ev Bool) (e : Ev D) : Sv := fun ρ S => bindS (t ρ S) ρ fun b S1 => if b = true then bindS (e ρ S1) ρ fun d S2 => (match S2[a]? with
    | some c => if c.fz = false ∧ c.xs.length < 1000000 then .nx ρ (S2.set a ⟨false, c.xs ++ [d]⟩) else .bad
    | none => .bad) else .nx ρ S1
def cmp (f : Ev Src) (pk : List (Option Nat)) (g : Tg) (t : Ev Bool) (e : Ev D) : Ev D := fun ρ S => (f ρ S).bind fun src S1 => match forN src.nxt g (cbody S1.length t e) src.fuel 0 (pkS pk ρ) (S1 ++ [⟨false, []⟩]) with
  | .nx _ S' => .ok (.lst S1.length) S'
  | _ => .bad
def PostC (K : PySem.W.Frag) (XQ : XW) (σ : L2.St) (ρ : Lc) (a : Nat) (mp : List Addr) (H : Hp) (o : OS) (Q : VK) : Prop := match o with
  | .nx _ S => Post K XQ σ ρ mp H (.ok (.lst a) S) Q
  | _ => False
theorem PostC.aft {K : PySem.W.Frag} {XQ : XW} {σ : L2.St} {ρ : Lc} {a : Nat} {mp mp' : List Addr} {H H' : Hp} {o : OS} {Q : VK} (p : PostC K XQ σ ρ a mp H o Q) (af : Aft K mp H mp' H') : PostC K XQ σ ρ a mp' H' o Q := by
  cases o with
  | nx r S => exact PostG.aft (show Post K XQ σ ρ mp H (.ok (.lst a) S) Q from p) af
  | _ => exact p
theorem Gd.pick {K : PySem.W.Frag} {mp : List Addr} {H : Hp} {σ : L2.St} {ρ : Lc} {S : Sto} (G : Gd K mp H σ ρ S) (pk : List (Option Nat)) : Gd K mp H (pkS pk σ) (pkS pk ρ) S := by
  refine ⟨G.rs, by simp [pkS], fun i d h => ?_⟩
  unfold pkS at h ⊢
  rw [List.getElem?_map] at h ⊢
  cases e : pk[i]? with
  | none => rw [e] at h; cases h
  | some o =>
    rw [e] at h
    cases o with
    | none => cases h
    | some j =>
      have h : (ρ[j]?).bind id = some d := Option.some.inj h
      have h : ρ[j]? = some (some d) := by
        cases z : ρ[j]? with
        | none => rw [z] at h; cases h
        | some q =>
          rw [z] at h
          have h : q = some d := h
          rw [h]
      obtain ⟨v, e1, r⟩ := G.loc j d h
      refine ⟨v, ?_, r⟩
      show some ((σ[j]?).bind id) = some (some v)
      rw [e1]
      rfl
def JTs (Y : Cx) (XQ : XW) (ifs : List Expr) (t : Ev Bool) : Prop := PTs Y ifs (rdT Y.K XQ t)
def ttrue : Ev Bool := fun _ S => .ok true S
theorem jts_nil {Y : Cx} {XQ : XW} : JTs Y XQ [] ttrue := fun pins s σ H Q I ⟨mp, ρ, S, G, p⟩ => pts_nil pins s σ H Q I (PostG.ok (show PostG Y.K kB XQ σ ρ mp H (.ok true S) Q from p) G.rs rfl)
theorem jts_one {Y : Cx} {XQ : XW} {c : Expr} {t : Ev Bool} (h : JT Y XQ c t) : JTs Y XQ [c] t := pts_one h
theorem compP {K : PySem.W.Frag} {XQ : XW} {f : Ev Src} {pk : List (Option Nat)} {g : Tg} {t : Ev Bool} {e : Ev D} (σ : L2.St) (H : Hp) (Q : VK) (h : rdE K XQ (cmp f pk g t e) σ H Q) : tComp (rdI K XQ f) pk (rdG1 K g) (rdT K XN t) (rdE K XN e) σ H Q := by
  obtain ⟨mp, ρ, S, G, p⟩ := h
  refine bindP G p fun mp1 H1 src S1 J a1 G1 j1 p1 => ?_
  intro a ha
  obtain ⟨af, rs, la⟩ := G1.rs.newL ha (RepL.nil : RepL K mp1 H1 [] [])
  have p1 : PostC K XQ σ ρ S1.length (mp1 ++ [a]) (upd H1 a (.lst [])) (forN src.nxt g (cbody S1.length t e) src.fuel 0 (pkS pk ρ) (S1 ++ [⟨false, []⟩])) Q := by
    cases z : forN src.nxt g (cbody S1.length t e) src.fuel 0 (pkS pk ρ) (S1 ++ [⟨false, []⟩]) with
    | nx r S' => rw [z] at p1; exact PostG.aft p1 af
    | rt d S' => rw [z] at p1; exact p1
    | bk r S' => rw [z] at p1; exact p1
    | ct r S' => rw [z] at p1; exact p1
    | exc x r S' => rw [z] at p1; exact p1
    | bad => rw [z] at p1; exact p1
  refine ⟨fun i m σ' H' => ∃ mp' ρ' S', Aft K mp1 H1 mp' H' ∧ Gd K mp' H' σ' ρ' S' ∧ mp'[S1.length]? = some a ∧ PostC K XQ σ ρ S1.length mp' H' (forN src.nxt g (cbody S1.length t e) m i ρ' S') Q, ⟨src.fuel, _, _, _, af, (G1.pick pk).aft af rs, la, p1⟩, ?_⟩
  rintro i m σ' H' ⟨mp', ρ', S', a', G', la', p'⟩
  cases m with
  | zero => exact (show False from p').elim
  | succ n =>
    have j := j1 mp' H' S' a' G'.rs i
    unfold forN at p'
    cases z : src.nxt i S' with
    | none =>
      rw [z] at j p'
      exact .inl ⟨j, PostG.ok (show Post K XQ σ ρ mp' H' (.ok (.lst S1.length) S') Q from p') G'.rs ⟨a, rfl, la'⟩⟩
    | some d =>
      rw [z] at j p'
      obtain ⟨j1, j2⟩ := j
      refine .inr ⟨j1, fun x H2 y => ?_⟩
      obtain ⟨a2, r2, x2⟩ := j2 x H2 y
      have G2 := G'.aft a2 r2
      cases zg : g d ρ' with
      | none => simp only [zg] at p'; exact p'.elim
      | some ρ1 =>
        simp only [zg] at p'
        refine ⟨mp', ρ', S', d, ρ1, G2, x2, zg, fun σ3 G3 => ⟨mp', ρ1, S', G3, ?_⟩⟩
        have p2 := PostC.aft p' a2
        unfold cbody at p2
        cases zt : t ρ1 S' with
        | exc x S2 => simp only [zt, bindS] at p2; exact p2.elim
        | bad => simp only [zt, bindS] at p2; exact p2.elim
        | ok b S2 =>
          simp only [zt, bindS] at p2
          intro mp3 H3 b' a3 rs3 e3
          cases (show b' = b from e3)
          have G4 := G3.aft a3 rs3
          cases b with
          | false =>
            simp only [Bool.false_eq_true, if_false] at p2
            exact (if_neg Bool.false_ne_true).mpr ⟨n, Nat.lt_succ_self n, mp3, ρ1, S2, (a'.trans a2).trans a3, G4, a3.pre _ _ la', PostC.aft p2 a3⟩
          | true =>
            simp only [if_true] at p2
            refine (if_pos rfl).mpr ⟨mp3, ρ1, S2, G4, ?_⟩
            cases ze : e ρ1 S2 with
            | exc x S3 => simp only [ze] at p2; exact p2.elim
            | bad => simp only [ze] at p2; exact p2.elim
            | ok d2 S3 =>
              simp only [ze] at p2
              intro mp4 H4 v a4 rs4 r4
              have la4 := a4.pre _ _ (a3.pre _ _ la')
              have G5 := G4.aft a4 rs4
              cases zc : S3[S1.length]? with
              | none => simp only [zc] at p2; exact p2.elim
              | some c =>
                simp only [zc] at p2
                by_cases hc : c.fz = false ∧ c.xs.length < 1000000
                · rw [if_pos hc] at p2
                  obtain ⟨a5, xs, e5, h5, s5, r5, f5⟩ := rs4.items (v := .ref a) ⟨a, rfl, la4⟩ zc
                  cases e5
                  have h5 := f5 hc.1
                  obtain ⟨af6, rs6⟩ := rs4.setL la4 zc hc.1 h5 (RepL.append r5 (RepL.cons r4 RepL.nil))
                  refine ⟨xs, h5, ?_, n, Nat.lt_succ_self n, mp4, ρ1, _, (((a'.trans a2).trans a3).trans a4).trans af6, G5.aft af6 rs6, la4, PostC.aft p2 ((a3.trans a4).trans af6)⟩
                  rw [r5.len]
                  exact Nat.lt_of_lt_of_le hc.2 (by decide)
                · rw [if_neg hc] at p2; exact p2.elim
variable {XQ : XW}
theorem je_comp {elt tg iter : Expr} {ifs : List Expr} {scope : Scope} {pos : Pos} {N' : List Str} {pk : List (Option Nat)} {f : Ev Src} {g : Tg} {t : Ev Bool} {e : Ev D} (ct : CompTab X.env.scope scope X.N N' pk) (hcm : X.calm = true) (hi : JI X XQ tg iter f)
    (hg : ∀ cl s2 H2 C fp, JG (blk X s2 H2 C scope cl N' fp) tg g) (ht : ∀ cl s2 H2 C fp, JTs (blk X s2 H2 C scope cl N' fp) XN ifs t) (he : ∀ cl s2 H2 C fp, JE (blk X s2 H2 C scope cl N' fp) XN elt e)
    (hs : ∀ x, foldedSetIterable iter X.env x = pure x := by intro _; rfl) : JE X XQ (.ListComp elt [⟨tg, iter, ifs, 0⟩] scope pos) (cmp f pk g t e) :=
  PE.mono (pe_comp (g := rdG1 X.K g) (tt := rdT X.K XN t) (te := rdE X.K XN e) ct hcm hi hg ht he hs) compP
theorem js_setComp (i : Nat) {y : Str} {py spos : Pos} {elt tg iter : Expr} {ifs : List Expr} {scope : Scope} {pos : Pos} {N' : List Str} {pk : List (Option Nat)} {f : Ev Src} {g : Tg} {t : Ev Bool} {e : Ev D} (ct : CompTab X.env.scope scope X.N N' pk) (hcm : X.calm = true) (hi : JI X XQ tg iter f)
    (hg : ∀ cl s2 H2 C fp, JG (blk X s2 H2 C scope cl N' fp) tg g) (ht : ∀ cl s2 H2 C fp, JTs (blk X s2 H2 C scope cl N' fp) XN ifs t) (he : ∀ cl s2 H2 C fp, JE (blk X s2 H2 C scope cl N' fp) XN elt e)
    (hN : X.N.Nodup) (hy : X.N[i]? = some y := by rfl) (hx : Loc X.env.scope y := by first | exact Or.inl rfl | exact Or.inr rfl) (hsw : swapsWith (.ListComp elt [⟨tg, iter, ifs, 0⟩] scope pos) (some (.Name y py)) spos.line X.env = pure true := by rfl)
    (hs : ∀ x, foldedSetIterable iter X.env x = pure x := by intro _; rfl) (hf : X.fn y = true ∨ X.env.scope.names.lookup y = some .local := by first | exact .inl rfl | exact .inr rfl | assumption) :
    JS X XQ (.Assign [.Name y py] (.ListComp elt [⟨tg, iter, ifs, 0⟩] scope pos) spos) (sa (cmp f pk g t e) (gn i)) := by
  refine PS.mono (ps_setComp (g := rdG1 X.K g) (tt := rdT X.K XN t) (te := rdE X.K XN e) ct hcm hi hg ht he hN hy hx hsw hs hf) fun E σ H ⟨mp, ρ, S, G, p⟩ => compP σ H _ ?_
  exact bindSP G p fun mp1 H1 d S1 v a1 G1 r1 p1 => PostS.nx p1 (G1.set i r1)
end
end DL

set_option Elab.async false
set_option linter.all false
set_option maxRecDepth 100000
namespace DL
open PySem PySem.Spec PyProof.Rows L2

/-! ### what == and repr see -/
def mapO {α β : Type} (f : α → Option β) : List α → Option (List β)
  | [] => some []
  | x :: l => match f x, mapO f l with
    | some y, some ys => some (y :: ys)
    | _, _ => none
def toP (S : Sto) : Nat → D → Option PyData
  | 0, _ => none
  | n + 1, d => match d with
    | .non => some .none
    | .bl b => some (.bool b)
    | .int i => some (.int i)
    | .str x => some (.str x)
    | .tup l => (mapO (toP S n) l).map .tuple
    | .lst i => match S[i]? with
      | some c => (mapO (toP S n) c.xs).map .list
      | none => none
section
variable {X : Cx} {pins : List (Addr × Obj)} {σ : L2.St} {H : Hp} {s : Shared} {mp : List Addr} {S : Sto}
theorem vals_of {K : PySem.W.Frag} : ∀ {xs : List V} {us : List Value} {i : Nat} {u : Value}, Vals xs us → us[i]? = some u → ∃ x, xs[i]? = some x ∧ RelV x u
  | _, _, _, _, .nil, e => by simp at e
  | _, _, 0, _, .cons r _, e => by simp at e; subst e; exact ⟨_, rfl, r⟩
  | _, _, i + 1, u, .cons _ t, e => by
    obtain ⟨x, h1, h2⟩ := vals_of (K := K) (i := i) (u := u) t (by simpa using e)
    exact ⟨x, by simpa using h1, h2⟩
theorem readsPs {f : D → Option PyData} {K : PySem.W.Frag} (hf : ∀ (d : D) (v : V) (u : Value) (p : PyData), Rep K mp H d v → RelV v u → f d = some p → ∃ as, Reads s.heap u p as) : ∀ (l : List D) (vs : List V) (us : List Value) (ps : List PyData), RepL K mp H l vs → Vals vs us → mapO f l = some ps → ∃ as, ReadsAll s.heap us ps as
  | [], vs, us, ps, h, r, e => by
    cases (show vs = [] from h); cases r
    cases (Option.some.inj e)
    exact ⟨_, .nil⟩
  | d :: l, vs, us, ps, h, r, e => by
    obtain ⟨v, vr, rfl, h1, h2⟩ := (show ∃ v r, vs = v :: r ∧ Rep K mp H d v ∧ RepL K mp H l r from h)
    cases r with
    | cons r1 r2 =>
      cases z1 : f d with
      | none => simp only [mapO, z1] at e; cases e
      | some p =>
        cases z2 : mapO f l with
        | none => simp only [mapO, z1, z2] at e; cases e
        | some qs =>
          simp only [mapO, z1, z2] at e
          cases (Option.some.inj e)
          obtain ⟨as, ra⟩ := hf d v _ p h1 r1 z1
          obtain ⟨bs, rb⟩ := readsPs hf l vr _ qs h2 r2 z2
          exact ⟨_, .cons ra rb⟩
theorem readsP (I : Inv X pins σ H s) (rs : RS X.K mp H S) : ∀ (n : Nat) (d : D) (v : V) (u : Value) (p : PyData), Rep X.K mp H d v → RelV v u → toP S n d = some p → ∃ as, Reads s.heap u p as := by
  intro n
  induction n with
  | zero => intro d v u p h r e; cases e
  | succ n ih =>
    intro d v u p h r e
    cases d with
    | non =>
      cases (show v = .non from h); cases (show u = Value.none from r)
      cases (Option.some.inj e)
      exact ⟨_, .none⟩
    | bl b =>
      cases (show v = .bl b from h); cases (show u = Value.bool b from r)
      cases (Option.some.inj e)
      exact ⟨_, .bool b⟩
    | int i =>
      cases (show v = .int i from h); obtain ⟨t, rfl⟩ := (show ∃ t, u = Value.int i t from r)
      cases (Option.some.inj e)
      exact ⟨_, .int i t⟩
    | str x =>
      cases (show v = .str x from h); obtain ⟨t, rfl⟩ := (show ∃ t, u = Value.str x t from r)
      cases (Option.some.inj e)
      exact ⟨_, .str x t⟩
    | tup l =>
      obtain ⟨a, xs, rfl, sq, q⟩ := Rep.tup h
      cases (show u = Value.ref a from r)
      obtain ⟨its, rv, ⟨o, ho, hc, k, hd⟩, _⟩ := I.tuple sq
      have e : (mapO (toP S n) l).map PyData.tuple = some p := e
      cases z : mapO (toP S n) l with
      | none => rw [z] at e; cases e
      | some ps =>
        rw [z] at e
        cases (Option.some.inj e)
        obtain ⟨as, ra⟩ := readsPs ih l xs its ps q rv z
        exact ⟨as, .tuple ho hc hd (by simpa using ra)⟩
    | lst i =>
      have e : (match S[i]? with | some c => (mapO (toP S n) c.xs).map PyData.list | none => none) = some p := e
      cases zc : S[i]? with
      | none => rw [zc] at e; cases e
      | some c =>
        rw [zc] at e
        obtain ⟨a, xs, rfl, _, sq, q, _⟩ := rs.items h zc
        cases (show u = Value.ref a from r)
        obtain ⟨its, rv, ⟨o, k, ho, hc, _, hd⟩, _⟩ := I.list sq
        have e : (mapO (toP S n) c.xs).map PyData.list = some p := e
        cases z : mapO (toP S n) c.xs with
        | none => rw [z] at e; cases e
        | some ps =>
          rw [z] at e
          cases (Option.some.inj e)
          obtain ⟨as, ra⟩ := readsPs ih c.xs xs its ps q rv z
          exact ⟨_, .list ho hc hd (by simpa using ra)⟩
end

/-- == and != -/
def eqD (x y : D) (S : Sto) : Out D := match toP S 40 x, toP S 40 y with
  | some p, some q => if (SeqAt.shaped p && SeqAt.shaped q) = true then .ok (.bl (PyData.eqv p q)) S else .bad
  | _, _ => .bad
def neD (x y : D) (S : Sto) : Out D := match toP S 40 x, toP S 40 y with
  | some p, some q => if (SeqAt.shaped p && SeqAt.shaped q) = true then .ok (.bl (!PyData.eqv p q)) S else .bad
  | _, _ => .bad
section
variable {X : Cx} {XQ : XW}
/-- an operation over data, whatever the rule below is -/
def OpX (X : Cx) (f : Value → Value → Sem Value) (o : D → D → Sto → Out D) : Prop :=
  ∀ (pins : List (Addr × Obj)) (s : Shared) (σ : L2.St) (ρ : Lc) (XQ : XW) (mp : List Addr) (H : Hp) (S : Sto) (x y : D) (v u : V) (vv uv : Value) (Q : VK), Inv X pins σ H s → RS X.K mp H S → Rep X.K mp H x v → Rep X.K mp H y u → RelV v vv → RelV u uv → Post X.K XQ σ ρ mp H (o x y S) Q →
    (∀ (e : XD) (S' : Sto), o x y S ≠ .exc e S') → wpAny (model X.prog X.w) X.A (f vv uv) (EP X pins σ Q) X.xe s
theorem pe_opX {a b : Expr} {op : CmpOp} {fa fb : Ev D} {o : D → D → Sto → Out D} {pos : Pos} (ho : OpX X (compareOp op) o) (hno : ∀ x y S e S', o x y S ≠ .exc e S') (ha : JE X XQ a fa) (hb : JE X XQ b fb) (hm : behindInMarks op b = false) : JE X XQ (.Compare a [op] [b] pos) (o2 o fa fb) := by
  intro pins s σ H Q I ⟨mp, ρ, S, G, p⟩
  refine wpAny_Compare1 (thn (ha pins s σ H _ I (bindP G p fun mp1 H1 x S1 v a1 G1 r1 p1 => (⟨mp1, ρ, S1, x, G1, r1, p1⟩ : ∃ mp1 ρ S1 x, Gd X.K mp1 H1 σ ρ S1 ∧ Rep X.K mp1 H1 x v ∧ Post X.K XQ σ ρ mp1 H1 ((fb ρ S1).bind fun y S2 => o x y S2) Q))) fun vv s1 ⟨v, H1, I1, rv, mp1, ρ1, S1, x, G1, r1, p1⟩ => ?_) hm
  refine thn (hb pins s1 σ H1 _ I1 (bindP G1 p1 fun mp2 H2 y S2 u a2 G2 r2 p2 => (⟨mp2, ρ1, S2, x, y, v, G2, Rep.aft a2 _ _ r1, r2, rfl, p2⟩ : ∃ mp2 ρ S2 x y v', Gd X.K mp2 H2 σ ρ S2 ∧ Rep X.K mp2 H2 x v' ∧ Rep X.K mp2 H2 y u ∧ v' = v ∧ Post X.K XQ σ ρ mp2 H2 (o x y S2) Q))) fun uv s2 ⟨u, H2, I2, ru, mp2, ρ2, S2, x2, y, v', G2, rx, ry, ev, p2⟩ => ?_
  subst ev
  exact ho pins s2 σ ρ2 XQ mp2 H2 S2 x2 y _ u vv uv Q I2 G2.rs rx ry rv ru p2 (hno _ _ _)
theorem pt_opX {a b : Expr} {op : CmpOp} {fa fb : Ev D} {o : D → D → Sto → Out D} {pos : Pos} (ho : OpX X (compareOp op) o) (hno : ∀ x y S e S', o x y S ≠ .exc e S') (ha : JE X XQ a fa) (hb : JE X XQ b fb) (hm : behindInMarks op b = false) : JT X XQ (.Compare a [op] [b] pos) (tb (o2 o fa fb)) := by
  intro pins s σ H Q I h
  obtain ⟨mp, ρ, S, G, p⟩ := tb_of h
  refine wpAny_isTrue_Compare1 (thn (ha pins s σ H _ I (bindP G p fun mp1 H1 x S1 v a1 G1 r1 p1 => (⟨mp1, ρ, S1, x, G1, r1, p1⟩ : ∃ mp1 ρ S1 x, Gd X.K mp1 H1 σ ρ S1 ∧ Rep X.K mp1 H1 x v ∧ Post X.K XQ σ ρ mp1 H1 ((fb ρ S1).bind fun y S2 => o x y S2) (fun x H1 => ∃ k, x = .bl k ∧ Q k H1)))) fun vv s1 ⟨v, H1, I1, rv, mp1, ρ1, S1, x, G1, r1, p1⟩ => ?_) hm
  refine thn (hb pins s1 σ H1 _ I1 (bindP G1 p1 fun mp2 H2 y S2 u a2 G2 r2 p2 => (⟨mp2, ρ1, S2, x, y, v, G2, Rep.aft a2 _ _ r1, r2, rfl, p2⟩ : ∃ mp2 ρ S2 x y v', Gd X.K mp2 H2 σ ρ S2 ∧ Rep X.K mp2 H2 x v' ∧ Rep X.K mp2 H2 y u ∧ v' = v ∧ Post X.K XQ σ ρ mp2 H2 (o x y S2) (fun x H1 => ∃ k, x = .bl k ∧ Q k H1)))) fun uv s2 ⟨u, H2, I2, ru, mp2, ρ2, S2, x2, y, v', G2, rx, ry, ev, p2⟩ => ?_
  subst ev
  refine thn (ho pins s2 σ ρ2 XQ mp2 H2 S2 x2 y _ u vv uv _ I2 G2.rs rx ry rv ru p2 (hno _ _ _)) fun c s3 ⟨z, H3, I3, r3, k, e, q3⟩ => ?_
  subst e
  cases r3
  exact wpAny_truthy_bool ⟨H3, I3, q3⟩
theorem eq_ok (hu : X.A.units + 64 < cLine) : OpX X (compareOp .Eq) eqD := by
  intro pins s σ ρ XQ mp H S x y v u vv uv Q I rs rx ry rv ru p _
  unfold eqD at p
  cases z1 : toP S 40 x with
  | none => simp only [z1] at p; exact p.elim
  | some a =>
    cases z2 : toP S 40 y with
    | none => simp only [z1, z2] at p; exact p.elim
    | some b =>
      simp only [z1, z2] at p
      by_cases hs : (SeqAt.shaped a && SeqAt.shaped b) = true
      · rw [if_pos hs] at p
        obtain ⟨as, ra⟩ := readsP I rs 40 x v vv a rx rv z1
        obtain ⟨bs, rb⟩ := readsP I rs 40 y u uv b ry ru z2
        rw [Bool.and_eq_true] at hs
        exact SeqAt.compareEq_shaped ra rb hs.1 hs.2 hu ⟨.bl _, H, I, rfl, PostG.ok (R := Rep X.K) p rs rfl⟩
      · rw [if_neg hs] at p; exact p.elim
theorem ne_ok (hu : X.A.units + 64 < cLine) : OpX X (compareOp .NotEq) neD := by
  intro pins s σ ρ XQ mp H S x y v u vv uv Q I rs rx ry rv ru p _
  unfold neD at p
  cases z1 : toP S 40 x with
  | none => simp only [z1] at p; exact p.elim
  | some a =>
    cases z2 : toP S 40 y with
    | none => simp only [z1, z2] at p; exact p.elim
    | some b =>
      simp only [z1, z2] at p
      by_cases hs : (SeqAt.shaped a && SeqAt.shaped b) = true
      · rw [if_pos hs] at p
        obtain ⟨as, ra⟩ := readsP I rs 40 x v vv a rx rv z1
        obtain ⟨bs, rb⟩ := readsP I rs 40 y u uv b ry ru z2
        rw [Bool.and_eq_true] at hs
        exact SeqAt.compareNe_shaped ra rb hs.1 hs.2 hu ⟨.bl _, H, I, rfl, PostG.ok (R := Rep X.K) p rs rfl⟩
      · rw [if_neg hs] at p; exact p.elim
theorem eq_no (x y : D) (S : Sto) (e : XD) (S' : Sto) : eqD x y S ≠ .exc e S' := by
  unfold eqD
  split
  · split <;> exact fun z => nomatch z
  · exact fun z => nomatch z
theorem ne_no (x y : D) (S : Sto) (e : XD) (S' : Sto) : neD x y S ≠ .exc e S' := by
  unfold neD
  split
  · split <;> exact fun z => nomatch z
  · exact fun z => nomatch z
theorem je_eq {a b : Expr} {fa fb : Ev D} {pos : Pos} (hu : X.A.units + 64 < cLine) (ha : JE X XQ a fa) (hb : JE X XQ b fb) : JE X XQ (.Compare a [.Eq] [b] pos) (o2 eqD fa fb) := pe_opX (eq_ok hu) eq_no ha hb (nomark _)
theorem jt_eq {a b : Expr} {fa fb : Ev D} {pos : Pos} (hu : X.A.units + 64 < cLine) (ha : JE X XQ a fa) (hb : JE X XQ b fb) : JT X XQ (.Compare a [.Eq] [b] pos) (tb (o2 eqD fa fb)) := pt_opX (eq_ok hu) eq_no ha hb (nomark _)
theorem je_ne {a b : Expr} {fa fb : Ev D} {pos : Pos} (hu : X.A.units + 64 < cLine) (ha : JE X XQ a fa) (hb : JE X XQ b fb) : JE X XQ (.Compare a [.NotEq] [b] pos) (o2 neD fa fb) := pe_opX (ne_ok hu) ne_no ha hb (nomark _)
theorem jt_ne {a b : Expr} {fa fb : Ev D} {pos : Pos} (hu : X.A.units + 64 < cLine) (ha : JE X XQ a fa) (hb : JE X XQ b fb) : JT X XQ (.Compare a [.NotEq] [b] pos) (tb (o2 neD fa fb)) := pt_opX (ne_ok hu) ne_no ha hb (nomark _)

/-! ### ints -/
def i2 (C : Int → Int → Bool) (g : Int → Int → D) : D → D → Sto → Out D := fun x y S => match x, y with
  | .int i, .int j => if C i j = true then .ok (g i j) S else .bad
  | _, _ => .bad
theorem od_int {K : PySem.W.Frag} {C : Int → Int → Prop} {c : Int → Int → Bool} {g : Int → Int → V} {gd : Int → Int → D} (hc : ∀ i j, c i j = true → C i j) (hg : ∀ mp H i j, Rep K mp H (gd i j) (g i j)) : OpD K (rI C g) (i2 c gd) := by
  intro XQ σ ρ mp H S x y v u Q rs rx ry p
  cases x with
  | int i =>
    cases y with
    | int j =>
      have p : Post K XQ σ ρ mp H (if c i j = true then .ok (gd i j) S else .bad) Q := p
      by_cases h : c i j = true
      · rw [if_pos h] at p
        exact ⟨i, j, rx, ry, hc i j h, PostG.ok (R := Rep K) p rs (hg mp H i j)⟩
      · rw [if_neg h] at p; exact p.elim
    | _ => exact (show False from p).elim
  | _ => exact (show False from p).elim
theorem od_int0 {K : PySem.W.Frag} {g : Int → Int → V} {gd : Int → Int → D} (hg : ∀ mp H i j, Rep K mp H (gd i j) (g i j)) : OpD K (rI0 g) (i2 (fun _ _ => true) gd) := by
  intro XQ σ ρ mp H S x y v u Q rs rx ry p
  obtain ⟨i, j, h1, h2, _, h3⟩ := od_int (C := fun _ _ => True) (c := fun _ _ => true) (fun _ _ _ => trivial) hg XQ σ ρ mp H S x y v u Q rs rx ry p
  exact ⟨i, j, h1, h2, h3⟩
abbrev subD := i2 (fun _ _ => true) fun i j => .int (i - j)
abbrev modD := i2 (fun _ j => decide (0 < j)) fun i j => .int (i % j)
abbrev divD := i2 (fun _ j => decide (0 < j ∧ j < 1073741824)) fun i j => .int (i / j)
abbrev powD := i2 (fun i j => decide (0 ≤ j ∧ j ≤ 1000000 ∧ i.natAbs < 2 ^ 64)) fun i j => .int (i ^ j.toNat)
abbrev ltD := i2 (fun _ _ => true) fun i j => .bl (decide (i < j))
abbrev leD := i2 (fun _ _ => true) fun i j => .bl (decide (i ≤ j))
abbrev gtD := i2 (fun _ _ => true) fun i j => .bl (decide (j < i))
abbrev geD := i2 (fun _ _ => true) fun i j => .bl (decide (j ≤ i))
section
variable {a b : Expr} {fa fb : Ev D} {pos : Pos}
theorem je_sub (ha : JE X XQ a fa) (hb : JE X XQ b fb) : JE X XQ (.BinOp a .Sub b pos) (o2 subD fa fb) := je_op op_sub (od_int0 fun _ _ _ _ => rfl) ha hb
theorem je_mod (ha : JE X XQ a fa) (hb : JE X XQ b fb) : JE X XQ (.BinOp a .Mod b pos) (o2 modD fa fb) := je_op op_mod (od_int (fun _ _ h => of_decide_eq_true h) fun _ _ _ _ => rfl) ha hb
theorem je_div (ha : JE X XQ a fa) (hb : JE X XQ b fb) : JE X XQ (.BinOp a .FloorDiv b pos) (o2 divD fa fb) := je_op op_fdiv (od_int (fun _ j h => (of_decide_eq_true h : 0 < j ∧ j < 1073741824)) fun _ _ _ _ => rfl) ha hb
theorem je_pow (ha : JE X XQ a fa) (hb : JE X XQ b fb) : JE X XQ (.BinOp a .Pow b pos) (o2 powD fa fb) := je_op op_pow (od_int (fun i j h => (of_decide_eq_true h : 0 ≤ j ∧ j ≤ 1000000 ∧ i.natAbs < 2 ^ 64)) fun _ _ _ _ => rfl) ha hb
theorem je_lt (ha : JE X XQ a fa) (hb : JE X XQ b fb) : JE X XQ (.Compare a [.Lt] [b] pos) (o2 ltD fa fb) := je_cmp op_lt (od_int0 fun _ _ _ _ => rfl) ha hb (nomark _)
theorem je_le (ha : JE X XQ a fa) (hb : JE X XQ b fb) : JE X XQ (.Compare a [.LtE] [b] pos) (o2 leD fa fb) := je_cmp op_le (od_int0 fun _ _ _ _ => rfl) ha hb (nomark _)
theorem je_gt (ha : JE X XQ a fa) (hb : JE X XQ b fb) : JE X XQ (.Compare a [.Gt] [b] pos) (o2 gtD fa fb) := je_cmp op_gt (od_int0 fun _ _ _ _ => rfl) ha hb (nomark _)
theorem je_ge (ha : JE X XQ a fa) (hb : JE X XQ b fb) : JE X XQ (.Compare a [.GtE] [b] pos) (o2 geD fa fb) := je_cmp op_ge (od_int0 fun _ _ _ _ => rfl) ha hb (nomark _)
theorem jt_lt (ha : JE X XQ a fa) (hb : JE X XQ b fb) : JT X XQ (.Compare a [.Lt] [b] pos) (tb (o2 ltD fa fb)) := jt_cmp op_lt (od_int0 fun _ _ _ _ => rfl) ha hb (nomark _)
theorem jt_le (ha : JE X XQ a fa) (hb : JE X XQ b fb) : JT X XQ (.Compare a [.LtE] [b] pos) (tb (o2 leD fa fb)) := jt_cmp op_le (od_int0 fun _ _ _ _ => rfl) ha hb (nomark _)
theorem jt_gt (ha : JE X XQ a fa) (hb : JE X XQ b fb) : JT X XQ (.Compare a [.Gt] [b] pos) (tb (o2 gtD fa fb)) := jt_cmp op_gt (od_int0 fun _ _ _ _ => rfl) ha hb (nomark _)
theorem jt_ge (ha : JE X XQ a fa) (hb : JE X XQ b fb) : JT X XQ (.Compare a [.GtE] [b] pos) (tb (o2 geD fa fb)) := jt_cmp op_ge (od_int0 fun _ _ _ _ => rfl) ha hb (nomark _)
end

/-! ### + and * -/
def addD (x y : D) (S : Sto) : Out D := match x, y with
  | .int i, .int j => .ok (.int (i + j)) S
  | .str a, .str b => if a.length + b.length ≤ 1000000 then .ok (.str (a ++ b)) S else .bad
  | .lst i, .lst j => match S[i]?, S[j]? with
    | some c, some e => if (c.fz = false ∧ e.fz = false) ∧ c.xs.length + e.xs.length ≤ 1000000 then .ok (.lst S.length) (S ++ [⟨false, c.xs ++ e.xs⟩]) else .bad
    | _, _ => .bad
  | .tup a, .tup b => if a.length + b.length ≤ 1000000 then .ok (.tup (a ++ b)) S else .bad
  | _, _ => .bad
/-- () + u is u itself -/
def rCatE (K : PySem.W.Frag) : R2 := fun x y H Q => ∃ a b ys, x = .ref a ∧ y = .ref b ∧ SqT K H a [] ∧ SqT K H b ys ∧ Q (.ref b) H
theorem op_catE : OpR X (binaryOp .Add) (rCatE X.K) := by
  intro pins s σ H x y v u Q I rx ry ⟨a, b, ys, e1, e2, ha, hb, q⟩
  subst e1 e2
  cases rx; cases ry
  obtain ⟨its, r1, p1, _⟩ := I.tuple ha
  obtain ⟨its2, r2, p2, _⟩ := I.tuple hb
  have ei := r1.nil_iff.mpr rfl
  subst ei
  obtain ⟨⟨cls, dd, data, sl⟩, ho, hc, n, hd⟩ := id p1
  obtain ⟨⟨cls2, dd2, data2, sl2⟩, ho2, hc2, n2, hd2⟩ := id p2
  simp only at hc hd hc2 hd2
  subst hc hd hc2 hd2
  exact concat_meets ⟨_, ho, rfl⟩ ⟨_, ho2, rfl⟩ noFill_tuple_add seq_tuple_add PySem.F.slot_tuple_add PySem.F.entry_tuple_add (PySem.F.args_tuple_add_2 _ _)
    (tuple_addW0 a b [].toArray its2.toArray n n2 dd dd2 sl sl2 (by rfl)) ⟨ho, ho2, ⟨.ref b, H, I, rfl, q⟩⟩
def rAddA (K : PySem.W.Frag) : R2 := fun x y H Q => rI0 (fun i j => .int (i + j)) x y H Q ∨ (∃ i j, x = .str i ∧ y = .str j ∧ i.length + j.length ≤ sizeLine ∧ Q (.str (i ++ j)) H) ∨ rCat x y H Q ∨ rCatT K x y H Q ∨ rCatE K x y H Q
theorem op_addA : OpR X (binaryOp .Add) (rAddA X.K) := op_add.or (op_add_str.or (op_cat.or (op_catT.or op_catE)))
theorem od_add {K : PySem.W.Frag} : OpD K (rAddA K) addD := by
  intro XQ σ ρ mp H S x y v u Q rs rx ry p
  unfold addD at p
  split at p
  · exact .inl ⟨_, _, rx, ry, PostG.ok (R := Rep K) p rs rfl⟩
  · rename_i a b
    by_cases h : a.length + b.length ≤ 1000000
    · rw [if_pos h] at p
      exact .inr (.inl ⟨_, _, rx, ry, line_le h, PostG.ok (R := Rep K) p rs rfl⟩)
    · rw [if_neg h] at p; exact p.elim
  · rename_i i j
    split at p
    · rename_i c e zc ze
      by_cases h : (c.fz = false ∧ e.fz = false) ∧ c.xs.length + e.xs.length ≤ 1000000
      · rw [if_pos h] at p
        obtain ⟨a1, xs, rfl, _, _, q1, f1⟩ := rs.items rx zc
        obtain ⟨a2, ys, rfl, _, _, q2, f2⟩ := rs.items ry ze
        refine .inr (.inr (.inl ⟨a1, a2, xs, ys, rfl, rfl, f1 h.1.1, f2 h.1.2, by rw [q1.len, q2.len]; exact line_le h.2, fun q hq => post_lst p rs (q1.append q2) hq⟩))
      · rw [if_neg h] at p; exact p.elim
    · exact p.elim
  · rename_i a b
    by_cases h : a.length + b.length ≤ 1000000
    · rw [if_pos h] at p
      obtain ⟨a1, xs, rfl, s1, q1⟩ := Rep.tup rx
      obtain ⟨a2, ys, rfl, s2, q2⟩ := Rep.tup ry
      have l1 := q1.len
      have l2 := q2.len
      by_cases he : xs = []
      · subst he
        have ea : a = [] := by cases a with | nil => rfl | cons _ _ => simp at l1
        subst ea
        exact .inr (.inr (.inr (.inr ⟨a1, a2, ys, rfl, rfl, s1, s2, PostG.ok (R := Rep K) p rs ry⟩)))
      · refine .inr (.inr (.inr (.inl ⟨a1, a2, xs, ys, rfl, rfl, s1, s2, he, by rw [l1, l2]; exact line_le h, fun z => ?_, fun _ q hq => post_tup p rs (q1.append q2) hq⟩)))
        subst z
        have eb : b = [] := by cases b with | nil => rfl | cons _ _ => simp at l2
        subst eb
        rw [List.append_nil] at p
        exact PostG.ok (R := Rep K) p rs rx
    · rw [if_neg h] at p; exact p.elim
  · exact p.elim
theorem je_add {a b : Expr} {fa fb : Ev D} {pos : Pos} (ha : JE X XQ a fa) (hb : JE X XQ b fb) : JE X XQ (.BinOp a .Add b pos) (o2 addD fa fb) := je_op op_addA od_add ha hb
def mulD (x y : D) (S : Sto) : Out D := match x, y with
  | .int i, .int j => if (-(2 ^ 64) < i ∧ i < 2 ^ 64) ∨ (-(2 ^ 64) < j ∧ j < 2 ^ 64) then .ok (.int (i * j)) S else .bad
  | .lst i, .int k => match S[i]? with
    | some c => if c.fz = false ∧ (-1000000 ≤ k ∧ k ≤ 1000000) ∧ c.xs.length * k.toNat ≤ 1000000 then .ok (.lst S.length) (S ++ [⟨false, (List.replicate k.toNat c.xs).flatten⟩]) else .bad
    | none => .bad
  | _, _ => .bad
def rMulA : R2 := fun x y H Q => rI CMul (fun i j => .int (i * j)) x y H Q ∨ rRep x y H Q
theorem op_mulA : OpR X (binaryOp .Mult) rMulA := op_mul.or op_rep
theorem RepL.flat {K : PySem.W.Frag} {mp : List Addr} {H : Hp} {l : List D} {vs : List V} (h : RepL K mp H l vs) : ∀ k : Nat, RepL K mp H (List.replicate k l).flatten (List.replicate k vs).flatten
  | 0 => RepL.nil
  | k + 1 => by
    rw [List.replicate_succ, List.replicate_succ, List.flatten_cons, List.flatten_cons]
    exact RepL.append h (RepL.flat h k)
theorem od_mul {K : PySem.W.Frag} : OpD K rMulA mulD := by
  intro XQ σ ρ mp H S x y v u Q rs rx ry p
  unfold mulD at p
  split at p
  · rename_i i j
    by_cases h : (-(2 ^ 64) < i ∧ i < 2 ^ 64) ∨ (-(2 ^ 64) < j ∧ j < 2 ^ 64)
    · rw [if_pos h] at p
      exact .inl ⟨_, _, rx, ry, h, PostG.ok (R := Rep K) p rs rfl⟩
    · rw [if_neg h] at p; exact p.elim
  · rename_i i k
    split at p
    · rename_i c zc
      by_cases h : c.fz = false ∧ (-1000000 ≤ k ∧ k ≤ 1000000) ∧ c.xs.length * k.toNat ≤ 1000000
      · rw [if_pos h] at p
        obtain ⟨a1, xs, rfl, _, _, q1, f1⟩ := rs.items rx zc
        exact .inr ⟨a1, k, xs, rfl, ry, f1 h.1, by omega, by omega, by rw [q1.len]; exact line_le h.2.2, fun q hq => post_lst p rs (q1.flat _) hq⟩
      · rw [if_neg h] at p; exact p.elim
    · exact p.elim
  · exact p.elim
theorem je_mul {a b : Expr} {fa fb : Ev D} {pos : Pos} (ha : JE X XQ a fa) (hb : JE X XQ b fb) : JE X XQ (.BinOp a .Mult b pos) (o2 mulD fa fb) := je_op op_mulA od_mul ha hb
def negD (x : D) (S : Sto) : Out D := match x with
  | .int i => .ok (.int (-i)) S
  | _ => .bad

/-! ### xs[i] -/
def getD (x y : D) (S : Sto) : Out D := match x, y with
  | .tup l, .int i => match atI l i with
    | some d => .ok d S
    | none => .bad
  | .lst k, .int i => match S[k]? with
    | some c => match atI c.xs i with
      | some d => .ok d S
      | none => .bad
    | none => .bad
  | .str z, .int i => if z.length ≤ 1000000 then (match atI z.cps.toList i with
    | some c => .ok (.str ⟨#[c]⟩) S
    | none => .bad) else .bad
  | _, _ => .bad
theorem RepL.atI {K : PySem.W.Frag} {mp : List Addr} {H : Hp} {l : List D} {vs : List V} {i : Int} {d : D} (h : RepL K mp H l vs) (e : L2.atI l i = some d) : ∃ v, L2.atI vs i = some v ∧ Rep K mp H d v := by
  unfold L2.atI at e ⊢
  rw [h.len]
  cases z : ixN l.length i with
  | none => rw [z] at e; cases e
  | some j =>
    rw [z] at e
    exact h.get e
theorem od_get {K : PySem.W.Frag} : OpD K (rIx K) getD := by
  intro XQ σ ρ mp H S x y v u Q rs rx ry p
  unfold getD at p
  split at p
  · rename_i l i
    split at p
    · rename_i d zd
      obtain ⟨a, xs, rfl, sq, q⟩ := Rep.tup rx
      obtain ⟨w, hw, rw'⟩ := q.atI zd
      exact .inr (.inl ⟨a, xs, i, w, rfl, ry, sq, hw, PostG.ok (R := Rep K) p rs rw'⟩)
    · exact p.elim
  · rename_i k i
    split at p
    · rename_i c zc
      split at p
      · rename_i d zd
        obtain ⟨a, xs, rfl, _, sq, q, _⟩ := rs.items rx zc
        obtain ⟨w, hw, rw'⟩ := q.atI zd
        exact .inl ⟨a, xs, i, w, rfl, ry, sq, hw, PostG.ok (R := Rep K) p rs rw'⟩
      · exact p.elim
    · exact p.elim
  · rename_i z i
    by_cases h : z.length ≤ 1000000
    · rw [if_pos h] at p
      split at p
      · rename_i c zc
        exact .inr (.inr ⟨z, i, c, rx, ry, line_le h, zc, PostG.ok (R := Rep K) p rs rfl⟩)
      · exact p.elim
    · rw [if_neg h] at p; exact p.elim
  · exact p.elim
theorem je_get {a b : Expr} {fa fb : Ev D} {pos : Pos} (ha : JE X XQ a fa) (hb : JE X XQ b fb) (hs : PlainIx b := by intro _ _; rfl) : JE X XQ (.Subscript a b pos) (o2 getD fa fb) := je_ix ix_seq od_get ha hb hs
/-- xs[i] = v -/
def setD (x y z : D) (S : Sto) : Option Sto := match x, y with
  | .lst k, .int i => match S[k]? with
    | some c => match ixN c.xs.length i with
      | some j => if c.fz = false then some (S.set k ⟨false, c.xs.set j z⟩) else none
      | none => none
    | none => none
  | _, _ => none
theorem sd_set {K : PySem.W.Frag} : SetD rSetL K setD := by
  intro mp H S S' x y z v u w Q rs rx ry rz e k
  unfold setD at e
  split at e
  · rename_i kk i
    split at e
    · rename_i c zc
      split at e
      · rename_i j zj
        by_cases hf : c.fz = false
        · rw [if_pos hf] at e
          cases (Option.some.inj e)
          obtain ⟨a, xs, rfl, ha, sq, q, f⟩ := rs.items rx zc
          have hH := f hf
          obtain ⟨af, rs'⟩ := rs.setL ha zc hf hH (q.set j rz)
          exact ⟨a, xs, i, j, rfl, ry, hH, by rw [q.len]; exact zj, k _ af rs'⟩
        · rw [if_neg hf] at e; cases e
      · cases e
    · cases e
  · cases e
theorem js_setix {ob ix e : Expr} {f fo fi : Ev D} {pos p2 : Pos} (he : JE X XQ e f) (hob : JE X XQ ob fo) (hix : JE X XQ ix fi)
    (hs : swapsWithSole [.Subscript ob ix p2] e pos.line X.env = pure false := by rfl) (hw : swappedStores [.Subscript ob ix p2] e X.env = pure none := by rfl)
    (h1 : (assignEach [.Subscript ob ix p2] X.env).map (·.2) = [assign (.Subscript ob ix p2) X.env] := by rfl) (ha : ∀ v, assign (.Subscript ob ix p2) X.env v = (do
      let ov ← holding [v] (eval ob X.env)
      let iv ← holding [v, ov] (eval ix X.env)
      standAt p2
      holding [v, ov, iv] (setItem ov iv v)
      release [v, ov, iv] []) := by intro _; rfl) : JS X XQ (.Assign [.Subscript ob ix p2] e pos) (ss f fo fi setD) := js_sub set_list sd_set he hob hix hs hw h1 ha
end
end DL

set_option Elab.async false
set_option linter.all false
set_option maxRecDepth 100000
namespace DL
open PySem PySem.Spec PyProof.Rows L2

section
variable {X : Cx} {XQ : XW}
/-! ### built-ins -/
def BlD (K : PySem.W.Frag) (r : List V → Hp → VK → Prop) (o : List D → Sto → Out D) : Prop :=
  ∀ (XQ : XW) (σ : L2.St) (ρ : Lc) (mp : List Addr) (H : Hp) (S : Sto) (xs : List D) (vs : List V) (Q : VK), RS K mp H S → RepL K mp H xs vs → Post K XQ σ ρ mp H (o xs S) Q → r vs H Q
def b1 (o : List D → Sto → Out D) (f : Ev (List D)) : Ev D := fun ρ S => (f ρ S).bind o
theorem cbR {r : List V → Hp → VK → Prop} {o : List D → Sto → Out D} {f : Ev (List D)} (hd : BlD X.K r o) (σ : L2.St) (H : Hp) (Q : VK) (h : rdE X.K XQ (b1 o f) σ H Q) : tCB r (rdA X.K XQ f) σ H Q := by
  obtain ⟨mp, ρ, S, G, p⟩ := h
  exact bindP G p fun mp1 H1 xs S1 vs a1 G1 r1 p1 => hd XQ σ ρ mp1 H1 S1 xs vs Q G1.rs r1 p1
theorem je_blt {id : String} {x : Str} {p pos : Pos} {e : Expr} {es : List Expr} {r : List V → Hp → VK → Prop} {o : List D → Sto → Out D} {f : Ev (List D)} (hc : CallR X (.builtin id) r) (hd : BlD X.K r o) (hg : Gl X x) (hm : X.mg x = none) (hv : bootBuiltins x = some (.builtin id)) (ha : JA X XQ (e :: es) f) (hn : x ≠ "__name__" := by decide) (hdb : (x == ("__debug__" : Str)) = false := by decide)
    (he : starEach (e :: es) X.env = (false, eval e X.env) :: starEach es X.env := by rfl) (hpl : (backTo pos (starEach es X.env)).any (·.1) = false := by rfl) : JE X XQ (.Call (.Name x p) (e :: es) [] pos) (b1 o f) :=
  PE.mono (pe_callB hc hg hm hv ha hn hdb he hpl) (cbR hd)
theorem je_ty {T : String} {x : Str} {p pos : Pos} {e : Expr} {es : List Expr} {r : List V → Hp → VK → Prop} {o : List D → Sto → Out D} {f : Ev (List D)} (hc : CallR X (.type T) r) (hd : BlD X.K r o) (hg : Gl X x) (hm : X.mg x = none) (hv : bootBuiltins x = some (.type T)) (ha : JA X XQ (e :: es) f) (hn : x ≠ "__name__" := by decide) (hdb : (x == ("__debug__" : Str)) = false := by decide)
    (he : starEach (e :: es) X.env = (false, eval e X.env) :: starEach es X.env := by rfl) (hpl : (backTo pos (starEach es X.env)).any (·.1) = false := by rfl) : JE X XQ (.Call (.Name x p) (e :: es) [] pos) (b1 o f) :=
  PE.mono (pe_callTy hc hg hm hv ha hn hdb he hpl) (cbR hd)
def lenD (xs : List D) (S : Sto) : Out D := match xs with
  | [.str z] => if z.length ≤ 1000000 then .ok (.int z.length) S else .bad
  | [.tup l] => .ok (.int l.length) S
  | [.lst i] => match S[i]? with
    | some c => .ok (.int c.xs.length) S
    | none => .bad
  | _ => .bad
theorem bd_len {K : PySem.W.Frag} : BlD K (fun xs H Q => ∃ x n, xs = [x] ∧ LenV K x H n ∧ Q (.int n) H) lenD := by
  intro XQ σ ρ mp H S xs vs Q rs r p
  unfold lenD at p
  split at p
  · rename_i z
    obtain ⟨v, rfl, h⟩ := RepL.one r
    cases (show v = .str z from h)
    by_cases hz : z.length ≤ 1000000
    · rw [if_pos hz] at p
      exact ⟨_, _, rfl, ⟨line_le hz, rfl⟩, PostG.ok (R := Rep K) p rs rfl⟩
    · rw [if_neg hz] at p; exact p.elim
  · rename_i l
    obtain ⟨v, rfl, h⟩ := RepL.one r
    obtain ⟨a, xs, rfl, sq, q⟩ := Rep.tup h
    exact ⟨_, xs.length, rfl, .inr ⟨xs, sq, rfl⟩, PostG.ok (R := Rep K) p rs (by rw [q.len]; rfl)⟩
  · rename_i i
    obtain ⟨v, rfl, h⟩ := RepL.one r
    split at p
    · rename_i c zc
      obtain ⟨a, xs, rfl, _, sq, q, _⟩ := rs.items h zc
      exact ⟨_, xs.length, rfl, .inl ⟨xs, sq, rfl⟩, PostG.ok (R := Rep K) p rs (by rw [q.len]; rfl)⟩
    · exact p.elim
  · exact p.elim
theorem je_len {p pos : Pos} {e : Expr} {f : Ev (List D)} (hg : Gl X "len") (hm : X.mg "len" = none) (ha : JA X XQ [e] f) (he : starEach [e] X.env = (false, eval e X.env) :: starEach [] X.env := by rfl) : JE X XQ (.Call (.Name "len" p) [e] [] pos) (b1 lenD f) := je_blt call_len bd_len hg hm PySem.boot_len ha (he := he)
def listD (xs : List D) (S : Sto) : Out D := match xs with
  | [.tup l] => .ok (.lst S.length) (S ++ [⟨false, l⟩])
  | [.lst i] => match S[i]? with
    | some c => .ok (.lst S.length) (S ++ [⟨false, c.xs⟩])
    | none => .bad
  | _ => .bad
theorem bd_list {K : PySem.W.Frag} : BlD K (fun xs H Q => ∃ p ys, xs = [.ref p] ∧ (SqL K H p ys ∨ SqT K H p ys) ∧ ∀ l, H l = none → Q (.ref l) (upd H l (.lst ys))) listD := by
  intro XQ σ ρ mp H S xs vs Q rs r p
  unfold listD at p
  split at p
  · obtain ⟨v, rfl, h⟩ := RepL.one r
    obtain ⟨a, xs, rfl, sq, q⟩ := Rep.tup h
    exact ⟨a, xs, rfl, .inr sq, fun l hl => post_lst p rs q hl⟩
  · obtain ⟨v, rfl, h⟩ := RepL.one r
    split at p
    · rename_i c zc
      obtain ⟨a, xs, rfl, _, sq, q, _⟩ := rs.items h zc
      exact ⟨a, xs, rfl, .inl sq, fun l hl => post_lst p rs q hl⟩
    · exact p.elim
  · exact p.elim
def tupD (xs : List D) (S : Sto) : Out D := match xs with
  | [.tup l] => .ok (.tup l) S
  | [.lst i] => match S[i]? with
    | some c => .ok (.tup c.xs) S
    | none => .bad
  | _ => .bad
theorem bd_tuple {K : PySem.W.Frag} : BlD K (fun xs H Q => ∃ p ys, xs = [.ref p] ∧ ((SqL K H p ys ∧ ∀ l, H l = none → Q (.ref l) (upd H l (.tup ys))) ∨ (SqT K H p ys ∧ Q (.ref p) H))) tupD := by
  intro XQ σ ρ mp H S xs vs Q rs r p
  unfold tupD at p
  split at p
  · obtain ⟨v, rfl, h⟩ := RepL.one r
    obtain ⟨a, xs, rfl, sq, q⟩ := Rep.tup h
    exact ⟨a, xs, rfl, .inr ⟨sq, PostG.ok (R := Rep K) p rs h⟩⟩
  · obtain ⟨v, rfl, h⟩ := RepL.one r
    split at p
    · rename_i c zc
      obtain ⟨a, xs, rfl, _, sq, q, _⟩ := rs.items h zc
      exact ⟨a, xs, rfl, .inl ⟨sq, fun l hl => post_tup p rs q hl⟩⟩
    · exact p.elim
  · exact p.elim
theorem je_list {p pos : Pos} {e : Expr} {f : Ev (List D)} (hg : Gl X "list") (hm : X.mg "list" = none) (ha : JA X XQ [e] f) (he : starEach [e] X.env = (false, eval e X.env) :: starEach [] X.env := by rfl) : JE X XQ (.Call (.Name "list" p) [e] [] pos) (b1 listD f) := je_ty call_list_of bd_list hg hm (by rfl) ha (he := he)
theorem je_tuple {p pos : Pos} {e : Expr} {f : Ev (List D)} (hg : Gl X "tuple") (hm : X.mg "tuple" = none) (ha : JA X XQ [e] f) (he : starEach [e] X.env = (false, eval e X.env) :: starEach [] X.env := by rfl) : JE X XQ (.Call (.Name "tuple" p) [e] [] pos) (b1 tupD f) := je_ty call_tuple_of bd_tuple hg hm (by rfl) ha (he := he)
def minD (xs : List D) (S : Sto) : Out D := match xs with
  | [.int i, .int j] => .ok (.int (if j < i then j else i)) S
  | _ => .bad
theorem bd_min {K : PySem.W.Frag} : BlD K (fun xs H Q => ∃ i j, xs = [.int i, .int j] ∧ Q (.int (if j < i then j else i)) H) minD := by
  intro XQ σ ρ mp H S xs vs Q rs r p
  unfold minD at p
  split at p
  · rename_i i j
    obtain ⟨v, w, rfl, h1, h2⟩ := RepL.two r
    cases (show v = .int i from h1); cases (show w = .int j from h2)
    exact ⟨i, j, rfl, PostG.ok (R := Rep K) p rs rfl⟩
  · exact p.elim
theorem je_min {p pos : Pos} {e e' : Expr} {f : Ev (List D)} (hc : X.calm = true) (hg : Gl X "min") (hm : X.mg "min" = none) (ha : JA X XQ [e, e'] f) (he : starEach [e, e'] X.env = (false, eval e X.env) :: starEach [e'] X.env := by rfl) (hpl : (backTo pos (starEach [e'] X.env)).any (·.1) = false := by rfl) : JE X XQ (.Call (.Name "min" p) [e, e'] [] pos) (b1 minD f) := je_blt (call_min2 hc) bd_min hg hm (by rfl) ha (he := he) (hpl := hpl)
def intD (xs : List D) (S : Sto) : Out D := match xs with
  | [.int i] => .ok (.int i) S
  | [.bl b] => .ok (.int (if b then 1 else 0)) S
  | _ => .bad
theorem bd_int {K : PySem.W.Frag} : BlD K (fun xs H Q => (∃ i, xs = [.int i] ∧ Q (.int i) H) ∨ ∃ k, xs = [.bl k] ∧ Q (.int (if k then 1 else 0)) H) intD := by
  intro XQ σ ρ mp H S xs vs Q rs r p
  unfold intD at p
  split at p
  · rename_i i
    obtain ⟨v, rfl, h⟩ := RepL.one r
    cases (show v = .int i from h)
    exact .inl ⟨i, rfl, PostG.ok (R := Rep K) p rs rfl⟩
  · rename_i b
    obtain ⟨v, rfl, h⟩ := RepL.one r
    cases (show v = .bl b from h)
    exact .inr ⟨b, rfl, PostG.ok (R := Rep K) p rs rfl⟩
  · exact p.elim
theorem je_intc {p pos : Pos} {e : Expr} {f : Ev (List D)} (hg : Gl X "int") (hm : X.mg "int" = none) (ha : JA X XQ [e] f) (he : starEach [e] X.env = (false, eval e X.env) :: starEach [] X.env := by rfl) : JE X XQ (.Call (.Name "int" p) [e] [] pos) (b1 intD f) := je_ty call_int1 bd_int hg hm (by rfl) ha (he := he)

/-! ### is None -/
def isnD (x y : D) (S : Sto) : Out D := match x, y with
  | .non, .non => .ok (.bl true) S
  | .bl _, .non => .ok (.bl false) S
  | .int _, .non => .ok (.bl false) S
  | .str _, .non => .ok (.bl false) S
  | .tup _, .non => .ok (.bl false) S
  | .lst _, .non => .ok (.bl false) S
  | _, _ => .bad
def notnD (x y : D) (S : Sto) : Out D := match x, y with
  | .non, .non => .ok (.bl false) S
  | .bl _, .non => .ok (.bl true) S
  | .int _, .non => .ok (.bl true) S
  | .str _, .non => .ok (.bl true) S
  | .tup _, .non => .ok (.bl true) S
  | .lst _, .non => .ok (.bl true) S
  | _, _ => .bad
theorem od_isn {K : PySem.W.Frag} : OpD K (fun x y H Q => y = .non ∧ Q (.bl (decide (x = .non))) H) isnD := by
  intro XQ σ ρ mp H S x y v u Q rs rx ry p
  cases y with
  | non =>
    refine ⟨ry, ?_⟩
    cases x with
    | non => cases (show v = .non from rx); exact PostG.ok (R := Rep K) p rs (by rfl)
    | bl b => cases (show v = .bl b from rx); exact PostG.ok (R := Rep K) p rs (by rfl)
    | int b => cases (show v = .int b from rx); exact PostG.ok (R := Rep K) p rs (by rfl)
    | str b => cases (show v = .str b from rx); exact PostG.ok (R := Rep K) p rs (by rfl)
    | tup l => obtain ⟨a, xs, rfl, _⟩ := Rep.tup rx; exact PostG.ok (R := Rep K) p rs (by rfl)
    | lst i => obtain ⟨a, rfl, _⟩ := (show ∃ a, v = .ref a ∧ mp[i]? = some a from rx); exact PostG.ok (R := Rep K) p rs (by rfl)
  | _ => cases x <;> exact (show False from p).elim
theorem od_notn {K : PySem.W.Frag} : OpD K (fun x y H Q => y = .non ∧ Q (.bl (!decide (x = .non))) H) notnD := by
  intro XQ σ ρ mp H S x y v u Q rs rx ry p
  cases y with
  | non =>
    refine ⟨ry, ?_⟩
    cases x with
    | non => cases (show v = .non from rx); exact PostG.ok (R := Rep K) p rs (by rfl)
    | bl b => cases (show v = .bl b from rx); exact PostG.ok (R := Rep K) p rs (by rfl)
    | int b => cases (show v = .int b from rx); exact PostG.ok (R := Rep K) p rs (by rfl)
    | str b => cases (show v = .str b from rx); exact PostG.ok (R := Rep K) p rs (by rfl)
    | tup l => obtain ⟨a, xs, rfl, _⟩ := Rep.tup rx; exact PostG.ok (R := Rep K) p rs (by rfl)
    | lst i => obtain ⟨a, rfl, _⟩ := (show ∃ a, v = .ref a ∧ mp[i]? = some a from rx); exact PostG.ok (R := Rep K) p rs (by rfl)
  | _ => cases x <;> exact (show False from p).elim
section
variable {a b : Expr} {fa fb : Ev D} {pos : Pos}
theorem je_isn (ha : JE X XQ a fa) (hb : JE X XQ b fb) : JE X XQ (.Compare a [.Is] [b] pos) (o2 isnD fa fb) := je_cmp op_isN od_isn ha hb (nomark _)
theorem jt_isn (ha : JE X XQ a fa) (hb : JE X XQ b fb) : JT X XQ (.Compare a [.Is] [b] pos) (tb (o2 isnD fa fb)) := jt_cmp op_isN od_isn ha hb (nomark _)
theorem je_notn (ha : JE X XQ a fa) (hb : JE X XQ b fb) : JE X XQ (.Compare a [.IsNot] [b] pos) (o2 notnD fa fb) := je_cmp op_notN od_notn ha hb (nomark _)
theorem jt_notn (ha : JE X XQ a fa) (hb : JE X XQ b fb) : JT X XQ (.Compare a [.IsNot] [b] pos) (tb (o2 notnD fa fb)) := jt_cmp op_notN od_notn ha hb (nomark _)
end

/-! ### slices -/
def cutD (xs : List D) (lo hi : Option Int) : List D := (xs.drop (HT.sIx xs.length 0 lo)).take (HT.sIx xs.length xs.length hi - HT.sIx xs.length 0 lo)
theorem RepL.cut {K : PySem.W.Frag} {mp : List Addr} {H : Hp} {l : List D} {vs : List V} (h : RepL K mp H l vs) (lo hi : Option Int) : RepL K mp H (cutD l lo hi) (cutV vs lo hi) := by
  unfold cutD cutV
  rw [h.len]
  exact (h.drop _).take _
def slD (x : D) (lo hi : Option Int) (S : Sto) : Out D := match x with
  | .tup l => if HT.sIx l.length 0 lo = 0 ∧ HT.sIx l.length l.length hi = l.length then .bad else .ok (.tup (cutD l lo hi)) S
  | .lst i => match S[i]? with
    | some c => .ok (.lst S.length) (S ++ [⟨false, cutD c.xs lo hi⟩])
    | none => .bad
  | _ => .bad
def sl (fe : Ev D) (fl fh : Ev (Option Int)) : Ev D := fun ρ S => (fe ρ S).bind fun x S1 => (fl ρ S1).bind fun l S2 => (fh ρ S2).bind fun u S3 => slD x l u S3
def onone : Ev (Option Int) := fun _ S => .ok none S
def osome (f : Ev D) : Ev (Option Int) := fun ρ S => (f ρ S).bind fun x S1 => match x with
  | .int i => .ok (some i) S1
  | _ => .bad
theorem jo_none : JO X XQ none onone := PO.mono po_none fun σ H Q ⟨mp, ρ, S, G, p⟩ => PostG.ok (R := kO) (show PostG X.K kO XQ σ ρ mp H (.ok none S) Q from p) G.rs rfl
theorem jo_some {e : Expr} {f : Ev D} (h : JE X XQ e f) : JO X XQ (some e) (osome f) := PO.mono (po_some h) fun σ H Q ⟨mp, ρ, S, G, p⟩ => bindP G p fun mp1 H1 x S1 v a1 G1 r1 p1 => by
  cases x with
  | int i => exact ⟨i, r1, PostG.ok (R := kO) p1 G1.rs rfl⟩
  | _ => exact (show False from p1).elim
theorem je_slice {e : Expr} {lo hi : Option Expr} {fe : Ev D} {fl fh : Ev (Option Int)} {pos p2 : Pos} (he : JE X XQ e fe) (hl : JO X XQ lo fl) (hh : JO X XQ hi fh) : JE X XQ (.Subscript e (.Slice lo hi none p2) pos) (sl fe fl fh) := by
  refine PE.mono (pe_slice (sl_list.or sl_tup) he hl hh) fun σ H Q ⟨mp, ρ, S, G, p⟩ => ?_
  refine bindP G p fun mp1 H1 x S1 v a1 G1 r1 p1 => ?_
  refine bindP G1 p1 fun mp2 H2 l S2 l' a2 G2 r2 p2 => ?_
  refine bindP G2 p2 fun mp3 H3 u S3 u' a3 G3 r3 p3 => ?_
  cases (show l' = l from r2)
  cases (show u' = u from r3)
  have r1 := Rep.aft (a2.trans a3) _ _ r1
  cases x with
  | tup ds =>
    have p3 : Post X.K XQ σ ρ mp3 H3 (if HT.sIx ds.length 0 l = 0 ∧ HT.sIx ds.length ds.length u = ds.length then .bad else .ok (.tup (cutD ds l u)) S3) Q := p3
    by_cases hw : HT.sIx ds.length 0 l = 0 ∧ HT.sIx ds.length ds.length u = ds.length
    · rw [if_pos hw] at p3; exact p3.elim
    · rw [if_neg hw] at p3
      obtain ⟨a, xs, rfl, sq, q⟩ := Rep.tup r1
      exact .inr ⟨a, xs, rfl, sq, by rw [q.len]; exact hw, fun t ht => post_tup p3 G3.rs (q.cut l u) ht⟩
  | lst i =>
    have p3 : Post X.K XQ σ ρ mp3 H3 (match S3[i]? with | some c => .ok (.lst S3.length) (S3 ++ [⟨false, cutD c.xs l u⟩]) | none => .bad) Q := p3
    cases zc : S3[i]? with
    | none => rw [zc] at p3; exact p3.elim
    | some c =>
      rw [zc] at p3
      obtain ⟨a, xs, rfl, _, sq, q, _⟩ := G3.rs.items r1 zc
      exact .inl ⟨a, xs, rfl, sq, fun t ht => post_lst p3 G3.rs (q.cut l u) ht⟩
  | _ => exact (show False from p3).elim

/-! ### methods of lists -/
def MeD (K : PySem.W.Frag) (r : V → List V → Hp → VK → Prop) (o : D → List D → Sto → Out D) : Prop :=
  ∀ (XQ : XW) (σ : L2.St) (ρ : Lc) (mp : List Addr) (H : Hp) (S : Sto) (x : D) (xs : List D) (v : V) (vs : List V) (Q : VK), RS K mp H S → Rep K mp H x v → RepL K mp H xs vs → Post K XQ σ ρ mp H (o x xs S) Q → r v vs H Q
def isLst (x : D) (S : Sto) : Bool := match x with
  | .lst i => match S[i]? with
    | some _ => true
    | none => false
  | _ => false
def mt (o : D → List D → Sto → Out D) (fo : Ev D) (f : Ev (List D)) : Ev D := fun ρ S => (fo ρ S).bind fun x S1 => if isLst x S1 = true then (f ρ S1).bind fun xs S2 => o x xs S2 else .bad
theorem je_meth {id : String} {name : Str} {o e : Expr} {es : List Expr} {apos cpos : Pos} {r : V → List V → Hp → VK → Prop} {od : D → List D → Sto → Out D} {fo : Ev D} {f : Ev (List D)} (slot : Slot "list" name id) (hty : typeOf (.builtin id) = pure (.type "method_descriptor")) (hm : MtM X id r) (hd : MeD X.K r od) (ho : JE X XQ o fo) (ha : JA X XQ (e :: es) f)
    (hbase : attributeBase o name X.env (eval o X.env) = eval o X.env := by rfl)
    (hfew : ((backTo cpos (starEach (e :: es) X.env)).all (fun x => !x.1) && (backToKw cpos (keywordEach [] X.env)).all (fun x => x.1.isSome)
      && decide ((e :: es).length + ([] : List Keyword).length + (if ([] : List Keyword).isEmpty then 0 else 1) < 30)) = true := by rfl)
    (hline : (apos.endLine == cpos.line) = true := by rfl) (hs : starEach (e :: es) X.env = (false, eval e X.env) :: starEach es X.env := by rfl) (hplain : (backTo cpos (starEach es X.env)).any (·.1) = false := by rfl) :
    JE X XQ (.Call (.Attribute o name apos) (e :: es) [] cpos) (mt od fo f) := by
  refine PE.mono (pe_bm PySem.F.plainAttrs_list slot hty hm ho ha hbase hfew hline hs hplain) fun σ H Q ⟨mp, ρ, S, G, p⟩ => ?_
  refine bindP G p fun mp1 H1 x S1 v a1 G1 r1 p1 => ?_
  by_cases hl : isLst x S1 = true
  · rw [if_pos hl] at p1
    have ty : tyV X.K "list" v H1 := by
      cases x with
      | lst i =>
        cases zc : S1[i]? with
        | none => simp [isLst, zc] at hl
        | some c =>
          obtain ⟨a, xs, rfl, _, sq, _⟩ := G1.rs.items r1 zc
          exact .inl ⟨rfl, xs, sq⟩
      | _ => simp [isLst] at hl
    exact ⟨ty, bindP G1 p1 fun mp2 H2 xs S2 vs a2 G2 r2 p2 => hd XQ σ ρ mp2 H2 S2 x xs v vs Q G2.rs (Rep.aft a2 _ _ r1) r2 p2⟩
  · rw [if_neg hl] at p1; exact p1.elim
def appD (x : D) (xs : List D) (S : Sto) : Out D := match x, xs with
  | .lst i, [d] => match S[i]? with
    | some c => if c.fz = false ∧ c.xs.length < 1000000 then .ok .non (S.set i ⟨false, c.xs ++ [d]⟩) else .bad
    | none => .bad
  | _, _ => .bad
theorem md_app {K : PySem.W.Frag} : MeD K rAppend appD := by
  intro XQ σ ρ mp H S x xs v vs Q rs rx r p
  unfold appD at p
  split at p
  · rename_i i d
    split at p
    · rename_i c zc
      by_cases hc : c.fz = false ∧ c.xs.length < 1000000
      · rw [if_pos hc] at p
        obtain ⟨w, rfl, hw⟩ := RepL.one r
        obtain ⟨a, ys, rfl, ha, sq, q, f⟩ := rs.items rx zc
        have hH := f hc.1
        obtain ⟨af, rs'⟩ := rs.setL ha zc hc.1 hH (RepL.append q (RepL.cons hw RepL.nil))
        exact ⟨a, ys, w, rfl, rfl, hH, by rw [q.len]; exact Nat.lt_of_lt_of_le hc.2 (by decide), p mp _ _ af rs' rfl⟩
      · rw [if_neg hc] at p; exact p.elim
    · exact p.elim
  · exact p.elim
theorem je_append {o e : Expr} {apos cpos : Pos} {fo : Ev D} {f : Ev (List D)} (ho : JE X XQ o fo) (ha : JA X XQ [e] f) (hbase : attributeBase o "append" X.env (eval o X.env) = eval o X.env := by rfl)
    (hfew : ((backTo cpos (starEach [e] X.env)).all (fun x => !x.1) && (backToKw cpos (keywordEach [] X.env)).all (fun x => x.1.isSome)
      && decide ([e].length + ([] : List Keyword).length + (if ([] : List Keyword).isEmpty then 0 else 1) < 30)) = true := by rfl)
    (hline : (apos.endLine == cpos.line) = true := by rfl) (hs : starEach [e] X.env = (false, eval e X.env) :: starEach [] X.env := by rfl) :
    JE X XQ (.Call (.Attribute o "append" apos) [e] [] cpos) (mt appD fo f) := je_meth PySem.F.slot_list_append PySem.F.type_list_append mt_append md_app ho ha hbase hfew hline hs rfl
end
end DL

set_option Elab.async false
set_option linter.all false
set_option maxRecDepth 100000
namespace DL
open PySem PySem.Spec PyProof.Rows L2
section
variable {X : Cx} {XQ : XW}
/-! ### -x -/
theorem ud_neg {K : PySem.W.Frag} : UnD K (rU fun i => .int (-i)) negD := by
  intro XQ σ ρ mp H S x v Q rs rx p
  cases x with
  | int i => exact ⟨i, rx, PostG.ok (R := Rep K) (show Post K XQ σ ρ mp H (.ok (.int (-i)) S) Q from p) rs rfl⟩
  | _ => exact (show False from p).elim
theorem je_neg {a : Expr} {fa : Ev D} {pos : Pos} (ha : JE X XQ a fa) : JE X XQ (.UnaryOp .USub a pos) (o1 negD fa) := je_un un_neg ud_neg ha

/-! ### a op b op c -/
def ch (o o' : D → D → Sto → Out D) (fa fb fc : Ev D) : Ev D := fun ρ S => (fa ρ S).bind fun x S1 => (fb ρ S1).bind fun y S2 => (o x y S2).bind fun z S3 => match z with
  | .bl k => if k = true then (fc ρ S3).bind fun w S4 => o' y w S4 else .ok (.bl false) S3
  | _ => .bad
theorem chainP {K : PySem.W.Frag} {r r' : R2} {o o' : D → D → Sto → Out D} {fa fb fc : Ev D} (hd : OpD K r o) (hd' : OpD K r' o') (σ : L2.St) (H : Hp) (Q : VK) (h : rdE K XQ (ch o o' fa fb fc) σ H Q) : tChain r r' (rdE K XQ fa) (rdE K XQ fb) (rdE K XQ fc) σ H Q := by
  obtain ⟨mp, ρ, S, G, p⟩ := h
  refine bindP G p fun mp1 H1 x S1 v a1 G1 r1 p1 => ?_
  refine bindP G1 p1 fun mp2 H2 y S2 u a2 G2 r2 p2 => ?_
  refine hd XQ σ ρ mp2 H2 S2 x y v u _ G2.rs (Rep.aft a2 _ _ r1) r2 ?_
  cases z : o x y S2 with
  | bad => rw [z] at p2; exact p2
  | exc e S3 => rw [z] at p2; exact p2
  | ok d S3 =>
    rw [z] at p2
    intro mp3 H3 zv a3 rs3 r3
    have p3 := PostG.aft p2 a3
    have G3 := G2.aft a3 rs3
    cases d with
    | bl k =>
      refine ⟨k, r3, ?_⟩
      cases k with
      | true => exact (if_pos rfl).mpr (bindP (f := fc) G3 (by simpa [Out.bind] using p3) fun mp4 H4 w S4 wv a4 G4 r4 p4 => hd' XQ σ ρ mp4 H4 S4 y w u wv Q G4.rs (Rep.aft (a3.trans a4) _ _ r2) r4 p4)
      | false => exact (if_neg Bool.false_ne_true).mpr (PostG.ok (R := Rep K) (d := .bl false) (S := S3) (by simpa [Out.bind] using p3) G3.rs rfl)
    | _ => exact (show False from p3).elim
theorem je_chain {a b c : Expr} {op op' : CmpOp} {r r' : R2} {o o' : D → D → Sto → Out D} {fa fb fc : Ev D} {pos : Pos} (ho : OpR X (compareOp op) r) (hd : OpD X.K r o) (ho' : OpR X (compareOp op') r') (hd' : OpD X.K r' o') (ha : JE X XQ a fa) (hb : JE X XQ b fb) (hc : JE X XQ c fc)
    (hm : lastMarks [op, op'] [b, c] = false := by with_unfolding_all rfl) : JE X XQ (.Compare a [op, op'] [b, c] pos) (ch o o' fa fb fc) := PE.mono (pe_chain ho ho' ha hb hc hm) (chainP hd hd')
theorem jt_chain {a b c : Expr} {op op' : CmpOp} {r r' : R2} {o o' : D → D → Sto → Out D} {fa fb fc : Ev D} {pos : Pos} (ho : OpR X (compareOp op) r) (hd : OpD X.K r o) (ho' : OpR X (compareOp op') r') (hd' : OpD X.K r' o') (ha : JE X XQ a fa) (hb : JE X XQ b fb) (hc : JE X XQ c fc)
    (hm : lastMarks [op, op'] [b, c] = false := by with_unfolding_all rfl) : JT X XQ (.Compare a [op, op'] [b, c] pos) (tb (ch o o' fa fb fc)) := PT.mono (pt_chain ho ho' ha hb hc hm) fun σ H Q h => chainP hd hd' σ H _ (tb_of h)
theorem od_lt {K : PySem.W.Frag} : OpD K (rI0 fun i j => .bl (decide (i < j))) ltD := od_int0 fun _ _ _ _ => rfl
theorem od_le {K : PySem.W.Frag} : OpD K (rI0 fun i j => .bl (decide (i ≤ j))) leD := od_int0 fun _ _ _ _ => rfl
theorem od_gt {K : PySem.W.Frag} : OpD K (rI0 fun i j => .bl (decide (j < i))) gtD := od_int0 fun _ _ _ _ => rfl
theorem od_ge {K : PySem.W.Frag} : OpD K (rI0 fun i j => .bl (decide (j ≤ i))) geD := od_int0 fun _ _ _ _ => rfl

/-! ### is True, is not False .. : bools alone -/
def isbD (x y : D) (S : Sto) : Out D := match x, y with
  | .bl a, .bl b => .ok (.bl (a == b)) S
  | _, _ => .bad
def notbD (x y : D) (S : Sto) : Out D := match x, y with
  | .bl a, .bl b => .ok (.bl (!(a == b))) S
  | _, _ => .bad
def rIsB : R2 := fun x y H Q => ∃ a b, x = .bl a ∧ y = .bl b ∧ Q (.bl (a == b)) H
def rNotB : R2 := fun x y H Q => ∃ a b, x = .bl a ∧ y = .bl b ∧ Q (.bl (!(a == b))) H
theorem op_isB : OpR X (compareOp .Is) rIsB := by
  intro pins s σ H x y v u Q I rx ry ⟨a, b, e1, e2, q⟩
  subst e1 e2
  cases rx; cases ry
  exact PyProof.Rows.is_bool ⟨.bl (a == b), H, I, rfl, q⟩
theorem op_notB : OpR X (compareOp .IsNot) rNotB := by
  intro pins s σ H x y v u Q I rx ry ⟨a, b, e1, e2, q⟩
  subst e1 e2
  cases rx; cases ry
  first
    | exact PyProof.Rows.isnot_bool ⟨.bl (!(a == b)), H, I, rfl, q⟩
    | (cases a <;> cases b <;> first | exact wpAny_isNot_other (by rfl) (by intro x; cases x) ⟨.bl true, H, I, rfl, q⟩ | exact PyProof.Rows.isnot_self (by rfl) ⟨.bl false, H, I, rfl, q⟩ | exact PySem.wpAny_isNot_self (by rfl) ⟨.bl false, H, I, rfl, q⟩ | exact PySem.wpAny_isNot_plain (by rfl) ⟨.bl _, H, I, rfl, q⟩)
theorem od_isb {K : PySem.W.Frag} : OpD K rIsB isbD := by
  intro XQ σ ρ mp H S x y v u Q rs rx ry p
  cases x with
  | bl a => cases y with
    | bl b => exact ⟨a, b, rx, ry, PostG.ok (R := Rep K) (show Post K XQ σ ρ mp H (.ok (.bl (a == b)) S) Q from p) rs rfl⟩
    | _ => exact (show False from p).elim
  | _ => cases y <;> exact (show False from p).elim
theorem od_notb {K : PySem.W.Frag} : OpD K rNotB notbD := by
  intro XQ σ ρ mp H S x y v u Q rs rx ry p
  cases x with
  | bl a => cases y with
    | bl b => exact ⟨a, b, rx, ry, PostG.ok (R := Rep K) (show Post K XQ σ ρ mp H (.ok (.bl (!(a == b))) S) Q from p) rs rfl⟩
    | _ => exact (show False from p).elim
  | _ => cases y <;> exact (show False from p).elim
section
variable {a b : Expr} {fa fb : Ev D} {pos : Pos}
theorem je_isb (ha : JE X XQ a fa) (hb : JE X XQ b fb) : JE X XQ (.Compare a [.Is] [b] pos) (o2 isbD fa fb) := je_cmp op_isB od_isb ha hb (nomark _)
theorem jt_isb (ha : JE X XQ a fa) (hb : JE X XQ b fb) : JT X XQ (.Compare a [.Is] [b] pos) (tb (o2 isbD fa fb)) := jt_cmp op_isB od_isb ha hb (nomark _)
theorem je_notb (ha : JE X XQ a fa) (hb : JE X XQ b fb) : JE X XQ (.Compare a [.IsNot] [b] pos) (o2 notbD fa fb) := je_cmp op_notB od_notb ha hb (nomark _)
theorem jt_notb (ha : JE X XQ a fa) (hb : JE X XQ b fb) : JT X XQ (.Compare a [.IsNot] [b] pos) (tb (o2 notbD fa fb)) := jt_cmp op_notB od_notb ha hb (nomark _)
end
end
end DL

set_option Elab.async false
set_option linter.all false
set_option maxRecDepth 100000
namespace DL
open PySem PySem.Spec PyProof.Rows L2
/-! ### isinstance of a built-in type -/
def tyN : D → String
  | .non => "NoneType"
  | .bl _ => "bool"
  | .int _ => "int"
  | .str _ => "str"
  | .tup _ => "tuple"
  | .lst _ => "list"
def isT (T t : String) : Bool := t == T || (T == "int" && t == "bool")
def isD (T : String) (x : D) (S : Sto) : Out D := .ok (.bl (isT T (tyN x))) S
def Kit (K : PySem.W.Frag) (T : String) : Prop := ∀ t ∈ ["NoneType", "bool", "int", "str", "tuple", "list"], PySem.W.kitOne K (.type t) (.type T) = some (isT T t)
theorem kit_int {K : PySem.W.Frag} : Kit K "int" := by intro t h; simp only [List.mem_cons, List.mem_nil_iff, or_false] at h; rcases h with rfl | rfl | rfl | rfl | rfl | rfl <;> first | rfl | decide +kernel | (with_unfolding_all rfl)
theorem kit_bool {K : PySem.W.Frag} : Kit K "bool" := by intro t h; simp only [List.mem_cons, List.mem_nil_iff, or_false] at h; rcases h with rfl | rfl | rfl | rfl | rfl | rfl <;> first | rfl | decide +kernel | (with_unfolding_all rfl)
theorem kit_tuple {K : PySem.W.Frag} : Kit K "tuple" := by intro t h; simp only [List.mem_cons, List.mem_nil_iff, or_false] at h; rcases h with rfl | rfl | rfl | rfl | rfl | rfl <;> first | rfl | decide +kernel | (with_unfolding_all rfl)
theorem kit_str {K : PySem.W.Frag} : Kit K "str" := by intro t h; simp only [List.mem_cons, List.mem_nil_iff, or_false] at h; rcases h with rfl | rfl | rfl | rfl | rfl | rfl <;> first | rfl | decide +kernel | (with_unfolding_all rfl)
theorem kit_list {K : PySem.W.Frag} : Kit K "list" := by intro t h; simp only [List.mem_cons, List.mem_nil_iff, or_false] at h; rcases h with rfl | rfl | rfl | rfl | rfl | rfl <;> first | rfl | decide +kernel | (with_unfolding_all rfl)
section
variable {X : Cx} {XQ : XW}
def rIsi (K : PySem.W.Frag) (T : String) : List V → Hp → VK → Prop := fun vs H Q => ∃ x t, vs = [x, .ty T] ∧ (match x with
  | .non => t = "NoneType" | .bl _ => t = "bool" | .int _ => t = "int" | .str _ => t = "str"
  | .ref a => (t = "tuple" ∧ ∃ xs, SqT K H a xs) ∨ (t = "list" ∧ ∃ xs, SqL K H a xs)
  | _ => False) ∧ Q (.bl (isT T t)) H
theorem call_isi {T : String} (k : Kit X.K T) : CallR X (.builtin "isinstance") (rIsi X.K T) := by
  intro pins s σ H xs us Q I r ⟨x, t, e, h, q⟩
  subst e
  obtain ⟨u, w, rfl, ru, rw'⟩ := Vals.two r
  cases (show w = Value.type T from rw')
  have fin : ∀ tk, EP X pins σ Q (.bool (isT T t)) { s with toks := tk } := fun tk => ⟨.bl _, H, I.tok tk, rfl, q⟩
  cases x with
  | non => cases (show u = Value.none from ru); cases (show t = "NoneType" from h); exact PySem.W.kia_one PySem.W.kitx_none I.kIn True.intro (k _ (by decide)) (fun z => nomatch z) fin
  | bl y => cases (show u = Value.bool y from ru); cases (show t = "bool" from h); exact PySem.W.kia_one PySem.W.kitx_bool I.kIn True.intro (k _ (by decide)) (fun z => nomatch z) fin
  | int i => obtain ⟨tk, e⟩ := (show ∃ t, u = Value.int i t from ru); cases e; cases (show t = "int" from h); exact PySem.W.kia_one PySem.W.kitx_int I.kIn True.intro (k _ (by decide)) (fun z => nomatch z) fin
  | str y => obtain ⟨tk, e⟩ := (show ∃ t, u = Value.str y t from ru); cases e; cases (show t = "str" from h); exact PySem.W.kia_one PySem.W.kitx_str I.kIn True.intro (k _ (by decide)) (fun z => nomatch z) fin
  | ref a =>
    cases (show u = Value.ref a from ru)
    rcases h with ⟨rfl, xs, sq⟩ | ⟨rfl, xs, sq⟩
    · obtain ⟨its, _, ⟨o, h1, h2, _⟩, _⟩ := I.tuple sq
      exact PySem.W.kia_one PySem.W.kitx_tuple I.kIn ⟨o, h1, h2⟩ (k _ (by decide)) (fun z => nomatch z) fin
    · obtain ⟨its, _, ⟨o, n, h1, h2, _⟩, _⟩ := I.list sq
      exact PySem.W.kia_one PySem.W.kitx_list I.kIn ⟨o, h1, h2⟩ (k _ (by decide)) (fun z => nomatch z) fin
  | _ => exact h.elim
theorem je_isi {T : String} {x : Str} {e : Expr} {f : Ev D} {p p2 pos : Pos} (k : Kit X.K T) (hv : bootBuiltins x = some (.type T)) (hnx : x ≠ "__name__") (hdx : (x == ("__debug__" : Str)) = false) (hg : Gl X "isinstance") (hm : X.mg "isinstance" = none) (hgt : Gl X x) (hmt : X.mg x = none) (he : JE X XQ e f)
    (hs : starEach [e, .Name x p2] X.env = (false, eval e X.env) :: starEach [.Name x p2] X.env) (hpl : (backTo pos (starEach [.Name x p2] X.env)).any (·.1) = false) (hs2 : starEach [.Name x p2] X.env = (false, eval (.Name x p2) X.env) :: starEach [] X.env) :
    JE X XQ (.Call (.Name "isinstance" p) [e, .Name x p2] [] pos) (o1 (isD T) f) := by
  refine PE.mono (pe_callB (call_isi k) hg hm (by rfl) (pa_cons he (pa_cons (pe_bltn hgt hmt hv (v := .ty T) rfl hnx hdx) pa_nil hs2) hs) (by decide) (by decide) hs hpl) fun σ H Q ⟨mp, ρ, S, G, q⟩ => ?_
  refine bindP G q fun mp1 H1 d S1 v a1 G1 r1 p1 => ?_
  refine ⟨v, tyN d, rfl, ?_, PostG.ok (R := Rep X.K) (show Post X.K XQ σ ρ mp1 H1 (.ok (.bl (isT T (tyN d))) S1) Q from p1) G1.rs rfl⟩
  cases d with
  | non => cases (show v = .non from r1); exact rfl
  | bl b => cases (show v = .bl b from r1); exact rfl
  | int b => cases (show v = .int b from r1); exact rfl
  | str b => cases (show v = .str b from r1); exact rfl
  | tup l => obtain ⟨a, xs, rfl, sq, _⟩ := Rep.tup r1; exact .inl ⟨rfl, xs, sq⟩
  | lst i =>
    obtain ⟨a, rfl, ha⟩ := (show ∃ a, v = .ref a ∧ mp1[i]? = some a from r1)
    have hl : i < S1.length := by rw [← G1.rs.len]; exact (List.getElem?_eq_some_iff.mp ha).1
    obtain ⟨a2, xs, e2, _, sq, _⟩ := G1.rs.items r1 (List.getElem?_eq_getElem hl)
    cases e2
    exact .inr ⟨rfl, xs, sq⟩
end
end DL

set_option Elab.async false
set_option linter.all false
set_option maxRecDepth 100000
namespace DL
open PySem PySem.Spec PyProof.Rows L2
section
variable {X : Cx} {XQ : XW}
/-! ### all of a list of bools -/
def blsOf : List D → Option (List Bool)
  | [] => some []
  | .bl b :: l => match blsOf l with
    | some r => some (b :: r)
    | none => none
  | _ :: _ => none
def allD (xs : List D) (S : Sto) : Out D := match xs with
  | [.lst i] => match S[i]? with
    | some c => match blsOf c.xs with
      | some bs => .ok (.bl (bs.all id)) S
      | none => .bad
    | none => .bad
  | _ => .bad
theorem bls_rep {K : PySem.W.Frag} {mp : List Addr} {H : Hp} : ∀ {l : List D} {vs : List V} {bs : List Bool}, RepL K mp H l vs → blsOf l = some bs → vs = bs.map V.bl
  | [], vs, bs, h, e => by cases (show vs = [] from h); cases (Option.some.inj e); rfl
  | .bl b :: l, vs, bs, h, e => by
    obtain ⟨v, r, rfl, h1, h2⟩ := (show ∃ v r, vs = v :: r ∧ Rep K mp H (.bl b) v ∧ RepL K mp H l r from h)
    cases (show v = .bl b from h1)
    cases z : blsOf l with
    | none => simp [blsOf, z] at e
    | some q =>
      simp only [blsOf, z] at e
      cases (Option.some.inj e)
      rw [bls_rep h2 z]
      rfl
  | .non :: l, vs, bs, h, e => by cases e
  | .int _ :: l, vs, bs, h, e => by cases e
  | .str _ :: l, vs, bs, h, e => by cases e
  | .tup _ :: l, vs, bs, h, e => by cases e
  | .lst _ :: l, vs, bs, h, e => by cases e
theorem vals_bls : ∀ {bs : List Bool} {us : List Value}, Vals (bs.map V.bl) us → us = bs.map Value.bool
  | [], us, h => by cases h; rfl
  | b :: r, us, h => by
    cases h with
    | cons h1 h2 =>
      cases (show _ = Value.bool b from h1)
      rw [vals_bls h2]
      rfl
theorem all_range (bs : List Bool) : ((List.range bs.length).all fun i => bs.getD i true) = bs.all id := by
  rw [Bool.eq_iff_iff, List.all_eq_true, List.all_eq_true]
  constructor
  · intro h b hb
    obtain ⟨i, hi, e⟩ := List.getElem_of_mem hb
    have := h i (List.mem_range.mpr hi)
    rw [List.getD_eq_getElem?_getD, List.getElem?_eq_getElem hi] at this
    simpa [e] using this
  · intro h i hi
    have hi := List.mem_range.mp hi
    rw [List.getD_eq_getElem?_getD, List.getElem?_eq_getElem hi]
    exact h _ (List.getElem_mem hi)
theorem call_all_bls (hc : X.calm = true) : CallR X (.builtin "all") (fun xs H Q => ∃ (p : Addr) (bs : List Bool), xs = [.ref p] ∧ SqL X.K H p (bs.map V.bl) ∧ Q (.bl (bs.all id)) H) := by
  intro pins s σ H xs us Q I r ⟨p, bs, e, sq, q⟩
  subst e
  obtain ⟨u, rfl, ru⟩ := r.one
  cases (show u = Value.ref p from ru)
  obtain ⟨its, rv, pl, hz⟩ := I.list sq
  have ei := vals_bls rv
  subst ei
  have hl := pl.isList
  refine call_all_walk (wpAny_pyIter_list hl ?_)
  have hne : p ≠ s.heap.objs.size := by
    obtain ⟨o, n, ho, _⟩ := pl
    exact Nat.ne_of_lt (Heap.lt_size ho)
  refine ⟨s.heap.objs.size, [s.heap.objs.size, p], [s.heap.objs.size], _, _, _, fun i => bs.getD i true, rfl, Walks.list (by exact I.ok.hd hc) s.heap.objs.size p hne (bs.map Value.bool).toArray, ⟨⟨_, Heap.get?_push_size _ rfl, rfl, rfl⟩, hl.push _⟩, fun i v s' Q' E' hP hQ' => ?_, fun h' tk hk => ?_⟩
  · have hP : (bs.map Value.bool)[i]? = some v := by simpa using hP
    rw [List.getElem?_map] at hP
    cases z : bs[i]? with
    | none => rw [z] at hP; cases hP
    | some b =>
      rw [z] at hP
      cases (Option.some.inj hP)
      refine wpAny_truthy_bool ?_
      have e : bs.getD i true = b := by rw [List.getD_eq_getElem?_getD, z]; rfl
      have hQ2 : Q' (bs.getD i true) s' := hQ'
      rw [e] at hQ2
      exact hQ2
  · have hs : ((List.range (bs.map Value.bool).toArray.size).all fun i => bs.getD i true) = bs.all id := by simpa using all_range bs
    rw [hs]
    refine ⟨.bl _, H, I.kept (h' := h') (t' := tk) fun b o e => hk b o (fun z => absurd (Heap.lt_size e) (by rw [show b = s.heap.objs.size from List.mem_singleton.mp z]; exact Nat.lt_irrefl _)) (Heap.get?_push_of_some _ e), rfl, q⟩
theorem bd_all {K : PySem.W.Frag} : BlD K (fun xs H Q => ∃ (p : Addr) (bs : List Bool), xs = [.ref p] ∧ SqL K H p (bs.map V.bl) ∧ Q (.bl (bs.all id)) H) allD := by
  intro XQ σ ρ mp H S xs vs Q rs r p
  unfold allD at p
  split at p
  · obtain ⟨v, rfl, h⟩ := RepL.one r
    split at p
    · rename_i c zc
      split at p
      · rename_i bs zb
        obtain ⟨a, xs, rfl, _, sq, q, _⟩ := rs.items h zc
        rw [bls_rep q zb] at sq
        exact ⟨a, bs, rfl, sq, PostG.ok (R := Rep K) p rs rfl⟩
      · exact p.elim
    · exact p.elim
  · exact p.elim
theorem je_all {p pos : Pos} {e : Expr} {f : Ev (List D)} (hc : X.calm = true) (hg : Gl X "all") (hm : X.mg "all" = none) (ha : JA X XQ [e] f) (he : starEach [e] X.env = (false, eval e X.env) :: starEach [] X.env := by rfl) : JE X XQ (.Call (.Name "all" p) [e] [] pos) (b1 allD f) := je_blt (call_all_bls hc) bd_all hg hm (by rfl) ha (he := he)

/-! ### a, b = x, y -/
def spar (i j : Nat) (f : Ev (List D)) : Sv := fun ρ S => bindS (f ρ S) ρ fun ds S1 => match ds with
  | [d, e] => .nx ((ρ.set i (some d)).set j (some e)) S1
  | _ => .bad
theorem js_par (i j : Nat) {x y : Str} {a b : Expr} {f : Ev (List D)} {px py pt pos : Pos} {kt k2 pt2} (hc : X.calm = true) (hN : X.N.Nodup) (hi : X.N[i]? = some x) (hj : X.N[j]? = some y) (hij : i ≠ j)
    (hx : X.env.scope.names.lookup x = some .local) (hy : X.env.scope.names.lookup y = some .local) (ha : JA X XQ [a, b] f)
    (hw : swappedStores [.Tuple [.Name x px, .Name y py] kt pt] (.Tuple [a, b] k2 pt2) X.env = pure (some [x, y]))
    (hs : swapsWithSole [.Tuple [.Name x px, .Name y py] kt pt] (.Tuple [a, b] k2 pt2) pos.line X.env = pure false := by rfl) :
    JS X XQ (.Assign [.Tuple [.Name x px, .Name y py] kt pt] (.Tuple [a, b] k2 pt2) pos) (spar i j f) := by
  refine PS.mono (ps_par hc hN hi hj hij hx hy ha hw hs) fun E σ H ⟨mp, ρ, S, G, p⟩ => ?_
  refine bindSP G p fun mp1 H1 ds S1 vs a1 G1 r1 p1 => ?_
  split at p1
  · obtain ⟨v, w, rfl, h1, h2⟩ := RepL.two r1
    exact ⟨v, w, rfl, PostS.nx p1 ((G1.set i h1).set j h2)⟩
  · exact p1.elim
end
end DL

set_option Elab.async false
set_option linter.all false
set_option maxRecDepth 100000
namespace DL
open PySem PySem.Spec PyProof.Rows L2
section
variable {X : Cx} {XQ : XW}
/-- a built-in over data, whatever the rule below is -/
def CallX (X : Cx) (id : String) (o : List D → Sto → Out D) : Prop :=
  ∀ (pins : List (Addr × Obj)) (s : Shared) (σ : L2.St) (ρ : Lc) (XQ : XW) (mp : List Addr) (H : Hp) (S : Sto) (ds : List D) (vs : List V) (us : List Value) (Q : VK), Inv X pins σ H s → RS X.K mp H S → RepL X.K mp H ds vs → Vals vs us → Post X.K XQ σ ρ mp H (o ds S) Q →
    (∀ (e : XD) (S' : Sto), o ds S ≠ .exc e S') → wpAny (model X.prog X.w) X.A (call (.builtin id) us) (EP X pins σ Q) X.xe s
theorem je_bltX {id : String} {x : Str} {p pos : Pos} {e : Expr} {es : List Expr} {o : List D → Sto → Out D} {f : Ev (List D)} (hc : CallX X id o) (hno : ∀ ds S e S', o ds S ≠ .exc e S') (hg : Gl X x) (hm : X.mg x = none) (hv : bootBuiltins x = some (.builtin id)) (ha : JA X XQ (e :: es) f) (hn : x ≠ "__name__" := by decide) (hdb : (x == ("__debug__" : Str)) = false := by decide)
    (he : starEach (e :: es) X.env = (false, eval e X.env) :: starEach es X.env := by rfl) (hpl : (backTo pos (starEach es X.env)).any (·.1) = false := by rfl) : JE X XQ (.Call (.Name x p) (e :: es) [] pos) (b1 o f) := by
  intro pins s σ H Q I ⟨mp, ρ, S, G, q⟩
  refine wpAny_Call_Name_kw (ld_blt I hg hm hv ?_ hn hdb)
  refine PyProof.Rows.callWith_builtin1 (thn (ha pos pins s σ H _ I (bindP G q fun mp1 H1 ds S1 vs a1 G1 r1 p1 => (⟨mp1, ρ, S1, ds, G1, r1, p1⟩ : ∃ mp1 ρ S1 ds, Gd X.K mp1 H1 σ ρ S1 ∧ RepL X.K mp1 H1 ds vs ∧ Post X.K XQ σ ρ mp1 H1 (o ds S1) Q))) fun us s1 ⟨vs, H1, I1, rv, mp1, ρ1, S1, ds, G1, r1, p1⟩ => ?_) he hpl
  exact hc pins s1 σ ρ1 XQ mp1 H1 S1 ds vs us Q I1 G1.rs r1 rv p1 (hno _ _)
def reprD (xs : List D) (S : Sto) : Out D := match xs with
  | [.non] => .ok (.str "None") S
  | [.bl b] => .ok (.str (if b then "True" else "False")) S
  | [.int i] => if i.natAbs.log2 < 1920 then .ok (.str (toString i)) S else .bad
  | [.str x] => if (reprText x).length ≤ 1000000 then .ok (.str (reprText x)) S else .bad
  | [d] => match toP S 40 d with
    | some p => if (p.showable && !p.hasDict && decide (p.depth ≤ 60)) = true ∧ p.shown.length ≤ 1000000 then .ok (.str p.shown) S else .bad
    | none => .bad
  | _ => .bad
theorem repr_no (ds : List D) (S : Sto) (e : XD) (S' : Sto) : reprD ds S ≠ .exc e S' := by
  unfold reprD
  split <;> (try split) <;> (try split) <;> exact fun z => nomatch z
theorem repr_ok {k : Nat} (hr : Room k X.A) : CallX X "repr" reprD := by
  intro pins s σ ρ XQ mp H S ds vs us Q I rs r rv p hno
  clear hno
  have big : ∀ (d : D) (v : V) (a : Addr) (u : Value), Rep X.K mp H d v → v = .ref a → RelV v u → Post X.K XQ σ ρ mp H (match toP S 40 d with
      | some p => if (p.showable && !p.hasDict && decide (p.depth ≤ 60)) = true ∧ p.shown.length ≤ 1000000 then .ok (.str p.shown) S else .bad
      | none => .bad) Q → wpAny (model X.prog X.w) X.A (call (.builtin "repr") [u]) (EP X pins σ Q) X.xe s := by
    intro d v a u rd ev ru p
    subst ev
    cases z : toP S 40 d with
    | none => rw [z] at p; exact p.elim
    | some q =>
      rw [z] at p
      by_cases h : (q.showable && !q.hasDict && decide (q.depth ≤ 60)) = true ∧ q.shown.length ≤ 1000000
      · have p : Post X.K XQ σ ρ mp H (.ok (.str q.shown) S) Q := by simpa only [if_pos h] using p
        obtain ⟨as, ra⟩ := readsP I rs 40 d _ u q rd ru z
        cases (show u = Value.ref a from ru)
        have h1 := h.1
        rw [Bool.and_eq_true, Bool.and_eq_true] at h1
        have hd : q.depth ≤ 60 := of_decide_eq_true h1.2
        have hu := hr.units
        refine repr_of_reads' ra h1.1.1 (fun z => by rw [z] at h1; simp at h1) hr.gd (by omega) (fun _ _ e => e) (fun h' u' tk hk => ?_) (line_le h.2)
        exact ⟨.str q.shown, H, I.kept (h' := h') (t' := tk) hk, ⟨_, rfl⟩, PostG.ok p rs rfl⟩
      · simp only [if_neg h] at p; exact p.elim
  unfold reprD at p
  split at p
  · obtain ⟨v, rfl, h⟩ := RepL.one r
    obtain ⟨u, rfl, ru⟩ := Vals.one rv
    cases (show v = .non from h); cases (show u = Value.none from ru)
    exact PySem.P.repr_of_none ⟨.str "None", H, I.tok _, ⟨_, rfl⟩, PostG.ok (R := Rep X.K) p rs rfl⟩
  · rename_i b
    obtain ⟨v, rfl, h⟩ := RepL.one r
    obtain ⟨u, rfl, ru⟩ := Vals.one rv
    cases (show v = .bl b from h); cases (show u = Value.bool b from ru)
    exact PySem.P.repr_of_bool ⟨.str _, H, I.tok _, ⟨_, rfl⟩, PostG.ok (R := Rep X.K) p rs (by cases b <;> rfl)⟩
  · rename_i i
    obtain ⟨v, rfl, h⟩ := RepL.one r
    obtain ⟨u, rfl, ru⟩ := Vals.one rv
    cases (show v = .int i from h); obtain ⟨t, rfl⟩ := (show ∃ t, u = Value.int i t from ru)
    by_cases hi : i.natAbs.log2 < 1920
    · rw [if_pos hi] at p
      exact PySem.P.repr_of_int hi ⟨.str _, H, I.tok _, ⟨_, rfl⟩, PostG.ok (R := Rep X.K) p rs rfl⟩
    · rw [if_neg hi] at p; exact p.elim
  · rename_i x
    obtain ⟨v, rfl, h⟩ := RepL.one r
    obtain ⟨u, rfl, ru⟩ := Vals.one rv
    cases (show v = .str x from h); obtain ⟨t, rfl⟩ := (show ∃ t, u = Value.str x t from ru)
    by_cases hi : (reprText x).length ≤ 1000000
    · rw [if_pos hi] at p
      exact PySem.P.repr_of_str ⟨.str _, H, I.tok _, ⟨_, rfl⟩, PostG.ok (R := Rep X.K) p rs rfl⟩ (line_le hi)
    · rw [if_neg hi] at p; exact p.elim
  · rename_i d n1 n2 n3 n4
    obtain ⟨v, rfl, h⟩ := RepL.one r
    obtain ⟨u, rfl, ru⟩ := Vals.one rv
    cases d with
    | non => exact absurd rfl n1
    | bl b => exact absurd rfl (n2 b)
    | int i => exact absurd rfl (n3 i)
    | str x => exact absurd rfl (n4 x)
    | tup l => obtain ⟨a, xs, ev, _⟩ := Rep.tup h; exact big _ v a u h ev ru p
    | lst i => obtain ⟨a, ev, _⟩ := (show ∃ a, v = .ref a ∧ mp[i]? = some a from h); exact big _ v a u h ev ru p
  · exact p.elim
theorem je_repr {k : Nat} {p pos : Pos} {e : Expr} {f : Ev (List D)} (hr : Room k X.A) (hg : Gl X "repr") (hm : X.mg "repr" = none) (ha : JA X XQ [e] f) (he : starEach [e] X.env = (false, eval e X.env) :: starEach [] X.env := by rfl) : JE X XQ (.Call (.Name "repr" p) [e] [] pos) (b1 reprD f) := je_bltX (repr_ok hr) repr_no hg hm (by rfl) ha (he := he)
end
end DL

set_option Elab.async false
set_option linter.all false
set_option maxRecDepth 100000
namespace DL
open PySem PySem.Spec PyProof.Rows L2
section
variable {X : Cx} {XQ : XW}
/-! ### pop(i), insert(i, d) with i from 0 on, extend -/
def popD (x : D) (xs : List D) (S : Sto) : Out D := match x, xs with
  | .lst k, [.int i] => match S[k]? with
    | some c => if c.fz = false ∧ 0 ≤ i ∧ i ≤ 1000000 then (match c.xs[i.toNat]? with
      | some d => .ok d (S.set k ⟨false, c.xs.eraseIdx i.toNat⟩)
      | none => .bad) else .bad
    | none => .bad
  | _, _ => .bad
theorem RepL.erase {K : PySem.W.Frag} {mp : List Addr} {H : Hp} : ∀ {l : List D} {vs : List V} (n : Nat), RepL K mp H l vs → RepL K mp H (l.eraseIdx n) (vs.eraseIdx n)
  | [], vs, n, h => by cases (show vs = [] from h); exact RepL.nil
  | d :: l, vs, 0, h => by
    obtain ⟨v, r, q, h1, h2⟩ := h
    subst q
    exact h2
  | d :: l, vs, n + 1, h => by
    obtain ⟨v, r, q, h1, h2⟩ := h
    subst q
    exact RepL.cons h1 (RepL.erase n h2)
theorem md_pop {K : PySem.W.Frag} : MeD K rPopAt popD := by
  intro XQ σ ρ mp H S x xs v vs Q rs rx r p
  unfold popD at p
  split at p
  · rename_i k i
    split at p
    · rename_i c zc
      by_cases hc : c.fz = false ∧ 0 ≤ i ∧ i ≤ 1000000
      · rw [if_pos hc] at p
        split at p
        · rename_i d zd
          obtain ⟨w, rfl, hw⟩ := RepL.one r
          cases (show w = .int i from hw)
          obtain ⟨a, ys, rfl, ha, sq, q, f⟩ := rs.items rx zc
          have hH := f hc.1
          obtain ⟨y, hy, ry⟩ := q.get zd
          obtain ⟨af, rs'⟩ := rs.setL ha zc hc.1 hH (q.erase i.toNat)
          have hl : i.toNat < ys.length := (List.getElem?_eq_some_iff.mp hy).1
          exact ⟨a, ys, i, i.toNat, y, rfl, rfl, hH, by omega, by omega, seqIndex_of hc.2.1 (by omega), hy, p mp _ _ af rs' (Rep.aft af _ _ ry)⟩
        · exact p.elim
      · rw [if_neg hc] at p; exact p.elim
    · exact p.elim
  · exact p.elim
def rIns : V → List V → Hp → VK → Prop := fun x vs H Q => ∃ l xs i y, x = .ref l ∧ vs = [.int i, y] ∧ H l = some (.lst xs) ∧ 0 ≤ i ∧ i < 2 ^ 63 ∧ xs.length < sizeLine ∧ Q .non (upd H l (.lst (xs.take (min i.toNat xs.length) ++ y :: xs.drop (min i.toNat xs.length))))
theorem mt_ins : MtM X "list.insert" rIns := by
  intro pins s σ H x vs v us Q I rx rv h
  obtain ⟨l, xs, i, y, rfl, rfl, hH, h1, h2, hz, q⟩ := h
  cases rx
  obtain ⟨ui, uy, rfl, ri, ry⟩ := rv.two
  obtain ⟨t, rfl⟩ := ri
  obtain ⟨z, its, n, r, hl, e⟩ := I.lstM hH
  have hlt : ¬ i < 0 := by omega
  refine call_meets F.slot_list_insert ⟨_, e, rfl⟩ F.entry_list_insert (F.args_list_insert_3 _ _ _)
    (PySem.AutoListH.list_insert_list_int_val_1 l its.toArray n i t uy (by rw [fitsIndex_of h1 h2]; decide) (by rw [List.size_toArray]; omega)) ⟨e, ?_⟩
  refine ⟨.non, _, I.lset (its' := its.take (min i.toNat xs.length) ++ uy :: its.drop (min i.toNat xs.length)) hH e ?_ ((r.take _).append (.cons ry (r.drop _))) ?_, rfl, q⟩
  · simp only [hlt, if_false, List.size_toArray, ← hl]
    apply Array.ext'
    simp [hl]
    exact List.take_of_length_le (by simp)
  · rw [List.length_append, List.length_cons, List.length_take, List.length_drop]
    omega
def insD (x : D) (xs : List D) (S : Sto) : Out D := match x, xs with
  | .lst k, [.int i, d] => match S[k]? with
    | some c => if c.fz = false ∧ (0 ≤ i ∧ i ≤ 1000000) ∧ c.xs.length < 1000000 then .ok .non (S.set k ⟨false, c.xs.take (min i.toNat c.xs.length) ++ d :: c.xs.drop (min i.toNat c.xs.length)⟩) else .bad
    | none => .bad
  | _, _ => .bad
theorem md_ins {K : PySem.W.Frag} : MeD K rIns insD := by
  intro XQ σ ρ mp H S x xs v vs Q rs rx r p
  unfold insD at p
  split at p
  · rename_i k i d
    split at p
    · rename_i c zc
      by_cases hc : c.fz = false ∧ (0 ≤ i ∧ i ≤ 1000000) ∧ c.xs.length < 1000000
      · rw [if_pos hc] at p
        obtain ⟨w, w2, rfl, hw, hw2⟩ := RepL.two r
        cases (show w = .int i from hw)
        obtain ⟨a, ys, rfl, ha, sq, q, f⟩ := rs.items rx zc
        have hH := f hc.1
        have l1 := q.len
        rw [← l1] at p
        obtain ⟨af, rs'⟩ := rs.setL ha zc hc.1 hH (RepL.append (q.take (min i.toNat ys.length)) (RepL.cons hw2 (q.drop (min i.toNat ys.length))))
        exact ⟨a, ys, i, w2, rfl, rfl, hH, hc.2.1.1, by omega, by rw [l1]; exact Nat.lt_of_lt_of_le hc.2.2 (by decide), p mp _ _ af rs' rfl⟩
      · rw [if_neg hc] at p; exact p.elim
    · exact p.elim
  · exact p.elim
theorem je_pop {o e : Expr} {apos cpos : Pos} {fo : Ev D} {f : Ev (List D)} (ho : JE X XQ o fo) (ha : JA X XQ [e] f) (hbase : attributeBase o "pop" X.env (eval o X.env) = eval o X.env := by rfl)
    (hfew : ((backTo cpos (starEach [e] X.env)).all (fun x => !x.1) && (backToKw cpos (keywordEach [] X.env)).all (fun x => x.1.isSome)
      && decide ([e].length + ([] : List Keyword).length + (if ([] : List Keyword).isEmpty then 0 else 1) < 30)) = true := by rfl)
    (hline : (apos.endLine == cpos.line) = true := by rfl) (hs : starEach [e] X.env = (false, eval e X.env) :: starEach [] X.env := by rfl) :
    JE X XQ (.Call (.Attribute o "pop" apos) [e] [] cpos) (mt popD fo f) := je_meth PySem.F.slot_list_pop PySem.F.type_list_pop mt_popAt md_pop ho ha hbase hfew hline hs rfl
theorem je_insert {o e e' : Expr} {apos cpos : Pos} {fo : Ev D} {f : Ev (List D)} (ho : JE X XQ o fo) (ha : JA X XQ [e, e'] f) (hbase : attributeBase o "insert" X.env (eval o X.env) = eval o X.env := by rfl)
    (hfew : ((backTo cpos (starEach [e, e'] X.env)).all (fun x => !x.1) && (backToKw cpos (keywordEach [] X.env)).all (fun x => x.1.isSome)
      && decide ([e, e'].length + ([] : List Keyword).length + (if ([] : List Keyword).isEmpty then 0 else 1) < 30)) = true := by rfl)
    (hline : (apos.endLine == cpos.line) = true := by rfl) (hs : starEach [e, e'] X.env = (false, eval e X.env) :: starEach [e'] X.env := by rfl) (hpl : (backTo cpos (starEach [e'] X.env)).any (·.1) = false := by rfl) :
    JE X XQ (.Call (.Attribute o "insert" apos) [e, e'] [] cpos) (mt insD fo f) := je_meth PySem.F.slot_list_insert PySem.F.type_list_insert mt_ins md_ins ho ha hbase hfew hline hs hpl
end
end DL

set_option Elab.async false
set_option linter.all false
namespace DL
open PySem
theorem se_Constant {c j p} {es : List Expr} {env : PySem.Env} : starEach (.Constant c j p :: es) env = (false, eval (.Constant c j p) env) :: starEach es env := rfl
theorem se_Name {x p} {es : List Expr} {env : PySem.Env} : starEach (.Name x p :: es) env = (false, eval (.Name x p) env) :: starEach es env := rfl
theorem se_Tuple {a b p} {es : List Expr} {env : PySem.Env} : starEach (.Tuple a b p :: es) env = (false, eval (.Tuple a b p) env) :: starEach es env := rfl
theorem se_List {a p} {es : List Expr} {env : PySem.Env} : starEach (.List a p :: es) env = (false, eval (.List a p) env) :: starEach es env := rfl
theorem se_Call {f a k p} {es : List Expr} {env : PySem.Env} : starEach (.Call f a k p :: es) env = (false, eval (.Call f a k p) env) :: starEach es env := rfl
theorem se_Subscript {a b p} {es : List Expr} {env : PySem.Env} : starEach (.Subscript a b p :: es) env = (false, eval (.Subscript a b p) env) :: starEach es env := rfl
theorem se_BinOp {a o b p} {es : List Expr} {env : PySem.Env} : starEach (.BinOp a o b p :: es) env = (false, eval (.BinOp a o b p) env) :: starEach es env := rfl
theorem se_UnaryOp {o a p} {es : List Expr} {env : PySem.Env} : starEach (.UnaryOp o a p :: es) env = (false, eval (.UnaryOp o a p) env) :: starEach es env := rfl
theorem se_BoolOp {o a p} {es : List Expr} {env : PySem.Env} : starEach (.BoolOp o a p :: es) env = (false, eval (.BoolOp o a p) env) :: starEach es env := rfl
theorem se_Compare {a o b p} {es : List Expr} {env : PySem.Env} : starEach (.Compare a o b p :: es) env = (false, eval (.Compare a o b p) env) :: starEach es env := rfl
theorem se_IfExp {a b c p} {es : List Expr} {env : PySem.Env} : starEach (.IfExp a b c p :: es) env = (false, eval (.IfExp a b c p) env) :: starEach es env := rfl
theorem se_ListComp {a b c p} {es : List Expr} {env : PySem.Env} : starEach (.ListComp a b c p :: es) env = (false, eval (.ListComp a b c p) env) :: starEach es env := rfl
theorem se_Attribute {a b p} {es : List Expr} {env : PySem.Env} : starEach (.Attribute a b p :: es) env = (false, eval (.Attribute a b p) env) :: starEach es env := rfl
end DL

set_option Elab.async false
set_option linter.all false
set_option maxRecDepth 100000
namespace DL
open PySem PySem.Spec PyProof.Rows L2

/-- a def of the text, as a callee -/
structure Cal (P : Program) (w : World) (K : PySem.W.Frag) (mg : Str → Option Value) (base : Heap) (x : Str) (ps : List Str) (fn : Fn) (j : Nat) : Prop where
  ex : ∃ f fd, FnOk P w K mg base CX0 j f fd ps (spD K ps.length fn) ∧ mg x = some (.ref f) ∧ PySem.W.keepIn K (.ref f) = true ∧ Binds K fd ps []
/-- a def of the text, as it stands behind the top -/
structure Dn (K : PySem.W.Frag) (mg : Str → Option Value) (x : Str) (st : Stmt) (ps : List Str) : Prop where
  ex : ∃ f fd, Fun K x x st f fd ∧ mg x = some (.ref f) ∧ Binds K fd ps []
section
variable {P : Program} {w : World} {K : PySem.W.Frag} {mg : Str → Option Value} {base : Heap}
theorem dn_mk {h : Heap} {x : Str} {st : Stmt} {ps : List Str} {f : Addr} {oc : Value} {od an : Option Addr} {osl : Array (Option Value)} {kV doc pm cdv ct : Value} (X : K.In h) (G : h.Ns mainGlobals mg) (a : PySem.W.nsIn K mainGlobals x = some (some (.ref f)))
    (l : K.lookup f = some ⟨oc, od, .func (PySem.W.fnOf x x (defArgs st) (defBody st) (defScope st) .none kV doc pm an cdv ct), osl⟩) (c : PySem.W.codeIn K cdv x = true) (k : PySem.W.keepIn K (.ref f) = true)
    (hb : ∀ (kV doc pm : Value) (an : Option Addr) (cdv ct : Value) (us : List Value), us.length = ps.length → bindArgs (PySem.W.fnOf x x (defArgs st) (defBody st) (defScope st) .none kV doc pm an cdv ct) ⟨us, []⟩ = pure (ps.zip us)) : Dn K mg x st ps :=
  ⟨f, _, fun_mk l c k, PySem.W.mg_of X G a, (fun_mk (st := st) l c k).binds hb⟩
theorem cal_of {x : Str} {st : Stmt} {ps : List Str} {fn : Fn} (N : List Str) (k : Nat) (b : Sv) (hfn : fn = fnB N.length b) (d : Dn K mg x st ps) (Sc : FnScope N ps (defScope st))
    (hb : ∀ (f : Addr) (cdv : Value) (A : Around) (outer : List PySem.Env) (s : Shared) (H : Hp) (E : XK), Room k (A.deeper (envOfC x (defScope st) s.heap.objs.size f cdv)) →
      JSs (cxOf CX0 P w K mg base N x (defScope st) f cdv A outer s H E).nox XN (defBody st) b) : Cal P w K mg base x ps fn (k + 1) := by
  subst hfn
  obtain ⟨f, fd, F, hm, hbi⟩ := d.ex
  exact ⟨f, fd, fn_ok F Sc (hb f), hm, F.kp, hbi⟩
end
section
variable {X : Cx} {XQ : XW}
theorem je_own {x : Str} {ps : List Str} {fn : Fn} {j k n : Nat} {p pos : Pos} {e : Expr} {es : List Expr} {t : Ev (List D)} (C : Cal X.prog X.w X.K X.mg X.base x ps fn j) (hr : Room k X.A) (ha : JA X XQ (e :: es) t) (hn : ps.length = n) (hj : j ≤ k := by decide) (hg : Gl X x := by rfl)
    (hdb : (x == ("__debug__" : Str)) = false := by decide) (he : starEach (e :: es) X.env = (false, eval e X.env) :: starEach es X.env := by rfl) (hpl : (backTo pos (starEach es X.env)).any (·.1) = false := by rfl) :
    JE X XQ (.Call (.Name x p) (e :: es) [] pos) (cl n (noExc fn) t) := by
  subst hn
  obtain ⟨f, fd, F, hm, hk, hb⟩ := C.ex
  exact je_call F hr hj hg hm hk hb ha hdb he hpl
/-- a constant of the module -/
theorem je_cst {x : Str} {v : V} {u : Value} {d : D} {pos : Pos} (hm : X.mg x = some u) (r : RelV v u) (rep : ∀ mp H, Rep X.K mp H d v) (hg : Gl X x) (hd : (x == ("__debug__" : Str)) = false) : JE X XQ (.Name x pos) (cn d) := je_const (pe_glob hg hm r hd) rep

/-! ### side conditions, decided by the kernel over closed tables -/
def plainN (x : Str) : Bool := !(x == ("__debug__" : Str)) && !(x == ("__classdict__" : Str))
def okV (sc : Scope) (x : Str) : Bool := (match sc.names.lookup x with
  | some .local => true
  | some .cell => true
  | some .free => true
  | _ => false) && plainN x
def okL (sc : Scope) (x : Str) : Bool := match sc.names.lookup x with
  | some .local => true
  | some .cell => true
  | _ => false
def okG (sc : Scope) (x : Str) : Bool := (match sc.names.lookup x with
  | some .globalImplicit => true
  | _ => false) && plainN x
theorem plainN.of {x : Str} (h : plainN x = true) : (x == ("__debug__" : Str)) = false ∧ (x == ("__classdict__" : Str)) = false := by
  unfold plainN at h
  rw [Bool.and_eq_true] at h
  exact ⟨by simpa using h.1, by simpa using h.2⟩
theorem okV.vis {sc : Scope} {x : Str} (h : okV sc x = true) : Vis sc x ∧ plainN x = true := by
  unfold okV at h
  rw [Bool.and_eq_true] at h
  refine ⟨?_, h.2⟩
  have h := h.1
  split at h
  · rename_i e; exact .inl e
  · rename_i e; exact .inr (.inl e)
  · rename_i e; exact .inr (.inr e)
  · cases h
theorem okL.loc {sc : Scope} {x : Str} (h : okL sc x = true) : Loc sc x := by
  unfold okL at h
  split at h
  · rename_i e; exact .inl e
  · rename_i e; exact .inr e
  · cases h
theorem okG.gl {sc : Scope} {x : Str} (h : okG sc x = true) : sc.names.lookup x = some .globalImplicit ∧ plainN x = true := by
  unfold okG at h
  rw [Bool.and_eq_true] at h
  refine ⟨?_, h.2⟩
  have h := h.1
  split at h
  · rename_i e; exact e
  · cases h
structure OkV (sc : Scope) (x : Str) : Prop where
  h : okV sc x = true
structure OkL (sc : Scope) (x : Str) : Prop where
  h : okL sc x = true
structure OkC (sc : Scope) (x : Str) : Prop where
  h : sc.names.lookup x = some .local
structure OkG (sc : Scope) (x : Str) : Prop where
  h : okG sc x = true
/-- a name of a def -/
theorem jv (i : Nat) {x : Str} {pos : Pos} (h : OkV X.env.scope x) (hN : X.N[i]? = some x := by rfl) : JE X XQ (.Name x pos) (vr i) := je_var i hN (okV.vis h.h).1 (plainN.of (okV.vis h.h).2).1 (plainN.of (okV.vis h.h).2).2
theorem gl {x : Str} (h : OkG X.env.scope x) : Gl X x := (okG.gl h.h).1
theorem jgn (i : Nat) {x : Str} {pos : Pos} (hN : X.N.Nodup) (h : OkL X.env.scope x) (hi : X.N[i]? = some x := by rfl) (hf : X.fn x = true := by rfl) : JG X (.Name x pos) (gn i) := jg_name i hN hi (okL.loc h.h) (.inl hf)
theorem jset (i : Nat) {x : Str} {e : Expr} {f : Ev D} {pos pos' : Pos} (hN : X.N.Nodup) (h : OkL X.env.scope x) (he : JE X XQ e f) (hi : X.N[i]? = some x := by rfl) (hs : swapsWith e (some (.Name x pos')) pos.line X.env = pure false := by rfl) (hf : X.fn x = true := by rfl) :
    JS X XQ (.Assign [.Name x pos'] e pos) (sa f (gn i)) := js_set i hN he hi (okL.loc h.h) hs (.inl hf)
theorem jown {x : Str} {ps : List Str} {fn : Fn} {j k n : Nat} {p pos : Pos} {e : Expr} {es : List Expr} {t : Ev (List D)} (C : Cal X.prog X.w X.K X.mg X.base x ps fn j) (hr : Room k X.A) (hg : Gl X x) (hp : plainN x = true) (ha : JA X XQ (e :: es) t) (hn : ps.length = n := by rfl) (hj : j ≤ k := by decide)
    (he : starEach (e :: es) X.env = (false, eval e X.env) :: starEach es X.env := by rfl) (hpl : (backTo pos (starEach es X.env)).any (·.1) = false := by rfl) :
    JE X XQ (.Call (.Name x p) (e :: es) [] pos) (cl n (noExc fn) t) := je_own C hr ha hn hj hg (plainN.of hp).1 he hpl
/-- the same within a comprehension -/
def okVC (sc : Scope) (x : Str) : Bool := (match sc.names.lookup x with
  | some .local => true
  | some .free => true
  | _ => false) && plainN x
theorem blk_vis {s2 : Shared} {H2 : Hp} {C : Addr} {scope : Scope} {c : List (Str × Addr)} {N' : List Str} {fp : List Addr} {x : Str} (h : okVC scope x = true) : Vis (blk X s2 H2 C scope c N' fp).env.scope x ∧ plainN x = true := by
  unfold okVC at h
  rw [Bool.and_eq_true] at h
  refine ⟨?_, h.2⟩
  have h := h.1
  split at h
  · rename_i e; exact .inl (lookup_relabel_local e)
  · rename_i e; exact .inr (lookup_relabel_free (scope := scope) (env := X.env) scope.names e)
  · cases h
theorem jvB (i : Nat) {s2 : Shared} {H2 : Hp} {C : Addr} {scope : Scope} {c : List (Str × Addr)} {N' : List Str} {fp : List Addr} {x : Str} {pos : Pos} (h : okVC scope x = true) (hN : N'[i]? = some x := by rfl) : JE (blk X s2 H2 C scope c N' fp) XQ (.Name x pos) (vr i) :=
  je_var i hN (blk_vis h).1 (plainN.of (blk_vis (X := X) (s2 := s2) (H2 := H2) (C := C) (c := c) (N' := N') (fp := fp) h).2).1 (plainN.of (blk_vis (X := X) (s2 := s2) (H2 := H2) (C := C) (c := c) (N' := N') (fp := fp) h).2).2
theorem lookup_relabel_other {scope : Scope} {env : PySem.Env} {x : Str} {k : NameKind} (hk : k ≠ .free) : ∀ (names : List (Str × NameKind)), names.lookup x = some k → (names.map fun (n, k) => if (k == NameKind.free && env.scope.kind == .function && env.kindOf n == some .cell) = true then (n, NameKind.cell) else (n, k)).lookup x = some k
  | [], h => by simp at h
  | (n, k') :: r, h => by
    rw [List.map_cons]
    by_cases hx : (x == n) = true
    · rw [List.lookup_cons, hx] at h
      have : k' = k := by simpa using h
      subst this
      have hb : (k' == NameKind.free) = false := by simpa using hk
      simp only [hb, Bool.false_and, Bool.false_eq_true, if_false, List.lookup_cons, hx]
    · have hx : (x == n) = false := by simpa using hx
      rw [List.lookup_cons, hx] at h
      have := lookup_relabel_other (scope := scope) (env := env) hk r h
      by_cases hq : (k' == NameKind.free && env.scope.kind == .function && env.kindOf n == some .cell) = true
      · simpa only [hq, if_true, List.lookup_cons, hx] using this
      · simpa only [hq, Bool.false_eq_true, if_false, List.lookup_cons, hx] using this
theorem glB {s2 : Shared} {H2 : Hp} {C : Addr} {scope : Scope} {c : List (Str × Addr)} {N' : List Str} {fp : List Addr} {x : Str} (h : okG scope x = true) : Gl (blk X s2 H2 C scope c N' fp) x :=
  lookup_relabel_other (scope := scope) (env := X.env) (by decide) scope.names (okG.gl h).1
def okLC (sc : Scope) (x : Str) : Bool := match sc.names.lookup x with
  | some .local => true
  | _ => false
theorem jgnB (i : Nat) {s2 : Shared} {H2 : Hp} {C : Addr} {scope : Scope} {c : List (Str × Addr)} {N' : List Str} {fp : List Addr} {x : Str} {pos : Pos} (hN : N'.Nodup) (h : okLC scope x = true) (hi : N'[i]? = some x := by rfl) : JG (blk X s2 H2 C scope c N' fp) (.Name x pos) (gn i) := by
  unfold okLC at h
  split at h
  · rename_i e
    exact jg_name i hN hi (.inl (lookup_relabel_local e)) (.inr (lookup_relabel_local e))
  · cases h
theorem jcomp {sc : Scope} {N : List Str} {elt tg iter : Expr} {ifs : List Expr} {scope : Scope} {pos : Pos} {N' : List Str} {pk : List (Option Nat)} {f : Ev Src} {g : Tg} {t : Ev Bool} {e : Ev D} (hsc : X.env.scope = sc) (hNN : X.N = N) (ct : CompTab sc scope N N' pk) (hcm : X.calm = true) (hi : JI X XQ tg iter f)
    (hg : ∀ cl s2 H2 C fp, JG (blk X s2 H2 C scope cl N' fp) tg g) (ht : ∀ cl s2 H2 C fp, JTs (blk X s2 H2 C scope cl N' fp) XN ifs t) (he : ∀ cl s2 H2 C fp, JE (blk X s2 H2 C scope cl N' fp) XN elt e)
    (hs : ∀ x, foldedSetIterable iter X.env x = pure x := by intro _; rfl) : JE X XQ (.ListComp elt [⟨tg, iter, ifs, 0⟩] scope pos) (cmp f pk g t e) := by
  subst hsc hNN
  exact je_comp ct hcm hi hg ht he hs
theorem jsetComp (i : Nat) {sc : Scope} {N : List Str} {y : Str} {py spos : Pos} {elt tg iter : Expr} {ifs : List Expr} {scope : Scope} {pos : Pos} {N' : List Str} {pk : List (Option Nat)} {f : Ev Src} {g : Tg} {t : Ev Bool} {e : Ev D} (hsc : X.env.scope = sc) (hNN : X.N = N) (ct : CompTab sc scope N N' pk) (hcm : X.calm = true) (hi : JI X XQ tg iter f)
    (hg : ∀ cl s2 H2 C fp, JG (blk X s2 H2 C scope cl N' fp) tg g) (ht : ∀ cl s2 H2 C fp, JTs (blk X s2 H2 C scope cl N' fp) XN ifs t) (he : ∀ cl s2 H2 C fp, JE (blk X s2 H2 C scope cl N' fp) XN elt e)
    (hN : X.N.Nodup) (hl : OkL X.env.scope y) (hsw : swapsWith (.ListComp elt [⟨tg, iter, ifs, 0⟩] scope pos) (some (.Name y py)) spos.line X.env = pure true) (hy : X.N[i]? = some y := by rfl)
    (hs : ∀ x, foldedSetIterable iter X.env x = pure x := by intro _; rfl) (hf : X.fn y = true := by rfl) :
    JS X XQ (.Assign [.Name y py] (.ListComp elt [⟨tg, iter, ifs, 0⟩] scope pos) spos) (sa (cmp f pk g t e) (gn i)) := by
  subst hsc hNN
  exact js_setComp i ct hcm hi hg ht he hN hy (okL.loc hl.h) hsw hs (.inl hf)
end
end DL

set_option Elab.async false
set_option linter.all false
set_option maxRecDepth 100000
namespace DL
open PySem PySem.Spec PyProof.Rows L2

/-! ### // by any positive divisor below 2^200, divmod -/
section
variable {X : Cx} {XQ : XW}
theorem log_of {j : Int} (h1 : 0 < j) (h2 : j < 2 ^ 200) : j.natAbs.log2 < 9000 := by
  have h3 : j.natAbs < 2 ^ 200 := by omega
  exact Nat.lt_of_lt_of_le ((Nat.log2_lt (by omega)).mpr h3) (by decide)
theorem op_fdiv2 : OpR X (binaryOp .FloorDiv) (rI (fun _ j => 0 < j ∧ j < 2 ^ 200) fun i j => .int (i / j)) := opI fun i j _ _ _ _ _ hc q => by
  have h1 : (0 : Int) < j := hc.1
  have h2 : j < 2 ^ 200 := hc.2
  exact floordiv_int (by omega) (by rw [Int.fdiv_eq_ediv_of_nonneg i (by omega)]; exact q) (.inl (PyProof.noPylong_of_log2 (log_of h1 h2)))
abbrev divD2 := i2 (fun _ j => decide (0 < j ∧ j < 2 ^ 200)) fun i j => .int (i / j)
theorem je_div2 {a b : Expr} {fa fb : Ev D} {pos : Pos} (ha : JE X XQ a fa) (hb : JE X XQ b fb) : JE X XQ (.BinOp a .FloorDiv b pos) (o2 divD2 fa fb) := je_op op_fdiv2 (od_int (fun _ j h => (of_decide_eq_true h : 0 < j ∧ j < 2 ^ 200)) fun _ _ _ _ => rfl) ha hb
theorem call_divmod2 : CallR X (.builtin "divmod") (fun xs H Q => ∃ i j, xs = [.int i, .int j] ∧ (0 < j ∧ j < 2 ^ 200) ∧ ∀ p, H p = none → Q (.ref p) (upd H p (.tup [.int (i / j), .int (i % j)]))) := by
  intro pins s σ H xs us Q I r h
  obtain ⟨i, j, rfl, ⟨h1, h2⟩, q⟩ := h
  obtain ⟨u, w', rfl, ⟨t, rfl⟩, ⟨t', rfl⟩⟩ := vals2 r
  refine divmod_int (by omega) ?_ (.inl (PyProof.noPylong_of_log2 (log_of h1 h2)))
  rw [Int.fdiv_eq_ediv_of_nonneg i (by omega), Int.fmod_eq_emod_of_nonneg i (by omega)]
  have hn : H s.heap.objs.size = none := I.hok.fresh (Nat.le_refl _)
  refine ⟨.ref s.heap.objs.size, _, ?_, rfl, q _ hn⟩
  refine I.laid (fun b o e => Heap.get?_push_of_some _ e) (Nat.le_refl _) ⟨by simp only [List.length_cons, List.length_nil]; rw [sizeLine_eq]; decide, [.int (i / j) s.toks, .int (i % j) (s.toks + 1)], .cons ⟨_, rfl⟩ (.cons ⟨_, rfl⟩ .nil), ?_⟩
  exact ⟨_, Heap.get?_push_size s.heap rfl, rfl, 0, rfl⟩
def dmD (xs : List D) (S : Sto) : Out D := match xs with
  | [.int i, .int j] => if 0 < j ∧ j < 2 ^ 200 then .ok (.tup [.int (i / j), .int (i % j)]) S else .bad
  | _ => .bad
theorem bd_dm {K : PySem.W.Frag} : BlD K (fun xs H Q => ∃ i j, xs = [.int i, .int j] ∧ (0 < j ∧ j < 2 ^ 200) ∧ ∀ p, H p = none → Q (.ref p) (upd H p (.tup [.int (i / j), .int (i % j)]))) dmD := by
  intro XQ σ ρ mp H S xs vs Q rs r p
  unfold dmD at p
  split at p
  · rename_i i j
    obtain ⟨v, w, rfl, h1, h2⟩ := RepL.two r
    cases (show v = .int i from h1); cases (show w = .int j from h2)
    by_cases hb : 0 < j ∧ j < 2 ^ 200
    · rw [if_pos hb] at p
      exact ⟨i, j, rfl, hb, fun q hq => post_tup p rs (RepL.cons rfl (RepL.cons rfl RepL.nil)) hq⟩
    · rw [if_neg hb] at p; exact p.elim
  · exact p.elim
theorem je_divmod {p pos : Pos} {e e' : Expr} {f : Ev (List D)} (hg : Gl X "divmod") (hm : X.mg "divmod" = none) (ha : JA X XQ [e, e'] f) (he : starEach [e, e'] X.env = (false, eval e X.env) :: starEach [e'] X.env := by rfl) (hpl : (backTo pos (starEach [e'] X.env)).any (·.1) = false := by rfl) : JE X XQ (.Call (.Name "divmod" p) [e, e'] [] pos) (b1 dmD f) := je_blt call_divmod2 bd_dm hg hm (by rfl) ha (he := he) (hpl := hpl)

/-! ### sum, max, min -/
def intsOf : List D → Option (List Int)
  | [] => some []
  | .int i :: r => (intsOf r).map (i :: ·)
  | _ :: _ => none
theorem RepL.ints {K : PySem.W.Frag} {mp : List Addr} {H : Hp} : ∀ {l : List D} {vs : List V} {ns : List Int}, RepL K mp H l vs → intsOf l = some ns → vs = ns.map V.int
  | [], vs, ns, h, e => by
    cases (show vs = [] from h)
    cases (Option.some.inj (show some [] = some ns from e))
    rfl
  | d :: l, vs, ns, h, e => by
    obtain ⟨v, r, rfl, h1, h2⟩ := h
    cases d with
    | int i =>
      have e : (intsOf l).map (i :: ·) = some ns := e
      cases z : intsOf l with
      | none => rw [z] at e; cases e
      | some ms =>
        rw [z] at e
        cases (Option.some.inj e)
        cases (show v = .int i from h1)
        rw [RepL.ints h2 z]
        rfl
    | _ => cases (show (none : Option (List Int)) = some ns from e)
theorem items_of {ns : List Int} (its : List Value) (r' : Vals (ns.map V.int) its) : ∃ xs : Array (Int × Tok), its.toArray = intItems xs ∧ preSum (numAt xs) xs.size = ns.sum ∧ ns = xs.toList.map (·.1) := by
  have hi := intsAre_of r'
  obtain ⟨xs, hx⟩ := hi.allInts.items
  have hn : numsOf its.toArray.toList = ns := by rw [show its.toArray.toList = its from rfl, hi.numsOf]
  rw [hx, nums_intItems] at hn
  refine ⟨xs, hx, ?_, hn.symm⟩
  rw [preSum_eq, List.take_of_length_le (by simp), hn]
theorem call_sum (hc : X.calm = true) : CallR X (.builtin "sum") (fun xs H Q => ∃ (p : Addr) (ns : List Int), xs = [.ref p] ∧ (SqL X.K H p (ns.map V.int) ∨ SqT X.K H p (ns.map V.int)) ∧ Q (.int ns.sum) H) := by
  intro pins s σ H xs us Q I r h
  obtain ⟨p, ns, rfl, hq, q⟩ := h
  obtain ⟨u, rfl, rx⟩ := vals1 r
  cases rx
  rcases hq with hq | hq
  · obtain ⟨its, r', pl, hz⟩ := I.list hq
    obtain ⟨xs, hx, e, _⟩ := items_of its r'
    have hl := pl.isList
    rw [hx] at hl
    exact sum_intListG (I.ok.hd hc) hl fun h' tk t' hk => ⟨.int ns.sum, H, I.kept hk, ⟨t', by rw [e]⟩, q⟩
  · obtain ⟨its, r', pl, hz⟩ := I.tuple hq
    obtain ⟨xs, hx, e, _⟩ := items_of its r'
    have hl : s.heap.IsTuple p its.toArray := pl
    rw [hx] at hl
    exact PySem.W.ktm_sumG (I.ok.hd hc) hl fun h' tk t' hk => ⟨.int ns.sum, H, I.kept hk, ⟨t', by rw [e]⟩, q⟩
def seqOf (x : D) (S : Sto) : Option (List D) := match x with
  | .tup l => some l
  | .lst i => (S[i]?).map (·.xs)
  | _ => none
theorem seq_of {K : PySem.W.Frag} {mp : List Addr} {H : Hp} {S : Sto} {x : D} {v : V} {l : List D} (rs : RS K mp H S) (h : Rep K mp H x v) (e : seqOf x S = some l) : ∃ a xs, v = .ref a ∧ (SqL K H a xs ∨ SqT K H a xs) ∧ RepL K mp H l xs := by
  cases x with
  | tup ds =>
    cases (Option.some.inj (show some ds = some l from e))
    obtain ⟨a, xs, rfl, s, q⟩ := Rep.tup h
    exact ⟨a, xs, rfl, .inr s, q⟩
  | lst i =>
    have e : (S[i]?).map (·.xs) = some l := e
    cases z : S[i]? with
    | none => rw [z] at e; cases e
    | some c =>
      rw [z] at e
      cases (Option.some.inj e)
      obtain ⟨a, xs, rfl, _, s, q, _⟩ := rs.items h z
      exact ⟨a, xs, rfl, .inl s, q⟩
  | _ => cases (show (none : Option (List D)) = some l from e)
def sumD (xs : List D) (S : Sto) : Out D := match xs with
  | [x] => match (seqOf x S).bind intsOf with
    | some ns => .ok (.int ns.sum) S
    | none => .bad
  | _ => .bad
theorem bd_sum {K : PySem.W.Frag} : BlD K (fun xs H Q => ∃ (p : Addr) (ns : List Int), xs = [.ref p] ∧ (SqL K H p (ns.map V.int) ∨ SqT K H p (ns.map V.int)) ∧ Q (.int ns.sum) H) sumD := by
  intro XQ σ ρ mp H S xs vs Q rs r p
  unfold sumD at p
  split at p
  · rename_i x
    obtain ⟨v, rfl, h⟩ := RepL.one r
    split at p
    · rename_i ns z
      obtain ⟨l, e1, e2⟩ := Option.bind_eq_some_iff.mp z
      obtain ⟨a, ys, rfl, sq, q⟩ := seq_of rs h e1
      cases q.ints e2
      exact ⟨a, ns, rfl, sq, PostG.ok (R := Rep K) p rs rfl⟩
    · exact p.elim
  · exact p.elim
theorem je_sum {p pos : Pos} {e : Expr} {f : Ev (List D)} (hc : X.calm = true) (hg : Gl X "sum") (hm : X.mg "sum" = none) (ha : JA X XQ [e] f) (he : starEach [e] X.env = (false, eval e X.env) :: starEach [] X.env := by rfl) : JE X XQ (.Call (.Name "sum" p) [e] [] pos) (b1 sumD f) := je_blt (call_sum hc) bd_sum hg hm (by rfl) ha (he := he)
def maxD (xs : List D) (S : Sto) : Out D := match xs with
  | [.int i, .int j] => .ok (.int (if j > i then j else i)) S
  | _ => .bad
theorem bd_max {K : PySem.W.Frag} : BlD K (fun xs H Q => ∃ i j, xs = [.int i, .int j] ∧ Q (.int (if j > i then j else i)) H) maxD := by
  intro XQ σ ρ mp H S xs vs Q rs r p
  unfold maxD at p
  split at p
  · rename_i i j
    obtain ⟨v, w, rfl, h1, h2⟩ := RepL.two r
    cases (show v = .int i from h1); cases (show w = .int j from h2)
    exact ⟨i, j, rfl, PostG.ok (R := Rep K) p rs rfl⟩
  · exact p.elim
theorem je_max {p pos : Pos} {e e' : Expr} {f : Ev (List D)} (hc : X.calm = true) (hg : Gl X "max") (hm : X.mg "max" = none) (ha : JA X XQ [e, e'] f) (he : starEach [e, e'] X.env = (false, eval e X.env) :: starEach [e'] X.env := by rfl) (hpl : (backTo pos (starEach [e'] X.env)).any (·.1) = false := by rfl) : JE X XQ (.Call (.Name "max" p) [e, e'] [] pos) (b1 maxD f) := je_blt (call_max2 hc) bd_max hg hm (by rfl) ha (he := he) (hpl := hpl)
theorem call_min1 (hc : X.calm = true) : CallR X (.builtin "min") (fun xs H Q => ∃ (p : Addr) (ns : List Int), xs = [.ref p] ∧ SqL X.K H p (ns.map V.int) ∧ ns ≠ [] ∧ ∀ M, M ∈ ns → (∀ a, a ∈ ns → M ≤ a) → Q (.int M) H) := by
  intro pins s σ H xs us Q I r h
  obtain ⟨p, ns, rfl, hq, hne, q⟩ := h
  obtain ⟨u, rfl, rx⟩ := vals1 r
  cases rx
  obtain ⟨its, r', pl, hz⟩ := I.list hq
  obtain ⟨xs, hx, _, hns⟩ := items_of its r'
  have hl := pl.isList
  rw [hx] at hl
  have hsz : 0 < xs.size := by
    have : 0 < ns.length := List.length_pos_iff.mpr hne
    rw [hns, List.length_map, Array.length_toList] at this
    exact this
  refine min_intList (I.ok.hd hc) hl hsz fun v h' tk hv hk => ?_
  obtain ⟨t, rfl⟩ := intItems_at hv
  obtain ⟨h1, h2⟩ := argBest_lt (numAt xs) (xs.size - 1)
  refine ⟨.int _, H, I.kept hk, ⟨t, rfl⟩, q _ ?_ fun a ha => ?_⟩
  · rw [hns, numAt_eq]; exact getD_mem (by rw [List.length_map, Array.length_toList]; omega)
  · rw [hns] at ha
    obtain ⟨j, hj, rfl⟩ := mem_getD ha
    rw [List.length_map, Array.length_toList] at hj
    rw [← numAt_eq]; exact h2 j (by omega)
def lmin : List Int → Int
  | [] => 0
  | [a] => a
  | a :: b :: r => min a (lmin (b :: r))
theorem lmin_mem : ∀ {l : List Int}, l ≠ [] → lmin l ∈ l
  | [], h => absurd rfl h
  | [a], _ => List.mem_cons_self
  | a :: b :: r, _ => by
    show min a (lmin (b :: r)) ∈ _
    by_cases h : a ≤ lmin (b :: r)
    · rw [Int.min_def, if_pos h]; exact List.mem_cons_self
    · rw [Int.min_def, if_neg h]; exact List.mem_cons_of_mem _ (lmin_mem (by simp))
theorem lmin_le : ∀ {l : List Int} {x : Int}, x ∈ l → lmin l ≤ x
  | [], x, h => by cases h
  | [a], x, h => by simp at h; subst h; exact Int.le_refl _
  | a :: b :: r, x, h => by
    show min a (lmin (b :: r)) ≤ x
    rcases List.mem_cons.mp h with rfl | h
    · exact Int.min_le_left _ _
    · exact Int.le_trans (Int.min_le_right _ _) (lmin_le h)
def min1D (xs : List D) (S : Sto) : Out D := match xs with
  | [.lst i] => match (S[i]?).bind fun c => intsOf c.xs with
    | some (n :: ns) => .ok (.int (lmin (n :: ns))) S
    | _ => .bad
  | _ => .bad
theorem bd_min1 {K : PySem.W.Frag} : BlD K (fun xs H Q => ∃ (p : Addr) (ns : List Int), xs = [.ref p] ∧ SqL K H p (ns.map V.int) ∧ ns ≠ [] ∧ ∀ M, M ∈ ns → (∀ a, a ∈ ns → M ≤ a) → Q (.int M) H) min1D := by
  intro XQ σ ρ mp H S xs vs Q rs r p
  unfold min1D at p
  split at p
  · rename_i i
    obtain ⟨v, rfl, h⟩ := RepL.one r
    split at p
    · rename_i n ns z
      obtain ⟨c, e1, e2⟩ := Option.bind_eq_some_iff.mp z
      obtain ⟨a, ys, rfl, _, sq, q, _⟩ := rs.items h e1
      cases q.ints e2
      refine ⟨a, n :: ns, rfl, sq, by simp, fun M h1 h2 => ?_⟩
      have e : M = lmin (n :: ns) := Int.le_antisymm (h2 _ (lmin_mem (by simp))) (lmin_le h1)
      rw [e]
      exact PostG.ok (R := Rep K) p rs rfl
    · exact p.elim
  · exact p.elim
theorem je_min1 {p pos : Pos} {e : Expr} {f : Ev (List D)} (hc : X.calm = true) (hg : Gl X "min") (hm : X.mg "min" = none) (ha : JA X XQ [e] f) (he : starEach [e] X.env = (false, eval e X.env) :: starEach [] X.env := by rfl) : JE X XQ (.Call (.Name "min" p) [e] [] pos) (b1 min1D f) := je_blt (call_min1 hc) bd_min1 hg hm (by rfl) ha (he := he)

/-! ### name += e -/
def sag (i : Nat) (g : Int → Int → Int) (f : Ev D) : Sv := fun ρ S => match ρ[i]? with
  | some (some (.int a)) => bindS (f ρ S) ρ fun d S1 => match d with
    | .int b => .nx (ρ.set i (some (.int (g a b)))) S1
    | _ => .bad
  | _ => .bad
theorem augP {K : PySem.W.Frag} {i : Nat} {g : Int → Int → Int} {f : Ev D} (E : Ends) (σ : L2.St) (H : Hp) (h : rdS K XQ (sag i g f) E σ H) : tAug i (rdE K XQ f) (ipI g) E σ H := by
  obtain ⟨mp, ρ, S, G, p⟩ := h
  unfold sag at p
  split at p
  · rename_i a z
    obtain ⟨v, e1, r⟩ := G.loc i _ z
    cases (show v = .int a from r)
    refine ⟨_, e1, bindSP G p fun mp1 H1 d S1 v a1 G1 r1 p1 => ?_⟩
    cases d with
    | int b =>
      cases (show v = .int b from r1)
      exact ⟨a, b, rfl, rfl, PostS.nx p1 (G1.set i rfl)⟩
    | _ => exact (show False from p1).elim
  · exact p.elim
theorem js_inc (i : Nat) {x : Str} {e : Expr} {f : Ev D} {pos pos' : Pos} (hN : X.N.Nodup) (h : OkL X.env.scope x) (he : JE X XQ e f) (hi : X.N[i]? = some x := by rfl) (hf : X.fn x = true := by rfl) : JS X XQ (.AugAssign (.Name x pos') .Add e pos) (sag i (fun a b => a + b) f) :=
  PS.mono (ps_aug hN hi (okL.loc h.h) he ip_add (.inl hf)) augP
theorem js_dec (i : Nat) {x : Str} {e : Expr} {f : Ev D} {pos pos' : Pos} (hN : X.N.Nodup) (h : OkL X.env.scope x) (he : JE X XQ e f) (hi : X.N[i]? = some x := by rfl) (hf : X.fn x = true := by rfl) : JS X XQ (.AugAssign (.Name x pos') .Sub e pos) (sag i (fun a b => a - b) f) :=
  PS.mono (ps_aug hN hi (okL.loc h.h) he ip_sub (.inl hf)) augP
end

/-! ### slices of tuples, the whole too -/
section
variable {prog : Program} {w : World} {A : Around} {E : Value → Shared → Prop} {s : Shared}
theorem getItem_tuple_all {t sl : Addr} {items : Array Value} {vl vu : Value} {lo hi : Option Int} {Q : Value → Shared → Prop} (ht : IsTup s.heap t items) (hs : s.heap.IsSliceOf sl vl vu .none) (pl : IsPart vl lo) (pu : IsPart vu hi)
    (hw : HT.sIx items.size 0 lo = 0 ∧ HT.sIx items.size items.size hi = items.size)
    (h : Q (.ref t) s) : wpAny (model prog w) A (getItem (.ref t) (.ref sl)) Q E s := by
  obtain ⟨os, hos, hcs, hds⟩ := id hs
  have hTs : s.TypeIs (.ref sl) "slice" := ⟨os, hos, hcs⟩
  unfold getItem
  try with_reducible refine wpAny_holding ?_
  first | refine wpAny_bind (wpAny_pure ?_) | skip
  refine wpAny_bind (wpAny_sequenceKey ht.typeIs (by decide) ?_)
  refine wpAny_bind (wpAny_callSpecial?_slot (name := Str.ofString "__getitem__") ht.typeIs PyProof.Rows.slot_tuple_getitem
    (wpAny_call_entry PyProof.Rows.slot_tuple_getitem ht.typeIs entry_tuple_getitem ?_ (args_tuple_getitem _ _)))
  show wpAny _ _ (Builtin.Tuple.tupleItemsOf (.ref t) >>= _) _ _ s
  refine wpAny_bind (tupleItemsOf_ ht ?_)
  refine wpAny_bind (wpAny_typeOf hTs ?_)
  rw [if_pos (by decide)]
  refine wpAny_bind (HT.sliceApplied_gen hs pl pu ?_)
  show wpAny _ _ (if (((HT.sIx items.size 0 lo : Nat) : Int) == 0 && (1 : Int) == 1 && (HT.sIx items.size items.size hi - HT.sIx items.size 0 lo) == items.size) = true then _ else _) _ _ s
  rw [if_pos (by rw [hw.1, hw.2]; simp)]
  unfold Builtin.Tuple.tupleIsExact
  refine wpAny_bind (wpAny_bind (wpAny_typeOf ht.typeIs (wpAny_pure ?_)))
  rw [if_pos (by decide)]
  exact wpAny_bind (wpAny_rule (wpAny_pure ⟨_, rfl, wpAny_pure h⟩))
end
section
variable {X : Cx} {XQ : XW}
def rSlA (K : PySem.W.Frag) : V → Option Int → Option Int → Hp → VK → Prop := fun x lo hi H Q => ∃ a xs, x = .ref a ∧ SqT K H a xs ∧ (HT.sIx xs.length 0 lo = 0 ∧ HT.sIx xs.length xs.length hi = xs.length) ∧ Q (.ref a) H
theorem sl_all : SlR X (rSlA X.K) := by
  intro pins s σ H x v vl vu lo hi sl Q I rx hs pl pu h
  obtain ⟨a, xs, rfl, hx, hw, q⟩ := h
  cases rx
  obtain ⟨its, r, ht, hz⟩ := I.tuple hx
  have hlen : its.toArray.size = xs.length := by rw [List.size_toArray]; exact r.length.symm
  refine ⟨"tuple", _, PyProof.Rows.slot_tuple_getitem.lookup, ht.typeIs, ?_⟩
  exact getItem_tuple_all ht hs pl pu (by rw [hlen]; exact hw) ⟨.ref a, H, I, rfl, q⟩
def slD2 (x : D) (lo hi : Option Int) (S : Sto) : Out D := match x with
  | .tup l => if HT.sIx l.length 0 lo = 0 ∧ HT.sIx l.length l.length hi = l.length then .ok (.tup l) S else .ok (.tup (cutD l lo hi)) S
  | .lst i => match S[i]? with
    | some c => .ok (.lst S.length) (S ++ [⟨false, cutD c.xs lo hi⟩])
    | none => .bad
  | _ => .bad
def sl2 (fe : Ev D) (fl fh : Ev (Option Int)) : Ev D := fun ρ S => (fe ρ S).bind fun x S1 => (fl ρ S1).bind fun l S2 => (fh ρ S2).bind fun u S3 => slD2 x l u S3
theorem je_slice2 {e : Expr} {lo hi : Option Expr} {fe : Ev D} {fl fh : Ev (Option Int)} {pos p2 : Pos} (he : JE X XQ e fe) (hl : JO X XQ lo fl) (hh : JO X XQ hi fh) : JE X XQ (.Subscript e (.Slice lo hi none p2) pos) (sl2 fe fl fh) := by
  refine PE.mono (pe_slice ((sl_list.or sl_tup).or sl_all) he hl hh) fun σ H Q ⟨mp, ρ, S, G, p⟩ => ?_
  refine bindP G p fun mp1 H1 x S1 v a1 G1 r1 p1 => ?_
  refine bindP G1 p1 fun mp2 H2 l S2 l' a2 G2 r2 p2 => ?_
  refine bindP G2 p2 fun mp3 H3 u S3 u' a3 G3 r3 p3 => ?_
  cases (show l' = l from r2)
  cases (show u' = u from r3)
  have r1 := Rep.aft (a2.trans a3) _ _ r1
  cases x with
  | tup ds =>
    have p3 : Post X.K XQ σ ρ mp3 H3 (if HT.sIx ds.length 0 l = 0 ∧ HT.sIx ds.length ds.length u = ds.length then .ok (.tup ds) S3 else .ok (.tup (cutD ds l u)) S3) Q := p3
    obtain ⟨a, xs, rfl, sq, q⟩ := Rep.tup r1
    by_cases hw : HT.sIx ds.length 0 l = 0 ∧ HT.sIx ds.length ds.length u = ds.length
    · rw [if_pos hw] at p3
      exact .inr ⟨a, xs, rfl, sq, by rw [q.len]; exact hw, PostG.ok (R := Rep X.K) p3 G3.rs r1⟩
    · rw [if_neg hw] at p3
      exact .inl (.inr ⟨a, xs, rfl, sq, by rw [q.len]; exact hw, fun t ht => post_tup p3 G3.rs (q.cut l u) ht⟩)
  | lst i =>
    have p3 : Post X.K XQ σ ρ mp3 H3 (match S3[i]? with | some c => .ok (.lst S3.length) (S3 ++ [⟨false, cutD c.xs l u⟩]) | none => .bad) Q := p3
    cases zc : S3[i]? with
    | none => rw [zc] at p3; exact p3.elim
    | some c =>
      rw [zc] at p3
      obtain ⟨a, xs, rfl, _, sq, q, _⟩ := G3.rs.items r1 zc
      exact .inl (.inl ⟨a, xs, rfl, sq, fun t ht => post_lst p3 G3.rs (q.cut l u) ht⟩)
  | _ => exact (show False from p3).elim
end
end DL

set_option Elab.async false
set_option linter.all false
set_option maxRecDepth 100000
namespace DL
open PySem PySem.Spec PyProof.Rows L2
section
variable {X : Cx} {XQ : XW}
/-! ### str of an int; what is never reached -/
def strD (xs : List D) (S : Sto) : Out D := match xs with
  | [.int i] => if i.natAbs.log2 < 1920 then .ok (.str (toString i)) S else .bad
  | _ => .bad
theorem bd_str {K : PySem.W.Frag} : BlD K (fun xs H Q => ∃ i : Int, xs = [.int i] ∧ i.natAbs.log2 < 1920 ∧ Q (.str (toString i)) H) strD := by
  intro XQ σ ρ mp H S xs vs Q rs r p
  unfold strD at p
  split at p
  · rename_i i
    obtain ⟨v, rfl, h⟩ := RepL.one r
    cases (show v = .int i from h)
    by_cases hb : i.natAbs.log2 < 1920
    · rw [if_pos hb] at p
      exact ⟨i, rfl, hb, PostG.ok (R := Rep K) p rs rfl⟩
    · rw [if_neg hb] at p; exact p.elim
  · exact p.elim
theorem je_strc {p pos : Pos} {e : Expr} {f : Ev (List D)} (hg : Gl X "str") (hm : X.mg "str" = none) (ha : JA X XQ [e] f) (he : starEach [e] X.env = (false, eval e X.env) :: starEach [] X.env := by rfl) : JE X XQ (.Call (.Name "str" p) [e] [] pos) (b1 strD f) := je_ty call_str_int bd_str hg hm (by rfl) ha (he := he)
def ebad : Ev D := fun _ _ => .bad
def sbad : Sv := fun _ _ => .bad
theorem je_bad {e : Expr} : JE X XQ e ebad := fun pins s σ H Q I ⟨mp, ρ, S, G, p⟩ => (show False from p).elim
theorem js_bad {st : Stmt} : JS X XQ st sbad := fun pins s σ H E I ⟨mp, ρ, S, G, p⟩ => (show False from p).elim
end
end DL

set_option Elab.async false
set_option linter.all false
set_option maxRecDepth 100000
namespace Law
open PySem PySem.Spec PyProof.Rows L2 DL
def top (i : Nat) : Stmt := PySem.Challenge.pw_summitwater_k55_stretches_of_any_thing.main.body.getD i (.Pass ⟨0, 0, 0, 0⟩)
abbrev st_is_whole : Stmt := top 1
abbrev st_is_between : Stmt := top 2
abbrev st_is_tuple : Stmt := top 3
abbrev st_stretch_sum : Stmt := top 5
abbrev st_shows_dry : Stmt := top 6
abbrev st__law_mixed : Stmt := top 8
abbrev st__law_tape : Stmt := top 9
abbrev st__law_take : Stmt := top 10
abbrev st__law_large : Stmt := top 11
abbrev st__law_days : Stmt := top 12
abbrev st__law_need : Stmt := top 13
abbrev st__law_brim : Stmt := top 14
abbrev st__law_number : Stmt := top 15
abbrev st__law_dries : Stmt := top 16
abbrev st__law_sum : Stmt := top 17
abbrev st__law_things : Stmt := top 18
abbrev st__law_due : Stmt := top 19
abbrev st_law : Stmt := top 20
structure Txt (K : PySem.W.Frag) (mg : Str → Option Value) : Prop where
  b_bool : mg "bool" = none
  b_divmod : mg "divmod" = none
  b_int : mg "int" = none
  b_isinstance : mg "isinstance" = none
  b_len : mg "len" = none
  b_list : mg "list" = none
  b_max : mg "max" = none
  b_min : mg "min" = none
  b_range : mg "range" = none
  b_str : mg "str" = none
  b_sum : mg "sum" = none
  b_tuple : mg "tuple" = none
section
variable {P : Program} {w : World} {K : PySem.W.Frag} {mg : Str → Option Value} {base : Heap}
def b_is_whole : Sv := (sret (va (o1 (isD "int") (vr 0)) (vn (o1 (isD "bool") (vr 0)))))
def f_is_whole : Fn := fnB 1 b_is_whole
theorem sc_is_whole : FnScope ["thing"] ["thing"] (defScope st_is_whole) := ⟨rfl, rfl, rfl, by decide +kernel, rfl, by decide +kernel, by decide +kernel⟩
theorem g_is_whole_bool : OkG (defScope st_is_whole) "bool" := ⟨by decide +kernel⟩
theorem g_is_whole_int : OkG (defScope st_is_whole) "int" := ⟨by decide +kernel⟩
theorem g_is_whole_isinstance : OkG (defScope st_is_whole) "isinstance" := ⟨by decide +kernel⟩
theorem v_is_whole_thing : OkV (defScope st_is_whole) "thing" := ⟨by decide +kernel⟩
set_option maxHeartbeats 4000000 in
theorem cal_is_whole (T : Txt K mg) (d : Dn K mg "is_whole" st_is_whole ["thing"]) : Cal P w K mg base "is_whole" ["thing"] f_is_whole 1 := by
  have Sc := sc_is_whole
  refine cal_of ["thing"] 0 b_is_whole rfl d Sc fun f cdv A outer s H E hr => ?_
  conv => arg 3; whnf
  exact (jss_one (js_ret (je_and (je_isi kit_int (by rfl) (by decide +kernel) (by decide +kernel) (gl g_is_whole_isinstance) T.b_isinstance (gl g_is_whole_int) T.b_int (jv 0 v_is_whole_thing) (by rfl) (by rfl) (by rfl)) (je_one (je_not (je_isi kit_bool (by rfl) (by decide +kernel) (by decide +kernel) (gl g_is_whole_isinstance) T.b_isinstance (gl g_is_whole_bool) T.b_bool (jv 0 v_is_whole_thing) (by rfl) (by rfl) (by rfl)))))))
def b_is_between : Sv := (sret (va (cl 1 (noExc f_is_whole) (ac (vr 0) an)) (ch leD leD (vr 1) (vr 0) (vr 2))))
def f_is_between : Fn := fnB 3 b_is_between
theorem sc_is_between : FnScope ["thing", "least", "most"] ["thing", "least", "most"] (defScope st_is_between) := ⟨rfl, rfl, rfl, by decide +kernel, rfl, by decide +kernel, by decide +kernel⟩
theorem g_is_between_is_whole : OkG (defScope st_is_between) "is_whole" := ⟨by decide +kernel⟩
theorem v_is_between_least : OkV (defScope st_is_between) "least" := ⟨by decide +kernel⟩
theorem v_is_between_most : OkV (defScope st_is_between) "most" := ⟨by decide +kernel⟩
theorem v_is_between_thing : OkV (defScope st_is_between) "thing" := ⟨by decide +kernel⟩
theorem p_is_whole : plainN "is_whole" = true := by decide +kernel
set_option maxHeartbeats 4000000 in
theorem cal_is_between (T : Txt K mg) (d : Dn K mg "is_between" st_is_between ["thing", "least", "most"]) (C_is_whole : Cal P w K mg base "is_whole" ["thing"] f_is_whole 1) : Cal P w K mg base "is_between" ["thing", "least", "most"] f_is_between 2 := by
  have Sc := sc_is_between
  refine cal_of ["thing", "least", "most"] 1 b_is_between rfl d Sc fun f cdv A outer s H E hr => ?_
  conv => arg 3; whnf
  exact (jss_one (js_ret (je_and (jown C_is_whole hr (gl g_is_between_is_whole) p_is_whole (ja_cons (jv 0 v_is_between_thing) ja_nil se_Name)) (je_one (je_chain op_le od_le op_le od_le (jv 1 v_is_between_least) (jv 0 v_is_between_thing) (jv 2 v_is_between_most))))))
def b_is_tuple : Sv := (sret (va (o1 (isD "tuple") (vr 0)) (o2 eqD (b1 lenD (ac (vr 0) an)) (vr 1))))
def f_is_tuple : Fn := fnB 2 b_is_tuple
theorem sc_is_tuple : FnScope ["thing", "many"] ["thing", "many"] (defScope st_is_tuple) := ⟨rfl, rfl, rfl, by decide +kernel, rfl, by decide +kernel, by decide +kernel⟩
theorem g_is_tuple_isinstance : OkG (defScope st_is_tuple) "isinstance" := ⟨by decide +kernel⟩
theorem g_is_tuple_len : OkG (defScope st_is_tuple) "len" := ⟨by decide +kernel⟩
theorem g_is_tuple_tuple : OkG (defScope st_is_tuple) "tuple" := ⟨by decide +kernel⟩
theorem v_is_tuple_many : OkV (defScope st_is_tuple) "many" := ⟨by decide +kernel⟩
theorem v_is_tuple_thing : OkV (defScope st_is_tuple) "thing" := ⟨by decide +kernel⟩
set_option maxHeartbeats 4000000 in
theorem cal_is_tuple (T : Txt K mg) (d : Dn K mg "is_tuple" st_is_tuple ["thing", "many"]) : Cal P w K mg base "is_tuple" ["thing", "many"] f_is_tuple 1 := by
  have Sc := sc_is_tuple
  refine cal_of ["thing", "many"] 0 b_is_tuple rfl d Sc fun f cdv A outer s H E hr => ?_
  conv => arg 3; whnf
  exact (jss_one (js_ret (je_and (je_isi kit_tuple (by rfl) (by decide +kernel) (by decide +kernel) (gl g_is_tuple_isinstance) T.b_isinstance (gl g_is_tuple_tuple) T.b_tuple (jv 0 v_is_tuple_thing) (by rfl) (by rfl) (by rfl)) (je_one (je_eq hr.units (je_len (gl g_is_tuple_len) T.b_len (ja_cons (jv 0 v_is_tuple_thing) ja_nil se_Name)) (jv 1 v_is_tuple_many))))))
def b_stretch_sum : Sv := (sq (sa (b1 dmD (ac (vr 2) (ac (b1 lenD (ac (vr 0) an)) an))) (gt (gcons (gn 3) (gcons (gn 4) gnil)) 2))
    (sret (o2 addD (o2 mulD (vr 3) (b1 sumD (ac (vr 0) an))) (b1 sumD (ac (sl2 (o2 addD (vr 0) (vr 0)) (osome (vr 1)) (osome (o2 addD (vr 1) (vr 4)))) an)))))
def f_stretch_sum : Fn := fnB 5 b_stretch_sum
theorem sc_stretch_sum : FnScope ["days", "first", "many", "rounds", "rest"] ["days", "first", "many"] (defScope st_stretch_sum) := ⟨rfl, rfl, rfl, by decide +kernel, rfl, by decide +kernel, by decide +kernel⟩
theorem g_stretch_sum_divmod : OkG (defScope st_stretch_sum) "divmod" := ⟨by decide +kernel⟩
theorem g_stretch_sum_len : OkG (defScope st_stretch_sum) "len" := ⟨by decide +kernel⟩
theorem g_stretch_sum_sum : OkG (defScope st_stretch_sum) "sum" := ⟨by decide +kernel⟩
theorem l_stretch_sum_rest : OkL (defScope st_stretch_sum) "rest" := ⟨by decide +kernel⟩
theorem l_stretch_sum_rounds : OkL (defScope st_stretch_sum) "rounds" := ⟨by decide +kernel⟩
theorem v_stretch_sum_days : OkV (defScope st_stretch_sum) "days" := ⟨by decide +kernel⟩
theorem v_stretch_sum_first : OkV (defScope st_stretch_sum) "first" := ⟨by decide +kernel⟩
theorem v_stretch_sum_many : OkV (defScope st_stretch_sum) "many" := ⟨by decide +kernel⟩
theorem v_stretch_sum_rest : OkV (defScope st_stretch_sum) "rest" := ⟨by decide +kernel⟩
theorem v_stretch_sum_rounds : OkV (defScope st_stretch_sum) "rounds" := ⟨by decide +kernel⟩
set_option maxHeartbeats 4000000 in
theorem cal_stretch_sum (T : Txt K mg) (d : Dn K mg "stretch_sum" st_stretch_sum ["days", "first", "many"]) : Cal P w K mg base "stretch_sum" ["days", "first", "many"] f_stretch_sum 1 := by
  have Sc := sc_stretch_sum
  refine cal_of ["days", "first", "many", "rounds", "rest"] 0 b_stretch_sum rfl d Sc fun f cdv A outer s H E hr => ?_
  conv => arg 3; whnf
  exact (jss_cons (js_asg (je_divmod (gl g_stretch_sum_divmod) T.b_divmod (ja_cons (jv 2 v_stretch_sum_many) (ja_cons (je_len (gl g_stretch_sum_len) T.b_len (ja_cons (jv 0 v_stretch_sum_days) ja_nil se_Name)) ja_nil se_Call) se_Name)) (jg_tup rfl (jgs_cons (jgn 3 Sc.nd l_stretch_sum_rounds) (jgs_cons (jgn 4 Sc.nd l_stretch_sum_rest) jgs_nil))))
    (jss_one (js_ret (je_add (je_mul (jv 3 v_stretch_sum_rounds) (je_sum rfl (gl g_stretch_sum_sum) T.b_sum (ja_cons (jv 0 v_stretch_sum_days) ja_nil se_Name))) (je_sum rfl (gl g_stretch_sum_sum) T.b_sum (ja_cons (je_slice2 (je_add (jv 0 v_stretch_sum_days) (jv 0 v_stretch_sum_days)) (jo_some (jv 1 v_stretch_sum_first)) (jo_some (je_add (jv 1 v_stretch_sum_first) (jv 4 v_stretch_sum_rest)))) ja_nil se_Subscript))))))
def b_shows_dry : Sv := (sq (sif (to (tn (tt (cl 2 (noExc f_is_tuple) (ac (vr 2) (ac (cn (.int 3)) an))))) (tb (o2 neD (o2 getD (vr 2) (cn (.int 0))) (cn (.str "dries")))))
    (sret (cn (.bl false)))
    skip)
    (sq (sa (vr 2) (gt (gcons (gn 3) (gcons (gn 4) (gcons (gn 5) gnil))) 3))
    (sq (sif (to (tn (tt (cl 3 (noExc f_is_between) (ac (vr 4) (ac (cn (.int 0)) (ac (o2 subD (b1 lenD (ac (vr 1) an)) (cn (.int 1))) an)))))) (to (tn (tt (cl 1 (noExc f_is_whole) (ac (vr 5) an)))) (tb (o2 ltD (vr 5) (cn (.int 1))))))
    (sret (cn (.bl false)))
    skip)
    (sret (o2 ltD (cl 3 (noExc f_stretch_sum) (ac (vr 1) (ac (vr 4) (ac (vr 5) an)))) (o1 negD (vr 0)))))))
def f_shows_dry : Fn := fnB 6 b_shows_dry
theorem sc_shows_dry : FnScope ["brim", "days", "thing", "word", "first", "many"] ["brim", "days", "thing"] (defScope st_shows_dry) := ⟨rfl, rfl, rfl, by decide +kernel, rfl, by decide +kernel, by decide +kernel⟩
theorem g_shows_dry_is_between : OkG (defScope st_shows_dry) "is_between" := ⟨by decide +kernel⟩
theorem g_shows_dry_is_tuple : OkG (defScope st_shows_dry) "is_tuple" := ⟨by decide +kernel⟩
theorem g_shows_dry_is_whole : OkG (defScope st_shows_dry) "is_whole" := ⟨by decide +kernel⟩
theorem g_shows_dry_len : OkG (defScope st_shows_dry) "len" := ⟨by decide +kernel⟩
theorem g_shows_dry_stretch_sum : OkG (defScope st_shows_dry) "stretch_sum" := ⟨by decide +kernel⟩
theorem l_shows_dry_first : OkL (defScope st_shows_dry) "first" := ⟨by decide +kernel⟩
theorem l_shows_dry_many : OkL (defScope st_shows_dry) "many" := ⟨by decide +kernel⟩
theorem l_shows_dry_word : OkL (defScope st_shows_dry) "word" := ⟨by decide +kernel⟩
theorem v_shows_dry_brim : OkV (defScope st_shows_dry) "brim" := ⟨by decide +kernel⟩
theorem v_shows_dry_days : OkV (defScope st_shows_dry) "days" := ⟨by decide +kernel⟩
theorem v_shows_dry_first : OkV (defScope st_shows_dry) "first" := ⟨by decide +kernel⟩
theorem v_shows_dry_many : OkV (defScope st_shows_dry) "many" := ⟨by decide +kernel⟩
theorem v_shows_dry_thing : OkV (defScope st_shows_dry) "thing" := ⟨by decide +kernel⟩
theorem p_is_between : plainN "is_between" = true := by decide +kernel
theorem p_is_tuple : plainN "is_tuple" = true := by decide +kernel
theorem p_stretch_sum : plainN "stretch_sum" = true := by decide +kernel
set_option maxHeartbeats 4000000 in
theorem cal_shows_dry (T : Txt K mg) (d : Dn K mg "shows_dry" st_shows_dry ["brim", "days", "thing"]) (C_is_between : Cal P w K mg base "is_between" ["thing", "least", "most"] f_is_between 2) (C_is_tuple : Cal P w K mg base "is_tuple" ["thing", "many"] f_is_tuple 1) (C_is_whole : Cal P w K mg base "is_whole" ["thing"] f_is_whole 1) (C_stretch_sum : Cal P w K mg base "stretch_sum" ["days", "first", "many"] f_stretch_sum 1) : Cal P w K mg base "shows_dry" ["brim", "days", "thing"] f_shows_dry 3 := by
  have Sc := sc_shows_dry
  refine cal_of ["brim", "days", "thing", "word", "first", "many"] 2 b_shows_dry rfl d Sc fun f cdv A outer s H E hr => ?_
  conv => arg 3; whnf
  exact (jss_cons (js_if (JW.jt (jw_or (jt_not (jt_val (jown C_is_tuple hr (gl g_shows_dry_is_tuple) p_is_tuple (ja_cons (jv 2 v_shows_dry_thing) (ja_cons je_int ja_nil se_Constant) se_Name)))) (jw_or1 (jt_ne hr.units (je_get (jv 2 v_shows_dry_thing) je_int) je_str))))
    (jss_one (js_ret je_bl))
    jss_nil)
    (jss_cons (js_asg (jv 2 v_shows_dry_thing) (jg_tup rfl (jgs_cons (jgn 3 Sc.nd l_shows_dry_word) (jgs_cons (jgn 4 Sc.nd l_shows_dry_first) (jgs_cons (jgn 5 Sc.nd l_shows_dry_many) jgs_nil)))))
    (jss_cons (js_if (JW.jt (jw_or (jt_not (jt_val (jown C_is_between hr (gl g_shows_dry_is_between) p_is_between (ja_cons (jv 4 v_shows_dry_first) (ja_cons je_int (ja_cons (je_sub (je_len (gl g_shows_dry_len) T.b_len (ja_cons (jv 1 v_shows_dry_days) ja_nil se_Name)) je_int) ja_nil se_BinOp) se_Constant) se_Name)))) (jw_or (jt_not (jt_val (jown C_is_whole hr (gl g_shows_dry_is_whole) p_is_whole (ja_cons (jv 5 v_shows_dry_many) ja_nil se_Name)))) (jw_or1 (jt_lt (jv 5 v_shows_dry_many) je_int)))))
    (jss_one (js_ret je_bl))
    jss_nil)
    (jss_one (js_ret (je_lt (jown C_stretch_sum hr (gl g_shows_dry_stretch_sum) p_stretch_sum (ja_cons (jv 1 v_shows_dry_days) (ja_cons (jv 4 v_shows_dry_first) (ja_cons (jv 5 v_shows_dry_many) ja_nil se_Name) se_Name) se_Name)) (je_neg (jv 0 v_shows_dry_brim))))))))
def b__law_mixed : Sv := (sq (sa (o2 modD (o2 mulD (o2 addD (o2 addD (o2 modD (vr 0) (cn (.int 1000000007))) (o2 mulD (cn (.int 40692)) (vr 1))) (cn (.int 1))) (cn (.int 48271))) (cn (.int 2147483647))) (gn 2))
    (sq (sa (o2 modD (o2 mulD (vr 2) (vr 2)) (cn (.int 998244353))) (gn 2))
    (sret (o2 divD2 (o2 modD (o2 addD (o2 mulD (vr 2) (cn (.int 69621))) (o2 mulD (cn (.int 7919)) (vr 1))) (cn (.int 1000000007))) (cn (.int 7))))))
def f__law_mixed : Fn := fnB 3 b__law_mixed
theorem sc__law_mixed : FnScope ["cell", "turn", "stir"] ["cell", "turn"] (defScope st__law_mixed) := ⟨rfl, rfl, rfl, by decide +kernel, rfl, by decide +kernel, by decide +kernel⟩
theorem l__law_mixed_stir : OkL (defScope st__law_mixed) "stir" := ⟨by decide +kernel⟩
theorem v__law_mixed_cell : OkV (defScope st__law_mixed) "cell" := ⟨by decide +kernel⟩
theorem v__law_mixed_stir : OkV (defScope st__law_mixed) "stir" := ⟨by decide +kernel⟩
theorem v__law_mixed_turn : OkV (defScope st__law_mixed) "turn" := ⟨by decide +kernel⟩
set_option maxHeartbeats 4000000 in
theorem cal__law_mixed (T : Txt K mg) (d : Dn K mg "_law_mixed" st__law_mixed ["cell", "turn"]) : Cal P w K mg base "_law_mixed" ["cell", "turn"] f__law_mixed 1 := by
  have Sc := sc__law_mixed
  refine cal_of ["cell", "turn", "stir"] 0 b__law_mixed rfl d Sc fun f cdv A outer s H E hr => ?_
  conv => arg 3; whnf
  exact (jss_cons (jset 2 Sc.nd l__law_mixed_stir (je_mod (je_mul (je_add (je_add (je_mod (jv 0 v__law_mixed_cell) je_int) (je_mul je_int (jv 1 v__law_mixed_turn))) je_int) je_int) je_int))
    (jss_cons (jset 2 Sc.nd l__law_mixed_stir (je_mod (je_mul (jv 2 v__law_mixed_stir) (jv 2 v__law_mixed_stir)) je_int))
    (jss_one (js_ret (je_div2 (je_mod (je_add (je_mul (jv 2 v__law_mixed_stir) je_int) (je_mul je_int (jv 1 v__law_mixed_turn))) je_int) je_int)))))
def lb__law_tape_1 : Sv := (sa (o2 modD (o2 addD (o2 mulD (vr 1) (cn (.int 69621))) (vr 2)) (cn (.int 2147483647))) (gn 1))
def b__law_tape : Sv := (sq (sa (cn (.int 0)) (gn 1))
    (sq (sfor (isrc (sl2 (vr 0) onone (osome (cn (.int 63))))) (gn 2) lb__law_tape_1)
    (sret (ls (ac (b1 listD (ac (sl2 (vr 0) onone (osome (cn (.int 63)))) an)) (ac (cn (.int 0)) (ac (vr 1) (ac (cn (.int 0)) an))))))))
def f__law_tape : Fn := fnB 3 b__law_tape
theorem sc__law_tape : FnScope ["script", "seed", "cell"] ["script"] (defScope st__law_tape) := ⟨rfl, rfl, rfl, by decide +kernel, rfl, by decide +kernel, by decide +kernel⟩
theorem g__law_tape_list : OkG (defScope st__law_tape) "list" := ⟨by decide +kernel⟩
theorem l__law_tape_cell : OkL (defScope st__law_tape) "cell" := ⟨by decide +kernel⟩
theorem l__law_tape_seed : OkL (defScope st__law_tape) "seed" := ⟨by decide +kernel⟩
theorem v__law_tape_cell : OkV (defScope st__law_tape) "cell" := ⟨by decide +kernel⟩
theorem v__law_tape_script : OkV (defScope st__law_tape) "script" := ⟨by decide +kernel⟩
theorem v__law_tape_seed : OkV (defScope st__law_tape) "seed" := ⟨by decide +kernel⟩
set_option maxHeartbeats 4000000 in
theorem cal__law_tape (T : Txt K mg) (d : Dn K mg "_law_tape" st__law_tape ["script"]) : Cal P w K mg base "_law_tape" ["script"] f__law_tape 1 := by
  have Sc := sc__law_tape
  refine cal_of ["script", "seed", "cell"] 0 b__law_tape rfl d Sc fun f cdv A outer s H E hr => ?_
  conv => arg 3; whnf
  exact (jss_cons (jset 1 Sc.nd l__law_tape_seed je_int)
    (jss_cons (js_for PassesOwn.never rfl (ji_seq (je_slice2 (jv 0 v__law_tape_script) jo_none (jo_some je_int))) (jgn 2 Sc.nd l__law_tape_cell)
    (jss_one (jset 1 Sc.nd l__law_tape_seed (je_mod (je_add (je_mul (jv 1 v__law_tape_seed) je_int) (jv 2 v__law_tape_cell)) je_int))))
    (jss_one (js_ret (je_lst (ja_cons (je_list (gl g__law_tape_list) T.b_list (ja_cons (je_slice2 (jv 0 v__law_tape_script) jo_none (jo_some je_int)) ja_nil se_Subscript)) (ja_cons je_int (ja_cons (jv 1 v__law_tape_seed) (ja_cons je_int ja_nil se_Constant) se_Name) se_Constant) se_Call))))))
def b__law_take : Sv := (sq (ss (o2 addD (o2 getD (vr 0) (cn (.int 3))) (cn (.int 1))) (vr 0) (cn (.int 3)) setD)
    (sq (sif (ta (tb (o2 eqD (o2 getD (vr 0) (cn (.int 1))) (cn (.int 0)))) (tb (o2 gtD (b1 lenD (ac (o2 getD (vr 0) (cn (.int 0))) an)) (cn (.int 0)))))
    (sq (sa (mt popD (o2 getD (vr 0) (cn (.int 0))) (ac (cn (.int 0)) an)) (gn 2))
    (sq (sif (tb (o2 ltD (vr 2) (o2 powD (cn (.int 10)) (cn (.int 18)))))
    (sret (o2 modD (cl 2 (noExc f__law_mixed) (ac (vr 2) (ac (o2 getD (vr 0) (cn (.int 3))) an))) (vr 1)))
    skip)
    (ss (vr 2) (vr 0) (cn (.int 1)) setD)))
    skip)
    (sq (sif (tb (o2 gtD (o2 getD (vr 0) (cn (.int 1))) (cn (.int 0))))
    (sq (sa (o2 modD (o2 getD (vr 0) (cn (.int 1))) (vr 1)) (gn 3))
    (sq (ss (o2 divD2 (o2 getD (vr 0) (cn (.int 1))) (vr 1)) (vr 0) (cn (.int 1)) setD)
    (sret (vr 3))))
    skip)
    (sret (o2 modD (cl 2 (noExc f__law_mixed) (ac (o2 getD (vr 0) (cn (.int 2))) (ac (o2 getD (vr 0) (cn (.int 3))) an))) (vr 1))))))
def f__law_take : Fn := fnB 4 b__law_take
theorem sc__law_take : FnScope ["tape", "many", "cell", "found"] ["tape", "many"] (defScope st__law_take) := ⟨rfl, rfl, rfl, by decide +kernel, rfl, by decide +kernel, by decide +kernel⟩
theorem g__law_take__law_mixed : OkG (defScope st__law_take) "_law_mixed" := ⟨by decide +kernel⟩
theorem g__law_take_len : OkG (defScope st__law_take) "len" := ⟨by decide +kernel⟩
theorem l__law_take_cell : OkL (defScope st__law_take) "cell" := ⟨by decide +kernel⟩
theorem l__law_take_found : OkL (defScope st__law_take) "found" := ⟨by decide +kernel⟩
theorem v__law_take_cell : OkV (defScope st__law_take) "cell" := ⟨by decide +kernel⟩
theorem v__law_take_found : OkV (defScope st__law_take) "found" := ⟨by decide +kernel⟩
theorem v__law_take_many : OkV (defScope st__law_take) "many" := ⟨by decide +kernel⟩
theorem v__law_take_tape : OkV (defScope st__law_take) "tape" := ⟨by decide +kernel⟩
theorem p__law_mixed : plainN "_law_mixed" = true := by decide +kernel
set_option maxHeartbeats 4000000 in
theorem cal__law_take (T : Txt K mg) (d : Dn K mg "_law_take" st__law_take ["tape", "many"]) (C__law_mixed : Cal P w K mg base "_law_mixed" ["cell", "turn"] f__law_mixed 1) : Cal P w K mg base "_law_take" ["tape", "many"] f__law_take 2 := by
  have Sc := sc__law_take
  refine cal_of ["tape", "many", "cell", "found"] 1 b__law_take rfl d Sc fun f cdv A outer s H E hr => ?_
  conv => arg 3; whnf
  exact (jss_cons (js_setix (je_add (je_get (jv 0 v__law_take_tape) je_int) je_int) (jv 0 v__law_take_tape) je_int)
    (jss_cons (js_if (JW.jt (jw_and (jt_eq hr.units (je_get (jv 0 v__law_take_tape) je_int) je_int) (jw_and1 (jt_gt (je_len (gl g__law_take_len) T.b_len (ja_cons (je_get (jv 0 v__law_take_tape) je_int) ja_nil se_Subscript)) je_int))))
    (jss_cons (jset 2 Sc.nd l__law_take_cell (je_pop (je_get (jv 0 v__law_take_tape) je_int) (ja_cons je_int ja_nil se_Constant)))
    (jss_cons (js_if (jt_lt (jv 2 v__law_take_cell) (je_pow je_int je_int))
    (jss_one (js_ret (je_mod (jown C__law_mixed hr (gl g__law_take__law_mixed) p__law_mixed (ja_cons (jv 2 v__law_take_cell) (ja_cons (je_get (jv 0 v__law_take_tape) je_int) ja_nil se_Subscript) se_Name)) (jv 1 v__law_take_many))))
    jss_nil)
    (jss_one (js_setix (jv 2 v__law_take_cell) (jv 0 v__law_take_tape) je_int))))
    jss_nil)
    (jss_cons (js_if (jt_gt (je_get (jv 0 v__law_take_tape) je_int) je_int)
    (jss_cons (jset 3 Sc.nd l__law_take_found (je_mod (je_get (jv 0 v__law_take_tape) je_int) (jv 1 v__law_take_many)))
    (jss_cons (js_setix (je_div2 (je_get (jv 0 v__law_take_tape) je_int) (jv 1 v__law_take_many)) (jv 0 v__law_take_tape) je_int)
    (jss_one (js_ret (jv 3 v__law_take_found)))))
    jss_nil)
    (jss_one (js_ret (je_mod (jown C__law_mixed hr (gl g__law_take__law_mixed) p__law_mixed (ja_cons (je_get (jv 0 v__law_take_tape) je_int) (ja_cons (je_get (jv 0 v__law_take_tape) je_int) ja_nil se_Subscript) se_Subscript)) (jv 1 v__law_take_many)))))))
def lb__law_large_1 : Sv := (sq (sa (o2 addD (o2 mulD (vr 2) (o2 powD (cn (.int 10)) (cn (.int 6)))) (cl 2 (noExc f__law_take) (ac (vr 0) (ac (o2 powD (cn (.int 10)) (cn (.int 6))) an)))) (gn 2))
    (sa (o2 mulD (vr 3) (o2 powD (cn (.int 10)) (cn (.int 6)))) (gn 3)))
def lc__law_large_1 : Ev Bool := (tb (o2 ltD (vr 3) (vr 1)))
def b__law_large : Sv := (sq (sa (cn (.int 0)) (gn 2))
    (sq (sa (cn (.int 1)) (gn 3))
    (sq (whN lc__law_large_1 lb__law_large_1 1000)
    (sret (o2 modD (vr 2) (vr 1))))))
def f__law_large : Fn := fnB 4 b__law_large
theorem sc__law_large : FnScope ["tape", "many", "found", "size"] ["tape", "many"] (defScope st__law_large) := ⟨rfl, rfl, rfl, by decide +kernel, rfl, by decide +kernel, by decide +kernel⟩
theorem g__law_large__law_take : OkG (defScope st__law_large) "_law_take" := ⟨by decide +kernel⟩
theorem l__law_large_found : OkL (defScope st__law_large) "found" := ⟨by decide +kernel⟩
theorem l__law_large_size : OkL (defScope st__law_large) "size" := ⟨by decide +kernel⟩
theorem v__law_large_found : OkV (defScope st__law_large) "found" := ⟨by decide +kernel⟩
theorem v__law_large_many : OkV (defScope st__law_large) "many" := ⟨by decide +kernel⟩
theorem v__law_large_size : OkV (defScope st__law_large) "size" := ⟨by decide +kernel⟩
theorem v__law_large_tape : OkV (defScope st__law_large) "tape" := ⟨by decide +kernel⟩
theorem p__law_take : plainN "_law_take" = true := by decide +kernel
set_option maxHeartbeats 4000000 in
theorem cal__law_large (T : Txt K mg) (d : Dn K mg "_law_large" st__law_large ["tape", "many"]) (C__law_take : Cal P w K mg base "_law_take" ["tape", "many"] f__law_take 2) : Cal P w K mg base "_law_large" ["tape", "many"] f__law_large 3 := by
  have Sc := sc__law_large
  refine cal_of ["tape", "many", "found", "size"] 2 b__law_large rfl d Sc fun f cdv A outer s H E hr => ?_
  conv => arg 3; whnf
  exact (jss_cons (jset 2 Sc.nd l__law_large_found je_int)
    (jss_cons (jset 3 Sc.nd l__law_large_size je_int)
    (jss_cons (js_while 1000 PassesOwn.never (jt_lt (jv 3 v__law_large_size) (jv 1 v__law_large_many))
    (jss_cons (jset 2 Sc.nd l__law_large_found (je_add (je_mul (jv 2 v__law_large_found) (je_pow je_int je_int)) (jown C__law_take hr (gl g__law_large__law_take) p__law_take (ja_cons (jv 0 v__law_large_tape) (ja_cons (je_pow je_int je_int) ja_nil se_BinOp) se_Name))))
    (jss_one (jset 3 Sc.nd l__law_large_size (je_mul (jv 3 v__law_large_size) (je_pow je_int je_int))))))
    (jss_one (js_ret (je_mod (jv 2 v__law_large_found) (jv 1 v__law_large_many)))))))
def lb__law_days_1 : Sv := (sq (sa (o2 subD (cl 2 (noExc f__law_large) (ac (vr 0) (ac (o2 addD (o2 mulD (cn (.int 2)) (vr 4)) (cn (.int 1))) an))) (vr 4)) (gn 6))
    (sq (sx (mt insD (vr 5) (ac (cl 2 (noExc f__law_take) (ac (vr 0) (ac (o2 addD (b1 lenD (ac (vr 5) an)) (cn (.int 1))) an))) (ac (vr 6) an))))
    (sif (ta (tb (o2 eqD (vr 3) (cn (.int 1)))) (tb (o2 ltD (b1 lenD (ac (vr 5) an)) (vr 1))))
    (sx (mt insD (vr 5) (ac (cl 2 (noExc f__law_take) (ac (vr 0) (ac (o2 addD (b1 lenD (ac (vr 5) an)) (cn (.int 1))) an))) (ac (o2 subD (cn (.int 0)) (vr 6)) an))))
    skip)))
def lc__law_days_1 : Ev Bool := (tb (o2 ltD (b1 lenD (ac (vr 5) an)) (vr 1)))
def b__law_days : Sv := (sq (sa (o2 addD (cn (.int 1)) (cl 2 (noExc f__law_take) (ac (vr 0) (ac (o2 getD (ls (ac (cn (.int 3)) (ac (cn (.int 8)) (ac (cn (.int 60)) an)))) (cl 2 (noExc f__law_take) (ac (vr 0) (ac (cn (.int 3)) an)))) an)))) (gn 1))
    (sq (sa (o2 getD (ls (ac (cn (.int 10)) (ac (cn (.int 1000)) (ac (o2 powD (cn (.int 10)) (cn (.int 15))) an)))) (cl 2 (noExc f__law_take) (ac (vr 0) (ac (cn (.int 3)) an)))) (gn 2))
    (sq (sa (cl 2 (noExc f__law_take) (ac (vr 0) (ac (cn (.int 2)) an))) (gn 3))
    (sq (sa (o2 subD (o2 subD (vr 2) (cn (.int 1))) (vr 3)) (gn 4))
    (sq (sa (ls an) (gn 5))
    (sq (whN lc__law_days_1 lb__law_days_1 1000)
    (sq (sif (tb (o2 eqD (vr 3) (cn (.int 1))))
    (sq (sa (cl 2 (noExc f__law_take) (ac (vr 0) (ac (vr 1) an))) (gn 7))
    (ss (o2 subD (o2 addD (o2 getD (vr 5) (vr 7)) (cl 2 (noExc f__law_take) (ac (vr 0) (ac (cn (.int 3)) an)))) (cn (.int 1))) (vr 5) (vr 7) setD))
    skip)
    (sret (b1 tupD (ac (vr 5) an))))))))))
def f__law_days : Fn := fnB 8 b__law_days
theorem sc__law_days : FnScope ["tape", "size", "scale", "even", "wide", "days", "day", "at"] ["tape"] (defScope st__law_days) := ⟨rfl, rfl, rfl, by decide +kernel, rfl, by decide +kernel, by decide +kernel⟩
theorem g__law_days__law_large : OkG (defScope st__law_days) "_law_large" := ⟨by decide +kernel⟩
theorem g__law_days__law_take : OkG (defScope st__law_days) "_law_take" := ⟨by decide +kernel⟩
theorem g__law_days_len : OkG (defScope st__law_days) "len" := ⟨by decide +kernel⟩
theorem g__law_days_tuple : OkG (defScope st__law_days) "tuple" := ⟨by decide +kernel⟩
theorem l__law_days_at : OkL (defScope st__law_days) "at" := ⟨by decide +kernel⟩
theorem l__law_days_day : OkL (defScope st__law_days) "day" := ⟨by decide +kernel⟩
theorem l__law_days_days : OkL (defScope st__law_days) "days" := ⟨by decide +kernel⟩
theorem l__law_days_even : OkL (defScope st__law_days) "even" := ⟨by decide +kernel⟩
theorem l__law_days_scale : OkL (defScope st__law_days) "scale" := ⟨by decide +kernel⟩
theorem l__law_days_size : OkL (defScope st__law_days) "size" := ⟨by decide +kernel⟩
theorem l__law_days_wide : OkL (defScope st__law_days) "wide" := ⟨by decide +kernel⟩
theorem v__law_days_at : OkV (defScope st__law_days) "at" := ⟨by decide +kernel⟩
theorem v__law_days_day : OkV (defScope st__law_days) "day" := ⟨by decide +kernel⟩
theorem v__law_days_days : OkV (defScope st__law_days) "days" := ⟨by decide +kernel⟩
theorem v__law_days_even : OkV (defScope st__law_days) "even" := ⟨by decide +kernel⟩
theorem v__law_days_scale : OkV (defScope st__law_days) "scale" := ⟨by decide +kernel⟩
theorem v__law_days_size : OkV (defScope st__law_days) "size" := ⟨by decide +kernel⟩
theorem v__law_days_tape : OkV (defScope st__law_days) "tape" := ⟨by decide +kernel⟩
theorem v__law_days_wide : OkV (defScope st__law_days) "wide" := ⟨by decide +kernel⟩
theorem p__law_large : plainN "_law_large" = true := by decide +kernel
set_option maxHeartbeats 4000000 in
theorem cal__law_days (T : Txt K mg) (d : Dn K mg "_law_days" st__law_days ["tape"]) (C__law_large : Cal P w K mg base "_law_large" ["tape", "many"] f__law_large 3) (C__law_take : Cal P w K mg base "_law_take" ["tape", "many"] f__law_take 2) : Cal P w K mg base "_law_days" ["tape"] f__law_days 4 := by
  have Sc := sc__law_days
  refine cal_of ["tape", "size", "scale", "even", "wide", "days", "day", "at"] 3 b__law_days rfl d Sc fun f cdv A outer s H E hr => ?_
  conv => arg 3; whnf
  exact (jss_cons (jset 1 Sc.nd l__law_days_size (je_add je_int (jown C__law_take hr (gl g__law_days__law_take) p__law_take (ja_cons (jv 0 v__law_days_tape) (ja_cons (je_get (je_lst (ja_cons je_int (ja_cons je_int (ja_cons je_int ja_nil se_Constant) se_Constant) se_Constant)) (jown C__law_take hr (gl g__law_days__law_take) p__law_take (ja_cons (jv 0 v__law_days_tape) (ja_cons je_int ja_nil se_Constant) se_Name))) ja_nil se_Subscript) se_Name))))
    (jss_cons (jset 2 Sc.nd l__law_days_scale (je_get (je_lst (ja_cons je_int (ja_cons je_int (ja_cons (je_pow je_int je_int) ja_nil se_BinOp) se_Constant) se_Constant)) (jown C__law_take hr (gl g__law_days__law_take) p__law_take (ja_cons (jv 0 v__law_days_tape) (ja_cons je_int ja_nil se_Constant) se_Name))))
    (jss_cons (jset 3 Sc.nd l__law_days_even (jown C__law_take hr (gl g__law_days__law_take) p__law_take (ja_cons (jv 0 v__law_days_tape) (ja_cons je_int ja_nil se_Constant) se_Name)))
    (jss_cons (jset 4 Sc.nd l__law_days_wide (je_sub (je_sub (jv 2 v__law_days_scale) je_int) (jv 3 v__law_days_even)))
    (jss_cons (jset 5 Sc.nd l__law_days_days (je_lst ja_nil))
    (jss_cons (js_while 1000 PassesOwn.never (jt_lt (je_len (gl g__law_days_len) T.b_len (ja_cons (jv 5 v__law_days_days) ja_nil se_Name)) (jv 1 v__law_days_size))
    (jss_cons (jset 6 Sc.nd l__law_days_day (je_sub (jown C__law_large hr (gl g__law_days__law_large) p__law_large (ja_cons (jv 0 v__law_days_tape) (ja_cons (je_add (je_mul je_int (jv 4 v__law_days_wide)) je_int) ja_nil se_BinOp) se_Name)) (jv 4 v__law_days_wide)))
    (jss_cons (js_expr (je_insert (jv 5 v__law_days_days) (ja_cons (jown C__law_take hr (gl g__law_days__law_take) p__law_take (ja_cons (jv 0 v__law_days_tape) (ja_cons (je_add (je_len (gl g__law_days_len) T.b_len (ja_cons (jv 5 v__law_days_days) ja_nil se_Name)) je_int) ja_nil se_BinOp) se_Name)) (ja_cons (jv 6 v__law_days_day) ja_nil se_Name) se_Call)))
    (jss_one (js_if (JW.jt (jw_and (jt_eq hr.units (jv 3 v__law_days_even) je_int) (jw_and1 (jt_lt (je_len (gl g__law_days_len) T.b_len (ja_cons (jv 5 v__law_days_days) ja_nil se_Name)) (jv 1 v__law_days_size)))))
    (jss_one (js_expr (je_insert (jv 5 v__law_days_days) (ja_cons (jown C__law_take hr (gl g__law_days__law_take) p__law_take (ja_cons (jv 0 v__law_days_tape) (ja_cons (je_add (je_len (gl g__law_days_len) T.b_len (ja_cons (jv 5 v__law_days_days) ja_nil se_Name)) je_int) ja_nil se_BinOp) se_Name)) (ja_cons (je_sub je_int (jv 6 v__law_days_day)) ja_nil se_BinOp) se_Call))))
    jss_nil)))))
    (jss_cons (js_if (jt_eq hr.units (jv 3 v__law_days_even) je_int)
    (jss_cons (jset 7 Sc.nd l__law_days_at (jown C__law_take hr (gl g__law_days__law_take) p__law_take (ja_cons (jv 0 v__law_days_tape) (ja_cons (jv 1 v__law_days_size) ja_nil se_Name) se_Name)))
    (jss_one (js_setix (je_sub (je_add (je_get (jv 5 v__law_days_days) (jv 7 v__law_days_at)) (jown C__law_take hr (gl g__law_days__law_take) p__law_take (ja_cons (jv 0 v__law_days_tape) (ja_cons je_int ja_nil se_Constant) se_Name))) je_int) (jv 5 v__law_days_days) (jv 7 v__law_days_at))))
    jss_nil)
    (jss_one (js_ret (je_tuple (gl g__law_days_tuple) T.b_tuple (ja_cons (jv 5 v__law_days_days) ja_nil se_Name)))))))))))
def lb__law_need_1 : Sv := (sq (sa (b1 minD (ac (cn (.int 0)) (ac (o2 addD (vr 2) (vr 3)) an))) (gn 2))
    (sa (b1 maxD (ac (vr 1) (ac (o2 subD (cn (.int 0)) (vr 2)) an))) (gn 1)))
def b__law_need : Sv := (sq (sa (cn (.int 0)) (gn 1))
    (sq (sa (cn (.int 0)) (gn 2))
    (sq (sfor (isrc (o2 addD (vr 0) (vr 0))) (gn 3) lb__law_need_1)
    (sret (vr 1)))))
def f__law_need : Fn := fnB 4 b__law_need
theorem sc__law_need : FnScope ["days", "need", "under", "day"] ["days"] (defScope st__law_need) := ⟨rfl, rfl, rfl, by decide +kernel, rfl, by decide +kernel, by decide +kernel⟩
theorem g__law_need_max : OkG (defScope st__law_need) "max" := ⟨by decide +kernel⟩
theorem g__law_need_min : OkG (defScope st__law_need) "min" := ⟨by decide +kernel⟩
theorem l__law_need_day : OkL (defScope st__law_need) "day" := ⟨by decide +kernel⟩
theorem l__law_need_need : OkL (defScope st__law_need) "need" := ⟨by decide +kernel⟩
theorem l__law_need_under : OkL (defScope st__law_need) "under" := ⟨by decide +kernel⟩
theorem v__law_need_day : OkV (defScope st__law_need) "day" := ⟨by decide +kernel⟩
theorem v__law_need_days : OkV (defScope st__law_need) "days" := ⟨by decide +kernel⟩
theorem v__law_need_need : OkV (defScope st__law_need) "need" := ⟨by decide +kernel⟩
theorem v__law_need_under : OkV (defScope st__law_need) "under" := ⟨by decide +kernel⟩
set_option maxHeartbeats 4000000 in
theorem cal__law_need (T : Txt K mg) (d : Dn K mg "_law_need" st__law_need ["days"]) : Cal P w K mg base "_law_need" ["days"] f__law_need 1 := by
  have Sc := sc__law_need
  refine cal_of ["days", "need", "under", "day"] 0 b__law_need rfl d Sc fun f cdv A outer s H E hr => ?_
  conv => arg 3; whnf
  exact (jss_cons (jset 1 Sc.nd l__law_need_need je_int)
    (jss_cons (jset 2 Sc.nd l__law_need_under je_int)
    (jss_cons (js_for PassesOwn.never rfl (ji_seq (je_add (jv 0 v__law_need_days) (jv 0 v__law_need_days))) (jgn 3 Sc.nd l__law_need_day)
    (jss_cons (jset 2 Sc.nd l__law_need_under (je_min rfl (gl g__law_need_min) T.b_min (ja_cons je_int (ja_cons (je_add (jv 2 v__law_need_under) (jv 3 v__law_need_day)) ja_nil se_BinOp) se_Constant)))
    (jss_one (jset 1 Sc.nd l__law_need_need (je_max rfl (gl g__law_need_max) T.b_max (ja_cons (jv 1 v__law_need_need) (ja_cons (je_sub je_int (jv 2 v__law_need_under)) ja_nil se_BinOp) se_Name))))))
    (jss_one (js_ret (jv 1 v__law_need_need))))))
def b__law_brim : Sv := (sq (sa (o2 subD (o2 addD (cl 1 (noExc f__law_need) (ac (vr 1) an)) (cl 2 (noExc f__law_take) (ac (vr 0) (ac (cn (.int 3)) an)))) (cn (.int 1))) (gn 2))
    (sq (sif (ta (tb (o2 eqD (cl 2 (noExc f__law_take) (ac (vr 0) (ac (cn (.int 2)) an))) (cn (.int 0)))) (tb (ch leD leD (cn (.int 0)) (vr 2) (o2 powD (cn (.int 10)) (cn (.int 15))))))
    (sret (vr 2))
    skip)
    (sret (cl 2 (noExc f__law_large) (ac (vr 0) (ac (o2 getD (ls (ac (cn (.int 1)) (ac (cn (.int 20)) (ac (cn (.int 2000)) (ac (o2 addD (o2 powD (cn (.int 10)) (cn (.int 15))) (cn (.int 1))) an))))) (cl 2 (noExc f__law_take) (ac (vr 0) (ac (cn (.int 4)) an)))) an))))))
def f__law_brim : Fn := fnB 3 b__law_brim
theorem sc__law_brim : FnScope ["tape", "days", "near"] ["tape", "days"] (defScope st__law_brim) := ⟨rfl, rfl, rfl, by decide +kernel, rfl, by decide +kernel, by decide +kernel⟩
theorem g__law_brim__law_large : OkG (defScope st__law_brim) "_law_large" := ⟨by decide +kernel⟩
theorem g__law_brim__law_need : OkG (defScope st__law_brim) "_law_need" := ⟨by decide +kernel⟩
theorem g__law_brim__law_take : OkG (defScope st__law_brim) "_law_take" := ⟨by decide +kernel⟩
theorem l__law_brim_near : OkL (defScope st__law_brim) "near" := ⟨by decide +kernel⟩
theorem v__law_brim_days : OkV (defScope st__law_brim) "days" := ⟨by decide +kernel⟩
theorem v__law_brim_near : OkV (defScope st__law_brim) "near" := ⟨by decide +kernel⟩
theorem v__law_brim_tape : OkV (defScope st__law_brim) "tape" := ⟨by decide +kernel⟩
theorem p__law_need : plainN "_law_need" = true := by decide +kernel
set_option maxHeartbeats 4000000 in
theorem cal__law_brim (T : Txt K mg) (d : Dn K mg "_law_brim" st__law_brim ["tape", "days"]) (C__law_large : Cal P w K mg base "_law_large" ["tape", "many"] f__law_large 3) (C__law_need : Cal P w K mg base "_law_need" ["days"] f__law_need 1) (C__law_take : Cal P w K mg base "_law_take" ["tape", "many"] f__law_take 2) : Cal P w K mg base "_law_brim" ["tape", "days"] f__law_brim 4 := by
  have Sc := sc__law_brim
  refine cal_of ["tape", "days", "near"] 3 b__law_brim rfl d Sc fun f cdv A outer s H E hr => ?_
  conv => arg 3; whnf
  exact (jss_cons (jset 2 Sc.nd l__law_brim_near (je_sub (je_add (jown C__law_need hr (gl g__law_brim__law_need) p__law_need (ja_cons (jv 1 v__law_brim_days) ja_nil se_Name)) (jown C__law_take hr (gl g__law_brim__law_take) p__law_take (ja_cons (jv 0 v__law_brim_tape) (ja_cons je_int ja_nil se_Constant) se_Name))) je_int))
    (jss_cons (js_if (JW.jt (jw_and (jt_eq hr.units (jown C__law_take hr (gl g__law_brim__law_take) p__law_take (ja_cons (jv 0 v__law_brim_tape) (ja_cons je_int ja_nil se_Constant) se_Name)) je_int) (jw_and1 (jt_chain op_le od_le op_le od_le je_int (jv 2 v__law_brim_near) (je_pow je_int je_int)))))
    (jss_one (js_ret (jv 2 v__law_brim_near)))
    jss_nil)
    (jss_one (js_ret (jown C__law_large hr (gl g__law_brim__law_large) p__law_large (ja_cons (jv 0 v__law_brim_tape) (ja_cons (je_get (je_lst (ja_cons je_int (ja_cons je_int (ja_cons je_int (ja_cons (je_add (je_pow je_int je_int) je_int) ja_nil se_BinOp) se_Constant) se_Constant) se_Constant)) (jown C__law_take hr (gl g__law_brim__law_take) p__law_take (ja_cons (jv 0 v__law_brim_tape) (ja_cons je_int ja_nil se_Constant) se_Name))) ja_nil se_Subscript) se_Name))))))
def b__law_number : Sv := (sret (va (o1 (isD "int") (vr 0)) (vn (o1 (isD "bool") (vr 0)))))
def f__law_number : Fn := fnB 1 b__law_number
theorem sc__law_number : FnScope ["found"] ["found"] (defScope st__law_number) := ⟨rfl, rfl, rfl, by decide +kernel, rfl, by decide +kernel, by decide +kernel⟩
theorem g__law_number_bool : OkG (defScope st__law_number) "bool" := ⟨by decide +kernel⟩
theorem g__law_number_int : OkG (defScope st__law_number) "int" := ⟨by decide +kernel⟩
theorem g__law_number_isinstance : OkG (defScope st__law_number) "isinstance" := ⟨by decide +kernel⟩
theorem v__law_number_found : OkV (defScope st__law_number) "found" := ⟨by decide +kernel⟩
set_option maxHeartbeats 4000000 in
theorem cal__law_number (T : Txt K mg) (d : Dn K mg "_law_number" st__law_number ["found"]) : Cal P w K mg base "_law_number" ["found"] f__law_number 1 := by
  have Sc := sc__law_number
  refine cal_of ["found"] 0 b__law_number rfl d Sc fun f cdv A outer s H E hr => ?_
  conv => arg 3; whnf
  exact (jss_one (js_ret (je_and (je_isi kit_int (by rfl) (by decide +kernel) (by decide +kernel) (gl g__law_number_isinstance) T.b_isinstance (gl g__law_number_int) T.b_int (jv 0 v__law_number_found) (by rfl) (by rfl) (by rfl)) (je_one (je_not (je_isi kit_bool (by rfl) (by decide +kernel) (by decide +kernel) (gl g__law_number_isinstance) T.b_isinstance (gl g__law_number_bool) T.b_bool (jv 0 v__law_number_found) (by rfl) (by rfl) (by rfl)))))))
def lb__law_dries_1 : Sv := (sa (o2 addD (vr 4) (o2 getD (vr 1) (o2 modD (o2 addD (vr 2) (vr 5)) (b1 lenD (ac (vr 1) an))))) (gn 4))
def b__law_dries : Sv := (sq (sif (to (tn (tt (cl 1 (noExc f__law_number) (ac (vr 2) an)))) (tn (tt (cl 1 (noExc f__law_number) (ac (vr 3) an)))))
    (sret (cn (.bl false)))
    skip)
    (sq (sif (to (tb (o2 ltD (vr 2) (cn (.int 0)))) (to (tb (o2 geD (vr 2) (b1 lenD (ac (vr 1) an)))) (tb (o2 ltD (vr 3) (cn (.int 1))))))
    (sret (cn (.bl false)))
    skip)
    (sq (sa (o2 mulD (o2 divD2 (vr 3) (b1 lenD (ac (vr 1) an))) (b1 sumD (ac (vr 1) an))) (gn 4))
    (sq (sfor (ir1 (ac (o2 modD (vr 3) (b1 lenD (ac (vr 1) an))) an)) (gn 5) lb__law_dries_1)
    (sret (o2 ltD (o2 addD (vr 4) (vr 0)) (cn (.int 0))))))))
def f__law_dries : Fn := fnB 6 b__law_dries
theorem sc__law_dries : FnScope ["brim", "days", "first", "many", "total", "at"] ["brim", "days", "first", "many"] (defScope st__law_dries) := ⟨rfl, rfl, rfl, by decide +kernel, rfl, by decide +kernel, by decide +kernel⟩
theorem g__law_dries__law_number : OkG (defScope st__law_dries) "_law_number" := ⟨by decide +kernel⟩
theorem g__law_dries_len : OkG (defScope st__law_dries) "len" := ⟨by decide +kernel⟩
theorem g__law_dries_range : OkG (defScope st__law_dries) "range" := ⟨by decide +kernel⟩
theorem g__law_dries_sum : OkG (defScope st__law_dries) "sum" := ⟨by decide +kernel⟩
theorem l__law_dries_at : OkL (defScope st__law_dries) "at" := ⟨by decide +kernel⟩
theorem l__law_dries_total : OkL (defScope st__law_dries) "total" := ⟨by decide +kernel⟩
theorem v__law_dries_at : OkV (defScope st__law_dries) "at" := ⟨by decide +kernel⟩
theorem v__law_dries_brim : OkV (defScope st__law_dries) "brim" := ⟨by decide +kernel⟩
theorem v__law_dries_days : OkV (defScope st__law_dries) "days" := ⟨by decide +kernel⟩
theorem v__law_dries_first : OkV (defScope st__law_dries) "first" := ⟨by decide +kernel⟩
theorem v__law_dries_many : OkV (defScope st__law_dries) "many" := ⟨by decide +kernel⟩
theorem v__law_dries_total : OkV (defScope st__law_dries) "total" := ⟨by decide +kernel⟩
theorem p__law_number : plainN "_law_number" = true := by decide +kernel
set_option maxHeartbeats 4000000 in
theorem cal__law_dries (T : Txt K mg) (d : Dn K mg "_law_dries" st__law_dries ["brim", "days", "first", "many"]) (C__law_number : Cal P w K mg base "_law_number" ["found"] f__law_number 1) : Cal P w K mg base "_law_dries" ["brim", "days", "first", "many"] f__law_dries 2 := by
  have Sc := sc__law_dries
  refine cal_of ["brim", "days", "first", "many", "total", "at"] 1 b__law_dries rfl d Sc fun f cdv A outer s H E hr => ?_
  conv => arg 3; whnf
  exact (jss_cons (js_if (JW.jt (jw_or (jt_not (jt_val (jown C__law_number hr (gl g__law_dries__law_number) p__law_number (ja_cons (jv 2 v__law_dries_first) ja_nil se_Name)))) (jw_or1 (jt_not (jt_val (jown C__law_number hr (gl g__law_dries__law_number) p__law_number (ja_cons (jv 3 v__law_dries_many) ja_nil se_Name)))))))
    (jss_one (js_ret je_bl))
    jss_nil)
    (jss_cons (js_if (JW.jt (jw_or (jt_lt (jv 2 v__law_dries_first) je_int) (jw_or (jt_ge (jv 2 v__law_dries_first) (je_len (gl g__law_dries_len) T.b_len (ja_cons (jv 1 v__law_dries_days) ja_nil se_Name))) (jw_or1 (jt_lt (jv 3 v__law_dries_many) je_int)))))
    (jss_one (js_ret je_bl))
    jss_nil)
    (jss_cons (jset 4 Sc.nd l__law_dries_total (je_mul (je_div2 (jv 3 v__law_dries_many) (je_len (gl g__law_dries_len) T.b_len (ja_cons (jv 1 v__law_dries_days) ja_nil se_Name))) (je_sum rfl (gl g__law_dries_sum) T.b_sum (ja_cons (jv 1 v__law_dries_days) ja_nil se_Name))))
    (jss_cons (js_for PassesOwn.never rfl (ji_range1 (gl g__law_dries_range) T.b_range (ja_cons (je_mod (jv 3 v__law_dries_many) (je_len (gl g__law_dries_len) T.b_len (ja_cons (jv 1 v__law_dries_days) ja_nil se_Name))) ja_nil se_BinOp)) (jgn 5 Sc.nd l__law_dries_at)
    (jss_one (jset 4 Sc.nd l__law_dries_total (je_add (jv 4 v__law_dries_total) (je_get (jv 1 v__law_dries_days) (je_mod (je_add (jv 2 v__law_dries_first) (jv 5 v__law_dries_at)) (je_len (gl g__law_dries_len) T.b_len (ja_cons (jv 1 v__law_dries_days) ja_nil se_Name))))))))
    (jss_one (js_ret (je_lt (je_add (jv 4 v__law_dries_total) (jv 0 v__law_dries_brim)) je_int)))))))
def lb__law_sum_1 : Sv := (sa (o2 addD (vr 3) (o2 getD (vr 0) (o2 modD (o2 addD (vr 1) (vr 4)) (b1 lenD (ac (vr 0) an))))) (gn 3))
def b__law_sum : Sv := (sq (sa (o2 mulD (o2 divD2 (vr 2) (b1 lenD (ac (vr 0) an))) (b1 sumD (ac (vr 0) an))) (gn 3))
    (sq (sfor (ir1 (ac (o2 modD (vr 2) (b1 lenD (ac (vr 0) an))) an)) (gn 4) lb__law_sum_1)
    (sret (vr 3))))
def f__law_sum : Fn := fnB 5 b__law_sum
theorem sc__law_sum : FnScope ["days", "first", "many", "total", "at"] ["days", "first", "many"] (defScope st__law_sum) := ⟨rfl, rfl, rfl, by decide +kernel, rfl, by decide +kernel, by decide +kernel⟩
theorem g__law_sum_len : OkG (defScope st__law_sum) "len" := ⟨by decide +kernel⟩
theorem g__law_sum_range : OkG (defScope st__law_sum) "range" := ⟨by decide +kernel⟩
theorem g__law_sum_sum : OkG (defScope st__law_sum) "sum" := ⟨by decide +kernel⟩
theorem l__law_sum_at : OkL (defScope st__law_sum) "at" := ⟨by decide +kernel⟩
theorem l__law_sum_total : OkL (defScope st__law_sum) "total" := ⟨by decide +kernel⟩
theorem v__law_sum_at : OkV (defScope st__law_sum) "at" := ⟨by decide +kernel⟩
theorem v__law_sum_days : OkV (defScope st__law_sum) "days" := ⟨by decide +kernel⟩
theorem v__law_sum_first : OkV (defScope st__law_sum) "first" := ⟨by decide +kernel⟩
theorem v__law_sum_many : OkV (defScope st__law_sum) "many" := ⟨by decide +kernel⟩
theorem v__law_sum_total : OkV (defScope st__law_sum) "total" := ⟨by decide +kernel⟩
set_option maxHeartbeats 4000000 in
theorem cal__law_sum (T : Txt K mg) (d : Dn K mg "_law_sum" st__law_sum ["days", "first", "many"]) : Cal P w K mg base "_law_sum" ["days", "first", "many"] f__law_sum 1 := by
  have Sc := sc__law_sum
  refine cal_of ["days", "first", "many", "total", "at"] 0 b__law_sum rfl d Sc fun f cdv A outer s H E hr => ?_
  conv => arg 3; whnf
  exact (jss_cons (jset 3 Sc.nd l__law_sum_total (je_mul (je_div2 (jv 2 v__law_sum_many) (je_len (gl g__law_sum_len) T.b_len (ja_cons (jv 0 v__law_sum_days) ja_nil se_Name))) (je_sum rfl (gl g__law_sum_sum) T.b_sum (ja_cons (jv 0 v__law_sum_days) ja_nil se_Name))))
    (jss_cons (js_for PassesOwn.never rfl (ji_range1 (gl g__law_sum_range) T.b_range (ja_cons (je_mod (jv 2 v__law_sum_many) (je_len (gl g__law_sum_len) T.b_len (ja_cons (jv 0 v__law_sum_days) ja_nil se_Name))) ja_nil se_BinOp)) (jgn 4 Sc.nd l__law_sum_at)
    (jss_one (jset 3 Sc.nd l__law_sum_total (je_add (jv 3 v__law_sum_total) (je_get (jv 0 v__law_sum_days) (je_mod (je_add (jv 1 v__law_sum_first) (jv 4 v__law_sum_at)) (je_len (gl g__law_sum_len) T.b_len (ja_cons (jv 0 v__law_sum_days) ja_nil se_Name))))))))
    (jss_one (js_ret (jv 3 v__law_sum_total)))))
def b__law_things : Sv := (sq (sa (tp (ac (cn (.str "dries")) (ac (vr 1) (ac (vr 2) an)))) (gn 3))
    (sq (sa (ls (ac (vr 3) (ac (b1 listD (ac (vr 3) an)) (ac (sl2 (vr 3) onone (osome (cn (.int 2)))) (ac (o2 addD (vr 3) (tp (ac (cn (.int 0)) an))) (ac (tp (ac (vr 3) an)) (ac (ls (ac (vr 3) an)) (ac (tp (ac (cn (.str "dries")) (ac (o2 addD (vr 1) (vr 0)) (ac (vr 2) an)))) an)))))))) (gn 4))
    (sq (sa (o2 addD (vr 4) (ls (ac (tp (ac (cn (.str "dries")) (ac (o2 subD (vr 1) (vr 0)) (ac (vr 2) an)))) (ac (tp (ac (cn (.str "dries")) (ac (vr 1) (ac (cn (.int 0)) an)))) (ac (tp (ac (cn (.str "dries")) (ac (vr 1) (ac (o2 subD (cn (.int 0)) (vr 2)) an)))) an))))) (gn 4))
    (sq (sa (o2 addD (vr 4) (ls (ac (tp (ac (cn (.str "dries")) (ac (vr 1) (ac (cn (.int 1)) an)))) (ac (tp (ac (cn (.str "dries")) (ac (vr 2) (ac (vr 1) an)))) (ac (tp (ac (cn (.str "dries")) (ac (vr 1) (ac (o2 addD (vr 2) (cn (.int 1))) an)))) (ac (tp (ac (cn (.str "lasts")) (ac (vr 1) (ac (vr 2) an)))) an)))))) (gn 4))
    (sq (sa (o2 addD (vr 4) (ls (ac (tp (ac (cn (.str "Dries")) (ac (vr 1) (ac (vr 2) an)))) (ac (tp (ac (cn (.str "dry")) (ac (vr 1) (ac (vr 2) an)))) (ac (tp (ac (cn .non) (ac (vr 1) (ac (vr 2) an)))) (ac (tp (ac (ls (ac (cn (.str "dries")) an)) (ac (vr 1) (ac (vr 2) an)))) an)))))) (gn 4))
    (sq (sa (o2 addD (vr 4) (ls (ac (tp (ac (cn (.str "dries")) (ac (cn (.bl true)) (ac (vr 2) an)))) (ac (tp (ac (cn (.str "dries")) (ac (cn (.bl false)) (ac (vr 2) an)))) (ac (tp (ac (cn (.str "dries")) (ac (vr 1) (ac (cn (.bl true)) an)))) (ac (tp (ac (cn (.str "dries")) (ac (cn .non) (ac (vr 2) an)))) an)))))) (gn 4))
    (sq (sa (o2 addD (vr 4) (ls (ac (tp (ac (cn (.str "dries")) (ac (vr 1) (ac (cn .non) an)))) (ac (tp (ac (cn (.str "dries")) (ac (ls (ac (vr 1) an)) (ac (vr 2) an)))) (ac (tp (ac (cn (.str "dries")) (ac (vr 1) (ac (tp (ac (vr 2) an)) an)))) an))))) (gn 4))
    (sq (sa (o2 addD (vr 4) (ls (ac (tp (ac (cn (.str "dries")) (ac (b1 strD (ac (vr 1) an)) (ac (vr 2) an)))) (ac (tp (ac (cn (.str "dries")) (ac (vr 1) (ac (b1 strD (ac (vr 2) an)) an)))) (ac (tp (ac (vr 1) (ac (vr 2) an))) (ac (tp (ac (vr 1) (ac (vr 2) (ac (cn (.str "dries")) an)))) an)))))) (gn 4))
    (sret (o2 addD (vr 4) (ls (ac (tp an) (ac (ls an) (ac (cn .non) (ac (cn (.bl true)) (ac (cn (.int 0)) (ac (cn (.str "dries")) (ac (cn (.str "")) (ac (tp (ac (cn (.str "dries")) an)) an)))))))))))))))))))
def f__law_things : Fn := fnB 5 b__law_things
theorem sc__law_things : FnScope ["size", "first", "many", "good", "some"] ["size", "first", "many"] (defScope st__law_things) := ⟨rfl, rfl, rfl, by decide +kernel, rfl, by decide +kernel, by decide +kernel⟩
theorem g__law_things_list : OkG (defScope st__law_things) "list" := ⟨by decide +kernel⟩
theorem g__law_things_str : OkG (defScope st__law_things) "str" := ⟨by decide +kernel⟩
theorem l__law_things_good : OkL (defScope st__law_things) "good" := ⟨by decide +kernel⟩
theorem l__law_things_some : OkL (defScope st__law_things) "some" := ⟨by decide +kernel⟩
theorem v__law_things_first : OkV (defScope st__law_things) "first" := ⟨by decide +kernel⟩
theorem v__law_things_good : OkV (defScope st__law_things) "good" := ⟨by decide +kernel⟩
theorem v__law_things_many : OkV (defScope st__law_things) "many" := ⟨by decide +kernel⟩
theorem v__law_things_size : OkV (defScope st__law_things) "size" := ⟨by decide +kernel⟩
theorem v__law_things_some : OkV (defScope st__law_things) "some" := ⟨by decide +kernel⟩
set_option maxHeartbeats 4000000 in
theorem cal__law_things (T : Txt K mg) (d : Dn K mg "_law_things" st__law_things ["size", "first", "many"]) : Cal P w K mg base "_law_things" ["size", "first", "many"] f__law_things 1 := by
  have Sc := sc__law_things
  refine cal_of ["size", "first", "many", "good", "some"] 0 b__law_things rfl d Sc fun f cdv A outer s H E hr => ?_
  conv => arg 3; whnf
  exact (jss_cons (jset 3 Sc.nd l__law_things_good (je_tup (ja_cons je_str (ja_cons (jv 1 v__law_things_first) (ja_cons (jv 2 v__law_things_many) ja_nil se_Name) se_Name) se_Constant)))
    (jss_cons (jset 4 Sc.nd l__law_things_some (je_lst (ja_cons (jv 3 v__law_things_good) (ja_cons (je_list (gl g__law_things_list) T.b_list (ja_cons (jv 3 v__law_things_good) ja_nil se_Name)) (ja_cons (je_slice2 (jv 3 v__law_things_good) jo_none (jo_some je_int)) (ja_cons (je_add (jv 3 v__law_things_good) (je_tup (ja_cons je_int ja_nil se_Constant))) (ja_cons (je_tup (ja_cons (jv 3 v__law_things_good) ja_nil se_Name)) (ja_cons (je_lst (ja_cons (jv 3 v__law_things_good) ja_nil se_Name)) (ja_cons (je_tup (ja_cons je_str (ja_cons (je_add (jv 1 v__law_things_first) (jv 0 v__law_things_size)) (ja_cons (jv 2 v__law_things_many) ja_nil se_Name) se_BinOp) se_Constant)) ja_nil se_Tuple) se_List) se_Tuple) se_BinOp) se_Subscript) se_Call) se_Name)))
    (jss_cons (jset 4 Sc.nd l__law_things_some (je_add (jv 4 v__law_things_some) (je_lst (ja_cons (je_tup (ja_cons je_str (ja_cons (je_sub (jv 1 v__law_things_first) (jv 0 v__law_things_size)) (ja_cons (jv 2 v__law_things_many) ja_nil se_Name) se_BinOp) se_Constant)) (ja_cons (je_tup (ja_cons je_str (ja_cons (jv 1 v__law_things_first) (ja_cons je_int ja_nil se_Constant) se_Name) se_Constant)) (ja_cons (je_tup (ja_cons je_str (ja_cons (jv 1 v__law_things_first) (ja_cons (je_sub je_int (jv 2 v__law_things_many)) ja_nil se_BinOp) se_Name) se_Constant)) ja_nil se_Tuple) se_Tuple) se_Tuple))))
    (jss_cons (jset 4 Sc.nd l__law_things_some (je_add (jv 4 v__law_things_some) (je_lst (ja_cons (je_tup (ja_cons je_str (ja_cons (jv 1 v__law_things_first) (ja_cons je_int ja_nil se_Constant) se_Name) se_Constant)) (ja_cons (je_tup (ja_cons je_str (ja_cons (jv 2 v__law_things_many) (ja_cons (jv 1 v__law_things_first) ja_nil se_Name) se_Name) se_Constant)) (ja_cons (je_tup (ja_cons je_str (ja_cons (jv 1 v__law_things_first) (ja_cons (je_add (jv 2 v__law_things_many) je_int) ja_nil se_BinOp) se_Name) se_Constant)) (ja_cons (je_tup (ja_cons je_str (ja_cons (jv 1 v__law_things_first) (ja_cons (jv 2 v__law_things_many) ja_nil se_Name) se_Name) se_Constant)) ja_nil se_Tuple) se_Tuple) se_Tuple) se_Tuple))))
    (jss_cons (jset 4 Sc.nd l__law_things_some (je_add (jv 4 v__law_things_some) (je_lst (ja_cons (je_tup (ja_cons je_str (ja_cons (jv 1 v__law_things_first) (ja_cons (jv 2 v__law_things_many) ja_nil se_Name) se_Name) se_Constant)) (ja_cons (je_tup (ja_cons je_str (ja_cons (jv 1 v__law_things_first) (ja_cons (jv 2 v__law_things_many) ja_nil se_Name) se_Name) se_Constant)) (ja_cons (je_tup (ja_cons je_non (ja_cons (jv 1 v__law_things_first) (ja_cons (jv 2 v__law_things_many) ja_nil se_Name) se_Name) se_Constant)) (ja_cons (je_tup (ja_cons (je_lst (ja_cons je_str ja_nil se_Constant)) (ja_cons (jv 1 v__law_things_first) (ja_cons (jv 2 v__law_things_many) ja_nil se_Name) se_Name) se_List)) ja_nil se_Tuple) se_Tuple) se_Tuple) se_Tuple))))
    (jss_cons (jset 4 Sc.nd l__law_things_some (je_add (jv 4 v__law_things_some) (je_lst (ja_cons (je_tup (ja_cons je_str (ja_cons je_bl (ja_cons (jv 2 v__law_things_many) ja_nil se_Name) se_Constant) se_Constant)) (ja_cons (je_tup (ja_cons je_str (ja_cons je_bl (ja_cons (jv 2 v__law_things_many) ja_nil se_Name) se_Constant) se_Constant)) (ja_cons (je_tup (ja_cons je_str (ja_cons (jv 1 v__law_things_first) (ja_cons je_bl ja_nil se_Constant) se_Name) se_Constant)) (ja_cons (je_tup (ja_cons je_str (ja_cons je_non (ja_cons (jv 2 v__law_things_many) ja_nil se_Name) se_Constant) se_Constant)) ja_nil se_Tuple) se_Tuple) se_Tuple) se_Tuple))))
    (jss_cons (jset 4 Sc.nd l__law_things_some (je_add (jv 4 v__law_things_some) (je_lst (ja_cons (je_tup (ja_cons je_str (ja_cons (jv 1 v__law_things_first) (ja_cons je_non ja_nil se_Constant) se_Name) se_Constant)) (ja_cons (je_tup (ja_cons je_str (ja_cons (je_lst (ja_cons (jv 1 v__law_things_first) ja_nil se_Name)) (ja_cons (jv 2 v__law_things_many) ja_nil se_Name) se_List) se_Constant)) (ja_cons (je_tup (ja_cons je_str (ja_cons (jv 1 v__law_things_first) (ja_cons (je_tup (ja_cons (jv 2 v__law_things_many) ja_nil se_Name)) ja_nil se_Tuple) se_Name) se_Constant)) ja_nil se_Tuple) se_Tuple) se_Tuple))))
    (jss_cons (jset 4 Sc.nd l__law_things_some (je_add (jv 4 v__law_things_some) (je_lst (ja_cons (je_tup (ja_cons je_str (ja_cons (je_strc (gl g__law_things_str) T.b_str (ja_cons (jv 1 v__law_things_first) ja_nil se_Name)) (ja_cons (jv 2 v__law_things_many) ja_nil se_Name) se_Call) se_Constant)) (ja_cons (je_tup (ja_cons je_str (ja_cons (jv 1 v__law_things_first) (ja_cons (je_strc (gl g__law_things_str) T.b_str (ja_cons (jv 2 v__law_things_many) ja_nil se_Name)) ja_nil se_Call) se_Name) se_Constant)) (ja_cons (je_tup (ja_cons (jv 1 v__law_things_first) (ja_cons (jv 2 v__law_things_many) ja_nil se_Name) se_Name)) (ja_cons (je_tup (ja_cons (jv 1 v__law_things_first) (ja_cons (jv 2 v__law_things_many) (ja_cons je_str ja_nil se_Constant) se_Name) se_Name)) ja_nil se_Tuple) se_Tuple) se_Tuple) se_Tuple))))
    (jss_one (js_ret (je_add (jv 4 v__law_things_some) (je_lst (ja_cons (je_tup ja_nil) (ja_cons (je_lst ja_nil) (ja_cons je_non (ja_cons je_bl (ja_cons je_int (ja_cons je_str (ja_cons je_str (ja_cons (je_tup (ja_cons je_str ja_nil se_Constant)) ja_nil se_Tuple) se_Constant) se_Constant) se_Constant) se_Constant) se_Constant) se_List) se_Tuple)))))))))))))
def b__law_due : Sv := (sq (sif (to (tn (tt (o1 (isD "tuple") (vr 2)))) (to (tb (o2 neD (b1 lenD (ac (vr 2) an)) (cn (.int 3)))) (tn (tt (o1 (isD "str") (o2 getD (vr 2) (cn (.int 0))))))))
    (sret (cn (.bl false)))
    skip)
    (sret (va (o2 eqD (o2 getD (vr 2) (cn (.int 0))) (cn (.str "dries"))) (cl 4 (noExc f__law_dries) (ac (vr 0) (ac (vr 1) (ac (o2 getD (vr 2) (cn (.int 1))) (ac (o2 getD (vr 2) (cn (.int 2))) an))))))))
def f__law_due : Fn := fnB 3 b__law_due
theorem sc__law_due : FnScope ["brim", "days", "thing"] ["brim", "days", "thing"] (defScope st__law_due) := ⟨rfl, rfl, rfl, by decide +kernel, rfl, by decide +kernel, by decide +kernel⟩
theorem g__law_due__law_dries : OkG (defScope st__law_due) "_law_dries" := ⟨by decide +kernel⟩
theorem g__law_due_isinstance : OkG (defScope st__law_due) "isinstance" := ⟨by decide +kernel⟩
theorem g__law_due_len : OkG (defScope st__law_due) "len" := ⟨by decide +kernel⟩
theorem g__law_due_str : OkG (defScope st__law_due) "str" := ⟨by decide +kernel⟩
theorem g__law_due_tuple : OkG (defScope st__law_due) "tuple" := ⟨by decide +kernel⟩
theorem v__law_due_brim : OkV (defScope st__law_due) "brim" := ⟨by decide +kernel⟩
theorem v__law_due_days : OkV (defScope st__law_due) "days" := ⟨by decide +kernel⟩
theorem v__law_due_thing : OkV (defScope st__law_due) "thing" := ⟨by decide +kernel⟩
theorem p__law_dries : plainN "_law_dries" = true := by decide +kernel
set_option maxHeartbeats 4000000 in
theorem cal__law_due (T : Txt K mg) (d : Dn K mg "_law_due" st__law_due ["brim", "days", "thing"]) (C__law_dries : Cal P w K mg base "_law_dries" ["brim", "days", "first", "many"] f__law_dries 2) : Cal P w K mg base "_law_due" ["brim", "days", "thing"] f__law_due 3 := by
  have Sc := sc__law_due
  refine cal_of ["brim", "days", "thing"] 2 b__law_due rfl d Sc fun f cdv A outer s H E hr => ?_
  conv => arg 3; whnf
  exact (jss_cons (js_if (JW.jt (jw_or (jt_not (jt_val (je_isi kit_tuple (by rfl) (by decide +kernel) (by decide +kernel) (gl g__law_due_isinstance) T.b_isinstance (gl g__law_due_tuple) T.b_tuple (jv 2 v__law_due_thing) (by rfl) (by rfl) (by rfl)))) (jw_or (jt_ne hr.units (je_len (gl g__law_due_len) T.b_len (ja_cons (jv 2 v__law_due_thing) ja_nil se_Name)) je_int) (jw_or1 (jt_not (jt_val (je_isi kit_str (by rfl) (by decide +kernel) (by decide +kernel) (gl g__law_due_isinstance) T.b_isinstance (gl g__law_due_str) T.b_str (je_get (jv 2 v__law_due_thing) je_int) (by rfl) (by rfl) (by rfl))))))))
    (jss_one (js_ret je_bl))
    jss_nil)
    (jss_one (js_ret (je_and (je_eq hr.units (je_get (jv 2 v__law_due_thing) je_int) je_str) (je_one (jown C__law_dries hr (gl g__law_due__law_dries) p__law_dries (ja_cons (jv 0 v__law_due_brim) (ja_cons (jv 1 v__law_due_days) (ja_cons (je_get (jv 2 v__law_due_thing) je_int) (ja_cons (je_get (jv 2 v__law_due_thing) je_int) ja_nil se_Subscript) se_Subscript) se_Name) se_Name)))))))
def lb_law_1 : Sv := (sq (sa (cl 3 (noExc f_shows_dry) (ac (vr 5) (ac (vr 2) (ac (vr 8) an)))) (gn 9))
    (sif (to (tn (tt (o1 (isD "bool") (vr 9)))) (tb (o2 neD (vr 9) (cl 3 (noExc f__law_due) (ac (vr 5) (ac (vr 2) (ac (vr 8) an)))))))
    (sret (cn (.bl false)))
    skip))
def b_law : Sv := (sq (sa (cl 1 (noExc f__law_tape) (ac (vr 0) an)) (gn 1))
    (sq (sa (cl 1 (noExc f__law_days) (ac (vr 1) an)) (gn 2))
    (sq (sa (cl 2 (noExc f__law_take) (ac (vr 1) (ac (b1 lenD (ac (vr 2) an)) an))) (gn 3))
    (sq (sa (o2 addD (cn (.int 1)) (cl 2 (noExc f__law_large) (ac (vr 1) (ac (o2 getD (ls (ac (cn (.int 3)) (ac (cn (.int 200)) (ac (o2 powD (cn (.int 10)) (cn (.int 18))) (ac (o2 powD (cn (.int 10)) (cn (.int 39))) an))))) (cl 2 (noExc f__law_take) (ac (vr 1) (ac (cn (.int 4)) an)))) an)))) (gn 4))
    (sq (sa (cl 2 (noExc f__law_brim) (ac (vr 1) (ac (vr 2) an))) (gn 5))
    (sq (sa (o2 subD (o2 subD (cn (.int 0)) (cl 3 (noExc f__law_sum) (ac (vr 2) (ac (vr 3) (ac (vr 4) an))))) (cl 2 (noExc f__law_take) (ac (vr 1) (ac (cn (.int 2)) an)))) (gn 6))
    (sq (sif (ta (tb (o2 eqD (cl 2 (noExc f__law_take) (ac (vr 1) (ac (cn (.int 2)) an))) (cn (.int 0)))) (tb (ch leD leD (cn (.int 0)) (vr 6) (o2 powD (cn (.int 10)) (cn (.int 15))))))
    (sa (vr 6) (gn 5))
    skip)
    (sq (sa (cl 3 (noExc f__law_things) (ac (b1 lenD (ac (vr 2) an)) (ac (vr 3) (ac (vr 4) an)))) (gn 7))
    (sq (sfor (isrc (vr 7)) (gn 8) lb_law_1)
    (sret (o2 eqD (vr 7) (cl 3 (noExc f__law_things) (ac (b1 lenD (ac (vr 2) an)) (ac (vr 3) (ac (vr 4) an)))))))))))))))
def f_law : Fn := fnB 10 b_law
theorem sc_law : FnScope ["script", "tape", "days", "first", "many", "brim", "near", "things", "thing", "found"] ["script"] (defScope st_law) := ⟨rfl, rfl, rfl, by decide +kernel, rfl, by decide +kernel, by decide +kernel⟩
theorem g_law__law_brim : OkG (defScope st_law) "_law_brim" := ⟨by decide +kernel⟩
theorem g_law__law_days : OkG (defScope st_law) "_law_days" := ⟨by decide +kernel⟩
theorem g_law__law_due : OkG (defScope st_law) "_law_due" := ⟨by decide +kernel⟩
theorem g_law__law_large : OkG (defScope st_law) "_law_large" := ⟨by decide +kernel⟩
theorem g_law__law_sum : OkG (defScope st_law) "_law_sum" := ⟨by decide +kernel⟩
theorem g_law__law_take : OkG (defScope st_law) "_law_take" := ⟨by decide +kernel⟩
theorem g_law__law_tape : OkG (defScope st_law) "_law_tape" := ⟨by decide +kernel⟩
theorem g_law__law_things : OkG (defScope st_law) "_law_things" := ⟨by decide +kernel⟩
theorem g_law_bool : OkG (defScope st_law) "bool" := ⟨by decide +kernel⟩
theorem g_law_isinstance : OkG (defScope st_law) "isinstance" := ⟨by decide +kernel⟩
theorem g_law_len : OkG (defScope st_law) "len" := ⟨by decide +kernel⟩
theorem g_law_shows_dry : OkG (defScope st_law) "shows_dry" := ⟨by decide +kernel⟩
theorem l_law_brim : OkL (defScope st_law) "brim" := ⟨by decide +kernel⟩
theorem l_law_days : OkL (defScope st_law) "days" := ⟨by decide +kernel⟩
theorem l_law_first : OkL (defScope st_law) "first" := ⟨by decide +kernel⟩
theorem l_law_found : OkL (defScope st_law) "found" := ⟨by decide +kernel⟩
theorem l_law_many : OkL (defScope st_law) "many" := ⟨by decide +kernel⟩
theorem l_law_near : OkL (defScope st_law) "near" := ⟨by decide +kernel⟩
theorem l_law_tape : OkL (defScope st_law) "tape" := ⟨by decide +kernel⟩
theorem l_law_thing : OkL (defScope st_law) "thing" := ⟨by decide +kernel⟩
theorem l_law_things : OkL (defScope st_law) "things" := ⟨by decide +kernel⟩
theorem v_law_brim : OkV (defScope st_law) "brim" := ⟨by decide +kernel⟩
theorem v_law_days : OkV (defScope st_law) "days" := ⟨by decide +kernel⟩
theorem v_law_first : OkV (defScope st_law) "first" := ⟨by decide +kernel⟩
theorem v_law_found : OkV (defScope st_law) "found" := ⟨by decide +kernel⟩
theorem v_law_many : OkV (defScope st_law) "many" := ⟨by decide +kernel⟩
theorem v_law_near : OkV (defScope st_law) "near" := ⟨by decide +kernel⟩
theorem v_law_script : OkV (defScope st_law) "script" := ⟨by decide +kernel⟩
theorem v_law_tape : OkV (defScope st_law) "tape" := ⟨by decide +kernel⟩
theorem v_law_thing : OkV (defScope st_law) "thing" := ⟨by decide +kernel⟩
theorem v_law_things : OkV (defScope st_law) "things" := ⟨by decide +kernel⟩
theorem p__law_brim : plainN "_law_brim" = true := by decide +kernel
theorem p__law_days : plainN "_law_days" = true := by decide +kernel
theorem p__law_due : plainN "_law_due" = true := by decide +kernel
theorem p__law_sum : plainN "_law_sum" = true := by decide +kernel
theorem p__law_tape : plainN "_law_tape" = true := by decide +kernel
theorem p__law_things : plainN "_law_things" = true := by decide +kernel
theorem p_shows_dry : plainN "shows_dry" = true := by decide +kernel
set_option maxHeartbeats 4000000 in
theorem cal_law (T : Txt K mg) (d : Dn K mg "law" st_law ["script"]) (C__law_brim : Cal P w K mg base "_law_brim" ["tape", "days"] f__law_brim 4) (C__law_days : Cal P w K mg base "_law_days" ["tape"] f__law_days 4) (C__law_due : Cal P w K mg base "_law_due" ["brim", "days", "thing"] f__law_due 3) (C__law_large : Cal P w K mg base "_law_large" ["tape", "many"] f__law_large 3) (C__law_sum : Cal P w K mg base "_law_sum" ["days", "first", "many"] f__law_sum 1) (C__law_take : Cal P w K mg base "_law_take" ["tape", "many"] f__law_take 2) (C__law_tape : Cal P w K mg base "_law_tape" ["script"] f__law_tape 1) (C__law_things : Cal P w K mg base "_law_things" ["size", "first", "many"] f__law_things 1) (C_shows_dry : Cal P w K mg base "shows_dry" ["brim", "days", "thing"] f_shows_dry 3) : Cal P w K mg base "law" ["script"] f_law 5 := by
  have Sc := sc_law
  refine cal_of ["script", "tape", "days", "first", "many", "brim", "near", "things", "thing", "found"] 4 b_law rfl d Sc fun f cdv A outer s H E hr => ?_
  conv => arg 3; whnf
  exact (jss_cons (jset 1 Sc.nd l_law_tape (jown C__law_tape hr (gl g_law__law_tape) p__law_tape (ja_cons (jv 0 v_law_script) ja_nil se_Name)))
    (jss_cons (jset 2 Sc.nd l_law_days (jown C__law_days hr (gl g_law__law_days) p__law_days (ja_cons (jv 1 v_law_tape) ja_nil se_Name)))
    (jss_cons (jset 3 Sc.nd l_law_first (jown C__law_take hr (gl g_law__law_take) p__law_take (ja_cons (jv 1 v_law_tape) (ja_cons (je_len (gl g_law_len) T.b_len (ja_cons (jv 2 v_law_days) ja_nil se_Name)) ja_nil se_Call) se_Name)))
    (jss_cons (jset 4 Sc.nd l_law_many (je_add je_int (jown C__law_large hr (gl g_law__law_large) p__law_large (ja_cons (jv 1 v_law_tape) (ja_cons (je_get (je_lst (ja_cons je_int (ja_cons je_int (ja_cons (je_pow je_int je_int) (ja_cons (je_pow je_int je_int) ja_nil se_BinOp) se_BinOp) se_Constant) se_Constant)) (jown C__law_take hr (gl g_law__law_take) p__law_take (ja_cons (jv 1 v_law_tape) (ja_cons je_int ja_nil se_Constant) se_Name))) ja_nil se_Subscript) se_Name))))
    (jss_cons (jset 5 Sc.nd l_law_brim (jown C__law_brim hr (gl g_law__law_brim) p__law_brim (ja_cons (jv 1 v_law_tape) (ja_cons (jv 2 v_law_days) ja_nil se_Name) se_Name)))
    (jss_cons (jset 6 Sc.nd l_law_near (je_sub (je_sub je_int (jown C__law_sum hr (gl g_law__law_sum) p__law_sum (ja_cons (jv 2 v_law_days) (ja_cons (jv 3 v_law_first) (ja_cons (jv 4 v_law_many) ja_nil se_Name) se_Name) se_Name))) (jown C__law_take hr (gl g_law__law_take) p__law_take (ja_cons (jv 1 v_law_tape) (ja_cons je_int ja_nil se_Constant) se_Name))))
    (jss_cons (js_if (JW.jt (jw_and (jt_eq hr.units (jown C__law_take hr (gl g_law__law_take) p__law_take (ja_cons (jv 1 v_law_tape) (ja_cons je_int ja_nil se_Constant) se_Name)) je_int) (jw_and1 (jt_chain op_le od_le op_le od_le je_int (jv 6 v_law_near) (je_pow je_int je_int)))))
    (jss_one (jset 5 Sc.nd l_law_brim (jv 6 v_law_near)))
    jss_nil)
    (jss_cons (jset 7 Sc.nd l_law_things (jown C__law_things hr (gl g_law__law_things) p__law_things (ja_cons (je_len (gl g_law_len) T.b_len (ja_cons (jv 2 v_law_days) ja_nil se_Name)) (ja_cons (jv 3 v_law_first) (ja_cons (jv 4 v_law_many) ja_nil se_Name) se_Name) se_Call)))
    (jss_cons (js_for PassesOwn.never rfl (ji_seq (jv 7 v_law_things)) (jgn 8 Sc.nd l_law_thing)
    (jss_cons (jset 9 Sc.nd l_law_found (jown C_shows_dry hr (gl g_law_shows_dry) p_shows_dry (ja_cons (jv 5 v_law_brim) (ja_cons (jv 2 v_law_days) (ja_cons (jv 8 v_law_thing) ja_nil se_Name) se_Name) se_Name)))
    (jss_one (js_if (JW.jt (jw_or (jt_not (jt_val (je_isi kit_bool (by rfl) (by decide +kernel) (by decide +kernel) (gl g_law_isinstance) T.b_isinstance (gl g_law_bool) T.b_bool (jv 9 v_law_found) (by rfl) (by rfl) (by rfl)))) (jw_or1 (jt_ne hr.units (jv 9 v_law_found) (jown C__law_due hr (gl g_law__law_due) p__law_due (ja_cons (jv 5 v_law_brim) (ja_cons (jv 2 v_law_days) (ja_cons (jv 8 v_law_thing) ja_nil se_Name) se_Name) se_Name))))))
    (jss_one (js_ret je_bl))
    jss_nil))))
    (jss_one (js_ret (je_eq hr.units (jv 7 v_law_things) (jown C__law_things hr (gl g_law__law_things) p__law_things (ja_cons (je_len (gl g_law_len) T.b_len (ja_cons (jv 2 v_law_days) ja_nil se_Name)) (ja_cons (jv 3 v_law_first) (ja_cons (jv 4 v_law_many) ja_nil se_Name) se_Name) se_Call))))))))))))))
set_option maxHeartbeats 4000000 in
theorem okl_law (T : Txt K mg) {f : Addr} {fd : FuncData} (F : Fun K "law" "law" st_law f fd) (C__law_brim : Cal P w K mg base "_law_brim" ["tape", "days"] f__law_brim 4) (C__law_days : Cal P w K mg base "_law_days" ["tape"] f__law_days 4) (C__law_due : Cal P w K mg base "_law_due" ["brim", "days", "thing"] f__law_due 3) (C__law_large : Cal P w K mg base "_law_large" ["tape", "many"] f__law_large 3) (C__law_sum : Cal P w K mg base "_law_sum" ["days", "first", "many"] f__law_sum 1) (C__law_take : Cal P w K mg base "_law_take" ["tape", "many"] f__law_take 2) (C__law_tape : Cal P w K mg base "_law_tape" ["script"] f__law_tape 1) (C__law_things : Cal P w K mg base "_law_things" ["size", "first", "many"] f__law_things 1) (C_shows_dry : Cal P w K mg base "shows_dry" ["brim", "days", "thing"] f_shows_dry 3) : FnOk P w K mg base CX0 5 f fd ["script"] (spD K 1 f_law) := by
  have Sc := sc_law
  refine fn_ok (b := b_law) F Sc fun cdv A outer s H E hr => ?_
  conv => arg 3; whnf
  exact (jss_cons (jset 1 Sc.nd l_law_tape (jown C__law_tape hr (gl g_law__law_tape) p__law_tape (ja_cons (jv 0 v_law_script) ja_nil se_Name)))
    (jss_cons (jset 2 Sc.nd l_law_days (jown C__law_days hr (gl g_law__law_days) p__law_days (ja_cons (jv 1 v_law_tape) ja_nil se_Name)))
    (jss_cons (jset 3 Sc.nd l_law_first (jown C__law_take hr (gl g_law__law_take) p__law_take (ja_cons (jv 1 v_law_tape) (ja_cons (je_len (gl g_law_len) T.b_len (ja_cons (jv 2 v_law_days) ja_nil se_Name)) ja_nil se_Call) se_Name)))
    (jss_cons (jset 4 Sc.nd l_law_many (je_add je_int (jown C__law_large hr (gl g_law__law_large) p__law_large (ja_cons (jv 1 v_law_tape) (ja_cons (je_get (je_lst (ja_cons je_int (ja_cons je_int (ja_cons (je_pow je_int je_int) (ja_cons (je_pow je_int je_int) ja_nil se_BinOp) se_BinOp) se_Constant) se_Constant)) (jown C__law_take hr (gl g_law__law_take) p__law_take (ja_cons (jv 1 v_law_tape) (ja_cons je_int ja_nil se_Constant) se_Name))) ja_nil se_Subscript) se_Name))))
    (jss_cons (jset 5 Sc.nd l_law_brim (jown C__law_brim hr (gl g_law__law_brim) p__law_brim (ja_cons (jv 1 v_law_tape) (ja_cons (jv 2 v_law_days) ja_nil se_Name) se_Name)))
    (jss_cons (jset 6 Sc.nd l_law_near (je_sub (je_sub je_int (jown C__law_sum hr (gl g_law__law_sum) p__law_sum (ja_cons (jv 2 v_law_days) (ja_cons (jv 3 v_law_first) (ja_cons (jv 4 v_law_many) ja_nil se_Name) se_Name) se_Name))) (jown C__law_take hr (gl g_law__law_take) p__law_take (ja_cons (jv 1 v_law_tape) (ja_cons je_int ja_nil se_Constant) se_Name))))
    (jss_cons (js_if (JW.jt (jw_and (jt_eq hr.units (jown C__law_take hr (gl g_law__law_take) p__law_take (ja_cons (jv 1 v_law_tape) (ja_cons je_int ja_nil se_Constant) se_Name)) je_int) (jw_and1 (jt_chain op_le od_le op_le od_le je_int (jv 6 v_law_near) (je_pow je_int je_int)))))
    (jss_one (jset 5 Sc.nd l_law_brim (jv 6 v_law_near)))
    jss_nil)
    (jss_cons (jset 7 Sc.nd l_law_things (jown C__law_things hr (gl g_law__law_things) p__law_things (ja_cons (je_len (gl g_law_len) T.b_len (ja_cons (jv 2 v_law_days) ja_nil se_Name)) (ja_cons (jv 3 v_law_first) (ja_cons (jv 4 v_law_many) ja_nil se_Name) se_Name) se_Call)))
    (jss_cons (js_for PassesOwn.never rfl (ji_seq (jv 7 v_law_things)) (jgn 8 Sc.nd l_law_thing)
    (jss_cons (jset 9 Sc.nd l_law_found (jown C_shows_dry hr (gl g_law_shows_dry) p_shows_dry (ja_cons (jv 5 v_law_brim) (ja_cons (jv 2 v_law_days) (ja_cons (jv 8 v_law_thing) ja_nil se_Name) se_Name) se_Name)))
    (jss_one (js_if (JW.jt (jw_or (jt_not (jt_val (je_isi kit_bool (by rfl) (by decide +kernel) (by decide +kernel) (gl g_law_isinstance) T.b_isinstance (gl g_law_bool) T.b_bool (jv 9 v_law_found) (by rfl) (by rfl) (by rfl)))) (jw_or1 (jt_ne hr.units (jv 9 v_law_found) (jown C__law_due hr (gl g_law__law_due) p__law_due (ja_cons (jv 5 v_law_brim) (ja_cons (jv 2 v_law_days) (ja_cons (jv 8 v_law_thing) ja_nil se_Name) se_Name) se_Name))))))
    (jss_one (js_ret je_bl))
    jss_nil))))
    (jss_one (js_ret (je_eq hr.units (jv 7 v_law_things) (jown C__law_things hr (gl g_law__law_things) p__law_things (ja_cons (je_len (gl g_law_len) T.b_len (ja_cons (jv 2 v_law_days) ja_nil se_Name)) (ja_cons (jv 3 v_law_first) (ja_cons (jv 4 v_law_many) ja_nil se_Name) se_Name) se_Call))))))))))))))
theorem allc (T : Txt K mg) (d_is_whole : Dn K mg "is_whole" st_is_whole ["thing"]) (d_is_between : Dn K mg "is_between" st_is_between ["thing", "least", "most"]) (d_is_tuple : Dn K mg "is_tuple" st_is_tuple ["thing", "many"]) (d_stretch_sum : Dn K mg "stretch_sum" st_stretch_sum ["days", "first", "many"]) (d_shows_dry : Dn K mg "shows_dry" st_shows_dry ["brim", "days", "thing"]) (d__law_mixed : Dn K mg "_law_mixed" st__law_mixed ["cell", "turn"]) (d__law_tape : Dn K mg "_law_tape" st__law_tape ["script"]) (d__law_take : Dn K mg "_law_take" st__law_take ["tape", "many"]) (d__law_large : Dn K mg "_law_large" st__law_large ["tape", "many"]) (d__law_days : Dn K mg "_law_days" st__law_days ["tape"]) (d__law_need : Dn K mg "_law_need" st__law_need ["days"]) (d__law_brim : Dn K mg "_law_brim" st__law_brim ["tape", "days"]) (d__law_number : Dn K mg "_law_number" st__law_number ["found"]) (d__law_dries : Dn K mg "_law_dries" st__law_dries ["brim", "days", "first", "many"]) (d__law_sum : Dn K mg "_law_sum" st__law_sum ["days", "first", "many"]) (d__law_things : Dn K mg "_law_things" st__law_things ["size", "first", "many"]) (d__law_due : Dn K mg "_law_due" st__law_due ["brim", "days", "thing"]) {f : Addr} {fd : FuncData} (F : Fun K "law" "law" st_law f fd) : FnOk P w K mg base CX0 5 f fd ["script"] (spD K 1 f_law) := by
  have C_is_whole : Cal P w K mg base "is_whole" ["thing"] f_is_whole 1 := cal_is_whole T d_is_whole
  have C_is_between : Cal P w K mg base "is_between" ["thing", "least", "most"] f_is_between 2 := cal_is_between T d_is_between C_is_whole
  have C_is_tuple : Cal P w K mg base "is_tuple" ["thing", "many"] f_is_tuple 1 := cal_is_tuple T d_is_tuple
  have C_stretch_sum : Cal P w K mg base "stretch_sum" ["days", "first", "many"] f_stretch_sum 1 := cal_stretch_sum T d_stretch_sum
  have C_shows_dry : Cal P w K mg base "shows_dry" ["brim", "days", "thing"] f_shows_dry 3 := cal_shows_dry T d_shows_dry C_is_between C_is_tuple C_is_whole C_stretch_sum
  have C__law_mixed : Cal P w K mg base "_law_mixed" ["cell", "turn"] f__law_mixed 1 := cal__law_mixed T d__law_mixed
  have C__law_tape : Cal P w K mg base "_law_tape" ["script"] f__law_tape 1 := cal__law_tape T d__law_tape
  have C__law_take : Cal P w K mg base "_law_take" ["tape", "many"] f__law_take 2 := cal__law_take T d__law_take C__law_mixed
  have C__law_large : Cal P w K mg base "_law_large" ["tape", "many"] f__law_large 3 := cal__law_large T d__law_large C__law_take
  have C__law_days : Cal P w K mg base "_law_days" ["tape"] f__law_days 4 := cal__law_days T d__law_days C__law_large C__law_take
  have C__law_need : Cal P w K mg base "_law_need" ["days"] f__law_need 1 := cal__law_need T d__law_need
  have C__law_brim : Cal P w K mg base "_law_brim" ["tape", "days"] f__law_brim 4 := cal__law_brim T d__law_brim C__law_large C__law_need C__law_take
  have C__law_number : Cal P w K mg base "_law_number" ["found"] f__law_number 1 := cal__law_number T d__law_number
  have C__law_dries : Cal P w K mg base "_law_dries" ["brim", "days", "first", "many"] f__law_dries 2 := cal__law_dries T d__law_dries C__law_number
  have C__law_sum : Cal P w K mg base "_law_sum" ["days", "first", "many"] f__law_sum 1 := cal__law_sum T d__law_sum
  have C__law_things : Cal P w K mg base "_law_things" ["size", "first", "many"] f__law_things 1 := cal__law_things T d__law_things
  have C__law_due : Cal P w K mg base "_law_due" ["brim", "days", "thing"] f__law_due 3 := cal__law_due T d__law_due C__law_dries
  exact okl_law T F C__law_brim C__law_days C__law_due C__law_large C__law_sum C__law_take C__law_tape C__law_things C_shows_dry
end
theorem all_mk {l : PySem.W.OpenLaw} {w : World} {K : PySem.W.Frag} {h : Heap} {mg : Str → Option Value} {fa : Addr} (X : K.In h) (G : h.Ns mainGlobals mg) (hfa : mg "law" = some (.ref fa))
    {fx_is_whole : Addr} {od_is_whole an_is_whole : Option Addr} {sl_is_whole : Array (Option Value)} {oc_is_whole kV_is_whole dc_is_whole pm_is_whole cd_is_whole ct_is_whole : Value}
    (a_is_whole : PySem.W.nsIn K mainGlobals "is_whole" = some (some (.ref fx_is_whole))) (l_is_whole : K.lookup fx_is_whole = some ⟨oc_is_whole, od_is_whole, .func (PySem.W.fnOf "is_whole" "is_whole" (defArgs st_is_whole) (defBody st_is_whole) (defScope st_is_whole) .none kV_is_whole dc_is_whole pm_is_whole an_is_whole cd_is_whole ct_is_whole), sl_is_whole⟩) (c_is_whole : PySem.W.codeIn K cd_is_whole "is_whole" = true) (k_is_whole : PySem.W.keepIn K (.ref fx_is_whole) = true)
    {fx_is_between : Addr} {od_is_between an_is_between : Option Addr} {sl_is_between : Array (Option Value)} {oc_is_between kV_is_between dc_is_between pm_is_between cd_is_between ct_is_between : Value}
    (a_is_between : PySem.W.nsIn K mainGlobals "is_between" = some (some (.ref fx_is_between))) (l_is_between : K.lookup fx_is_between = some ⟨oc_is_between, od_is_between, .func (PySem.W.fnOf "is_between" "is_between" (defArgs st_is_between) (defBody st_is_between) (defScope st_is_between) .none kV_is_between dc_is_between pm_is_between an_is_between cd_is_between ct_is_between), sl_is_between⟩) (c_is_between : PySem.W.codeIn K cd_is_between "is_between" = true) (k_is_between : PySem.W.keepIn K (.ref fx_is_between) = true)
    {fx_is_tuple : Addr} {od_is_tuple an_is_tuple : Option Addr} {sl_is_tuple : Array (Option Value)} {oc_is_tuple kV_is_tuple dc_is_tuple pm_is_tuple cd_is_tuple ct_is_tuple : Value}
    (a_is_tuple : PySem.W.nsIn K mainGlobals "is_tuple" = some (some (.ref fx_is_tuple))) (l_is_tuple : K.lookup fx_is_tuple = some ⟨oc_is_tuple, od_is_tuple, .func (PySem.W.fnOf "is_tuple" "is_tuple" (defArgs st_is_tuple) (defBody st_is_tuple) (defScope st_is_tuple) .none kV_is_tuple dc_is_tuple pm_is_tuple an_is_tuple cd_is_tuple ct_is_tuple), sl_is_tuple⟩) (c_is_tuple : PySem.W.codeIn K cd_is_tuple "is_tuple" = true) (k_is_tuple : PySem.W.keepIn K (.ref fx_is_tuple) = true)
    {fx_stretch_sum : Addr} {od_stretch_sum an_stretch_sum : Option Addr} {sl_stretch_sum : Array (Option Value)} {oc_stretch_sum kV_stretch_sum dc_stretch_sum pm_stretch_sum cd_stretch_sum ct_stretch_sum : Value}
    (a_stretch_sum : PySem.W.nsIn K mainGlobals "stretch_sum" = some (some (.ref fx_stretch_sum))) (l_stretch_sum : K.lookup fx_stretch_sum = some ⟨oc_stretch_sum, od_stretch_sum, .func (PySem.W.fnOf "stretch_sum" "stretch_sum" (defArgs st_stretch_sum) (defBody st_stretch_sum) (defScope st_stretch_sum) .none kV_stretch_sum dc_stretch_sum pm_stretch_sum an_stretch_sum cd_stretch_sum ct_stretch_sum), sl_stretch_sum⟩) (c_stretch_sum : PySem.W.codeIn K cd_stretch_sum "stretch_sum" = true) (k_stretch_sum : PySem.W.keepIn K (.ref fx_stretch_sum) = true)
    {fx_shows_dry : Addr} {od_shows_dry an_shows_dry : Option Addr} {sl_shows_dry : Array (Option Value)} {oc_shows_dry kV_shows_dry dc_shows_dry pm_shows_dry cd_shows_dry ct_shows_dry : Value}
    (a_shows_dry : PySem.W.nsIn K mainGlobals "shows_dry" = some (some (.ref fx_shows_dry))) (l_shows_dry : K.lookup fx_shows_dry = some ⟨oc_shows_dry, od_shows_dry, .func (PySem.W.fnOf "shows_dry" "shows_dry" (defArgs st_shows_dry) (defBody st_shows_dry) (defScope st_shows_dry) .none kV_shows_dry dc_shows_dry pm_shows_dry an_shows_dry cd_shows_dry ct_shows_dry), sl_shows_dry⟩) (c_shows_dry : PySem.W.codeIn K cd_shows_dry "shows_dry" = true) (k_shows_dry : PySem.W.keepIn K (.ref fx_shows_dry) = true)
    {fx__law_mixed : Addr} {od__law_mixed an__law_mixed : Option Addr} {sl__law_mixed : Array (Option Value)} {oc__law_mixed kV__law_mixed dc__law_mixed pm__law_mixed cd__law_mixed ct__law_mixed : Value}
    (a__law_mixed : PySem.W.nsIn K mainGlobals "_law_mixed" = some (some (.ref fx__law_mixed))) (l__law_mixed : K.lookup fx__law_mixed = some ⟨oc__law_mixed, od__law_mixed, .func (PySem.W.fnOf "_law_mixed" "_law_mixed" (defArgs st__law_mixed) (defBody st__law_mixed) (defScope st__law_mixed) .none kV__law_mixed dc__law_mixed pm__law_mixed an__law_mixed cd__law_mixed ct__law_mixed), sl__law_mixed⟩) (c__law_mixed : PySem.W.codeIn K cd__law_mixed "_law_mixed" = true) (k__law_mixed : PySem.W.keepIn K (.ref fx__law_mixed) = true)
    {fx__law_tape : Addr} {od__law_tape an__law_tape : Option Addr} {sl__law_tape : Array (Option Value)} {oc__law_tape kV__law_tape dc__law_tape pm__law_tape cd__law_tape ct__law_tape : Value}
    (a__law_tape : PySem.W.nsIn K mainGlobals "_law_tape" = some (some (.ref fx__law_tape))) (l__law_tape : K.lookup fx__law_tape = some ⟨oc__law_tape, od__law_tape, .func (PySem.W.fnOf "_law_tape" "_law_tape" (defArgs st__law_tape) (defBody st__law_tape) (defScope st__law_tape) .none kV__law_tape dc__law_tape pm__law_tape an__law_tape cd__law_tape ct__law_tape), sl__law_tape⟩) (c__law_tape : PySem.W.codeIn K cd__law_tape "_law_tape" = true) (k__law_tape : PySem.W.keepIn K (.ref fx__law_tape) = true)
    {fx__law_take : Addr} {od__law_take an__law_take : Option Addr} {sl__law_take : Array (Option Value)} {oc__law_take kV__law_take dc__law_take pm__law_take cd__law_take ct__law_take : Value}
    (a__law_take : PySem.W.nsIn K mainGlobals "_law_take" = some (some (.ref fx__law_take))) (l__law_take : K.lookup fx__law_take = some ⟨oc__law_take, od__law_take, .func (PySem.W.fnOf "_law_take" "_law_take" (defArgs st__law_take) (defBody st__law_take) (defScope st__law_take) .none kV__law_take dc__law_take pm__law_take an__law_take cd__law_take ct__law_take), sl__law_take⟩) (c__law_take : PySem.W.codeIn K cd__law_take "_law_take" = true) (k__law_take : PySem.W.keepIn K (.ref fx__law_take) = true)
    {fx__law_large : Addr} {od__law_large an__law_large : Option Addr} {sl__law_large : Array (Option Value)} {oc__law_large kV__law_large dc__law_large pm__law_large cd__law_large ct__law_large : Value}
    (a__law_large : PySem.W.nsIn K mainGlobals "_law_large" = some (some (.ref fx__law_large))) (l__law_large : K.lookup fx__law_large = some ⟨oc__law_large, od__law_large, .func (PySem.W.fnOf "_law_large" "_law_large" (defArgs st__law_large) (defBody st__law_large) (defScope st__law_large) .none kV__law_large dc__law_large pm__law_large an__law_large cd__law_large ct__law_large), sl__law_large⟩) (c__law_large : PySem.W.codeIn K cd__law_large "_law_large" = true) (k__law_large : PySem.W.keepIn K (.ref fx__law_large) = true)
    {fx__law_days : Addr} {od__law_days an__law_days : Option Addr} {sl__law_days : Array (Option Value)} {oc__law_days kV__law_days dc__law_days pm__law_days cd__law_days ct__law_days : Value}
    (a__law_days : PySem.W.nsIn K mainGlobals "_law_days" = some (some (.ref fx__law_days))) (l__law_days : K.lookup fx__law_days = some ⟨oc__law_days, od__law_days, .func (PySem.W.fnOf "_law_days" "_law_days" (defArgs st__law_days) (defBody st__law_days) (defScope st__law_days) .none kV__law_days dc__law_days pm__law_days an__law_days cd__law_days ct__law_days), sl__law_days⟩) (c__law_days : PySem.W.codeIn K cd__law_days "_law_days" = true) (k__law_days : PySem.W.keepIn K (.ref fx__law_days) = true)
    {fx__law_need : Addr} {od__law_need an__law_need : Option Addr} {sl__law_need : Array (Option Value)} {oc__law_need kV__law_need dc__law_need pm__law_need cd__law_need ct__law_need : Value}
    (a__law_need : PySem.W.nsIn K mainGlobals "_law_need" = some (some (.ref fx__law_need))) (l__law_need : K.lookup fx__law_need = some ⟨oc__law_need, od__law_need, .func (PySem.W.fnOf "_law_need" "_law_need" (defArgs st__law_need) (defBody st__law_need) (defScope st__law_need) .none kV__law_need dc__law_need pm__law_need an__law_need cd__law_need ct__law_need), sl__law_need⟩) (c__law_need : PySem.W.codeIn K cd__law_need "_law_need" = true) (k__law_need : PySem.W.keepIn K (.ref fx__law_need) = true)
    {fx__law_brim : Addr} {od__law_brim an__law_brim : Option Addr} {sl__law_brim : Array (Option Value)} {oc__law_brim kV__law_brim dc__law_brim pm__law_brim cd__law_brim ct__law_brim : Value}
    (a__law_brim : PySem.W.nsIn K mainGlobals "_law_brim" = some (some (.ref fx__law_brim))) (l__law_brim : K.lookup fx__law_brim = some ⟨oc__law_brim, od__law_brim, .func (PySem.W.fnOf "_law_brim" "_law_brim" (defArgs st__law_brim) (defBody st__law_brim) (defScope st__law_brim) .none kV__law_brim dc__law_brim pm__law_brim an__law_brim cd__law_brim ct__law_brim), sl__law_brim⟩) (c__law_brim : PySem.W.codeIn K cd__law_brim "_law_brim" = true) (k__law_brim : PySem.W.keepIn K (.ref fx__law_brim) = true)
    {fx__law_number : Addr} {od__law_number an__law_number : Option Addr} {sl__law_number : Array (Option Value)} {oc__law_number kV__law_number dc__law_number pm__law_number cd__law_number ct__law_number : Value}
    (a__law_number : PySem.W.nsIn K mainGlobals "_law_number" = some (some (.ref fx__law_number))) (l__law_number : K.lookup fx__law_number = some ⟨oc__law_number, od__law_number, .func (PySem.W.fnOf "_law_number" "_law_number" (defArgs st__law_number) (defBody st__law_number) (defScope st__law_number) .none kV__law_number dc__law_number pm__law_number an__law_number cd__law_number ct__law_number), sl__law_number⟩) (c__law_number : PySem.W.codeIn K cd__law_number "_law_number" = true) (k__law_number : PySem.W.keepIn K (.ref fx__law_number) = true)
    {fx__law_dries : Addr} {od__law_dries an__law_dries : Option Addr} {sl__law_dries : Array (Option Value)} {oc__law_dries kV__law_dries dc__law_dries pm__law_dries cd__law_dries ct__law_dries : Value}
    (a__law_dries : PySem.W.nsIn K mainGlobals "_law_dries" = some (some (.ref fx__law_dries))) (l__law_dries : K.lookup fx__law_dries = some ⟨oc__law_dries, od__law_dries, .func (PySem.W.fnOf "_law_dries" "_law_dries" (defArgs st__law_dries) (defBody st__law_dries) (defScope st__law_dries) .none kV__law_dries dc__law_dries pm__law_dries an__law_dries cd__law_dries ct__law_dries), sl__law_dries⟩) (c__law_dries : PySem.W.codeIn K cd__law_dries "_law_dries" = true) (k__law_dries : PySem.W.keepIn K (.ref fx__law_dries) = true)
    {fx__law_sum : Addr} {od__law_sum an__law_sum : Option Addr} {sl__law_sum : Array (Option Value)} {oc__law_sum kV__law_sum dc__law_sum pm__law_sum cd__law_sum ct__law_sum : Value}
    (a__law_sum : PySem.W.nsIn K mainGlobals "_law_sum" = some (some (.ref fx__law_sum))) (l__law_sum : K.lookup fx__law_sum = some ⟨oc__law_sum, od__law_sum, .func (PySem.W.fnOf "_law_sum" "_law_sum" (defArgs st__law_sum) (defBody st__law_sum) (defScope st__law_sum) .none kV__law_sum dc__law_sum pm__law_sum an__law_sum cd__law_sum ct__law_sum), sl__law_sum⟩) (c__law_sum : PySem.W.codeIn K cd__law_sum "_law_sum" = true) (k__law_sum : PySem.W.keepIn K (.ref fx__law_sum) = true)
    {fx__law_things : Addr} {od__law_things an__law_things : Option Addr} {sl__law_things : Array (Option Value)} {oc__law_things kV__law_things dc__law_things pm__law_things cd__law_things ct__law_things : Value}
    (a__law_things : PySem.W.nsIn K mainGlobals "_law_things" = some (some (.ref fx__law_things))) (l__law_things : K.lookup fx__law_things = some ⟨oc__law_things, od__law_things, .func (PySem.W.fnOf "_law_things" "_law_things" (defArgs st__law_things) (defBody st__law_things) (defScope st__law_things) .none kV__law_things dc__law_things pm__law_things an__law_things cd__law_things ct__law_things), sl__law_things⟩) (c__law_things : PySem.W.codeIn K cd__law_things "_law_things" = true) (k__law_things : PySem.W.keepIn K (.ref fx__law_things) = true)
    {fx__law_due : Addr} {od__law_due an__law_due : Option Addr} {sl__law_due : Array (Option Value)} {oc__law_due kV__law_due dc__law_due pm__law_due cd__law_due ct__law_due : Value}
    (a__law_due : PySem.W.nsIn K mainGlobals "_law_due" = some (some (.ref fx__law_due))) (l__law_due : K.lookup fx__law_due = some ⟨oc__law_due, od__law_due, .func (PySem.W.fnOf "_law_due" "_law_due" (defArgs st__law_due) (defBody st__law_due) (defScope st__law_due) .none kV__law_due dc__law_due pm__law_due an__law_due cd__law_due ct__law_due), sl__law_due⟩) (c__law_due : PySem.W.codeIn K cd__law_due "_law_due" = true) (k__law_due : PySem.W.keepIn K (.ref fx__law_due) = true)
    {fx_law : Addr} {od_law an_law : Option Addr} {sl_law : Array (Option Value)} {oc_law kV_law dc_law pm_law cd_law ct_law : Value}
    (a_law : PySem.W.nsIn K mainGlobals "law" = some (some (.ref fx_law))) (l_law : K.lookup fx_law = some ⟨oc_law, od_law, .func (PySem.W.fnOf "law" "law" (defArgs st_law) (defBody st_law) (defScope st_law) .none kV_law dc_law pm_law an_law cd_law ct_law), sl_law⟩) (c_law : PySem.W.codeIn K cd_law "law" = true) (k_law : PySem.W.keepIn K (.ref fx_law) = true)
    (z_bool : PySem.W.nsIn K mainGlobals "bool" = some none)
    (z_divmod : PySem.W.nsIn K mainGlobals "divmod" = some none)
    (z_int : PySem.W.nsIn K mainGlobals "int" = some none)
    (z_isinstance : PySem.W.nsIn K mainGlobals "isinstance" = some none)
    (z_len : PySem.W.nsIn K mainGlobals "len" = some none)
    (z_list : PySem.W.nsIn K mainGlobals "list" = some none)
    (z_max : PySem.W.nsIn K mainGlobals "max" = some none)
    (z_min : PySem.W.nsIn K mainGlobals "min" = some none)
    (z_range : PySem.W.nsIn K mainGlobals "range" = some none)
    (z_str : PySem.W.nsIn K mainGlobals "str" = some none)
    (z_sum : PySem.W.nsIn K mainGlobals "sum" = some none)
    (z_tuple : PySem.W.nsIn K mainGlobals "tuple" = some none)
    : ∃ fd : FuncData, (∀ (s : Shared) (v : Value), BindsTo s fd ⟨[v], []⟩ [("script", v)]) ∧ ∀ base : Heap, K.In base → base.Ns mainGlobals mg → FnOk l.prog w K mg base CX0 5 fa fd ["script"] (spD K 1 f_law) := by
  have e := hfa.symm.trans (PySem.W.mg_of X G a_law)
  cases e
  have F := fun_mk (st := st_law) l_law c_law k_law
  have T : Txt K mg := ⟨PySem.W.mg_none_of X G z_bool, PySem.W.mg_none_of X G z_divmod, PySem.W.mg_none_of X G z_int, PySem.W.mg_none_of X G z_isinstance, PySem.W.mg_none_of X G z_len, PySem.W.mg_none_of X G z_list, PySem.W.mg_none_of X G z_max, PySem.W.mg_none_of X G z_min, PySem.W.mg_none_of X G z_range, PySem.W.mg_none_of X G z_str, PySem.W.mg_none_of X G z_sum, PySem.W.mg_none_of X G z_tuple⟩
  have d_is_whole : Dn K mg "is_whole" st_is_whole ["thing"] := dn_mk X G a_is_whole l_is_whole c_is_whole k_is_whole fun _ _ _ _ _ _ us hl => match us, hl with | [_], _ => rfl
  have d_is_between : Dn K mg "is_between" st_is_between ["thing", "least", "most"] := dn_mk X G a_is_between l_is_between c_is_between k_is_between fun _ _ _ _ _ _ us hl => match us, hl with | [_, _, _], _ => rfl
  have d_is_tuple : Dn K mg "is_tuple" st_is_tuple ["thing", "many"] := dn_mk X G a_is_tuple l_is_tuple c_is_tuple k_is_tuple fun _ _ _ _ _ _ us hl => match us, hl with | [_, _], _ => rfl
  have d_stretch_sum : Dn K mg "stretch_sum" st_stretch_sum ["days", "first", "many"] := dn_mk X G a_stretch_sum l_stretch_sum c_stretch_sum k_stretch_sum fun _ _ _ _ _ _ us hl => match us, hl with | [_, _, _], _ => rfl
  have d_shows_dry : Dn K mg "shows_dry" st_shows_dry ["brim", "days", "thing"] := dn_mk X G a_shows_dry l_shows_dry c_shows_dry k_shows_dry fun _ _ _ _ _ _ us hl => match us, hl with | [_, _, _], _ => rfl
  have d__law_mixed : Dn K mg "_law_mixed" st__law_mixed ["cell", "turn"] := dn_mk X G a__law_mixed l__law_mixed c__law_mixed k__law_mixed fun _ _ _ _ _ _ us hl => match us, hl with | [_, _], _ => rfl
  have d__law_tape : Dn K mg "_law_tape" st__law_tape ["script"] := dn_mk X G a__law_tape l__law_tape c__law_tape k__law_tape fun _ _ _ _ _ _ us hl => match us, hl with | [_], _ => rfl
  have d__law_take : Dn K mg "_law_take" st__law_take ["tape", "many"] := dn_mk X G a__law_take l__law_take c__law_take k__law_take fun _ _ _ _ _ _ us hl => match us, hl with | [_, _], _ => rfl
  have d__law_large : Dn K mg "_law_large" st__law_large ["tape", "many"] := dn_mk X G a__law_large l__law_large c__law_large k__law_large fun _ _ _ _ _ _ us hl => match us, hl with | [_, _], _ => rfl
  have d__law_days : Dn K mg "_law_days" st__law_days ["tape"] := dn_mk X G a__law_days l__law_days c__law_days k__law_days fun _ _ _ _ _ _ us hl => match us, hl with | [_], _ => rfl
  have d__law_need : Dn K mg "_law_need" st__law_need ["days"] := dn_mk X G a__law_need l__law_need c__law_need k__law_need fun _ _ _ _ _ _ us hl => match us, hl with | [_], _ => rfl
  have d__law_brim : Dn K mg "_law_brim" st__law_brim ["tape", "days"] := dn_mk X G a__law_brim l__law_brim c__law_brim k__law_brim fun _ _ _ _ _ _ us hl => match us, hl with | [_, _], _ => rfl
  have d__law_number : Dn K mg "_law_number" st__law_number ["found"] := dn_mk X G a__law_number l__law_number c__law_number k__law_number fun _ _ _ _ _ _ us hl => match us, hl with | [_], _ => rfl
  have d__law_dries : Dn K mg "_law_dries" st__law_dries ["brim", "days", "first", "many"] := dn_mk X G a__law_dries l__law_dries c__law_dries k__law_dries fun _ _ _ _ _ _ us hl => match us, hl with | [_, _, _, _], _ => rfl
  have d__law_sum : Dn K mg "_law_sum" st__law_sum ["days", "first", "many"] := dn_mk X G a__law_sum l__law_sum c__law_sum k__law_sum fun _ _ _ _ _ _ us hl => match us, hl with | [_, _, _], _ => rfl
  have d__law_things : Dn K mg "_law_things" st__law_things ["size", "first", "many"] := dn_mk X G a__law_things l__law_things c__law_things k__law_things fun _ _ _ _ _ _ us hl => match us, hl with | [_, _, _], _ => rfl
  have d__law_due : Dn K mg "_law_due" st__law_due ["brim", "days", "thing"] := dn_mk X G a__law_due l__law_due c__law_due k__law_due fun _ _ _ _ _ _ us hl => match us, hl with | [_, _, _], _ => rfl
  exact ⟨_, fun s v => .of_eq rfl, fun base _ _ => allc T d_is_whole d_is_between d_is_tuple d_stretch_sum d_shows_dry d__law_mixed d__law_tape d__law_take d__law_large d__law_days d__law_need d__law_brim d__law_number d__law_dries d__law_sum d__law_things d__law_due F⟩
end Law

set_option Elab.async false
set_option linter.all false
namespace WM
def stp (b l d : Int) : Int := min b (l + d)
def F (b : Int) (ds : List Int) (x : Int) : Int := ds.foldl (stp b) x
theorem F_nil {b x : Int} : F b [] x = x := rfl
theorem F_cons {b x d : Int} {r : List Int} : F b (d :: r) x = F b r (stp b x d) := rfl
theorem stp_le {b l d : Int} : stp b l d ≤ b := by unfold stp; omega
theorem F_le {b : Int} : ∀ (ds : List Int) (x : Int), F b ds x ≤ x + ds.sum
  | [], x => by rw [F_nil]; simp
  | d :: r, x => by
    have := F_le (b := b) r (stp b x d)
    rw [F_cons, List.sum_cons]
    unfold stp at *
    omega
theorem F_min {b : Int} : ∀ (ds : List Int) (x y : Int), x ≤ y → F b ds x = min (F b ds y) (x + ds.sum)
  | [], x, y, h => by rw [F_nil, F_nil]; simp; omega
  | d :: r, x, y, h => by
    have h' : stp b x d ≤ stp b y d := by unfold stp; omega
    have e := F_min (b := b) r _ _ h'
    have g := F_le (b := b) r (stp b y d)
    have k : stp b y d ≤ b := stp_le
    rw [F_cons, F_cons, e, List.sum_cons]
    have u : stp b x d = min b (x + d) := rfl
    omega
theorem F_mono {b : Int} {ds : List Int} {x y : Int} (h : x ≤ y) : F b ds x ≤ F b ds y := by
  rw [F_min ds x y h]; omega
def ND (b : Int) (ds : List Int) (x : Int) : Prop := ∀ j, 1 ≤ j → j ≤ ds.length → 0 ≤ F b (ds.take j) x
def AP (ds : List Int) (x : Int) : Prop := ∀ j, 1 ≤ j → j ≤ ds.length → 0 ≤ x + (ds.take j).sum
theorem nd_ap {b : Int} {ds : List Int} {x : Int} (h : ND b ds x) : AP ds x := fun j h1 h2 => by
  have := h j h1 h2
  have := F_le (b := b) (ds.take j) x
  omega
theorem ap_nd {b : Int} {ds : List Int} {l x : Int} (hl : ND b ds l) (h : AP ds x) : ND b ds x := fun j h1 h2 => by
  by_cases c : x ≤ l
  · rw [F_min _ x l c]
    have := hl j h1 h2
    have := h j h1 h2
    omega
  · exact Int.le_trans (hl j h1 h2) (F_mono (by omega))
inductive R where
  | dry (k : Nat) | lev (l : Int)
def R.bind (o : R) (g : Int → R) : R := match o with
  | .dry k => .dry k
  | .lev l => g l
def walk (b : Int) (ds : List Int) : Nat → Nat → Int → R
  | 0, _, l => .lev l
  | n + 1, k, l => if stp b l (ds.getD (k % ds.length) 0) < 0 then .dry k else walk b ds n (k + 1) (stp b l (ds.getD (k % ds.length) 0))
theorem walk_add {b : Int} {ds : List Int} : ∀ (n m k : Nat) (l : Int), walk b ds (n + m) k l = (walk b ds n k l).bind fun l' => walk b ds m (k + n) l'
  | 0, m, k, l => by simp [walk, R.bind]
  | n + 1, m, k, l => by
    rw [Nat.add_right_comm]
    simp only [walk]
    split
    · rfl
    · rw [walk_add n m]
      rw [show k + 1 + n = k + (n + 1) by omega]
def wl (b : Int) : List Int → Nat → Int → R
  | [], _, x => .lev x
  | d :: r, k, x => if stp b x d < 0 then .dry k else wl b r (k + 1) (stp b x d)
theorem walk_wl {b : Int} {ds : List Int} (q : Nat) : ∀ (n i : Nat) (x : Int), i + n ≤ ds.length → walk b ds n (ds.length * q + i) x = wl b ((ds.drop i).take n) (ds.length * q + i) x
  | 0, i, x, h => by simp [walk, wl]
  | n + 1, i, x, h => by
    have hi : i < ds.length := by omega
    have e : (ds.length * q + i) % ds.length = i := by rw [Nat.mul_add_mod]; exact Nat.mod_eq_of_lt hi
    have g : ds.getD i 0 = ds[i] := by simp [List.getD, hi]
    rw [List.drop_eq_getElem_cons hi, List.take_succ_cons]
    simp only [walk, wl, e, g]
    split
    · rfl
    · exact walk_wl q n (i + 1) _ (by omega)
theorem nd_cons {b d x : Int} {r : List Int} : ND b (d :: r) x ↔ 0 ≤ stp b x d ∧ ND b r (stp b x d) := by
  constructor
  · intro h
    refine ⟨by simpa [F] using h 1 (Nat.le_refl _) (by simp), fun j h1 h2 => ?_⟩
    have := h (j + 1) (by omega) (by simp; exact h2)
    rwa [List.take_succ_cons, F_cons] at this
  · rintro ⟨h0, h⟩ j h1 h2
    cases j with
    | zero => omega
    | succ j =>
      rw [List.take_succ_cons, F_cons]
      cases j with
      | zero => simpa [F] using h0
      | succ j => exact h (j + 1) (by omega) (by simpa using h2)
theorem wl_spec {b : Int} : ∀ (ds : List Int) (k : Nat) (x : Int), (ND b ds x ∧ wl b ds k x = .lev (F b ds x)) ∨ (¬ ND b ds x ∧ ∃ d, wl b ds k x = .dry d)
  | [], k, x => .inl ⟨fun j h1 h2 => by simp at h2; omega, rfl⟩
  | d :: r, k, x => by
    simp only [wl]
    by_cases c : stp b x d < 0
    · rw [if_pos c]
      exact .inr ⟨fun h => by have := (nd_cons.mp h).1; omega, k, rfl⟩
    · rw [if_neg c]
      rcases wl_spec r (k + 1) (stp b x d) with ⟨h, e⟩ | ⟨h, e⟩
      · exact .inl ⟨nd_cons.mpr ⟨by omega, h⟩, e⟩
      · exact .inr ⟨fun z => h (nd_cons.mp z).2, e⟩
theorem round_spec {b : Int} {ds : List Int} (q : Nat) (x : Int) : (ND b ds x ∧ walk b ds ds.length (ds.length * q) x = .lev (F b ds x)) ∨ (¬ ND b ds x ∧ ∃ d, walk b ds ds.length (ds.length * q) x = .dry d) := by
  have e := walk_wl (b := b) (ds := ds) q ds.length 0 x (by omega)
  simp only [Nat.add_zero, List.drop_zero, List.take_length] at e
  rw [e]
  exact wl_spec ds _ x
def most (b : Int) (ds : List Int) : Int := F b ds.tail b
theorem F_round {b : Int} {ds : List Int} (h : ds ≠ []) (x : Int) : F b ds x = min (most b ds) (x + ds.sum) := by
  cases ds with
  | nil => exact absurd rfl h
  | cons d r =>
    unfold most
    rw [F_cons, F_min r (stp b x d) b stp_le, List.tail_cons, List.sum_cons]
    have := F_le (b := b) r b
    have u : stp b x d = min b (x + d) := rfl
    omega
def xr (b : Int) (ds : List Int) (l1 : Int) (q : Nat) : Int := min (most b ds) (l1 + q * ds.sum)
theorem xr_zero {b l1 : Int} {ds : List Int} (h : l1 ≤ most b ds) : xr b ds l1 0 = l1 := by
  unfold xr; simp; omega
theorem mul_le_of_neg {q : Nat} {S : Int} (h : S ≤ 0) : (q : Int) * S ≤ 0 := Int.mul_nonpos_of_nonneg_of_nonpos (by omega) h
theorem xr_succ {b l1 : Int} {ds : List Int} (hne : ds ≠ []) (h : l1 ≤ most b ds) (q : Nat) : F b ds (xr b ds l1 q) = xr b ds l1 (q + 1) := by
  rw [F_round hne]
  unfold xr
  have e : ((q + 1 : Nat) : Int) * ds.sum = q * ds.sum + ds.sum := by rw [Int.natCast_add, Int.add_mul]; simp
  rw [e]
  by_cases c : 0 ≤ ds.sum
  · omega
  · have := mul_le_of_neg (q := q) (S := ds.sum) (by omega)
    omega
theorem walk_rounds {b l1 : Int} {ds : List Int} (hne : ds ≠ []) (h : l1 ≤ most b ds) : ∀ (r : Nat), (∀ q, q < r → ND b ds (xr b ds l1 q)) → walk b ds (ds.length * r) (ds.length * 1) l1 = .lev (xr b ds l1 r)
  | 0, _ => by simp [walk, xr_zero h]
  | r + 1, hn => by
    rw [Nat.mul_add ds.length r 1, walk_add, walk_rounds hne h r fun q hq => hn q (by omega)]
    show walk b ds (ds.length * 1) (ds.length * 1 + ds.length * r) _ = _
    rw [Nat.mul_one, show ds.length + ds.length * r = ds.length * (r + 1) by rw [Nat.mul_add]; omega]
    rcases round_spec (b := b) (ds := ds) (r + 1) (xr b ds l1 r) with ⟨_, e⟩ | ⟨k, _⟩
    · rw [e, xr_succ hne h]
    · exact absurd (hn r (by omega)) k
theorem skip_ok {b l l1 : Int} {ds : List Int} {m r : Nat} (hne : ds ≠ []) (hm : ds.length < m) (w1 : walk b ds ds.length 0 l = .lev l1) (hr : ds.length * (r + 1) ≤ m)
    (hnd : ∀ q, q < r → ND b ds (xr b ds l1 q)) (hend : m < ds.length * (r + 2) ∨ ¬ ND b ds (xr b ds l1 r)) :
    walk b ds m 0 l = walk b ds (min m (ds.length * (r + 1) + ds.length) - ds.length * (r + 1)) (ds.length * (r + 1)) (xr b ds l1 r) := by
  have s1 := round_spec (b := b) (ds := ds) 0 l
  rw [Nat.mul_zero, w1] at s1
  have hle : l1 ≤ most b ds := by
    rcases s1 with ⟨_, e⟩ | ⟨_, d, e⟩
    · cases e
      rw [F_round hne]; omega
    · cases e
  have W := walk_rounds hne hle r hnd
  have e1 : ds.length * (r + 1) = ds.length + ds.length * r := by rw [Nat.mul_add]; omega
  have e2 : m = ds.length + (ds.length * r + (m - ds.length * (r + 1))) := by omega
  have full : walk b ds m 0 l = walk b ds (m - ds.length * (r + 1)) (ds.length * (r + 1)) (xr b ds l1 r) := by
    conv => lhs; rw [e2]
    rw [walk_add, w1]
    show walk b ds (ds.length * r + (m - ds.length * (r + 1))) (0 + ds.length) l1 = _
    rw [walk_add, Nat.zero_add]
    rw [Nat.mul_one] at W
    rw [W]
    show walk b ds (m - ds.length * (r + 1)) (ds.length + ds.length * r) _ = _
    rw [e1]
  rw [full]
  by_cases c : m < ds.length * (r + 2)
  · have e3 : ds.length * (r + 2) = ds.length * (r + 1) + ds.length := by rw [Nat.mul_add, Nat.mul_add]; omega
    rw [show min m (ds.length * (r + 1) + ds.length) = m by omega]
  · have hn : ¬ ND b ds (xr b ds l1 r) := by
      rcases hend with h | h
      · exact absurd h c
      · exact h
    have e3 : ds.length * (r + 2) = ds.length * (r + 1) + ds.length := by rw [Nat.mul_add, Nat.mul_add]; omega
    rw [show min m (ds.length * (r + 1) + ds.length) - ds.length * (r + 1) = ds.length by omega]
    rcases round_spec (b := b) (ds := ds) (r + 1) (xr b ds l1 r) with ⟨k, _⟩ | ⟨_, d, e⟩
    · exact absurd k hn
    · rw [e, show m - ds.length * (r + 1) = ds.length + (m - ds.length * (r + 2)) by omega, walk_add, e]
      rfl
/-- the rounds that are even -/
def start (ds : List Int) (mn : Int) : Int := max 0 (-mn)
structure IsMin (ds : List Int) (mn : Int) : Prop where
  le : ∀ j, 1 ≤ j → j ≤ ds.length → mn ≤ (ds.take j).sum
  at' : ∃ j, 1 ≤ j ∧ j ≤ ds.length ∧ mn = (ds.take j).sum
theorem ap_of {ds : List Int} {mn x : Int} (h : IsMin ds mn) (g : start ds mn ≤ x) : AP ds x := fun j h1 h2 => by
  have := h.le j h1 h2
  unfold start at g
  omega
theorem not_ap {ds : List Int} {mn x : Int} (h : IsMin ds mn) (h0 : 0 ≤ x) (g : x < start ds mn) : ¬ AP ds x := fun a => by
  obtain ⟨j, h1, h2, e⟩ := h.at'
  have := a j h1 h2
  unfold start at g
  omega
def even (ds : List Int) (mn l1 m : Int) : Int := if l1 - start ds mn < 0 then 0 else if ds.sum ≥ 0 then m else (l1 - start ds mn) / (-ds.sum) + 1
theorem nd_last {b : Int} {ds : List Int} {x : Int} (hne : ds ≠ []) (h : ND b ds x) : 0 ≤ F b ds x := by
  have := h ds.length (by cases ds with | nil => exact absurd rfl hne | cons _ _ => simp) (Nat.le_refl _)
  rwa [List.take_length] at this
theorem even_ok {b l l1 mn : Int} {ds : List Int} {m : Nat} {r : Nat} (hne : ds ≠ []) (hm : ds.length < m) (hmn : IsMin ds mn) (w1 : walk b ds ds.length 0 l = .lev l1)
    (hr : (r : Int) = min ((m : Int) / (ds.length : Int) - 1) (even ds mn l1 m)) :
    ds.length * (r + 1) ≤ m ∧ (∀ q, q < r → ND b ds (xr b ds l1 q)) ∧ (m < ds.length * (r + 2) ∨ ¬ ND b ds (xr b ds l1 r)) := by
  have s1 := round_spec (b := b) (ds := ds) 0 l
  rw [Nat.mul_zero, w1] at s1
  have hn0 : ND b ds l ∧ l1 = F b ds l := by
    rcases s1 with ⟨h, e⟩ | ⟨_, d, e⟩
    · cases e; exact ⟨h, rfl⟩
    · cases e
  obtain ⟨hn0, el⟩ := hn0
  have hle : l1 ≤ most b ds := by rw [el, F_round hne]; omega
  have hl0 : 0 ≤ l1 := by rw [el]; exact nd_last hne hn0
  have hL : 0 < ds.length := by cases ds with | nil => exact absurd rfl hne | cons _ _ => simp
  have hd : (m : Int) / (ds.length : Int) = ((m / ds.length : Nat) : Int) := rfl
  rw [hd] at hr
  have hq1 : 1 ≤ m / ds.length := (Nat.le_div_iff_mul_le hL).mpr (by omega)
  have hr1 : r + 1 ≤ m / ds.length := by omega
  have hmul : ds.length * (r + 1) ≤ m := by
    have := (Nat.le_div_iff_mul_le hL).mp hr1
    rw [Nat.mul_comm]; exact this
  have hx0 : ∀ q, (∀ p, p < q → ND b ds (xr b ds l1 p)) → 0 ≤ xr b ds l1 q := fun q h => by
    cases q with
    | zero => rw [xr_zero hle]; exact hl0
    | succ q => rw [← xr_succ hne hle]; exact nd_last hne (h q (by omega))
  have hnd : ∀ q, q < r → ND b ds (xr b ds l1 q) := fun q hq => by
    refine ap_nd hn0 (ap_of hmn ?_)
    have hev : (q : Int) < even ds mn l1 m := by omega
    unfold even at hev
    split at hev
    · omega
    · split at hev
      · rename_i h1 h2
        have : 0 ≤ (q : Int) * ds.sum := Int.mul_nonneg (by omega) h2
        unfold xr
        omega
      · rename_i h1 h2
        have h3 : (q : Int) ≤ (l1 - start ds mn) / (-ds.sum) := by omega
        have h4 := (Int.le_ediv_iff_mul_le (by omega)).mp h3
        have h5 : (q : Int) * (-ds.sum) = -(q * ds.sum) := Int.mul_neg _ _
        have := mul_le_of_neg (q := q) (S := ds.sum) (by omega)
        unfold xr
        omega
  refine ⟨hmul, hnd, ?_⟩
  by_cases c : r + 1 = m / ds.length
  · refine .inl ?_
    have : m / ds.length < r + 2 := by omega
    have := (Nat.div_lt_iff_lt_mul hL).mp this
    rw [Nat.mul_comm]; exact this
  · refine .inr fun k => ?_
    have k := nd_ap k
    have h0 := hx0 r hnd
    have hev : (r : Int) = even ds mn l1 m := by omega
    refine not_ap hmn h0 ?_ k
    unfold even at hev
    split at hev
    · rename_i h1
      have : r = 0 := by omega
      subst this
      rw [xr_zero hle]; omega
    · split at hev
      · have := Nat.div_le_self m ds.length
        omega
      · rename_i h1 h2
        have h3 : (l1 - start ds mn) / (-ds.sum) < (r : Int) := by omega
        have h4 := (Int.ediv_lt_iff_lt_mul (by omega)).mp h3
        have h5 : (r : Int) * (-ds.sum) = -(r * ds.sum) := Int.mul_neg _ _
        unfold xr
        omega
end WM

set_option Elab.async false
set_option linter.all false
set_option maxRecDepth 100000
namespace DL
open PySem PySem.Spec PyProof.Rows L2
/-! ### how the functions go, applied -/
section
variable {ρ : Lc} {S : Sto} {α β : Type}
@[simp] theorem bind_ok {a : α} {g : α → Sto → Out β} : (Out.ok a S).bind g = g a S := id rfl
@[simp] theorem bind_bad {g : α → Sto → Out β} : (Out.bad : Out α).bind g = .bad := id rfl
@[simp] theorem bindS_ok {a : α} {g : α → Sto → OS} : bindS (Out.ok a S) ρ g = g a S := id rfl
@[simp] theorem bindS_bad {g : α → Sto → OS} : bindS (Out.bad : Out α) ρ g = .bad := id rfl
@[simp] theorem vr_ap {i : Nat} : vr i ρ S = match ρ[i]? with
  | some (some d) => .ok d S
  | _ => .bad := id rfl
@[simp] theorem cn_ap {d : D} : cn d ρ S = .ok d S := id rfl
@[simp] theorem an_ap : an ρ S = .ok [] S := id rfl
@[simp] theorem ac_ap {f : Ev D} {g : Ev (List D)} : ac f g ρ S = (f ρ S).bind fun x S1 => (g ρ S1).bind fun xs S2 => .ok (x :: xs) S2 := id rfl
@[simp] theorem o2_ap {o : D → D → Sto → Out D} {fa fb : Ev D} : o2 o fa fb ρ S = (fa ρ S).bind fun x S1 => (fb ρ S1).bind fun y S2 => o x y S2 := id rfl
@[simp] theorem o1_ap {o : D → Sto → Out D} {fa : Ev D} : o1 o fa ρ S = (fa ρ S).bind fun x S1 => o x S1 := id rfl
@[simp] theorem b1_ap {o : List D → Sto → Out D} {f : Ev (List D)} : b1 o f ρ S = (f ρ S).bind o := id rfl
@[simp] theorem cl_ap {n : Nat} {fn : Fn} {t : Ev (List D)} : cl n fn t ρ S = (t ρ S).bind fun ds S1 => if ds.length = n then fn ds S1 else .bad := id rfl
@[simp] theorem noExc_ap {fn : Fn} {ds : List D} : noExc fn ds S = match fn ds S with
  | .ok d S' => .ok d S'
  | _ => .bad := id rfl
@[simp] theorem tb_ap {f : Ev D} : tb f ρ S = (f ρ S).bind fun x S1 => match x with
  | .bl b => .ok b S1
  | _ => .bad := id rfl
@[simp] theorem tt_ap {f : Ev D} : tt f ρ S = (f ρ S).bind fun x S1 => match truD x S1 with
  | some b => .ok b S1
  | none => .bad := id rfl
@[simp] theorem tn_ap {f : Ev Bool} : tn f ρ S = (f ρ S).bind fun b S1 => .ok (!b) S1 := id rfl
@[simp] theorem ta_ap {f g : Ev Bool} : ta f g ρ S = (f ρ S).bind fun b S1 => if b = true then g ρ S1 else .ok false S1 := id rfl
@[simp] theorem to_ap {f g : Ev Bool} : to f g ρ S = (f ρ S).bind fun b S1 => if b = true then .ok true S1 else g ρ S1 := id rfl
@[simp] theorem va_ap {f g : Ev D} : va f g ρ S = (f ρ S).bind fun x S1 => match x with
  | .bl b => if b = true then g ρ S1 else .ok (.bl false) S1
  | _ => .bad := id rfl
@[simp] theorem vo_ap {f g : Ev D} : vo f g ρ S = (f ρ S).bind fun x S1 => match x with
  | .bl b => if b = true then .ok (.bl true) S1 else g ρ S1
  | _ => .bad := id rfl
@[simp] theorem vn_ap {f : Ev D} : vn f ρ S = (f ρ S).bind fun x S1 => match x with
  | .bl b => .ok (.bl (!b)) S1
  | _ => .bad := id rfl
@[simp] theorem ie_ap {c : Ev Bool} {f g : Ev D} : ie c f g ρ S = (c ρ S).bind fun b S1 => if b = true then f ρ S1 else g ρ S1 := id rfl
@[simp] theorem tp_ap {f : Ev (List D)} : tp f ρ S = (f ρ S).bind fun xs S1 => if xs.length ≤ 1000000 then .ok (.tup xs) S1 else .bad := id rfl
@[simp] theorem ls_ap {f : Ev (List D)} : ls f ρ S = (f ρ S).bind fun xs S1 => if xs.length ≤ 1000000 then .ok (.lst S1.length) (S1 ++ [⟨false, xs⟩]) else .bad := id rfl
@[simp] theorem sl2_ap {fe : Ev D} {fl fh : Ev (Option Int)} : sl2 fe fl fh ρ S = (fe ρ S).bind fun x S1 => (fl ρ S1).bind fun l S2 => (fh ρ S2).bind fun u S3 => slD2 x l u S3 := id rfl
@[simp] theorem onone_ap : onone ρ S = .ok none S := id rfl
@[simp] theorem osome_ap {f : Ev D} : osome f ρ S = (f ρ S).bind fun x S1 => match x with
  | .int i => .ok (some i) S1
  | _ => .bad := id rfl
@[simp] theorem mt_ap {o : D → List D → Sto → Out D} {fo : Ev D} {f : Ev (List D)} : mt o fo f ρ S = (fo ρ S).bind fun x S1 => if isLst x S1 = true then (f ρ S1).bind fun xs S2 => o x xs S2 else .bad := id rfl
@[simp] theorem ch_ap {o o' : D → D → Sto → Out D} {fa fb fc : Ev D} : ch o o' fa fb fc ρ S = (fa ρ S).bind fun x S1 => (fb ρ S1).bind fun y S2 => (o x y S2).bind fun z S3 => match z with
  | .bl b => if b = true then (fc ρ S3).bind fun w S4 => o' y w S4 else .ok (.bl false) S3
  | _ => .bad := id rfl
@[simp] theorem sq_ap {f g : Sv} : sq f g ρ S = match f ρ S with
  | .nx ρ' S' => g ρ' S'
  | .rt d S' => .rt d S'
  | .bk ρ' S' => .bk ρ' S'
  | .ct ρ' S' => .ct ρ' S'
  | .exc x ρ' S' => .exc x ρ' S'
  | .bad => .bad := id rfl
@[simp] theorem sa_ap {f : Ev D} {g : Tg} : sa f g ρ S = bindS (f ρ S) ρ fun d S1 => match g d ρ with
  | some ρ' => .nx ρ' S1
  | none => .bad := id rfl
@[simp] theorem gn_ap {i : Nat} {d : D} : gn i d ρ = some (ρ.set i (some d)) := id rfl
@[simp] theorem sret_ap {f : Ev D} : sret f ρ S = bindS (f ρ S) ρ fun d S1 => .rt d S1 := id rfl
@[simp] theorem sif_ap {c : Ev Bool} {f g : Sv} : sif c f g ρ S = bindS (c ρ S) ρ fun b S1 => if b = true then f ρ S1 else g ρ S1 := id rfl
@[simp] theorem sx_ap {f : Ev D} : sx f ρ S = bindS (f ρ S) ρ fun _ S1 => .nx ρ S1 := id rfl
@[simp] theorem skip_ap : skip ρ S = .nx ρ S := id rfl
@[simp] theorem ss_ap {f fo fi : Ev D} {o : D → D → D → Sto → Option Sto} : ss f fo fi o ρ S = bindS (f ρ S) ρ fun d S1 => bindS (fo ρ S1) ρ fun x S2 => bindS (fi ρ S2) ρ fun y S3 => match o x y d S3 with
  | some S4 => .nx ρ S4
  | none => .bad := id rfl
@[simp] theorem sag_ap {i : Nat} {g : Int → Int → Int} {f : Ev D} : sag i g f ρ S = match ρ[i]? with
  | some (some (.int a)) => bindS (f ρ S) ρ fun d S1 => match d with
    | .int b => .nx (ρ.set i (some (.int (g a b)))) S1
    | _ => .bad
  | _ => .bad := id rfl
@[simp] theorem isrc_ap {f : Ev D} : isrc f ρ S = (f ρ S).bind srcOf := id rfl
@[simp] theorem sfor_ap {f : Ev Src} {g : Tg} {b : Sv} : sfor f g b ρ S = bindS (f ρ S) ρ fun s S1 => forN s.nxt g b s.fuel 0 ρ S1 := id rfl
/-! ### over ints -/
section
variable {i j : Int}
@[simp] theorem add_ii : addD (.int i) (.int j) S = .ok (.int (i + j)) S := id rfl
@[simp] theorem sub_ii : subD (.int i) (.int j) S = .ok (.int (i - j)) S := id rfl
@[simp] theorem neg_i : negD (.int i) S = .ok (.int (-i)) S := id rfl
theorem mul_r (h1 : -(2 ^ 64) < j) (h2 : j < 2 ^ 64) : mulD (.int i) (.int j) S = .ok (.int (i * j)) S := by
  show (if (-(2 ^ 64) < i ∧ i < 2 ^ 64) ∨ (-(2 ^ 64) < j ∧ j < 2 ^ 64) then Out.ok (D.int (i * j)) S else .bad) = _
  rw [if_pos (.inr ⟨h1, h2⟩)]
theorem mul_l (h1 : -(2 ^ 64) < i) (h2 : i < 2 ^ 64) : mulD (.int i) (.int j) S = .ok (.int (i * j)) S := by
  show (if (-(2 ^ 64) < i ∧ i < 2 ^ 64) ∨ (-(2 ^ 64) < j ∧ j < 2 ^ 64) then Out.ok (D.int (i * j)) S else .bad) = _
  rw [if_pos (.inl ⟨h1, h2⟩)]
theorem mod_ii (h : 0 < j) : modD (.int i) (.int j) S = .ok (.int (i % j)) S := by
  show (if decide (0 < j) = true then Out.ok (D.int (i % j)) S else .bad) = _
  rw [if_pos (by simpa using h)]
theorem div_ii (h : 0 < j) (h2 : j < 2 ^ 200) : divD2 (.int i) (.int j) S = .ok (.int (i / j)) S := by
  show (if decide (0 < j ∧ j < 2 ^ 200) = true then Out.ok (D.int (i / j)) S else .bad) = _
  rw [if_pos (decide_eq_true ⟨h, h2⟩)]
theorem pow_nn {n : Nat} (h : (n : Int) ≤ 1000000) (h2 : i.natAbs < 2 ^ 64) : powD (.int i) (.int n) S = .ok (.int (i ^ n)) S := by
  show (if decide (0 ≤ (n : Int) ∧ (n : Int) ≤ 1000000 ∧ i.natAbs < 2 ^ 64) = true then Out.ok (D.int (i ^ (n : Int).toNat)) S else .bad) = _
  rw [if_pos (decide_eq_true ⟨by omega, h, h2⟩)]
  rfl
@[simp] theorem pow_6 : powD (.int 10) (.int 6) S = .ok (.int 1000000) S := pow_nn (n := 6) (by decide) (by decide)
@[simp] theorem pow_15 : powD (.int 10) (.int 15) S = .ok (.int 1000000000000000) S := pow_nn (n := 15) (by decide) (by decide)
@[simp] theorem pow_18 : powD (.int 10) (.int 18) S = .ok (.int 1000000000000000000) S := pow_nn (n := 18) (by decide) (by decide)
@[simp] theorem lt_ii : ltD (.int i) (.int j) S = .ok (.bl (decide (i < j))) S := id rfl
@[simp] theorem le_ii : leD (.int i) (.int j) S = .ok (.bl (decide (i ≤ j))) S := id rfl
@[simp] theorem gt_ii : gtD (.int i) (.int j) S = .ok (.bl (decide (j < i))) S := id rfl
@[simp] theorem ge_ii : geD (.int i) (.int j) S = .ok (.bl (decide (j ≤ i))) S := id rfl
@[simp] theorem min_ii : minD [.int i, .int j] S = .ok (.int (min i j)) S := by
  show Out.ok (D.int (if j < i then j else i)) S = _
  congr 2
  omega
@[simp] theorem max_ii : maxD [.int i, .int j] S = .ok (.int (max i j)) S := by
  show Out.ok (D.int (if j > i then j else i)) S = _
  congr 2
  omega
@[simp] theorem eq_ii : eqD (.int i) (.int j) S = .ok (.bl (decide (i = j))) S := by
  simp only [eqD, toP]
  simp [SeqAt.shaped, PyData.eqv]
  rfl
@[simp] theorem ne_ii : neD (.int i) (.int j) S = .ok (.bl (!decide (i = j))) S := by
  simp only [neD, toP]
  simp [SeqAt.shaped, PyData.eqv]
  rfl
theorem eq_ss {x y : Str} (hx : PyData.strOk x = true) (hy : PyData.strOk y = true) : eqD (.str x) (.str y) S = .ok (.bl (x == y)) S := by
  simp only [eqD, toP]
  simp [SeqAt.shaped, PyData.eqv, PyData.canLay0, PyData.depth, hx, hy]
end
/-! ### sequences -/
@[simp] theorem len_t {l : List D} : lenD [.tup l] S = .ok (.int l.length) S := id rfl
theorem len_l {k : Nat} {c : Cell} (h : S[k]? = some c) : lenD [.lst k] S = .ok (.int c.xs.length) S := by
  show (match S[k]? with | some c => Out.ok (D.int c.xs.length) S | none => .bad) = _
  rw [h]
theorem get_l {k : Nat} {c : Cell} {i : Int} {d : D} (h : S[k]? = some c) (e : atI c.xs i = some d) : getD (.lst k) (.int i) S = .ok d S := by
  show (match S[k]? with | some c => (match atI c.xs i with | some d => Out.ok d S | none => .bad) | none => .bad) = _
  rw [h]
  show (match atI c.xs i with | some d => Out.ok d S | none => .bad) = _
  rw [e]
theorem get_t {l : List D} {i : Int} {d : D} (e : atI l i = some d) : getD (.tup l) (.int i) S = .ok d S := by
  show (match atI l i with | some d => Out.ok d S | none => .bad) = _
  rw [e]
theorem atI_nn {α : Type} {l : List α} {i : Int} {d : α} (h0 : 0 ≤ i) (e : l[i.toNat]? = some d) : atI l i = some d := by
  unfold atI ixN
  have : i.toNat < l.length := (List.getElem?_eq_some_iff.mp e).1
  rw [if_pos h0, if_pos (by omega)]
  exact e
theorem set_l {k : Nat} {xs : List D} {i : Int} {d : D} (h : S[k]? = some ⟨false, xs⟩) (h0 : 0 ≤ i) (h1 : i < xs.length) : setD (.lst k) (.int i) d S = some (S.set k ⟨false, xs.set i.toNat d⟩) := by
  show (match S[k]? with | some c => (match ixN c.xs.length i with | some j => if c.fz = false then some (S.set k ⟨false, c.xs.set j d⟩) else none | none => none) | none => none) = _
  rw [h]
  show (match ixN xs.length i with | some j => if false = false then some (S.set k ⟨false, xs.set j d⟩) else none | none => none) = _
  unfold ixN
  rw [if_pos h0, if_pos h1]
  rfl
@[simp] theorem sum_t {l : List Int} : sumD [.tup (l.map D.int)] S = .ok (.int l.sum) S := by
  have : ∀ l : List Int, intsOf (l.map D.int) = some l := fun l => by
    induction l with
    | nil => rfl
    | cons a r ih => show (intsOf (r.map D.int)).map (a :: ·) = _; rw [ih]; rfl
  show (match (some (l.map D.int)).bind intsOf with | some ns => Out.ok (D.int ns.sum) S | none => .bad) = _
  rw [Option.bind_some, this]
theorem ints_map : ∀ l : List Int, intsOf (l.map D.int) = some l
  | [] => rfl
  | a :: r => by show (intsOf (r.map D.int)).map (a :: ·) = _; rw [ints_map r]; rfl
end
end DL

set_option Elab.async false
set_option linter.all false
set_option maxRecDepth 100000
namespace Law
open PySem PySem.Spec PyProof.Rows L2 DL WM
theorem mixed_ok {c t : Int} {S : Sto} : ∃ r, f__law_mixed [.int c, .int t] S = .ok (.int r) S := by
  have sqr : ∀ x : Int, mulD (.int (x % 2147483647)) (.int (x % 2147483647)) S = .ok (.int (x % 2147483647 * (x % 2147483647))) S := fun x => mul_r (by omega) (by omega)
  simp [f__law_mixed, fnB, b__law_mixed, mod_ii, mul_r, mul_l, div_ii, sqr]
def tk_a : Sv := sif (ta (tb (o2 eqD (o2 DL.getD (vr 0) (cn (.int 1))) (cn (.int 0)))) (tb (o2 gtD (b1 lenD (ac (o2 DL.getD (vr 0) (cn (.int 0))) an)) (cn (.int 0)))))
    (sq (sa (mt popD (o2 DL.getD (vr 0) (cn (.int 0))) (ac (cn (.int 0)) an)) (gn 2))
    (sq (sif (tb (o2 ltD (vr 2) (o2 powD (cn (.int 10)) (cn (.int 18)))))
    (sret (o2 modD (cl 2 (noExc f__law_mixed) (ac (vr 2) (ac (o2 DL.getD (vr 0) (cn (.int 3))) an))) (vr 1)))
    DL.skip)
    (ss (vr 2) (vr 0) (cn (.int 1)) setD)))
    DL.skip
def tk_b : Sv := (sq (sif (tb (o2 gtD (o2 DL.getD (vr 0) (cn (.int 1))) (cn (.int 0))))
    (sq (sa (o2 modD (o2 DL.getD (vr 0) (cn (.int 1))) (vr 1)) (gn 3))
    (sq (ss (o2 divD2 (o2 DL.getD (vr 0) (cn (.int 1))) (vr 1)) (vr 0) (cn (.int 1)) setD)
    (sret (vr 3))))
    DL.skip)
    (sret (o2 modD (cl 2 (noExc f__law_mixed) (ac (o2 DL.getD (vr 0) (cn (.int 2))) (ac (o2 DL.getD (vr 0) (cn (.int 3))) an))) (vr 1))))
def fin (o : OS) : Out D := match o with
  | .rt d S' => .ok d S'
  | .nx _ S' => .ok .non S'
  | .exc x _ S' => .exc x S'
  | _ => .bad
theorem fnB_ap {m : Nat} {b : Sv} {ds : List D} {S : Sto} : fnB m b ds S = fin (b (ds.map some ++ List.replicate (m - ds.length) none) S) := rfl
@[simp] theorem fin_rt {d : D} {S : Sto} : fin (.rt d S) = .ok d S := rfl
structure Tp (S : Sto) (t k : Nat) : Prop where
  ex : ∃ (a sd n : Int) (xs : List Int), S[t]? = some ⟨false, [.lst k, .int a, .int sd, .int n]⟩ ∧ S[k]? = some ⟨false, xs.map D.int⟩
  ne : t ≠ k
structure Sm (S S' : Sto) (t k : Nat) : Prop where
  len : S'.length = S.length
  get : ∀ i, i ≠ t → i ≠ k → S'[i]? = S[i]?
theorem Sm.refl {S : Sto} {t k : Nat} : Sm S S t k := ⟨rfl, fun _ _ _ => rfl⟩
theorem Sm.trans {S S1 S2 : Sto} {t k : Nat} (a : Sm S S1 t k) (b : Sm S1 S2 t k) : Sm S S2 t k := ⟨b.len.trans a.len, fun i h1 h2 => (b.get i h1 h2).trans (a.get i h1 h2)⟩
theorem Sm.set {S : Sto} {t k j : Nat} {c : Cell} (h : j = t ∨ j = k) : Sm S (S.set j c) t k := ⟨by simp, fun i h1 h2 => by
  rw [List.getElem?_set_ne]
  rcases h with h | h
  · rw [h]; exact Ne.symm h1
  · rw [h]; exact Ne.symm h2⟩
theorem take_ok {S : Sto} {t k : Nat} {m : Int} (h : Tp S t k) (hm : 0 < m) (hm2 : m < 2 ^ 200) : ∃ r S', f__law_take [.lst t, .int m] S = .ok (.int r) S' ∧ 0 ≤ r ∧ r < m ∧ Tp S' t k ∧ Sm S S' t k := by
  obtain ⟨⟨a, sd, n, xs, e1, e2⟩, ne⟩ := h
  have lt : t < S.length := (List.getElem?_eq_some_iff.mp e1).1
  have lk : k < S.length := (List.getElem?_eq_some_iff.mp e2).1
  have g3 : getD (.lst t) (.int 3) S = .ok (.int n) S := get_l e1 rfl
  have s3 : setD (.lst t) (.int 3) (.int (n + 1)) S = some (S.set t ⟨false, [.lst k, .int a, .int sd, .int (n + 1)]⟩) := set_l e1 (by decide) (by simp)
  have e1' : (S.set t ⟨false, [.lst k, .int a, .int sd, .int (n + 1)]⟩)[t]? = some ⟨false, [.lst k, .int a, .int sd, .int (n + 1)]⟩ := List.getElem?_set_self lt
  have e2' : (S.set t ⟨false, [.lst k, .int a, .int sd, .int (n + 1)]⟩)[k]? = some ⟨false, xs.map D.int⟩ := by rw [List.getElem?_set_ne ne]; exact e2
  have sm1 : Sm S (S.set t ⟨false, [.lst k, .int a, .int sd, .int (n + 1)]⟩) t k := Sm.set (.inl rfl)
  generalize hS1 : S.set t ⟨false, [.lst k, .int a, .int sd, .int (n + 1)]⟩ = S1 at *
  have lt' : t < S1.length := (List.getElem?_eq_some_iff.mp e1').1
  have lk' : k < S1.length := (List.getElem?_eq_some_iff.mp e2').1
  have g0 : getD (.lst t) (.int 0) S1 = .ok (.lst k) S1 := get_l e1' rfl
  have g1 : getD (.lst t) (.int 1) S1 = .ok (.int a) S1 := get_l e1' rfl
  have g2 : getD (.lst t) (.int 2) S1 = .ok (.int sd) S1 := get_l e1' rfl
  have g3' : getD (.lst t) (.int 3) S1 = .ok (.int (n + 1)) S1 := get_l e1' rfl
  have ln : lenD [.lst k] S1 = .ok (.int xs.length) S1 := by rw [len_l e2']; simp
  -- the rest behind the first test
  have rest : ∀ (S2 : Sto) (a2 : Int) (q : Option D), S2[t]? = some ⟨false, [.lst k, .int a2, .int sd, .int (n + 1)]⟩ → (∃ ys : List Int, S2[k]? = some ⟨false, ys.map D.int⟩) → Sm S S2 t k → ∃ r S', fin (tk_b [some (.lst t), some (.int m), q, none] S2) = .ok (.int r) S' ∧ 0 ≤ r ∧ r < m ∧ Tp S' t k ∧ Sm S S' t k := by
    intro S2 a2 q h1 h2 sm
    have h0 : DL.getD (.lst t) (.int 1) S2 = .ok (.int a2) S2 := get_l h1 rfl
    have h02 : DL.getD (.lst t) (.int 2) S2 = .ok (.int sd) S2 := get_l h1 rfl
    have h03 : DL.getD (.lst t) (.int 3) S2 = .ok (.int (n + 1)) S2 := get_l h1 rfl
    have hs : ∀ d, setD (.lst t) (.int 1) d S2 = some (S2.set t ⟨false, [.lst k, d, .int sd, .int (n + 1)]⟩) := fun d => set_l h1 (by decide) (by simp)
    have lt2 : t < S2.length := (List.getElem?_eq_some_iff.mp h1).1
    by_cases c : 0 < a2
    · refine ⟨a2 % m, S2.set t ⟨false, [.lst k, .int (a2 / m), .int sd, .int (n + 1)]⟩, ?_, Int.emod_nonneg _ (by omega), Int.emod_lt_of_pos _ hm, ⟨?_, ne⟩, sm.trans (Sm.set (.inl rfl))⟩
      · simp [tk_b, h0, c, mod_ii hm, div_ii hm hm2, hs]
      · obtain ⟨ys, h2⟩ := h2
        exact ⟨_, _, _, ys, List.getElem?_set_self lt2, by rw [List.getElem?_set_ne ne]; exact h2⟩
    · obtain ⟨r, hr⟩ := mixed_ok (c := sd) (t := n + 1) (S := S2)
      refine ⟨r % m, S2, ?_, Int.emod_nonneg _ (by omega), Int.emod_lt_of_pos _ hm, ⟨?_, ne⟩, sm⟩
      · simp [tk_b, h0, h02, h03, c, hr, mod_ii hm]
      · obtain ⟨ys, h2⟩ := h2
        exact ⟨_, _, _, ys, h1, h2⟩
  show ∃ r S', fnB 4 (sq (ss (o2 addD (o2 DL.getD (vr 0) (cn (.int 3))) (cn (.int 1))) (vr 0) (cn (.int 3)) setD) (sq tk_a tk_b)) [.lst t, .int m] S = .ok (.int r) S' ∧ _
  rw [fnB_ap, sq_ap]
  have st1 : ss (o2 addD (o2 DL.getD (vr 0) (cn (.int 3))) (cn (.int 1))) (vr 0) (cn (.int 3)) setD ([D.lst t, D.int m].map some ++ List.replicate (4 - [D.lst t, D.int m].length) none) S = .nx [some (.lst t), some (.int m), none, none] S1 := by
    simp [g3, s3]
  rw [st1]
  by_cases c : a = 0 ∧ 0 < xs.length
  · obtain ⟨c1, c2⟩ := c
    cases xs with
    | nil => simp at c2
    | cons x ys =>
      have pp : popD (.lst k) [.int 0] S1 = .ok (.int x) (S1.set k ⟨false, ys.map D.int⟩) := by
        simp only [popD, e2']
        simp
      have il : isLst (.lst k) S1 = true := by simp only [isLst, e2']
      have q1 : (S1.set k ⟨false, ys.map D.int⟩)[t]? = some ⟨false, [.lst k, .int a, .int sd, .int (n + 1)]⟩ := by rw [List.getElem?_set_ne (Ne.symm ne)]; exact e1'
      have q2 : (S1.set k ⟨false, ys.map D.int⟩)[k]? = some ⟨false, ys.map D.int⟩ := List.getElem?_set_self lk'
      have sm2 : Sm S (S1.set k ⟨false, ys.map D.int⟩) t k := sm1.trans (Sm.set (.inr rfl))
      generalize hS2 : S1.set k ⟨false, ys.map D.int⟩ = S2 at *
      have g3'' : DL.getD (.lst t) (.int 3) S2 = .ok (.int (n + 1)) S2 := get_l q1 rfl
      by_cases c3 : x < 1000000000000000000
      · obtain ⟨r, hr⟩ := mixed_ok (c := x) (t := n + 1) (S := S2)
        refine ⟨r % m, S2, ?_, Int.emod_nonneg _ (by omega), Int.emod_lt_of_pos _ hm, ⟨⟨_, _, _, ys, q1, q2⟩, ne⟩, sm2⟩
        simp [tk_a, g0, g1, c1, ln, il, pp, c3, g3'', hr, mod_ii hm]
      · have lt2 : t < S2.length := (List.getElem?_eq_some_iff.mp q1).1
        have hs : setD (.lst t) (.int 1) (.int x) S2 = some (S2.set t ⟨false, [.lst k, .int x, .int sd, .int (n + 1)]⟩) := set_l q1 (by decide) (by simp)
        obtain ⟨r, S', h1, h2, h3, h4, h5⟩ := rest (S2.set t ⟨false, [.lst k, .int x, .int sd, .int (n + 1)]⟩) x (some (.int x)) (List.getElem?_set_self lt2) ⟨ys, by rw [List.getElem?_set_ne ne]; exact q2⟩ (sm2.trans (Sm.set (.inl rfl)))
        refine ⟨r, S', ?_, h2, h3, h4, h5⟩
        rw [← h1]
        have st2 : tk_a [some (.lst t), some (.int m), none, none] S1 = .nx [some (.lst t), some (.int m), some (.int x), none] (S2.set t ⟨false, [.lst k, .int x, .int sd, .int (n + 1)]⟩) := by
          simp [tk_a, g0, g1, c1, ln, il, pp, c3, hs]
        show fin (sq tk_a tk_b [some (.lst t), some (.int m), none, none] S1) = _
        rw [sq_ap, st2]
  · obtain ⟨r, S', h1, h2, h3, h4, h5⟩ := rest S1 a none e1' ⟨xs, e2'⟩ sm1
    refine ⟨r, S', ?_, h2, h3, h4, h5⟩
    rw [← h1]
    have st2 : tk_a [some (.lst t), some (.int m), none, none] S1 = .nx [some (.lst t), some (.int m), none, none] S1 := by
      by_cases ca : a = 0
      · have : ¬ 0 < xs.length := fun z => c ⟨ca, z⟩
        simp [tk_a, g0, g1, ca, ln, this]
      · simp [tk_a, g1, ca]
    show fin (sq tk_a tk_b [some (.lst t), some (.int m), none, none] S1) = _
    rw [sq_ap, st2]
theorem whN_succ {c : Ev Bool} {b : Sv} {n : Nat} {ρ : Lc} {S : Sto} : whN c b (n + 1) ρ S = bindS (c ρ S) ρ fun t S1 => if t = true then (match b ρ S1 with
        | .nx ρ2 S2 => whN c b n ρ2 S2
        | .ct ρ2 S2 => whN c b n ρ2 S2
        | .bk ρ2 S2 => .nx ρ2 S2
        | .rt d S2 => .rt d S2
        | .exc x ρ2 S2 => .exc x ρ2 S2
        | .bad => .bad) else .nx ρ S1 := rfl
theorem Tp.app {S : Sto} {t k : Nat} {c : Cell} (h : Tp S t k) : Tp (S ++ [c]) t k := by
  obtain ⟨⟨a, sd, n, xs, e1, e2⟩, ne⟩ := h
  have lt : t < S.length := (List.getElem?_eq_some_iff.mp e1).1
  have lk : k < S.length := (List.getElem?_eq_some_iff.mp e2).1
  exact ⟨⟨a, sd, n, xs, by rw [List.getElem?_append_left lt]; exact e1, by rw [List.getElem?_append_left lk]; exact e2⟩, ne⟩
theorem Tp.lt {S : Sto} {t k : Nat} (h : Tp S t k) : t < S.length ∧ k < S.length := by
  obtain ⟨⟨a, sd, n, xs, e1, e2⟩, ne⟩ := h
  exact ⟨(List.getElem?_eq_some_iff.mp e1).1, (List.getElem?_eq_some_iff.mp e2).1⟩
theorem Tp.set {S : Sto} {t k q : Nat} {c : Cell} (h : Tp S t k) (h1 : q ≠ t) (h2 : q ≠ k) : Tp (S.set q c) t k := by
  obtain ⟨⟨a, sd, n, xs, e1, e2⟩, ne⟩ := h
  exact ⟨⟨a, sd, n, xs, by rw [List.getElem?_set_ne h1]; exact e1, by rw [List.getElem?_set_ne h2]; exact e2⟩, ne⟩
theorem large_loop {t k : Nat} {m : Int} : ∀ (n j : Nat) (S : Sto) (fnd sz : Int), Tp S t k → 0 < sz → m ≤ sz * 1000000 ^ n → n < j →
    ∃ f' z' S', whN lc__law_large_1 lb__law_large_1 j [some (.lst t), some (.int m), some (.int fnd), some (.int sz)] S = .nx [some (.lst t), some (.int m), some (.int f'), some (.int z')] S' ∧ Tp S' t k ∧ Sm S S' t k
  | n, 0, S, fnd, sz, _, _, _, h => absurd h (Nat.not_lt_zero _)
  | n, j + 1, S, fnd, sz, h, h0, hm, hj => by
    rw [whN_succ]
    by_cases c : sz < m
    · cases n with
      | zero => simp at hm; omega
      | succ n =>
        obtain ⟨r, S1, e, _, _, t1, s1⟩ := take_ok (m := 1000000) h (by decide) (by decide)
        obtain ⟨f', z', S2, e2, t2, s2⟩ := large_loop n j S1 (fnd * 1000000 + r) (sz * 1000000) t1 (by omega) (by rw [Int.pow_succ] at hm; rw [Int.mul_assoc, Int.mul_comm 1000000]; exact hm) (by omega)
        refine ⟨f', z', S2, ?_, t2, s1.trans s2⟩
        rw [← e2]
        simp [lc__law_large_1, c, lb__law_large_1, mul_r, e]
    · exact ⟨fnd, sz, S, by simp [lc__law_large_1, c], h, .refl⟩
theorem large_ok {S : Sto} {t k : Nat} {m : Int} (h : Tp S t k) (hm : 0 < m) (hm2 : m < 2 ^ 200) : ∃ r S', f__law_large [.lst t, .int m] S = .ok (.int r) S' ∧ 0 ≤ r ∧ r < m ∧ Tp S' t k ∧ Sm S S' t k := by
  obtain ⟨f', z', S', e, t1, s1⟩ := large_loop (m := m) 40 1000 S 0 1 h (by decide) (by have : (2 : Int) ^ 200 ≤ 1 * 1000000 ^ 40 := (by decide); omega) (by decide)
  refine ⟨f' % m, S', ?_, Int.emod_nonneg _ (by omega), Int.emod_lt_of_pos _ hm, t1, s1⟩
  simp [f__law_large, fnB, b__law_large, e, mod_ii hm]
theorem at3 {α : Type} {a b c : α} {r : Int} (h0 : 0 ≤ r) (h : r < 3) : ∃ x, atI [a, b, c] r = some x ∧ (x = a ∨ x = b ∨ x = c) := by
  rcases (by omega : r = 0 ∨ r = 1 ∨ r = 2) with rfl | rfl | rfl
  · exact ⟨a, rfl, .inl rfl⟩
  · exact ⟨b, rfl, .inr (.inl rfl)⟩
  · exact ⟨c, rfl, .inr (.inr rfl)⟩
theorem at4 {α : Type} {a b c d : α} {r : Int} (h0 : 0 ≤ r) (h : r < 4) : ∃ x, atI [a, b, c, d] r = some x ∧ (x = a ∨ x = b ∨ x = c ∨ x = d) := by
  rcases (by omega : r = 0 ∨ r = 1 ∨ r = 2 ∨ r = 3) with rfl | rfl | rfl | rfl
  · exact ⟨a, rfl, .inl rfl⟩
  · exact ⟨b, rfl, .inr (.inl rfl)⟩
  · exact ⟨c, rfl, .inr (.inr (.inl rfl))⟩
  · exact ⟨d, rfl, .inr (.inr (.inr rfl))⟩
theorem pick {S S1 : Sto} {t k : Nat} {xs : List D} {r : Int} {x : D} (s : Sm (S ++ [⟨false, xs⟩]) S1 t k) (h : t < S.length ∧ k < S.length) (e : atI xs r = some x) : DL.getD (.lst S.length) (.int r) S1 = .ok x S1 := by
  refine get_l (c := ⟨false, xs⟩) ?_ e
  rw [s.get _ (by omega) (by omega), List.getElem?_append_right (Nat.le_refl _)]
  simp
def insAt (ds : List Int) (i : Int) (d : Int) : List Int := ds.take (min i.toNat ds.length) ++ d :: ds.drop (min i.toNat ds.length)
theorem ins_ok {S : Sto} {q : Nat} {ds : List Int} {i d : Int} (e : S[q]? = some ⟨false, ds.map D.int⟩) (h0 : 0 ≤ i) (h1 : i ≤ 1000000) (hl : ds.length < 1000000) : insD (.lst q) [.int i, .int d] S = .ok .non (S.set q ⟨false, (insAt ds i d).map D.int⟩) := by
  simp only [insD, e]
  simp [h0, h1, hl, insAt]
theorem insAt_len {ds : List Int} {i d : Int} : (insAt ds i d).length = ds.length + 1 := by
  simp [insAt]; omega
theorem insAt_mem {ds : List Int} {i d x : Int} (h : x ∈ insAt ds i d) : x = d ∨ x ∈ ds := by
  unfold insAt at h
  rcases List.mem_append.mp h with h | h
  · exact .inr (List.mem_of_mem_take h)
  · rcases List.mem_cons.mp h with h | h
    · exact .inl h
    · exact .inr (List.mem_of_mem_drop h)
theorem days_loop {t k q : Nat} {size scale even wide : Int} {g7 : Option D} (he : even = 0 ∨ even = 1) (hw : 0 ≤ wide) (hw2 : wide < 10 ^ 15) (hs : size ≤ 60) (hq1 : q ≠ t) (hq2 : q ≠ k) : ∀ (n j : Nat) (S : Sto) (ds : List Int) (g6 : Option D), Tp S t k → S[q]? = some ⟨false, ds.map D.int⟩ → (∀ d ∈ ds, -wide ≤ d ∧ d ≤ wide) → (ds.length : Int) ≤ size → size - ds.length ≤ n → n < j →
    ∃ (ds' : List Int) (g6' : Option D) (S' : Sto), whN lc__law_days_1 lb__law_days_1 j [some (.lst t), some (.int size), some (.int scale), some (.int even), some (.int wide), some (.lst q), g6, g7] S = .nx [some (.lst t), some (.int size), some (.int scale), some (.int even), some (.int wide), some (.lst q), g6', g7] S' ∧ Tp S' t k ∧ S'[q]? = some ⟨false, ds'.map D.int⟩ ∧ (∀ d ∈ ds', -wide ≤ d ∧ d ≤ wide) ∧ (ds'.length : Int) = size
  | n, 0, S, ds, g6, _, _, _, _, _, h => absurd h (Nat.not_lt_zero _)
  | n, j + 1, S, ds, g6, h, e, hd, hl, hn, hj => by
    rw [whN_succ]
    have ln : lenD [.lst q] S = .ok (.int ds.length) S := by rw [len_l e]; simp
    by_cases c : (ds.length : Int) < size
    · cases n with
      | zero => omega
      | succ n =>
        obtain ⟨r, S1, e1, r0, r1, t1, s1⟩ := large_ok (m := 2 * wide + 1) h (by omega) (by omega)
        have q1 : S1[q]? = some ⟨false, ds.map D.int⟩ := (s1.get q hq1 hq2).trans e
        have ln1 : lenD [.lst q] S1 = .ok (.int ds.length) S1 := by rw [len_l q1]; simp
        have il1 : isLst (.lst q) S1 = true := by simp only [isLst, q1]
        obtain ⟨a, S2, e2, a0, a1, t2, s2⟩ := take_ok (m := ds.length + 1) t1 (by omega) (by omega)
        have q2 : S2[q]? = some ⟨false, ds.map D.int⟩ := (s2.get q hq1 hq2).trans q1
        have i2 := ins_ok (d := r - wide) q2 a0 (by omega) (by omega)
        have lq : q < S2.length := (List.getElem?_eq_some_iff.mp q2).1
        have q3 : (S2.set q ⟨false, (insAt ds a (r - wide)).map D.int⟩)[q]? = some ⟨false, (insAt ds a (r - wide)).map D.int⟩ := List.getElem?_set_self lq
        have t3 := t2.set (c := ⟨false, (insAt ds a (r - wide)).map D.int⟩) hq1 hq2
        generalize hS3 : S2.set q ⟨false, (insAt ds a (r - wide)).map D.int⟩ = S3 at *
        have l3 : (insAt ds a (r - wide)).length = ds.length + 1 := insAt_len
        have m3 : ∀ d ∈ insAt ds a (r - wide), -wide ≤ d ∧ d ≤ wide := fun d hx => by
          rcases insAt_mem hx with rfl | hx
          · omega
          · exact hd d hx
        generalize hds : insAt ds a (r - wide) = ds3 at *
        have ln3 : lenD [.lst q] S3 = .ok (.int ds3.length) S3 := by rw [len_l q3]; simp
        have il3 : isLst (.lst q) S3 = true := by simp only [isLst, q3]
        by_cases c2 : even = 1 ∧ (ds3.length : Int) < size
        · obtain ⟨c2, c3⟩ := c2
          obtain ⟨b, S4, e4, b0, b1', t4, s4⟩ := take_ok (m := ds3.length + 1) t3 (by omega) (by omega)
          have q4 : S4[q]? = some ⟨false, ds3.map D.int⟩ := (s4.get q hq1 hq2).trans q3
          have i4 := fun d => ins_ok (d := d) q4 b0 (by omega) (by omega)
          have lq4 : q < S4.length := (List.getElem?_eq_some_iff.mp q4).1
          obtain ⟨ds', g6', S', w1, w2, w3, w4, w5⟩ := days_loop he hw hw2 hs hq1 hq2 n j (S4.set q ⟨false, (insAt ds3 b (0 - (r - wide))).map D.int⟩) (insAt ds3 b (0 - (r - wide))) (some (.int (r - wide))) (t4.set hq1 hq2) (List.getElem?_set_self lq4) (fun d hx => by
            rcases insAt_mem hx with rfl | hx
            · omega
            · exact m3 d hx) (by rw [insAt_len]; omega) (by rw [insAt_len]; omega) (by omega)
          refine ⟨ds', g6', S', ?_, w2, w3, w4, w5⟩
          rw [← w1]
          simp [lc__law_days_1, lb__law_days_1, ln, c, e1, ln1, il1, e2, i2, ln3, il3, c2, c3, e4, i4, mul_l]
        · obtain ⟨ds', g6', S', w1, w2, w3, w4, w5⟩ := days_loop he hw hw2 hs hq1 hq2 n j S3 ds3 (some (.int (r - wide))) t3 q3 m3 (by omega) (by omega) (by omega)
          refine ⟨ds', g6', S', ?_, w2, w3, w4, w5⟩
          rw [← w1]
          by_cases c3 : even = 1
          · have c4 : ¬ (ds3.length : Int) < size := fun z => c2 ⟨c3, z⟩
            simp [lc__law_days_1, lb__law_days_1, ln, c, e1, ln1, il1, e2, i2, ln3, il3, c3, c4, mul_l]
          · simp [lc__law_days_1, lb__law_days_1, ln, c, e1, ln1, il1, e2, i2, ln3, il3, c3, mul_l]
    · exact ⟨ds, g6, S, by simp [lc__law_days_1, ln, c], h, e, hd, by omega⟩
theorem tup_l {S : Sto} {q : Nat} {c : Cell} (e : S[q]? = some c) : tupD [.lst q] S = .ok (.tup c.xs) S := by
  simp only [tupD, e]
theorem days_ok {S : Sto} {t k : Nat} (h : Tp S t k) : ∃ (ds : List Int) (S' : Sto), f__law_days [.lst t] S = .ok (.tup (ds.map D.int)) S' ∧ Tp S' t k ∧ 1 ≤ ds.length ∧ ds.length ≤ 60 ∧ ∀ d ∈ ds, -1000000000000000 ≤ d ∧ d ≤ 1000000000000000 := by
  obtain ⟨r1, S1, e1, r10, r11, t1, s1⟩ := take_ok (m := 3) (h.app (c := ⟨false, [.int 3, .int 8, .int 60]⟩)) (by decide) (by decide)
  obtain ⟨v, p1, hv0, hv1⟩ : ∃ v : Int, DL.getD (.lst S.length) (.int r1) S1 = .ok (.int v) S1 ∧ 0 < v ∧ v ≤ 60 := by
    obtain ⟨x, a, hx⟩ := at3 (a := D.int 3) (b := D.int 8) (c := D.int 60) r10 r11
    have p := pick s1 h.lt a
    rcases hx with rfl | rfl | rfl
    · exact ⟨_, p, by decide, by decide⟩
    · exact ⟨_, p, by decide, by decide⟩
    · exact ⟨_, p, by decide, by decide⟩
  obtain ⟨r2, S2, e2, r20, r21, t2, s2⟩ := take_ok (m := v) t1 hv0 (by omega)
  obtain ⟨r3, S3, e3, r30, r31, t3, s3⟩ := take_ok (m := 3) (t2.app (c := ⟨false, [.int 10, .int 1000, .int 1000000000000000]⟩)) (by decide) (by decide)
  obtain ⟨sc, p3, hs0, hs1⟩ : ∃ v : Int, DL.getD (.lst S2.length) (.int r3) S3 = .ok (.int v) S3 ∧ 10 ≤ v ∧ v ≤ 1000000000000000 := by
    obtain ⟨x, a, hx⟩ := at3 (a := D.int 10) (b := D.int 1000) (c := D.int 1000000000000000) r30 r31
    have p := pick s3 t2.lt a
    rcases hx with rfl | rfl | rfl
    · exact ⟨_, p, by decide, by decide⟩
    · exact ⟨_, p, by decide, by decide⟩
    · exact ⟨_, p, by decide, by decide⟩
  obtain ⟨r4, S4, e4, r40, r41, t4, s4⟩ := take_ok (m := 2) t3 (by decide) (by decide)
  have lt4 := t4.lt
  obtain ⟨ds, g6, S5, w1, w2, w3, w4, w5⟩ := days_loop (t := t) (k := k) (q := S4.length) (size := 1 + r2) (scale := sc) (even := r4) (wide := sc - 1 - r4) (g7 := none) (by omega) (by omega) (by omega) (by omega) (by omega) (by omega) 60 1000 (S4 ++ [⟨false, []⟩]) [] none t4.app
    (by rw [List.getElem?_append_right (Nat.le_refl _)]; simp) (by intro d hd; cases hd) (by simp; omega) (by simp; omega) (by decide)
  by_cases c : r4 = 1
  · obtain ⟨r6, S6, e6, r60, r61, t6, s6⟩ := take_ok (m := 1 + r2) w2 (by omega) (by omega)
    have q6 : S6[S4.length]? = some ⟨false, ds.map D.int⟩ := (s6.get _ (by omega) (by omega)).trans w3
    have hlt : r6.toNat < ds.length := by omega
    have g6' : DL.getD (.lst S4.length) (.int r6) S6 = .ok (.int ds[r6.toNat]) S6 := get_l q6 (atI_nn r60 (by simp [hlt]))
    obtain ⟨r7, S7, e7, r70, r71, t7, s7⟩ := take_ok (m := 3) t6 (by decide) (by decide)
    have q7 : S7[S4.length]? = some ⟨false, ds.map D.int⟩ := (s7.get _ (by omega) (by omega)).trans q6
    have st := fun d => set_l (d := d) q7 r60 (by simp; omega)
    have lq : S4.length < S7.length := (List.getElem?_eq_some_iff.mp q7).1
    have q8 := fun c : Cell => (List.getElem?_set_self lq : (S7.set S4.length c)[S4.length]? = some c)
    refine ⟨ds.set r6.toNat (ds[r6.toNat] + r7 - 1), S7.set S4.length ⟨false, (ds.set r6.toNat (ds[r6.toNat] + r7 - 1)).map D.int⟩, ?_, t7.set (by omega) (by omega), by simp; omega, by simp; omega, fun d hd => ?_⟩
    · subst c
      simp [f__law_days, fnB, b__law_days, e1, p1, e2, e3, p3, e4, w1, e6, g6', e7, st, tup_l (q8 _), List.map_set]
    · rcases List.mem_or_eq_of_mem_set hd with hd | hd
      · have := w4 d hd; omega
      · have := w4 _ (List.getElem_mem hlt); omega
  · refine ⟨ds, S5, ?_, w2, by omega, by omega, fun d hd => by have := w4 d hd; omega⟩
    simp [f__law_days, fnB, b__law_days, e1, p1, e2, e3, p3, e4, w1, c, tup_l w3]
theorem for_inv {nxt : Nat → Sto → Option D} {g : Tg} {b : Sv} {l : List D} (I : Nat → Lc → Sto → Prop) (hn : ∀ k ρ S, I k ρ S → nxt k S = l[k]?) (hs : ∀ k d ρ S, l[k]? = some d → I k ρ S → ∃ ρ1 ρ2 S2, g d ρ = some ρ1 ∧ b ρ1 S = .nx ρ2 S2 ∧ I (k + 1) ρ2 S2) :
    ∀ (n k : Nat) (ρ : Lc) (S : Sto), k ≤ l.length → I k ρ S → l.length < n + k → ∃ ρ' S', forN nxt g b n k ρ S = .nx ρ' S' ∧ I l.length ρ' S'
  | 0, k, ρ, S, h1, _, h2 => by omega
  | n + 1, k, ρ, S, h1, hI, h2 => by
    show ∃ ρ' S', (match nxt k S with
      | none => OS.nx ρ S
      | some d => match g d ρ with
        | none => .bad
        | some ρ1 => match b ρ1 S with
          | .nx ρ2 S2 => forN nxt g b n (k + 1) ρ2 S2
          | .ct ρ2 S2 => forN nxt g b n (k + 1) ρ2 S2
          | .bk ρ2 S2 => .nx ρ2 S2
          | .rt d S2 => .rt d S2
          | .exc x ρ2 S2 => .exc x ρ2 S2
          | .bad => .bad) = .nx ρ' S' ∧ I l.length ρ' S'
    rw [hn k ρ S hI]
    cases z : l[k]? with
    | none =>
      have : k = l.length := by have := List.getElem?_eq_none_iff.mp z; omega
      subst this
      exact ⟨ρ, S, rfl, hI⟩
    | some d =>
      obtain ⟨ρ1, ρ2, S2, h3, h4, h5⟩ := hs k d ρ S z hI
      have hk : k < l.length := (List.getElem?_eq_some_iff.mp z).1
      obtain ⟨ρ', S', h6, h7⟩ := for_inv I hn hs n (k + 1) ρ2 S2 hk h5 (by omega)
      refine ⟨ρ', S', ?_, h7⟩
      simp only [h3, h4]
      exact h6
def srcT (l : List D) : Src := ⟨fun k _ => l[k]?, l.length + 1⟩
def srcL (i n : Nat) : Src := ⟨fun k S => (S[i]?).bind fun c => c.xs[k]?, n + 1⟩
theorem src_t {l : List D} {S : Sto} : srcOf (.tup l) S = .ok (srcT l) S := rfl
theorem src_l {i : Nat} {c : Cell} {S : Sto} (e : S[i]? = some c) : srcOf (.lst i) S = .ok (srcL i c.xs.length) S := by
  simp only [srcOf, e]
  rfl
theorem fuelT {l : List D} : l.length < (srcT l).fuel + 0 := Nat.lt_succ_self _
theorem of_map {l : List Int} {k : Nat} {d : D} (h : (l.map D.int)[k]? = some d) : ∃ i, d = .int i ∧ l[k]? = some i := by
  rw [List.getElem?_map] at h
  cases z : l[k]? with
  | none => rw [z] at h; cases h
  | some i => rw [z] at h; cases h; exact ⟨i, rfl, rfl⟩
theorem add_tt {a b : List D} {S : Sto} (h : a.length + b.length ≤ 1000000) : addD (.tup a) (.tup b) S = .ok (.tup (a ++ b)) S := by
  show (if a.length + b.length ≤ 1000000 then Out.ok (D.tup (a ++ b)) S else .bad) = _
  rw [if_pos h]
theorem need_ok {ds : List Int} {S : Sto} (hl : ds.length ≤ 60) : ∃ r, f__law_need [.tup (ds.map D.int)] S = .ok (.int r) S := by
  obtain ⟨ρ', S', e, u, n, g, e2, e3⟩ := for_inv (nxt := (srcT ((ds ++ ds).map D.int)).nxt) (g := gn 3) (b := lb__law_need_1) (l := (ds ++ ds).map D.int) (fun _ ρ S' => ∃ u n g, ρ = [some (.tup (ds.map D.int)), some (.int n), some (.int u), g] ∧ S' = S)
    (fun _ _ _ _ => rfl) (fun k d ρ S1 hd ⟨u, n, g, e1, e2⟩ => by
      obtain ⟨i, rfl, _⟩ := of_map hd
      subst e1 e2
      exact ⟨_, [some (.tup (ds.map D.int)), some (.int (max n (0 - min 0 (u + i)))), some (.int (min 0 (u + i))), some (.int i)], _, rfl, by simp [lb__law_need_1], _, _, _, rfl, rfl⟩) (srcT ((ds ++ ds).map D.int)).fuel 0 [some (.tup (ds.map D.int)), some (.int 0), some (.int 0), none] S (Nat.zero_le _) ⟨0, 0, none, rfl, rfl⟩ fuelT
  subst e2 e3
  refine ⟨n, ?_⟩
  have ad : addD (.tup (ds.map D.int)) (.tup (ds.map D.int)) S' = .ok (.tup ((ds ++ ds).map D.int)) S' := by rw [add_tt (by simp; omega), List.map_append]
  simp only [f__law_need, fnB, b__law_need]
  simp [ad, src_t, e, -List.map_append]
theorem brim_ok {S : Sto} {t k : Nat} {ds : List Int} (h : Tp S t k) (hl : ds.length ≤ 60) : ∃ (b : Int) (S' : Sto), f__law_brim [.lst t, .tup (ds.map D.int)] S = .ok (.int b) S' ∧ Tp S' t k ∧ 0 ≤ b ∧ b ≤ 1000000000000000 := by
  obtain ⟨nd, en⟩ := need_ok (S := S) hl
  obtain ⟨r1, S1, e1, r10, r11, t1, s1⟩ := take_ok (m := 3) h (by decide) (by decide)
  obtain ⟨r2, S2, e2, r20, r21, t2, s2⟩ := take_ok (m := 2) t1 (by decide) (by decide)
  obtain ⟨nr, hnr⟩ : ∃ x, x = nd + r1 - 1 := ⟨_, rfl⟩
  have sb : subD (.int (nd + r1)) (.int 1) S1 = .ok (.int nr) S1 := by rw [hnr]; rfl
  by_cases c : r2 = 0 ∧ 0 ≤ nr ∧ nr ≤ 1000000000000000
  · refine ⟨nr, S2, ?_, t2, c.2.1, c.2.2⟩
    simp [f__law_brim, fnB, b__law_brim, en, e1, sb, e2, c.1, c.2.1, c.2.2, -sub_ii]
  · obtain ⟨r3, S3, e3, r30, r31, t3, s3⟩ := take_ok (m := 4) (t2.app (c := ⟨false, [.int 1, .int 20, .int 2000, .int 1000000000000001]⟩)) (by decide) (by decide)
    obtain ⟨v, p3, hv0, hv1⟩ : ∃ v : Int, DL.getD (.lst S2.length) (.int r3) S3 = .ok (.int v) S3 ∧ 1 ≤ v ∧ v ≤ 1000000000000001 := by
      obtain ⟨x, a, hx⟩ := at4 (a := D.int 1) (b := D.int 20) (c := D.int 2000) (d := D.int 1000000000000001) r30 r31
      have p := pick s3 t2.lt a
      rcases hx with rfl | rfl | rfl | rfl
      · exact ⟨_, p, by decide, by decide⟩
      · exact ⟨_, p, by decide, by decide⟩
      · exact ⟨_, p, by decide, by decide⟩
      · exact ⟨_, p, by decide, by decide⟩
    obtain ⟨b, S4, e4, b0, b1', t4, s4⟩ := large_ok (m := v) t3 (by omega) (by omega)
    refine ⟨b, S4, ?_, t4, b0, by omega⟩
    have st : sif (ta (tb (o2 eqD (cl 2 (noExc f__law_take) (ac (vr 0) (ac (cn (.int 2)) an))) (cn (.int 0)))) (tb (ch leD leD (cn (.int 0)) (vr 2) (o2 powD (cn (.int 10)) (cn (.int 15)))))) (sret (vr 2)) DL.skip [some (.lst t), some (.tup (ds.map D.int)), some (.int (nr))] S1 = .nx [some (.lst t), some (.tup (ds.map D.int)), some (.int (nr))] S2 := by
      by_cases c1 : r2 = 0
      · by_cases c2 : 0 ≤ nr
        · have c3 : ¬ nr ≤ 1000000000000000 := fun z => c ⟨c1, c2, z⟩
          simp [e2, c1, c2, c3]
        · simp [e2, c1, c2]
      · simp [e2, c1]
    simp only [f__law_brim, fnB, b__law_brim]
    rw [sq_ap]
    have s0 : sa (o2 subD (o2 addD (cl 1 (noExc f__law_need) (ac (vr 1) an)) (cl 2 (noExc f__law_take) (ac (vr 0) (ac (cn (.int 3)) an)))) (cn (.int 1))) (gn 2) ([D.lst t, D.tup (ds.map D.int)].map some ++ List.replicate (3 - [D.lst t, D.tup (ds.map D.int)].length) none) S = .nx [some (.lst t), some (.tup (ds.map D.int)), some (.int (nr))] S1 := by
      simp [en, e1, sb, -sub_ii]
    rw [s0]
    show (match sq _ _ [some (.lst t), some (.tup (ds.map D.int)), some (.int (nr))] S1 with
      | .rt d S' => Out.ok d S'
      | .nx _ S' => .ok .non S'
      | .exc x _ S' => .exc x S'
      | _ => .bad) = _
    rw [sq_ap, st]
    simp [e3, p3, e4]
def enc : R → D
  | .dry k => .tup [.str "dry", .int k]
  | .lev l => .tup [.str "level", .int l]
theorem forN_some {nxt : Nat → Sto → Option D} {g : Tg} {b : Sv} {n k : Nat} {ρ ρ1 : Lc} {S : Sto} {d : D} (h : nxt k S = some d) (h2 : g d ρ = some ρ1) : forN nxt g b (n + 1) k ρ S = match b ρ1 S with
          | .nx ρ2 S2 => forN nxt g b n (k + 1) ρ2 S2
          | .ct ρ2 S2 => forN nxt g b n (k + 1) ρ2 S2
          | .bk ρ2 S2 => .nx ρ2 S2
          | .rt d S2 => .rt d S2
          | .exc x ρ2 S2 => .exc x ρ2 S2
          | .bad => .bad := by
  conv => lhs; unfold forN
  (simp only [h, h2]) <;> rfl
theorem forN_none {nxt : Nat → Sto → Option D} {g : Tg} {b : Sv} {n k : Nat} {ρ : Lc} {S : Sto} (h : nxt k S = none) : forN nxt g b (n + 1) k ρ S = .nx ρ S := by
  conv => lhs; unfold forN
  simp only [h]
theorem fin_nx {f g : Sv} {ρ ρ' : Lc} {S S' : Sto} (h : f ρ S = .nx ρ' S') : fin (sq f g ρ S) = fin (g ρ' S') := by rw [sq_ap, h]
theorem fin_ret {f g : Sv} {ρ : Lc} {S S' : Sto} {d : D} (h : f ρ S = .rt d S') : fin (sq f g ρ S) = .ok d S' := by rw [sq_ap, h]; rfl
theorem day_at {ds : List Int} (hne : ds ≠ []) (k : Nat) {S : Sto} : DL.getD (.tup (ds.map D.int)) (.int ((k : Int) % (ds.length : Int))) S = .ok (.int (ds.getD (k % ds.length) 0)) S := by
  have hL : 0 < ds.length := by cases ds with | nil => exact absurd rfl hne | cons _ _ => simp
  have hk : k % ds.length < ds.length := Nat.mod_lt _ hL
  have e : ((k : Int) % (ds.length : Int)).toNat = k % ds.length := by rw [← Int.natCast_emod]; exact Int.toNat_natCast _
  refine get_t (atI_nn (Int.emod_nonneg _ (by omega)) ?_)
  rw [e, List.getElem?_map]
  simp [hk]
theorem sl_take {l : List D} {n : Nat} {S : Sto} : slD2 (.tup l) none (some (n : Int)) S = .ok (.tup (l.take n)) S := by
  show (if HT.sIx l.length 0 none = 0 ∧ HT.sIx l.length l.length (some (n : Int)) = l.length then Out.ok (D.tup l) S else .ok (.tup (DL.cutD l none (some (n : Int)))) S) = _
  rw [HT.sIx_none, HT.sIx_nat]
  by_cases c : min n l.length = l.length
  · rw [if_pos ⟨rfl, c⟩, List.take_of_length_le (by omega)]
  · rw [if_neg (fun z => c z.2)]
    congr 2
    unfold DL.cutD
    rw [HT.sIx_none, HT.sIx_nat, List.drop_zero, Nat.sub_zero, show min n l.length = n by omega]
theorem sl_drop1 {l : List D} {S : Sto} : slD2 (.tup l) (some 1) none S = .ok (.tup l.tail) S := by
  have e : HT.sIx l.length 0 (some 1) = min 1 l.length := HT.sIx_nat l.length 0 1
  show (if HT.sIx l.length 0 (some 1) = 0 ∧ HT.sIx l.length l.length none = l.length then Out.ok (D.tup l) S else .ok (.tup (DL.cutD l (some 1) none)) S) = _
  rw [e, HT.sIx_none]
  by_cases c : min 1 l.length = 0
  · rw [if_pos ⟨c, rfl⟩]
    have : l = [] := List.length_eq_zero_iff.mp (by omega)
    subst this
    rfl
  · rw [if_neg (fun z => c z.1)]
    congr 2
    unfold DL.cutD
    rw [e, HT.sIx_none, show min 1 l.length = 1 by omega, List.drop_one, List.take_of_length_le (by simp)]
def pre (ds : List Int) (k : Nat) : Int := (ds.take (k + 1)).sum
theorem sum_bd : ∀ (ds : List Int), (∀ d ∈ ds, -1000000000000000 ≤ d ∧ d ≤ 1000000000000000) → -(ds.length * 1000000000000000) ≤ ds.sum ∧ ds.sum ≤ ds.length * 1000000000000000
  | [], _ => by simp
  | d :: r, h => by
    have := sum_bd r fun x hx => h x (List.mem_cons_of_mem _ hx)
    have := h d List.mem_cons_self
    rw [List.sum_cons, List.length_cons]
    omega
theorem dd {S : Sto} : eqD (.str "dry") (.str "dry") S = .ok (.bl true) S := by rw [eq_ss (by decide +kernel) (by decide +kernel)]; rfl
theorem ll {S : Sto} : eqD (.str "level") (.str "level") S = .ok (.bl true) S := by rw [eq_ss (by decide +kernel) (by decide +kernel)]; rfl
theorem ld {S : Sto} : eqD (.str "level") (.str "dry") S = .ok (.bl false) S := by rw [eq_ss (by decide +kernel) (by decide +kernel)]; rfl
theorem g0 {a b : D} {S : Sto} : DL.getD (.tup [a, b]) (.int 0) S = .ok a S := get_t rfl
theorem g1 {a b : D} {S : Sto} : DL.getD (.tup [a, b]) (.int 1) S = .ok b S := get_t rfl
theorem even_nn {ds : List Int} {mn l1 m : Int} (hm : 0 ≤ m) : 0 ≤ even ds mn l1 m := by
  unfold even
  split
  · omega
  · split
    · exact hm
    · have : 0 ≤ (l1 - start ds mn) / (-ds.sum) := Int.ediv_nonneg (by omega) (by omega)
      omega
theorem sl_l {S : Sto} {q : Nat} {c : Cell} {lo hi : Option Int} (e : S[q]? = some c) : slD2 (.lst q) lo hi S = .ok (.lst S.length) (S ++ [⟨false, DL.cutD c.xs lo hi⟩]) := by
  simp only [slD2, e]
theorem list_l {S : Sto} {q : Nat} {c : Cell} (e : S[q]? = some c) : listD [.lst q] S = .ok (.lst S.length) (S ++ [⟨false, c.xs⟩]) := by
  simp only [listD, e]
theorem cut_map {ns : List Int} {lo hi : Option Int} : ∃ ys : List Int, DL.cutD (ns.map D.int) lo hi = ys.map D.int :=
  ⟨(ns.drop (HT.sIx (ns.map D.int).length 0 lo)).take (HT.sIx (ns.map D.int).length (ns.map D.int).length hi - HT.sIx (ns.map D.int).length 0 lo), by unfold DL.cutD; rw [List.map_take, List.map_drop]⟩
theorem app_at {S : Sto} {c : Cell} : (S ++ [c])[S.length]? = some c := by rw [List.getElem?_append_right (Nat.le_refl _)]; simp
theorem app_old {S : Sto} {c d : Cell} {q : Nat} (e : S[q]? = some d) : (S ++ [c])[q]? = some d := by
  rw [List.getElem?_append_left (List.getElem?_eq_some_iff.mp e).1]; exact e
theorem tape_ok {S : Sto} {q : Nat} {fz : Bool} {ns : List Int} (e : S[q]? = some ⟨fz, ns.map D.int⟩) : ∃ (t k : Nat) (S' : Sto), f__law_tape [.lst q] S = .ok (.lst t) S' ∧ Tp S' t k := by
  obtain ⟨ys, hy⟩ := cut_map (ns := ns) (lo := none) (hi := some 63)
  have s1 : slD2 (.lst q) none (some 63) S = .ok (.lst S.length) (S ++ [⟨false, ys.map D.int⟩]) := by rw [sl_l e, hy]
  have q1 : (S ++ [⟨false, ys.map D.int⟩])[S.length]? = some (⟨false, ys.map D.int⟩ : Cell) := app_at
  have e1 := app_old (c := ⟨false, ys.map D.int⟩) e
  generalize hS1 : S ++ [⟨false, ys.map D.int⟩] = S1 at *
  have hsrc : srcOf (.lst S.length) S1 = .ok (srcL S.length (ys.map D.int).length) S1 := src_l q1
  obtain ⟨ρ', S', ef, sd, g, e2, e3⟩ := for_inv (nxt := (srcL S.length (ys.map D.int).length).nxt) (g := gn 2) (b := lb__law_tape_1) (l := ys.map D.int) (fun k ρ S' => ∃ sd g, ρ = [some (.lst q), some (.int sd), g] ∧ S' = S1)
    (fun k ρ S2 ⟨_, _, _, h⟩ => by
      subst h
      show (S2[S.length]?).bind (fun c => c.xs[k]?) = _
      rw [q1]; rfl) (fun k d ρ S2 hd ⟨sd, g, h1, h2⟩ => by
      obtain ⟨i, rfl, _⟩ := of_map hd
      subst h1 h2
      exact ⟨_, [some (.lst q), some (.int ((sd * 69621 + i) % 2147483647)), some (.int i)], _, rfl, by simp [lb__law_tape_1, mul_r, mod_ii], _, _, rfl, rfl⟩) (srcL S.length (ys.map D.int).length).fuel 0 [some (.lst q), some (.int 0), none] S1 (Nat.zero_le _) ⟨0, none, rfl, rfl⟩ (Nat.lt_succ_self _)
  subst e2 e3
  have s2 : slD2 (.lst q) none (some 63) S' = .ok (.lst S'.length) (S' ++ [⟨false, ys.map D.int⟩]) := by rw [sl_l e1, hy]
  have q2 : (S' ++ [⟨false, ys.map D.int⟩])[S'.length]? = some (⟨false, ys.map D.int⟩ : Cell) := app_at
  generalize hS2 : S' ++ [⟨false, ys.map D.int⟩] = S2 at *
  have s3 := list_l q2
  have q3 : (S2 ++ [⟨false, ys.map D.int⟩])[S2.length]? = some (⟨false, ys.map D.int⟩ : Cell) := app_at
  have l3 : (S2 ++ [(⟨false, ys.map D.int⟩ : Cell)]).length = S2.length + 1 := by simp
  have s3 : listD [.lst S'.length] S2 = .ok (.lst S2.length) (S2 ++ [⟨false, ys.map D.int⟩]) := s3
  generalize hS3 : S2 ++ [⟨false, ys.map D.int⟩] = S3 at *
  refine ⟨S3.length, S2.length, S3 ++ [⟨false, [.lst S2.length, .int 0, .int sd, .int 0]⟩], ?_, ⟨⟨0, sd, 0, ys, app_at, app_old q3⟩, by omega⟩⟩
  refine (fnB_ap (m := 3) (b := b__law_tape)).trans ?_
  show fin (b__law_tape [some (.lst q), none, none] S) = _
  unfold b__law_tape
  refine (fin_nx (ρ' := [some (.lst q), some (.int 0), none]) (S' := S) (by simp)).trans ?_
  refine (fin_nx (ρ' := [some (.lst q), some (.int sd), g]) (S' := S') ?_).trans ?_
  · simp [s1, hsrc, -List.length_map]
    exact ef
  · simp [s2, s3]
theorem rep_ints {K : PySem.W.Frag} {mp : List Addr} {H : Hp} : ∀ ns : List Int, RepL K mp H (ns.map D.int) (ns.map V.int)
  | [] => RepL.nil
  | a :: r => RepL.cons rfl (rep_ints r)
end Law
namespace WM
open PySem
theorem walk_bd {b : Int} {ds : List Int} : ∀ (n k : Nat) (l x : Int), 0 ≤ l → l ≤ b → walk b ds n k l = .lev x → 0 ≤ x ∧ x ≤ b
  | 0, k, l, x, h0, h1, e => by cases e; exact ⟨h0, h1⟩
  | n + 1, k, l, x, h0, h1, e => by
    simp only [walk] at e
    split at e
    · cases e
    · rename_i c
      exact walk_bd n (k + 1) _ x (by omega) stp_le e
theorem walk_dry {b : Int} {ds : List Int} : ∀ (n k : Nat) (l : Int) (d : Nat), walk b ds n k l = .dry d → ∃ i x, d = k + i ∧ i < n ∧ walk b ds i k l = .lev x ∧ stp b x (ds.getD (d % ds.length) 0) < 0
  | 0, k, l, d, e => by cases e
  | n + 1, k, l, d, e => by
    simp only [walk] at e
    split at e
    · rename_i c
      cases e
      exact ⟨0, l, rfl, by omega, rfl, c⟩
    · rename_i c
      obtain ⟨i, x, h1, h2, h3, h4⟩ := walk_dry n (k + 1) _ d e
      refine ⟨i + 1, x, by omega, by omega, ?_, h4⟩
      simp only [walk]
      rw [if_neg c]
      exact h3
def R.back (m : Nat) : R → R
  | .dry d => .dry (d - m)
  | .lev l => .lev l
def rot (ds : List Int) (m : Nat) : List Int := ds.drop (m % ds.length) ++ ds.take (m % ds.length)
theorem rot_len {ds : List Int} {m : Nat} : (rot ds m).length = ds.length := by
  unfold rot; simp; omega
theorem rot_at {ds : List Int} (hne : ds ≠ []) (m j : Nat) : (rot ds m).getD (j % (rot ds m).length) 0 = ds.getD ((m + j) % ds.length) 0 := by
  have hL : 0 < ds.length := by cases ds with | nil => exact absurd rfl hne | cons _ _ => simp
  rw [rot_len, Nat.add_mod]
  have hi : j % ds.length < ds.length := Nat.mod_lt _ hL
  have hs : m % ds.length < ds.length := Nat.mod_lt _ hL
  unfold rot
  generalize j % ds.length = i at *
  generalize m % ds.length = s at *
  simp only [List.getD_eq_getElem?_getD]
  by_cases c : i < ds.length - s
  · rw [List.getElem?_append_left (by simp; omega), List.getElem?_drop, Nat.mod_eq_of_lt (by omega)]
  · rw [List.getElem?_append_right (by simp; omega)]
    have e : (s + i) % ds.length = s + i - ds.length := by
      rw [Nat.mod_eq_sub_mod (by omega), Nat.mod_eq_of_lt (by omega)]
    rw [e, List.getElem?_take_of_lt (by simp; omega)]
    congr 2
    simp
    omega
theorem walk_rot {b : Int} {ds : List Int} (hne : ds ≠ []) (m : Nat) : ∀ (n j : Nat) (x : Int), walk b (rot ds m) n j x = (walk b ds n (m + j) x).back m
  | 0, j, x => rfl
  | n + 1, j, x => by
    simp only [walk, rot_at hne]
    split
    · show _ = R.dry _
      rw [Nat.add_sub_cancel_left]
    · exact walk_rot hne m n (j + 1) _
end WM
namespace Law
open PySem PySem.Spec PyProof.Rows L2 DL WM
theorem sl_dropn {l : List D} {n : Nat} {S : Sto} : slD2 (.tup l) (some (n : Int)) none S = .ok (.tup (l.drop n)) S := by
  show (if HT.sIx l.length 0 (some (n : Int)) = 0 ∧ HT.sIx l.length l.length none = l.length then Out.ok (D.tup l) S else .ok (.tup (DL.cutD l (some (n : Int)) none)) S) = _
  rw [HT.sIx_none, HT.sIx_nat]
  by_cases c : min n l.length = 0
  · rw [if_pos ⟨c, rfl⟩]
    rcases (by omega : n = 0 ∨ l.length = 0) with h | h
    · rw [h]; rfl
    · have : l = [] := List.length_eq_zero_iff.mp h
      subst this
      simp
  · rw [if_neg (fun z => c z.1)]
    congr 2
    unfold DL.cutD
    rw [HT.sIx_none, HT.sIx_nat]
    by_cases c2 : n ≤ l.length
    · rw [show min n l.length = n by omega, List.take_of_length_le (by simp)]
    · rw [show min n l.length = l.length by omega, List.drop_of_length_le (Nat.le_refl _), List.drop_of_length_le (by omega)]; simp
theorem num_ok {i : Int} {S : Sto} : f__law_number [.int i] S = .ok (.bl true) S := by
  simp [f__law_number, fnB, b__law_number, isD, isT, tyN]
theorem dl {S : Sto} : eqD (.str "dry") (.str "level") S = .ok (.bl false) S := by rw [eq_ss (by decide +kernel) (by decide +kernel)]; rfl
def isDry (r : R) (m : Int) : Bool := match r with
  | .dry d => decide ((d : Int) < m)
  | .lev _ => false
def isLev (r : R) (b : Int) : Bool := match r with
  | .dry _ => false
  | .lev x => decide (0 ≤ x ∧ x ≤ b)
theorem pow_4 {S : Sto} : powD (.int 10) (.int 4) S = .ok (.int 10000) S := pow_nn (n := 4) (by decide) (by decide)
theorem pow_17 {S : Sto} : powD (.int 10) (.int 17) S = .ok (.int 100000000000000000) S := pow_nn (n := 17) (by decide) (by decide)
theorem pow_29 {S : Sto} : powD (.int 10) (.int 29) S = .ok (.int 100000000000000000000000000000) S := pow_nn (n := 29) (by decide) (by decide)
theorem mul_9 {S : Sto} : mulD (.int 9) (.int 100000000000000000000000000000) S = .ok (.int 900000000000000000000000000000) S := mul_l (by decide) (by decide)
theorem pick4 {S : Sto} {t k : Nat} {a b c d : Int} (h : Tp S t k) (ha : 0 < a ∧ a < 2 ^ 200) (hb : 0 < b ∧ b < 2 ^ 200) (hc : 0 < c ∧ c < 2 ^ 200) (hd : 0 < d ∧ d < 2 ^ 200) : ∃ (r v n : Int) (S1 S2 : Sto), f__law_take [.lst t, .int 4] (S ++ [⟨false, [.int a, .int b, .int c, .int d]⟩]) = .ok (.int r) S1 ∧
    DL.getD (.lst S.length) (.int r) S1 = .ok (.int v) S1 ∧ f__law_large [.lst t, .int v] S1 = .ok (.int n) S2 ∧ 0 ≤ n ∧ Tp S2 t k := by
  obtain ⟨r, S1, e1, r0, r1, t1, s1⟩ := take_ok (m := 4) (h.app (c := ⟨false, [.int a, .int b, .int c, .int d]⟩)) (by decide) (by decide)
  obtain ⟨v, p1, hv0, hv1⟩ : ∃ v : Int, DL.getD (.lst S.length) (.int r) S1 = .ok (.int v) S1 ∧ 0 < v ∧ v < 2 ^ 200 := by
    obtain ⟨x, q, hx⟩ := at4 (a := D.int a) (b := D.int b) (c := D.int c) (d := D.int d) r0 r1
    have p := pick s1 h.lt q
    rcases hx with rfl | rfl | rfl | rfl
    · exact ⟨_, p, ha⟩
    · exact ⟨_, p, hb⟩
    · exact ⟨_, p, hc⟩
    · exact ⟨_, p, hd⟩
  obtain ⟨n, S2, e2, n0, n1, t2, s2⟩ := large_ok (m := v) t1 hv0 hv1
  exact ⟨r, v, n, S1, S2, e1, p1, e2, n0, t2⟩
theorem rot_b {ds : List Int} {m : Nat} {P : Int → Prop} (h : ∀ d ∈ ds, P d) : ∀ d ∈ rot ds m, P d := fun d hd => by
  rcases List.mem_append.mp hd with hd | hd
  · exact h d (List.mem_of_mem_drop hd)
  · exact h d (List.mem_of_mem_take hd)
end Law

set_option Elab.async false
set_option linter.all false
set_option maxRecDepth 100000
namespace WM
def seg (ds : List Int) (f r : Nat) : Int := (((ds ++ ds).drop f).take r).sum
def str (ds : List Int) (f m : Nat) : Int := ((m / ds.length : Nat) : Int) * ds.sum + seg ds f (m % ds.length)
theorem twice_at {ds : List Int} {i : Nat} (h : i < 2 * ds.length) : (ds ++ ds)[i]? = some (ds.getD (i % ds.length) 0) := by
  by_cases c : i < ds.length
  · rw [List.getElem?_append_left c, Nat.mod_eq_of_lt c]; simp [c]
  · rw [List.getElem?_append_right (by omega), Nat.mod_eq_sub_mod (by omega), Nat.mod_eq_of_lt (by omega)]
    simp [show i - ds.length < ds.length by omega]
theorem seg_succ {ds : List Int} {f r : Nat} (h : f + r < 2 * ds.length) : seg ds f (r + 1) = seg ds f r + ds.getD ((f + r) % ds.length) 0 := by
  unfold seg
  rw [List.take_add_one, List.getElem?_drop, twice_at h]
  simp
end WM
namespace Law
open PySem PySem.Spec PyProof.Rows L2 DL WM
theorem sl_ab {l : List D} {a b : Nat} {S : Sto} (h1 : a ≤ b) (h2 : b ≤ l.length) : slD2 (.tup l) (some (a : Int)) (some (b : Int)) S = .ok (.tup ((l.drop a).take (b - a))) S := by
  show (if HT.sIx l.length 0 (some (a : Int)) = 0 ∧ HT.sIx l.length l.length (some (b : Int)) = l.length then Out.ok (D.tup l) S else .ok (.tup (DL.cutD l (some (a : Int)) (some (b : Int)))) S) = _
  rw [HT.sIx_nat, HT.sIx_nat]
  by_cases c : min a l.length = 0 ∧ min b l.length = l.length
  · rw [if_pos c]
    rcases (by omega : a = 0 ∨ l.length = 0) with h | h
    · subst h
      rw [List.drop_zero, List.take_of_length_le (by omega)]
    · have : l = [] := List.length_eq_zero_iff.mp h
      subst this
      simp
  · rw [if_neg c]
    unfold DL.cutD
    rw [HT.sIx_nat, HT.sIx_nat, show min a l.length = a by omega, show min b l.length = b by omega]
theorem stretch_ok {ds : List Int} {f m : Nat} {S : Sto} (hne : ds ≠ []) (hl : ds.length ≤ 60) (hd : ∀ d ∈ ds, -1000000000000000 ≤ d ∧ d ≤ 1000000000000000) (hf : f < ds.length) : f_stretch_sum [.tup (ds.map D.int), .int f, .int m] S = .ok (.int (str ds f m)) S := by
  have hL : 0 < ds.length := by omega
  have hr : m % ds.length < ds.length := Nat.mod_lt _ hL
  have hsum := sum_bd ds hd
  have dm : dmD [.int m, .int ds.length] S = .ok (.tup [.int ((m / ds.length : Nat) : Int), .int ((m % ds.length : Nat) : Int)]) S := by
    show (if 0 < (ds.length : Int) ∧ (ds.length : Int) < 2 ^ 200 then Out.ok (D.tup [.int ((m : Int) / (ds.length : Int)), .int ((m : Int) % (ds.length : Int))]) S else .bad) = _
    rw [if_pos ⟨by omega, by omega⟩]
    rfl
  have ad : addD (.tup (ds.map D.int)) (.tup (ds.map D.int)) S = .ok (.tup ((ds ++ ds).map D.int)) S := by rw [add_tt (by simp; omega), List.map_append]
  have mu : mulD (.int ((m / ds.length : Nat) : Int)) (.int ds.sum) S = .ok (.int (((m / ds.length : Nat) : Int) * ds.sum)) S := mul_r (by omega) (by omega)
  have sl := sl_ab (l := (ds ++ ds).map D.int) (a := f) (b := f + m % ds.length) (S := S) (by omega) (by simp; omega)
  have sl : slD2 (.tup ((ds ++ ds).map D.int)) (some (f : Int)) (some ((f : Int) + ((m % ds.length : Nat) : Int))) S = .ok (.tup ((((ds ++ ds).drop f).take (m % ds.length)).map D.int)) S := by
    have e : ((f : Int) + ((m % ds.length : Nat) : Int)) = ((f + m % ds.length : Nat) : Int) := by omega
    rw [e, sl, Nat.add_sub_cancel_left, List.map_take, List.map_drop]
  unfold str seg
  generalize m / ds.length = qn at *
  generalize m % ds.length = rn at *
  refine (fnB_ap (m := 5) (b := b_stretch_sum)).trans ?_
  show fin (b_stretch_sum [some (.tup (ds.map D.int)), some (.int f), some (.int m), none, none] S) = _
  unfold b_stretch_sum
  refine (fin_nx (ρ' := [some (.tup (ds.map D.int)), some (.int f), some (.int m), some (.int qn), some (.int rn)]) (S' := S) (by simp [dm, gt, gcons, gnil])).trans ?_
  simp only [sret_ap, o2_ap, b1_ap, ac_ap, an_ap, vr_ap, sl2_ap, osome_ap, bind_ok, List.getElem?_cons_zero, List.getElem?_cons_succ, sum_t, mu, ad, add_ii, sl, bindS_ok, fin_rt]
theorem at_ok {ds : List Int} (hne : ds ≠ []) {f i : Nat} {S : Sto} : DL.getD (.tup (ds.map D.int)) (.int (((f : Int) + (i : Int)) % (ds.length : Int))) S = .ok (.int (ds.getD ((f + i) % ds.length) 0)) S := by
  have := day_at (S := S) hne (f + i)
  rw [Int.natCast_add] at this
  exact this
theorem rng_get {n k : Nat} {S : Sto} : (rsrc 0 n).nxt k S = ((List.range n).map fun k : Nat => D.int (k : Int))[k]? := by
  show (if k < n then some (D.int (0 + k)) else none) = _
  rw [List.getElem?_map]
  by_cases c : k < n
  · rw [if_pos c, List.getElem?_range c]; simp
  · rw [if_neg c, List.getElem?_eq_none (by simp; omega)]; rfl
theorem rng_of {n k : Nat} {d : D} (h : ((List.range n).map fun k : Nat => D.int (k : Int))[k]? = some d) : k < n ∧ d = .int k := by
  have hk : k < n := by have := (List.getElem?_eq_some_iff.mp h).1; simpa using this
  rw [List.getElem?_map, List.getElem?_range hk] at h
  exact ⟨hk, (Option.some.inj h).symm⟩
theorem ir1_ok {f : Ev (List D)} {ρ : Lc} {S : Sto} {n : Nat} (h : f ρ S = .ok [.int n] S) (hn : n ≤ 1000000) : ir1 f ρ S = .ok (rsrc 0 n) S := by
  unfold ir1
  rw [h]
  show (if -1000000000000 ≤ (n : Int) ∧ (n : Int) ≤ 1000000000000 then Out.ok (rsrc 0 (n : Int).toNat) S else .bad) = _
  rw [if_pos (by omega)]; rfl
theorem sum_ok {ds : List Int} {f m : Nat} {S : Sto} (hne : ds ≠ []) (hl : ds.length ≤ 60) (hd : ∀ d ∈ ds, -1000000000000000 ≤ d ∧ d ≤ 1000000000000000) (hf : f < ds.length) : f__law_sum [.tup (ds.map D.int), .int f, .int m] S = .ok (.int (str ds f m)) S := by
  have hL : 0 < ds.length := by omega
  have hLI : (0 : Int) < ds.length := by omega
  have hr : m % ds.length < ds.length := Nat.mod_lt _ hL
  have hsum := sum_bd ds hd
  have dv : divD2 (.int m) (.int ds.length) S = .ok (.int ((m / ds.length : Nat) : Int)) S := div_ii hLI (by omega)
  have mu : mulD (.int ((m / ds.length : Nat) : Int)) (.int ds.sum) S = .ok (.int (((m / ds.length : Nat) : Int) * ds.sum)) S := mul_r (by omega) (by omega)
  have mo : modD (.int m) (.int ds.length) S = .ok (.int ((m % ds.length : Nat) : Int)) S := mod_ii hLI
  obtain ⟨ρ', S', e, g, e2, e3⟩ := for_inv (nxt := (rsrc 0 (m % ds.length)).nxt) (g := gn 4) (b := lb__law_sum_1) (l := (List.range (m % ds.length)).map fun k : Nat => D.int (k : Int)) (fun k ρ S' => ∃ g, ρ = [some (.tup (ds.map D.int)), some (.int f), some (.int m), some (.int (((m / ds.length : Nat) : Int) * ds.sum + seg ds f k)), g] ∧ S' = S)
    (fun k _ S _ => rng_get) (fun k d ρ S1 hd' ⟨g, h1, h2⟩ => by
      obtain ⟨hk, rfl⟩ := rng_of hd'
      subst h1 h2
      refine ⟨_, [some (.tup (ds.map D.int)), some (.int f), some (.int m), some (.int (((m / ds.length : Nat) : Int) * ds.sum + seg ds f k + ds.getD ((f + k) % ds.length) 0)), some (.int k)], _, rfl, ?_, some (.int k), ?_, rfl⟩
      · simp [lb__law_sum_1, mod_ii hLI, at_ok hne]
      · rw [seg_succ (by omega), Int.add_assoc]) (m % ds.length + 1) 0 [some (.tup (ds.map D.int)), some (.int f), some (.int m), some (.int (((m / ds.length : Nat) : Int) * ds.sum)), none] S (Nat.zero_le _) ⟨none, by simp [seg], rfl⟩ (by simp)
  subst e3
  refine (fnB_ap (m := 5) (b := b__law_sum)).trans ?_
  show fin (b__law_sum [some (.tup (ds.map D.int)), some (.int f), some (.int m), none, none] S') = _
  unfold b__law_sum
  refine (fin_nx (ρ' := [some (.tup (ds.map D.int)), some (.int f), some (.int m), some (.int (((m / ds.length : Nat) : Int) * ds.sum)), none]) (S' := S') (by
    simp only [sa_ap, o2_ap, b1_ap, ac_ap, an_ap, vr_ap, bind_ok, List.getElem?_cons_zero, List.getElem?_cons_succ, len_t, List.length_map, dv, sum_t, mu, bindS_ok, gn_ap]; rfl)).trans ?_
  refine (fin_nx (ρ' := ρ') (S' := S') ?_).trans ?_
  · rw [sfor_ap, ir1_ok (n := m % ds.length) (by
      simp only [o2_ap, b1_ap, ac_ap, an_ap, vr_ap, bind_ok, List.getElem?_cons_zero, List.getElem?_cons_succ, len_t, List.length_map, mo]) (by omega)]
    exact e
  · rw [e2]
    simp [str]
theorem dries_ok {ds : List Int} {b f m : Int} {S : Sto} (hne : ds ≠ []) (hl : ds.length ≤ 60) (hd : ∀ d ∈ ds, -1000000000000000 ≤ d ∧ d ≤ 1000000000000000) :
    f__law_dries [.int b, .tup (ds.map D.int), .int f, .int m] S = .ok (.bl (decide ((0 ≤ f ∧ f < ds.length ∧ 1 ≤ m) ∧ str ds f.toNat m.toNat < -b))) S := by
  have num : ∀ (i : Int) (S : Sto), f__law_number [.int i] S = .ok (.bl true) S := fun i S => num_ok
  by_cases c : 0 ≤ f ∧ f < ds.length ∧ 1 ≤ m
  · obtain ⟨c1, c2, c3⟩ := c
    obtain ⟨fn, rfl⟩ : ∃ n : Nat, f = n := ⟨f.toNat, by omega⟩
    obtain ⟨mn, rfl⟩ : ∃ n : Nat, m = n := ⟨m.toNat, by omega⟩
    have hf : fn < ds.length := by omega
    have hL : 0 < ds.length := by omega
    have hLI : (0 : Int) < ds.length := by omega
    have hr : mn % ds.length < ds.length := Nat.mod_lt _ hL
    have hsum := sum_bd ds hd
    have dv : divD2 (.int mn) (.int ds.length) S = .ok (.int ((mn / ds.length : Nat) : Int)) S := div_ii hLI (by omega)
    have mu : mulD (.int ((mn / ds.length : Nat) : Int)) (.int ds.sum) S = .ok (.int (((mn / ds.length : Nat) : Int) * ds.sum)) S := mul_r (by omega) (by omega)
    have mo : modD (.int mn) (.int ds.length) S = .ok (.int ((mn % ds.length : Nat) : Int)) S := mod_ii hLI
    obtain ⟨ρ', S', e, g, e2, e3⟩ := for_inv (nxt := (rsrc 0 (mn % ds.length)).nxt) (g := gn 5) (b := lb__law_dries_1) (l := (List.range (mn % ds.length)).map fun k : Nat => D.int (k : Int)) (fun k ρ S' => ∃ g, ρ = [some (.int b), some (.tup (ds.map D.int)), some (.int fn), some (.int mn), some (.int (((mn / ds.length : Nat) : Int) * ds.sum + seg ds fn k)), g] ∧ S' = S)
      (fun k _ S _ => rng_get) (fun k d ρ S1 hd' ⟨g, h1, h2⟩ => by
        obtain ⟨hk, rfl⟩ := rng_of hd'
        subst h1 h2
        refine ⟨_, [some (.int b), some (.tup (ds.map D.int)), some (.int fn), some (.int mn), some (.int (((mn / ds.length : Nat) : Int) * ds.sum + seg ds fn k + ds.getD ((fn + k) % ds.length) 0)), some (.int k)], _, rfl, ?_, some (.int k), ?_, rfl⟩
        · simp [lb__law_dries_1, mod_ii hLI, at_ok hne]
        · rw [seg_succ (by omega), Int.add_assoc]) (mn % ds.length + 1) 0 [some (.int b), some (.tup (ds.map D.int)), some (.int fn), some (.int mn), some (.int (((mn / ds.length : Nat) : Int) * ds.sum)), none] S (Nat.zero_le _) ⟨none, by simp [seg], rfl⟩ (by simp)
    subst e3
    refine (fnB_ap (m := 6) (b := b__law_dries)).trans ?_
    show fin (b__law_dries [some (.int b), some (.tup (ds.map D.int)), some (.int fn), some (.int mn), none, none] S') = _
    unfold b__law_dries
    have c3' : ¬ (mn : Int) < 1 := by omega
    have c2' : ¬ (ds.length : Int) ≤ fn := by omega
    have c1' : ¬ (fn : Int) < 0 := by omega
    refine (fin_nx (ρ' := [some (.int b), some (.tup (ds.map D.int)), some (.int fn), some (.int mn), none, none]) (S' := S') (by simp [num, truD])).trans ?_
    refine (fin_nx (ρ' := [some (.int b), some (.tup (ds.map D.int)), some (.int fn), some (.int mn), none, none]) (S' := S') (by
      simp only [sif_ap, to_ap, tb_ap, o2_ap, b1_ap, ac_ap, an_ap, vr_ap, cn_ap, bind_ok, List.getElem?_cons_zero, List.getElem?_cons_succ, lt_ii, ge_ii, len_t, List.length_map, decide_eq_false c1', decide_eq_false c2', decide_eq_false c3', bindS_ok, skip_ap, Bool.false_eq_true, if_false])).trans ?_
    refine (fin_nx (ρ' := [some (.int b), some (.tup (ds.map D.int)), some (.int fn), some (.int mn), some (.int (((mn / ds.length : Nat) : Int) * ds.sum)), none]) (S' := S') (by
      simp only [sa_ap, o2_ap, b1_ap, ac_ap, an_ap, vr_ap, bind_ok, List.getElem?_cons_zero, List.getElem?_cons_succ, len_t, List.length_map, dv, sum_t, mu, bindS_ok, gn_ap]; rfl)).trans ?_
    refine (fin_nx (ρ' := ρ') (S' := S') ?_).trans ?_
    · rw [sfor_ap, ir1_ok (n := mn % ds.length) (by
        simp only [o2_ap, b1_ap, ac_ap, an_ap, vr_ap, bind_ok, List.getElem?_cons_zero, List.getElem?_cons_succ, len_t, List.length_map, mo]) (by omega)]
      exact e
    · rw [e2]
      simp only [sret_ap, o2_ap, vr_ap, cn_ap, bind_ok, List.getElem?_cons_zero, List.getElem?_cons_succ, add_ii, lt_ii, bindS_ok, fin_rt]
      refine congrArg (fun v => Out.ok (D.bl v) S') ?_
      have hst : ((mn / ds.length : Nat) : Int) * ds.sum + seg ds fn (((List.range (mn % ds.length)).map fun k : Nat => D.int (k : Int)).length) = str ds (fn : Int).toNat (mn : Int).toNat := by simp [str]
      rw [hst]
      refine decide_eq_decide.mpr ⟨fun h => ⟨⟨c1, c2, c3⟩, by omega⟩, fun h => by have := h.2; omega⟩
  · have hc : decide ((0 ≤ f ∧ f < ds.length ∧ 1 ≤ m) ∧ str ds f.toNat m.toNat < -b) = false := decide_eq_false fun z => c z.1
    rw [hc]
    refine (fnB_ap (m := 6) (b := b__law_dries)).trans ?_
    show fin (b__law_dries [some (.int b), some (.tup (ds.map D.int)), some (.int f), some (.int m), none, none] S) = _
    unfold b__law_dries
    refine (fin_nx (ρ' := [some (.int b), some (.tup (ds.map D.int)), some (.int f), some (.int m), none, none]) (S' := S) (by simp [num, truD])).trans ?_
    refine fin_ret ?_
    simp only [sif_ap, to_ap, tb_ap, o2_ap, b1_ap, ac_ap, an_ap, vr_ap, cn_ap, bind_ok, List.getElem?_cons_zero, List.getElem?_cons_succ, lt_ii, ge_ii, len_t, List.length_map, bindS_ok]
    by_cases d1 : f < 0
    · simp [d1]
    · by_cases d2 : (ds.length : Int) ≤ f
      · simp [d1, d2]
      · have d3 : m < 1 := by omega
        simp [d1, d2, d3]
end Law

set_option Elab.async false
set_option linter.all false
set_option maxRecDepth 100000
namespace Law
open PySem PySem.Spec PyProof.Rows L2 DL WM
theorem mapO_mono {f g : D → Option PyData} (h : ∀ d p, f d = some p → g d = some p) : ∀ (l : List D) (ps : List PyData), mapO f l = some ps → mapO g l = some ps
  | [], ps, e => e
  | x :: l, ps, e => by
    simp only [mapO] at e ⊢
    cases h1 : f x with
    | none => rw [h1] at e; simp at e
    | some y =>
      rw [h1] at e
      cases h2 : mapO f l with
      | none => rw [h2] at e; simp at e
      | some ys =>
        rw [h2] at e
        rw [h x y h1, mapO_mono h l ys h2]
        exact e
theorem toP_mono {S : Sto} : ∀ (n : Nat) (d : D) (p : PyData), toP S n d = some p → toP S (n + 1) d = some p
  | 0, d, p, e => by cases e
  | n + 1, d, p, e => by
    cases d with
    | non => exact e
    | bl b => exact e
    | int i => exact e
    | str x => exact e
    | tup l =>
      have e : (mapO (toP S n) l).map PyData.tuple = some p := e
      show (mapO (toP S (n + 1)) l).map PyData.tuple = some p
      cases z : mapO (toP S n) l with
      | none => rw [z] at e; cases e
      | some ps => rw [mapO_mono (toP_mono n) l ps z]; rw [z] at e; exact e
    | lst i =>
      have e : (match S[i]? with | some c => (mapO (toP S n) c.xs).map PyData.list | none => none) = some p := e
      show (match S[i]? with | some c => (mapO (toP S (n + 1)) c.xs).map PyData.list | none => none) = some p
      cases y : S[i]? with
      | none => rw [y] at e; cases e
      | some c =>
        rw [y] at e
        simp only at e ⊢
        cases z : mapO (toP S n) c.xs with
        | none => rw [z] at e; cases e
        | some ps => rw [mapO_mono (toP_mono n) c.xs ps z]; rw [z] at e; exact e
theorem mapO_get {f : D → Option PyData} : ∀ {l : List D} {ps : List PyData} {k : Nat} {d : D}, mapO f l = some ps → l[k]? = some d → ∃ p, f d = some p ∧ p ∈ ps
  | [], ps, k, d, e, h => by simp at h
  | x :: l, ps, k, d, e, h => by
    simp only [mapO] at e
    cases h1 : f x with
    | none => rw [h1] at e; simp at e
    | some y =>
      rw [h1] at e
      cases h2 : mapO f l with
      | none => rw [h2] at e; simp at e
      | some ys =>
        rw [h2] at e
        have e : ps = y :: ys := (Option.some.inj e).symm
        subst e
        cases k with
        | zero => cases (Option.some.inj h); exact ⟨y, h1, List.mem_cons_self⟩
        | succ k =>
          obtain ⟨p, a, b⟩ := mapO_get (k := k) h2 (by simpa using h)
          exact ⟨p, a, List.mem_cons_of_mem _ b⟩
def Okp (p : PyData) : Prop := PyData.canLay0 p = true ∧ PyData.depth p ≤ 64
theorem Okp.sh {p : PyData} (h : Okp p) : SeqAt.shaped p = true := by
  unfold SeqAt.shaped
  rw [h.1]
  simpa using h.2
def isDr : D → Bool
  | .str w => w == ("dries" : Str)
  | _ => false
theorem depth_mem : ∀ {ps : List PyData} {p : PyData}, p ∈ ps → PyData.depth p ≤ PyData.depthAll ps
  | [], p, h => by cases h
  | x :: xs, p, h => by
    simp only [PyData.depthAll]
    rcases List.mem_cons.mp h with rfl | h
    · omega
    · have := depth_mem h; omega
/-- the first of three against a text -/
theorem ne_first {S : Sto} {a : D} {p : PyData} (hp : toP S 38 a = some p) (hs : Okp p) : neD a (.str "dries") S = .ok (.bl (!(isDr a))) S := by
  have h40 := toP_mono _ _ _ (toP_mono _ _ _ hp)
  have hst : Okp (.str "dries") := ⟨by decide +kernel, by simp [PyData.depth]⟩
  have h2 : toP S 40 (.str "dries") = some (.str "dries") := rfl
  simp only [neD]
  rw [h40, h2]
  simp only [hs.sh, hst.sh, Bool.and_self, if_true]
  refine congrArg (fun v => Out.ok (D.bl (!v)) S) ?_
  cases a with
  | str w => cases (Option.some.inj (show some (PyData.str w) = some p from hp)); simp [PyData.eqv, isDr]
  | non => cases (Option.some.inj (show some PyData.none = some p from hp)); simp [PyData.eqv, isDr]
  | bl b => cases (Option.some.inj (show some (PyData.bool b) = some p from hp)); simp [PyData.eqv, isDr]
  | int b => cases (Option.some.inj (show some (PyData.int b) = some p from hp)); simp [PyData.eqv, isDr]
  | tup l =>
    have hp : (mapO (toP S 37) l).map PyData.tuple = some p := hp
    cases z : mapO (toP S 37) l with
    | none => rw [z] at hp; cases hp
    | some ps => rw [z] at hp; cases (Option.some.inj hp); simp [PyData.eqv, isDr]
  | lst i =>
    have hp : (match S[i]? with | some c => (mapO (toP S 37) c.xs).map PyData.list | none => none) = some p := hp
    cases y : S[i]? with
    | none => rw [y] at hp; cases hp
    | some c =>
      rw [y] at hp
      simp only at hp
      cases z : mapO (toP S 37) c.xs with
      | none => rw [z] at hp; cases hp
      | some ps => rw [z] at hp; cases (Option.some.inj hp); simp [PyData.eqv, isDr]
theorem eq_dries {S : Sto} {w : Str} (h : PyData.strOk w = true) : eqD (.str w) (.str "dries") S = .ok (.bl (w == ("dries" : Str))) S := eq_ss h (by decide +kernel)
def isInt : D → Bool
  | .int _ => true
  | _ => false
theorem whole_ok {x : D} {S : Sto} : f_is_whole [x] S = .ok (.bl (isInt x)) S := by
  cases x <;> simp [f_is_whole, fnB, b_is_whole, isD, isT, tyN, isInt]
theorem lnum_ok {x : D} {S : Sto} : f__law_number [x] S = .ok (.bl (isInt x)) S := by
  cases x <;> simp [f__law_number, fnB, b__law_number, isD, isT, tyN, isInt]
theorem between_int {i lo hi : Int} {S : Sto} : f_is_between [.int i, .int lo, .int hi] S = .ok (.bl (decide (lo ≤ i ∧ i ≤ hi))) S := by
  have w := fun S => whole_ok (x := .int i) (S := S)
  by_cases c : lo ≤ i
  · simp [f_is_between, fnB, b_is_between, w, isInt, c]
  · simp [f_is_between, fnB, b_is_between, w, isInt, c]
theorem between_no {x : D} {lo hi : Int} {S : Sto} (h : isInt x = false) : f_is_between [x, .int lo, .int hi] S = .ok (.bl false) S := by
  have w := fun S => whole_ok (x := x) (S := S)
  simp [f_is_between, fnB, b_is_between, w, h]
def is3 : D → Bool
  | .tup l => l.length == 3
  | _ => false
theorem tuple_ok {x : D} {S : Sto} : f_is_tuple [x, .int 3] S = .ok (.bl (is3 x)) S := by
  cases x with
  | tup l =>
    by_cases h : l.length = 3
    · simp [f_is_tuple, fnB, b_is_tuple, isD, isT, tyN, is3, h]
    · have h' : ¬ (l.length : Int) = 3 := by omega
      simp [f_is_tuple, fnB, b_is_tuple, isD, isT, tyN, is3, h, h']
  | _ => simp [f_is_tuple, fnB, b_is_tuple, isD, isT, tyN, is3]
theorem h0 {a b c : D} {S : Sto} : DL.getD (.tup [a, b, c]) (.int 0) S = .ok a S := get_t rfl
theorem h1 {a b c : D} {S : Sto} : DL.getD (.tup [a, b, c]) (.int 1) S = .ok b S := get_t rfl
theorem h2 {a b c : D} {S : Sto} : DL.getD (.tup [a, b, c]) (.int 2) S = .ok c S := get_t rfl
def good (ds : List Int) (b f m : Int) : Bool := decide ((0 ≤ f ∧ f < ds.length ∧ 1 ≤ m) ∧ str ds f.toNat m.toNat < -b)
def gd2 (ds : List Int) (b : Int) : D → D → Bool
  | .int f, .int m => good ds b f m
  | _, _ => false
def due (ds : List Int) (b : Int) : D → Bool
  | .tup [.str w, .int f, .int m] => (w == ("dries" : Str)) && good ds b f m
  | _ => false
section
variable {ds : List Int} {b : Int} {S : Sto} (hne : ds ≠ []) (hl : ds.length ≤ 60) (hd : ∀ d ∈ ds, -1000000000000000 ≤ d ∧ d ≤ 1000000000000000)
include hne hl hd
theorem dries_any {f m : D} : f__law_dries [.int b, .tup (ds.map D.int), f, m] S = .ok (.bl (gd2 ds b f m)) S := by
  by_cases c : isInt f = true ∧ isInt m = true
  · obtain ⟨c1, c2⟩ := c
    cases f with
    | int f =>
      cases m with
      | int m => exact dries_ok hne hl hd
      | _ => cases c2
    | _ => cases c1
  · have e : (gd2 ds b f m) = false := by
      cases f with
      | int f =>
        cases m with
        | int m => exact absurd ⟨rfl, rfl⟩ c
        | _ => rfl
      | _ => rfl
    rw [e]
    refine (fnB_ap (m := 6) (b := b__law_dries)).trans ?_
    show fin (b__law_dries [some (.int b), some (.tup (ds.map D.int)), some f, some m, none, none] S) = _
    unfold b__law_dries
    refine fin_ret ?_
    have w1 := fun S => lnum_ok (x := f) (S := S)
    have w2 := fun S => lnum_ok (x := m) (S := S)
    by_cases c1 : isInt f = true
    · have c2 : isInt m = false := by cases z : isInt m with | true => exact absurd ⟨c1, z⟩ c | false => rfl
      simp [w1, w2, c1, c2, truD]
    · have c1 : isInt f = false := by simpa using c1
      simp [w1, c1, truD]
theorem shows_ok {x : D} {p : PyData} (hp : toP S 39 x = some p) (hs : Okp p) : f_shows_dry [.int b, .tup (ds.map D.int), x] S = .ok (.bl (due ds b x)) S ∧ f__law_due [.int b, .tup (ds.map D.int), x] S = .ok (.bl (due ds b x)) S := by
  have tw := fun S => tuple_ok (x := x) (S := S)
  by_cases c : is3 x = true
  · cases x with
    | tup l =>
      have hl3 : l.length = 3 := by simpa [is3] using c
      obtain ⟨a, f, m, rfl⟩ : ∃ a f m, l = [a, f, m] := by
        match l, hl3 with
        | [a, f, m], _ => exact ⟨a, f, m, rfl⟩
      have hp' : (mapO (toP S 38) [a, f, m]).map PyData.tuple = some p := hp
      obtain ⟨pa, ha, hpa⟩ : ∃ pa, toP S 38 a = some pa ∧ Okp pa := by
        cases z : mapO (toP S 38) [a, f, m] with
        | none => rw [z] at hp'; cases hp'
        | some ps =>
          rw [z] at hp'
          cases (Option.some.inj hp')
          obtain ⟨pa, h3, h4⟩ := mapO_get (k := 0) (d := a) z rfl
          refine ⟨pa, h3, PyData.canLay0_of_mem _ _ (by simpa [PyData.canLay0] using hs.1) h4, ?_⟩
          have h5 := hs.2
          have h6 := depth_mem h4
          simp only [PyData.depth] at h5
          omega
      have n1 := ne_first ha hpa
      by_cases cw : a = .str "dries"
      · subst cw
        have e1 : sif (to (tn (tt (cl 2 (noExc f_is_tuple) (ac (vr 2) (ac (cn (.int 3)) an))))) (tb (o2 neD (o2 DL.getD (vr 2) (cn (.int 0))) (cn (.str "dries"))))) (sret (cn (.bl false))) DL.skip [some (.int b), some (.tup (ds.map D.int)), some (.tup [.str "dries", f, m]), none, none, none] S = .nx [some (.int b), some (.tup (ds.map D.int)), some (.tup [.str "dries", f, m]), none, none, none] S := by
          simp [tw, c, truD, h0, n1, isDr]
        have e2 : sa (vr 2) (gt (gcons (gn 3) (gcons (gn 4) (gcons (gn 5) gnil))) 3) [some (.int b), some (.tup (ds.map D.int)), some (.tup [.str "dries", f, m]), none, none, none] S = .nx [some (.int b), some (.tup (ds.map D.int)), some (.tup [.str "dries", f, m]), some (.str "dries"), some f, some m] S := by
          simp [gt, gcons, gnil]
        have hdue : due ds b (.tup [.str "dries", f, m]) = (gd2 ds b f m) := by
          cases f <;> cases m <;> simp [due, gd2]
        have da := dries_any (b := b) (S := S) (f := f) (m := m) hne hl hd
        rw [hdue]
        refine ⟨?_, ?_⟩
        · refine (fnB_ap (m := 6) (b := b_shows_dry)).trans ?_
          show fin (b_shows_dry [some (.int b), some (.tup (ds.map D.int)), some (.tup [.str "dries", f, m]), none, none, none] S) = _
          unfold b_shows_dry
          rw [fin_nx e1, fin_nx e2]
          have w2 := fun S => whole_ok (x := m) (S := S)
          cases f with
          | int f =>
            have bt := fun hi S => between_int (i := f) (lo := 0) (hi := hi) (S := S)
            by_cases cm : isInt m = true
            · cases m with
              | int m =>
                show _ = Out.ok (D.bl (good ds b f m)) S
                by_cases g : 0 ≤ f ∧ f < ds.length ∧ 1 ≤ m
                · obtain ⟨g1', g2', g3'⟩ := g
                  obtain ⟨fn, rfl⟩ : ∃ n : Nat, f = n := ⟨f.toNat, by omega⟩
                  obtain ⟨mn, rfl⟩ : ∃ n : Nat, m = n := ⟨m.toNat, by omega⟩
                  have so := stretch_ok (S := S) (f := fn) (m := mn) hne hl hd (by omega)
                  have q1 : decide ((0 : Int) ≤ fn ∧ (fn : Int) ≤ ds.length - 1) = true := decide_eq_true ⟨g1', by omega⟩
                  have q2 : decide ((mn : Int) < 1) = false := decide_eq_false (by omega)
                  have e3 : sif (to (tn (tt (cl 3 (noExc f_is_between) (ac (vr 4) (ac (cn (.int 0)) (ac (o2 subD (b1 lenD (ac (vr 1) an)) (cn (.int 1))) an)))))) (to (tn (tt (cl 1 (noExc f_is_whole) (ac (vr 5) an)))) (tb (o2 ltD (vr 5) (cn (.int 1)))))) (sret (cn (.bl false))) DL.skip [some (.int b), some (.tup (ds.map D.int)), some (.tup [.str "dries", .int fn, .int mn]), some (.str "dries"), some (.int fn), some (.int mn)] S = .nx [some (.int b), some (.tup (ds.map D.int)), some (.tup [.str "dries", .int fn, .int mn]), some (.str "dries"), some (.int fn), some (.int mn)] S := by
                    simp only [sif_ap, to_ap, tn_ap, tt_ap, tb_ap, cl_ap, noExc_ap, ac_ap, an_ap, vr_ap, cn_ap, o2_ap, b1_ap, bind_ok, List.getElem?_cons_zero, List.getElem?_cons_succ, len_t, List.length_map, sub_ii, List.length_cons, List.length_nil, if_true, bt, q1, truD, Bool.not_true, Bool.false_eq_true, if_false, w2, isInt, lt_ii, q2, bindS_ok, skip_ap]
                  rw [fin_nx e3]
                  simp only [sret_ap, o2_ap, o1_ap, cl_ap, noExc_ap, ac_ap, an_ap, vr_ap, bind_ok, List.getElem?_cons_zero, List.getElem?_cons_succ, List.length_cons, List.length_nil, if_true, so, neg_i, lt_ii, bindS_ok, fin_rt]
                  refine congrArg (fun v => Out.ok (D.bl v) S) ?_
                  unfold good
                  refine decide_eq_decide.mpr ⟨fun h => ⟨⟨g1', g2', g3'⟩, h⟩, fun h => h.2⟩
                · have gg : good ds b f m = false := decide_eq_false fun z => g z.1
                  rw [gg]
                  refine fin_ret ?_
                  by_cases g1' : 0 ≤ f ∧ f ≤ (ds.length : Int) - 1
                  · have q1 : decide (0 ≤ f ∧ f ≤ (ds.length : Int) - 1) = true := decide_eq_true g1'
                    have q2 : decide (m < 1) = true := decide_eq_true (by omega)
                    simp only [sif_ap, to_ap, tn_ap, tt_ap, tb_ap, cl_ap, noExc_ap, ac_ap, an_ap, vr_ap, cn_ap, o2_ap, b1_ap, bind_ok, List.getElem?_cons_zero, List.getElem?_cons_succ, len_t, List.length_map, sub_ii, List.length_cons, List.length_nil, if_true, bt, q1, truD, Bool.not_true, Bool.false_eq_true, if_false, w2, isInt, lt_ii, q2, bindS_ok, sret_ap]
                  · have q1 : decide (0 ≤ f ∧ f ≤ (ds.length : Int) - 1) = false := decide_eq_false g1'
                    simp only [sif_ap, to_ap, tn_ap, tt_ap, tb_ap, cl_ap, noExc_ap, ac_ap, an_ap, vr_ap, cn_ap, o2_ap, b1_ap, bind_ok, List.getElem?_cons_zero, List.getElem?_cons_succ, len_t, List.length_map, sub_ii, List.length_cons, List.length_nil, if_true, bt, q1, truD, Bool.not_false, bindS_ok, sret_ap]
              | _ => cases cm
            · have cm : isInt m = false := by simpa using cm
              have e0 : (gd2 ds b (.int f) m) = false := by
                cases m with
                | int m => cases cm
                | _ => rfl
              rw [e0]
              refine fin_ret ?_
              by_cases q : decide (0 ≤ f ∧ f ≤ (ds.length : Int) - 1) = true
              · simp only [sif_ap, to_ap, tn_ap, tt_ap, tb_ap, cl_ap, noExc_ap, ac_ap, an_ap, vr_ap, cn_ap, o2_ap, b1_ap, bind_ok, List.getElem?_cons_zero, List.getElem?_cons_succ, len_t, List.length_map, sub_ii, List.length_cons, List.length_nil, if_true, bt, q, truD, Bool.not_true, Bool.not_false, Bool.false_eq_true, if_false, w2, cm, bindS_ok, sret_ap]
              · have q : decide (0 ≤ f ∧ f ≤ (ds.length : Int) - 1) = false := by simpa using q
                simp only [sif_ap, to_ap, tn_ap, tt_ap, tb_ap, cl_ap, noExc_ap, ac_ap, an_ap, vr_ap, cn_ap, o2_ap, b1_ap, bind_ok, List.getElem?_cons_zero, List.getElem?_cons_succ, len_t, List.length_map, sub_ii, List.length_cons, List.length_nil, if_true, bt, q, truD, Bool.not_false, bindS_ok, sret_ap]
          | non => exact fin_ret (by simp [between_no (x := .non) rfl, truD, gd2])
          | bl v => exact fin_ret (by simp [between_no (x := .bl v) rfl, truD, gd2])
          | str v => exact fin_ret (by simp [between_no (x := .str v) rfl, truD, gd2])
          | tup v => exact fin_ret (by simp [between_no (x := .tup v) rfl, truD, gd2])
          | lst v => exact fin_ret (by simp [between_no (x := .lst v) rfl, truD, gd2])
        · refine (fnB_ap (m := 3) (b := b__law_due)).trans ?_
          show fin (b__law_due [some (.int b), some (.tup (ds.map D.int)), some (.tup [.str "dries", f, m])] S) = _
          unfold b__law_due
          refine (fin_nx (ρ' := [some (.int b), some (.tup (ds.map D.int)), some (.tup [.str "dries", f, m])]) (S' := S) (by simp [isD, isT, tyN, truD, h0])).trans ?_
          have ed := eq_dries (S := S) (w := "dries") (by decide +kernel)
          simp [h0, h1, h2, ed, da]
      · have hdue : due ds b (.tup [a, f, m]) = false := by
          cases a with
          | str w =>
            have : (w == ("dries" : Str)) = false := by
              cases z : w == ("dries" : Str) with
              | false => rfl
              | true => exact absurd (congrArg D.str (eq_of_beq z)) cw
            cases f <;> cases m <;> simp [due, this]
          | _ => cases f <;> cases m <;> rfl
        have n2 : (isDr a) = false := by
          cases a with
          | str w =>
            show (w == ("dries" : Str)) = false
            cases z : w == ("dries" : Str) with
            | false => rfl
            | true => exact absurd (congrArg D.str (eq_of_beq z)) cw
          | _ => rfl
        rw [n2] at n1
        rw [hdue]
        refine ⟨?_, ?_⟩
        · refine (fnB_ap (m := 6) (b := b_shows_dry)).trans ?_
          show fin (b_shows_dry [some (.int b), some (.tup (ds.map D.int)), some (.tup [a, f, m]), none, none, none] S) = _
          unfold b_shows_dry
          exact fin_ret (by simp [tw, c, truD, h0, n1])
        · refine (fnB_ap (m := 3) (b := b__law_due)).trans ?_
          show fin (b__law_due [some (.int b), some (.tup (ds.map D.int)), some (.tup [a, f, m])] S) = _
          unfold b__law_due
          cases a with
          | str w =>
            refine (fin_nx (ρ' := [some (.int b), some (.tup (ds.map D.int)), some (.tup [.str w, f, m])]) (S' := S) (by simp [isD, isT, tyN, truD, h0])).trans ?_
            have hw : PyData.strOk w = true := by
              cases (Option.some.inj (show some (PyData.str w) = some pa from ha))
              have := hpa.1
              simpa [PyData.canLay0] using this
            have ed := eq_dries (S := S) hw
            have n2 : (w == ("dries" : Str)) = false := n2
            rw [n2] at ed
            simp [h0, ed]
          | _ => exact fin_ret (by simp [isD, isT, tyN, truD, h0])
    | _ => cases c
  · have c : is3 x = false := by simpa using c
    have hdue : due ds b x = false := by
      cases x with
      | tup l =>
        unfold due
        split
        · rename_i e; cases e; cases c
        · rfl
      | _ => rfl
    rw [hdue]
    refine ⟨?_, ?_⟩
    · refine (fnB_ap (m := 6) (b := b_shows_dry)).trans ?_
      show fin (b_shows_dry [some (.int b), some (.tup (ds.map D.int)), some x, none, none, none] S) = _
      unfold b_shows_dry
      exact fin_ret (by simp [tw, c, truD])
    · refine (fnB_ap (m := 3) (b := b__law_due)).trans ?_
      show fin (b__law_due [some (.int b), some (.tup (ds.map D.int)), some x] S) = _
      unfold b__law_due
      cases x with
      | tup l =>
        have hl3 : ¬ (l.length : Int) = 3 := by
          intro z
          have : l.length = 3 := by omega
          simp [is3, this] at c
        exact fin_ret (by simp [isD, isT, tyN, truD, hl3])
      | _ => exact fin_ret (by simp [isD, isT, tyN, truD])
end
end Law

set_option Elab.async false
set_option linter.all false
set_option maxRecDepth 100000
namespace Law
open PySem PySem.Spec PyProof.Rows L2 DL WM
theorem app_k {S l : Sto} {k : Nat} : (S ++ l)[S.length + k]? = l[k]? := by
  rw [List.getElem?_append_right (by omega)]
  congr 1
  omega
theorem app_z {S l : Sto} : (S ++ l)[S.length]? = l[0]? := app_k (k := 0)
theorem add_ll {S : Sto} {i j : Nat} {a b : List D} (h1 : S[i]? = some ⟨false, a⟩) (h2 : S[j]? = some ⟨false, b⟩) (h : a.length + b.length ≤ 1000000) : addD (.lst i) (.lst j) S = .ok (.lst S.length) (S ++ [⟨false, a ++ b⟩]) := by
  show (match S[i]?, S[j]? with
    | some c, some e => if (c.fz = false ∧ e.fz = false) ∧ c.xs.length + e.xs.length ≤ 1000000 then Out.ok (D.lst S.length) (S ++ [(⟨false, c.xs ++ e.xs⟩ : Cell)]) else .bad
    | _, _ => .bad) = _
  rw [h1, h2]
  show (if (false = false ∧ false = false) ∧ a.length + b.length ≤ 1000000 then Out.ok (D.lst S.length) (S ++ [(⟨false, a ++ b⟩ : Cell)]) else .bad) = _
  rw [if_pos ⟨⟨rfl, rfl⟩, h⟩]
section
variable (n : Nat) (size first many : Int)
def gt3 : D := .tup [.str "dries", .int first, .int many]
def it1 : List D := [gt3 first many, .lst n, .tup [.str "dries", .int first], .tup [.str "dries", .int first, .int many, .int 0], .tup [gt3 first many], .lst (n + 1), .tup [.str "dries", .int (first + size), .int many]]
def it2 : List D := [.tup [.str "dries", .int (first - size), .int many], .tup [.str "dries", .int first, .int 0], .tup [.str "dries", .int first, .int (0 - many)]]
def it3 : List D := [.tup [.str "dries", .int first, .int 1], .tup [.str "dries", .int many, .int first], .tup [.str "dries", .int first, .int (many + 1)], .tup [.str "lasts", .int first, .int many]]
def it4 : List D := [.tup [.str "Dries", .int first, .int many], .tup [.str "dry", .int first, .int many], .tup [.non, .int first, .int many], .tup [.lst (n + 7), .int first, .int many]]
def it5 : List D := [.tup [.str "dries", .bl true, .int many], .tup [.str "dries", .bl false, .int many], .tup [.str "dries", .int first, .bl true], .tup [.str "dries", .non, .int many]]
def it6 : List D := [.tup [.str "dries", .int first, .non], .tup [.str "dries", .lst (n + 12), .int many], .tup [.str "dries", .int first, .tup [.int many]]]
def it7 : List D := [.tup [.str "dries", .str (toString first), .int many], .tup [.str "dries", .int first, .str (toString many)], .tup [.int first, .int many], .tup [.int first, .int many, .str "dries"]]
def it8 : List D := [.tup [], .lst (n + 17), .non, .bl true, .int 0, .str "dries", .str "", .tup [.str "dries"]]
def al2 : List D := it1 n size first many ++ it2 size first many
def al3 : List D := al2 n size first many ++ it3 first many
def al4 : List D := al3 n size first many ++ it4 n first many
def al5 : List D := al4 n size first many ++ it5 first many
def al6 : List D := al5 n size first many ++ it6 n first many
def al7 : List D := al6 n size first many ++ it7 first many
def al8 : List D := al7 n size first many ++ it8 n
def cells : Sto := [⟨false, [.str "dries", .int first, .int many]⟩, ⟨false, [gt3 first many]⟩, ⟨false, it1 n size first many⟩, ⟨false, it2 size first many⟩, ⟨false, al2 n size first many⟩, ⟨false, it3 first many⟩, ⟨false, al3 n size first many⟩, ⟨false, [.str "dries"]⟩, ⟨false, it4 n first many⟩, ⟨false, al4 n size first many⟩,
  ⟨false, it5 first many⟩, ⟨false, al5 n size first many⟩, ⟨false, [.int first]⟩, ⟨false, it6 n first many⟩, ⟨false, al6 n size first many⟩, ⟨false, it7 first many⟩, ⟨false, al7 n size first many⟩, ⟨false, []⟩, ⟨false, it8 n⟩, ⟨false, al8 n size first many⟩]
end
theorem things_ok {size first many : Int} {S : Sto} (h1 : first.natAbs < 2 ^ 200) (h2 : many.natAbs < 2 ^ 200) : f__law_things [.int size, .int first, .int many] S = .ok (.lst (S.length + 19)) (S ++ cells S.length size first many) := by
  have lg : ∀ i : Int, i.natAbs < 2 ^ 200 → i.natAbs.log2 < 1920 := fun i h => by
    by_cases c : i.natAbs = 0
    · rw [c]; decide
    · exact Nat.lt_of_lt_of_le ((Nat.log2_lt c).mpr h) (by decide)
  have s1 : ∀ S, strD [.int first] S = .ok (.str (toString first)) S := fun S => by
    show (if first.natAbs.log2 < 1920 then Out.ok (D.str (toString first)) S else .bad) = _
    rw [if_pos (lg _ h1)]
  have s2 : ∀ S, strD [.int many] S = .ok (.str (toString many)) S := fun S => by
    show (if many.natAbs.log2 < 1920 then Out.ok (D.str (toString many)) S else .bad) = _
    rw [if_pos (lg _ h2)]
  have st2 : ∀ S, slD2 (gt3 first many) none (some 2) S = .ok (.tup [.str "dries", .int first]) S := fun S => sl_take (l := [.str "dries", .int first, .int many]) (n := 2)
  have st3 : ∀ S, addD (gt3 first many) (.tup [.int 0]) S = .ok (.tup [.str "dries", .int first, .int many, .int 0]) S := fun S => add_tt (by simp)
  have st4 : ∀ S, listD [gt3 first many] S = .ok (.lst S.length) (S ++ [⟨false, [.str "dries", .int first, .int many]⟩]) := fun S => rfl
  refine (fnB_ap (m := 5) (b := b__law_things)).trans ?_
  show fin (b__law_things [some (.int size), some (.int first), some (.int many), none, none] S) = _
  unfold b__law_things
  have r3 : ∀ (x : Option D), [some (.int size), some (.int first), some (.int many), some (gt3 first many), x] = [some (D.int size), some (.int first), some (.int many), some (gt3 first many), x] := fun _ => rfl
  refine (fin_nx (ρ' := [some (.int size), some (.int first), some (.int many), some (gt3 first many), none]) (S' := S) (by simp [gt3])).trans ?_
  refine (fin_nx (ρ' := [some (.int size), some (.int first), some (.int many), some (gt3 first many), some (.lst (S.length + 2))]) (S' := S ++ (cells S.length size first many).take 3) (by simp [st2, st3, st4, cells, it1])).trans ?_
  refine (fin_nx (ρ' := [some (.int size), some (.int first), some (.int many), some (gt3 first many), some (.lst (S.length + 4))]) (S' := S ++ (cells S.length size first many).take 5) ?_).trans ?_
  · have ad : addD (.lst (S.length + 2)) (.lst (S.length + 3)) (S ++ (cells S.length size first many).take 4) = .ok (.lst (S.length + 4)) (S ++ (cells S.length size first many).take 5) := by
      rw [add_ll (a := it1 S.length size first many) (b := it2 size first many) app_k app_k (by simp [it1, it2])]; simp [cells, al2]
    simp [cells, it2] at ad ⊢
    simp [ad]
  refine (fin_nx (ρ' := [some (.int size), some (.int first), some (.int many), some (gt3 first many), some (.lst (S.length + 6))]) (S' := S ++ (cells S.length size first many).take 7) ?_).trans ?_
  · have ad : addD (.lst (S.length + 4)) (.lst (S.length + 5)) (S ++ (cells S.length size first many).take 6) = .ok (.lst (S.length + 6)) (S ++ (cells S.length size first many).take 7) := by
      rw [add_ll (a := al2 S.length size first many) (b := it3 first many) app_k app_k (by simp [it1, it2, it3, al2])]; simp [cells, al3]
    simp [cells, it3] at ad ⊢
    simp [ad]
  refine (fin_nx (ρ' := [some (.int size), some (.int first), some (.int many), some (gt3 first many), some (.lst (S.length + 9))]) (S' := S ++ (cells S.length size first many).take 10) ?_).trans ?_
  · have ad : addD (.lst (S.length + 6)) (.lst (S.length + 8)) (S ++ (cells S.length size first many).take 9) = .ok (.lst (S.length + 9)) (S ++ (cells S.length size first many).take 10) := by
      rw [add_ll (a := al3 S.length size first many) (b := it4 S.length first many) app_k app_k (by simp [it1, it2, it3, it4, it5, it6, it7, al2, al3, al4, al5, al6])]; simp [cells, al4]
    simp [cells, it4] at ad ⊢
    simp [ad]
  refine (fin_nx (ρ' := [some (.int size), some (.int first), some (.int many), some (gt3 first many), some (.lst (S.length + 11))]) (S' := S ++ (cells S.length size first many).take 12) ?_).trans ?_
  · have ad : addD (.lst (S.length + 9)) (.lst (S.length + 10)) (S ++ (cells S.length size first many).take 11) = .ok (.lst (S.length + 11)) (S ++ (cells S.length size first many).take 12) := by
      rw [add_ll (a := al4 S.length size first many) (b := it5 first many) app_k app_k (by simp [it1, it2, it3, it4, it5, it6, it7, al2, al3, al4, al5, al6])]; simp [cells, al5]
    simp [cells, it5] at ad ⊢
    simp [ad]
  refine (fin_nx (ρ' := [some (.int size), some (.int first), some (.int many), some (gt3 first many), some (.lst (S.length + 14))]) (S' := S ++ (cells S.length size first many).take 15) ?_).trans ?_
  · have ad : addD (.lst (S.length + 11)) (.lst (S.length + 13)) (S ++ (cells S.length size first many).take 14) = .ok (.lst (S.length + 14)) (S ++ (cells S.length size first many).take 15) := by
      rw [add_ll (a := al5 S.length size first many) (b := it6 S.length first many) app_k app_k (by simp [it1, it2, it3, it4, it5, it6, it7, al2, al3, al4, al5, al6])]; simp [cells, al6]
    simp [cells, it6] at ad ⊢
    simp [ad]
  refine (fin_nx (ρ' := [some (.int size), some (.int first), some (.int many), some (gt3 first many), some (.lst (S.length + 16))]) (S' := S ++ (cells S.length size first many).take 17) ?_).trans ?_
  · have ad : addD (.lst (S.length + 14)) (.lst (S.length + 15)) (S ++ (cells S.length size first many).take 16) = .ok (.lst (S.length + 16)) (S ++ (cells S.length size first many).take 17) := by
      rw [add_ll (a := al6 S.length size first many) (b := it7 first many) app_k app_k (by simp [it1, it2, it3, it4, it5, it6, it7, al2, al3, al4, al5, al6])]; simp [cells, al7]
    simp [cells, it7] at ad ⊢
    simp [ad, s1, s2]
  have ad : addD (.lst (S.length + 16)) (.lst (S.length + 18)) (S ++ (cells S.length size first many).take 19) = .ok (.lst (S.length + 19)) (S ++ cells S.length size first many) := by
    rw [add_ll (a := al7 S.length size first many) (b := it8 S.length) app_k app_k (by simp [it1, it2, it3, it4, it5, it6, it7, it8, al2, al3, al4, al5, al6, al7])]; simp [cells, al8]
  simp [cells, it8] at ad ⊢
  simp [ad]
end Law

set_option Elab.async false
set_option linter.all false
set_option maxRecDepth 100000
namespace Law
open PySem PySem.Spec PyProof.Rows L2 DL WM
def gp (first many : Int) : PyData := .tuple [.str "dries", .int first, .int many]
def PS (size first many : Int) : List PyData := [gp first many, .list [.str "dries", .int first, .int many], .tuple [.str "dries", .int first], .tuple [.str "dries", .int first, .int many, .int 0], .tuple [gp first many], .list [gp first many], .tuple [.str "dries", .int (first + size), .int many], .tuple [.str "dries", .int (first - size), .int many], .tuple [.str "dries", .int first, .int 0], .tuple [.str "dries", .int first, .int (0 - many)], .tuple [.str "dries", .int first, .int 1], .tuple [.str "dries", .int many, .int first], .tuple [.str "dries", .int first, .int (many + 1)], .tuple [.str "lasts", .int first, .int many], .tuple [.str "Dries", .int first, .int many], .tuple [.str "dry", .int first, .int many], .tuple [.none, .int first, .int many], .tuple [.list [.str "dries"], .int first, .int many], .tuple [.str "dries", .bool true, .int many], .tuple [.str "dries", .bool false, .int many], .tuple [.str "dries", .int first, .bool true], .tuple [.str "dries", .none, .int many], .tuple [.str "dries", .int first, .none], .tuple [.str "dries", .list [.int first], .int many], .tuple [.str "dries", .int first, .tuple [.int many]], .tuple [.str "dries", .str (toString first), .int many], .tuple [.str "dries", .int first, .str (toString many)], .tuple [.int first, .int many], .tuple [.int first, .int many, .str "dries"], .tuple [], .list [], .none, .bool true, .int 0, .str "dries", .str "", .tuple [.str "dries"]]
theorem strOk_of (s : String) : PyData.strOk (Str.ofString s) = true := by
  unfold PyData.strOk
  have hc : ∀ c : Char, c.toNat < 1114112 := fun c => by
    rcases c.valid with h | ⟨_, h⟩
    · exact Nat.lt_of_lt_of_le h (by decide)
    · exact h
  rw [Str.ofString_eq_toList]
  simp [hc]
theorem mapO_cons {f : D → Option PyData} {x : D} {l : List D} {y : PyData} {ys : List PyData} (h1 : f x = some y) (h2 : mapO f l = some ys) : mapO f (x :: l) = some (y :: ys) := by
  simp only [mapO, h1, h2]
theorem things_p {size first many : Int} {S X : Sto} : mapO (toP (S ++ (cells S.length size first many ++ X)) 39) (al8 S.length size first many) = some (PS size first many) := by
  have a0 : (S ++ (cells S.length size first many ++ X))[S.length]? = some ⟨false, [.str "dries", .int first, .int many]⟩ := app_z
  have a1 : (S ++ (cells S.length size first many ++ X))[S.length + 1]? = some ⟨false, [gt3 first many]⟩ := app_k
  have a7 : (S ++ (cells S.length size first many ++ X))[S.length + 7]? = some ⟨false, [.str "dries"]⟩ := app_k
  have a12 : (S ++ (cells S.length size first many ++ X))[S.length + 12]? = some ⟨false, [.int first]⟩ := app_k
  have a17 : (S ++ (cells S.length size first many ++ X))[S.length + 17]? = some ⟨false, []⟩ := app_k
  generalize S ++ (cells S.length size first many ++ X) = Z at *
  have q0 : ∀ k, toP Z (k + 10) (.lst (S.length)) = some (.list [.str "dries", .int first, .int many]) := fun k => by
    show (match Z[S.length]? with | some c => (mapO (toP Z (k + 9)) c.xs).map PyData.list | none => none) = _
    rw [a0]
    rfl
  have l0 : toP Z 39 (.lst (S.length)) = some (.list [.str "dries", .int first, .int many]) := q0 29
  have q1 : ∀ k, toP Z (k + 10) (.lst (S.length + 1)) = some (.list [gp first many]) := fun k => by
    show (match Z[S.length + 1]? with | some c => (mapO (toP Z (k + 9)) c.xs).map PyData.list | none => none) = _
    rw [a1]
    rfl
  have l1 : toP Z 39 (.lst (S.length + 1)) = some (.list [gp first many]) := q1 29
  have q7 : ∀ k, toP Z (k + 10) (.lst (S.length + 7)) = some (.list [.str "dries"]) := fun k => by
    show (match Z[S.length + 7]? with | some c => (mapO (toP Z (k + 9)) c.xs).map PyData.list | none => none) = _
    rw [a7]
    rfl
  have l7 : toP Z 39 (.tup [.lst (S.length + 7), .int first, .int many]) = some (.tuple [.list [.str "dries"], .int first, .int many]) := by
    show (mapO (toP Z 38) [.lst (S.length + 7), .int first, .int many]).map PyData.tuple = _
    rw [mapO_cons (q7 28) (mapO_cons rfl (mapO_cons rfl rfl))]
    rfl
  have q12 : ∀ k, toP Z (k + 10) (.lst (S.length + 12)) = some (.list [.int first]) := fun k => by
    show (match Z[S.length + 12]? with | some c => (mapO (toP Z (k + 9)) c.xs).map PyData.list | none => none) = _
    rw [a12]
    rfl
  have l12 : toP Z 39 (.tup [.str "dries", .lst (S.length + 12), .int many]) = some (.tuple [.str "dries", .list [.int first], .int many]) := by
    show (mapO (toP Z 38) [.str "dries", .lst (S.length + 12), .int many]).map PyData.tuple = _
    rw [mapO_cons rfl (mapO_cons (q12 28) (mapO_cons rfl rfl))]
    rfl
  have q17 : ∀ k, toP Z (k + 10) (.lst (S.length + 17)) = some (.list []) := fun k => by
    show (match Z[S.length + 17]? with | some c => (mapO (toP Z (k + 9)) c.xs).map PyData.list | none => none) = _
    rw [a17]
    rfl
  have l17 : toP Z 39 (.lst (S.length + 17)) = some (.list []) := q17 29
  show mapO (toP Z 39) [gt3 first many, .lst S.length, .tup [.str "dries", .int first], .tup [.str "dries", .int first, .int many, .int 0], .tup [gt3 first many], .lst (S.length + 1), .tup [.str "dries", .int (first + size), .int many], .tup [.str "dries", .int (first - size), .int many], .tup [.str "dries", .int first, .int 0], .tup [.str "dries", .int first, .int (0 - many)], .tup [.str "dries", .int first, .int 1], .tup [.str "dries", .int many, .int first], .tup [.str "dries", .int first, .int (many + 1)], .tup [.str "lasts", .int first, .int many], .tup [.str "Dries", .int first, .int many], .tup [.str "dry", .int first, .int many], .tup [.non, .int first, .int many], .tup [.lst (S.length + 7), .int first, .int many], .tup [.str "dries", .bl true, .int many], .tup [.str "dries", .bl false, .int many], .tup [.str "dries", .int first, .bl true], .tup [.str "dries", .non, .int many], .tup [.str "dries", .int first, .non], .tup [.str "dries", .lst (S.length + 12), .int many], .tup [.str "dries", .int first, .tup [.int many]], .tup [.str "dries", .str (toString first), .int many], .tup [.str "dries", .int first, .str (toString many)], .tup [.int first, .int many], .tup [.int first, .int many, .str "dries"], .tup [], .lst (S.length + 17), .non, .bl true, .int 0, .str "dries", .str "", .tup [.str "dries"]] = _
  exact (mapO_cons rfl (mapO_cons l0 (mapO_cons rfl (mapO_cons rfl (mapO_cons rfl (mapO_cons l1 (mapO_cons rfl (mapO_cons rfl (mapO_cons rfl (mapO_cons rfl (mapO_cons rfl (mapO_cons rfl (mapO_cons rfl (mapO_cons rfl (mapO_cons rfl (mapO_cons rfl (mapO_cons rfl (mapO_cons l7 (mapO_cons rfl (mapO_cons rfl (mapO_cons rfl (mapO_cons rfl (mapO_cons rfl (mapO_cons l12 (mapO_cons rfl (mapO_cons rfl (mapO_cons rfl (mapO_cons rfl (mapO_cons rfl (mapO_cons rfl (mapO_cons l17 (mapO_cons rfl (mapO_cons rfl (mapO_cons rfl (mapO_cons rfl (mapO_cons rfl (mapO_cons rfl rfl)))))))))))))))))))))))))))))))))))))
theorem PS_ok {size first many : Int} : ∀ p ∈ PS size first many, Okp p := by
  intro p h
  simp only [PS, List.mem_cons, List.mem_nil_iff, or_false] at h
  rcases h with rfl | rfl | rfl | rfl | rfl | rfl | rfl | rfl | rfl | rfl | rfl | rfl | rfl | rfl | rfl | rfl | rfl | rfl | rfl | rfl | rfl | rfl | rfl | rfl | rfl | rfl | rfl | rfl | rfl | rfl | rfl | rfl | rfl | rfl | rfl | rfl | rfl <;> simp [Okp, gp, PyData.canLay0, PyData.canLayAll0, PyData.depth, PyData.depthAll, strOk_of]
theorem PS_eq {size first many : Int} : PyData.eqv (.list (PS size first many)) (.list (PS size first many)) = true ∧ Okp (.list (PS size first many)) := by
  have h : Okp (.list (PS size first many)) := by
    simp [Okp, PS, gp, PyData.canLay0, PyData.canLayAll0, PyData.depth, PyData.depthAll, strOk_of]
  exact ⟨SeqAt.eqv_refl _ h.1, h⟩
theorem ne_bb {a : Bool} {S : Sto} : neD (.bl a) (.bl a) S = .ok (.bl false) S := by
  simp only [neD, toP]
  cases a <;> simp [SeqAt.shaped, PyData.eqv, PyData.canLay0, PyData.depth]
end Law

set_option Elab.async false
set_option linter.all false
set_option maxRecDepth 100000
namespace Law
open PySem PySem.Spec PyProof.Rows L2 DL WM
theorem pow_39 {S : Sto} : powD (.int 10) (.int 39) S = .ok (.int 1000000000000000000000000000000000000000) S := pow_nn (n := 39) (by decide) (by decide)
theorem pick4b {S : Sto} {t k : Nat} {a b c d : Int} (h : Tp S t k) (ha : 0 < a ∧ a < 2 ^ 190) (hb : 0 < b ∧ b < 2 ^ 190) (hc : 0 < c ∧ c < 2 ^ 190) (hd : 0 < d ∧ d < 2 ^ 190) : ∃ (r v n : Int) (S1 S2 : Sto), f__law_take [.lst t, .int 4] (S ++ [⟨false, [.int a, .int b, .int c, .int d]⟩]) = .ok (.int r) S1 ∧
    DL.getD (.lst S.length) (.int r) S1 = .ok (.int v) S1 ∧ f__law_large [.lst t, .int v] S1 = .ok (.int n) S2 ∧ 0 ≤ n ∧ n < 2 ^ 190 ∧ Tp S2 t k := by
  obtain ⟨r, S1, e1, r0, r1, t1, s1⟩ := take_ok (m := 4) (h.app (c := ⟨false, [.int a, .int b, .int c, .int d]⟩)) (by decide) (by decide)
  obtain ⟨v, p1, hv0, hv1⟩ : ∃ v : Int, DL.getD (.lst S.length) (.int r) S1 = .ok (.int v) S1 ∧ 0 < v ∧ v < 2 ^ 190 := by
    obtain ⟨x, q, hx⟩ := at4 (a := D.int a) (b := D.int b) (c := D.int c) (d := D.int d) r0 r1
    have p := pick s1 h.lt q
    rcases hx with rfl | rfl | rfl | rfl
    · exact ⟨_, p, ha⟩
    · exact ⟨_, p, hb⟩
    · exact ⟨_, p, hc⟩
    · exact ⟨_, p, hd⟩
  obtain ⟨n, S2, e2, n0, n1, t2, s2⟩ := large_ok (m := v) t1 hv0 (by omega)
  exact ⟨r, v, n, S1, S2, e1, p1, e2, n0, by omega, t2⟩
theorem go {f g : Sv} {ρ ρ' : Lc} {S S' : Sto} (h : f ρ S = .nx ρ' S') (k : ∃ Z, fin (g ρ' S') = .ok (.bl true) Z) : ∃ Z, fin (sq f g ρ S) = .ok (.bl true) Z := by rw [fin_nx h]; exact k
theorem law_ok {S : Sto} {q : Nat} {fz : Bool} {ns : List Int} (e : S[q]? = some ⟨fz, ns.map D.int⟩) : ∃ S', f_law [.lst q] S = .ok (.bl true) S' := by
  obtain ⟨t, k, S1, e1, t1⟩ := tape_ok e
  obtain ⟨ds, S2, e2, t2, h1, h2, h3⟩ := days_ok t1
  have hne : ds ≠ [] := by intro z; subst z; simp at h1
  obtain ⟨f, S3, e3, f0, f1, t3, s3⟩ := take_ok (m := ds.length) t2 (by omega) (by omega)
  obtain ⟨r4, v4, m, S4, S5, e4, p4, e5, m0, m1, t5⟩ := pick4b (a := 3) (b := 200) (c := 1000000000000000000) (d := 1000000000000000000000000000000000000000) t3 (by decide) (by decide) (by decide) (by decide)
  obtain ⟨b0, S6, e6, t6, _, _⟩ := brim_ok (ds := ds) t5 h2
  obtain ⟨fn, rfl⟩ : ∃ n : Nat, f = n := ⟨f.toNat, by omega⟩
  obtain ⟨mn, hmn⟩ : ∃ n : Nat, 1 + m = n := ⟨(1 + m).toNat, by omega⟩
  have su := sum_ok (S := S6) (f := fn) (m := mn) hne h2 h3 (by omega)
  obtain ⟨r7, S7, e7, r70, r71, t7, s7⟩ := take_ok (m := 2) t6 (by decide) (by decide)
  obtain ⟨r8, S8, e8, r80, r81, t8, s8⟩ := take_ok (m := 2) t7 (by decide) (by decide)
  obtain ⟨z0, hz0⟩ : ∃ x : Int, x = 0 - str ds fn mn := ⟨_, rfl⟩
  obtain ⟨nr, hnr⟩ : ∃ x : Int, x = z0 - r7 := ⟨_, rfl⟩
  have sb0 : subD (.int 0) (.int (str ds fn mn)) S6 = .ok (.int z0) S6 := by rw [hz0]; rfl
  have sb1 : subD (.int z0) (.int r7) S7 = .ok (.int nr) S7 := by rw [hnr]; rfl
  suffices h : ∃ S', fin (b_law [some (.lst q), none, none, none, none, none, none, none, none, none] S) = .ok (.bl true) S' from let ⟨S', h⟩ := h; ⟨S', (fnB_ap (m := 10) (b := b_law)).trans h⟩
  unfold b_law
  have g1 : sa (cl 1 (noExc f__law_tape) (ac (vr 0) an)) (gn 1) [some (.lst q), none, none, none, none, none, none, none, none, none] S = .nx [some (.lst q), some (.lst t), none, none, none, none, none, none, none, none] S1 := by simp [e1]
  have g2 : sa (cl 1 (noExc f__law_days) (ac (vr 1) an)) (gn 2) [some (.lst q), some (.lst t), none, none, none, none, none, none, none, none] S1 = .nx [some (.lst q), some (.lst t), some (.tup (ds.map D.int)), none, none, none, none, none, none, none] S2 := by simp [e2]
  have g3 : sa (cl 2 (noExc f__law_take) (ac (vr 1) (ac (b1 lenD (ac (vr 2) an)) an))) (gn 3) [some (.lst q), some (.lst t), some (.tup (ds.map D.int)), none, none, none, none, none, none, none] S2 = .nx [some (.lst q), some (.lst t), some (.tup (ds.map D.int)), some (.int fn), none, none, none, none, none, none] S3 := by simp [e3]
  rw [fin_nx g1, fin_nx g2, fin_nx g3]
  refine go (ρ' := [some (.lst q), some (.lst t), some (.tup (ds.map D.int)), some (.int fn), some (.int mn), none, none, none, none, none]) (S' := S5) (by rw [← hmn]; simp [pow_39, e4, p4, e5]) ?_
  refine go (ρ' := [some (.lst q), some (.lst t), some (.tup (ds.map D.int)), some (.int fn), some (.int mn), some (.int b0), none, none, none, none]) (S' := S6) (by simp [e6]) ?_
  refine go (ρ' := [some (.lst q), some (.lst t), some (.tup (ds.map D.int)), some (.int fn), some (.int mn), some (.int b0), some (.int nr), none, none, none]) (S' := S7) (by simp [su, sb0, sb1, e7, -sub_ii]) ?_
  obtain ⟨b, gb⟩ : ∃ b : Int, sif (ta (tb (o2 eqD (cl 2 (noExc f__law_take) (ac (vr 1) (ac (cn (.int 2)) an))) (cn (.int 0)))) (tb (ch leD leD (cn (.int 0)) (vr 6) (o2 powD (cn (.int 10)) (cn (.int 15)))))) (sa (vr 6) (gn 5)) DL.skip [some (.lst q), some (.lst t), some (.tup (ds.map D.int)), some (.int fn), some (.int mn), some (.int b0), some (.int nr), none, none, none] S7 = .nx [some (.lst q), some (.lst t), some (.tup (ds.map D.int)), some (.int fn), some (.int mn), some (.int b), some (.int nr), none, none, none] S8 := by
    by_cases c1 : r8 = 0
    · by_cases c2 : 0 ≤ nr
      · by_cases c3 : nr ≤ 1000000000000000
        · exact ⟨nr, by simp [e8, c1, c2, c3]⟩
        · exact ⟨b0, by simp [e8, c1, c2, c3]⟩
      · exact ⟨b0, by simp [e8, c1, c2]⟩
    · exact ⟨b0, by simp [e8, c1]⟩
  rw [fin_nx gb]
  have lf : (fn : Int).natAbs < 2 ^ 200 := by omega
  have lm : (mn : Int).natAbs < 2 ^ 200 := by omega
  have th := things_ok (size := ds.length) (S := S8) lf lm
  refine go (ρ' := [some (.lst q), some (.lst t), some (.tup (ds.map D.int)), some (.int fn), some (.int mn), some (.int b), some (.int nr), some (.lst (S8.length + 19)), none, none]) (S' := S8 ++ cells S8.length ds.length fn mn) (by simp [th]) ?_
  have hT : (S8 ++ cells S8.length ds.length fn mn)[S8.length + 19]? = some ⟨false, al8 S8.length ds.length fn mn⟩ := app_k
  have hp := things_p (S := S8) (X := []) (size := ds.length) (first := fn) (many := mn)
  rw [List.append_nil] at hp
  have th2 := things_ok (size := ds.length) (S := S8 ++ cells S8.length ds.length fn mn) lf lm
  have hp1 := things_p (S := S8) (X := cells (S8 ++ cells S8.length ds.length fn mn).length ds.length fn mn) (size := ds.length) (first := fn) (many := mn)
  have hT1 : (S8 ++ (cells S8.length ds.length fn mn ++ cells (S8 ++ cells S8.length ds.length fn mn).length ds.length fn mn))[S8.length + 19]? = some ⟨false, al8 S8.length ds.length fn mn⟩ := app_k
  rw [← List.append_assoc] at hp1 hT1
  generalize hS9 : S8 ++ cells S8.length ds.length fn mn = S9 at *
  have hp2 := things_p (S := S9) (X := []) (size := ds.length) (first := fn) (many := mn)
  have hT2 : (S9 ++ (cells S9.length ds.length fn mn ++ []))[S9.length + 19]? = some ⟨false, al8 S9.length ds.length fn mn⟩ := app_k
  rw [List.append_nil] at hp2 hT2
  generalize hS10 : S9 ++ cells S9.length ds.length fn mn = S10 at *
  generalize hxs : al8 S8.length ds.length fn mn = xs at *
  have hsrc : srcOf (.lst (S8.length + 19)) S9 = .ok (srcL (S8.length + 19) xs.length) S9 := src_l hT
  obtain ⟨ρ', S', ef, g8, g9, e9, e10⟩ := for_inv (nxt := (srcL (S8.length + 19) xs.length).nxt) (g := gn 8) (b := lb_law_1) (l := xs) (fun _ ρ S' => ∃ g8 g9, ρ = [some (.lst q), some (.lst t), some (.tup (ds.map D.int)), some (.int fn), some (.int mn), some (.int b), some (.int nr), some (.lst (S8.length + 19)), g8, g9] ∧ S' = S9)
    (fun j ρ S2 ⟨_, _, _, h⟩ => by
      subst h
      show (S2[S8.length + 19]?).bind (fun c => c.xs[j]?) = _
      rw [hT]; rfl) (fun j d ρ S2 hd ⟨g8, g9, h1', h2'⟩ => by
      subst h1' h2'
      obtain ⟨p, ep, hpm⟩ := mapO_get hp hd
      obtain ⟨w1, w2⟩ := shows_ok (b := b) hne h2 h3 ep (PS_ok p hpm)
      exact ⟨_, [some (.lst q), some (.lst t), some (.tup (ds.map D.int)), some (.int fn), some (.int mn), some (.int b), some (.int nr), some (.lst (S8.length + 19)), some d, some (.bl (due ds b d))], _, rfl, by simp [lb_law_1, w1, w2, isD, isT, tyN, truD, ne_bb], _, _, rfl, rfl⟩) (srcL (S8.length + 19) xs.length).fuel 0 [some (.lst q), some (.lst t), some (.tup (ds.map D.int)), some (.int fn), some (.int mn), some (.int b), some (.int nr), some (.lst (S8.length + 19)), none, none] S9 (Nat.zero_le _) ⟨none, none, rfl, rfl⟩ (Nat.lt_succ_self _)
  subst e9 e10
  refine go (ρ' := [some (.lst q), some (.lst t), some (.tup (ds.map D.int)), some (.int fn), some (.int mn), some (.int b), some (.int nr), some (.lst (S8.length + 19)), g8, g9]) (S' := S') (by simp [hsrc]; exact ef) ?_
  have tp1 : toP S10 40 (.lst (S8.length + 19)) = some (.list (PS ds.length fn mn)) := by
    show (match S10[S8.length + 19]? with | some c => (mapO (toP S10 39) c.xs).map PyData.list | none => none) = _
    rw [hT1]
    show (mapO (toP S10 39) xs).map PyData.list = _
    rw [hp1]; rfl
  have tp2 : toP S10 40 (.lst (S'.length + 19)) = some (.list (PS ds.length fn mn)) := by
    show (match S10[S'.length + 19]? with | some c => (mapO (toP S10 39) c.xs).map PyData.list | none => none) = _
    rw [hT2]
    show (mapO (toP S10 39) (al8 S'.length ds.length fn mn)).map PyData.list = _
    rw [hp2]; rfl
  have eqq : eqD (.lst (S8.length + 19)) (.lst (S'.length + 19)) S10 = .ok (.bl true) S10 := by
    obtain ⟨q1, q2⟩ := PS_eq (size := ds.length) (first := fn) (many := mn)
    simp only [eqD, tp1, tp2, q2.sh, Bool.and_self, if_true, q1]
  exact ⟨S10, by simp [th2, eqq]⟩
theorem hsp (K : PySem.W.Frag) (H : Hp) (a : Addr) (ns : List Int) (hl : ns.length ≤ 63) (hO : Only H) (hS : SqL K H a (ns.map V.int)) : spD K 1 f_law [.ref a] H (fun v _ => v = .bl true) fun _ _ _ => False := by
  have hF : SqF K H a (ns.map V.int) := by
    rcases hS with (h | h) | h
    · rcases hO a with z | ⟨o, xs, z⟩
      · rw [z] at h; cases h
      · rw [z] at h; cases h
    · exact .inl h
    · exact .inr h
  obtain ⟨S', e⟩ := law_ok (S := [⟨true, ns.map D.int⟩]) (q := 0) (fz := true) (ns := ns) rfl
  refine ⟨[a], [.lst 0], [⟨true, ns.map D.int⟩], ⟨rfl, fun i b c h1 h2 => ?_, fun i j b ci cj h1 h2 h3 h4 h5 h6 => ?_⟩, RepL.cons ⟨a, rfl, rfl⟩ RepL.nil, rfl, ?_⟩
  · cases i with
    | zero =>
      cases (Option.some.inj h1)
      cases (Option.some.inj h2)
      exact ⟨ns.map V.int, rep_ints ns, (if_pos rfl).mpr hF⟩
    | succ i => simp at h1
  · cases i with
    | zero => cases (Option.some.inj h3); cases h5
    | succ i => simp at h1
  · show PostF K [a] H (f_law [.lst 0] [⟨true, ns.map D.int⟩]) _
    rw [e]
    exact fun mp' H' v _ _ h => h
end Law

set_option Elab.async false
open PySem PySem.W PyProof.Rows
set_option maxRecDepth 100000 in
set_option maxHeartbeats 0 in
theorem PySem.Challenge.cw_summitwater_k55_stretches_of_any_thing_holds : PySem.Challenge.rw_summitwater_k55_stretches_of_any_thing.Holds := by
  w_on; o_law; k_head; (case hw => w_witness2)
  k_fill
  refine L2.walk_ofK (l := PySem.Challenge.rw_summitwater_k55_stretches_of_any_thing) (n := 63) (k := 5) (x := "script") (CX := L2.CX0) (sp := fun K => DL.spD K 1 Law.f_law) rfl (by decide) rfl ⟨rfl, by decide, by decide, rfl⟩ (fun w h Y => PySem.W.kIn_of Y) ?F Law.hsp (fun _ _ _ _ z => z)
  case F =>
    intro w mg fa h KX G hmg
    refine' Law.all_mk KX G hmg ?a_is_whole ?l_is_whole ?c_is_whole ?k_is_whole ?a_is_between ?l_is_between ?c_is_between ?k_is_between ?a_is_tuple ?l_is_tuple ?c_is_tuple ?k_is_tuple ?a_stretch_sum ?l_stretch_sum ?c_stretch_sum ?k_stretch_sum ?a_shows_dry ?l_shows_dry ?c_shows_dry ?k_shows_dry ?a__law_mixed ?l__law_mixed ?c__law_mixed ?k__law_mixed ?a__law_tape ?l__law_tape ?c__law_tape ?k__law_tape ?a__law_take ?l__law_take ?c__law_take ?k__law_take ?a__law_large ?l__law_large ?c__law_large ?k__law_large ?a__law_days ?l__law_days ?c__law_days ?k__law_days ?a__law_need ?l__law_need ?c__law_need ?k__law_need ?a__law_brim ?l__law_brim ?c__law_brim ?k__law_brim ?a__law_number ?l__law_number ?c__law_number ?k__law_number ?a__law_dries ?l__law_dries ?c__law_dries ?k__law_dries ?a__law_sum ?l__law_sum ?c__law_sum ?k__law_sum ?a__law_things ?l__law_things ?c__law_things ?k__law_things ?a__law_due ?l__law_due ?c__law_due ?k__law_due ?a_law ?l_law ?c_law ?k_law ?z_bool ?z_divmod ?z_int ?z_isinstance ?z_len ?z_list ?z_max ?z_min ?z_range ?z_str ?z_sum ?z_tuple
    (case a_is_whole => k_is); (case l_is_whole => k_is); (case c_is_whole => k_is); (case k_is_whole => k_is)
    (case a_is_between => k_is); (case l_is_between => k_is); (case c_is_between => k_is); (case k_is_between => k_is)
    (case a_is_tuple => k_is); (case l_is_tuple => k_is); (case c_is_tuple => k_is); (case k_is_tuple => k_is)
    (case a_stretch_sum => k_is); (case l_stretch_sum => k_is); (case c_stretch_sum => k_is); (case k_stretch_sum => k_is)
    (case a_shows_dry => k_is); (case l_shows_dry => k_is); (case c_shows_dry => k_is); (case k_shows_dry => k_is)
    (case a__law_mixed => k_is); (case l__law_mixed => k_is); (case c__law_mixed => k_is); (case k__law_mixed => k_is)
    (case a__law_tape => k_is); (case l__law_tape => k_is); (case c__law_tape => k_is); (case k__law_tape => k_is)
    (case a__law_take => k_is); (case l__law_take => k_is); (case c__law_take => k_is); (case k__law_take => k_is)
    (case a__law_large => k_is); (case l__law_large => k_is); (case c__law_large => k_is); (case k__law_large => k_is)
    (case a__law_days => k_is); (case l__law_days => k_is); (case c__law_days => k_is); (case k__law_days => k_is)
    (case a__law_need => k_is); (case l__law_need => k_is); (case c__law_need => k_is); (case k__law_need => k_is)
    (case a__law_brim => k_is); (case l__law_brim => k_is); (case c__law_brim => k_is); (case k__law_brim => k_is)
    (case a__law_number => k_is); (case l__law_number => k_is); (case c__law_number => k_is); (case k__law_number => k_is)
    (case a__law_dries => k_is); (case l__law_dries => k_is); (case c__law_dries => k_is); (case k__law_dries => k_is)
    (case a__law_sum => k_is); (case l__law_sum => k_is); (case c__law_sum => k_is); (case k__law_sum => k_is)
    (case a__law_things => k_is); (case l__law_things => k_is); (case c__law_things => k_is); (case k__law_things => k_is)
    (case a__law_due => k_is); (case l__law_due => k_is); (case c__law_due => k_is); (case k__law_due => k_is)
    (case a_law => k_is); (case l_law => k_is); (case c_law => k_is); (case k_law => k_is)
    (case z_bool => k_is)
    (case z_divmod => k_is)
    (case z_int => k_is)
    (case z_isinstance => k_is)
    (case z_len => k_is)
    (case z_list => k_is)
    (case z_max => k_is)
    (case z_min => k_is)
    (case z_range => k_is)
    (case z_str => k_is)
    (case z_sum => k_is)
    (case z_tuple => k_is)
