import PyProof.Rows.All
import Wide.All
import OpenK.AllK
import Wide.FinOn
import Lean
import PyProof.EqAt
import PyProof.EqKinds
import PyProof.TupleCall
import PyProof.ZipIter
import PyProof.Draws
import PySem.Challenge.RW_steadyhand_k21_what_a_rule_tells
set_option Elab.async false
set_option linter.all false
set_option maxRecDepth 100000
/-! THE HAND LAYER, for ints, bools, texts, own classes, LISTS and tuples (index, slices, in, append, pop ..), calls, loops. Paste it whole ahead of your own text; what your proof does not reach may be deleted. -/
namespace L2
open PySem PySem.Spec PyProof.Rows

/-- a key: an int or a str -/
abbrev Key := Sum Int Str
def keyIs : Key → Value → Bool
  | .inl k, v => Value.isInt k v
  | .inr x, v => Value.isStrOf x v
def keyH (w : World) : Key → Int
  | .inl k => hashInt k
  | .inr x => hashStr w x
theorem keyIs_shape : ∀ {k : Key} {v : Value}, keyIs k v = true → (∃ i t, k = Sum.inl i ∧ v = Value.int i t) ∨ (∃ x t, k = Sum.inr x ∧ v = Value.str x t)
  | .inl i, v, h => by
    obtain ⟨t, e⟩ := Value.isInt_shape (k := i) (v := v) h
    exact .inl ⟨i, t, rfl, e⟩
  | .inr x, v, h => by
    obtain ⟨t, e⟩ := Value.isStrOf_shape (x := x) (v := v) h
    exact .inr ⟨x, t, rfl, e⟩
theorem keyIs_int (i : Int) (t : Tok) : keyIs (.inl i) (.int i t) = true := by simp [keyIs, Value.isInt]
theorem keyIs_str (x : Str) (t : Tok) : keyIs (.inr x) (.str x t) = true := by simp [keyIs, Value.isStrOf]
theorem key_ll (a b : Int) : decide ((Sum.inl a : Key) = Sum.inl b) = (a == b) := by
  by_cases e : a = b
  · subst e; simp
  · have h : ¬ (Sum.inl a : Key) = Sum.inl b := fun q => e (Sum.inl.inj q)
    rw [decide_eq_false h]
    exact (beq_eq_false_iff_ne.mpr e).symm
theorem key_rr (a b : Str) : decide ((Sum.inr a : Key) = Sum.inr b) = decide (a = b) := by
  by_cases e : a = b
  · subst e; simp
  · have h : ¬ (Sum.inr a : Key) = Sum.inr b := fun q => e (Sum.inr.inj q)
    rw [decide_eq_false h, decide_eq_false e]
theorem key_lr (a : Int) (b : Str) : decide ((Sum.inl a : Key) = Sum.inr b) = false := decide_eq_false (fun q => nomatch q)
theorem key_rl (a : Str) (b : Int) : decide ((Sum.inr a : Key) = Sum.inl b) = false := decide_eq_false (fun q => nomatch q)

def mixKind (prog : Program) (w : World) : PySem.KeyKind prog w Key where
  is := keyIs
  hash := keyH w
  inj := fun v a b ha hb => by
    rcases keyIs_shape ha with ⟨i, t, rfl, rfl⟩ | ⟨x, t, rfl, rfl⟩
    · rcases keyIs_shape hb with ⟨j, u, rfl, e⟩ | ⟨y, u, rfl, e⟩
      · injection e with e1 _; rw [e1]
      · exact nomatch e
    · rcases keyIs_shape hb with ⟨j, u, rfl, e⟩ | ⟨y, u, rfl, e⟩
      · exact nomatch e
      · injection e with e1 _; rw [e1]
  byValue := fun k v h => by
    rcases keyIs_shape h with ⟨i, t, rfl, rfl⟩ | ⟨x, t, rfl, rfl⟩ <;> rfl
  pyHash := fun hv h => by
    rcases keyIs_shape hv with ⟨i, t, rfl, rfl⟩ | ⟨x, t, rfl, rfl⟩
    · exact wpAny_pyHash_int h
    · exact wpAny_pyHash_str h
  eqBool := fun hu hv h => by
    rcases keyIs_shape hu with ⟨i, t, rfl, rfl⟩ | ⟨x, t, rfl, rfl⟩
    · rcases keyIs_shape hv with ⟨j, u, rfl, rfl⟩ | ⟨y, u, rfl, rfl⟩
      · rw [key_ll] at h; exact wpAny_eqBool_int h
      · rw [key_lr] at h; exact SeqAt.EqAt.int_str i t y u _ _ _ _ h
    · rcases keyIs_shape hv with ⟨j, u, rfl, rfl⟩ | ⟨y, u, rfl, rfl⟩
      · rw [key_rl] at h; exact SeqAt.EqAt.str_int x t j u _ _ _ _ h
      · rw [key_rr] at h; exact wpAny_eqBool_str h
  «strs» := fun k x t v h => by
    rcases keyIs_shape h with ⟨i, u, rfl, e⟩ | ⟨y, u, rfl, e⟩
    · exact nomatch e
    · injection e with e1 _
      subst e1
      cases v <;> rfl

theorem mixKind_is (prog : Program) (w : World) (k : Key) (v : Value) : (mixKind prog w).is k v = keyIs k v := rfl
theorem mixKind_int (prog : Program) (w : World) (i : Int) (t : Tok) : (mixKind prog w).is (.inl i) (.int i t) = true := keyIs_int i t
theorem mixKind_str (prog : Program) (w : World) (x : Str) (t : Tok) : (mixKind prog w).is (.inr x) (.str x t) = true := keyIs_str x t
end L2

namespace L2
open PySem PySem.Spec PyProof.Rows

/-- a value, without the heap -/
inductive V where
  | non | bl (b : Bool) | int (i : Int) | str (x : Str) | byt (b : Array UInt8) | flt (b : UInt64) | ref (a : Addr) | ty (n : String)
  deriving DecidableEq

def RelV : V → Value → Prop
  | .non, u => u = Value.none
  | .bl b, u => u = Value.bool b
  | .int i, u => ∃ t, u = Value.int i t
  | .str x, u => ∃ t, u = Value.str x t
  | .byt b, u => ∃ t, u = Value.bytes b t
  | .flt b, u => ∃ t, u = Value.float b t
  | .ref a, u => u = Value.ref a
  | .ty n, u => u = Value.type n

abbrev Vals : List V → List Value → Prop := Paired RelV
theorem Vals.length {xs : List V} {us : List Value} (r : Vals xs us) : xs.length = us.length := Paired.length r
theorem Vals.get : ∀ {xs : List V} {us : List Value} {i : Nat} {x : V}, Vals xs us → xs[i]? = some x → ∃ u, us[i]? = some u ∧ RelV x u
  | _, _, _, _, .nil, e => by simp at e
  | _, _, 0, _, .cons r _, e => by simp at e; subst e; exact ⟨_, rfl, r⟩
  | _, _, i + 1, x, .cons _ t, e => by
    obtain ⟨u, h1, h2⟩ := Vals.get (i := i) (x := x) t (by simpa using e)
    exact ⟨u, by simpa using h1, h2⟩
theorem Vals.set {x : V} {u : Value} (r : RelV x u) : ∀ {xs : List V} {us : List Value} (i : Nat), Vals xs us → Vals (xs.set i x) (us.set i u)
  | _, _, _, .nil => .nil
  | _, _, 0, .cons _ t => .cons r t
  | _, _, i + 1, .cons q t => .cons q (Vals.set r i t)
theorem Vals.append : ∀ {xs ys : List V} {us ws : List Value}, Vals xs us → Vals ys ws → Vals (xs ++ ys) (us ++ ws)
  | _, _, _, _, .nil, s => s
  | _, _, _, _, .cons r t, s => .cons r (Vals.append t s)
theorem Vals.take : ∀ {xs : List V} {us : List Value} (n : Nat), Vals xs us → Vals (xs.take n) (us.take n)
  | _, _, 0, _ => .nil
  | _, _, _ + 1, .nil => .nil
  | _, _, n + 1, .cons r t => .cons r (Vals.take n t)
theorem Vals.drop : ∀ {xs : List V} {us : List Value} (n : Nat), Vals xs us → Vals (xs.drop n) (us.drop n)
  | _, _, 0, r => r
  | _, _, _ + 1, .nil => .nil
  | _, _, n + 1, .cons _ t => Vals.drop n t
theorem Vals.none_of : ∀ {xs : List V} {us : List Value} {i : Nat}, Vals xs us → xs[i]? = none → us[i]? = none := fun {xs us i} r e => by
  have h1 := r.length
  have h2 : xs.length ≤ i := List.getElem?_eq_none_iff.mp e
  exact List.getElem?_eq_none_iff.mpr (by omega)

def RelO : Option V → Option Value → Prop
  | some v, some u => RelV v u
  | none, none => True
  | _, _ => False
def KV {κ : Type} : List (κ × V) → List (κ × Value) → Prop := Paired fun (p : κ × V) (q : κ × Value) => p.1 = q.1 ∧ RelV p.2 q.2

/-- a key of a dict (00_mix): an int or a text -/
def kV : Key → V
  | .inl i => .int i
  | .inr x => .str x

/-- what stands at a tracked address -/
inductive HO where
  /-- a list -/
  | lst (xs : List V)
  /-- a tuple (never changes) -/
  | tup (xs : List V)
  /-- a dict whose keys are ints and texts; one whose keys are tuples of ints and texts (the empty one is both) -/
  | dK (kvs : List (Key × V)) | dT (kvs : List (List Key × V))
  /-- a set of ints: its members, its size -/
  | set (S : Int → Bool) (n : Nat)
  /-- an instance of the class at C, its dict at dx, its attributes -/
  | ins (C dx : Addr) (fs : List (Str × V))
  /-- the dict of the instance at x -/
  | own (x : Addr)
  /-- the dict of an exception -/
  | xd (fs : List (Str × V))
  /-- a bound method, f of x -/
  | met (f x : Addr)
  /-- a range object lo, lo + 1, .. below hi -/
  | rng (lo hi : Int)
  /-- a thing that is known to the object (the script; a dict while a loop walks it): read, never written while it is so -/
  | frz (o : Obj) (u : HO)
  /-- a code object's table -/
  | tbl (ps : Array Value)
  /-- any other thing, by what is true of its one object (a def of one's own: SetO a S n := HO.ext fun h => ..) -/
  | ext (φ : Heap → Prop)

abbrev Hp := Addr → Option HO
def upd (H : Hp) (a : Addr) (o : HO) : Hp := fun b => if b = a then some o else H b
theorem upd_same {H : Hp} {a : Addr} {o : HO} : upd H a o a = some o := by unfold upd; rw [if_pos rfl]
theorem upd_ne {H : Hp} {a b : Addr} {o : HO} (h : b ≠ a) : upd H a o b = H b := by unfold upd; rw [if_neg h]
theorem upd_upd {H : Hp} {a : Addr} {o u : HO} : upd (upd H a o) a u = upd H a u := by
  funext b; unfold upd; split <;> rfl
/-- two objects of different content stand apart -/
theorem ne_of {H : Hp} {a b : Addr} {o u : HO} (h : H a = some o) (h' : H b = some u) (d : o ≠ u) : a ≠ b := by
  intro e; subst e; rw [h] at h'; exact d (Option.some.inj h')
theorem ne_of_none {H : Hp} {a b : Addr} {o : HO} (h : H a = some o) (h' : H b = none) : a ≠ b := by
  intro e; subst e; rw [h] at h'; cases h'

section
variable (P : Program) (w : World)
def ObjOk (H : Hp) (h : Heap) (a : Addr) : HO → Prop
  | .lst xs => xs.length ≤ sizeLine ∧ ∃ (its : List Value) (n : Nat), Vals xs its ∧ h.get? a = some { cls := .type "list", data := .seq its.toArray n }
  | .tup xs => xs.length ≤ sizeLine ∧ ∃ its : List Value, Vals xs its ∧ IsTup h a its.toArray
  | .dK kvs => kvs.length ≤ sizeLine ∧ (a == sysModules) = false ∧ ∃ vs, KV kvs vs ∧ h.DictOf (mixKind P w) a vs
  | .dT kvs => kvs.length ≤ sizeLine ∧ (a == sysModules) = false ∧ ∃ xs : List (List Key × Addr × Value),
      Paired (fun (p : List Key × V) (q : List Key × Addr × Value) => p.1 = q.1 ∧ H q.2.1 = some (.tup (p.1.map kV)) ∧ RelV p.2 q.2.2) kvs xs ∧
      ∃ o es ep, h.get? a = some o ∧ o.ExactDict ∧ o.data = .dict es ep ∧ es.toList = xs.map (entryOfKey (tupleKind (mixKind P w))) ∧ (xs.map (·.1)).Nodup
  | .set S n => h.SetOf (intKind P w) a S n
  | .ins C dx fs => H dx = some (.own a) ∧ fs.length ≤ 1000 ∧ dx ≠ a ∧ h.get? a = some (PySem.W.instObj C dx) ∧
      ∃ mA, h.Ns1 dx mA ∧ (∀ f, RelO (fs.lookup f) (mA f)) ∧ PySem.Within mA (fs.map (·.1))
  | .own _ => ∃ o, h.get? a = some o
  | .xd fs => ∃ mA, h.Ns1 a mA ∧ ∀ f, RelO (fs.lookup f) (mA f)
  | .rng lo hi => ∃ t u v, h.get? a = some { cls := .type "range", data := .fields #[.int lo t, .int hi u, .int 1 v] }
  | .frz o u => h.get? a = some o ∧ ObjOk H h a u
  | .tbl ps => h.get? a = some { cls := .none, data := .fields ps }
  | .met f x => h.get? a = some (PySem.W.methodObj (.ref f) (.ref x))
  | .ext φ => φ h ∧ (∃ o, h.get? a = some o) ∧ ∀ h1 h2 : Heap, φ h1 → (∀ o, h1.get? a = some o → h2.get? a = some o) → φ h2
/-- the abstract heap is held -/
def HOk (H : Hp) (h : Heap) : Prop := ∀ a o, H a = some o → ObjOk P w H h a o
end

section
variable {P : Program} {w : World} {H H' : Hp} {h h' : Heap} {a : Addr} {o : HO}
theorem ObjOk.lt (x : ObjOk P w H h a o) : a < h.objs.size := by
  cases o with
  | lst xs => obtain ⟨_, _, _, _, e⟩ := x; exact Heap.lt_size e
  | tup xs => obtain ⟨_, _, _, p⟩ := x; exact p.lt
  | dK kvs => obtain ⟨_, _, _, _, o, _, _, e, _⟩ := x; exact Heap.lt_size e
  | dT kvs => obtain ⟨_, _, _, _, o, _, _, e, _⟩ := x; exact Heap.lt_size e
  | set S n => obtain ⟨o, _, _, _, e, _⟩ := x; exact Heap.lt_size e
  | ins C dx fs => obtain ⟨_, _, _, e, _⟩ := x; exact Heap.lt_size e
  | own y => obtain ⟨_, e⟩ := x; exact Heap.lt_size e
  | xd fs => obtain ⟨_, ⟨_, _, _, e, _⟩, _⟩ := x; exact Heap.lt_size e
  | rng lo hi => obtain ⟨_, _, _, e⟩ := x; exact Heap.lt_size e
  | frz ob u => obtain ⟨e, _⟩ := x; exact Heap.lt_size e
  | tbl ps => exact Heap.lt_size (show h.get? a = some _ from x)
  | met f y => exact Heap.lt_size (show h.get? a = some _ from x)
  | ext φ => obtain ⟨_, ⟨_, e⟩, _⟩ := x; exact Heap.lt_size e
theorem Paired.mapP {α β : Type} {F G : α → β → Prop} : ∀ {l₁ : List α} {l₂ : List β}, Paired F l₁ l₂ → (∀ a b, F a b → G a b) → Paired G l₁ l₂
  | _, _, .nil, _ => .nil
  | _, _, .cons r t, f => .cons (f _ _ r) (Paired.mapP t f)
theorem Paired.imp' {α β : Type} {F G : α → β → Prop} (f : ∀ a b, F a b → G a b) {l₁ : List α} {l₂ : List β} (r : Paired F l₁ l₂) : Paired G l₁ l₂ := Paired.mapP r f
/-- what an object's description leans on: its own object, its own dict, the tuples -/
theorem ObjOk.stay (x : ObjOk P w H h a o) (k : ∀ b u, (b = a ∨ H b = some (.own a)) → h.get? b = some u → h'.get? b = some u)
    (ho : ∀ b, H b = some (.own a) → H' b = some (.own a)) (ht : ∀ b xs, H b = some (.tup xs) → H' b = some (.tup xs)) : ObjOk P w H' h' a o := by
  induction o with
  | lst xs => obtain ⟨z, its, n, r, e⟩ := x; exact ⟨z, its, n, r, k _ _ (.inl rfl) e⟩
  | tup xs => obtain ⟨z, its, r, ob, e, c⟩ := x; exact ⟨z, its, r, ob, k _ _ (.inl rfl) e, c⟩
  | dK kvs => obtain ⟨z, y, vs, r, ob, es, ep, e, c⟩ := x; exact ⟨z, y, vs, r, ob, es, ep, k _ _ (.inl rfl) e, c⟩
  | dT kvs =>
    obtain ⟨z, y, xs, r, ob, es, ep, e, c⟩ := x
    exact ⟨z, y, xs, Paired.mapP r fun p q z => ⟨z.1, ht _ _ z.2.1, z.2.2⟩, ob, es, ep, k _ _ (.inl rfl) e, c⟩
  | set S n => obtain ⟨ob, es, ep, t, e, c⟩ := x; exact ⟨ob, es, ep, t, k _ _ (.inl rfl) e, c⟩
  | ins C dx fs =>
    obtain ⟨d, z, ne, e, mA, ⟨od, es, ep, e2, c⟩, r⟩ := x
    exact ⟨ho _ d, z, ne, k _ _ (.inl rfl) e, mA, ⟨od, es, ep, k _ _ (.inr d) e2, c⟩, r⟩
  | own y => obtain ⟨ob, e⟩ := x; exact ⟨ob, k _ _ (.inl rfl) e⟩
  | xd fs => obtain ⟨mA, ⟨od, es, ep, e, c⟩, r⟩ := x; exact ⟨mA, ⟨od, es, ep, k _ _ (.inl rfl) e, c⟩, r⟩
  | rng lo hi => obtain ⟨t, u, v, e⟩ := x; exact ⟨t, u, v, k _ _ (.inl rfl) e⟩
  | frz ob u ih => obtain ⟨e, q⟩ := x; exact ⟨k _ _ (.inl rfl) e, ih q⟩
  | tbl ps =>
    have e : h.get? a = some { cls := .none, data := .fields ps } := x
    show h'.get? a = some { cls := .none, data := .fields ps }
    exact k a _ (.inl rfl) e
  | met f y =>
    have e : h.get? a = some (PySem.W.methodObj (.ref f) (.ref y)) := x
    show h'.get? a = some (PySem.W.methodObj (.ref f) (.ref y))
    exact k a _ (.inl rfl) e
  | ext φ => obtain ⟨p, ⟨o, e⟩, st⟩ := x; exact ⟨st _ _ p fun o q => k _ _ (.inl rfl) q, ⟨o, k _ _ (.inl rfl) e⟩, st⟩
theorem HOk.lt (x : HOk P w H h) (e : H a = some o) : a < h.objs.size := (x a o e).lt
theorem HOk.fresh (x : HOk P w H h) (e : h.objs.size ≤ a) : H a = none := by
  cases q : H a with
  | none => rfl
  | some u => exact absurd (Nat.lt_of_lt_of_le (x.lt q) e) (Nat.lt_irrefl _)
/-- every object of the heap is kept -/
theorem HOk.kept (x : HOk P w H h) (k : ∀ b u, h.get? b = some u → h'.get? b = some u) : HOk P w H h' := fun a o e =>
  (x a o e).stay (fun b u _ q => k b u q) (fun _ q => q) fun _ _ q => q
/-- a new object is laid and tracked -/
theorem HOk.laid (x : HOk P w H h) (k : ∀ b u, h.get? b = some u → h'.get? b = some u) (hp : h.objs.size ≤ a) (new : ObjOk P w (upd H a o) h' a o) : HOk P w (upd H a o) h' := fun b u e => by
  have hn := x.fresh hp
  by_cases hb : b = a
  · subst hb; rw [upd_same] at e; cases e; exact new
  · rw [upd_ne hb] at e
    exact (x b u e).stay (fun c v _ q => k c v q) (fun c q => by rw [upd_ne (ne_of_none q hn)]; exact q) fun c xs q => by rw [upd_ne (ne_of_none q hn)]; exact q
end

/-- what may be read as u: it is u, or a known u -/
def Rd (H : Hp) (a : Addr) (u : HO) : Prop := H a = some u ∨ ∃ o, H a = some (.frz o u)
theorem Rd.of {H : Hp} {a : Addr} {u : HO} (h : H a = some u) : Rd H a u := .inl h
theorem Rd.ok {P : Program} {w : World} {H : Hp} {h : Heap} {a : Addr} {u : HO} (r : Rd H a u) (x : HOk P w H h) : ObjOk P w H h a u := by
  rcases r with r | ⟨o, r⟩
  · exact x a u r
  · obtain ⟨_, q⟩ := x a _ r
    exact q
/-- what may be written -/
def Mut : Option HO → Prop
  | some (.lst _) => True
  | some (.dK _) => True
  | some (.dT _) => True
  | some (.set _ _) => True
  | some (.ins _ _ _) => True
  | some (.ext _) => True
  | _ => False
section
variable {P : Program} {w : World} {H : Hp} {h h' : Heap} {x e : Addr} {o' : HO}
/-- the object at e is changed: x itself, or the dict of the instance x -/
theorem HOk.write (ok : HOk P w H h) (mu : Mut (H x)) (he : e = x ∨ H e = some (.own x)) (k : ∀ b u, b ≠ e → h.get? b = some u → h'.get? b = some u) (heo : ∃ u, h'.get? e = some u)
    (new : ObjOk P w (upd H x o') h' x o') : HOk P w (upd H x o') h' := fun b u q => by
  have nown : ∀ c y, H c = some (.own y) → c ≠ x := fun c y r z => by subst z; rw [r] at mu; exact mu
  have ntup : ∀ c xs, H c = some (.tup xs) → c ≠ x := fun c xs r z => by subst z; rw [r] at mu; exact mu
  by_cases hb : b = x
  · subst hb; rw [upd_same] at q; cases q; exact new
  · rw [upd_ne hb] at q
    by_cases hbe : b = e
    · have q' : H b = some (.own x) := by
        rcases he with z | z
        · exact absurd (hbe.trans z) hb
        · rw [hbe]; exact z
      rw [q] at q'; cases q'
      obtain ⟨v, hv⟩ := heo
      exact ⟨v, by rw [hbe]; exact hv⟩
    · refine (ok b u q).stay (fun c v hc r => k c v ?_ r) (fun c r => by rw [upd_ne (nown c b r)]; exact r) fun c xs r => by rw [upd_ne (ntup c xs r)]; exact r
      rcases hc with rfl | hc
      · exact hbe
      · rintro rfl
        rcases he with z | z
        · exact nown c b hc z
        · rw [hc] at z; cases z; exact hb rfl
end

/-! ### kept unless tracked; of the frames at fs (the callers') the slots may change (an exception that passes writes there); of the records at ex (iterators) nothing is said -/
structure Un (fs ex : List Addr) (H H' : Hp) (h h' : Heap) : Prop where
  keep : ∀ b o, h.get? b = some o → H b = none → b ∉ fs → b ∉ ex → h'.get? b = some o
  slot : ∀ b o, h.get? b = some o → H b = none → b ∈ fs → b ∉ ex → ∃ sl, h'.get? b = some { o with slots := sl }
  free : ∀ b o, h.get? b = some o → H b = none → b ∉ ex → H' b = none
  there : ∀ b o, h.get? b = some o → b ∉ ex → ∃ o', h'.get? b = some o'
  tups : ∀ b xs, H b = some (.tup xs) → H' b = some (.tup xs)
  frzs : ∀ b o u, H b = some (.frz o u) → H' b = some (.frz o u)
  tbls : ∀ b ps, H b = some (.tbl ps) → ∃ more, H' b = some (.tbl (ps ++ more))
section
variable {fs fs' ex ex' : List Addr} {H H1 H2 : Hp} {h h1 h2 h' : Heap} {a x e : Addr} {o : HO}
theorem Un.any (u : Un fs ex H H1 h h1) {b : Addr} {ob : Obj} (q : h.get? b = some ob) (n : H b = none) (hx : b ∉ ex) : ∃ sl, h1.get? b = some { ob with slots := sl } := by
  by_cases hb : b ∈ fs
  · exact u.slot b ob q n hb hx
  · exact ⟨ob.slots, u.keep b ob q n hb hx⟩
theorem Un.trans (a : Un fs ex H H1 h h1) (b : Un fs ex H1 H2 h1 h2) : Un fs ex H H2 h h2 where
  keep := fun c ob q n hc hx => b.keep c ob (a.keep c ob q n hc hx) (a.free c ob q n hx) hc hx
  slot := fun c ob q n hc hx => by
    obtain ⟨sl, e1⟩ := a.slot c ob q n hc hx
    obtain ⟨sl', e2⟩ := b.slot c _ e1 (a.free c ob q n hx) hc hx
    exact ⟨sl', e2⟩
  free := fun c ob q n hx => by
    obtain ⟨o', e1⟩ := a.there c ob q hx
    exact b.free c o' e1 (a.free c ob q n hx) hx
  there := fun c ob q hx => by
    obtain ⟨o', e1⟩ := a.there c ob q hx
    exact b.there c o' e1 hx
  tups := fun c xs q => b.tups c xs (a.tups c xs q)
  frzs := fun c ob xs q => b.frzs c ob xs (a.frzs c ob xs q)
  tbls := fun c ps q => by
    obtain ⟨m1, e1⟩ := a.tbls c ps q
    obtain ⟨m2, e2⟩ := b.tbls c _ e1
    exact ⟨m1 ++ m2, by rw [e2, Array.append_assoc]⟩
theorem Un.kept (k : ∀ b u, h.get? b = some u → h'.get? b = some u) : Un fs ex H H h h' :=
  ⟨fun b ob q _ _ _ => k b ob q, fun b ob q _ _ _ => ⟨ob.slots, k b ob q⟩, fun _ _ _ n _ => n, fun b ob q _ => ⟨ob, k b ob q⟩, fun _ _ q => q, fun _ _ _ q => q, fun _ ps q => ⟨#[], by rw [q]; simp⟩⟩
theorem Un.refl : Un fs ex H H h h := Un.kept fun _ _ q => q
theorem Un.laid (k : ∀ b u, h.get? b = some u → h'.get? b = some u) (hp : h.objs.size ≤ a) (hn : H a = none) : Un fs ex H (upd H a o) h h' where
  keep := fun b u q _ _ _ => k b u q
  slot := fun b u q _ _ _ => ⟨u.slots, k b u q⟩
  free := fun b u q n _ => by rw [upd_ne (Nat.ne_of_lt (Nat.lt_of_lt_of_le (Heap.lt_size q) hp))]; exact n
  there := fun b u q _ => ⟨u, k b u q⟩
  tups := fun b xs q => by rw [upd_ne (ne_of_none q hn)]; exact q
  frzs := fun b u xs q => by rw [upd_ne (ne_of_none q hn)]; exact q
  tbls := fun b ps q => ⟨#[], by rw [upd_ne (ne_of_none q hn), q]; simp⟩
theorem Un.write (mu : Mut (H x)) (he : e = x ∨ H e = some (.own x)) (k : ∀ b u, b ≠ e → h.get? b = some u → h'.get? b = some u) (heo : ∃ u, h'.get? e = some u) : Un fs ex H (upd H x o) h h' := by
  have hx : ∀ b, H b = none → b ≠ x := fun b n z => by subst z; rw [n] at mu; exact mu
  have hb : ∀ b, H b = none → b ≠ e := fun b n z => by
    subst z
    rcases he with r | r
    · exact hx b n r
    · rw [n] at r; cases r
  have hm : ∀ b u, H b = some u → ¬ Mut (some u) → b ≠ x := fun b u q nm z => by subst z; rw [q] at mu; exact nm mu
  refine ⟨fun b u q n _ _ => k b u (hb b n) q, fun b u q n _ _ => ⟨u.slots, k b u (hb b n) q⟩, fun b u q n _ => by rw [upd_ne (hx b n)]; exact n, fun b u q _ => ?_,
    fun b xs q => by rw [upd_ne (hm b _ q fun z => z)]; exact q, fun b u xs q => by rw [upd_ne (hm b _ q fun z => z)]; exact q, fun b ps q => ⟨#[], by rw [upd_ne (hm b _ q fun z => z), q]; simp⟩⟩
  by_cases hbe : b = e
  · subst hbe; exact heo
  · exact ⟨u, k b u hbe q⟩
theorem Un.mono (u : Un fs ex H H1 h h1) (hs : ∀ b ∈ fs, b ∈ fs') (hx : ∀ b ∈ ex, b ∈ ex') : Un fs' ex' H H1 h h1 :=
  ⟨fun b ob q n hb he => u.keep b ob q n (fun z => hb (hs b z)) fun z => he (hx b z), fun _ _ q n _ he => u.any q n fun z => he (hx _ z), fun b ob q n he => u.free b ob q n fun z => he (hx b z), fun b ob q he => u.there b ob q fun z => he (hx b z), u.tups, u.frzs, u.tbls⟩
end

/-! ### the heap without what is tracked -/
def trk (h : Heap) (H : Hp) : List Addr := (List.range h.objs.size).filter fun a => (H a).isSome
def hidT (h : Heap) (H : Hp) : Heap := PySem.W.hideAll h (trk h H)
theorem hidT_size (h : Heap) (H : Hp) : (hidT h H).objs.size = h.objs.size := PySem.W.hideAll_size _ _
theorem hidT_get {h : Heap} {H : Hp} {b : Addr} {o : Obj} (e : h.get? b = some o) (n : H b = none) : (hidT h H).get? b = some o :=
  PySem.W.hideAll_get _ e fun hm => by
    have q : (H b).isSome = true := (List.mem_filter.mp hm).2
    rw [n] at q; simp at q
theorem of_hidT {h : Heap} {H : Hp} {b : Addr} {o : Obj} (e : (hidT h H).get? b = some o) : h.get? b = some o ∧ H b = none := by
  have e' : h.get? b = some o := PySem.W.of_hideAll (trk h H) e
  refine ⟨e', ?_⟩
  cases q : H b with
  | none => rfl
  | some x =>
    have hm : b ∈ trk h H := List.mem_filter.mpr ⟨List.mem_range.mpr (Heap.lt_size e'), by simp [q]⟩
    have z : (hidT h H).get? b = none := PySem.W.hideAll_none (trk h H) hm
    rw [z] at e; cases e

/-! ### OpenK's ledger, filled with every new object but one -/
def allNews (g h : Heap) (L : Addr) : List (Addr × Obj) := (List.range h.objs.size).filterMap fun a => if a = L ∨ (g.get? a).isSome = true then none else (h.get? a).map fun o => (a, o)
theorem mem_allNews {g h : Heap} {L a : Addr} {o : Obj} (h1 : a ≠ L) (h2 : g.get? a = none) (h3 : h.get? a = some o) : (a, o) ∈ allNews g h L :=
  List.mem_filterMap.mpr ⟨a, List.mem_range.mpr (Heap.lt_size h3), by simp [h1, h2, h3]⟩
theorem of_mem_allNews {g h : Heap} {L : Addr} {p : Addr × Obj} (hp : p ∈ allNews g h L) : p.1 ≠ L ∧ g.get? p.1 = none ∧ h.get? p.1 = some p.2 := by
  obtain ⟨b, _, e⟩ := List.mem_filterMap.mp hp
  split at e
  · cases e
  · rename_i hn
    cases q : h.get? b with
    | none => rw [q] at e; simp at e
    | some u =>
      rw [q] at e
      simp only [Option.map_some, Option.some.injEq] at e
      subst e
      refine ⟨fun z => hn (.inl z), ?_, q⟩
      show g.get? b = none
      cases r : g.get? b with
      | none => rfl
      | some v => exact (hn (.inr (by simp [r]))).elim
def rest (g h : Heap) (L d : Addr) : List (Addr × Obj) := (allNews g h L).filter fun p => decide (p.1 ≠ d)
theorem rest_ne {g h : Heap} {L d : Addr} : ∀ p ∈ rest g h L d, p.1 ≠ d := fun p hp => of_decide_eq_true (List.mem_filter.mp hp).2
theorem mem_rest {g h : Heap} {L d a : Addr} {o : Obj} (h1 : a ≠ L) (h2 : g.get? a = none) (h3 : h.get? a = some o) (h4 : a ≠ d) : (a, o) ∈ rest g h L d :=
  List.mem_filter.mpr ⟨mem_allNews h1 h2 h3, decide_eq_true h4⟩
theorem news_all {g h : Heap} {L : Addr} : News g L h (allNews g h L) := fun p hp => let ⟨a, b, c⟩ := of_mem_allNews hp; ⟨c, a, b⟩
theorem news_at {g h : Heap} {L d : Addr} {o : Obj} (h1 : d ≠ L) (h2 : g.get? d = none) (h3 : h.get? d = some o) : News g L h ((d, o) :: rest g h L d) := fun p hp => by
  rcases List.mem_cons.mp hp with rfl | hp
  · exact ⟨h3, h1, h2⟩
  · exact news_all p (List.mem_filter.mp hp).1
/-- behind a rule that changed d alone: all else but the frame is kept -/
theorem kept_of_news {g h h' : Heap} {L d : Addr} {m : Str → Option Value} (k : ∀ b o, g.get? b = some o → h.get? b = some o) (F : Fr g L h' m) (N : News g L h' (rest g h L d)) :
    ∀ b o, b ≠ L → b ≠ d → h.get? b = some o → h'.get? b = some o := fun b o h1 h2 e => by
  cases q : g.get? b with
  | some u =>
    have := k b u q
    rw [e] at this; cases this
    exact F.keep b _ q
  | none => exact (N (b, o) (mem_rest h1 q e h2)).1
end L2

namespace L2
open PySem PySem.Spec PyProof.Rows

/-- the module's facts, over the base: the heap at the law's entry without what is tracked there -/
structure Mod (K : PySem.W.Frag) (mg : Str → Option Value) (base : Heap) : Prop where
  kin : K.In base
  glob : base.Ns mainGlobals mg
  blt : ∃ mb, base.Ns builtinsNs mb ∧ ∀ x : Str, x ≠ "__name__" → mb x = bootBuiltins x
  nolimit : base.NoLimit

/-- the context: a def's body (or a comprehension's block) running. base: fixed through the whole law; s₀, H₀: the entry; outer: the frames whose slots others may change (a def's callers); stack: all frames that run;
   ex: iterators that were made ahead of the entry and are walked here (a comprehension's); fn: the names whose cells were made at the entry (a def: all; a comprehension's block: its own); calm: not within an except suite; pn: pins that every state bears; xe: what is wanted of an exception that leaves the code -/
structure Cx where
  prog : Program
  w : World
  K : PySem.W.Frag
  mg : Str → Option Value
  base : Heap
  A : Around
  N : List Str
  s₀ : Shared
  H₀ : Hp
  env : Env
  outer : List Env
  stack : List Env
  ex : List Addr
  fn : Str → Bool
  calm : Bool
  pn : List (Addr × Obj)
  xe : Value → Shared → Prop
/-- the callers' frames -/
def frs (l : List Env) : List Addr := l.filterMap (·.frame)
abbrev Cx.fs (X : Cx) : List Addr := frs X.outer

def Vis (sc : Scope) (x : Str) : Prop := sc.names.lookup x = some .local ∨ sc.names.lookup x = some .cell ∨ sc.names.lookup x = some .free
def Loc (sc : Scope) (x : Str) : Prop := sc.names.lookup x = some .local ∨ sc.names.lookup x = some .cell
def Look (env : Env) (h : Heap) (m : Str → Option Value) (x : Str) (u : Value) : Prop :=
  (env.kindOf x = some .local ∧ m x = some u) ∨ ((env.kindOf x = some .cell ∨ env.kindOf x = some .free) ∧ ∃ c, env.cells.lookup x = some c ∧ h.IsCell c (some u))

structure Cx.Ok (X : Cx) : Prop where
  mod : Mod X.K X.mg X.base
  kind : X.env.scope.kind = .function
  glob : X.env.globals = mainGlobals
  blt : X.env.builtins = builtinsNs
  above : X.s₀.heap.objs.size ≤ X.env.locals
  inj : ∀ x y c, X.env.cells.lookup x = some c → X.env.cells.lookup y = some c → x = y
  has : ∀ x, (X.env.kindOf x = some .cell ∨ X.env.kindOf x = some .free) → ∃ c, X.env.cells.lookup x = some c
  cab : ∀ x c, X.fn x = true → X.env.cells.lookup x = some c → X.s₀.heap.objs.size ≤ c
  hd : X.calm = true → X.A.handled = none
  frames : X.A.frames = some X.stack
  stk : X.stack = X.outer ∨ (X.stack = X.env :: X.outer ∧ X.env.frame = some X.env.locals)
  exf : ∀ b ∈ X.ex, b ≠ X.env.locals ∧ ∀ x c, X.env.cells.lookup x = some c → c ≠ b
  bs : ∀ b o, X.base.get? b = some o → X.s₀.heap.get? b = some o ∧ X.H₀ b = none
  bsz : X.base.objs.size ≤ X.s₀.heap.objs.size
  noex : ∀ b o, X.base.get? b = some o → b ∉ X.ex
  exfs : ∀ b ∈ X.ex, b ∉ X.fs
  funs : X.s₀.heap.FunFrames X.base X.outer
  frf : ∀ b ∈ X.fs, X.H₀ b = none

structure Inv (X : Cx) (pins : List (Addr × Obj)) (σ : List (Option V)) (H : Hp) (s : Shared) : Prop where
  ok : X.Ok
  os : s.os = X.s₀.os
  bare : AllBare s.gens
  base : Un X.fs X.ex X.H₀ H X.s₀.heap s.heap
  loc : ∃ m, s.heap.Ns X.env.locals m ∧ ∀ (i : Nat) (x : Str) (v : V), X.N[i]? = some x → σ[i]? = some (some v) → Vis X.env.scope x → ∃ u, RelV v u ∧ Look X.env s.heap m x u
  cell : ∀ x c, X.env.cells.lookup x = some c → ∃ v, s.heap.IsCell c v
  free : H X.env.locals = none
  freeC : ∀ x c, X.env.cells.lookup x = some c → H c = none
  pin : ∀ p ∈ X.pn ++ pins, s.heap.get? p.1 = some p.2 ∧ H p.1 = none ∧ p.1 ≠ X.env.locals ∧ p.1 ∉ X.fs ∧ ∀ v, p.2.data ≠ .cell v
  hok : HOk X.prog X.w H s.heap
  len : σ.length = X.N.length

section
variable {X : Cx} {pins : List (Addr × Obj)} {σ : List (Option V)} {H H' : Hp} {s : Shared} {h' : Heap}

theorem Cx.Ok.nofr (ok : X.Ok) {b : Addr} {o : Obj} (e : X.base.get? b = some o) : b ∉ X.fs := fun hb => by
  have := (ok.funs.mem hb).1
  rw [e] at this; cases this
theorem Inv.bs (I : Inv X pins σ H s) : ∀ b o, X.base.get? b = some o → s.heap.get? b = some o ∧ H b = none := fun b o e =>
  ⟨I.base.keep b o (I.ok.bs b o e).1 (I.ok.bs b o e).2 (I.ok.nofr e) (I.ok.noex b o e), I.base.free b o (I.ok.bs b o e).1 (I.ok.bs b o e).2 (I.ok.noex b o e)⟩
theorem Inv.bk (I : Inv X pins σ H s) : ∀ b o, X.base.get? b = some o → s.heap.get? b = some o := fun b o e => (I.bs b o e).1
theorem Inv.mod (I : Inv X pins σ H s) : Mod X.K X.mg X.base := I.ok.mod
theorem Inv.kIn (I : Inv X pins σ H s) : X.K.In s.heap := I.ok.mod.kin.keeps I.bk
theorem Inv.nolimit (I : Inv X pins σ H s) : s.heap.NoLimit := I.ok.mod.nolimit.keeps I.bk
/-- the frame over the base: for OpenK's rules (K.In X.base is I.mod.kin) -/
theorem Inv.fr (I : Inv X pins σ H s) : ∃ m, Fr X.base X.env.locals s.heap m :=
  let ⟨m, hn, _⟩ := I.loc
  ⟨m, hn, I.bk, Nat.le_trans I.ok.bsz I.ok.above⟩
theorem Inv.lt (I : Inv X pins σ H s) : X.env.locals < s.heap.objs.size := let ⟨_, hn, _⟩ := I.loc; hn.lt
theorem Inv.sz (I : Inv X pins σ H s) : X.s₀.heap.objs.size ≤ s.heap.objs.size := Nat.le_trans I.ok.above (Nat.le_of_lt I.lt)
theorem Inv.nofs (I : Inv X pins σ H s) {a : Addr} (h : s.heap.objs.size ≤ a) : a ∉ X.fs := fun hb => by
  obtain ⟨_, o, ho, _⟩ := I.ok.funs.mem hb
  exact absurd (Nat.lt_of_lt_of_le (Heap.lt_size ho) (Nat.le_trans I.sz h)) (Nat.lt_irrefl _)
theorem Inv.cne (I : Inv X pins σ H s) : ∀ x c, X.env.cells.lookup x = some c → c ≠ X.env.locals := fun x c e z => by
  obtain ⟨v, o, ho, hd⟩ := I.cell x c e
  obtain ⟨m, ⟨o', es, ep, ho', hd', _⟩, _⟩ := I.loc
  rw [z, ho'] at ho; cases ho; rw [hd'] at hd; cases hd
theorem Inv.funs (I : Inv X pins σ H s) : s.heap.FunFrames X.base X.outer := by
  have all : ∀ (l : List Env), (∀ b ∈ frs l, b ∈ X.fs) → X.s₀.heap.FunFrames X.base l → s.heap.FunFrames X.base l := by
    intro l
    induction l with
    | nil => intro _ _; trivial
    | cons env r ih =>
      intro hs hl
      obtain ⟨hk, ⟨L, o, hf, hn, ho, hd⟩, hr⟩ := hl
      have hL : L ∈ X.fs := hs L (by unfold frs; rw [List.filterMap_cons, hf]; exact List.mem_cons_self)
      obtain ⟨sl, e⟩ := I.base.slot L o ho (I.ok.frf L hL) hL fun z => I.ok.exfs L z hL
      exact ⟨hk, ⟨L, _, hf, hn, e, hd⟩, ih (fun b hb => hs b (by unfold frs; rw [List.filterMap_cons, hf]; exact List.mem_cons_of_mem _ hb)) hr⟩
  exact all X.outer (fun _ hb => hb) I.ok.funs

/-- the frames that run, for a call -/
theorem Inv.stack (I : Inv X pins σ H s) : s.heap.FunFrames X.base X.stack := by
  rcases I.ok.stk with e | ⟨e, hf⟩
  · rw [e]; exact I.funs
  · rw [e]
    obtain ⟨m, hn, _⟩ := I.loc
    refine .cons (by rw [I.ok.kind]; decide) hf hn ?_ I.funs
    exact Heap.get?_none_of_le (Nat.le_trans I.ok.bsz I.ok.above)
theorem Inv.stkSub (I : Inv X pins σ H s) : ∀ b ∈ frs X.stack, b ∈ X.env.locals :: X.fs := fun b hb => by
  rcases I.ok.stk with e | ⟨e, hf⟩
  · rw [e] at hb; exact List.mem_cons_of_mem _ hb
  · rw [e] at hb
    unfold frs at hb
    rw [List.filterMap_cons, hf] at hb
    exact hb
theorem Inv.stkFree (I : Inv X pins σ H s) : ∀ b ∈ frs X.stack, H b = none := fun b hb => by
  rcases List.mem_cons.mp (I.stkSub b hb) with e | hb
  · rw [e]; exact I.free
  · obtain ⟨_, o, ho, _⟩ := I.ok.funs.mem hb
    exact I.base.free b o ho (I.ok.frf b hb) fun z => I.ok.exfs b z hb

/-- THE STEP: the untracked objects but the frame and the records at ch are kept (the callers' frames up to slots), the frame's map is kept, the new abstract heap is held -/
theorem Inv.step {g' : Array GenState} {t' : Nat} {d' : Drawn} {ch : List Addr} (I : Inv X pins σ H s)
    (hch : ∀ b ∈ ch, (b ∈ X.ex ∨ X.s₀.heap.objs.size ≤ b) ∧ b ≠ X.env.locals ∧ (∀ x c, X.env.cells.lookup x = some c → c ≠ b) ∧ ∀ p ∈ X.pn ++ pins, p.1 ≠ b)
    (keep : ∀ b o, b ≠ X.env.locals → b ∉ X.fs → b ∉ ch → s.heap.get? b = some o → H b = none → h'.get? b = some o)
    (slot : ∀ b o, b ≠ X.env.locals → b ∈ X.fs → b ∉ ch → s.heap.get? b = some o → H b = none → ∃ sl, h'.get? b = some { o with slots := sl }) (free : ∀ b o, b ∉ ch → s.heap.get? b = some o → H b = none → H' b = none)
    (there : ∀ b o, b ∉ ch → s.heap.get? b = some o → ∃ o', h'.get? b = some o')
    (tups : ∀ b xs, H b = some (.tup xs) → H' b = some (.tup xs)) (frzs : ∀ b o u, H b = some (.frz o u) → H' b = some (.frz o u)) (tbls : ∀ b ps, H b = some (.tbl ps) → ∃ more, H' b = some (.tbl (ps ++ more)))
    (ns : ∀ m, s.heap.Ns X.env.locals m → h'.Ns X.env.locals m) (hok : HOk X.prog X.w H' h') (hg : AllBare g') :
    Inv X pins σ H' { s with heap := h', gens := g', drawn := d', toks := t' } := by
  have neL : ∀ b o, X.s₀.heap.get? b = some o → b ≠ X.env.locals := fun b o e => Nat.ne_of_lt (Nat.lt_of_lt_of_le (Heap.lt_size e) I.ok.above)
  have neC : ∀ b o, X.s₀.heap.get? b = some o → b ∉ X.ex → b ∉ ch := fun b o e hx hb => by
    rcases (hch b hb).1 with z | z
    · exact hx z
    · exact absurd (Nat.lt_of_lt_of_le (Heap.lt_size e) z) (Nat.lt_irrefl _)
  have cellK : ∀ x c, X.env.cells.lookup x = some c → ∀ v, s.heap.IsCell c v → h'.IsCell c v := fun x c e v ⟨o, ho, hd⟩ => by
    have nch : c ∉ ch := fun z => (hch c z).2.2.1 x c e rfl
    by_cases hc : c ∈ X.fs
    · obtain ⟨sl, q⟩ := slot c o (I.cne x c e) hc nch ho (I.freeC x c e)
      exact ⟨_, q, hd⟩
    · exact ⟨o, keep c o (I.cne x c e) hc nch ho (I.freeC x c e), hd⟩
  refine ⟨I.ok, I.os, hg, ⟨fun b o e n hb hx => ?_, fun b o e n hb hx => ?_, fun b o e n hx => ?_, fun b o e hx => ?_, fun b xs e => tups b xs (I.base.tups b xs e), fun b o xs e => frzs b o xs (I.base.frzs b o xs e), fun b ps e => ?_⟩, ?_, fun x c e => ?_, ?_, fun x c e => ?_, fun p hp => ?_, hok, I.len⟩
  · exact keep b o (neL b o e) hb (neC b o e hx) (I.base.keep b o e n hb hx) (I.base.free b o e n hx)
  · obtain ⟨sl, e1⟩ := I.base.slot b o e n hb hx
    obtain ⟨sl', e2⟩ := slot b _ (neL b o e) hb (neC b o e hx) e1 (I.base.free b o e n hx)
    exact ⟨sl', e2⟩
  · obtain ⟨o', e1⟩ := I.base.there b o e hx
    exact free b o' (neC b o e hx) e1 (I.base.free b o e n hx)
  · obtain ⟨o', e1⟩ := I.base.there b o e hx
    exact there b o' (neC b o e hx) e1
  · obtain ⟨m1, e1⟩ := I.base.tbls b ps e
    obtain ⟨m2, e2⟩ := tbls b _ e1
    exact ⟨m1 ++ m2, by rw [e2, Array.append_assoc]⟩
  · obtain ⟨m, hn, hl⟩ := I.loc
    refine ⟨m, ns m hn, fun i x v e1 e2 e3 => ?_⟩
    obtain ⟨u, r, l⟩ := hl i x v e1 e2 e3
    refine ⟨u, r, ?_⟩
    rcases l with l | ⟨k, c, e, z⟩
    · exact .inl l
    · exact .inr ⟨k, c, e, cellK x c e _ z⟩
  · obtain ⟨v, z⟩ := I.cell x c e
    exact ⟨v, cellK x c e v z⟩
  · obtain ⟨m, ⟨o, _, _, ho, _⟩, _⟩ := I.loc
    exact free _ o (fun z => (hch _ z).2.1 rfl) ho I.free
  · obtain ⟨v, o, ho, hd⟩ := I.cell x c e
    exact free c o (fun z => (hch c z).2.2.1 x c e rfl) ho (I.freeC x c e)
  · obtain ⟨e, n, ne, nf, d⟩ := I.pin p hp
    have nch : p.1 ∉ ch := fun z => (hch p.1 z).2.2.2 p hp rfl
    exact ⟨keep p.1 p.2 ne nf nch e n, free p.1 p.2 nch e n, ne, nf, d⟩
/-- .. where the frame's own object is kept too -/
theorem Inv.un {t' : Nat} (I : Inv X pins σ H s) (u : Un X.fs [] H H' s.heap h') (hok : HOk X.prog X.w H' h') : Inv X pins σ H' { s with heap := h', toks := t' } := by
  obtain ⟨m, ⟨o, es, ep, ho, r⟩, _⟩ := id I.loc
  obtain ⟨sl, hL⟩ := u.any ho I.free (by simp)
  exact I.step (g' := s.gens) (d' := s.drawn) (ch := []) (fun _ z => nomatch z) (fun b o _ hb _ e n => u.keep b o e n hb (by simp)) (fun b o _ hb _ e n => u.slot b o e n hb (by simp)) (fun b o _ e n => u.free b o e n (by simp)) (fun b o _ e => u.there b o e (by simp)) u.tups u.frzs u.tbls (fun m' hm => by
    obtain ⟨o', es', ep', ho', r'⟩ := hm
    rw [ho] at ho'; cases ho'
    exact ⟨_, es', ep', hL, r'⟩) hok I.bare
/-- behind a call (or a comprehension's block): the slots of this frame may have changed too, the records at ch may have turned -/
theorem Inv.call {g' : Array GenState} {t' : Nat} {d' : Drawn} {ch : List Addr} (I : Inv X pins σ H s) (u : Un (frs X.stack) ch H H' s.heap h') (hok : HOk X.prog X.w H' h') (hg : AllBare g')
    (hch : ∀ b ∈ ch, (b ∈ X.ex ∨ X.s₀.heap.objs.size ≤ b) ∧ b ≠ X.env.locals ∧ (∀ x c, X.env.cells.lookup x = some c → c ≠ b) ∧ ∀ p ∈ X.pn ++ pins, p.1 ≠ b) :
    Inv X pins σ H' { s with heap := h', gens := g', drawn := d', toks := t' } := by
  obtain ⟨m, ⟨o, es, ep, ho, r⟩, _⟩ := id I.loc
  obtain ⟨sl, hL⟩ := u.any ho I.free fun z => (hch _ z).2.1 rfl
  exact I.step (ch := ch) hch (fun b o hL hb hc e n => u.keep b o e n (fun z => (List.mem_cons.mp (I.stkSub b z)).elim hL hb) hc) (fun b o _ _ hc e n => u.any e n hc) (fun b o hc e n => u.free b o e n hc) (fun b o hc e => u.there b o e hc) u.tups u.frzs u.tbls (fun m' hm => by
    obtain ⟨o', es', ep', ho', r'⟩ := hm
    rw [ho] at ho'; cases ho'
    exact ⟨_, es', ep', hL, r'⟩) hok hg
/-- an untracked record of ours (an iterator) has turned -/
theorem Inv.turned {t' : Nat} {it : Addr} (I : Inv X pins σ H s) (k : ∀ b o, b ≠ it → s.heap.get? b = some o → h'.get? b = some o) (hn : H it = none) (hL : it ≠ X.env.locals)
    (h1 : it ∈ X.ex ∨ X.s₀.heap.objs.size ≤ it) (h2 : ∀ x c, X.env.cells.lookup x = some c → c ≠ it) (h3 : ∀ p ∈ X.pn ++ pins, p.1 ≠ it) : Inv X pins σ H { s with heap := h', toks := t' } := by
  have nit : ∀ b u, H b = some u → b ≠ it := fun b u e z => by rw [z, hn] at e; cases e
  refine I.step (g' := s.gens) (d' := s.drawn) (ch := [it]) (fun b hb => ?_) (fun b o _ _ hc e _ => k b o (fun z => hc (by simp [z])) e) (fun b o _ _ hc e _ => ⟨o.slots, k b o (fun z => hc (by simp [z])) e⟩) (fun _ _ _ _ n => n)
    (fun b o hc e => ⟨o, k b o (fun z => hc (by simp [z])) e⟩) (fun _ _ e => e) (fun _ _ _ e => e) (fun b ps e => ⟨#[], by rw [e]; simp⟩) (fun m hm => ?_) (fun b u e => ?_) I.bare
  · have e : b = it := by simpa using hb
    subst e
    exact ⟨h1, hL, h2, h3⟩
  · obtain ⟨o, es, ep, ho, r⟩ := hm
    exact ⟨o, es, ep, k _ o (Ne.symm hL) ho, r⟩
  · refine (I.hok b u e).stay (fun c v hc q => k c v ?_ q) (fun _ q => q) fun _ _ q => q
    rcases hc with z | z
    · rw [z]; exact nit b u e
    · exact nit c _ z
theorem Inv.tok (I : Inv X pins σ H s) (t : Nat) : Inv X pins σ H { s with toks := t } := I.un (h' := s.heap) (t' := t) Un.refl I.hok
/-- all objects kept -/
theorem Inv.kept {t' : Nat} (I : Inv X pins σ H s) (k : ∀ b u, s.heap.get? b = some u → h'.get? b = some u) : Inv X pins σ H { s with heap := h', toks := t' } := I.un (Un.kept k) (I.hok.kept k)
/-- a new object laid and tracked -/
theorem Inv.laid {a : Addr} {o : HO} {t' : Nat} (I : Inv X pins σ H s) (k : ∀ b u, s.heap.get? b = some u → h'.get? b = some u) (hp : s.heap.objs.size ≤ a) (new : ObjOk X.prog X.w (upd H a o) h' a o) :
    Inv X pins σ (upd H a o) { s with heap := h', toks := t' } := I.un (Un.laid k hp (I.hok.fresh hp)) (I.hok.laid k hp new)
/-- an object written -/
theorem Inv.write {x e : Addr} {o : HO} {t' : Nat} (I : Inv X pins σ H s) (mu : Mut (H x)) (he : e = x ∨ H e = some (.own x)) (k : ∀ b u, b ≠ e → s.heap.get? b = some u → h'.get? b = some u) (heo : ∃ u, h'.get? e = some u)
    (new : ObjOk X.prog X.w (upd H x o) h' x o) : Inv X pins σ (upd H x o) { s with heap := h', toks := t' } := I.un (Un.write mu he k heo) (I.hok.write mu he k heo new)
/-- forgetting slots, pins -/
theorem Inv.weak {σ' : List (Option V)} (I : Inv X pins σ H s) (hl : σ'.length = σ.length) (w : ∀ (i : Nat) v, σ'[i]? = some (some v) → σ[i]? = some (some v)) : Inv X pins σ' H s :=
  ⟨I.ok, I.os, I.bare, I.base, let ⟨m, hn, hl'⟩ := I.loc; ⟨m, hn, fun i x v e1 e2 e3 => hl' i x v e1 (w i v e2) e3⟩, I.cell, I.free, I.freeC, I.pin, I.hok, hl.trans I.len⟩
theorem Inv.pins_of {pins' : List (Addr × Obj)} (I : Inv X pins σ H s) (h : ∀ p ∈ pins', s.heap.get? p.1 = some p.2 ∧ H p.1 = none ∧ p.1 ≠ X.env.locals ∧ p.1 ∉ X.fs ∧ ∀ v, p.2.data ≠ .cell v) : Inv X pins' σ H s :=
  ⟨I.ok, I.os, I.bare, I.base, I.loc, I.cell, I.free, I.freeC, fun p hp => (List.mem_append.mp hp).elim (fun z => I.pin p (List.mem_append_left _ z)) (h p), I.hok, I.len⟩

theorem nodup_ix {N : List Str} (hN : N.Nodup) {i j : Nat} {x : Str} (a : N[i]? = some x) (b : N[j]? = some x) : i = j := by
  obtain ⟨h1, e1⟩ := List.getElem?_eq_some_iff.mp a
  obtain ⟨h2, e2⟩ := List.getElem?_eq_some_iff.mp b
  exact (List.getElem_inj hN).mp (e1.trans e2.symm)

/-- a name is stored; what changed -/
theorem store_ok2 {M : Model} {A : Around} {E : Value → Shared → Prop} {i : Nat} {x : Str} {v : V} {u : Value} {Q : Unit → Shared → Prop} (I : Inv X pins σ H s) (hN : X.N.Nodup) (hi : X.N[i]? = some x) (hx : Loc X.env.scope x) (r : RelV v u)
    (h : ∀ s', Inv X pins (σ.set i (some v)) H s' → (∃ a, Heap.SameBut a s.heap s'.heap ∧ (a = X.env.locals ∨ X.env.cells.lookup x = some a)) → Q () s') (hf : X.fn x = true ∨ X.env.scope.names.lookup x = some .local := by first | exact .inl rfl | exact .inr rfl | assumption) : wpAny M A (storeName X.env x u) Q E s := by
  obtain ⟨m, hn, hl⟩ := id I.loc
  have hcls : (X.env.scope.kind == .class || (X.env.scope.kind == .module && X.env.locals != X.env.globals)) = false := by rw [I.ok.kind]; rfl
  have hiσ : i < σ.length := by rw [I.len]; exact (List.getElem?_eq_some_iff.mp hi).1
  have cne := I.cne
  have tracked : ∀ {a : Addr} {h' : Heap}, (∃ o, s.heap.get? a = some o ∧ H a = none) → Heap.SameBut a s.heap h' → HOk X.prog X.w H h' := fun {a h'} ha hs b ob e => by
    obtain ⟨_, _, hfree⟩ := ha
    refine (I.hok b ob e).stay (fun c w' hc q => (hs.2 c ?_).trans q) (fun _ q => q) fun _ _ q => q
    rintro rfl
    rcases hc with rfl | hc
    · rw [hfree] at e; cases e
    · rw [hfree] at hc; cases hc
  rcases hx with hk | hk
  · refine wpAny_storeName_local hk hn (fun h' hn' hs => ?_) hcls
    obtain ⟨oL, _, _, hoL, _⟩ := id hn
    refine h _ ⟨I.ok, I.os, I.bare, ⟨fun b o e n hb hx => ?_, fun b o e n hb hx => ?_, I.base.free, fun b o e hx => ?_, I.base.tups, I.base.frzs, I.base.tbls⟩, ⟨_, hn', fun j y v' e1 e2 e3 => ?_⟩, fun y c e => ?_, I.free, I.freeC, fun p hp => ?_, tracked ⟨oL, hoL, I.free⟩ hs, by simpa using I.len⟩ ⟨_, hs, .inl rfl⟩
    · exact (hs.2 b (Nat.ne_of_lt (Nat.lt_of_lt_of_le (Heap.lt_size e) I.ok.above))).trans (I.base.keep b o e n hb hx)
    · obtain ⟨sl, e1⟩ := I.base.slot b o e n hb hx
      exact ⟨sl, (hs.2 b (Nat.ne_of_lt (Nat.lt_of_lt_of_le (Heap.lt_size e) I.ok.above))).trans e1⟩
    · obtain ⟨o', e1⟩ := I.base.there b o e hx
      exact ⟨o', (hs.2 b (Nat.ne_of_lt (Nat.lt_of_lt_of_le (Heap.lt_size e) I.ok.above))).trans e1⟩
    · by_cases hj : j = i
      · subst hj
        rw [hi] at e1; cases e1
        rw [List.getElem?_set_self hiσ] at e2
        cases e2
        exact ⟨u, r, .inl ⟨hk, by simp⟩⟩
      · rw [List.getElem?_set_ne (Ne.symm hj)] at e2
        obtain ⟨u', r', q⟩ := hl j y v' e1 e2 e3
        refine ⟨u', r', ?_⟩
        rcases q with ⟨k, e⟩ | ⟨k, c, e, z⟩
        · refine .inl ⟨k, ?_⟩
          have : y ≠ x := fun e => hj (nodup_ix hN e1 (e ▸ hi))
          simp [this, e]
        · exact .inr ⟨k, c, e, z.sameBut hs (cne y c e)⟩
    · obtain ⟨w', z⟩ := I.cell y c e
      exact ⟨w', z.sameBut hs (cne y c e)⟩
    · obtain ⟨e, n, ne, nf, d⟩ := I.pin p hp
      exact ⟨(hs.2 p.1 ne).trans e, n, ne, nf, d⟩
  · have hfn : X.fn x = true := by
      rcases hf with z | z
      · exact z
      · rw [z] at hk; cases hk
    obtain ⟨c, hc⟩ := I.ok.has x (.inl hk)
    obtain ⟨w', z⟩ := I.cell x c hc
    refine wpAny_storeName_cell I.ok.kind hk hc z (fun h' hc' hs => ?_)
    obtain ⟨oc, hoc, hocd⟩ := id z
    refine h { s with heap := h' } ⟨I.ok, I.os, I.bare, ⟨fun b o e n hb hx => ?_, fun b o e n hb hx => ?_, I.base.free, fun b o e hx => ?_, I.base.tups, I.base.frzs, I.base.tbls⟩, ⟨m, hn.sameBut hs (Ne.symm (cne x c hc)), fun j y v' e1 e2 e3 => ?_⟩, fun y c' e => ?_, I.free, I.freeC, fun p hp => ?_, tracked ⟨oc, hoc, I.freeC x c hc⟩ hs, by simpa using I.len⟩ ⟨c, hs, .inr hc⟩
    · exact (hs.2 b (Nat.ne_of_lt (Nat.lt_of_lt_of_le (Heap.lt_size e) (I.ok.cab x c hfn hc)))).trans (I.base.keep b o e n hb hx)
    · obtain ⟨sl, e1⟩ := I.base.slot b o e n hb hx
      exact ⟨sl, (hs.2 b (Nat.ne_of_lt (Nat.lt_of_lt_of_le (Heap.lt_size e) (I.ok.cab x c hfn hc)))).trans e1⟩
    · obtain ⟨o', e1⟩ := I.base.there b o e hx
      exact ⟨o', (hs.2 b (Nat.ne_of_lt (Nat.lt_of_lt_of_le (Heap.lt_size e) (I.ok.cab x c hfn hc)))).trans e1⟩
    · by_cases hj : j = i
      · subst hj
        rw [hi] at e1; cases e1
        rw [List.getElem?_set_self hiσ] at e2
        cases e2
        exact ⟨u, r, .inr ⟨.inl hk, c, hc, hc'⟩⟩
      · rw [List.getElem?_set_ne (Ne.symm hj)] at e2
        obtain ⟨u', r', q⟩ := hl j y v' e1 e2 e3
        refine ⟨u', r', ?_⟩
        rcases q with q | ⟨k, c', e, z'⟩
        · exact .inl q
        · refine .inr ⟨k, c', e, z'.sameBut hs ?_⟩
          rintro rfl
          exact hj (nodup_ix hN e1 (I.ok.inj _ _ _ e hc ▸ hi))
    · by_cases hcc : c' = c
      · subst hcc; exact ⟨_, hc'⟩
      · obtain ⟨w2, z2⟩ := I.cell y c' e
        exact ⟨w2, z2.sameBut hs hcc⟩
    · obtain ⟨e, n, ne, nf, d⟩ := I.pin p hp
      refine ⟨(hs.2 p.1 ?_).trans e, n, ne, nf, d⟩
      intro q
      rw [q, hoc] at e
      have q' : oc = p.2 := Option.some.inj e
      exact d w' (by rw [← q']; exact hocd)
theorem store_ok {M : Model} {A : Around} {E : Value → Shared → Prop} {i : Nat} {x : Str} {v : V} {u : Value} {Q : Unit → Shared → Prop} (I : Inv X pins σ H s) (hN : X.N.Nodup) (hi : X.N[i]? = some x) (hx : Loc X.env.scope x) (r : RelV v u)
    (h : ∀ s', Inv X pins (σ.set i (some v)) H s' → Q () s') (hf : X.fn x = true ∨ X.env.scope.names.lookup x = some .local := by first | exact .inl rfl | exact .inr rfl | assumption) : wpAny M A (storeName X.env x u) Q E s :=
  store_ok2 I hN hi hx r (fun s' I' _ => h s' I') hf
/-- behind a call or a block, the state as it is -/
theorem Inv.call' {s' : Shared} {ch : List Addr} (I : Inv X pins σ H s) (ho : s'.os = s.os) (u : Un (frs X.stack) ch H H' s.heap s'.heap) (hok : HOk X.prog X.w H' s'.heap) (hg : AllBare s'.gens)
    (hch : ∀ b ∈ ch, (b ∈ X.ex ∨ X.s₀.heap.objs.size ≤ b) ∧ b ≠ X.env.locals ∧ (∀ x c, X.env.cells.lookup x = some c → c ≠ b) ∧ ∀ p ∈ X.pn ++ pins, p.1 ≠ b) : Inv X pins σ H' s' := by
  obtain ⟨h', g', d', t', o'⟩ := s'
  have e : o' = s.os := ho
  subst e
  exact I.call (g' := g') (t' := t') (d' := d') u hok hg hch
end

/-! ### the judgements -/
/-- an exception: its class, its own dict's address (where it has one), the abstract heap behind it -/
abbrev XK := Value → Option Addr → Hp → Prop
abbrev St := List (Option V)
abbrev VK := V → Hp → Prop
/-- an expression's reading; a test's; an argument list's -/
abbrev TE := St → Hp → VK → Prop
abbrev TT := St → Hp → (Bool → Hp → Prop) → Prop
abbrev TA := St → Hp → (List V → Hp → Prop) → Prop
/-- what is wanted behind a statement -/
structure Ends where
  nx : St → Hp → Prop
  rt : VK
  bk : St → Hp → Prop := fun _ _ => False
  ct : St → Hp → Prop := fun _ _ => False
abbrev TS := Ends → St → Hp → Prop

def EP (X : Cx) (pins : List (Addr × Obj)) (σ : St) (Q : VK) (u : Value) (s' : Shared) : Prop := ∃ v H', Inv X pins σ H' s' ∧ RelV v u ∧ Q v H'
def TP (X : Cx) (pins : List (Addr × Obj)) (σ : St) (Q : Bool → Hp → Prop) (b : Bool) (s' : Shared) : Prop := ∃ H', Inv X pins σ H' s' ∧ Q b H'
def AP (X : Cx) (pins : List (Addr × Obj)) (σ : St) (Q : List V → Hp → Prop) (us : List Value) (s' : Shared) : Prop := ∃ vs H', Inv X pins σ H' s' ∧ Vals vs us ∧ Q vs H'
def SP (X : Cx) (pins : List (Addr × Obj)) (D : Ends) (f : Flow) (s' : Shared) : Prop :=
  match f with
  | .next => ∃ σ' H', Inv X pins σ' H' s' ∧ D.nx σ' H'
  | .brk => ∃ σ' H', Inv X pins σ' H' s' ∧ D.bk σ' H'
  | .cont => ∃ σ' H', Inv X pins σ' H' s' ∧ D.ct σ' H'
  | .ret u => ∃ v σ' H', Inv X pins σ' H' s' ∧ RelV v u ∧ D.rt v H'

def PE (X : Cx) (e : Expr) (t : TE) : Prop :=
  ∀ (pins : List (Addr × Obj)) (s : Shared) (σ : St) (H : Hp) (Q : VK), Inv X pins σ H s → t σ H Q → wpAny (model X.prog X.w) X.A (eval e X.env) (EP X pins σ Q) X.xe s
def PT (X : Cx) (e : Expr) (t : TT) : Prop :=
  ∀ (pins : List (Addr × Obj)) (s : Shared) (σ : St) (H : Hp) (Q : Bool → Hp → Prop), Inv X pins σ H s → t σ H Q → wpAny (model X.prog X.w) X.A (isTrue e X.env (eval e X.env)) (TP X pins σ Q) X.xe s
/-- a test whatever its 'whole' is (and, or) -/
def PW (X : Cx) (e : Expr) (t : TT) : Prop :=
  ∀ (whole : Sem Value) (pins : List (Addr × Obj)) (s : Shared) (σ : St) (H : Hp) (Q : Bool → Hp → Prop), Inv X pins σ H s → t σ H Q → wpAny (model X.prog X.w) X.A (isTrue e X.env whole) (TP X pins σ Q) X.xe s
theorem PW.pt {X : Cx} {e : Expr} {t : TT} (h : PW X e t) : PT X e t := h _
/-- an argument list (no star), from the left -/
def PA (X : Cx) (es : List Expr) (t : TA) : Prop :=
  ∀ (pos : Pos) (pins : List (Addr × Obj)) (s : Shared) (σ : St) (H : Hp) (Q : List V → Hp → Prop), Inv X pins σ H s → t σ H Q → wpAny (model X.prog X.w) X.A (spliced (backTo pos (starEach es X.env))) (AP X pins σ Q) X.xe s
def PS (X : Cx) (st : Stmt) (t : TS) : Prop :=
  ∀ (pins : List (Addr × Obj)) (s : Shared) (σ : St) (H : Hp) (D : Ends), Inv X pins σ H s → t D σ H → wpAny (model X.prog X.w) X.A (exec st X.env) (SP X pins D) X.xe s
def PSs (X : Cx) (st : List Stmt) (t : TS) : Prop :=
  ∀ (pins : List (Addr × Obj)) (s : Shared) (σ : St) (H : Hp) (D : Ends), Inv X pins σ H s → t D σ H → wpAny (model X.prog X.w) X.A (execs st X.env) (SP X pins D) X.xe s
/-- weaken the end -/
theorem thn {α : Type} {t : Sem α} {Q Q' : α → Shared → Prop} {M : Model} {A : Around} {E : Value → Shared → Prop} {s : Shared} (h : wpAny M A t Q E s) (hQ : ∀ a s, Q a s → Q' a s) : wpAny M A t Q' E s := wpAny_mono h hQ fun _ _ x => x
end L2

namespace L2
open PySem PySem.Spec PyProof.Rows
section
variable {X : Cx}

/-- two expressions in a row -/
theorem bin {a b : Expr} {ta tb : TE} (ha : PE X a ta) (hb : PE X b tb) {pins : List (Addr × Obj)} {s : Shared} {σ : St} {H : Hp} {R : V → V → Hp → Prop} (I : Inv X pins σ H s) (h : ta σ H fun x H1 => tb σ H1 fun y H2 => R x y H2)
    {α : Type} {Q : α → Shared → Prop} {f : Value → Value → Sem α}
    (hf : ∀ v u s2 x y H2, Inv X pins σ H2 s2 → RelV x v → RelV y u → R x y H2 → wpAny (model X.prog X.w) X.A (f v u) Q X.xe s2) :
    wpAny (model X.prog X.w) X.A (eval a X.env) (fun v s₁ => wpAny (model X.prog X.w) X.A (eval b X.env) (fun u s₂ => wpAny (model X.prog X.w) X.A (f v u) Q X.xe s₂) X.xe s₁) X.xe s := by
  refine thn (ha pins s σ H _ I h) fun v s1 ⟨x, H1, I1, r1, q1⟩ => ?_
  refine thn (hb pins s1 σ H1 _ I1 q1) fun u s2 ⟨y, H2, I2, r2, q2⟩ => ?_
  exact hf v u s2 x y H2 I2 r1 r2 q2

/-! ### names and constants -/
def tVar (i : Nat) : TE := fun σ H Q => ∃ v, σ[i]? = some (some v) ∧ Q v H
def tC (v : V) : TE := fun _ H Q => Q v H
theorem pe_var {i : Nat} {x : Str} {pos : Pos} (hN : X.N[i]? = some x) (hv : Vis X.env.scope x) (hd : (x == ("__debug__" : Str)) = false := by decide) (hcd : (x == ("__classdict__" : Str)) = false := by decide) : PE X (.Name x pos) (tVar i) := by
  intro pins s σ H Q I h
  obtain ⟨v, e, h⟩ := h
  obtain ⟨m, hn, hl⟩ := I.loc
  obtain ⟨u, r, l⟩ := hl i x v hN e hv
  have fin : EP X pins σ Q u s := ⟨v, H, I, r, h⟩
  rcases l with ⟨hk, hm⟩ | ⟨hk, c, hc, hcell⟩
  · exact wpAny_Name (wpAny_loadName_local I.ok.kind hk hn hm fin) hd
  · rcases hk with hk | hk
    · exact wpAny_Name (wpAny_loadName_cell I.ok.kind hk hc hcell fin) hd
    · exact wpAny_Name (wpAny_loadName_free I.ok.kind hk hc hcell fin hcd) hd
theorem pe_int {i j pos} : PE X (.Constant (.int i) j pos) (tC (.int i)) := fun _ _ _ H _ I h => wpAny_Constant_int ⟨.int i, H, I.tok _, ⟨_, rfl⟩, h⟩
theorem pe_bl {b j pos} : PE X (.Constant (.bool b) j pos) (tC (.bl b)) := fun _ _ _ H _ I h => Constant_bool ⟨.bl b, H, I, rfl, h⟩
theorem pe_non {j pos} : PE X (.Constant .none j pos) (tC .non) := fun _ _ _ H _ I h => Constant_none ⟨.non, H, I, rfl, h⟩
theorem pe_str {x j pos} : PE X (.Constant (.str x) j pos) (tC (.str x)) := fun _ _ _ H _ I h => Calls.Constant_str ⟨.str x, H, I.tok _, ⟨_, rfl⟩, h⟩

/-- a global name of the def -/
def Gl (X : Cx) (x : Str) : Prop := X.env.kindOf x = some .globalImplicit
theorem ld_glob {E : Value → Shared → Prop} {pins : List (Addr × Obj)} {s : Shared} {σ : St} {H : Hp} {x : Str} {u : Value} {pos : Pos} {Q : Value → Shared → Prop} (I : Inv X pins σ H s) (hg : Gl X x) (hm : X.mg x = some u) (h : Q u s)
    (hd : (x == ("__debug__" : Str)) = false := by decide) : wpAny (model X.prog X.w) X.A (eval (.Name x pos) X.env) Q E s :=
  Calls.Name_function_global I.ok.kind hg (Calls.loadGlobal_global (by rw [I.ok.glob]; exact I.mod.glob.keeps I.bk) hm h) hd
theorem ld_blt {E : Value → Shared → Prop} {pins : List (Addr × Obj)} {s : Shared} {σ : St} {H : Hp} {x : Str} {u : Value} {pos : Pos} {Q : Value → Shared → Prop} (I : Inv X pins σ H s) (hg : Gl X x) (hm : X.mg x = none) (hv : bootBuiltins x = some u) (h : Q u s)
    (hn : x ≠ "__name__" := by decide) (hd : (x == ("__debug__" : Str)) = false := by decide) : wpAny (model X.prog X.w) X.A (eval (.Name x pos) X.env) Q E s := by
  obtain ⟨mb, h1, h2⟩ := I.mod.blt
  exact Calls.Name_function_global I.ok.kind hg (Calls.loadGlobal_builtin (by rw [I.ok.glob]; exact I.mod.glob.keeps I.bk) hm (by rw [I.ok.blt]; exact h1.keeps I.bk) ((h2 x hn).trans hv) h) hd
/-- a module's constant, a class, a function, as a value -/
theorem pe_glob {x : Str} {v : V} {u : Value} {pos : Pos} (hg : Gl X x) (hm : X.mg x = some u) (r : RelV v u) (hd : (x == ("__debug__" : Str)) = false := by decide) : PE X (.Name x pos) (tC v) :=
  fun _ _ _ H _ I h => ld_glob I hg hm ⟨v, H, I, r, h⟩ hd
theorem pe_bltn {x : Str} {v : V} {u : Value} {pos : Pos} (hg : Gl X x) (hm : X.mg x = none) (hv : bootBuiltins x = some u) (r : RelV v u) (hn : x ≠ "__name__" := by decide) (hd : (x == ("__debug__" : Str)) = false := by decide) : PE X (.Name x pos) (tC v) :=
  fun _ _ _ H _ I h => ld_blt I hg hm hv ⟨v, H, I, r, h⟩ hn hd

/-! ### arithmetic -/
/-- two ints -/
def t2I (ta tb : TE) (k : Int → Int → Hp → Prop) : St → Hp → Prop := fun σ H => ta σ H fun x H1 => tb σ H1 fun y H2 => ∃ i j, x = .int i ∧ y = .int j ∧ k i j H2
def tAdd (ta tb : TE) : TE := fun σ H Q => t2I ta tb (fun i j H2 => Q (.int (i + j)) H2) σ H
def tSub (ta tb : TE) : TE := fun σ H Q => t2I ta tb (fun i j H2 => Q (.int (i - j)) H2) σ H
/-- the left factor below 2^64 -/
def tMul (ta tb : TE) : TE := fun σ H Q => t2I ta tb (fun i j H2 => (-(2 ^ 64) < i ∧ i < 2 ^ 64) ∧ Q (.int (i * j)) H2) σ H
variable {a b : Expr} {ta tb : TE} {pos : Pos}
theorem pe_add (ha : PE X a ta) (hb : PE X b tb) : PE X (.BinOp a .Add b pos) (tAdd ta tb) := by
  intro pins s σ H Q I h
  refine wpAny_BinOp (bin ha hb I h fun v u s2 x y H2 I2 rx ry q => ?_)
  obtain ⟨i, j, rfl, rfl, q⟩ := q
  obtain ⟨t, rfl⟩ := rx
  obtain ⟨t', rfl⟩ := ry
  exact add_int ⟨.int _, H2, I2.tok _, ⟨_, rfl⟩, q⟩
theorem pe_sub (ha : PE X a ta) (hb : PE X b tb) : PE X (.BinOp a .Sub b pos) (tSub ta tb) := by
  intro pins s σ H Q I h
  refine wpAny_BinOp (bin ha hb I h fun v u s2 x y H2 I2 rx ry q => ?_)
  obtain ⟨i, j, rfl, rfl, q⟩ := q
  obtain ⟨t, rfl⟩ := rx
  obtain ⟨t', rfl⟩ := ry
  exact sub_int ⟨.int _, H2, I2.tok _, ⟨_, rfl⟩, q⟩
theorem pe_mul (ha : PE X a ta) (hb : PE X b tb) : PE X (.BinOp a .Mult b pos) (tMul ta tb) := by
  intro pins s σ H Q I h
  refine wpAny_BinOp (bin ha hb I h fun v u s2 x y H2 I2 rx ry q => ?_)
  obtain ⟨i, j, rfl, rfl, ⟨q1, q2⟩, q⟩ := q
  obtain ⟨t, rfl⟩ := rx
  obtain ⟨t', rfl⟩ := ry
  exact mul_int ⟨.int _, H2, I2.tok _, ⟨_, rfl⟩, q⟩ (.of_left (intBits_le_64 q1 q2))

/-! ### comparisons -/
def PC (X : Cx) (op : CmpOp) (a b : Expr) (t : TE) : Prop :=
  ∀ (pins : List (Addr × Obj)) (s : Shared) (σ : St) (H : Hp) (Q : VK), Inv X pins σ H s → t σ H Q →
    wpAny (model X.prog X.w) X.A (eval a X.env) (fun v s₁ => wpAny (model X.prog X.w) X.A (eval b X.env) (fun u s₂ => wpAny (model X.prog X.w) X.A (compareOp op v u) (EP X pins σ Q) X.xe s₂) X.xe s₁) X.xe s
theorem nobehind (b : Expr) {op : CmpOp} (h : op ≠ .In) (h2 : op ≠ .NotIn) : behindInMarks op b = false := by
  have e1 : (op == CmpOp.In) = false := by cases op <;> first | rfl | exact absurd rfl h
  have e2 : (op == CmpOp.NotIn) = false := by cases op <;> first | rfl | exact absurd rfl h2
  cases b <;> simp [behindInMarks, e1, e2]
def tCmp (p : Int → Int → Bool) (ta tb : TE) : TE := fun σ H Q => t2I ta tb (fun i j H2 => Q (.bl (p i j)) H2) σ H
abbrev tLt : TE → TE → TE := tCmp fun i j => decide (i < j)
abbrev tLe : TE → TE → TE := tCmp fun i j => decide (i ≤ j)
abbrev tGt : TE → TE → TE := tCmp fun i j => decide (j < i)
abbrev tGe : TE → TE → TE := tCmp fun i j => decide (j ≤ i)
abbrev tEqI : TE → TE → TE := tCmp fun i j => decide (i = j)
abbrev tNeI : TE → TE → TE := tCmp fun i j => !decide (i = j)
/-- a comparison of two ints, by its rule -/
theorem pc_int {op : CmpOp} {p : Int → Int → Bool} (ha : PE X a ta) (hb : PE X b tb)
    (rule : ∀ (i j : Int) (t u : Tok) (Q : Value → Shared → Prop) (s : Shared), Q (.bool (p i j)) s → wpAny (model X.prog X.w) X.A (compareOp op (.int i t) (.int j u)) Q X.xe s) : PC X op a b (tCmp p ta tb) := by
  intro pins s σ H Q I h
  refine bin ha hb I h fun v u s2 x y H2 I2 rx ry q => ?_
  obtain ⟨i, j, rfl, rfl, q⟩ := q
  obtain ⟨t, rfl⟩ := rx
  obtain ⟨t', rfl⟩ := ry
  exact rule i j t t' _ s2 ⟨.bl _, H2, I2, rfl, q⟩
theorem pc_lt (ha : PE X a ta) (hb : PE X b tb) : PC X .Lt a b (tLt ta tb) := pc_int ha hb fun _ _ _ _ _ _ h => lt_int h
theorem pc_le (ha : PE X a ta) (hb : PE X b tb) : PC X .LtE a b (tLe ta tb) := pc_int ha hb fun _ _ _ _ _ _ h => le_int h
theorem pc_gt (ha : PE X a ta) (hb : PE X b tb) : PC X .Gt a b (tGt ta tb) := pc_int ha hb fun _ _ _ _ _ _ h => gt_int h
theorem pc_ge (ha : PE X a ta) (hb : PE X b tb) : PC X .GtE a b (tGe ta tb) := pc_int ha hb fun _ _ _ _ _ _ h => ge_int h
theorem pc_eqI (ha : PE X a ta) (hb : PE X b tb) : PC X .Eq a b (tEqI ta tb) := pc_int ha hb fun _ _ _ _ _ _ h => eq_int (by rw [Bool.beq_eq_decide_eq]; exact h)
theorem pc_neI (ha : PE X a ta) (hb : PE X b tb) : PC X .NotEq a b (tNeI ta tb) := pc_int ha hb fun _ _ _ _ _ _ h => ne_int (by rw [bne, Bool.beq_eq_decide_eq]; exact h)
/-- is None -/
def tIsN (ta : TE) : TE := fun σ H Q => ta σ H fun x H1 => Q (.bl (decide (x = .non))) H1
def tNotN (ta : TE) : TE := fun σ H Q => ta σ H fun x H1 => Q (.bl (!decide (x = .non))) H1
theorem RelV.none_iff {x : V} {v : Value} (r : RelV x v) : (v == Value.none) = decide (x = .non) := by
  cases x with
  | non => cases r; rfl
  | bl _ => cases r; rfl
  | int _ => obtain ⟨t, rfl⟩ := r; rfl
  | str _ => obtain ⟨t, rfl⟩ := r; rfl
  | byt _ => obtain ⟨t, rfl⟩ := r; rfl
  | flt _ => obtain ⟨t, rfl⟩ := r; rfl
  | ref _ => cases r; rfl
  | ty _ => cases r; rfl
theorem pc_isN {j pos'} (ha : PE X a ta) : PC X .Is a (.Constant .none j pos') (tIsN ta) := by
  intro pins s σ H Q I h
  refine thn (ha pins s σ H _ I h) fun v s1 ⟨x, H1, I1, r1, q1⟩ => ?_
  exact Constant_none (is_none_gen ⟨.bl _, H1, I1, by rw [r1.none_iff]; rfl, q1⟩)
theorem pc_notN {j pos'} (ha : PE X a ta) : PC X .IsNot a (.Constant .none j pos') (tNotN ta) := by
  intro pins s σ H Q I h
  refine thn (ha pins s σ H _ I h) fun v s1 ⟨x, H1, I1, r1, q1⟩ => ?_
  exact Constant_none (isnot_none_gen ⟨.bl _, H1, I1, by rw [r1.none_iff]; rfl, q1⟩)
/-- a comparison as a value, as a test -/
def tB (t : TE) : TT := fun σ H Q => t σ H fun x H1 => ∃ c, x = .bl c ∧ Q c H1
theorem pe_cmp {op : CmpOp} {t : TE} (h : PC X op a b t) (h1 : behindInMarks op b = false := by first | exact nobehind _ (by decide) (by decide) | rfl) : PE X (.Compare a [op] [b] pos) t := fun pins s σ H Q I hw => wpAny_Compare1 (h pins s σ H Q I hw) h1
theorem pt_cmp {op : CmpOp} {t : TE} (h : PC X op a b t) (h1 : behindInMarks op b = false := by first | exact nobehind _ (by decide) (by decide) | rfl) : PT X (.Compare a [op] [b] pos) (tB t) := by
  intro pins s σ H Q I hw
  refine wpAny_isTrue_Compare1 (thn (h pins s σ H _ I hw) fun v s1 h1 => thn h1 fun u s2 h2 => thn h2 fun c s3 ⟨x, H1, I1, r1, q1⟩ => ?_) h1
  obtain ⟨d, rfl, q⟩ := q1
  cases r1
  exact wpAny_truthy_bool ⟨H1, I1, q⟩
/-- an expression whose value is a bool, as a test -/
theorem pt_val {e : Expr} {t : TE} (h : PE X e t) (he : ∀ whole, isTrue e X.env whole = (do let v ← whole; standAt e.pos; holding [v] (truthy v)) := by intro _; rfl) : PT X e (tB t) := by
  intro pins s σ H Q I hw
  refine isTrue_plain (thn (h pins s σ H _ I hw) fun v s1 ⟨x, H1, I1, r1, q1⟩ => ?_) (he _)
  obtain ⟨d, rfl, q⟩ := q1
  cases r1
  exact wpAny_truthy_bool ⟨H1, I1, q⟩

/-! ### and, or, not -/
variable {tA tB' : TT} {rest : List Expr}
def tAnd (t u : TT) : TT := fun σ H Q => t σ H fun c H1 => if c = true then u σ H1 Q else Q false H1
def tOr (t u : TT) : TT := fun σ H Q => t σ H fun c H1 => if c = true then Q true H1 else u σ H1 Q
def tNot (t : TT) : TT := fun σ H Q => t σ H fun c H1 => Q (!c) H1
theorem pw_and1 (ha : PT X a tA) : PW X (.BoolOp .And [a] pos) tA := by
  intro wh pins s σ H Q I h
  refine isTrue_and (thn (ha pins s σ H Q I h) fun c s1 e => ?_)
  cases c with
  | true => exact isTrue_and_nil e
  | false => exact e
theorem pw_or1 (ha : PT X a tA) : PW X (.BoolOp .Or [a] pos) tA := by
  intro wh pins s σ H Q I h
  refine isTrue_or (thn (ha pins s σ H Q I h) fun c s1 e => ?_)
  cases c with
  | false => exact isTrue_or_nil e
  | true => exact e
theorem pw_and (ha : PT X a tA) (hb : PW X (.BoolOp .And (b :: rest) pos) tB') : PW X (.BoolOp .And (a :: b :: rest) pos) (tAnd tA tB') := by
  intro wh pins s σ H Q I h
  refine isTrue_and (thn (ha pins s σ H _ I h) fun c s1 ⟨H1, I1, q1⟩ => ?_)
  cases c with
  | true => exact hb wh pins s1 σ H1 Q I1 q1
  | false => exact ⟨H1, I1, q1⟩
theorem pw_or (ha : PT X a tA) (hb : PW X (.BoolOp .Or (b :: rest) pos) tB') : PW X (.BoolOp .Or (a :: b :: rest) pos) (tOr tA tB') := by
  intro wh pins s σ H Q I h
  refine isTrue_or (thn (ha pins s σ H _ I h) fun c s1 ⟨H1, I1, q1⟩ => ?_)
  cases c with
  | true => exact ⟨H1, I1, q1⟩
  | false => exact hb wh pins s1 σ H1 Q I1 q1
theorem pt_not (ha : PT X a tA) : PT X (.UnaryOp .Not a pos) (tNot tA) := by
  intro pins s σ H Q I h
  exact isTrue_not (ha pins s σ H (fun c H1 => Q (!c) H1) I h)
/-- .. as values (bools) -/
def tAndV (ta tb : TE) : TE := fun σ H Q => ta σ H fun x H1 => ∃ c, x = .bl c ∧ if c = true then tb σ H1 Q else Q (.bl false) H1
def tOrV (ta tb : TE) : TE := fun σ H Q => ta σ H fun x H1 => ∃ c, x = .bl c ∧ if c = true then Q (.bl true) H1 else tb σ H1 Q
def tNotV (ta : TE) : TE := fun σ H Q => ta σ H fun x H1 => ∃ c, x = .bl c ∧ Q (.bl (!c)) H1
theorem pe_one {op} {t : TE} (h : PE X a t) : PE X (.BoolOp op [a] pos) t := fun pins s σ H Q I hw => BoolOp_one (h pins s σ H Q I hw)
theorem pe_and (ha : PE X a ta) (hb : PE X (.BoolOp .And (b :: rest) pos) tb) : PE X (.BoolOp .And (a :: b :: rest) pos) (tAndV ta tb) := by
  intro pins s σ H Q I h
  refine BoolOp_and (thn (ha pins s σ H _ I h) fun v s1 ⟨x, H1, I1, r1, q1⟩ => ?_)
  obtain ⟨c, rfl, q1⟩ := q1
  cases r1
  refine wpAny_truthy_bool ?_
  cases c with
  | true => exact hb pins s1 σ H1 Q I1 q1
  | false => exact ⟨.bl false, H1, I1, rfl, q1⟩
theorem pe_or (ha : PE X a ta) (hb : PE X (.BoolOp .Or (b :: rest) pos) tb) : PE X (.BoolOp .Or (a :: b :: rest) pos) (tOrV ta tb) := by
  intro pins s σ H Q I h
  refine BoolOp_or (thn (ha pins s σ H _ I h) fun v s1 ⟨x, H1, I1, r1, q1⟩ => ?_)
  obtain ⟨c, rfl, q1⟩ := q1
  cases r1
  refine wpAny_truthy_bool ?_
  cases c with
  | false => exact hb pins s1 σ H1 Q I1 q1
  | true => exact ⟨.bl true, H1, I1, rfl, q1⟩
theorem pe_not (ha : PE X a ta) : PE X (.UnaryOp .Not a pos) (tNotV ta) := by
  intro pins s σ H Q I h
  refine UnaryOp_ (thn (ha pins s σ H _ I h) fun v s1 ⟨x, H1, I1, r1, q1⟩ => ?_)
  obtain ⟨c, rfl, q1⟩ := q1
  cases r1
  exact not_of (wpAny_truthy_bool ⟨.bl (!c), H1, I1, rfl, q1⟩)
/-- a if t else b -/
def tIf (t : TT) (ta tb : TE) : TE := fun σ H Q => t σ H fun c H1 => if c = true then ta σ H1 Q else tb σ H1 Q
theorem pe_ifExp {c : Expr} (hc : PT X c tA) (ha : PE X a ta) (hb : PE X b tb) : PE X (.IfExp c a b pos) (tIf tA ta tb) := by
  intro pins s σ H Q I h
  refine wpAny_IfExp (thn (hc pins s σ H _ I h) fun d s1 ⟨H1, I1, q1⟩ => ?_)
  cases d with
  | true => exact ha pins s1 σ H1 Q I1 q1
  | false => exact hb pins s1 σ H1 Q I1 q1
end
end L2

namespace L2
open PySem PySem.Spec PyProof.Rows

/-! ### a list, a tuple that is read: tracked, frozen, or an object of the module -/
def SqL (K : PySem.W.Frag) (H : Hp) (a : Addr) (xs : List V) : Prop :=
  Rd H a (.lst xs) ∨
    ∃ (o : Obj) (its : Array Value) (n : Nat), K.lookup a = some o ∧ o.cls = .type "list" ∧ o.dict = none ∧ o.data = .seq its n ∧ its.size ≤ sizeLine ∧ Vals xs its.toList
def SqT (K : PySem.W.Frag) (H : Hp) (a : Addr) (xs : List V) : Prop :=
  Rd H a (.tup xs) ∨
    ∃ (o : Obj) (its : Array Value) (n : Nat), K.lookup a = some o ∧ o.cls = .type "tuple" ∧ o.data = .seq its n ∧ its.size ≤ sizeLine ∧ Vals xs its.toList
def absV : Value → Option V
  | .none => some .non
  | .bool b => some (.bl b)
  | .int i _ => some (.int i)
  | .str x _ => some (.str x)
  | .bytes b _ => some (.byt b)
  | .float b _ => some (.flt b)
  | .ref a => some (.ref a)
  | .type n => some (.ty n)
  | _ => none
theorem RelV.abs {x : V} {u : Value} (r : RelV x u) : absV u = some x := by
  cases x with
  | non => cases r; rfl
  | bl _ => cases r; rfl
  | int _ => obtain ⟨t, rfl⟩ := r; rfl
  | str _ => obtain ⟨t, rfl⟩ := r; rfl
  | byt _ => obtain ⟨t, rfl⟩ := r; rfl
  | flt _ => obtain ⟨t, rfl⟩ := r; rfl
  | ref _ => cases r; rfl
  | ty _ => cases r; rfl
theorem RelV.inj {x y : V} {u : Value} (r : RelV x u) (q : RelV y u) : x = y := Option.some.inj (r.abs.symm.trans q.abs)
theorem Vals.inj : ∀ {xs ys : List V} {us : List Value}, Vals xs us → Vals ys us → xs = ys
  | _, _, _, .nil, .nil => rfl
  | _, _, _, .cons r t, .cons r' t' => by rw [r.inj r', Vals.inj t t']
section
variable {X : Cx} {pins : List (Addr × Obj)} {σ : St} {H : Hp} {s : Shared} {a : Addr} {xs ys : List V}
theorem SqL.of {K : PySem.W.Frag} (h : H a = some (.lst xs)) : SqL K H a xs := .inl (.inl h)
theorem SqT.of {K : PySem.W.Frag} (h : H a = some (.tup xs)) : SqT K H a xs := .inl (.inl h)
theorem Inv.list (I : Inv X pins σ H s) (h : SqL X.K H a xs) : ∃ its : List Value, Vals xs its ∧ PlainL s.heap a its.toArray ∧ xs.length ≤ sizeLine := by
  rcases h with h | ⟨o, its, n, hk, hc, hd, hs, hz, r⟩
  · obtain ⟨z, its, n, r, e⟩ := h.ok I.hok
    exact ⟨its, r, ⟨_, n, e, rfl, rfl, rfl⟩, z⟩
  · refine ⟨its.toList, r, ⟨o, n, I.kIn a o hk, hc, hd, by simpa using hs⟩, ?_⟩
    have e := r.length
    simp only [Array.length_toList] at e
    omega
theorem Inv.tuple (I : Inv X pins σ H s) (h : SqT X.K H a xs) : ∃ its : List Value, Vals xs its ∧ IsTup s.heap a its.toArray ∧ xs.length ≤ sizeLine := by
  rcases h with h | ⟨o, its, n, hk, hc, hs, hz, r⟩
  · obtain ⟨z, its, r, p⟩ := h.ok I.hok
    exact ⟨its, r, p, z⟩
  · refine ⟨its.toList, r, ⟨o, I.kIn a o hk, hc, n, by simpa using hs⟩, ?_⟩
    have e := r.length
    simp only [Array.length_toList] at e
    omega
theorem Inv.list_inj (I : Inv X pins σ H s) (h : SqL X.K H a xs) (h' : SqL X.K H a ys) : xs = ys := by
  obtain ⟨its, r, ⟨o, n, e, _, _, d⟩, _⟩ := I.list h
  obtain ⟨its', r', ⟨o', n', e', _, _, d'⟩, _⟩ := I.list h'
  rw [e] at e'; cases e'
  rw [d] at d'
  injection d' with d1 _
  have : its = its' := by simpa using congrArg Array.toList d1
  subst this
  exact r.inj r'
theorem Inv.tuple_inj (I : Inv X pins σ H s) (h : SqT X.K H a xs) (h' : SqT X.K H a ys) : xs = ys := by
  obtain ⟨its, r, ⟨o, e, _, n, d⟩, _⟩ := I.tuple h
  obtain ⟨its', r', ⟨o', e', _, n', d'⟩, _⟩ := I.tuple h'
  rw [e] at e'; cases e'
  rw [d] at d'
  injection d' with d1 _
  have : its = its' := by simpa using congrArg Array.toList d1
  subst this
  exact r.inj r'
end

/-! ### another wish about exceptions -/
abbrev Cx.wish (X : Cx) (E : Value → Shared → Prop) : Cx := { X with xe := E }
/-- no exception leaves -/
abbrev Cx.nox (X : Cx) : Cx := X.wish fun _ _ => False
theorem Cx.Ok.wish {X : Cx} (ok : X.Ok) (E : Value → Shared → Prop) : (X.wish E).Ok :=
  ⟨ok.mod, ok.kind, ok.glob, ok.blt, ok.above, ok.inj, ok.has, ok.cab, ok.hd, ok.frames, ok.stk, ok.exf, ok.bs, ok.bsz, ok.noex, ok.exfs, ok.funs, ok.frf⟩
theorem Cx.Ok.unwish {X : Cx} {E : Value → Shared → Prop} (ok : (X.wish E).Ok) : X.Ok :=
  ⟨ok.mod, ok.kind, ok.glob, ok.blt, ok.above, ok.inj, ok.has, ok.cab, ok.hd, ok.frames, ok.stk, ok.exf, ok.bs, ok.bsz, ok.noex, ok.exfs, ok.funs, ok.frf⟩
section
variable {X : Cx} {pins : List (Addr × Obj)} {σ : St} {H : Hp} {s : Shared} {E : Value → Shared → Prop}
theorem Inv.wish (I : Inv X pins σ H s) (E : Value → Shared → Prop) : Inv (X.wish E) pins σ H s := ⟨I.ok.wish E, I.os, I.bare, I.base, I.loc, I.cell, I.free, I.freeC, I.pin, I.hok, I.len⟩
theorem Inv.unwish (I : Inv (X.wish E) pins σ H s) : Inv X pins σ H s := ⟨I.ok.unwish, I.os, I.bare, I.base, I.loc, I.cell, I.free, I.freeC, I.pin, I.hok, I.len⟩
theorem SP.unwish {D : Ends} {f : Flow} {s' : Shared} (h : SP (X.wish E) pins D f s') : SP X pins D f s' := by
  cases f with
  | next => obtain ⟨σ', H', I, q⟩ := h; exact ⟨σ', H', I.unwish, q⟩
  | brk => obtain ⟨σ', H', I, q⟩ := h; exact ⟨σ', H', I.unwish, q⟩
  | cont => obtain ⟨σ', H', I, q⟩ := h; exact ⟨σ', H', I.unwish, q⟩
  | ret u => obtain ⟨v, σ', H', I, r, q⟩ := h; exact ⟨v, σ', H', I.unwish, r, q⟩
theorem PE.nox {e : Expr} {t : TE} (h : PE X.nox e t) : PE X e t := fun pins s σ H Q I hw =>
  wpAny_mono (h pins s σ H Q (I.wish _) hw) (fun _ _ ⟨v, H', I', r, q⟩ => ⟨v, H', I'.unwish, r, q⟩) fun _ _ z => False.elim z
theorem PT.nox {e : Expr} {t : TT} (h : PT X.nox e t) : PT X e t := fun pins s σ H Q I hw =>
  wpAny_mono (h pins s σ H Q (I.wish _) hw) (fun _ _ ⟨H', I', q⟩ => ⟨H', I'.unwish, q⟩) fun _ _ z => False.elim z
theorem PSs.nox {st : List Stmt} {t : TS} (h : PSs X.nox st t) : PSs X st t := fun pins s σ H D I hw =>
  wpAny_mono (h pins s σ H D (I.wish _) hw) (fun _ _ q => q.unwish) fun _ _ z => False.elim z
end

/-! ### blocks and small statements -/
section
variable {X : Cx} {st : Stmt} {rest : List Stmt} {t u : TS} {e : Expr} {te : TE} {pos : Pos}
def tNext : TS := fun D σ H => D.nx σ H
def tSeq (t u : TS) : TS := fun D σ H => t { D with nx := u D } σ H
theorem pss_nil : PSs X [] tNext := fun _ _ σ H _ I h => wpAny_execs_nil ⟨σ, H, I, h⟩
theorem pss_cons (h1 : PS X st t) (h2 : PSs X rest u) : PSs X (st :: rest) (tSeq t u) := by
  intro pins s σ H D I h
  refine wpAny_execs_cons (thn (h1 pins s σ H { D with nx := u D } I h) fun f s1 q => ?_)
  cases f with
  | next =>
    obtain ⟨σ', H', I', q⟩ := q
    exact h2 pins s1 σ' H' D I' q
  | ret v => exact q
  | brk => exact q
  | cont => exact q
theorem pss_one (h1 : PS X st t) : PSs X [st] t := by
  intro pins s σ H D I h
  refine wpAny_execs_cons (thn (h1 pins s σ H D I h) fun f s1 q => ?_)
  cases f with
  | next => exact wpAny_execs_nil q
  | ret v => exact q
  | brk => exact q
  | cont => exact q
def tBreak : TS := fun D σ H => D.bk σ H
def tCont : TS := fun D σ H => D.ct σ H
theorem ps_pass : PS X (.Pass pos) tNext := fun _ _ σ H _ I h => wpAny_Pass ⟨σ, H, I, h⟩
theorem ps_break : PS X (.Break pos) tBreak := fun _ _ σ H _ I h => wpAny_Break ⟨σ, H, I, h⟩
theorem ps_continue : PS X (.Continue pos) tCont := fun _ _ σ H _ I h => wpAny_Continue ⟨σ, H, I, h⟩
/-- in a def's body nothing is shown -/
theorem Inv.quiet {pins : List (Addr × Obj)} {σ : St} {H : Hp} {s : Shared} (I : Inv X pins σ H s) : interactive X.env = false := by simp [interactive, I.ok.kind]
/-- a docstring -/
theorem ps_doc {x j pos pos'} : PS X (.Expr (.Constant (.str x) j pos) pos') tNext := fun _ s σ H _ I h => wpAny_Expr (Calls.Constant_str (show SP X _ _ .next { s with toks := s.toks + 1 } from ⟨σ, H, I.tok _, h⟩)) I.quiet
/-- an expression whose value is dropped -/
def tDrop (te : TE) : TS := fun D σ H => te σ H fun _ H1 => D.nx σ H1
theorem ps_expr (he : PE X e te) (hs : swapsWith e none pos.line X.env = pure false := by rfl) : PS X (.Expr e pos) (tDrop te) := by
  intro pins s σ H D I h
  exact wpAny_Expr_any (thn (he pins s σ H _ I h) fun v s1 ⟨x, H1, I1, r1, q1⟩ => ⟨σ, H1, I1, q1⟩) I.quiet hs
def tRet (te : TE) : TS := fun D σ H => te σ H D.rt
theorem ps_ret (he : PE X e te) : PS X (.Return (some e) pos) (tRet te) := by
  intro pins s σ H D I h
  exact wpAny_Return_some (thn (he pins s σ H _ I h) fun v s1 ⟨x, H1, I1, r1, q1⟩ => ⟨x, σ, H1, I1, r1, q1⟩)
def tRetN : TS := fun D _ H => D.rt .non H
theorem ps_retN : PS X (.Return none pos) tRetN := fun _ _ σ H _ I h => wpAny_Return_none ⟨.non, σ, H, I, rfl, h⟩
def tIfS (c : TT) (t u : TS) : TS := fun D σ H => c σ H fun b H1 => if b = true then t D σ H1 else u D σ H1
theorem ps_if {c : Expr} {a b : List Stmt} {tc : TT} (hc : PT X c tc) (ha : PSs X a t) (hb : PSs X b u) : PS X (.If c a b pos) (tIfS tc t u) := by
  intro pins s σ H D I h
  refine wpAny_If (thn (hc pins s σ H _ I h) fun d s1 ⟨H1, I1, q1⟩ => ?_)
  cases d with
  | true => exact ha pins s1 σ H1 D I1 q1
  | false => exact hb pins s1 σ H1 D I1 q1
/-- code that the proof never comes to -/
def tNever : TS := fun _ _ _ => False
theorem ps_never : PS X st tNever := fun _ _ _ _ _ _ h => h.elim
theorem pss_never {sts : List Stmt} : PSs X sts tNever := fun _ _ _ _ _ _ h => h.elim
end

/-! ### targets -/
abbrev TG := V → St → Hp → (St → Hp → Prop) → Prop
abbrev TGs := List V → St → Hp → (St → Hp → Prop) → Prop
def PG (X : Cx) (target : Expr) (t : TG) : Prop :=
  ∀ (pins : List (Addr × Obj)) (s : Shared) (σ : St) (H : Hp) (v : V) (u : Value) (Q : St → Hp → Prop), Inv X pins σ H s → RelV v u → t v σ H Q →
    wpAny (model X.prog X.w) X.A (assign target X.env u) (fun _ s' => ∃ σ' H', Inv X pins σ' H' s' ∧ Q σ' H') X.xe s
/-- several targets, one after another -/
def PGs (X : Cx) (ts : List Expr) (t : TGs) : Prop :=
  ∀ (pins : List (Addr × Obj)) (s : Shared) (σ : St) (H : Hp) (vs : List V) (us : List Value) (Q : St → Hp → Prop), Inv X pins σ H s → Vals vs us → t vs σ H Q →
    wpAny (model X.prog X.w) X.A (assignInOrder ((assignEach ts X.env).map (·.2)) us) (fun _ s' => ∃ σ' H', Inv X pins σ' H' s' ∧ Q σ' H') X.xe s
/-- o[i] = v, by values -/
abbrev TSet := V → V → V → Hp → (Hp → Prop) → Prop
def PSet (X : Cx) (t : TSet) : Prop :=
  ∀ (pins : List (Addr × Obj)) (s : Shared) (σ : St) (H : Hp) (o i v : V) (ov iv u : Value) (Q : Hp → Prop), Inv X pins σ H s → RelV o ov → RelV i iv → RelV v u → t o i v H Q →
    wpAny (model X.prog X.w) X.A (setItem ov iv u) (fun _ s' => ∃ H', Inv X pins σ H' s' ∧ Q H') X.xe s
/-- a op= b, by values -/
abbrev TIp := V → V → Hp → VK → Prop
def PIp (X : Cx) (op : Operator) (t : TIp) : Prop :=
  ∀ (pins : List (Addr × Obj)) (s : Shared) (σ : St) (H : Hp) (x y : V) (v u : Value) (Q : VK), Inv X pins σ H s → RelV x v → RelV y u → t x y H Q →
    wpAny (model X.prog X.w) X.A (inplaceOp op v u) (EP X pins σ Q) X.xe s
section
variable {X : Cx} {pos : Pos}
def gName (i : Nat) : TG := fun v σ H Q => Q (σ.set i (some v)) H
theorem pg_name {i : Nat} {x : Str} (hN : X.N.Nodup) (hi : X.N[i]? = some x) (hx : Loc X.env.scope x) (hf : X.fn x = true ∨ X.env.scope.names.lookup x = some .local := by first | exact .inl rfl | exact .inr rfl | assumption) : PG X (.Name x pos) (gName i) := by
  intro pins s σ H v u Q I r h
  exact wpAny_assign_Name (store_ok I hN hi hx r (fun s' I' => ⟨_, H, I', h⟩) hf)
def gNil : TGs := fun vs σ H Q => vs = [] ∧ Q σ H
def gCons (t : TG) (u : TGs) : TGs := fun vs σ H Q => ∃ v r, vs = v :: r ∧ t v σ H fun σ' H' => u r σ' H' Q
theorem pgs_nil : PGs X [] gNil := by
  intro pins s σ H vs us Q I r h
  obtain ⟨e, h⟩ := h
  subst e
  cases r
  exact assignInOrder_nil ⟨σ, H, I, h⟩
theorem pgs_cons {e : Expr} {es : List Expr} {t : TG} {u : TGs} (h1 : PG X e t) (h2 : PGs X es u)
    (hs : (assignEach (e :: es) X.env).map (·.2) = assign e X.env :: (assignEach es X.env).map (·.2) := by rfl) : PGs X (e :: es) (gCons t u) := by
  intro pins s σ H vs us Q I r h
  obtain ⟨v, vr, e1, h⟩ := h
  subst e1
  cases r with
  | cons r rr =>
    rw [hs]
    refine assignInOrder_cons (thn (h1 pins s σ H _ _ _ I r h) fun _ s1 ⟨σ1, H1, I1, q1⟩ => ?_)
    exact h2 pins s1 σ1 H1 _ _ Q I1 rr q1
/-- (a, b, ..) = a tuple of that length -/
def gTup (K : PySem.W.Frag) (n : Nat) (t : TGs) : TG := fun v σ H Q => ∃ a xs, v = .ref a ∧ SqT K H a xs ∧ xs.length = n ∧ t xs σ H Q
theorem pg_tup {es : List Expr} {k : Nat} {t : TGs} {n : Nat} (hc : X.calm = true) (h : PGs X es t)
    (hn : (assignEach es X.env).length = n := by rfl) (hst : (assignEach es X.env).findIdx? (·.1) = none := by rfl) : PG X (.Tuple es k pos) (gTup X.K n t) := by
  intro pins s σ H v u Q I r hw
  obtain ⟨a, xs, e1, hq, hl, hw⟩ := hw
  subst e1
  cases r
  obtain ⟨its, rv, ht, hz⟩ := I.tuple hq
  refine assign_Tuple_tuple (I.ok.hd hc) ht (by simp [hn, ← hl, rv.length]) hst fun h' hx => ?_
  have I1 : Inv X pins σ H { s with heap := h' } := I.kept (t' := s.toks) fun b o e => hx b o (Nat.ne_of_lt (Heap.lt_size e)) e
  exact h pins _ σ H xs _ Q I1 (by simpa using rv) hw
/-- o[i] = .. -/
def gSub (to ti : TE) (t : TSet) : TG := fun v σ H Q => to σ H fun o H1 => ti σ H1 fun i H2 => t o i v H2 fun H3 => Q σ H3
theorem pg_sub {o i : Expr} {to ti : TE} {t : TSet} (ho : PE X o to) (hi : PE X i ti) (hs : PSet X t)
    (ha : ∀ v, assign (.Subscript o i pos) X.env v = (do
      let ov ← holding [v] (eval o X.env)
      let iv ← holding [v, ov] (eval i X.env)
      standAt pos
      holding [v, ov, iv] (setItem ov iv v)
      release [v, ov, iv] []) := by intro _; rfl) : PG X (.Subscript o i pos) (gSub to ti t) := by
  intro pins s σ H v u Q I r h
  rw [ha]
  refine wpAny_bind (wpAny_holding (thn (ho pins s σ H _ I h) fun ov s1 ⟨x, H1, I1, r1, q1⟩ => ?_))
  refine wpAny_bind (wpAny_holding (thn (hi pins s1 σ H1 _ I1 q1) fun iv s2 ⟨y, H2, I2, r2, q2⟩ => ?_))
  refine wpAny_bind (wpAny_standAt (wpAny_bind (wpAny_holding (thn (hs pins s2 σ H2 x y v ov iv u _ I2 r1 r2 r q2) fun _ s3 ⟨H3, I3, q3⟩ => ?_))))
  exact wpAny_release ⟨σ, H3, I3, q3⟩
/-- target = value -/
def tAsg (te : TE) (g : TG) : TS := fun D σ H => te σ H fun x H1 => g x σ H1 D.nx
theorem ps_asg {tg e : Expr} {te : TE} {g : TG} (he : PE X e te) (hg : PG X tg g) (hs : swapsWithSole [tg] e pos.line X.env = pure false := by rfl) (hw : swappedStores [tg] e X.env = pure none := by rfl)
    (h1 : (assignEach [tg] X.env).map (·.2) = [assign tg X.env] := by rfl) : PS X (.Assign [tg] e pos) (tAsg te g) := by
  intro pins s σ H D I h
  refine wpAny_Assign_stores (thn (he pins s σ H _ I h) fun v s1 ⟨x, H1, I1, r1, q1⟩ => ?_) hs hw
  rw [h1]
  exact thn (hg pins s1 σ H1 x v _ I1 r1 q1) fun _ s2 q => q
/-- name = value -/
theorem ps_set {i : Nat} {x : Str} {e : Expr} {te : TE} {pos' : Pos} (hN : X.N.Nodup) (hi : X.N[i]? = some x) (hx : Loc X.env.scope x) (he : PE X e te) (hs : swapsWith e (some (.Name x pos')) pos.line X.env = pure false := by rfl) (hf : X.fn x = true ∨ X.env.scope.names.lookup x = some .local := by first | exact .inl rfl | exact .inr rfl | assumption) :
    PS X (.Assign [.Name x pos'] e pos) (tAsg te (gName i)) := by
  intro pins s σ H D I h
  refine wpAny_Assign_Name (thn (he pins s σ H _ I h) fun v s1 ⟨y, H1, I1, r1, q1⟩ => ?_) hs
  exact store_ok I1 hN hi hx r1 (fun s2 I2 => ⟨_, H1, I2, q1⟩) hf
/-- a, b = x, y with plain local names: stored from the right; the pair itself is not tracked (the opening rows as in PyProof/Rows/TupAssign.lean:23) -/
def tPar (i j : Nat) (ta : TA) : TS := fun D σ H => ta σ H fun vs H1 => ∃ v w, vs = [v, w] ∧ D.nx ((σ.set i (some v)).set j (some w)) H1
theorem ps_par {i j : Nat} {x y : Str} {a b : Expr} {ta : TA} {px py pt : Pos} {kt k2 pt2} (hc : X.calm = true) (hN : X.N.Nodup) (hi : X.N[i]? = some x) (hj : X.N[j]? = some y) (hij : i ≠ j)
    (hx : X.env.scope.names.lookup x = some .local) (hy : X.env.scope.names.lookup y = some .local) (ha : PA X [a, b] ta)
    (hw : swappedStores [.Tuple [.Name x px, .Name y py] kt pt] (.Tuple [a, b] k2 pt2) X.env = pure (some [x, y]))
    (hs : swapsWithSole [.Tuple [.Name x px, .Name y py] kt pt] (.Tuple [a, b] k2 pt2) pos.line X.env = pure false := by rfl) :
    PS X (.Assign [.Tuple [.Name x px, .Name y py] kt pt] (.Tuple [a, b] k2 pt2) pos) (tPar i j ta) := by
  intro pins s σ H D I h
  rw [exec_Assign_arm]
  refine wpAny_bind (wpAny_standAt ?_)
  rw [hs]
  refine wpAny_bind (wpAny_pure ?_)
  rw [if_neg (by decide)]
  refine wpAny_bind (Tuple_ (thn (ha _ pins s σ H _ I h) fun us s1 ⟨vs, H1, I1, r1, q1⟩ => ?_))
  obtain ⟨v, w, e1, q1⟩ := q1
  subst e1
  obtain ⟨u1, u2, rfl, rv, rw'⟩ : ∃ u1 u2, us = [u1, u2] ∧ RelV v u1 ∧ RelV w u2 := by
    cases r1 with
    | cons p q =>
      cases q with
      | cons p' q' =>
        cases q'
        exact ⟨_, _, rfl, p, p'⟩
  refine wpAny_newObj_type ?_ (by show 2 ≤ sizeLine; decide)
  have I2 : Inv X pins σ H1 { s1 with heap := s1.heap.push { cls := .type "tuple", data := .seq [u1, u2].toArray } } := I1.kept (t' := s1.toks) fun b o e => Heap.get?_push_of_some _ e
  rw [hw]
  refine wpAny_bind (wpAny_pure ?_)
  show wpAny (model X.prog X.w) X.A (do rule "assign.swapped-stores"; let items ← unpackItems (.ref s1.heap.objs.size) 2 none; assignInOrder [fun v => bindName X.env y v, fun v => bindName X.env x v] items.reverse; pure Flow.next) _ _ _
  refine wpAny_bind (wpAny_rule (wpAny_bind (unpackItems_tuple (items := #[u1, u2]) (I.ok.hd hc) (IsTup.new s1.heap _) fun h' hx' => ?_)))
  have I3 := I2.kept (h' := h') (t' := s1.toks) fun b o e => hx' b o (Nat.ne_of_lt (Heap.lt_size e)) e
  show wpAny _ _ (assignInOrder [fun v => bindName X.env y v, fun v => bindName X.env x v] [u2, u1] >>= fun _ => pure Flow.next) _ _ _
  refine wpAny_bind (assignInOrder_cons (wpAny_bindName (store_ok I3 hN hj (.inl hy) rw' (fun s2 I4 => ?_) (.inr hy))))
  refine assignInOrder_cons (wpAny_bindName (store_ok I4 hN hi (.inl hx) rv (fun s3 I5 => assignInOrder_nil (wpAny_pure ?_)) (.inr hx)))
  rw [List.set_comm _ _ (Ne.symm hij)] at I5
  exact ⟨_, H1, I5, q1⟩
/-- name op= e -/
def tAug (i : Nat) (te : TE) (ti : TIp) : TS := fun D σ H => ∃ x, σ[i]? = some (some x) ∧ te σ H fun y H1 => ti x y H1 fun z H2 => D.nx (σ.set i (some z)) H2
theorem ps_aug {i : Nat} {x : Str} {e : Expr} {te : TE} {op : Operator} {ti : TIp} {pos' : Pos} (hN : X.N.Nodup) (hi : X.N[i]? = some x) (hx : Loc X.env.scope x) (he : PE X e te) (ho : PIp X op ti) (hf : X.fn x = true ∨ X.env.scope.names.lookup x = some .local := by first | exact .inl rfl | exact .inr rfl | assumption) :
    PS X (.AugAssign (.Name x pos') op e pos) (tAug i te ti) := by
  intro pins s σ H D I h
  obtain ⟨v, e1, h⟩ := h
  obtain ⟨m, hn, hl⟩ := I.loc
  have vis : Vis X.env.scope x := by rcases hx with k | k; exact .inl k; exact .inr (.inl k)
  obtain ⟨u, r, l⟩ := hl i x v hi e1 vis
  refine wpAny_AugAssign_Name ?_
  have go : wpAny (model X.prog X.w) X.A (eval e X.env) (fun w s₂ => wpAny (model X.prog X.w) X.A (inplaceOp op u w) (fun r s₃ => wpAny (model X.prog X.w) X.A (storeName X.env x r) (fun _ => SP X pins D .next) X.xe s₃) X.xe s₂) X.xe s := by
    refine thn (he pins s σ H _ I h) fun w s1 ⟨y, H1, I1, r1, q1⟩ => ?_
    refine thn (ho pins s1 σ H1 v y u w _ I1 r r1 q1) fun z s2 ⟨zv, H2, I2, r2, q2⟩ => ?_
    exact store_ok I2 hN hi hx r2 (fun s3 I3 => ⟨_, H2, I3, q2⟩) hf
  rcases l with ⟨hk, hm⟩ | ⟨hk, c, hc, hcell⟩
  · exact wpAny_loadName_local I.ok.kind hk hn hm go
  · rcases hk with hk | hk
    · exact wpAny_loadName_cell I.ok.kind hk hc hcell go
    · rcases hx with k | k
      · have : X.env.scope.names.lookup x = some .free := hk
        rw [k] at this; cases this
      · have : X.env.scope.names.lookup x = some .free := hk
        rw [k] at this; cases this
/-- o[i] op= e -/
def tAugS (to ti te : TE) (tget : V → V → Hp → VK → Prop) (tip : TIp) (tset : TSet) : TS := fun D σ H => to σ H fun o H1 => ti σ H1 fun i H2 => tget o i H2 fun x H3 => te σ H3 fun y H4 => tip x y H4 fun z H5 => tset o i z H5 fun H6 => D.nx σ H6
/-- o[i], by values -/
def PGet (X : Cx) (t : V → V → Hp → VK → Prop) : Prop :=
  ∀ (pins : List (Addr × Obj)) (s : Shared) (σ : St) (H : Hp) (o i : V) (ov iv : Value) (Q : VK), Inv X pins σ H s → RelV o ov → RelV i iv → t o i H Q →
    wpAny (model X.prog X.w) X.A (getItem ov iv) (EP X pins σ Q) X.xe s
theorem ps_augS {o i e : Expr} {to ti te : TE} {tget : V → V → Hp → VK → Prop} {tip : TIp} {tset : TSet} {op : Operator} {tpos : Pos} (ho : PE X o to) (hi : PE X i ti) (hg : PGet X tget) (he : PE X e te) (hp : PIp X op tip) (hs : PSet X tset)
    (ha : ∀ ov iv new, augStore i ov iv new = (do holding [new, ov, iv] (setItem ov iv new); release [new, ov, iv] []; pure .next) := by intros; rfl) : PS X (.AugAssign (.Subscript o i tpos) op e pos) (tAugS to ti te tget tip tset) := by
  intro pins s σ H D I h
  refine wpAny_AugAssign_SubscriptAny (thn (ho pins s σ H _ I h) fun ov s1 ⟨x1, H1, I1, r1, q1⟩ => ?_) ha
  refine thn (hi pins s1 σ H1 _ I1 q1) fun iv s2 ⟨x2, H2, I2, r2, q2⟩ => ?_
  refine thn (hg pins s2 σ H2 x1 x2 ov iv _ I2 r1 r2 q2) fun old s3 ⟨x3, H3, I3, r3, q3⟩ => ?_
  refine thn (he pins s3 σ H3 _ I3 q3) fun v s4 ⟨x4, H4, I4, r4, q4⟩ => ?_
  refine thn (hp pins s4 σ H4 x3 x4 old v _ I4 r3 r4 q4) fun new s5 ⟨x5, H5, I5, r5, q5⟩ => ?_
  exact thn (hs pins s5 σ H5 x1 x2 x5 ov iv new _ I5 r1 r2 r5 q5) fun _ s6 ⟨H6, I6, q6⟩ => ⟨σ, H6, I6, q6⟩
/-- ints -/
def ipI (f : Int → Int → Int) : TIp := fun x y H Q => ∃ i j, x = .int i ∧ y = .int j ∧ Q (.int (f i j)) H
theorem ip_add : PIp X .Add (ipI fun i j => i + j) := by
  intro pins s σ H x y v u Q I r1 r2 h
  obtain ⟨i, j, e1, e2, q⟩ := h
  subst e1; subst e2
  obtain ⟨t, rfl⟩ := r1
  obtain ⟨t', rfl⟩ := r2
  exact iadd_int ⟨.int _, H, I.tok _, ⟨_, rfl⟩, q⟩
theorem ip_sub : PIp X .Sub (ipI fun i j => i - j) := by
  intro pins s σ H x y v u Q I r1 r2 h
  obtain ⟨i, j, e1, e2, q⟩ := h
  subst e1; subst e2
  obtain ⟨t, rfl⟩ := r1
  obtain ⟨t', rfl⟩ := r2
  exact isub_int ⟨.int _, H, I.tok _, ⟨_, rfl⟩, q⟩
end

/-! ### while -/
section
variable {X : Cx} {pos : Pos}
/-- the invariant W with its measure -/
def tWhile (c : TT) (tb : TS) : TS := fun D σ H => ∃ W : Nat → St → Hp → Prop, (∃ m, W m σ H) ∧ ∀ m σ H, W m σ H →
  c σ H fun b H1 => if b = true then ∃ N : St → Hp → Prop, (∀ σ' H', N σ' H' → ∃ m', m' < m ∧ W m' σ' H') ∧ tb { D with nx := N, ct := N, bk := D.nx } σ H1 else D.nx σ H1
theorem ps_while {c : Expr} {body : List Stmt} {tc : TT} {tb : TS} (hp : PassesOwn (model X.prog X.w) X.A X.env X.xe) (hc : PT X c tc) (hb : PSs X body tb) : PS X (.While c body [] pos) (tWhile tc tb) := by
  intro pins s σ H D I h
  obtain ⟨W, ⟨m0, w0⟩, turn⟩ := h
  refine wpAny_While (codeAny_whileLoop (fun n s' => ∃ σ' H', Inv X pins σ' H' s' ∧ W n σ' H') ?_ m0 ⟨σ, H, I, w0⟩)
  rintro n s1 ⟨σ1, H1, I1, w1⟩
  refine wpAny_passesOwn hp (thn (hc pins s1 σ1 H1 _ I1 (turn n σ1 H1 w1)) fun b s2 ⟨H2, I2, q2⟩ => ?_)
  cases b with
  | true =>
    obtain ⟨N, hN, q2⟩ := q2
    rw [if_pos rfl]
    refine wpAny_passesOwn hp (thn (hb pins s2 σ1 H2 _ I2 q2) fun f s3 q3 => ?_)
    cases f with
    | next =>
      obtain ⟨σ3, H3, I3, n3⟩ := q3
      obtain ⟨m', hm, w3⟩ := hN σ3 H3 n3
      exact ⟨m', hm, σ3, H3, I3, w3⟩
    | cont =>
      obtain ⟨σ3, H3, I3, n3⟩ := q3
      obtain ⟨m', hm, w3⟩ := hN σ3 H3 n3
      exact ⟨m', hm, σ3, H3, I3, w3⟩
    | brk => exact q3
    | ret v => exact q3
  | false =>
    rw [if_neg Bool.false_ne_true]
    exact wpAny_execs_nil ⟨σ1, H2, I2, q2⟩
end

/-! ### what a loop or a comprehension walks -/
/-- at turn i: it yields x (the heap may grow), or it stops -/
structure It where
  go : Nat → Hp → Prop
  yld : Nat → Hp → V → Hp → Prop
  stop : Nat → Hp → Prop
/-- the iterator's own objects may turn: they are not the frame's, not pinned, younger than the entry (or a comprehension's own) -/
def FpOk (X : Cx) (pins : List (Addr × Obj)) (H : Hp) (b : Addr) : Prop :=
  H b = none ∧ b ≠ X.env.locals ∧ b ∉ X.fs ∧ (b ∈ X.ex ∨ X.s₀.heap.objs.size ≤ b) ∧ (∀ x c, X.env.cells.lookup x = some c → c ≠ b) ∧ ∀ p ∈ X.pn ++ pins, p.1 ≠ b
theorem Inv.fpOk {X : Cx} {pins : List (Addr × Obj)} {σ : St} {H H' : Hp} {s : Shared} {b : Addr} (I : Inv X pins σ H s) (hb : s.heap.objs.size ≤ b) (hn : H' b = none) : FpOk X pins H' b := by
  refine ⟨hn, Nat.ne_of_gt (Nat.lt_of_lt_of_le I.lt hb), I.nofs hb, .inr (Nat.le_trans I.sz hb), fun x c e z => ?_, fun p hp z => ?_⟩
  · obtain ⟨v, q⟩ := I.cell x c e
    exact absurd (Nat.lt_of_lt_of_le q.lt (by rw [z]; exact hb)) (Nat.lt_irrefl _)
  · exact absurd (Nat.lt_of_lt_of_le (Heap.lt_size (I.pin p hp).1) (by rw [z]; exact hb)) (Nat.lt_irrefl _)
structure Turn (P : Program) (w : World) (K : PySem.W.Frag) (tg : Expr) (J : It) (fp : List Addr) (it : Addr) (tn : Nat → Heap → Prop) : Prop where
  mem : it ∈ fp
  obj : ∀ i h, tn i h → ∀ b ∈ fp, ∃ o, h.get? b = some o ∧ ∀ v, o.data ≠ .cell v
  keep : ∀ i h h', tn i h → (∀ b ∈ fp, ∀ o, h.get? b = some o → h'.get? b = some o) → tn i h'
  item : ∀ (X : Cx), X.prog = P → X.w = w → X.K = K → X.calm = true → ∀ (i : Nat) (pins : List (Addr × Obj)) (s : Shared) (σ : St) (H : Hp) (E : Value → Shared → Prop), Inv X pins σ H s → (∀ b ∈ fp, FpOk X pins H b) → tn i s.heap → J.go i H →
    wpAny (model P w) X.A (pyNext (.ref it)) (fun r s1 => ∃ u, r = some u ∧
      wpAny (model P w) X.A (letOwnedTupleGo tg (.ref it) u) (fun _ s2 => ∃ x H', Inv X pins σ H' s2 ∧ RelV x u ∧ J.yld i H x H' ∧ tn (i + 1) s2.heap ∧ ∀ b ∈ fp, H' b = none) E s1) E s
  done : ∀ (X : Cx), X.prog = P → X.w = w → X.K = K → X.calm = true → ∀ (i : Nat) (pins : List (Addr × Obj)) (s : Shared) (σ : St) (H : Hp) (E : Value → Shared → Prop), Inv X pins σ H s → (∀ b ∈ fp, FpOk X pins H b) → tn i s.heap → J.stop i H →
    wpAny (model P w) X.A (pyNext (.ref it)) (fun r s1 => r = none ∧ Inv X pins σ H s1) E s
  self : ∀ (A : Around) (i : Nat) (s : Shared) (Q : Value → Shared → Prop) (E : Value → Shared → Prop), tn i s.heap → Q (.ref it) s → wpAny (model P w) A (pyIter (.ref it)) Q E s
abbrev TI := St → Hp → (It → Hp → Prop) → Prop
/-- an iterator has come -/
def PIE (X : Cx) (pins : List (Addr × Obj)) (σ : St) (tg : Expr) (R : It → Hp → Prop) (itv : Value) (s2 : Shared) : Prop :=
  ∃ (it : Addr) (fp : List Addr) (tn : Nat → Heap → Prop) (J : It) (H' : Hp), itv = .ref it ∧ Inv X pins σ H' s2 ∧ Turn X.prog X.w X.K tg J fp it tn ∧ tn 0 s2.heap ∧ (∀ b ∈ fp, FpOk X pins H' b) ∧ R J H'
def PI (X : Cx) (tg iter : Expr) (wi : TI) : Prop :=
  ∀ (pins : List (Addr × Obj)) (s : Shared) (σ : St) (H : Hp) (R : It → Hp → Prop), Inv X pins σ H s → wi σ H R →
    wpAny (model X.prog X.w) X.A (eval iter X.env) (fun v s1 => wpAny (model X.prog X.w) X.A (pyIter v) (PIE X pins σ tg R) X.xe s1) X.xe s

/-- the step ahead of the store is nothing for an iterator that keeps no tuple -/
theorem go_of {M : Model} {A : Around} {E : Value → Shared → Prop} {s : Shared} {tg : Expr} {it : Addr} {u : Value} {o : Obj} {n : String} {vs : Array Value} {Q : Unit → Shared → Prop} (ho : s.heap.get? it = some o) (hc : o.cls = .type n) (hd : o.data = .fields vs)
    (hn : ["enumerate", "zip", "dict_itemiterator", "dict_reverseitemiterator", "odict_iterator", "itertools.zip_longest", "itertools.pairwise"].contains n = false) (hQ : Q () s) : wpAny M A (letOwnedTupleGo tg (.ref it) u) Q E s := by
  unfold letOwnedTupleGo
  cases tg <;> first
    | exact wpAny_pure hQ
    | (cases u <;> first
        | exact wpAny_pure hQ
        | (refine wpAny_bind (wpAny_load ho ?_)
           rw [hc, hd]
           show wpAny M A (if (["enumerate", "zip", "dict_itemiterator", "dict_reverseitemiterator", "odict_iterator", "itertools.zip_longest", "itertools.pairwise"].contains n && vs[0]? == some (rawInt _)) = true then _ else _) Q E s
           rw [if_neg (by intro h; rw [hn, Bool.false_and] at h; cases h)]
           exact wpAny_pure hQ))

/-- the list at a, as it stands at each turn (a loop may append to it) -/
def Itl (K : PySem.W.Frag) (a : Addr) : It :=
  ⟨fun i H => ∃ xs x, SqL K H a xs ∧ xs[i]? = some x, fun i H x H' => H' = H ∧ ∀ xs, SqL K H a xs → xs[i]? = some x, fun i H => ∃ xs, SqL K H a xs ∧ xs.length ≤ i⟩
def Itt (K : PySem.W.Frag) (a : Addr) : It :=
  ⟨fun i H => ∃ xs x, SqT K H a xs ∧ xs[i]? = some x, fun i H x H' => H' = H ∧ ∀ xs, SqT K H a xs → xs[i]? = some x, fun i H => ∃ xs, SqT K H a xs ∧ xs.length ≤ i⟩
/-- lo, lo + 1, .. (n of them) -/
def Itr (lo : Int) (n : Nat) : It := ⟨fun i _ => i < n, fun i H x H' => H' = H ∧ x = .int (lo + i), fun i _ => n ≤ i⟩
theorem turn_list {P : Program} {w : World} {K : PySem.W.Frag} {tg : Expr} (a it : Addr) : Turn P w K tg (Itl K a) [it] it (fun i h => h.IsListIter it a i) where
  mem := by simp
  obj := fun i h st b hb => by
    have e : b = it := by simpa using hb
    subst e
    obtain ⟨o, e, c, d⟩ := st
    exact ⟨o, e, fun v z => by rw [d] at z; cases z⟩
  keep := fun i h h' st k => st.at fun o e => k it (by simp) o e
  item := by
    intro X hP hw hK hc i pins s σ H E I hf st hg
    subst hP hw hK
    obtain ⟨xs, x, hq, hx⟩ := hg
    obtain ⟨its, rv, p, hz⟩ := I.list hq
    obtain ⟨u, hu, ru⟩ := rv.get hx
    obtain ⟨f0, f1, f2, f3, f4, f5⟩ := hf it (by simp)
    refine wpAny_pyNext_list_item st p.isList (x := u) (by simpa using hu) fun h' st' sb => ?_
    have I1 : Inv X pins σ H { s with heap := h' } := I.turned (t' := s.toks) (fun b o hb e => (sb.2 b hb).trans e) f0 f1 f3 f4 f5
    obtain ⟨o, e, c, d⟩ := id st'
    exact ⟨u, rfl, go_of (s := { s with heap := h' }) e c d (by decide) ⟨x, H, I1, ru, ⟨rfl, fun ys hy => by rw [I.list_inj hy hq]; exact hx⟩, st', fun b hb => (hf b hb).1⟩⟩
  done := by
    intro X hP hw hK hc i pins s σ H E I hf st hg
    subst hP hw hK
    obtain ⟨xs, hq, hx⟩ := hg
    obtain ⟨its, rv, p, hz⟩ := I.list hq
    obtain ⟨f0, f1, f2, f3, f4, f5⟩ := hf it (by simp)
    have hl := rv.length
    exact wpAny_pyNext_list_end (I.ok.hd hc) st p.isList (by simp; omega) fun h' eb => ⟨rfl, I.turned (t' := s.toks) (fun b o hb e => eb b o hb e) f0 f1 f3 f4 f5⟩
  self := fun _ _ _ _ _ st h => wpAny_pyIter_listiter st h
theorem turn_tuple {P : Program} {w : World} {K : PySem.W.Frag} {tg : Expr} (a it : Addr) : Turn P w K tg (Itt K a) [it] it (fun i h => h.IsTupleIter it a i) where
  mem := by simp
  obj := fun i h st b hb => by
    have e : b = it := by simpa using hb
    subst e
    obtain ⟨o, e, c, d⟩ := st
    exact ⟨o, e, fun v z => by rw [d] at z; cases z⟩
  keep := fun i h h' st k => st.at fun o e => k it (by simp) o e
  item := by
    intro X hP hw hK hc i pins s σ H E I hf st hg
    subst hP hw hK
    obtain ⟨xs, x, hq, hx⟩ := hg
    obtain ⟨its, rv, p, hz⟩ := I.tuple hq
    obtain ⟨u, hu, ru⟩ := rv.get hx
    obtain ⟨f0, f1, f2, f3, f4, f5⟩ := hf it (by simp)
    refine wpAny_pyNext_tuple_item st (show s.heap.IsTuple a its.toArray from p) (x := u) (by simpa using hu) fun h' st' sb => ?_
    have I1 : Inv X pins σ H { s with heap := h' } := I.turned (t' := s.toks) (fun b o hb e => (sb.2 b hb).trans e) f0 f1 f3 f4 f5
    obtain ⟨o, e, c, d⟩ := id st'
    exact ⟨u, rfl, go_of (s := { s with heap := h' }) e c d (by decide) ⟨x, H, I1, ru, ⟨rfl, fun ys hy => by rw [I.tuple_inj hy hq]; exact hx⟩, st', fun b hb => (hf b hb).1⟩⟩
  done := by
    intro X hP hw hK hc i pins s σ H E I hf st hg
    subst hP hw hK
    obtain ⟨xs, hq, hx⟩ := hg
    obtain ⟨its, rv, p, hz⟩ := I.tuple hq
    obtain ⟨f0, f1, f2, f3, f4, f5⟩ := hf it (by simp)
    have hl := rv.length
    exact wpAny_pyNext_tuple_end (I.ok.hd hc) st (show s.heap.IsTuple a its.toArray from p) (by simp; omega) fun h' eb => ⟨rfl, I.turned (t' := s.toks) (fun b o hb e => eb b o hb e) f0 f1 f3 f4 f5⟩
  self := fun _ _ _ _ _ st h => wpAny_pyIter_tupleiter st h
theorem turn_range {P : Program} {w : World} {K : PySem.W.Frag} {tg : Expr} (it : Addr) (lo : Int) (n : Nat) : Turn P w K tg (Itr lo n) [it] it (fun i h => IsRangeIter h it (lo + (i : Nat) * 1) ((n : Int) - (i : Nat)) 1) where
  mem := by simp
  obj := fun i h st b hb => by
    have e : b = it := by simpa using hb
    subst e
    exact ⟨_, st, fun v z => by
      have z' : Data.fields _ = Data.cell v := z
      cases z'⟩
  keep := fun i h h' st k => k it (by simp) _ st
  item := by
    intro X hP hw hK hc i pins s σ H E I hf st hg
    subst hP hw hK
    obtain ⟨f0, f1, f2, f3, f4, f5⟩ := hf it (by simp)
    have W := Walks.range (prog := X.prog) (w := X.w) (I.ok.hd hc) it lo 1 n
    refine W.item i s _ _ hg st fun v h' tk hv st' kk => ?_
    obtain ⟨t, rfl⟩ := hv
    have I1 : Inv X pins σ H { s with heap := h', toks := tk } := I.turned (fun b o hb e => kk b o (by simpa using hb) e) f0 f1 f3 f4 f5
    refine ⟨_, rfl, go_of (s := { s with heap := h', toks := tk }) (n := "range_iterator") st' rfl rfl (by decide) ⟨.int (lo + i), H, I1, ⟨t, ?_⟩, ⟨rfl, rfl⟩, st', fun b hb => (hf b hb).1⟩⟩
    rw [Int.mul_one]
  done := by
    intro X hP hw hK hc i pins s σ H E I hf st hg
    subst hP hw hK
    obtain ⟨f0, f1, f2, f3, f4, f5⟩ := hf it (by simp)
    exact wpAny_pyNext_range_end (I.ok.hd hc) st (by have : n ≤ i := hg; omega) fun h' eb => ⟨rfl, I.turned (t' := s.toks) (fun b o hb e => eb b o hb e) f0 f1 f3 f4 f5⟩
  self := fun _ _ _ _ _ st h => wpAny_pyIter_rangeiter st h
end L2

namespace L2
open PySem PySem.Spec PyProof.Rows
section
variable {X : Cx} {tg : Expr}
def iList (K : PySem.W.Frag) (tl : TE) : TI := fun σ H R => tl σ H fun x H1 => ∃ a, x = .ref a ∧ (∃ xs, SqL K H1 a xs) ∧ R (Itl K a) H1
def iTup (K : PySem.W.Frag) (tl : TE) : TI := fun σ H R => tl σ H fun x H1 => ∃ a, x = .ref a ∧ (∃ xs, SqT K H1 a xs) ∧ R (Itt K a) H1
theorem pi_list {l : Expr} {tl : TE} (hl : PE X l tl) : PI X tg l (iList X.K tl) := by
  intro pins s σ H R I h
  refine thn (hl pins s σ H _ I h) fun v s1 ⟨x, H1, I1, r1, q1⟩ => ?_
  obtain ⟨a, e, ⟨xs, hq⟩, q⟩ := q1
  subst e
  cases r1
  obtain ⟨its, rv, p, hz⟩ := I1.list hq
  refine wpAny_pyIter_list p.isList ?_
  refine ⟨s1.heap.objs.size, [s1.heap.objs.size], _, _, H1, rfl, I1.kept (t' := s1.toks) fun b o e => Heap.get?_push_of_some _ e, turn_list a _, ⟨_, Heap.get?_push_size _ rfl, rfl, rfl⟩, fun b hb => ?_, q⟩
  have e : b = s1.heap.objs.size := by simpa using hb
  subst e
  exact I1.fpOk (Nat.le_refl _) (I1.hok.fresh (Nat.le_refl _))
theorem pi_tup {l : Expr} {tl : TE} (hl : PE X l tl) : PI X tg l (iTup X.K tl) := by
  intro pins s σ H R I h
  refine thn (hl pins s σ H _ I h) fun v s1 ⟨x, H1, I1, r1, q1⟩ => ?_
  obtain ⟨a, e, ⟨xs, hq⟩, q⟩ := q1
  subst e
  cases r1
  obtain ⟨its, rv, p, hz⟩ := I1.tuple hq
  refine wpAny_pyIter_tuple (show s1.heap.IsTuple a its.toArray from p) ?_
  refine ⟨s1.heap.objs.size, [s1.heap.objs.size], _, _, H1, rfl, I1.kept (t' := s1.toks) fun b o e => Heap.get?_push_of_some _ e, turn_tuple a _, ⟨_, Heap.get?_push_size _ rfl, rfl, rfl⟩, fun b hb => ?_, q⟩
  have e : b = s1.heap.objs.size := by simpa using hb
  subst e
  exact I1.fpOk (Nat.le_refl _) (I1.hok.fresh (Nat.le_refl _))
/-- a range object just made, walked -/
theorem range_it {pins : List (Addr × Obj)} {σ : St} {H : Hp} {s : Shared} {R : It → Hp → Prop} {E : Value → Shared → Prop} {lo hi : Int} {t u v : Tok} {tk : Nat} (I : Inv X pins σ H s) (h1 : -(2 ^ 62) ≤ lo) (h2 : lo < 2 ^ 62) (h3 : -(2 ^ 62) ≤ hi) (h4 : hi < 2 ^ 62)
    (q : R (Itr lo (hi - lo).toNat) H) : wpAny (model X.prog X.w) X.A (pyIter (.ref s.heap.objs.size)) (PIE X pins σ tg R) E { s with heap := s.heap.push { cls := .type "range", data := .fields #[.int lo t, .int hi u, .int 1 v] }, toks := tk } := by
  refine wpAny_pyIter_range (IsRange.new ..) (small_one h1 h2 h3 h4) ?_
  have I1 : Inv X pins σ H { s with heap := s.heap.push { cls := .type "range", data := .fields #[.int lo t, .int hi u, .int 1 v] }, toks := tk } := I.kept fun b o e => Heap.get?_push_of_some _ e
  refine ⟨(s.heap.push { cls := .type "range", data := .fields #[.int lo t, .int hi u, .int 1 v] }).objs.size, [(s.heap.push { cls := .type "range", data := .fields #[.int lo t, .int hi u, .int 1 v] }).objs.size], _, _, H, rfl,
    I1.kept (t' := tk) fun b o e => Heap.get?_push_of_some _ e, turn_range _ lo (hi - lo).toNat, ?_, fun b hb => ?_, q⟩
  · have e1 : lo + ((0 : Nat) : Int) * 1 = lo := by simp
    have e2 : (((hi - lo).toNat : Nat) : Int) - ((0 : Nat) : Int) = Builtin.Range.rangeSize lo hi 1 := by rw [rangeSize_one]; split <;> omega
    show IsRangeIter _ _ (lo + ((0 : Nat) : Int) * 1) ((((hi - lo).toNat : Nat) : Int) - ((0 : Nat) : Int)) 1
    rw [e1, e2]
    exact Heap.get?_push_size _ rfl
  · have e : b = (s.heap.push { cls := .type "range", data := .fields #[.int lo t, .int hi u, .int 1 v] }).objs.size := by simpa using hb
    subst e
    exact I1.fpOk (Nat.le_refl _) (I1.hok.fresh (Nat.le_refl _))
def iRng1 (ta : TA) : TI := fun σ H R => ta σ H fun vs H1 => ∃ j : Int, vs = [.int j] ∧ -(2 ^ 62) ≤ j ∧ j < 2 ^ 62 ∧ R (Itr 0 j.toNat) H1
def iRng2 (ta : TA) : TI := fun σ H R => ta σ H fun vs H1 => ∃ i j : Int, vs = [.int i, .int j] ∧ (-(2 ^ 62) ≤ i ∧ i < 2 ^ 62 ∧ -(2 ^ 62) ≤ j ∧ j < 2 ^ 62) ∧ R (Itr i (j - i).toNat) H1
theorem pi_range1 {a : Expr} {ta : TA} {p pos : Pos} (hg : Gl X "range") (hm : X.mg "range" = none) (ha : PA X [a] ta) (hs : starEach [a] X.env = [(false, eval a X.env)] := by rfl) : PI X tg (.Call (.Name "range" p) [a] [] pos) (iRng1 ta) := by
  intro pins s σ H R I h
  refine Call_ (ld_blt I hg hm boot_range (PyProof.Rows.callWith_type1 (thn (ha pos pins s σ H _ I h) fun us s1 ⟨vs, H1, I1, r1, q1⟩ => ?_) hs rfl))
  obtain ⟨j, e, q1, q2, q⟩ := q1
  subst e
  cases r1 with
  | cons r rr =>
    cases rr
    obtain ⟨t, rfl⟩ := r
    exact call_range_1 (range_it I1 (by omega) (by omega) q1 q2 (by simpa using q))
theorem pi_range2 {a b : Expr} {ta : TA} {p pos : Pos} (hg : Gl X "range") (hm : X.mg "range" = none) (ha : PA X [a, b] ta) (hs : starEach [a, b] X.env = [(false, eval a X.env), (false, eval b X.env)] := by rfl) (hs2 : starEach [b] X.env = [(false, eval b X.env)] := by rfl) :
    PI X tg (.Call (.Name "range" p) [a, b] [] pos) (iRng2 ta) := by
  intro pins s σ H R I h
  refine Call_ (ld_blt I hg hm boot_range (PyProof.Rows.callWith_type1 (thn (ha pos pins s σ H _ I h) fun us s1 ⟨vs, H1, I1, r1, q1⟩ => ?_) (by rw [hs, hs2]) (by rw [hs2]; rfl)))
  obtain ⟨i, j, e, ⟨q1, q2, q3, q4⟩, q⟩ := q1
  subst e
  cases r1 with
  | cons r rr =>
    cases rr with
    | cons r' rr =>
      cases rr
      obtain ⟨t, rfl⟩ := r
      obtain ⟨t', rfl⟩ := r'
      exact call_range_2 (range_it I1 q1 q2 q3 q4 q)

/-! ### for -/
/-- W: the invariant by the turn and a measure; N: what the body is to reach -/
def tFor (wi : TI) (g : TG) (tb : TS) : TS := fun D σ H => wi σ H fun J H1 => ∃ W : Nat → Nat → St → Hp → Prop, (∃ m, W 0 m σ H1) ∧ ∀ i m σ H, W i m σ H →
  (J.stop i H ∧ D.nx σ H) ∨ (J.go i H ∧ ∃ N : St → Hp → Prop, (∀ σ' H', N σ' H' → ∃ m', m' < m ∧ W (i + 1) m' σ' H') ∧ ∀ x H', J.yld i H x H' → g x σ H' fun σ2 H2 => tb { D with nx := N, ct := N, bk := D.nx } σ2 H2)
/-- the records at fp as they stand -/
def pinsAt (fp : List Addr) (h : Heap) : List (Addr × Obj) := fp.filterMap fun b => (h.get? b).map fun o => (b, o)
theorem mem_pinsAt {fp : List Addr} {h : Heap} {b : Addr} {o : Obj} (hb : b ∈ fp) (e : h.get? b = some o) : (b, o) ∈ pinsAt fp h := List.mem_filterMap.mpr ⟨b, hb, by rw [e]; rfl⟩
theorem of_pinsAt {fp : List Addr} {h : Heap} {p : Addr × Obj} (hp : p ∈ pinsAt fp h) : p.1 ∈ fp ∧ h.get? p.1 = some p.2 := by
  obtain ⟨b, hb, e⟩ := List.mem_filterMap.mp hp
  cases q : h.get? b with
  | none => rw [q] at e; cases e
  | some o =>
    rw [q] at e
    have e' : (b, o) = p := Option.some.inj e
    subst e'
    exact ⟨hb, q⟩
theorem Inv.pinned {pins : List (Addr × Obj)} {σ : St} {H : Hp} {s : Shared} {fp : List Addr} (I : Inv X pins σ H s) (hf : ∀ b ∈ fp, FpOk X pins H b) (ho : ∀ b ∈ fp, ∃ o, s.heap.get? b = some o ∧ ∀ v, o.data ≠ .cell v) : Inv X (pins ++ pinsAt fp s.heap) σ H s :=
  I.pins_of fun p hp => (List.mem_append.mp hp).elim (fun z => I.pin p (List.mem_append_right _ z)) fun z => by
    obtain ⟨hb, e⟩ := of_pinsAt z
    obtain ⟨f0, f1, f2, _⟩ := hf p.1 hb
    obtain ⟨o, e', d⟩ := ho p.1 hb
    rw [e] at e'; cases e'
    exact ⟨e, f0, f1, f2, d⟩
theorem Inv.unpinned {pins pl : List (Addr × Obj)} {σ : St} {H : Hp} {s : Shared} (I : Inv X (pins ++ pl) σ H s) : Inv X pins σ H s := I.pins_of fun p hp => I.pin p (List.mem_append_right _ (List.mem_append_left _ hp))
theorem ps_for {iter : Expr} {body : List Stmt} {wi : TI} {g : TG} {tb : TS} {pos : Pos} (hp : PassesOwn (model X.prog X.w) X.A X.env X.xe) (hc : X.calm = true) (hi : PI X tg iter wi) (hg : PG X tg g) (hb : PSs X body tb)
    (hs : ∀ x, foldedSetIterable iter X.env x = pure x := by intro _; rfl) : PS X (.For tg iter body [] pos) (tFor wi g tb) := by
  intro pins s σ H D I h
  refine wpAny_For (thn (hi pins s σ H _ I h) fun v s1 h1 => thn h1 fun itv s2 h2 => ?_) hs
  obtain ⟨it, fp, tn, J, H2, e, I2, T, st2, f2, W, ⟨m0, w0⟩, turn⟩ := h2
  subst e
  -- what stays true of the iterator's objects through the loop
  have stat : ∀ {H' : Hp}, (∀ b ∈ fp, H' b = none) → ∀ b ∈ fp, FpOk X pins H' b := fun hn b hb => ⟨hn b hb, (f2 b hb).2⟩
  refine codeAny_forLoop_any (fun n s' => ∃ i σ' H', Inv X pins σ' H' s' ∧ tn i s'.heap ∧ (∀ b ∈ fp, H' b = none) ∧ W i n σ' H') ?_ m0 ⟨0, σ, H2, I2, st2, fun b hb => (f2 b hb).1, w0⟩
  rintro n s3 ⟨i, σ3, H3, I3, st3, fr3, w3⟩
  rcases turn i n σ3 H3 w3 with ⟨stop, qn⟩ | ⟨go, N, hN, step⟩
  · refine wpAny_passesOwn hp (thn (T.done X rfl rfl rfl hc i pins s3 σ3 H3 X.xe I3 (stat fr3) st3 stop) fun r s4 ⟨hr, I4⟩ => ?_)
    subst hr
    exact wpAny_execs_nil ⟨σ3, H3, I4, qn⟩
  · refine wpAny_passesOwn hp (thn (T.item X rfl rfl rfl hc i pins s3 σ3 H3 X.xe I3 (stat fr3) st3 go) fun r s4 ⟨u, hr, h4⟩ => ?_)
    subst hr
    refine wpAny_passesOwn hp (thn h4 fun _ s5 ⟨x, H5, I5, r5, y5, st5, fr5⟩ => ?_)
    have I5' := I5.pinned (stat fr5) (T.obj _ _ st5)
    refine wpAny_passesOwn hp (thn (hg _ s5 σ3 H5 x u _ I5' r5 (step x H5 y5)) fun _ s6 ⟨σ6, H6, I6, q6⟩ => ?_)
    refine wpAny_passesOwn hp (thn (hb _ s6 σ6 H6 _ I6 q6) fun f s7 q7 => ?_)
    have again : ∀ {σ7 : St} {H7 : Hp}, Inv X (pins ++ pinsAt fp s5.heap) σ7 H7 s7 → N σ7 H7 → ∃ m, m < n ∧ ∃ i σ' H', Inv X pins σ' H' s7 ∧ tn i s7.heap ∧ (∀ b ∈ fp, H' b = none) ∧ W i m σ' H' := fun {σ7 H7} I7 n7 => by
      obtain ⟨m', hm, w7⟩ := hN σ7 H7 n7
      refine ⟨m', hm, i + 1, σ7, H7, I7.unpinned, T.keep _ _ _ st5 fun b hb o e => (I7.pin (b, o) (List.mem_append_right _ (List.mem_append_right _ (mem_pinsAt hb e)))).1, fun b hb => ?_, w7⟩
      obtain ⟨o, e, d⟩ := T.obj _ _ st5 b hb
      exact (I7.pin (b, o) (List.mem_append_right _ (List.mem_append_right _ (mem_pinsAt hb e)))).2.1
    cases f with
    | next => obtain ⟨σ7, H7, I7, n7⟩ := q7; exact again I7 n7
    | cont => obtain ⟨σ7, H7, I7, n7⟩ := q7; exact again I7 n7
    | brk => obtain ⟨σ7, H7, I7, q7⟩ := q7; exact ⟨σ7, H7, I7.unpinned, q7⟩
    | ret v => obtain ⟨x7, σ7, H7, I7, r7, q7⟩ := q7; exact ⟨x7, σ7, H7, I7.unpinned, r7, q7⟩
end

/-! ### the forms one uses -/
/-- over a list that the body leaves as it is -/
theorem for_list {K : PySem.W.Frag} {a : Addr} {xs : List V} {g : TG} {tb : TS} {D : Ends} {σ : St} {H : Hp} (Pv : Nat → St → Hp → Prop) (h0 : Pv 0 σ H) (hl : ∀ i σ H, i ≤ xs.length → Pv i σ H → SqL K H a xs)
    (hs : ∀ i x σ H, xs[i]? = some x → Pv i σ H → g x σ H fun σ2 H2 => tb { D with nx := Pv (i + 1), ct := Pv (i + 1), bk := D.nx } σ2 H2) (hd : ∀ σ H, Pv xs.length σ H → D.nx σ H) :
    ∃ W : Nat → Nat → St → Hp → Prop, (∃ m, W 0 m σ H) ∧ ∀ i m σ H, W i m σ H →
      ((Itl K a).stop i H ∧ D.nx σ H) ∨ ((Itl K a).go i H ∧ ∃ N : St → Hp → Prop, (∀ σ' H', N σ' H' → ∃ m', m' < m ∧ W (i + 1) m' σ' H') ∧ ∀ x H', (Itl K a).yld i H x H' → g x σ H' fun σ2 H2 => tb { D with nx := N, ct := N, bk := D.nx } σ2 H2) := by
  refine ⟨fun i m σ H => m = xs.length - i ∧ i ≤ xs.length ∧ Pv i σ H, ⟨xs.length, by simp, Nat.zero_le _, h0⟩, ?_⟩
  rintro i m σ H ⟨rfl, hi, p⟩
  have q := hl i σ H hi p
  by_cases hlt : i < xs.length
  · refine .inr ⟨⟨xs, xs[i], q, by simp [hlt]⟩, Pv (i + 1), fun σ' H' p' => ⟨xs.length - (i + 1), by omega, rfl, hlt, p'⟩, fun x H' y => ?_⟩
    obtain ⟨e, y⟩ := y
    subst e
    exact hs i x σ _ (y xs q) p
  · have e : i = xs.length := by omega
    subst e
    exact .inl ⟨⟨xs, q, Nat.le_refl _⟩, hd σ H p⟩
theorem for_tup {K : PySem.W.Frag} {a : Addr} {xs : List V} {g : TG} {tb : TS} {D : Ends} {σ : St} {H : Hp} (Pv : Nat → St → Hp → Prop) (h0 : Pv 0 σ H) (hl : ∀ i σ H, i ≤ xs.length → Pv i σ H → SqT K H a xs)
    (hs : ∀ i x σ H, xs[i]? = some x → Pv i σ H → g x σ H fun σ2 H2 => tb { D with nx := Pv (i + 1), ct := Pv (i + 1), bk := D.nx } σ2 H2) (hd : ∀ σ H, Pv xs.length σ H → D.nx σ H) :
    ∃ W : Nat → Nat → St → Hp → Prop, (∃ m, W 0 m σ H) ∧ ∀ i m σ H, W i m σ H →
      ((Itt K a).stop i H ∧ D.nx σ H) ∨ ((Itt K a).go i H ∧ ∃ N : St → Hp → Prop, (∀ σ' H', N σ' H' → ∃ m', m' < m ∧ W (i + 1) m' σ' H') ∧ ∀ x H', (Itt K a).yld i H x H' → g x σ H' fun σ2 H2 => tb { D with nx := N, ct := N, bk := D.nx } σ2 H2) := by
  refine ⟨fun i m σ H => m = xs.length - i ∧ i ≤ xs.length ∧ Pv i σ H, ⟨xs.length, by simp, Nat.zero_le _, h0⟩, ?_⟩
  rintro i m σ H ⟨rfl, hi, p⟩
  have q := hl i σ H hi p
  by_cases hlt : i < xs.length
  · refine .inr ⟨⟨xs, xs[i], q, by simp [hlt]⟩, Pv (i + 1), fun σ' H' p' => ⟨xs.length - (i + 1), by omega, rfl, hlt, p'⟩, fun x H' y => ?_⟩
    obtain ⟨e, y⟩ := y
    subst e
    exact hs i x σ _ (y xs q) p
  · have e : i = xs.length := by omega
    subst e
    exact .inl ⟨⟨xs, q, Nat.le_refl _⟩, hd σ H p⟩
theorem for_range {lo : Int} {n : Nat} {g : TG} {tb : TS} {D : Ends} {σ : St} {H : Hp} (Pv : Nat → St → Hp → Prop) (h0 : Pv 0 σ H)
    (hs : ∀ i σ H, i < n → Pv i σ H → g (.int (lo + i)) σ H fun σ2 H2 => tb { D with nx := Pv (i + 1), ct := Pv (i + 1), bk := D.nx } σ2 H2) (hd : ∀ σ H, Pv n σ H → D.nx σ H) :
    ∃ W : Nat → Nat → St → Hp → Prop, (∃ m, W 0 m σ H) ∧ ∀ i m σ H, W i m σ H →
      ((Itr lo n).stop i H ∧ D.nx σ H) ∨ ((Itr lo n).go i H ∧ ∃ N : St → Hp → Prop, (∀ σ' H', N σ' H' → ∃ m', m' < m ∧ W (i + 1) m' σ' H') ∧ ∀ x H', (Itr lo n).yld i H x H' → g x σ H' fun σ2 H2 => tb { D with nx := N, ct := N, bk := D.nx } σ2 H2) := by
  refine ⟨fun i m σ H => m = n - i ∧ i ≤ n ∧ Pv i σ H, ⟨n, by simp, Nat.zero_le _, h0⟩, ?_⟩
  rintro i m σ H ⟨rfl, hi, p⟩
  by_cases hlt : i < n
  · refine .inr ⟨hlt, Pv (i + 1), fun σ' H' p' => ⟨n - (i + 1), by omega, rfl, hlt, p'⟩, fun x H' y => ?_⟩
    obtain ⟨e, y⟩ := y
    subst e y
    exact hs i σ _ hlt p
  · have e : i = n := by omega
    subst e
    exact .inl ⟨Nat.le_refl _, hd σ H p⟩
/-- while, by a word and a measure of the state -/
theorem while_by {c : TT} {tb : TS} {D : Ends} {σ : St} {H : Hp} (Pv : St → Hp → Prop) (μ : St → Hp → Nat) (h0 : Pv σ H)
    (hs : ∀ σ H, Pv σ H → c σ H fun b H1 => if b = true then tb { D with nx := fun σ' H' => Pv σ' H' ∧ μ σ' H' < μ σ H, ct := fun σ' H' => Pv σ' H' ∧ μ σ' H' < μ σ H, bk := D.nx } σ H1 else D.nx σ H1)
    (mono : ∀ σ H Q Q', (∀ b H1, Q b H1 → Q' b H1) → c σ H Q → c σ H Q') : tWhile c tb D σ H := by
  refine ⟨fun m σ H => m = μ σ H ∧ Pv σ H, ⟨_, rfl, h0⟩, ?_⟩
  rintro m σ H ⟨rfl, p⟩
  refine mono σ H _ _ (fun b H1 q => ?_) (hs σ H p)
  cases b with
  | true => exact ⟨_, fun σ' H' ⟨p', l⟩ => ⟨_, l, rfl, p'⟩, q⟩
  | false => exact q
end L2

namespace L2
open PySem PySem.Spec PyProof.Rows

abbrev R2 := V → V → Hp → VK → Prop
/-- a two-place operation on values: f is binaryOp op, inplaceOp op or compareOp op -/
def OpR (X : Cx) (f : Value → Value → Sem Value) (r : R2) : Prop :=
  ∀ (pins : List (Addr × Obj)) (s : Shared) (σ : St) (H : Hp) (x y : V) (v u : Value) (Q : VK), Inv X pins σ H s → RelV x v → RelV y u → r x y H Q →
    wpAny (model X.prog X.w) X.A (f v u) (EP X pins σ Q) X.xe s
/-- a one-place operation -/
def UnR (X : Cx) (f : Value → Sem Value) (r : V → Hp → VK → Prop) : Prop :=
  ∀ (pins : List (Addr × Obj)) (s : Shared) (σ : St) (H : Hp) (x : V) (v : Value) (Q : VK), Inv X pins σ H s → RelV x v → r x H Q →
    wpAny (model X.prog X.w) X.A (f v) (EP X pins σ Q) X.xe s
/-- a call of a value that is known (a builtin, a type) with values -/
def CallR (X : Cx) (f : Value) (r : List V → Hp → VK → Prop) : Prop :=
  ∀ (pins : List (Addr × Obj)) (s : Shared) (σ : St) (H : Hp) (xs : List V) (us : List Value) (Q : VK), Inv X pins σ H s → Vals xs us → r xs H Q →
    wpAny (model X.prog X.w) X.A (call f us) (EP X pins σ Q) X.xe s
/-- a value's truth -/
def TruR (X : Cx) (r : V → Hp → (Bool → Hp → Prop) → Prop) : Prop :=
  ∀ (pins : List (Addr × Obj)) (s : Shared) (σ : St) (H : Hp) (x : V) (v : Value) (Q : Bool → Hp → Prop), Inv X pins σ H s → RelV x v → r x H Q →
    wpAny (model X.prog X.w) X.A (truthy v) (TP X pins σ Q) X.xe s

def tOp (r : R2) (ta tb : TE) : TE := fun σ H Q => ta σ H fun x H1 => tb σ H1 fun y H2 => r x y H2 Q
def tUn (r : V → Hp → VK → Prop) (ta : TE) : TE := fun σ H Q => ta σ H fun x H1 => r x H1 Q
/-- ints in, under C, and a value out -/
def rI (C : Int → Int → Prop) (g : Int → Int → V) : R2 := fun x y H Q => ∃ i j, x = .int i ∧ y = .int j ∧ C i j ∧ Q (g i j) H
def rI0 (g : Int → Int → V) : R2 := fun x y H Q => ∃ i j, x = .int i ∧ y = .int j ∧ Q (g i j) H
def rU (g : Int → V) : V → Hp → VK → Prop := fun x H Q => ∃ i, x = .int i ∧ Q (g i) H

section
variable {X : Cx} {a b c : Expr} {ta tb tc : TE} {pos : Pos}

theorem binT (ha : PE X a ta) (hb : PE X b tb) {pins : List (Addr × Obj)} {s : Shared} {σ : St} {H : Hp} {R : V → V → Hp → Prop} (I : Inv X pins σ H s)
    (h : ta σ H fun x H1 => tb σ H1 fun y H2 => R x y H2) {Q : Value → Shared → Prop} {f : Value → Value → Sem Value}
    (hf : ∀ v u s2 x y H2, Inv X pins σ H2 s2 → RelV x v → RelV y u → R x y H2 → wpAny (model X.prog X.w) X.A (f v u) Q X.xe s2) :
    wpAny (model X.prog X.w) X.A (eval a X.env) (fun v s₁ => wpAny (model X.prog X.w) X.A (eval b X.env) (fun u s₂ => wpAny (model X.prog X.w) X.A (f v u) Q X.xe s₂) X.xe s₁) X.xe s := by
  refine thn (ha pins s σ H _ I h) fun v s1 ⟨x, H1, I1, r1, q1⟩ => ?_
  refine thn (hb pins s1 σ H1 _ I1 q1) fun u s2 ⟨y, H2, I2, r2, q2⟩ => ?_
  exact hf v u s2 x y H2 I2 r1 r2 q2

theorem pe_op {op : Operator} {r : R2} (ho : OpR X (binaryOp op) r) (ha : PE X a ta) (hb : PE X b tb) : PE X (.BinOp a op b pos) (tOp r ta tb) := by
  intro pins s σ H Q I h
  exact wpAny_BinOp (binT ha hb I h fun v u s2 x y H2 I2 rx ry q => ho pins s2 σ H2 x y v u Q I2 rx ry q)
theorem pe_un {op : UnaryOp} {r : V → Hp → VK → Prop} (ho : UnR X (unaryOp op) r) (ha : PE X a ta) : PE X (.UnaryOp op a pos) (tUn r ta) := by
  intro pins s σ H Q I h
  exact UnaryOp_ (thn (ha pins s σ H _ I h) fun v s1 ⟨x, H1, I1, r1, q1⟩ => ho pins s1 σ H1 x v Q I1 r1 q1)
/-- a op= e at a name: the name's slot i -/
theorem augR {op : Operator} {r : R2} (ho : OpR X (inplaceOp op) r) {pins : List (Addr × Obj)} {s : Shared} {σ : St} {H : Hp} {x y : V} {v u : Value} {Q : VK} (I : Inv X pins σ H s)
    (rx : RelV x v) (ry : RelV y u) (q : r x y H Q) : wpAny (model X.prog X.w) X.A (inplaceOp op v u) (EP X pins σ Q) X.xe s := ho pins s σ H x y v u Q I rx ry q

/-! ### ints -/
theorem opI {f : Value → Value → Sem Value} {C : Int → Int → Prop} {g : Int → Int → Int}
    (rule : ∀ (i j : Int) (t u : Tok) (s : Shared) (Q : Value → Shared → Prop) (E : Value → Shared → Prop), C i j → Q (.int (g i j) s.toks) { s with toks := s.toks + 1 } → wpAny (model X.prog X.w) X.A (f (.int i t) (.int j u)) Q E s) :
    OpR X f (rI C fun i j => .int (g i j)) := by
  intro pins s σ H x y v u Q I rx ry h
  obtain ⟨i, j, rfl, rfl, hc, q⟩ := h
  obtain ⟨t, rfl⟩ := rx
  obtain ⟨t', rfl⟩ := ry
  exact rule i j t t' s _ _ hc ⟨.int (g i j), H, I.tok _, ⟨_, rfl⟩, q⟩
theorem opI0 {f : Value → Value → Sem Value} {g : Int → Int → Int}
    (rule : ∀ (i j : Int) (t u : Tok) (s : Shared) (Q : Value → Shared → Prop) (E : Value → Shared → Prop), Q (.int (g i j) s.toks) { s with toks := s.toks + 1 } → wpAny (model X.prog X.w) X.A (f (.int i t) (.int j u)) Q E s) :
    OpR X f (rI0 fun i j => .int (g i j)) := by
  intro pins s σ H x y v u Q I rx ry h
  obtain ⟨i, j, rfl, rfl, q⟩ := h
  obtain ⟨t, rfl⟩ := rx
  obtain ⟨t', rfl⟩ := ry
  exact rule i j t t' s _ _ ⟨.int (g i j), H, I.tok _, ⟨_, rfl⟩, q⟩
theorem opB0 {f : Value → Value → Sem Value} {g : Int → Int → Bool}
    (rule : ∀ (i j : Int) (t u : Tok) (s : Shared) (Q : Value → Shared → Prop) (E : Value → Shared → Prop), Q (.bool (g i j)) s → wpAny (model X.prog X.w) X.A (f (.int i t) (.int j u)) Q E s) :
    OpR X f (rI0 fun i j => .bl (g i j)) := by
  intro pins s σ H x y v u Q I rx ry h
  obtain ⟨i, j, rfl, rfl, q⟩ := h
  obtain ⟨t, rfl⟩ := rx
  obtain ⟨t', rfl⟩ := ry
  exact rule i j t t' s _ _ ⟨.bl (g i j), H, I, rfl, q⟩

def CDiv (i j : Int) : Prop := 0 < j ∧ j < 1073741824
def CDivN (i j : Int) : Prop := j ≠ 0 ∧ j.natAbs < 1073741824
def CPow (i j : Int) : Prop := 0 ≤ j ∧ j ≤ 1000000 ∧ i.natAbs < 2 ^ 64
def CMul (i j : Int) : Prop := (-(2 ^ 64) < i ∧ i < 2 ^ 64) ∨ (-(2 ^ 64) < j ∧ j < 2 ^ 64)
theorem CMul.ok {i j : Int} (h : CMul i j) : IntMulOk i j := by
  rcases h with ⟨h1, h2⟩ | ⟨h1, h2⟩
  · exact .of_left (intBits_le_64 h1 h2)
  · exact .of_right (intBits_le_64 h1 h2)
theorem two_pow_nn (k : Nat) : (0 : Int) ≤ 2 ^ k := by
  rw [two_pow_cast]
  exact Int.natCast_nonneg _

theorem op_add : OpR X (binaryOp .Add) (rI0 fun i j => .int (i + j)) := opI0 fun _ _ _ _ _ _ _ q => add_int q
theorem op_sub : OpR X (binaryOp .Sub) (rI0 fun i j => .int (i - j)) := opI0 fun _ _ _ _ _ _ _ q => sub_int q
theorem op_mul : OpR X (binaryOp .Mult) (rI CMul fun i j => .int (i * j)) := opI fun _ _ _ _ _ _ _ hc q => mul_int q hc.ok
/-- // by a positive divisor -/
theorem op_fdiv : OpR X (binaryOp .FloorDiv) (rI CDiv fun i j => .int (i / j)) := opI fun i j _ _ _ _ _ hc q => by
  have h1 : (0 : Int) < j := hc.1
  have h2 : j < 1073741824 := hc.2
  exact floordiv_int (by omega) (by rw [Int.fdiv_eq_ediv_of_nonneg i (by omega)]; exact q) (.inl (PyProof.noPylong_small (by omega)))
theorem op_fdivN : OpR X (binaryOp .FloorDiv) (rI CDivN fun i j => .int (i.fdiv j)) := opI fun _ _ _ _ _ _ _ hc q => floordiv_int hc.1 q (.inl (PyProof.noPylong_small hc.2))
/-- % by a positive divisor of any size -/
theorem op_mod : OpR X (binaryOp .Mod) (rI (fun _ j => 0 < j) fun i j => .int (i % j)) := opI fun i j _ _ _ _ _ hc q => by
  have h1 : (0 : Int) < j := hc
  exact mod_int' (by omega) (by rw [Int.fmod_eq_emod_of_nonneg i (by omega)]; exact q)
theorem op_modN : OpR X (binaryOp .Mod) (rI (fun _ j => j ≠ 0) fun i j => .int (i.fmod j)) := opI fun _ _ _ _ _ _ _ hc q => mod_int' hc q
theorem op_pow : OpR X (binaryOp .Pow) (rI CPow fun i j => .int (i ^ j.toNat)) := opI fun _ _ _ _ _ _ _ hc q => pow_int_small hc.1 hc.2.1 hc.2.2 q
theorem op_shl : OpR X (binaryOp .LShift) (rI CPow fun i j => .int (i * 2 ^ j.toNat)) := opI fun _ _ _ _ _ _ _ hc q => lshift_int_small hc.1 hc.2.1 hc.2.2 q
theorem op_shr : OpR X (binaryOp .RShift) (rI (fun _ j => 0 ≤ j) fun i j => .int (i / 2 ^ j.toNat)) := opI fun i j _ _ _ _ _ hc q =>
  rshift_int hc (by rw [Int.fdiv_eq_ediv_of_nonneg i (two_pow_nn _)]; exact q)
theorem op_and : OpR X (binaryOp .BitAnd) (rI0 fun i j => .int (Builtin.bitAnd i j)) := opI0 fun _ _ _ _ _ _ _ q => and_int q
theorem op_or : OpR X (binaryOp .BitOr) (rI0 fun i j => .int (Builtin.bitOr i j)) := opI0 fun _ _ _ _ _ _ _ q => or_int q
theorem op_xor : OpR X (binaryOp .BitXor) (rI0 fun i j => .int (Builtin.bitXor i j)) := opI0 fun _ _ _ _ _ _ _ q => xor_int q

theorem iop_add : OpR X (inplaceOp .Add) (rI0 fun i j => .int (i + j)) := opI0 fun _ _ _ _ _ _ _ q => iadd_int q
theorem iop_sub : OpR X (inplaceOp .Sub) (rI0 fun i j => .int (i - j)) := opI0 fun _ _ _ _ _ _ _ q => isub_int q
theorem iop_mul : OpR X (inplaceOp .Mult) (rI CMul fun i j => .int (i * j)) := opI fun _ _ _ _ _ _ _ hc q => imul_int q hc.ok
theorem iop_fdiv : OpR X (inplaceOp .FloorDiv) (rI CDiv fun i j => .int (i / j)) := opI fun i j _ _ _ _ _ hc q => by
  have h1 : (0 : Int) < j := hc.1
  have h2 : j < 1073741824 := hc.2
  exact ifloordiv_int (by omega) (by rw [Int.fdiv_eq_ediv_of_nonneg i (by omega)]; exact q) (.inl (PyProof.noPylong_small (by omega)))
theorem iop_mod : OpR X (inplaceOp .Mod) (rI (fun _ j => 0 < j) fun i j => .int (i % j)) := opI fun i j _ _ _ _ _ hc q => by
  have h1 : (0 : Int) < j := hc
  exact imod_int (by omega) (by rw [Int.fmod_eq_emod_of_nonneg i (by omega)]; exact q)
theorem iop_shl : OpR X (inplaceOp .LShift) (rI CPow fun i j => .int (i * 2 ^ j.toNat)) := opI fun _ _ _ _ _ _ _ hc q => ilshift_int_small hc.1 hc.2.1 hc.2.2 q
theorem iop_shr : OpR X (inplaceOp .RShift) (rI (fun _ j => 0 ≤ j) fun i j => .int (i / 2 ^ j.toNat)) := opI fun i j _ _ _ _ _ hc q =>
  irshift_int hc (by rw [Int.fdiv_eq_ediv_of_nonneg i (two_pow_nn _)]; exact q)
theorem iop_and : OpR X (inplaceOp .BitAnd) (rI0 fun i j => .int (Builtin.bitAnd i j)) := opI0 fun _ _ _ _ _ _ _ q => iand_int q
theorem iop_or : OpR X (inplaceOp .BitOr) (rI0 fun i j => .int (Builtin.bitOr i j)) := opI0 fun _ _ _ _ _ _ _ q => ior_int q
theorem iop_xor : OpR X (inplaceOp .BitXor) (rI0 fun i j => .int (Builtin.bitXor i j)) := opI0 fun _ _ _ _ _ _ _ q => ixor_int q

theorem unI {f : Value → Sem Value} {g : Int → Int}
    (rule : ∀ (i : Int) (t : Tok) (s : Shared) (Q : Value → Shared → Prop) (E : Value → Shared → Prop), Q (.int (g i) s.toks) { s with toks := s.toks + 1 } → wpAny (model X.prog X.w) X.A (f (.int i t)) Q E s) :
    UnR X f (rU fun i => .int (g i)) := by
  intro pins s σ H x v Q I rx h
  obtain ⟨i, rfl, q⟩ := h
  obtain ⟨t, rfl⟩ := rx
  exact rule i t s _ _ ⟨.int (g i), H, I.tok _, ⟨_, rfl⟩, q⟩
theorem un_neg : UnR X (unaryOp .USub) (rU fun i => .int (-i)) := unI fun _ _ _ _ _ q => neg_int q
theorem un_inv : UnR X (unaryOp .Invert) (rU fun i => .int (Builtin.bitNot i)) := unI fun _ _ _ _ _ q => invert_int q

/-! ### bools among ints: n += (a < b) -/
theorem op_add_ib : OpR X (binaryOp .Add) (fun x y H Q => ∃ i k, x = .int i ∧ y = .bl k ∧ Q (.int (i + b2i k)) H) := by
  intro pins s σ H x y v u Q I rx ry h
  obtain ⟨i, k, rfl, rfl, q⟩ := h
  obtain ⟨t, rfl⟩ := rx
  cases ry
  exact add_int_bool ⟨.int (i + b2i k), H, I.tok _, ⟨_, rfl⟩, q⟩
end

/-! ### comparisons -/
/-- the scalars that == tells apart as data does -/
def scal : V → V → Bool
  | .non, .non => true | .non, .int _ => true | .int _, .non => true | .non, .bl _ => true | .bl _, .non => true | .non, .str _ => true | .str _, .non => true
  | .int _, .int _ => true | .bl _, .bl _ => true | .str _, .str _ => true | .byt _, .byt _ => true
  | .int _, .str _ => true | .str _, .int _ => true | .bl _, .str _ => true | .str _, .bl _ => true
  | _, _ => false
def rEq : R2 := fun x y H Q => scal x y = true ∧ Q (.bl (decide (x = y))) H
def rNe : R2 := fun x y H Q => scal x y = true ∧ Q (.bl (!decide (x = y))) H

theorem dec_int {i j : Int} : decide (V.int i = V.int j) = (i == j) := by
  rw [Bool.eq_iff_iff]
  simp
theorem dec_bl {i j : Bool} : decide (V.bl i = V.bl j) = (i == j) := by
  rw [Bool.eq_iff_iff]
  simp
theorem dec_str {i j : Str} : decide (V.str i = V.str j) = (i == j) := by
  rw [Bool.eq_iff_iff]
  simp
theorem dec_byt {i j : Array UInt8} : decide (V.byt i = V.byt j) = (i.toList == j.toList) := by
  rw [Bool.eq_iff_iff]
  cases i
  cases j
  simp

section
variable {X : Cx} {a b c : Expr} {ta tb tc : TE} {pos : Pos}
theorem fin_bl {pins : List (Addr × Obj)} {σ : St} {H : Hp} {s : Shared} {Q : VK} {k k' : Bool} (I : Inv X pins σ H s) (q : Q (.bl k) H) (e : k = k') : EP X pins σ Q (.bool k') s := by
  subst e
  exact ⟨.bl k, H, I, rfl, q⟩
theorem op_eq : OpR X (compareOp .Eq) rEq := by
  intro pins s σ H x y v u Q I rx ry h
  obtain ⟨hs, q⟩ := h
  cases x with
  | non =>
    cases rx
    cases y with
    | non => cases ry; exact PySem.EqNone.eq_none_none (fin_bl I q (by simp))
    | bl j => cases ry; exact PySem.EqNone.eq_none_bool (fin_bl I q (by simp))
    | int j => obtain ⟨t', rfl⟩ := ry; exact PySem.EqNone.eq_none_int (fin_bl I q (by simp))
    | str j => obtain ⟨t', rfl⟩ := ry; exact PySem.EqNone.eq_none_str (fin_bl I q (by simp))
    | _ => exact absurd (show false = true from hs) Bool.false_ne_true
  | bl i =>
    cases rx
    cases y with
    | non => cases ry; exact PySem.EqNone.eq_bool_none (fin_bl I q (by simp))
    | bl j => cases ry; exact eq_bool (fin_bl I q dec_bl)
    | str j => obtain ⟨t', rfl⟩ := ry; exact PySem.EqMixed.eq_bool_str (fin_bl I q (by simp))
    | _ => exact absurd (show false = true from hs) Bool.false_ne_true
  | int i =>
    obtain ⟨t, rfl⟩ := rx
    cases y with
    | non => cases ry; exact PySem.EqNone.eq_int_none (fin_bl I q (by simp))
    | int j => obtain ⟨t', rfl⟩ := ry; exact eq_int (fin_bl I q dec_int)
    | str j => obtain ⟨t', rfl⟩ := ry; exact PySem.EqMixed.eq_int_str (fin_bl I q (by simp))
    | _ => exact absurd (show false = true from hs) Bool.false_ne_true
  | str i =>
    obtain ⟨t, rfl⟩ := rx
    cases y with
    | non => cases ry; exact PySem.EqNone.eq_str_none (fin_bl I q (by simp))
    | bl j => cases ry; exact PySem.EqMixed.eq_str_bool (fin_bl I q (by simp))
    | int j => obtain ⟨t', rfl⟩ := ry; exact PySem.EqMixed.eq_str_int (fin_bl I q (by simp))
    | str j => obtain ⟨t', rfl⟩ := ry; exact eq_str (fin_bl I q dec_str)
    | _ => exact absurd (show false = true from hs) Bool.false_ne_true
  | byt i =>
    obtain ⟨t, rfl⟩ := rx
    cases y with
    | byt j => obtain ⟨t', rfl⟩ := ry; exact PySem.W.eq_bytes (fin_bl I q dec_byt)
    | _ => exact absurd (show false = true from hs) Bool.false_ne_true
  | _ => cases y <;> exact absurd (show false = true from hs) Bool.false_ne_true
theorem op_ne : OpR X (compareOp .NotEq) rNe := by
  intro pins s σ H x y v u Q I rx ry h
  obtain ⟨hs, q⟩ := h
  cases x with
  | non =>
    cases rx
    cases y with
    | non => cases ry; exact PySem.EqNone.ne_none_none (fin_bl I q (by simp))
    | bl j => cases ry; exact PySem.EqNone.ne_none_bool (fin_bl I q (by simp))
    | int j => obtain ⟨t', rfl⟩ := ry; exact PySem.EqNone.ne_none_int (fin_bl I q (by simp))
    | str j => obtain ⟨t', rfl⟩ := ry; exact PySem.EqNone.ne_none_str (fin_bl I q (by simp))
    | _ => exact absurd (show false = true from hs) Bool.false_ne_true
  | bl i =>
    cases rx
    cases y with
    | non => cases ry; exact PySem.EqNone.ne_bool_none (fin_bl I q (by simp))
    | bl j => cases ry; exact ne_bool (fin_bl I q (congrArg not dec_bl))
    | str j => obtain ⟨t', rfl⟩ := ry; exact PySem.EqMixed.ne_bool_str (fin_bl I q (by simp))
    | _ => exact absurd (show false = true from hs) Bool.false_ne_true
  | int i =>
    obtain ⟨t, rfl⟩ := rx
    cases y with
    | non => cases ry; exact PySem.EqNone.ne_int_none (fin_bl I q (by simp))
    | int j => obtain ⟨t', rfl⟩ := ry; exact ne_int (fin_bl I q (congrArg not dec_int))
    | str j => obtain ⟨t', rfl⟩ := ry; exact PySem.EqMixed.ne_int_str (fin_bl I q (by simp))
    | _ => exact absurd (show false = true from hs) Bool.false_ne_true
  | str i =>
    obtain ⟨t, rfl⟩ := rx
    cases y with
    | non => cases ry; exact PySem.EqNone.ne_str_none (fin_bl I q (by simp))
    | bl j => cases ry; exact PySem.EqMixed.ne_str_bool (fin_bl I q (by simp))
    | int j => obtain ⟨t', rfl⟩ := ry; exact PySem.EqMixed.ne_str_int (fin_bl I q (by simp))
    | str j => obtain ⟨t', rfl⟩ := ry; exact ne_str (fin_bl I q (congrArg not dec_str))
    | _ => exact absurd (show false = true from hs) Bool.false_ne_true
  | byt i =>
    obtain ⟨t, rfl⟩ := rx
    cases y with
    | byt j => obtain ⟨t', rfl⟩ := ry; exact PySem.W.ne_bytes (fin_bl I q (congrArg not dec_byt))
    | _ => exact absurd (show false = true from hs) Bool.false_ne_true
  | _ => cases y <;> exact absurd (show false = true from hs) Bool.false_ne_true

theorem op_lt : OpR X (compareOp .Lt) (rI0 fun i j => .bl (decide (i < j))) := opB0 fun _ _ _ _ _ _ _ q => lt_int q
theorem op_le : OpR X (compareOp .LtE) (rI0 fun i j => .bl (decide (i ≤ j))) := opB0 fun _ _ _ _ _ _ _ q => le_int q
theorem op_gt : OpR X (compareOp .Gt) (rI0 fun i j => .bl (decide (j < i))) := opB0 fun _ _ _ _ _ _ _ q => gt_int q
theorem op_ge : OpR X (compareOp .GtE) (rI0 fun i j => .bl (decide (j ≤ i))) := opB0 fun _ _ _ _ _ _ _ q => ge_int q
theorem op_lt_str : OpR X (compareOp .Lt) (fun x y H Q => ∃ i j, x = .str i ∧ y = .str j ∧ Q (.bl (decide (i.cps.toList < j.cps.toList))) H) := by
  intro pins s σ H x y v u Q I rx ry h
  obtain ⟨i, j, rfl, rfl, q⟩ := h
  obtain ⟨t, rfl⟩ := rx
  obtain ⟨t', rfl⟩ := ry
  exact lt_str (fin_bl I q rfl)
/-- the one string within the other -/
theorem op_in_str : OpR X (compareOp .In) (fun x y H Q => ∃ i j, x = .str i ∧ y = .str j ∧ Q (.bl (!(Builtin.Str.occurrences j i 0 j.length 1).isEmpty)) H) := by
  intro pins s σ H x y v u Q I rx ry h
  obtain ⟨i, j, rfl, rfl, q⟩ := h
  obtain ⟨t, rfl⟩ := rx
  obtain ⟨t', rfl⟩ := ry
  exact in_str (fin_bl I q rfl)

/-- is None, is not None: the right side a value none -/
theorem op_isN : OpR X (compareOp .Is) (fun x y H Q => y = .non ∧ Q (.bl (decide (x = .non))) H) := by
  intro pins s σ H x y v u Q I rx ry h
  obtain ⟨rfl, q⟩ := h
  cases ry
  refine is_none_gen (fin_bl I q ?_)
  cases x <;> first
    | (cases rx; rfl)
    | (obtain ⟨t, rfl⟩ := rx; rfl)
theorem op_notN : OpR X (compareOp .IsNot) (fun x y H Q => y = .non ∧ Q (.bl (!decide (x = .non))) H) := by
  intro pins s σ H x y v u Q I rx ry h
  obtain ⟨rfl, q⟩ := h
  cases ry
  refine isnot_none_gen (fin_bl I q ?_)
  cases x <;> first
    | (cases rx; rfl)
    | (obtain ⟨t, rfl⟩ := rx; rfl)

theorem op_notin_str : OpR X (compareOp .NotIn) (fun x y H Q => ∃ i j, x = .str i ∧ y = .str j ∧ Q (.bl (!(!(Builtin.Str.occurrences j i 0 j.length 1).isEmpty))) H) := by
  intro pins s σ H x y v u Q I rx ry h
  obtain ⟨i, j, rfl, rfl, q⟩ := h
  obtain ⟨t, rfl⟩ := rx
  obtain ⟨t', rfl⟩ := ry
  exact notIn_str (fin_bl I q rfl)
/-- is, is not of two objects that are tracked lists or instances -/
def isObj : HO → Bool
  | .lst _ => true
  | .ins _ _ _ => true
  | _ => false
theorem obj_there {pins : List (Addr × Obj)} {s : Shared} {σ : St} {H : Hp} {a : Addr} {o : HO} (I : Inv X pins σ H s) (h : H a = some o) (p : isObj o = true) : ∃ ob, s.heap.get? a = some ob ∧ ob.cls ≠ .type "tuple" := by
  cases o with
  | lst xs =>
    obtain ⟨_, its, n, _, e⟩ : xs.length ≤ sizeLine ∧ ∃ (its : List Value) (n : Nat), Vals xs its ∧ s.heap.get? a = some { cls := .type "list", data := .seq its.toArray n } := I.hok a _ h
    exact ⟨_, e, (by show Value.type "list" ≠ .type "tuple"; decide +kernel)⟩
  | ins C dx fs =>
    have x := I.hok a _ h
    obtain ⟨_, _, _, e, _⟩ := x
    exact ⟨_, e, (by show Value.ref C ≠ .type "tuple"; exact fun z => by cases z)⟩
  | _ => exact absurd (show false = true from p) Bool.false_ne_true
theorem op_is_ref : OpR X (compareOp .Is) (fun x y H Q => ∃ a b oa ob, x = .ref a ∧ y = .ref b ∧ H a = some oa ∧ isObj oa = true ∧ H b = some ob ∧ isObj ob = true ∧ Q (.bl (decide (a = b))) H) := by
  intro pins s σ H x y v u Q I rx ry h
  obtain ⟨a, b, oa, ob, rfl, rfl, ha, pa, hb, pb, q⟩ := h
  cases rx
  cases ry
  obtain ⟨o1, e1, n1⟩ := obj_there I ha pa
  obtain ⟨o2, e2, _⟩ := obj_there I hb pb
  by_cases z : a = b
  · subst z
    exact wpAny_is_ref_self (fin_bl I q (by simp))
  · exact wpAny_is_ref_other z e1 e2 n1 (fin_bl I q (by simp [z]))
theorem op_isnot_ref : OpR X (compareOp .IsNot) (fun x y H Q => ∃ a b oa ob, x = .ref a ∧ y = .ref b ∧ H a = some oa ∧ isObj oa = true ∧ H b = some ob ∧ isObj ob = true ∧ Q (.bl (!decide (a = b))) H) := by
  intro pins s σ H x y v u Q I rx ry h
  obtain ⟨a, b, oa, ob, rfl, rfl, ha, pa, hb, pb, q⟩ := h
  cases rx
  cases ry
  obtain ⟨o1, e1, n1⟩ := obj_there I ha pa
  obtain ⟨o2, e2, _⟩ := obj_there I hb pb
  by_cases z : a = b
  · subst z
    exact wpAny_isNot_ref_self (fin_bl I q (by simp))
  · exact wpAny_isNot_ref_other z e1 e2 n1 (fin_bl I q (by simp [z]))

/-- two rules for one operation: by cases -/
theorem OpR.or {f : Value → Value → Sem Value} {r r' : R2} (h : OpR X f r) (h' : OpR X f r') : OpR X f (fun x y H Q => r x y H Q ∨ r' x y H Q) := by
  intro pins s σ H x y v u Q I rx ry q
  rcases q with q | q
  · exact h pins s σ H x y v u Q I rx ry q
  · exact h' pins s σ H x y v u Q I rx ry q

theorem nomark (b : Expr) {op : CmpOp} (h : op ≠ .In := by decide) (h2 : op ≠ .NotIn := by decide) : behindInMarks op b = false := by
  have e1 : (op == CmpOp.In) = false := by cases op <;> first | rfl | exact absurd rfl h
  have e2 : (op == CmpOp.NotIn) = false := by cases op <;> first | rfl | exact absurd rfl h2
  cases b <;> simp [behindInMarks, e1, e2]
/-- a comparison as a value; hm: nomark b, or (for in, not in) by with_unfolding_all rfl -/
theorem pe_cmpR {op : CmpOp} {r : R2} (ho : OpR X (compareOp op) r) (ha : PE X a ta) (hb : PE X b tb) (hm : behindInMarks op b = false) : PE X (.Compare a [op] [b] pos) (tOp r ta tb) := by
  intro pins s σ H Q I h
  exact wpAny_Compare1 (binT ha hb I h fun v u s2 x y H2 I2 rx ry q => ho pins s2 σ H2 x y v u Q I2 rx ry q) hm
/-- a reading of a value as a test -/
def tTest (t : TE) : TT := fun σ H Q => t σ H fun x H' => ∃ k, x = .bl k ∧ Q k H'
theorem pt_cmpR {op : CmpOp} {r : R2} (ho : OpR X (compareOp op) r) (ha : PE X a ta) (hb : PE X b tb) (hm : behindInMarks op b = false) : PT X (.Compare a [op] [b] pos) (tTest (tOp r ta tb)) := by
  intro pins s σ H Q I h
  refine wpAny_isTrue_Compare1 (thn (ha pins s σ H _ I h) fun v s1 ⟨x, H1, I1, r1, q1⟩ => thn (hb pins s1 σ H1 _ I1 q1) fun u s2 ⟨y, H2, I2, r2, q2⟩ =>
    thn (ho pins s2 σ H2 x y v u _ I2 r1 r2 q2) fun c s3 ⟨z, H3, I3, r3, k, e, q3⟩ => ?_) hm
  subst e
  cases r3
  exact wpAny_truthy_bool ⟨H3, I3, q3⟩
/-- a op1 b op2 c -/
def tChain (r r' : R2) (ta tb tc : TE) : TE := fun σ H Q => ta σ H fun x H1 => tb σ H1 fun y H2 => r x y H2 fun z H3 => ∃ k, z = .bl k ∧
  (if k = true then tc σ H3 fun w' H4 => r' y w' H4 Q else Q (.bl false) H3)
theorem pe_chain {op op' : CmpOp} {r r' : R2} (ho : OpR X (compareOp op) r) (ho' : OpR X (compareOp op') r') (ha : PE X a ta) (hb : PE X b tb) (hc : PE X c tc)
    (hm : lastMarks [op, op'] [b, c] = false := by with_unfolding_all rfl) : PE X (.Compare a [op, op'] [b, c] pos) (tChain r r' ta tb tc) := by
  intro pins s σ H Q I h
  refine Compare_chain (thn (ha pins s σ H _ I h) fun v s1 ⟨x, H1, I1, r1, q1⟩ => chain_link (thn (hb pins s1 σ H1 _ I1 q1) fun u s2 ⟨y, H2, I2, r2, q2⟩ =>
    thn (ho pins s2 σ H2 x y v u _ I2 r1 r2 q2) fun d s3 ⟨z, H3, I3, r3, k, e, q3⟩ => ?_)) hm
  subst e
  cases r3
  refine wpAny_truthy_bool ?_
  cases k with
  | false => exact ite_ff ⟨.bl false, H3, I3, rfl, q3⟩
  | true => exact ite_tt (chain_last (thn (hc pins s3 σ H3 _ I3 q3) fun w' s4 ⟨z', H4, I4, r4, q4⟩ => ho' pins s4 σ H4 y z' u w' Q I4 r2 r4 q4))
theorem pt_chain {op op' : CmpOp} {r r' : R2} (ho : OpR X (compareOp op) r) (ho' : OpR X (compareOp op') r') (ha : PE X a ta) (hb : PE X b tb) (hc : PE X c tc)
    (hm : lastMarks [op, op'] [b, c] = false := by with_unfolding_all rfl) : PT X (.Compare a [op, op'] [b, c] pos) (tTest (tChain r r' ta tb tc)) := by
  intro pins s σ H Q I h
  refine isTrue_chain (thn (ha pins s σ H _ I h) fun v s1 ⟨x, H1, I1, r1, q1⟩ => test_link (thn (hb pins s1 σ H1 _ I1 q1) fun u s2 ⟨y, H2, I2, r2, q2⟩ =>
    thn (ho pins s2 σ H2 x y v u _ I2 r1 r2 q2) fun d s3 ⟨z, H3, I3, r3, k, e, q3⟩ => ?_)) hm
  subst e
  cases r3
  refine wpAny_truthy_bool ?_
  cases k with
  | false =>
    obtain ⟨k', e', q'⟩ := q3
    cases e'
    exact ite_ff ⟨H3, I3, q'⟩
  | true =>
    refine ite_tt (test_last (thn (hc pins s3 σ H3 _ I3 q3) fun w' s4 ⟨z', H4, I4, r4, q4⟩ => thn (ho' pins s4 σ H4 y z' u w' _ I4 r2 r4 q4) fun d' s5 ⟨z2, H5, I5, r5, k2, e2, q5⟩ => ?_))
    subst e2
    cases r5
    exact wpAny_truthy_bool ⟨H5, I5, q5⟩

/-! ### truth -/
/-- a value's truth by the abstract heap -/
def TruV (K : PySem.W.Frag) (x : V) (H : Hp) (k : Bool) : Prop :=
  match x with
  | .non => k = false
  | .bl b => k = b
  | .int i => k = (i != 0)
  | .str y => y.length ≤ sizeLine ∧ k = ((y.length : Int) != 0)
  | .byt y => y.size ≤ sizeLine ∧ k = ((y.size : Int) != 0)
  | .ref p => (∃ xs, SqL K H p xs ∧ k = !xs.isEmpty) ∨ (∃ xs, SqT K H p xs ∧ k = !xs.isEmpty) ∨ ∃ kvs, H p = some (.dK kvs) ∧ k = !kvs.isEmpty
  | _ => False
theorem isEmpty_kv {κ : Type} {kvs : List (κ × V)} {vs : List (κ × Value)} (r : KV kvs vs) : (!vs.isEmpty) = !kvs.isEmpty := by
  cases r <;> rfl
theorem isEmpty_of {xs : List V} {its : List Value} (r : Vals xs its) : (!its.toArray.isEmpty) = !xs.isEmpty := by
  cases r <;> simp
theorem line63 : (sizeLine : Nat) < 2 ^ 63 := by rw [sizeLine_eq]; decide
theorem tru_ok : TruR X (fun x H Q => ∃ k, TruV X.K x H k ∧ Q k H) := by
  intro pins s σ H x v Q I rx h
  obtain ⟨k, e, q⟩ := h
  have hl := line63
  have hs : sizeLine = 16777216 := sizeLine_eq
  cases x with
  | non =>
    cases rx
    have e' : k = false := e
    subst e'
    exact truthy_none ⟨H, I, q⟩
  | bl b =>
    cases rx
    have e' : k = b := e
    subst e'
    exact wpAny_truthy_bool ⟨H, I, q⟩
  | int i =>
    obtain ⟨t, rfl⟩ := rx
    have e' : k = (i != 0) := e
    subst e'
    exact PySem.P.truthy_int ⟨H, I, q⟩
  | str y =>
    obtain ⟨t, rfl⟩ := rx
    obtain ⟨hy, e'⟩ : y.length ≤ sizeLine ∧ k = ((y.length : Int) != 0) := e
    subst e'
    exact PySem.P.truthy_str (by omega) ⟨H, I.tok _, q⟩
  | byt y =>
    obtain ⟨t, rfl⟩ := rx
    obtain ⟨hy, e'⟩ : y.size ≤ sizeLine ∧ k = ((y.size : Int) != 0) := e
    subst e'
    exact PySem.W.truthy_bytes (by omega) ⟨H, I.tok _, q⟩
  | ref p =>
    cases rx
    have e' : (∃ xs, SqL X.K H p xs ∧ k = !xs.isEmpty) ∨ (∃ xs, SqT X.K H p xs ∧ k = !xs.isEmpty) ∨ ∃ kvs, H p = some (.dK kvs) ∧ k = !kvs.isEmpty := e
    rcases e' with ⟨xs, hx, e'⟩ | ⟨xs, hx, e'⟩ | ⟨kvs, hx, e'⟩
    · subst e'
      obtain ⟨its, r, pl, hz⟩ := I.list hx
      have hlen := r.length
      exact wpAny_truthy_list pl.isList (by simp only [List.size_toArray]; omega) ⟨H, I.tok _, by rw [isEmpty_of r]; exact q⟩
    · subst e'
      obtain ⟨its, r, pl, hz⟩ := I.tuple hx
      have hlen := r.length
      exact truthy_tuple pl (by simp only [List.size_toArray]; omega) ⟨H, I.tok _, by rw [isEmpty_of r]; exact q⟩
    · subst e'
      obtain ⟨hz, hS, vs, r, m⟩ : kvs.length ≤ sizeLine ∧ (p == sysModules) = false ∧ ∃ vs, KV kvs vs ∧ s.heap.DictOf (mixKind X.prog X.w) p vs := I.hok p _ hx
      have hlen : kvs.length = vs.length := Paired.length r
      exact wpAny_truthy_dict hS m (by omega) ⟨H, I.tok _, by rw [isEmpty_kv r]; exact q⟩
  | _ => exact (show False from e).elim
/-- any expression whose test is its value's truth (a name, a call, a subscript, a field ..: he by fun _ => rfl) -/
theorem pt_truth (ha : PE X a ta) (he : ∀ whole, isTrue a X.env whole = (do let v ← whole; standAt a.pos; holding [v] (truthy v))) :
    PT X a (fun σ H Q => ta σ H fun x H' => ∃ k, TruV X.K x H' k ∧ Q k H') := by
  intro pins s σ H Q I h
  exact isTrue_plain (thn (ha pins s σ H _ I h) fun v s1 ⟨x, H1, I1, r1, q1⟩ => tru_ok pins s1 σ H1 x v Q I1 r1 q1) (he _)

/-! ### strs and bytes -/
theorem pe_byt {x : List UInt8} {k : Nat} : PE X (.Constant (.bytes x) k pos) (fun _ H Q => Q (.byt x.toArray) H) := fun _ _ _ H _ I h => PySem.W.Constant_bytes ⟨.byt x.toArray, H, I.tok _, ⟨_, rfl⟩, h⟩
theorem op_add_str : OpR X (binaryOp .Add) (fun x y H Q => ∃ i j, x = .str i ∧ y = .str j ∧ i.length + j.length ≤ sizeLine ∧ Q (.str (i ++ j)) H) := by
  intro pins s σ H x y v u Q I rx ry h
  obtain ⟨i, j, rfl, rfl, hz, q⟩ := h
  obtain ⟨t, rfl⟩ := rx
  obtain ⟨t', rfl⟩ := ry
  exact add_str (fun t' tk => ⟨.str (i ++ j), H, I.tok _, ⟨_, rfl⟩, q⟩) hz
theorem iop_add_str : OpR X (inplaceOp .Add) (fun x y H Q => ∃ i j, x = .str i ∧ y = .str j ∧ i.length + j.length ≤ sizeLine ∧ Q (.str (i ++ j)) H) := by
  intro pins s σ H x y v u Q I rx ry h
  obtain ⟨i, j, rfl, rfl, hz, q⟩ := h
  obtain ⟨t, rfl⟩ := rx
  obtain ⟨t', rfl⟩ := ry
  exact iadd_str (fun t' tk => ⟨.str (i ++ j), H, I.tok _, ⟨_, rfl⟩, q⟩) hz
theorem op_add_byt : OpR X (binaryOp .Add) (fun x y H Q => ∃ i j, x = .byt i ∧ y = .byt j ∧ i.size + j.size ≤ 16777216 ∧ Q (.byt (i ++ j)) H) := by
  intro pins s σ H x y v u Q I rx ry h
  obtain ⟨i, j, rfl, rfl, hz, q⟩ := h
  obtain ⟨t, rfl⟩ := rx
  obtain ⟨t', rfl⟩ := ry
  exact PySem.W.KBy.add_bytes hz (fun t' tk => ⟨.byt (i ++ j), H, I.tok _, ⟨_, rfl⟩, q⟩)

def PlainIxT (b : Expr) : Prop := ∀ o i, subscripted b false o i = operate [o, i] (getItem o i)
/-- s[i], 0 ≤ i < len -/
theorem pe_item_str (ha : PE X a ta) (hb : PE X b tb) (hs : PlainIxT b) :
    PE X (.Subscript a b pos) (tOp (fun x y H Q => ∃ z i c, x = .str z ∧ y = .int i ∧ 0 ≤ i ∧ i < 2 ^ 63 ∧ i < z.length ∧ z.cps[i.toNat]? = some c ∧ Q (.str ⟨#[c]⟩) H) ta tb) := by
  intro pins s σ H Q I h
  refine Subscript_ (binT ha hb I h fun v u s2 x y H2 I2 rx ry q => ?_)
  obtain ⟨z, i, c, rfl, rfl, h0, h63, h1, hc, q⟩ := q
  obtain ⟨t, rfl⟩ := rx
  obtain ⟨t', rfl⟩ := ry
  have e : seqIndex? i z.length = some i.toNat := PySem.StrLaws.seqIndex_nonneg h0 h1
  exact tail_any (typeIs_str s2 z t) slot_str_getitem.lookup (getItem_str (c := c) (by
    have e1 : decide (i < -(2 ^ 63 : Int)) = false := decide_eq_false (by omega)
    have e2 : decide (i ≥ 2 ^ 63) = false := decide_eq_false (by omega)
    rw [e1, e2] <;> rfl) (by rw [e]; exact hc) ⟨.str ⟨#[c]⟩, H2, I2.tok _, ⟨_, rfl⟩, q⟩) (hs _ _)
/-- b[i], 0 ≤ i < len -/
theorem pe_item_byt (ha : PE X a ta) (hb : PE X b tb) (hs : PlainIxT b) :
    PE X (.Subscript a b pos) (tOp (fun x y H Q => ∃ (z : List UInt8) (i : Int), x = .byt z.toArray ∧ y = .int i ∧ z.length ≤ sizeLine ∧ 0 ≤ i ∧ i < z.length ∧ Q (.int ((z.getD i.toNat 0).toNat : Nat)) H) ta tb) := by
  intro pins s σ H Q I h
  refine Subscript_ (binT ha hb I h fun v u s2 x y H2 I2 rx ry q => ?_)
  obtain ⟨z, i, rfl, rfl, hz, h0, h1, q⟩ := q
  obtain ⟨t, rfl⟩ := rx
  obtain ⟨t', rfl⟩ := ry
  have hl : sizeLine = 16777216 := sizeLine_eq
  exact tail_any (PySem.W.typeIs_bytes s2 z.toArray t) PySem.W.FB.slot_bytes_getitem.lookup (PySem.W.getItem_bytes (by omega) h0 h1 ⟨.int ((z.getD i.toNat 0).toNat : Nat), H2, I2.tok _, ⟨_, rfl⟩, q⟩) (hs _ _)

/-! ### scalar builtins, by CallR -/
theorem vals1 {x : V} {us : List Value} (r : Vals [x] us) : ∃ u, us = [u] ∧ RelV x u := by
  cases r with
  | cons r1 r2 => cases r2; exact ⟨_, rfl, r1⟩
theorem vals2 {x y : V} {us : List Value} (r : Vals [x, y] us) : ∃ u w', us = [u, w'] ∧ RelV x u ∧ RelV y w' := by
  cases r with
  | cons r1 r2 =>
    cases r2 with
    | cons r3 r4 => cases r4; exact ⟨_, _, rfl, r1, r3⟩
theorem call_abs : CallR X (.builtin "abs") (fun xs H Q => ∃ i, xs = [.int i] ∧ Q (.int (if i < 0 then -i else i)) H) := by
  intro pins s σ H xs us Q I r h
  obtain ⟨i, rfl, q⟩ := h
  obtain ⟨u, rfl, t, rfl⟩ := vals1 r
  exact call_abs_int fun u tk => ⟨.int (if i < 0 then -i else i), H, I.tok _, ⟨_, rfl⟩, q⟩
theorem call_max2 (hc : X.calm = true) : CallR X (.builtin "max") (fun xs H Q => ∃ i j, xs = [.int i, .int j] ∧ Q (.int (if j > i then j else i)) H) := by
  intro pins s σ H xs us Q I r h
  obtain ⟨i, j, rfl, q⟩ := h
  obtain ⟨u, w', rfl, ⟨t, rfl⟩, ⟨t', rfl⟩⟩ := vals2 r
  refine max_two_ints (I.ok.hd hc) fun h' tk k => ⟨_, H, I.kept k, ?_, q⟩
  by_cases hj : j > i
  · rw [if_pos hj, if_pos hj]; exact ⟨_, rfl⟩
  · rw [if_neg hj, if_neg hj]; exact ⟨_, rfl⟩
theorem call_min2 (hc : X.calm = true) : CallR X (.builtin "min") (fun xs H Q => ∃ i j, xs = [.int i, .int j] ∧ Q (.int (if j < i then j else i)) H) := by
  intro pins s σ H xs us Q I r h
  obtain ⟨i, j, rfl, q⟩ := h
  obtain ⟨u, w', rfl, ⟨t, rfl⟩, ⟨t', rfl⟩⟩ := vals2 r
  refine min_two_ints (I.ok.hd hc) fun h' tk k => ⟨_, H, I.kept k, ?_, q⟩
  by_cases hj : j < i
  · rw [if_pos hj, if_pos hj]; exact ⟨_, rfl⟩
  · rw [if_neg hj, if_neg hj]; exact ⟨_, rfl⟩
theorem call_int1 : CallR X (.type "int") (fun xs H Q => (∃ i, xs = [.int i] ∧ Q (.int i) H) ∨ ∃ k, xs = [.bl k] ∧ Q (.int (if k then 1 else 0)) H) := by
  intro pins s σ H xs us Q I r h
  rcases h with ⟨i, rfl, q⟩ | ⟨k, rfl, q⟩
  · obtain ⟨u, rfl, t, rfl⟩ := vals1 r
    exact call_int_int ⟨.int i, H, I, ⟨_, rfl⟩, q⟩
  · obtain ⟨u, rfl, r1⟩ := vals1 r
    cases r1
    exact call_int_bool ⟨.int (if k then 1 else 0), H, I.tok _, ⟨_, rfl⟩, q⟩
theorem call_bool1 : CallR X (.type "bool") (fun xs H Q => (∃ i, xs = [.int i] ∧ Q (.bl (i != 0)) H) ∨ ∃ k, xs = [.bl k] ∧ Q (.bl k) H) := by
  intro pins s σ H xs us Q I r h
  rcases h with ⟨i, rfl, q⟩ | ⟨k, rfl, q⟩
  · obtain ⟨u, rfl, t, rfl⟩ := vals1 r
    exact call_bool_int ⟨.bl (i != 0), H, I, rfl, q⟩
  · obtain ⟨u, rfl, r1⟩ := vals1 r
    cases r1
    exact call_bool_bool ⟨.bl k, H, I, rfl, q⟩
theorem call_str_int : CallR X (.type "str") (fun xs H Q => ∃ i, xs = [.int i] ∧ i.natAbs.log2 < 1920 ∧ Q (.str (toString i)) H) := by
  intro pins s σ H xs us Q I r h
  obtain ⟨i, rfl, hz, q⟩ := h
  obtain ⟨u, rfl, t, rfl⟩ := vals1 r
  exact PySem.P.str_of_int hz ⟨.str _, H, I.tok _, ⟨_, rfl⟩, q⟩
theorem call_ord : CallR X (.builtin "ord") (fun xs H Q => ∃ x, xs = [.str x] ∧ x.length = 1 ∧ Q (.int (x.cps.getD 0 0 : Nat)) H) := by
  intro pins s σ H xs us Q I r h
  obtain ⟨x, rfl, hz, q⟩ := h
  obtain ⟨u, rfl, t, rfl⟩ := vals1 r
  exact ord_of_one hz ⟨.int _, H, I.tok _, ⟨_, rfl⟩, q⟩
theorem call_chr : CallR X (.builtin "chr") (fun xs H Q => ∃ i, xs = [.int i] ∧ 0 ≤ i ∧ i ≤ 1114111 ∧ Q (.str ⟨#[i.toNat]⟩) H) := by
  intro pins s σ H xs us Q I r h
  obtain ⟨i, rfl, h0, h1, q⟩ := h
  obtain ⟨u, rfl, t, rfl⟩ := vals1 r
  exact chr_of_range h0 h1 ⟨.str _, H, I.tok _, ⟨_, rfl⟩, q⟩
/-- len of a str, a bytes, a list, a tuple -/
def LenV (K : PySem.W.Frag) (x : V) (H : Hp) (n : Nat) : Prop :=
  match x with
  | .str y => y.length ≤ sizeLine ∧ n = y.length
  | .byt y => y.size ≤ sizeLine ∧ n = y.size
  | .ref p => (∃ xs, SqL K H p xs ∧ n = xs.length) ∨ ∃ xs, SqT K H p xs ∧ n = xs.length
  | _ => False
theorem call_len : CallR X (.builtin "len") (fun xs H Q => ∃ x n, xs = [x] ∧ LenV X.K x H n ∧ Q (.int n) H) := by
  intro pins s σ H xs us Q I r h
  obtain ⟨x, n, rfl, e, q⟩ := h
  obtain ⟨u, rfl, rx⟩ := vals1 r
  have hl := line63
  have hs : sizeLine = 16777216 := sizeLine_eq
  cases x with
  | str y =>
    obtain ⟨t, rfl⟩ := rx
    obtain ⟨hy, e'⟩ : y.length ≤ sizeLine ∧ n = y.length := e
    subst e'
    exact len_str (by omega) ⟨.int _, H, I.tok _, ⟨_, rfl⟩, q⟩
  | byt y =>
    obtain ⟨t, rfl⟩ := rx
    obtain ⟨hy, e'⟩ : y.size ≤ sizeLine ∧ n = y.size := e
    subst e'
    exact PySem.W.len_bytes (by omega) ⟨.int _, H, I.tok _, ⟨_, rfl⟩, q⟩
  | ref p =>
    cases rx
    have e' : (∃ xs, SqL X.K H p xs ∧ n = xs.length) ∨ ∃ xs, SqT X.K H p xs ∧ n = xs.length := e
    rcases e' with ⟨xs, hx, e'⟩ | ⟨xs, hx, e'⟩
    · subst e'
      obtain ⟨its, r', pl, hz⟩ := I.list hx
      have hlen := r'.length
      exact Calls.call_len_list pl.isList (by simp only [List.size_toArray]; omega) ⟨.int xs.length, H, I.tok _, ⟨_, by simp only [List.size_toArray]; rw [hlen]⟩, q⟩
    · subst e'
      obtain ⟨its, r', pl, hz⟩ := I.tuple hx
      have hlen := r'.length
      exact len_tuple pl (by simp only [List.size_toArray]; omega) ⟨.int xs.length, H, I.tok _, ⟨_, by simp only [List.size_toArray]; rw [hlen]⟩, q⟩
  | _ => exact (show False from e).elim
/-- divmod: a new tuple -/
theorem call_divmod : CallR X (.builtin "divmod") (fun xs H Q => ∃ i j, xs = [.int i, .int j] ∧ CDiv i j ∧ ∀ p, H p = none → Q (.ref p) (upd H p (.tup [.int (i / j), .int (i % j)]))) := by
  intro pins s σ H xs us Q I r h
  obtain ⟨i, j, rfl, ⟨h1, h2⟩, q⟩ := h
  obtain ⟨u, w', rfl, ⟨t, rfl⟩, ⟨t', rfl⟩⟩ := vals2 r
  refine divmod_int (by omega) ?_ (.inl (PyProof.noPylong_small (by omega)))
  rw [Int.fdiv_eq_ediv_of_nonneg i (by omega), Int.fmod_eq_emod_of_nonneg i (by omega)]
  have hn : H s.heap.objs.size = none := I.hok.fresh (Nat.le_refl _)
  refine ⟨.ref s.heap.objs.size, _, ?_, rfl, q _ hn⟩
  refine I.laid (fun b o e => Heap.get?_push_of_some _ e) (Nat.le_refl _) ⟨by simp only [List.length_cons, List.length_nil]; rw [sizeLine_eq]; decide, [.int (i / j) s.toks, .int (i % j) (s.toks + 1)], .cons ⟨_, rfl⟩ (.cons ⟨_, rfl⟩ .nil), ?_⟩
  exact ⟨_, Heap.get?_push_size s.heap rfl, rfl, 0, rfl⟩
end
end L2

namespace L2
open PySem PySem.Spec PyProof.Rows

/-! ### an instance, its attributes a map -/
structure ObjM (h : Heap) (x dx C : Addr) (mA : Str → Option Value) : Prop where
  obj : h.get? x = some (PySem.W.instObj C dx)
  ns : h.Ns1 dx mA
  ne : dx ≠ x

theorem lookIn_ns {h : Heap} {dx : Addr} {mA : Str → Option Value} (n : h.Ns1 dx mA) : ∃ od, h.get? dx = some od ∧ ∀ name, PySem.W.lookIn name od = some (mA name) := by
  obtain ⟨o, es, ep, ho, hd, hk, _, hm⟩ := n
  refine ⟨o, ho, fun name => ?_⟩
  have e := hm name
  unfold nsFind findBy at e
  rw [← Array.find?_toList] at e
  unfold PySem.W.lookIn
  rw [hd]
  dsimp only
  split
  · rename_i y q
    rw [q] at e
    exact congrArg some e
  · rename_i q
    rw [q] at e
    have a : es.toList.any (·.refKey) = false := by
      rw [List.any_eq_false]
      intro y hy
      obtain ⟨z, t, hkey⟩ := hk y (Array.mem_toList_iff.mp hy)
      simp [DictEntry.refKey, hkey]
    have a' : ¬ es.toList.any (·.refKey) = true := by rw [a]; exact Bool.false_ne_true
    rw [if_neg a']
    exact congrArg some e

theorem ObjM.look {h : Heap} {x dx C : Addr} {mA : Str → Option Value} (I : ObjM h x dx C mA) : ∃ od, PySem.W.InstAt h x (PySem.W.instObj C dx) C (some od) ∧ ∀ name, PySem.W.lookIn name od = some (mA name) :=
  let ⟨od, ho, hl⟩ := lookIn_ns I.ns
  ⟨od, ⟨I.obj, rfl, rfl, ho⟩, hl⟩

section
variable {prog : Program} {w : World} {A : Around} {E : Value → Shared → Prop} {s : Shared} {K : PySem.W.Frag} {x dx C f : Addr} {mA : Str → Option Value} {name : Str} {v : Value}

theorem get_map {expr : Bool} {Q : Value → Shared → Prop} (X : K.In s.heap) (I : ObjM s.heap x dx C mA) (hg : PySem.W.plainGet K C name = true) (hh : PySem.W.hasDictIn K C = true)
    (ha : PySem.W.findIn K (.ref C) name = some none) (hv : mA name = some v) (hv' : PySem.W.handedIn v = true) (h : Q v { s with toks := s.toks + 1 }) :
    wpAny (model prog w) A (getAttr (.ref x) name expr) Q E s := by
  obtain ⟨od, J, hl⟩ := I.look
  exact PySem.W.get_value X J (PySem.W.plainGet_of hg).1 (PySem.W.findObj_own hh ha rfl (by rw [hl, hv])) hv' h

theorem get_const {expr : Bool} {a : Value} {Q : Value → Shared → Prop} (X : K.In s.heap) (I : ObjM s.heap x dx C mA) (hg : PySem.W.plainGet K C name = true) (hh : PySem.W.hasDictIn K C = true)
    (ha : PySem.W.findIn K (.ref C) name = some (some a)) (hn : PySem.W.specialIn K a "__get__" = some none) (hc : PySem.W.copiedNames.contains name = false) (hv : mA name = none) (hv' : PySem.W.handedIn a = true)
    (h : Q a { s with toks := s.toks + 1 }) : wpAny (model prog w) A (getAttr (.ref x) name expr) Q E s := by
  obtain ⟨od, J, hl⟩ := I.look
  exact PySem.W.get_value X J (PySem.W.plainGet_of hg).1 (PySem.W.findObj_cls hh ha hn hv' hc (by rw [hl, hv])) hv' h

theorem get_meth {pl : Sem Bool} {Q : Value × List Value → Shared → Prop} (X : K.In s.heap) (I : ObjM s.heap x dx C mA) (hg : PySem.W.plainGet K C name = true)
    (hf : PySem.W.findIn K (.ref C) name = some (some (.ref f))) (ht : PySem.W.isFn K (.ref f) = true) (hv : mA name = none) (h : Q (.ref f, [.ref x]) s) :
    wpAny (model prog w) A (getMethod (.ref x) name pl) Q E s := by
  obtain ⟨od, J, hl⟩ := I.look
  exact PySem.W.method_fn X J (PySem.W.plainGet_of hg).1 (PySem.W.plainGet_of hg).2 hf (beq_iff_eq.mp ht) (by show (PySem.W.lookIn name od).map (·.isSome) = some false; rw [hl, hv]; rfl) h

theorem set_map {ns : List Str} {Q : Unit → Shared → Prop} (X : K.In s.heap) (I : ObjM s.heap x dx C mA)
    (hs : PySem.W.findIn K (.ref C) "__setattr__" = some (some (.builtin "object.__setattr__"))) (hp : PySem.W.plainOver K C = true) (ht : PySem.W.takerIn K C name = some none) (hh : PySem.W.hasDictIn K C = true)
    (hw : PySem.Within mA ns) (hsz : ns.length ≤ sizeLine)
    (h : ∀ h', ObjM h' x dx C (fun y => if y = name then some v else mA y) → Heap.SameBut dx s.heap h' → Q () { s with heap := h', toks := s.toks + 2 }) :
    wpAny (model prog w) A (setAttr (.ref x) name v) Q E s := by
  obtain ⟨od, J, hl⟩ := I.look
  refine PySem.W.set_plain X J hs (PySem.W.osa_open (s := { s with toks := s.toks + 1 }) (r := none) X J hp ht fun b => ?_)
  obtain ⟨cd, hc, hd'⟩ := PySem.W.any_some hh
  have hx : s.heap.get? x = some ⟨.ref C, some dx, .plain, #[]⟩ := I.obj
  refine wpAny_bind (wpAny_pure (wpAny_bind (wpAny_bind (wpAny_loadPart hx (wpAny_bind (PySem.W.Looks.here (s := { s with toks := s.toks + 1 }) (PySem.W.looks_clsIn X hc) ?_))))))
  rw [hd']
  refine wpAny_pure (a := some dx) (wpAny_bind (wpAny_pure (wpAny_bind ?_)))
  refine wpAny_nsSet1 (s := { s with toks := s.toks + 1 }) I.ns fun h' hn2 hs2 => ?_
  obtain ⟨oD, esD, epD, hoD, hdD, hcD⟩ := hn2.count (PySem.Within.cons name v hw)
  refine wpAny_bind (wpAny_lookBehind hoD (by rw [hdD]; exact pastItsLine_dict (Nat.le_trans hcD (by rw [List.length_cons]; omega))) ?_)
  exact wpAny_pure (h _ ⟨(hs2.2 _ (Ne.symm I.ne)).trans I.obj, hn2, I.ne⟩ hs2)

/-- C(..): the dict at the heap's end, the instance behind it; then its __init__ -/
theorem make_map {R : Result → Shared → Prop} {vs : List Value} {kw : List (Str × Value)} (X : K.In s.heap) (hm : PySem.W.makesIn K C = true)
    (hi : PySem.W.findIn K (.ref C) "__init__" = some (some (.ref f))) (hf : PySem.W.typeIn K (.ref f) = some (.type "function"))
    (h : codeAny (model prog w) (A.under (.builtin "type.__call__" ⟨.ref C :: vs, kw⟩)) (.call (.ref f) ⟨.ref (s.heap.objs.size + 1) :: vs, kw⟩) (PySem.W.InitBack (s.heap.objs.size + 1) R)
      { s with heap := (s.heap.push PySem.W.emptyDict).push (PySem.W.instObj C s.heap.objs.size) }) :
    codeAny (model prog w) A (.call (.ref C) ⟨vs, kw⟩) R s := by
  obtain ⟨hh, g, d, t, os⟩ := s
  exact PySem.W.make_core (PySem.W.makes_of X hm) (PySem.W.looks_findIn X hi) (fun self => PySem.W.bind_fn X self hf) (.inl rfl) h
/-- C() where there is no __init__ but object's -/
theorem make_map0 {R : Result → Shared → Prop} (X : K.In s.heap) (hm : PySem.W.makesIn K C = true)
    (hi : PySem.W.findIn K (.ref C) "__init__" = some (some (.builtin "object.__init__")))
    (hb : ∀ self, PySem.W.Looks (model prog w) s.heap (bindSpecial (.builtin "object.__init__") self) (.builtin "object.__init__", [self]))
    (h : codeAny (model prog w) (A.under (.builtin "type.__call__" ⟨[.ref C], []⟩)) (.call (.builtin "object.__init__") ⟨[.ref (s.heap.objs.size + 1)], []⟩) (PySem.W.InitBack (s.heap.objs.size + 1) R)
      { s with heap := (s.heap.push PySem.W.emptyDict).push (PySem.W.instObj C s.heap.objs.size) }) :
    codeAny (model prog w) A (.call (.ref C) ⟨[], []⟩) R s := by
  obtain ⟨hh, g, d, t, os⟩ := s
  exact PySem.W.make_core (PySem.W.makes_of X hm) (PySem.W.looks_findIn X hi) hb (.inr ⟨rfl, rfl⟩) h
end

/-! ### the attributes as a list of pairs -/
def putF (f : Str) (v : V) : List (Str × V) → List (Str × V)
  | [] => [(f, v)]
  | (g, x) :: r => if g = f then (g, v) :: r else (g, x) :: putF f v r
theorem lookup_putF (f g : Str) (v : V) : ∀ fs : List (Str × V), (putF f v fs).lookup g = if g = f then some v else fs.lookup g
  | [] => by
    show List.lookup g [(f, v)] = _
    by_cases h : g = f
    · have hb : (g == f) = true := beq_iff_eq.mpr h
      simp only [List.lookup, hb, if_pos h]
    · have hb : (g == f) = false := beq_eq_false_iff_ne.mpr h
      simp only [List.lookup, hb, if_neg h]
  | (k, x) :: r => by
    have ih := lookup_putF f g v r
    rw [show putF f v ((k, x) :: r) = (if k = f then (k, v) :: r else (k, x) :: putF f v r) from rfl]
    by_cases hk : k = f
    · rw [if_pos hk]
      by_cases h : g = k
      · have hb : (g == k) = true := beq_iff_eq.mpr h
        simp only [List.lookup, hb, if_pos (h.trans hk)]
      · have hb : (g == k) = false := beq_eq_false_iff_ne.mpr h
        simp only [List.lookup, hb, if_neg (fun e : g = f => h (e.trans hk.symm))]
    · rw [if_neg hk]
      by_cases h : g = k
      · have hb : (g == k) = true := beq_iff_eq.mpr h
        simp only [List.lookup, hb, if_neg (fun e : g = f => hk (h.symm.trans e))]
      · have hb : (g == k) = false := beq_eq_false_iff_ne.mpr h
        simp only [List.lookup, hb]
        exact ih
theorem keys_putF (f : Str) (v : V) : ∀ fs : List (Str × V), f ∈ (putF f v fs).map (·.1) ∧ ∀ g, g ∈ fs.map (·.1) → g ∈ (putF f v fs).map (·.1)
  | [] => ⟨by simp [putF], fun g h => by simp at h⟩
  | (k, x) :: r => by
    obtain ⟨i1, i2⟩ := keys_putF f v r
    rw [show putF f v ((k, x) :: r) = (if k = f then (k, v) :: r else (k, x) :: putF f v r) from rfl]
    by_cases hk : k = f
    · rw [if_pos hk]
      subst hk
      exact ⟨by simp, fun g h => by simpa using h⟩
    · rw [if_neg hk]
      refine ⟨?_, fun g h => ?_⟩
      · rw [List.map_cons]
        exact List.mem_cons_of_mem _ i1
      · rw [List.map_cons] at h ⊢
        rcases List.mem_cons.mp h with e | e
        · exact List.mem_cons.mpr (.inl e)
        · exact List.mem_cons_of_mem _ (i2 g e)
theorem length_putF (f : Str) (v : V) : ∀ fs : List (Str × V), (putF f v fs).length ≤ fs.length + 1
  | [] => by simp [putF]
  | (k, x) :: r => by
    have ih := length_putF f v r
    rw [show putF f v ((k, x) :: r) = (if k = f then (k, v) :: r else (k, x) :: putF f v r) from rfl]
    by_cases hk : k = f
    · rw [if_pos hk, List.length_cons, List.length_cons]; omega
    · rw [if_neg hk, List.length_cons, List.length_cons]; omega

theorem RelO.some_of {v : V} {o : Option Value} (r : RelO (some v) o) : ∃ u, o = some u ∧ RelV v u := by
  cases o with
  | none => exact (show False from r).elim
  | some u => exact ⟨u, rfl, r⟩
theorem RelO.none_of {o : Option Value} (r : RelO none o) : o = none := by
  cases o with
  | none => rfl
  | some u => exact (show False from r).elim
theorem handed_of {v : V} {u : Value} (r : RelV v u) : PySem.W.handedIn u = true := by
  cases v with
  | non => cases (show u = Value.none from r); rfl
  | bl b => cases (show u = Value.bool b from r); rfl
  | int i => obtain ⟨t, e⟩ := (show ∃ t, u = Value.int i t from r); cases e; rfl
  | str x => obtain ⟨t, e⟩ := (show ∃ t, u = Value.str x t from r); cases e; rfl
  | byt b => obtain ⟨t, e⟩ := (show ∃ t, u = Value.bytes b t from r); cases e; rfl
  | flt b => obtain ⟨t, e⟩ := (show ∃ t, u = Value.float b t from r); cases e; rfl
  | ref a => cases (show u = Value.ref a from r); rfl
  | ty n => cases (show u = Value.type n from r); rfl

section
variable {P : Program} {w : World} {H H' : Hp} {h h' : Heap} {a C dx : Addr} {fs fs' : List (Str × V)}
theorem ins_get (hok : HOk P w H h) (e : H a = some (.ins C dx fs)) : ∃ mA, ObjM h a dx C mA ∧ (∀ f, RelO (fs.lookup f) (mA f)) ∧ PySem.Within mA (fs.map (·.1)) ∧ fs.length ≤ 1000 ∧ H dx = some (.own a) := by
  obtain ⟨d, z, ne, ob, mA, n, r, q⟩ := (show ObjOk P w H h a (.ins C dx fs) from hok a _ e)
  exact ⟨mA, ⟨ob, n, ne⟩, r, q, z, d⟩
end

/-! ### what of the text a class must have -/
structure Cls (K : PySem.W.Frag) (C : Addr) : Prop where
  pg : PySem.W.plainGet K C Str.empty = true
  hd : PySem.W.hasDictIn K C = true
  po : PySem.W.plainOver K C = true
  sa : PySem.W.findIn K (.ref C) "__setattr__" = some (some (.builtin "object.__setattr__"))
theorem Cls.get {K : PySem.W.Frag} {C : Addr} (c : Cls K C) (f : Str) : PySem.W.plainGet K C f = true := c.pg
/-- no class of it has the name -/
def NoAttr (K : PySem.W.Frag) (C : Addr) (f : Str) : Prop := PySem.W.findIn K (.ref C) f = some none
theorem NoAttr.taker {K : PySem.W.Frag} {C : Addr} {f : Str} (n : NoAttr K C f) : PySem.W.takerIn K C f = some none := by
  unfold PySem.W.takerIn
  rw [show PySem.W.findIn K (.ref C) f = some none from n]
  rfl
/-- a constant of the class -/
structure Con (K : PySem.W.Frag) (C : Addr) (f : Str) (v : V) (u : Value) : Prop where
  at_ : PySem.W.findIn K (.ref C) f = some (some u)
  rel : RelV v u
  get : PySem.W.specialIn K u "__get__" = some none
  cp : PySem.W.copiedNames.contains f = false
/-- a method: a plain def of the class or of one above it -/
structure Meth (K : PySem.W.Frag) (C : Addr) (m : Str) (f : Addr) : Prop where
  at_ : PySem.W.findIn K (.ref C) m = some (some (.ref f))
  fn : PySem.W.isFn K (.ref f) = true
  kp : PySem.W.keepIn K (.ref f) = true

section
variable {X : Cx} {pins : List (Addr × Obj)} {σ : St} {H : Hp} {s : Shared} {a C dx : Addr} {fs : List (Str × V)} {f : Str} {v : V} {A : Around} {E : Value → Shared → Prop}

theorem getattr_ok {b : Bool} {Q : Value → Shared → Prop} (I : Inv X pins σ H s) (e : H a = some (.ins C dx fs)) (c : Cls X.K C) (n : NoAttr X.K C f) (l : fs.lookup f = some v)
    (h : ∀ u s', Inv X pins σ H s' → RelV v u → Q u s') : wpAny (model X.prog X.w) A (getAttr (.ref a) f b) Q E s := by
  obtain ⟨mA, O, r, _, _, _⟩ := ins_get I.hok e
  obtain ⟨u, hu, ru⟩ := RelO.some_of (v := v) (o := mA f) (by rw [← l]; exact r f)
  exact get_map I.kIn O (c.get f) c.hd n hu (handed_of ru) (h u _ (I.tok _) ru)

theorem getcon_ok {b : Bool} {u : Value} {Q : Value → Shared → Prop} (I : Inv X pins σ H s) (e : H a = some (.ins C dx fs)) (c : Cls X.K C) (k : Con X.K C f v u) (l : fs.lookup f = none)
    (h : ∀ s', Inv X pins σ H s' → Q u s') : wpAny (model X.prog X.w) A (getAttr (.ref a) f b) Q E s := by
  obtain ⟨mA, O, r, _, _, _⟩ := ins_get I.hok e
  have hn : mA f = none := RelO.none_of (by rw [← l]; exact r f)
  exact get_const I.kIn O (c.get f) c.hd k.at_ k.get k.cp hn (handed_of k.rel) (h _ (I.tok _))

theorem getmeth_ok {m : Str} {g : Addr} {pl : Sem Bool} {Q : Value × List Value → Shared → Prop} (I : Inv X pins σ H s) (e : H a = some (.ins C dx fs)) (c : Cls X.K C) (k : Meth X.K C m g) (l : fs.lookup m = none)
    (h : Q (.ref g, [.ref a]) s) : wpAny (model X.prog X.w) A (getMethod (.ref a) m pl) Q E s := by
  obtain ⟨mA, O, r, _, _, _⟩ := ins_get I.hok e
  have hn : mA m = none := RelO.none_of (by rw [← l]; exact r m)
  exact get_meth I.kIn O (c.get m) k.at_ k.fn hn h

theorem setattr_ok {y : V} {u : Value} {Q : Unit → Shared → Prop} (I : Inv X pins σ H s) (e : H a = some (.ins C dx fs)) (c : Cls X.K C) (n : NoAttr X.K C f) (hl : fs.length < 1000) (ry : RelV y u)
    (h : ∀ s', Inv X pins σ (upd H a (.ins C dx (putF f y fs))) s' → Q () s') : wpAny (model X.prog X.w) A (setAttr (.ref a) f u) Q E s := by
  obtain ⟨mA, O, r, wi, _, ho⟩ := ins_get I.hok e
  have hz : (fs.map (·.1)).length ≤ sizeLine := by rw [List.length_map, sizeLine_eq]; omega
  refine set_map I.kIn O c.sa c.po n.taker c.hd wi hz fun h' O' sb => h _ ?_
  have hd : ∃ o, h'.get? dx = some o := let ⟨o, _, _, e', _⟩ := O'.ns; ⟨o, e'⟩
  refine I.write (x := a) (e := dx) (by rw [e]; exact True.intro) (.inr ho) (fun b q hb z => (sb.2 b hb).trans z) hd ?_
  refine ⟨by rw [upd_ne O.ne]; exact ho, ?_, O.ne, O'.obj, _, O'.ns, fun g => ?_, fun g hg => ?_⟩
  · have := length_putF f y fs; omega
  · show RelO ((putF f y fs).lookup g) (if g = f then some u else mA g)
    rw [lookup_putF]
    by_cases q : g = f
    · rw [if_pos q, if_pos q]; exact ry
    · rw [if_neg q, if_neg q]; exact r g
  · by_cases q : g = f
    · rw [q]; exact (keys_putF f y fs).1
    · refine (keys_putF f y fs).2 g (wi g fun z => hg ?_)
      show (if g = f then some u else mA g) = none
      rw [if_neg q]; exact z

/-- a new instance, tracked, without attributes -/
theorem Inv.made (I : Inv X pins σ H s) : Inv X pins σ (upd (upd H s.heap.objs.size (.own (s.heap.objs.size + 1))) (s.heap.objs.size + 1) (.ins C s.heap.objs.size []))
    { s with heap := (s.heap.push PySem.W.emptyDict).push (PySem.W.instObj C s.heap.objs.size) } := by
  have e1 : (s.heap.push PySem.W.emptyDict).get? s.heap.objs.size = some PySem.W.emptyDict := Heap.get?_push_size s.heap rfl
  have e2 : ((s.heap.push PySem.W.emptyDict).push (PySem.W.instObj C s.heap.objs.size)).get? (s.heap.objs.size + 1) = some (PySem.W.instObj C s.heap.objs.size) := by
    have := Heap.get?_push_size (s.heap.push PySem.W.emptyDict) (o := PySem.W.instObj C s.heap.objs.size) rfl
    rwa [Heap.size_push] at this
  have e3 : (s.heap.push PySem.W.emptyDict).Ns s.heap.objs.size (fun _ => none) := ⟨PySem.W.emptyDict, #[], _, e1, rfl, (fun e he => absurd he (by simp)), fun _ => rfl⟩
  have I1 := I.laid (a := s.heap.objs.size) (o := .own (s.heap.objs.size + 1)) (h' := s.heap.push PySem.W.emptyDict) (t' := s.toks) (fun b u q => Heap.get?_push_of_some _ q) (Nat.le_refl _) ⟨_, e1⟩
  refine I1.laid (a := s.heap.objs.size + 1) (o := .ins C s.heap.objs.size []) (t' := s.toks) (fun b u q => Heap.get?_push_of_some _ q) (Nat.le_of_eq (Heap.size_push _ _)) ?_
  have ne : s.heap.objs.size ≠ s.heap.objs.size + 1 := Nat.ne_of_lt (Nat.lt_succ_self _)
  refine ⟨by rw [upd_ne ne, upd_same], Nat.zero_le _, ne, e2, fun _ => none, (Heap.Ns1.of_empty e3).at fun o q => Heap.get?_push_of_some _ q, fun _ => True.intro, fun y hy => absurd rfl hy⟩

/-- e.f where nothing but the object is asked: through attributeBase (super) and the last hold -/
theorem attr_of {prog : Program} {w : World} {env : Env} {e : Expr} {f : Str} {pos : Pos} {s : Shared} {Q : Value → Shared → Prop} (hb : attributeBase e f env (eval e env) = eval e env)
    (h : wpAny (model prog w) A (eval e env) (fun o s₁ => wpAny (model prog w) A (getAttr o f true) Q E s₁) E s) : wpAny (model prog w) A (eval (.Attribute e f pos) env) Q E s :=
  Attribute_any_ h (by rw [arm_eval_Attribute, hb])
end

/-! ### readings and rules -/
/-- e.f, an attribute of the instance -/
def tFld (K : PySem.W.Frag) (ta : TE) (f : Str) : TE := fun σ H Q => ta σ H fun x H1 => ∃ a C dx fs v, x = .ref a ∧ H1 a = some (.ins C dx fs) ∧ Cls K C ∧ NoAttr K C f ∧ fs.lookup f = some v ∧ Q v H1
/-- e.f, a constant of the class -/
def tCon (K : PySem.W.Frag) (ta : TE) (f : Str) : TE := fun σ H Q => ta σ H fun x H1 => ∃ a C dx fs v u, x = .ref a ∧ H1 a = some (.ins C dx fs) ∧ Cls K C ∧ Con K C f v u ∧ fs.lookup f = none ∧ Q v H1
/-- e.f = value -/
def sFld (K : PySem.W.Frag) (ta tv : TE) (f : Str) : TS := fun D σ H => tv σ H fun y H1 => ta σ H1 fun x H2 => ∃ a C dx fs, x = .ref a ∧ H2 a = some (.ins C dx fs) ∧ Cls K C ∧ NoAttr K C f ∧ fs.length < 1000 ∧
  D.nx σ (upd H2 a (.ins C dx (putF f y fs)))
/-- an augmented operator on two values -/
def InOp (X : Cx) (op : Operator) (rd : V → V → Hp → VK → Prop) : Prop :=
  ∀ (pins : List (Addr × Obj)) (s : Shared) (σ : St) (H : Hp) (x y : V) (u v : Value) (Q : VK), Inv X pins σ H s → RelV x u → RelV y v → rd x y H Q → wpAny (model X.prog X.w) X.A (inplaceOp op u v) (EP X pins σ Q) X.xe s
/-- e.f op= value -/
def sFldAug (K : PySem.W.Frag) (ta tv : TE) (rd : V → V → Hp → VK → Prop) (f : Str) : TS := fun D σ H => ta σ H fun x H1 => ∃ a C dx fs v, x = .ref a ∧ H1 a = some (.ins C dx fs) ∧ Cls K C ∧ NoAttr K C f ∧ fs.lookup f = some v ∧
  tv σ H1 fun y H2 => rd v y H2 fun z H3 => ∃ dx' fs', H3 a = some (.ins C dx' fs') ∧ fs'.length < 1000 ∧ D.nx σ (upd H3 a (.ins C dx' (putF f z fs')))

section
variable {X : Cx} {o e value : Expr} {f : Str} {pos pos' tpos : Pos} {ta tv : TE}
theorem pe_fld (he : PE X e ta) (hb : attributeBase e f X.env (eval e X.env) = eval e X.env) : PE X (.Attribute e f pos) (tFld X.K ta f) := by
  intro pins s σ H Q I h
  refine attr_of hb (thn (he pins s σ H _ I h) fun u s1 ⟨x, H1, I1, rx, a, C, dx, fs, v, ex, ea, c, n, l, q⟩ => ?_)
  subst ex
  obtain rfl : u = Value.ref a := rx
  exact getattr_ok I1 ea c n l fun u' s2 I2 ru => ⟨v, H1, I2, ru, q⟩
theorem pe_con (he : PE X e ta) (hb : attributeBase e f X.env (eval e X.env) = eval e X.env) : PE X (.Attribute e f pos) (tCon X.K ta f) := by
  intro pins s σ H Q I h
  refine attr_of hb (thn (he pins s σ H _ I h) fun u s1 ⟨x, H1, I1, rx, a, C, dx, fs, v, u0, ex, ea, c, k, l, q⟩ => ?_)
  subst ex
  obtain rfl : u = Value.ref a := rx
  exact getcon_ok I1 ea c k l fun s2 I2 => ⟨v, H1, I2, k.rel, q⟩
theorem ps_fld (ha : PE X o ta) (hv : PE X value tv) (hs : swapsWith value (some (.Attribute o f pos')) pos.line X.env = pure false) : PS X (.Assign [.Attribute o f pos'] value pos) (sFld X.K ta tv f) := by
  intro pins s σ H D I h
  refine plainObj_wpAny_Assign_Attribute (thn (hv pins s σ H _ I h) fun u s1 ⟨y, H1, I1, ry, q⟩ => thn (ha pins s1 σ H1 _ I1 q) fun ov s2 ⟨x, H2, I2, rx, a, C, dx, fs, ex, ea, c, n, l, q2⟩ => ?_) hs
  subst ex
  obtain rfl : ov = Value.ref a := rx
  exact setattr_ok I2 ea c n l ry fun s3 I3 => ⟨σ, _, I3, q2⟩
theorem ps_fldaug {op : Operator} {rd : V → V → Hp → VK → Prop} (ha : PE X o ta) (hv : PE X value tv) (hop : InOp X op rd) : PS X (.AugAssign (.Attribute o f tpos) op value pos) (sFldAug X.K ta tv rd f) := by
  intro pins s σ H D I h
  refine wpAny_AugAssign_AttributeAny (thn (ha pins s σ H _ I h) fun ov s1 ⟨x, H1, I1, rx, a, C, dx, fs, v, ex, ea, c, n, l, q⟩ => ?_)
  subst ex
  obtain rfl : ov = Value.ref a := rx
  refine getattr_ok I1 ea c n l fun u s2 I2 ru => thn (hv pins s2 σ H1 _ I2 q) fun w3 s3 ⟨y, H2, I3, ry, q3⟩ => thn (hop pins s3 σ H2 v y u w3 _ I3 ru ry q3) fun w4 s4 ⟨z, H3, I4, rz, dx', fs', ea', l', q4⟩ => ?_
  exact setattr_ok I4 ea' c n l' rz fun s5 I5 => ⟨σ, _, I5, q4⟩
def rAdd : V → V → Hp → VK → Prop := fun x y H Q => ∃ i j, x = .int i ∧ y = .int j ∧ Q (.int (i + j)) H
def rSub : V → V → Hp → VK → Prop := fun x y H Q => ∃ i j, x = .int i ∧ y = .int j ∧ Q (.int (i - j)) H
theorem in_add : InOp X .Add rAdd := by
  rintro pins s σ H x y u v Q I rx ry ⟨i, j, rfl, rfl, q⟩
  obtain ⟨t, rfl⟩ := (show ∃ t, u = Value.int i t from rx)
  obtain ⟨t', rfl⟩ := (show ∃ t', v = Value.int j t' from ry)
  exact PyProof.Rows.iadd_int ⟨.int (i + j), H, I.tok _, ⟨_, rfl⟩, q⟩
theorem in_sub : InOp X .Sub rSub := by
  rintro pins s σ H x y u v Q I rx ry ⟨i, j, rfl, rfl, q⟩
  obtain ⟨t, rfl⟩ := (show ∃ t, u = Value.int i t from rx)
  obtain ⟨t', rfl⟩ := (show ∃ t', v = Value.int j t' from ry)
  exact PyProof.Rows.isub_int ⟨.int (i - j), H, I.tok _, ⟨_, rfl⟩, q⟩

/-- what is between an instance and its method: the tree of a method call -/
theorem methcall_of {pl : Sem Bool} {m : Str} {apos : Pos} {args : List Expr} {pins : List (Addr × Obj)} {s : Shared} {σ : St} {H : Hp} {Q : Value → Shared → Prop} {te : TE} (he : PE X e te) (I : Inv X pins σ H s)
    (h : te σ H fun x H1 => ∃ a C dx fs g, x = .ref a ∧ H1 a = some (.ins C dx fs) ∧ Cls X.K C ∧ Meth X.K C m g ∧ fs.lookup m = none ∧
      ∀ s1, Inv X pins σ H1 s1 → wpAny (model X.prog X.w) X.A (callWith pos (.ref g) [.ref a] (backTo pos (starEach args X.env)) (backToKw pos (keywordEach [] X.env))) Q X.xe s1)
    (ht : eval (.Call (.Attribute e m apos) args [] pos) X.env = (do
      let ov ← eval e X.env
      standAt apos.atName
      let (f, first) ← holding [ov] (getMethod ov m pl)
      callWith pos f first (backTo pos (starEach args X.env)) (backToKw pos (keywordEach [] X.env)))) :
    wpAny (model X.prog X.w) X.A (eval (.Call (.Attribute e m apos) args [] pos) X.env) Q X.xe s := by
  refine PySem.W.methodCall_KW (pl := pl) (thn (he pins s σ H _ I h) fun u s1 ⟨x, H1, I1, rx, a, C, dx, fs, g, ex, ea, c, k, l, q⟩ => ?_) ht
  subst ex
  obtain rfl : u = Value.ref a := rx
  exact getmeth_ok I1 ea c k l (q s1 I1)
end

/-! ### isinstance -/
section
variable {X : Cx} {pins : List (Addr × Obj)} {σ : St} {H : Hp} {s : Shared} {A : Around} {E : Value → Shared → Prop} {Q : Value → Shared → Prop} {c : Value} {b : Bool}
/-- the type of a value, as the fragment's deciders take it; for an instance its class -/
inductive TyOf (K : PySem.W.Frag) (H : Hp) : V → Value → Prop where
  | non : TyOf K H .non (.type "NoneType")
  | bl (x : Bool) : TyOf K H (.bl x) (.type "bool")
  | int (i : Int) : TyOf K H (.int i) (.type "int")
  | str (x : Str) : TyOf K H (.str x) (.type "str")
  | flt (x : UInt64) : TyOf K H (.flt x) (.type "float")
  | lst {a : Addr} {xs : List V} (e : H a = some (.lst xs)) : TyOf K H (.ref a) (.type "list")
  | frz {a : Addr} {o : Obj} {xs : List V} (e : H a = some (.frz o (.lst xs))) : TyOf K H (.ref a) (.type "list")
  | tup {a : Addr} {xs : List V} (e : H a = some (.tup xs)) : TyOf K H (.ref a) (.type "tuple")
  | dK {a : Addr} {kvs : List (Key × V)} (e : H a = some (.dK kvs)) : TyOf K H (.ref a) (.type "dict")
  | dT {a : Addr} {kvs : List (List Key × V)} (e : H a = some (.dT kvs)) : TyOf K H (.ref a) (.type "dict")
  | ins {a C dx : Addr} {fs : List (Str × V)} (e : H a = some (.ins C dx fs)) (cl : Cls K C) (ha : PySem.W.findIn K (.ref C) "__class__" = some (some (.builtin "object.__class__")))
      (hn : PySem.W.specialIn K (.builtin "object.__class__") "__get__" = some (some (.builtin "getset_descriptor.__get__"))) (htk : PySem.W.takesIn K (.builtin "object.__class__") = some true)
      (hm : PySem.W.mroIn K C (.type "object") = some true) : TyOf K H (.ref a) (.ref C)
/-- isinstance(x, c) for one class c, a built-in or an own one: kitOne's answer -/
theorem isinst_ok {x : V} {u t : Value} (I : Inv X pins σ H s) (rx : RelV x u) (ty : TyOf X.K H x t) (e : PySem.W.kitOne X.K t c = some b) (h : ∀ tk, Q (.bool b) { s with toks := tk }) :
    wpAny (model X.prog X.w) A (call (.builtin "isinstance") [u, c]) Q E s := by
  cases ty with
  | non => cases (show u = Value.none from rx); exact PySem.W.kia_one PySem.W.kitx_none I.kIn True.intro e (fun z => nomatch z) h
  | bl y => cases (show u = Value.bool y from rx); exact PySem.W.kia_one PySem.W.kitx_bool I.kIn True.intro e (fun z => nomatch z) h
  | int i => obtain ⟨t, q⟩ := (show ∃ t, u = Value.int i t from rx); cases q; exact PySem.W.kia_one PySem.W.kitx_int I.kIn True.intro e (fun z => nomatch z) h
  | str y => obtain ⟨t, q⟩ := (show ∃ t, u = Value.str y t from rx); cases q; exact PySem.W.kia_one PySem.W.kitx_str I.kIn True.intro e (fun z => nomatch z) h
  | flt y => obtain ⟨t, q⟩ := (show ∃ t, u = Value.float y t from rx); cases q; exact PySem.W.kia_one PySem.W.kitx_float I.kIn True.intro e (fun z => nomatch z) h
  | @lst a xs ea =>
    cases (show u = Value.ref a from rx)
    obtain ⟨_, _, n, _, h1⟩ := (show ObjOk X.prog X.w H s.heap a (.lst xs) from I.hok a _ ea)
    exact PySem.W.kia_one PySem.W.kitx_list I.kIn ⟨_, h1, rfl⟩ e (fun z => nomatch z) h
  | @frz a ob xs ea =>
    cases (show u = Value.ref a from rx)
    obtain ⟨_, _, _, n, _, h1⟩ := (show ObjOk X.prog X.w H s.heap a (.frz ob (.lst xs)) from I.hok a _ ea)
    exact PySem.W.kia_one PySem.W.kitx_list I.kIn ⟨_, h1, rfl⟩ e (fun z => nomatch z) h
  | @tup a xs ea =>
    cases (show u = Value.ref a from rx)
    obtain ⟨_, _, _, p⟩ := (show ObjOk X.prog X.w H s.heap a (.tup xs) from I.hok a _ ea)
    obtain ⟨o, h1, h2, _⟩ := p
    exact PySem.W.kia_one PySem.W.kitx_tuple I.kIn ⟨o, h1, h2⟩ e (fun z => nomatch z) h
  | @dK a kvs ea =>
    cases (show u = Value.ref a from rx)
    obtain ⟨_, _, vs, _, p⟩ := (show ObjOk X.prog X.w H s.heap a (.dK kvs) from I.hok a _ ea)
    obtain ⟨o, es, ep, h1, h2, _⟩ := p
    exact PySem.W.kia_one PySem.W.kitx_dict I.kIn ⟨o, h1, h2.1⟩ e (fun z => nomatch z) h
  | @dT a kvs ea =>
    cases (show u = Value.ref a from rx)
    obtain ⟨_, _, xs, _, o, es, ep, h1, h2, _⟩ := (show ObjOk X.prog X.w H s.heap a (.dT kvs) from I.hok a _ ea)
    exact PySem.W.kia_one PySem.W.kitx_dict I.kIn ⟨o, h1, h2.1⟩ e (fun z => nomatch z) h
  | @ins a C dx fs ea cl ha hn htk hm =>
    cases (show u = Value.ref a from rx)
    obtain ⟨mA, O, _⟩ := ins_get I.hok ea
    obtain ⟨od, J, _⟩ := O.look
    exact PySem.W.kia_one (PySem.W.kitx_own (cl.get _) cl.hd ha hn htk hm) I.kIn J e (fun z => nomatch z) h
end
end L2

namespace L2
open PySem PySem.Spec PyProof.Rows

/-! ### room -/
structure Room (k : Nat) (A : Around) : Prop where
  hd : A.handled = none
  dp : A.depth + 3 * k + 5 < recursionLimit
  un : A.units + 16 * k + 200 < cLine
theorem Room.mono {j k : Nat} {A : Around} (r : Room k A) (h : j ≤ k) : Room j A := ⟨r.hd, by have := r.dp; omega, by have := r.un; omega⟩
theorem Room.deeper {k : Nat} {A : Around} (r : Room (k + 1) A) (env : Env) : Room k (A.deeper env) :=
  ⟨r.hd, by have := r.dp; show A.depth + 1 + 3 * k + 5 < _; omega, by have := r.un; show A.units + 3 + 16 * k + 200 < _; omega⟩
theorem Room.in1 {k : Nat} {A : Around} (r : Room (k + 1) A) : Room k A.in1 :=
  ⟨r.hd, by have := r.dp; show A.depth + 3 * k + 5 < _; omega, by have := r.un; show A.units + 1 + 16 * k + 200 < _; omega⟩
theorem make_depth {A : Around} {C : Addr} {us : List Value} {kw : List (Str × Value)} : (A.under (.builtin "type.__call__" ⟨.ref C :: us, kw⟩)).depth = A.depth + 1 := by
  first | rfl | simp [Around.under, Code.weight, Code.isCreation, Code.isGuard, Code.isCaller, Code.frames, Code.isFrame, guardIds]
theorem make_units {A : Around} {C : Addr} {us : List Value} {kw : List (Str × Value)} : (A.under (.builtin "type.__call__" ⟨.ref C :: us, kw⟩)).units = A.units + 1 := by
  first | rfl | simp [Around.under, Code.cUnits, Code.frames, Code.isFrame]
theorem Room.make {k : Nat} {A : Around} (r : Room (k + 1) A) (C : Addr) (us : List Value) (kw : List (Str × Value)) : Room k (A.under (.builtin "type.__call__" ⟨.ref C :: us, kw⟩)) :=
  ⟨r.hd, by have := r.dp; rw [make_depth]; omega, by have := r.un; rw [make_units]; omega⟩
theorem Room.depth {k : Nat} {A : Around} (r : Room k A) : A.depth < recursionLimit := by have := r.dp; omega
theorem Room.units {k : Nat} {A : Around} (r : Room k A) : A.units + 64 < cLine := by have := r.un; omega
theorem Room.units0 {k : Nat} {A : Around} (r : Room k A) : A.units < cLine := by have := r.un; omega

/-! ### argument lists and displays -/
def tNil : TA := fun _ H Q => Q [] H
def tCons (ta : TE) (tr : TA) : TA := fun σ H Q => ta σ H fun x H1 => tr σ H1 fun xs H2 => Q (x :: xs) H2
section
variable {X : Cx} {e : Expr} {es : List Expr} {te : TE} {t : TA} {pos : Pos}
theorem pa_nil : PA X [] tNil := fun _ _ _ _ H Q I h => Calls.spliced_nil ⟨[], H, I, .nil, h⟩
theorem pa_cons (ha : PE X e te) (hr : PA X es t) (hs : starEach (e :: es) X.env = (false, eval e X.env) :: starEach es X.env := by rfl) : PA X (e :: es) (tCons te t) := by
  intro pos pins s σ H Q I h
  rw [hs]
  show wpAny _ _ (spliced ((false, eval e X.env) :: backTo pos (starEach es X.env))) _ _ s
  refine Calls.spliced_cons (thn (ha pins s σ H _ I h) fun u s1 ⟨x, H1, I1, r1, q1⟩ => ?_)
  exact thn (hr pos pins s1 σ H1 _ I1 q1) fun us s2 ⟨xs, H2, I2, r2, q2⟩ => ⟨x :: xs, H2, I2, .cons r1 r2, q2⟩

/-- a tuple, a list of written items -/
def tTup (t : TA) : TE := fun σ H Q => t σ H fun xs H1 => xs.length ≤ sizeLine ∧ ∀ p, H1 p = none → Q (.ref p) (upd H1 p (.tup xs))
def tLst (t : TA) : TE := fun σ H Q => t σ H fun xs H1 => xs.length ≤ sizeLine ∧ ∀ p, H1 p = none → Q (.ref p) (upd H1 p (.lst xs))
theorem pe_tup {x1} (h : PA X es t) : PE X (.Tuple es x1 pos) (tTup t) := by
  intro pins s σ H Q I hq
  refine wpAny_Tuple_spliced (thn (h pos pins s σ H _ I hq) fun us s1 ⟨xs, H1, I1, r, z, q⟩ => ⟨by rw [← r.length]; exact z, ?_⟩)
  have hf : H1 s1.heap.objs.size = none := I1.hok.fresh (Nat.le_refl _)
  refine ⟨.ref s1.heap.objs.size, upd H1 s1.heap.objs.size (.tup xs), I1.laid (t' := s1.toks) (fun b u e => Heap.get?_push_of_some _ e) (Nat.le_refl _) ?_, rfl, q _ hf⟩
  exact ⟨z, us, r, ⟨_, Heap.get?_push_size _ rfl, rfl, _, rfl⟩⟩
theorem pe_lst (h : PA X es t) : PE X (.List es pos) (tLst t) := by
  intro pins s σ H Q I hq
  refine wpAny_List_spliced (thn (h pos pins s σ H _ I hq) fun us s1 ⟨xs, H1, I1, r, z, q⟩ => ⟨by rw [← r.length]; exact z, ?_⟩)
  have hf : H1 s1.heap.objs.size = none := I1.hok.fresh (Nat.le_refl _)
  refine ⟨.ref s1.heap.objs.size, upd H1 s1.heap.objs.size (.lst xs), I1.laid (t' := s1.toks) (fun b u e => Heap.get?_push_of_some _ e) (Nat.le_refl _) ?_, rfl, q _ hf⟩
  exact ⟨z, us, 0, r, Heap.get?_push_size _ rfl⟩
end

/-! ### what a def promises -/
/-- a def's promise: the bound arguments in the parameters' order, the heap, the wanted end, the wanted exception -/
abbrev Sp := List V → Hp → VK → XK → Prop
/-- how an exception lies behind a call (file 08 gives it): the callers' frames, abstract heap and state ahead of the call, the wish, the exception, the state -/
abbrev CXT := List Env → Hp → Shared → XK → Value → Shared → Prop

/-- the state at a call -/
structure Env0 (P : Program) (w : World) (K : PySem.W.Frag) (mg : Str → Option Value) (base : Heap) (A : Around) (outer : List Env) (s : Shared) (H : Hp) : Prop where
  frames : A.frames = some outer
  mod : Mod K mg base
  bs : ∀ b o, base.get? b = some o → s.heap.get? b = some o ∧ H b = none
  bsz : base.objs.size ≤ s.heap.objs.size
  funs : s.heap.FunFrames base outer
  frf : ∀ b ∈ frs outer, H b = none
  hok : HOk P w H s.heap
  bare : AllBare s.gens
/-- a call's end -/
def CE (outer : List Env) (P : Program) (w : World) (H : Hp) (s : Shared) (Q : VK) (u : Value) (s' : Shared) : Prop :=
  ∃ v H', s'.os = s.os ∧ AllBare s'.gens ∧ Un (frs outer) [] H H' s.heap s'.heap ∧ HOk P w H' s'.heap ∧ RelV v u ∧ Q v H'
def CR (CX : CXT) (outer : List Env) (P : Program) (w : World) (H : Hp) (s : Shared) (Q : VK) (E : XK) (r : Result) (s' : Shared) : Prop :=
  match r with
  | .ok (.ret u) => CE outer P w H s Q u s'
  | .ok _ => False
  | .error e => CX outer H s E e s'
structure FnOk (P : Program) (w : World) (K : PySem.W.Frag) (mg : Str → Option Value) (base : Heap) (CX : CXT) (k : Nat) (f : Addr) (fd : FuncData) (ps : List Str) (sp : Sp) : Prop where
  len : ∀ vs H Q E, sp vs H Q E → vs.length = ps.length
  run : ∀ (A : Around) (outer : List Env) (s : Shared) (H : Hp) (args : Args) (us : List Value) (vs : List V) (Q : VK) (E : XK), Room k A → Env0 P w K mg base A outer s H → BindsTo s fd args (ps.zip us) → Vals vs us → sp vs H Q E →
    codeAny (model P w) A (.call (.ref f) args) (CR CX outer P w H s Q E) s
theorem FnOk.mono {P : Program} {w : World} {K : PySem.W.Frag} {mg : Str → Option Value} {base : Heap} {CX : CXT} {j k : Nat} {f : Addr} {fd : FuncData} {ps : List Str} {sp : Sp} (F : FnOk P w K mg base CX j f fd ps sp) (h : j ≤ k) :
    FnOk P w K mg base CX k f fd ps sp := ⟨F.len, fun A outer s H args us vs Q E hr => F.run A outer s H args us vs Q E (hr.mono h)⟩
/-- a weaker promise -/
theorem FnOk.imp {P : Program} {w : World} {K : PySem.W.Frag} {mg : Str → Option Value} {base : Heap} {CX : CXT} {k : Nat} {f : Addr} {fd : FuncData} {ps : List Str} {sp sp' : Sp} (F : FnOk P w K mg base CX k f fd ps sp)
    (h : ∀ vs H Q E, sp' vs H Q E → sp vs H Q E) : FnOk P w K mg base CX k f fd ps sp' :=
  ⟨fun vs H Q E q => F.len vs H Q E (h _ _ _ _ q), fun A outer s H args us vs Q E hr he hb hv hs => F.run A outer s H args us vs Q E hr he hb hv (h _ _ _ _ hs)⟩

theorem Env0.make {P : Program} {w : World} {K : PySem.W.Frag} {mg : Str → Option Value} {base : Heap} {A : Around} {outer : List Env} {s : Shared} {H : Hp} (e : Env0 P w K mg base A outer s H) (C : Addr) (us : List Value) (kw : List (Str × Value)) :
    Env0 P w K mg base (A.under (.builtin "type.__call__" ⟨.ref C :: us, kw⟩)) outer s H := ⟨by first | exact e.frames | (simpa [Around.under, Code.envs, Code.isFrame, pushEnvs] using e.frames), e.mod, e.bs, e.bsz, e.funs, e.frf, e.hok, e.bare⟩
theorem Env0.in1 {P : Program} {w : World} {K : PySem.W.Frag} {mg : Str → Option Value} {base : Heap} {A : Around} {outer : List Env} {s : Shared} {H : Hp} (e : Env0 P w K mg base A outer s H) :
    Env0 P w K mg base A.in1 outer s H := ⟨e.frames, e.mod, e.bs, e.bsz, e.funs, e.frf, e.hok, e.bare⟩

section
variable {X : Cx} {pins : List (Addr × Obj)} {σ : St} {H : Hp} {s s' : Shared}
/-- from a body: what a callee wants -/
theorem Inv.env0 (I : Inv X pins σ H s) : Env0 X.prog X.w X.K X.mg X.base X.A X.stack s H :=
  ⟨I.ok.frames, I.ok.mod, I.bs, Nat.le_trans I.ok.bsz I.sz, I.stack, I.stkFree, I.hok, I.bare⟩
/-- behind a call -/
theorem Inv.after {Q : VK} {u : Value} (I : Inv X pins σ H s) (h : CE X.stack X.prog X.w H s Q u s') : EP X pins σ Q u s' := by
  obtain ⟨v, H', os, bare, un, hok, r, q⟩ := h
  obtain ⟨hh, g, d, t, os'⟩ := s'
  obtain rfl : os' = s.os := os
  exact ⟨v, H', I.call (h' := hh) (g' := g) (d' := d) (t' := t) (ch := []) un hok bare (fun b z => absurd z (by simp)), r, q⟩
end

/-! ### calls -/
/-- f(..): the written arguments, then the defaults dvs; E: what is wanted of an exception -/
def tCall (sp : Sp) (dvs : List V) (E : XK) (t : TA) : TE := fun σ H Q => t σ H fun vs H1 => sp (vs ++ dvs) H1 Q E
/-- o.m(..) of an instance of the class at C -/
def tMeth (C : Addr) (m : Str) (sp : Sp) (dvs : List V) (E : XK) (ta : TE) (t : TA) : TE := fun σ H Q => ta σ H fun x H1 => ∃ a dx fs, x = .ref a ∧ H1 a = some (.ins C dx fs) ∧ fs.lookup m = none ∧
  t σ H1 fun vs H2 => sp (x :: (vs ++ dvs)) H2 Q E
/-- C(..): a new instance and its dict, then __init__ -/
def tMake (C : Addr) (sp : Sp) (dvs : List V) (E : XK) (t : TA) : TE := fun σ H Q => t σ H fun vs H1 => ∀ x dx, H1 x = none → H1 dx = none → dx ≠ x →
  sp (.ref x :: (vs ++ dvs)) (upd (upd H1 dx (.own x)) x (.ins C dx [])) (fun v H2 => v = .non ∧ Q (.ref x) H2) E

/-- how the parameters are bound: us the positional arguments, kw the keywords' values by name, ds the defaults that fill up -/
def Binds (K : PySem.W.Frag) (fd : FuncData) (ps : List Str) (ds : List Value) : Prop :=
  ∀ (s : Shared) (us : List Value), K.In s.heap → (us ++ ds).length = ps.length → BindsTo s fd ⟨us, []⟩ (ps.zip (us ++ ds))
/-- every parameter is given -/
theorem Binds.all {K : PySem.W.Frag} {fd : FuncData} {ps : List Str} (h : ∀ us : List Value, us.length = ps.length → bindArgs fd ⟨us, []⟩ = pure (ps.zip us)) : Binds K fd ps [] := fun s us _ hl => by
  rw [List.append_nil] at hl ⊢
  exact .of_eq (h us hl)

/-- an exception of a callee reaches what this body wants of exceptions -/
def Passes (CX : CXT) (X : Cx) (E : XK) : Prop := ∀ (pins : List (Addr × Obj)) (σ : St) (H : Hp) (s : Shared) (e : Value) (s' : Shared), Inv X pins σ H s → CX X.stack H s E e s' → X.xe e s'

section
variable {X : Cx} {CX : CXT} {k : Nat} {f C : Addr} {fd : FuncData} {ps : List Str} {sp : Sp} {dvs : List V} {ds : List Value} {E : XK} {x m : Str} {p pos apos : Pos} {e o : Expr} {es : List Expr} {ta : TE} {t : TA}

/-- the callee runs -/
theorem run_fn {pins : List (Addr × Obj)} {σ : St} {H : Hp} {s : Shared} {Q : VK} {us : List Value} {vs : List V} (F : FnOk X.prog X.w X.K X.mg X.base CX k f fd ps sp) (hr : Room k X.A) (hb : Binds X.K fd ps ds) (hd : Vals dvs ds) (hx : Passes CX X E)
    (I : Inv X pins σ H s) (r : Vals vs us) (h : sp (vs ++ dvs) H Q E) : wpAny (model X.prog X.w) X.A (call (.ref f) us) (EP X pins σ Q) X.xe s := by
  have r2 : Vals (vs ++ dvs) (us ++ ds) := r.append hd
  have hl : (us ++ ds).length = ps.length := by rw [← r2.length]; exact F.len _ _ _ _ h
  refine wpAny_call (codeAny_mono (F.run X.A X.stack s H ⟨us, []⟩ (us ++ ds) (vs ++ dvs) Q E hr I.env0 (hb s us I.kIn hl) r2 h) fun r s' hq => ?_)
  cases r with
  | error e => exact hx pins σ H s e s' I hq
  | ok fl =>
    cases fl with
    | ret u => exact I.after hq
    | next => exact False.elim hq
    | brk => exact False.elim hq
    | cont => exact False.elim hq

theorem pe_call (F : FnOk X.prog X.w X.K X.mg X.base CX k f fd ps sp) (hr : Room k X.A) (hg : Gl X x) (hm : X.mg x = some (.ref f)) (hk : PySem.W.keepIn X.K (.ref f) = true) (hb : Binds X.K fd ps ds) (hd : Vals dvs ds) (hx : Passes CX X E)
    (ha : PA X (e :: es) t) (hdb : (x == ("__debug__" : Str)) = false := by decide) (he : starEach (e :: es) X.env = (false, eval e X.env) :: starEach es X.env := by rfl) (hpl : (backTo pos (starEach es X.env)).any (·.1) = false := by rfl) :
    PE X (.Call (.Name x p) (e :: es) [] pos) (tCall sp dvs E t) := by
  intro pins s σ H Q I h
  refine wpAny_Call_Name_kw (ld_glob I hg hm ?_ hdb)
  refine PySem.W.callWith_K (h₀ := X.base) I.ok.mod.kin hk (thn (ha pos pins s σ H _ I h) fun us s1 ⟨vs, H1, I1, r, q⟩ => ⟨I1.kIn, ?_⟩) he hpl
  exact run_fn F hr hb hd hx I1 r q
theorem pe_call0 (F : FnOk X.prog X.w X.K X.mg X.base CX k f fd ps sp) (hr : Room k X.A) (hg : Gl X x) (hm : X.mg x = some (.ref f)) (hk : PySem.W.keepIn X.K (.ref f) = true) (hb : Binds X.K fd ps ds) (hd : Vals dvs ds) (hx : Passes CX X E)
    (hdb : (x == ("__debug__" : Str)) = false := by decide) : PE X (.Call (.Name x p) [] [] pos) (tCall sp dvs E tNil) := by
  intro pins s σ H Q I h
  refine wpAny_Call_Name_kw (ld_glob I hg hm ?_ hdb)
  exact PySem.W.callWith_K0 I.kIn hk (run_fn (us := []) F hr hb hd hx I .nil h)

/-- o.m(e, ..) -/
theorem pe_meth {pl : Sem Bool} (he : PE X o ta) (c : Cls X.K C) (hm : Meth X.K C m f) (F : FnOk X.prog X.w X.K X.mg X.base CX k f fd ps sp) (hr : Room k X.A) (hb : Binds X.K fd ps ds) (hd : Vals dvs ds) (hx : Passes CX X E) (ha : PA X (e :: es) t)
    (hst : starEach (e :: es) X.env = (false, eval e X.env) :: starEach es X.env := by rfl) (hpl : (backTo pos (starEach es X.env)).any (·.1) = false := by rfl)
    (ht : eval (.Call (.Attribute o m apos) (e :: es) [] pos) X.env = (do
      let ov ← eval o X.env
      standAt apos.atName
      let (f, first) ← holding [ov] (getMethod ov m pl)
      callWith pos f first (backTo pos (starEach (e :: es) X.env)) (backToKw pos (keywordEach [] X.env))) := by rfl) :
    PE X (.Call (.Attribute o m apos) (e :: es) [] pos) (tMeth C m sp dvs E ta t) := by
  intro pins s σ H Q I h
  refine PySem.W.methodCall_KW (pl := pl) (thn (he pins s σ H _ I h) fun u s1 ⟨x, H1, I1, rx, a, dx, fs, ex, ea, l, q⟩ => ?_) ht
  subst ex
  obtain rfl : u = Value.ref a := rx
  refine getmeth_ok I1 ea c hm l ?_
  refine PySem.W.callWith_K (first := [.ref a]) (h₀ := X.base) I.ok.mod.kin hm.kp (thn (ha pos pins s1 σ H1 _ I1 q) fun us s2 ⟨vs, H2, I2, r, q2⟩ => ⟨I2.kIn, ?_⟩) hst hpl
  exact run_fn (us := .ref a :: us) (vs := .ref a :: vs) F hr hb hd hx I2 (.cons rfl r) q2
/-- o.m() -/
theorem pe_meth0 {pl : Sem Bool} (he : PE X o ta) (c : Cls X.K C) (hm : Meth X.K C m f) (F : FnOk X.prog X.w X.K X.mg X.base CX k f fd ps sp) (hr : Room k X.A) (hb : Binds X.K fd ps ds) (hd : Vals dvs ds) (hx : Passes CX X E)
    (ht : eval (.Call (.Attribute o m apos) [] [] pos) X.env = (do
      let ov ← eval o X.env
      standAt apos.atName
      let (f, first) ← holding [ov] (getMethod ov m pl)
      callWith pos f first (backTo pos (starEach [] X.env)) (backToKw pos (keywordEach [] X.env))) := by rfl) :
    PE X (.Call (.Attribute o m apos) [] [] pos) (tMeth C m sp dvs E ta tNil) := by
  intro pins s σ H Q I h
  refine PySem.W.methodCall_KW (pl := pl) (thn (he pins s σ H _ I h) fun u s1 ⟨x, H1, I1, rx, a, dx, fs, ex, ea, l, q⟩ => ?_) ht
  subst ex
  obtain rfl : u = Value.ref a := rx
  refine getmeth_ok I1 ea c hm l ?_
  exact PySem.W.callWith_K0 (first := [.ref a]) I1.kIn hm.kp (run_fn (us := [.ref a]) (vs := [.ref a]) F hr hb hd hx I1 (.cons rfl .nil) q)

/-- what a class must have to be made -/
structure Mk (K : PySem.W.Frag) (C f : Addr) : Prop where
  makes : PySem.W.makesIn K C = true
  init : PySem.W.findIn K (.ref C) "__init__" = some (some (.ref f))
  fn : PySem.W.isFn K (.ref f) = true
  kp : PySem.W.keepIn K (.ref C) = true

theorem run_make {pins : List (Addr × Obj)} {σ : St} {H : Hp} {s : Shared} {Q : VK} {us : List Value} {vs : List V} (M : Mk X.K C f) (F : FnOk X.prog X.w X.K X.mg X.base CX k f fd ps sp) (hr : Room (k + 1) X.A) (hb : Binds X.K fd ps ds) (hd : Vals dvs ds)
    (hx : Passes CX X E) (I : Inv X pins σ H s) (r : Vals vs us)
    (h : ∀ x dx, H x = none → H dx = none → dx ≠ x → sp (.ref x :: (vs ++ dvs)) (upd (upd H dx (.own x)) x (.ins C dx [])) (fun v H2 => v = .non ∧ Q (.ref x) H2) E) :
    wpAny (model X.prog X.w) X.A (call (.ref C) us) (EP X pins σ Q) X.xe s := by
  have hq := h (s.heap.objs.size + 1) s.heap.objs.size (I.hok.fresh (Nat.le_succ _)) (I.hok.fresh (Nat.le_refl _)) (Nat.ne_of_lt (Nat.lt_succ_self _))
  have I2 := Inv.made (C := C) I
  have r2 : Vals (V.ref (s.heap.objs.size + 1) :: (vs ++ dvs)) (Value.ref (s.heap.objs.size + 1) :: (us ++ ds)) := .cons rfl (r.append hd)
  have hl : (Value.ref (s.heap.objs.size + 1) :: us ++ ds).length = ps.length := by
    have e := r2.length
    rw [F.len _ _ _ _ hq] at e
    exact e.symm
  refine wpAny_call (make_map (f := f) I.kIn M.makes M.init (beq_iff_eq.mp M.fn) (codeAny_mono (F.run _ X.stack _ _ ⟨Value.ref (s.heap.objs.size + 1) :: us, []⟩ (Value.ref (s.heap.objs.size + 1) :: (us ++ ds)) _ _ E (hr.make C us [])
    (I2.env0.make C us []) (hb _ (Value.ref (s.heap.objs.size + 1) :: us) I2.kIn hl) r2 hq) fun r s' hq' => ?_))
  cases r with
  | error e => exact hx pins σ _ _ e s' I2 hq'
  | ok fl =>
    cases fl with
    | ret u =>
      obtain ⟨v, H', I3, rv, ev, q3⟩ := I2.after hq'
      subst ev
      exact ⟨rv, ⟨V.ref (s.heap.objs.size + 1), H', I3, rfl, q3⟩⟩
    | next => exact False.elim hq'
    | brk => exact False.elim hq'
    | cont => exact False.elim hq'
theorem pe_make (M : Mk X.K C f) (F : FnOk X.prog X.w X.K X.mg X.base CX k f fd ps sp) (hr : Room (k + 1) X.A) (hg : Gl X x) (hm : X.mg x = some (.ref C)) (hb : Binds X.K fd ps ds) (hd : Vals dvs ds) (hx : Passes CX X E)
    (ha : PA X (e :: es) t) (hdb : (x == ("__debug__" : Str)) = false := by decide) (he : starEach (e :: es) X.env = (false, eval e X.env) :: starEach es X.env := by rfl) (hpl : (backTo pos (starEach es X.env)).any (·.1) = false := by rfl) :
    PE X (.Call (.Name x p) (e :: es) [] pos) (tMake C sp dvs E t) := by
  intro pins s σ H Q I h
  refine wpAny_Call_Name_kw (ld_glob I hg hm ?_ hdb)
  refine PySem.W.callWith_K (h₀ := X.base) I.ok.mod.kin M.kp (thn (ha pos pins s σ H _ I h) fun us s1 ⟨vs, H1, I1, r, q⟩ => ⟨I1.kIn, ?_⟩) he hpl
  exact run_make M F hr hb hd hx I1 r q
theorem pe_make0 (M : Mk X.K C f) (F : FnOk X.prog X.w X.K X.mg X.base CX k f fd ps sp) (hr : Room (k + 1) X.A) (hg : Gl X x) (hm : X.mg x = some (.ref C)) (hb : Binds X.K fd ps ds) (hd : Vals dvs ds) (hx : Passes CX X E)
    (hdb : (x == ("__debug__" : Str)) = false := by decide) : PE X (.Call (.Name x p) [] [] pos) (tMake C sp dvs E tNil) := by
  intro pins s σ H Q I h
  refine wpAny_Call_Name_kw (ld_glob I hg hm ?_ hdb)
  exact PySem.W.callWith_K0 I.kIn M.kp (run_make (us := []) M F hr hb hd hx I .nil h)
end

/-! ### keywords -/
/-- the values of the keywords, from the left -/
def PK (X : Cx) (kws : List Keyword) (t : TA) : Prop :=
  ∀ (pos : Pos) (pins : List (Addr × Obj)) (s : Shared) (σ : St) (H : Hp) (Q : List V → Hp → Prop), Inv X pins σ H s → t σ H Q → wpAny (model X.prog X.w) X.A (evalAll ((backToKw pos (keywordEach kws X.env)).map (·.2))) (AP X pins σ Q) X.xe s
section
variable {X : Cx} {CX : CXT} {k : Nat} {f C : Addr} {fd : FuncData} {ps ks : List Str} {sp : Sp} {E : XK} {x m : Str} {p pos apos kpos : Pos} {e o : Expr} {es : List Expr} {kws : List Keyword} {te ta : TE} {t tk : TA} {nm : Option Str}
theorem pk_nil : PK X [] tNil := fun _ _ _ _ H Q I h => wpAny_evalAll_nil ⟨[], H, I, .nil, h⟩
theorem pk_cons (ha : PE X e te) (hr : PK X kws t) : PK X (⟨nm, e, kpos⟩ :: kws) (tCons te t) := by
  intro pos pins s σ H Q I h
  show wpAny _ _ (evalAll ((do let v ← eval e X.env; standAt pos; pure v) :: (backToKw pos (keywordEach kws X.env)).map (·.2))) _ _ s
  refine wpAny_evalAll_cons (wpAny_bind (thn (ha pins s σ H _ I h) fun u s1 ⟨x, H1, I1, r1, q1⟩ => wpAny_bind (wpAny_standAt (wpAny_pure ?_))))
  exact thn (hr pos pins s1 σ H1 _ I1 q1) fun us s2 ⟨xs, H2, I2, r2, q2⟩ => ⟨x :: xs, H2, I2, .cons r1 r2, q2⟩

/-- how a call with keywords binds: g puts the positional values us and the keywords' values ws (names ks) in the parameters' order, defaults among them -/
structure KBinds (K : PySem.W.Frag) (fd : FuncData) (ps ks : List Str) (g : List Value → List Value → List Value) (gV : List V → List V → List V) : Prop where
  to : ∀ (s : Shared) (us ws : List Value), K.In s.heap → (g us ws).length = ps.length → BindsTo s fd ⟨us, ks.zip ws⟩ (ps.zip (g us ws))
  rel : ∀ {vs : List V} {us : List Value} {zs : List V} {ws : List Value}, Vals vs us → Vals zs ws → Vals (gV vs zs) (g us ws)
def tCallK (sp : Sp) (gV : List V → List V → List V) (E : XK) (t tk : TA) : TE := fun σ H Q => t σ H fun vs H1 => tk σ H1 fun zs H2 => sp (gV vs zs) H2 Q E
variable {g : List Value → List Value → List Value} {gV : List V → List V → List V}
theorem run_fnk {pins : List (Addr × Obj)} {σ : St} {H : Hp} {s : Shared} {Q : VK} {us ws : List Value} {vs zs : List V} (F : FnOk X.prog X.w X.K X.mg X.base CX k f fd ps sp) (hr : Room k X.A) (hb : KBinds X.K fd ps ks g gV) (hx : Passes CX X E)
    (I : Inv X pins σ H s) (r : Vals vs us) (rz : Vals zs ws) (h : sp (gV vs zs) H Q E) : wpAny (model X.prog X.w) X.A (call (.ref f) us (ks.zip ws)) (EP X pins σ Q) X.xe s := by
  have r2 := hb.rel r rz
  have hl : (g us ws).length = ps.length := by rw [← r2.length]; exact F.len _ _ _ _ h
  refine wpAny_call (codeAny_mono (F.run X.A X.stack s H ⟨us, ks.zip ws⟩ (g us ws) (gV vs zs) Q E hr I.env0 (hb.to s us ws I.kIn hl) r2 h) fun r s' hq => ?_)
  cases r with
  | error e => exact hx pins σ H s e s' I hq
  | ok fl =>
    cases fl with
    | ret u => exact I.after hq
    | next => exact False.elim hq
    | brk => exact False.elim hq
    | cont => exact False.elim hq
/-- f(e, .., k = v, ..) -/
theorem pe_callK (F : FnOk X.prog X.w X.K X.mg X.base CX k f fd ps sp) (hr : Room k X.A) (hg : Gl X x) (hm : X.mg x = some (.ref f)) (hk : PySem.W.keepIn X.K (.ref f) = true) (hb : KBinds X.K fd ps ks g gV) (hx : Passes CX X E)
    (ha : PA X (e :: es) t) (hkw : PK X kws tk) (hall : (backToKw pos (keywordEach kws X.env)).all (·.1.isSome) = true := by rfl) (hks : (backToKw pos (keywordEach kws X.env)).filterMap (·.1) = ks := by rfl)
    (hdb : (x == ("__debug__" : Str)) = false := by decide) (he : starEach (e :: es) X.env = (false, eval e X.env) :: starEach es X.env := by rfl)
    (hpl : ((backTo pos (starEach (e :: es) X.env)).any (·.1) || (backToKw pos (keywordEach kws X.env)).any (·.1.isNone)) = false := by rfl) :
    PE X (.Call (.Name x p) (e :: es) kws pos) (tCallK sp gV E t tk) := by
  intro pins s σ H Q I h
  refine wpAny_Call_Name_kw (ld_glob I hg hm ?_ hdb)
  refine PySem.W.callWith_KW (h₀ := X.base) I.ok.mod.kin hk hall (thn (ha pos pins s σ H _ I h) fun us s1 ⟨vs, H1, I1, r, q⟩ => ?_) hpl he
  refine thn (hkw pos pins s1 σ H1 _ I1 q) fun ws s2 ⟨zs, H2, I2, rz, q2⟩ => ⟨I2.kIn, ?_⟩
  rw [hks]
  exact run_fnk F hr hb hx I2 r rz q2
end

/-! ### a def's body keeps its promise -/
/-- names: the parameters first -/
structure FnScope (N P : List Str) (sc : Scope) : Prop where
  kind : sc.kind = .function
  co : sc.isCoroutine = false
  gen : sc.isGenerator = false
  nd : N.Nodup
  pre : N.take P.length = P
  par : ∀ x ∈ P, sc.names.lookup x = some .local ∨ sc.names.lookup x = some .cell
  nofree : ∀ y ∈ sc.names, y.2 ≠ .free

theorem bindL_out {kindOf : Str → Option NameKind} {x : Str} : ∀ {binds : List (Str × Value)} {m : Str → Option Value}, (∀ v, (x, v) ∉ binds) → bindL kindOf binds m x = m x
  | [], _, _ => rfl
  | (n, v) :: r, m, h => by
    unfold bindL
    rw [bindL_out fun w hw => h w (List.mem_cons_of_mem _ hw)]
    split
    · have : x ≠ n := by rintro rfl; exact h v List.mem_cons_self
      simp [this]
    · rfl
theorem bindC_out {kindOf : Str → Option NameKind} {x : Str} : ∀ {binds : List (Str × Value)} {m : Str → Option Value}, (∀ v, (x, v) ∉ binds) → bindC kindOf binds m x = m x
  | [], _, _ => rfl
  | (n, v) :: r, m, h => by
    unfold bindC
    rw [bindC_out fun w hw => h w (List.mem_cons_of_mem _ hw)]
    split
    · rfl
    · have : x ≠ n := by rintro rfl; exact h v List.mem_cons_self
      simp [this]
theorem bindL_get {kindOf : Str → Option NameKind} {x : Str} {v : Value} : ∀ {P : List Str} {vs : List Value} {i : Nat} {m : Str → Option Value}, P.Nodup → P[i]? = some x → vs[i]? = some v → kindOf x = some .local →
    bindL kindOf (P.zip vs) m x = some v
  | [], _, _, _, _, h, _, _ => by simp at h
  | _ :: _, [], _, _, _, _, h, _ => by simp at h
  | p :: P, w :: vs, 0, m, nd, h1, h2, hk => by
    simp at h1 h2; subst h1; subst h2
    show bindL kindOf ((p, w) :: P.zip vs) m p = _
    unfold bindL
    rw [bindL_out fun v hv => (List.nodup_cons.mp nd).1 (List.of_mem_zip hv).1, if_pos hk]
    simp
  | p :: P, w :: vs, i + 1, m, nd, h1, h2, hk => by
    show bindL kindOf ((p, w) :: P.zip vs) m x = _
    unfold bindL
    exact bindL_get (i := i) (List.nodup_cons.mp nd).2 (by simpa using h1) (by simpa using h2) hk
theorem bindC_get {kindOf : Str → Option NameKind} {x : Str} {v : Value} : ∀ {P : List Str} {vs : List Value} {i : Nat} {m : Str → Option Value}, P.Nodup → P[i]? = some x → vs[i]? = some v → kindOf x ≠ some .local →
    bindC kindOf (P.zip vs) m x = some v
  | [], _, _, _, _, h, _, _ => by simp at h
  | _ :: _, [], _, _, _, _, h, _ => by simp at h
  | p :: P, w :: vs, 0, m, nd, h1, h2, hk => by
    simp at h1 h2; subst h1; subst h2
    show bindC kindOf ((p, w) :: P.zip vs) m p = _
    unfold bindC
    rw [bindC_out fun v hv => (List.nodup_cons.mp nd).1 (List.of_mem_zip hv).1, if_neg hk]
    simp
  | p :: P, w :: vs, i + 1, m, nd, h1, h2, hk => by
    show bindC kindOf ((p, w) :: P.zip vs) m x = _
    unfold bindC
    exact bindC_get (i := i) (List.nodup_cons.mp nd).2 (by simpa using h1) (by simpa using h2) hk

/-- the names' values at the entry -/
def start (N : List Str) (vs : List V) : St := vs.map some ++ List.replicate (N.length - vs.length) none

/-- the context of a def's body, at its entry; an exception leaves the frame, then lies as CX says -/
def cxOf (CX : CXT) (P : Program) (w : World) (K : PySem.W.Frag) (mg : Str → Option Value) (base : Heap) (N : List Str) (qual : Str) (scope : Scope) (f : Addr) (cd : Value) (A : Around) (outer : List Env) (s : Shared) (H : Hp) (E : XK) : Cx where
  prog := P
  w := w
  K := K
  mg := mg
  base := base
  A := A.deeper (envOfC qual scope s.heap.objs.size f cd)
  N := N
  s₀ := s
  H₀ := H
  env := envOfC qual scope s.heap.objs.size f cd
  outer := outer
  stack := envOfC qual scope s.heap.objs.size f cd :: outer
  ex := []
  calm := true
  fn := fun _ => true
  pn := []
  xe := fun e s' => wpAny (model P w) (A.deeper (envOfC qual scope s.heap.objs.size f cd)) (leaving (envOfC qual scope s.heap.objs.size f cd) e) (fun _ s'' => CX outer H s E e s'') (fun e' s'' => CX outer H s E e' s'') s'

theorem cell_has {sc : Scope} {n : Nat} {x : Str} (h : sc.names.lookup x = some .cell) : ∃ c, (cellsFrom n sc.names []).lookup x = some c := by
  have q := PySem.W.cellsFrom_some sc.names n [] (.inl h)
  exact Option.isSome_iff_exists.mp q

theorem inv_start {CX : CXT} {P : Program} {w : World} {K : PySem.W.Frag} {mg : Str → Option Value} {base : Heap} {N ps : List Str} {qual : Str} {scope : Scope} {f : Addr} {cd : Value} {A : Around} {outer : List Env} {s s1 : Shared} {H : Hp} {E : XK} {us : List Value} {vs : List V}
    (S : FnScope N ps scope) (hd : A.handled = none) (e0 : Env0 P w K mg base A outer s H) (hl : vs.length = ps.length) (r : Vals vs us)
    (x : InCallC s s.heap.objs.size (bindL (envOfC qual scope s.heap.objs.size f cd).kindOf (ps.zip us) fun _ => none) (cellsFrom (s.heap.objs.size + 1) scope.names []) (bindC (envOfC qual scope s.heap.objs.size f cd).kindOf (ps.zip us) fun _ => none) s1) :
    Inv (cxOf CX P w K mg base N qual scope f cd A outer s H E) [] (start N vs) H s1 := by
  have hpl : ps.length ≤ N.length := by have := congrArg List.length S.pre; rw [List.length_take] at this; omega
  obtain ⟨h1, tk, rfl, hk⟩ := x.done
  have noA : ∀ b : Addr, b ∉ (cxOf CX P w K mg base N qual scope f cd A outer s H E).ex := fun b z => absurd (show b ∈ ([] : List Addr) from z) (by simp)
  refine ⟨⟨e0.mod, S.kind, rfl, rfl, Nat.le_refl _, fun y z c h1 h2 => ?_, fun y hy => ?_, fun y c _ h => ?_, fun _ => hd, Around.frames_deeper e0.frames, .inr ⟨rfl, rfl⟩, fun b z => absurd z (noA b), e0.bs, e0.bsz, fun b _ _ => noA b, fun b z => absurd z (noA b), e0.funs, e0.frf⟩,
    rfl, e0.bare, Un.kept hk, ⟨_, x.toInCall.ns, fun i y v h1 h2 h3 => ?_⟩, fun y c h => ⟨_, x.cell y c h⟩, e0.hok.fresh (Nat.le_refl _), fun y c h => ?_, fun p hp => absurd (show p ∈ ([] : List (Addr × Obj)) from hp) (by simp), e0.hok.kept hk, ?_⟩
  · exact name_of_addr x.apart (PySem.mem_of_lookup h1) (PySem.mem_of_lookup h2)
  · have hy : scope.names.lookup y = some .cell ∨ scope.names.lookup y = some .free := hy
    rcases hy with hy | hy
    · exact cell_has hy
    · exact absurd rfl (S.nofree _ (PySem.mem_of_lookup hy))
  · exact Nat.le_of_lt (x.above y c (PySem.mem_of_lookup h))
  · have hi : i < vs.length := by
      unfold start at h2
      by_cases hi : i < vs.length
      · exact hi
      · rw [List.getElem?_append_right (by simpa using hi)] at h2
        rw [List.getElem?_replicate] at h2
        split at h2 <;> cases h2
    have ha : vs[i]? = some v := by
      unfold start at h2
      rw [List.getElem?_append_left (by simpa using hi), List.getElem?_map] at h2
      cases e : vs[i]? with
      | none => rw [e] at h2; cases h2
      | some a => rw [e] at h2; cases h2; rfl
    obtain ⟨u, hu, rv⟩ := r.get ha
    have hp : ps[i]? = some y := by
      rw [← S.pre, List.getElem?_take_of_lt (by omega)]; exact h1
    have ndP : ps.Nodup := by rw [← S.pre]; exact S.nd.sublist (List.take_sublist _ _)
    refine ⟨u, rv, ?_⟩
    rcases S.par y (List.mem_of_getElem? hp) with k | k
    · exact .inl ⟨k, bindL_get ndP hp hu k⟩
    · obtain ⟨c, e⟩ := cell_has (n := s.heap.objs.size + 1) k
      refine .inr ⟨.inl k, c, e, ?_⟩
      have q := x.cell y c e
      rw [bindC_get ndP hp hu (by show scope.names.lookup y ≠ _; rw [k]; decide)] at q
      exact q
  · exact e0.hok.fresh (Nat.le_of_lt (x.above y c (PySem.mem_of_lookup h)))
  · unfold start
    show _ = N.length
    rw [List.length_append, List.length_map, List.length_replicate]
    omega

/-- THE RULE: a def (or a method) of the text, by its body. The body's reading t is chosen for each entry; it is run at the parameters' values -/
theorem fn_of {CX : CXT} {P : Program} {w : World} {K : PySem.W.Frag} {mg : Str → Option Value} {base : Heap} {k : Nat} {f : Addr} {name qual : Str} {params : Arguments} {body : List Stmt} {scope : Scope} {dV kV doc pm cdv ct oc : Value} {an od : Option Addr}
    {osl : Array (Option Value)} {N ps : List Str} {sp : Sp} (lk : K.lookup f = some ⟨oc, od, .func (PySem.W.fnOf name qual params body scope dV kV doc pm an cdv ct), osl⟩) (hcd : PySem.W.codeIn K cdv qual = true) (S : FnScope N ps scope)
    (len : ∀ vs H Q E, sp vs H Q E → vs.length = ps.length)
    (hbody : ∀ (A : Around) (outer : List Env) (s : Shared) (H : Hp) (vs : List V) (Q : VK) (E : XK), Room k (A.deeper (envOfC qual scope s.heap.objs.size f cdv)) → sp vs H Q E →
      ∃ t, PSs (cxOf CX P w K mg base N qual scope f cdv A outer s H E) body t ∧ t { nx := fun _ H' => Q .non H', rt := Q } (start N vs) H) :
    FnOk P w K mg base CX (k + 1) f (PySem.W.fnOf name qual params body scope dV kV doc pm an cdv ct) ps sp := by
  refine ⟨len, fun A outer s H args us vs Q E hr e0 hb r hsp => ?_⟩
  have hl := len _ _ _ _ hsp
  have KX : K.In s.heap := e0.mod.kin.keeps fun b o e => (e0.bs b o e).1
  have lim : s.heap.NoLimit := e0.mod.nolimit.keeps fun b o e => (e0.bs b o e).1
  have hkind : ∀ y ∈ ps.zip us, scope.names.lookup y.1 = some .local ∨ (scope.names.lookup y.1 = some .cell ∧ ((cellsFrom (s.heap.objs.size + 1) scope.names []).lookup y.1).isSome = true) := fun ⟨n, v⟩ hy => by
    rcases S.par n (List.of_mem_zip hy).1 with q | q
    · exact .inl q
    · exact .inr ⟨q, PySem.W.cellsFrom_some _ _ _ (.inl q)⟩
  refine codeAny_call_function hr.depth (KX _ _ lk) rfl S.co S.gen rfl (PySem.W.codeRec_of KX hcd) (hb _ _ _ _ ?_)
  refine wpAny_newFunctionEnv_cells S.kind hkind fun env he s1 x => ?_
  subst he
  refine ⟨lim.keeps x.toInCall.keep, codeAny_func ?_⟩
  obtain ⟨t, ht, hq⟩ := hbody A outer s H vs Q E (hr.deeper _) hsp
  have I : Inv (cxOf CX P w K mg base N qual scope f cdv A outer s H E) [] (start N vs) H s1 := inv_start S hr.hd e0 hl r x
  refine wpAny_mono (ht [] s1 (start N vs) H _ I hq) (fun fl s' hs => ?_) fun e s' hs => hs
  have fin : ∀ {σ' : St} {H' : Hp} {v : V} {u : Value}, Inv (cxOf CX P w K mg base N qual scope f cdv A outer s H E) [] σ' H' s' → RelV v u → Q v H' → CE outer P w H s Q u s' :=
    fun {σ' H' v u} J rv q => ⟨v, H', J.os, J.bare, J.base, J.hok, rv, q⟩
  cases fl with
  | ret u =>
    obtain ⟨v, σ', H', J, rv, q⟩ := hs
    exact fin J rv q
  | next =>
    obtain ⟨σ', H', J, q⟩ := hs
    exact fin (v := V.non) (u := Value.none) J rfl q
  | brk =>
    obtain ⟨_, _, _, q⟩ := hs
    exact False.elim q
  | cont =>
    obtain ⟨_, _, _, q⟩ := hs
    exact False.elim q
end L2

namespace L2
open PySem PySem.Spec PyProof.Rows
section
variable {X : Cx} {x : Str} {p pos : Pos} {e : Expr} {es : List Expr} {t : TA} {id T : String} {r : List V → Hp → VK → Prop}

def tCB (r : List V → Hp → VK → Prop) (t : TA) : TE := fun σ H Q => t σ H fun vs H1 => r vs H1 Q
/-- f(e, ..), f a built-in function -/
theorem pe_callB (hc : CallR X (.builtin id) r) (hg : Gl X x) (hm : X.mg x = none) (hv : bootBuiltins x = some (.builtin id)) (ha : PA X (e :: es) t) (hn : x ≠ "__name__" := by decide) (hdb : (x == ("__debug__" : Str)) = false := by decide)
    (he : starEach (e :: es) X.env = (false, eval e X.env) :: starEach es X.env := by rfl) (hpl : (backTo pos (starEach es X.env)).any (·.1) = false := by rfl) : PE X (.Call (.Name x p) (e :: es) [] pos) (tCB r t) := by
  intro pins s σ H Q I h
  refine wpAny_Call_Name_kw (ld_blt I hg hm hv ?_ hn hdb)
  exact PyProof.Rows.callWith_builtin1 (thn (ha pos pins s σ H _ I h) fun us s1 ⟨vs, H1, I1, r1, q1⟩ => hc pins s1 σ H1 vs us Q I1 r1 q1) he hpl
/-- T(e, ..), T a built-in type -/
theorem pe_callTy (hc : CallR X (.type T) r) (hg : Gl X x) (hm : X.mg x = none) (hv : bootBuiltins x = some (.type T)) (ha : PA X (e :: es) t) (hn : x ≠ "__name__" := by decide) (hdb : (x == ("__debug__" : Str)) = false := by decide)
    (he : starEach (e :: es) X.env = (false, eval e X.env) :: starEach es X.env := by rfl) (hpl : (backTo pos (starEach es X.env)).any (·.1) = false := by rfl) : PE X (.Call (.Name x p) (e :: es) [] pos) (tCB r t) := by
  intro pins s σ H Q I h
  refine wpAny_Call_Name_kw (ld_blt I hg hm hv ?_ hn hdb)
  exact PyProof.Rows.callWith_type1 (thn (ha pos pins s σ H _ I h) fun us s1 ⟨vs, H1, I1, r1, q1⟩ => hc pins s1 σ H1 vs us Q I1 r1 q1) he hpl
/-- T() -/
theorem pe_callTy0 (hc : CallR X (.type T) r) (hg : Gl X x) (hm : X.mg x = none) (hv : bootBuiltins x = some (.type T)) (hn : x ≠ "__name__" := by decide) (hdb : (x == ("__debug__" : Str)) = false := by decide) :
    PE X (.Call (.Name x p) [] [] pos) (tCB r tNil) := by
  intro pins s σ H Q I h
  refine wpAny_Call_Name_kw (ld_blt I hg hm hv ?_ hn hdb)
  exact PyProof.Rows.callWith_type0 (hc pins s σ H [] [] Q I .nil h)
end
end L2

namespace HT
open PySem PyProof.Rows

/-- t < u of tuples of ints -/
def lexLt : List Int → List Int → Bool
  | [], [] => false
  | [], _ :: _ => true
  | _ :: _, [] => false
  | x :: xs, y :: ys => if x = y then lexLt xs ys else decide (x < y)
theorem lexLt_cons (x y : Int) (xs ys : List Int) : lexLt (x :: xs) (y :: ys) = if x = y then lexLt xs ys else decide (x < y) := rfl
theorem lexLt_nil_nil : lexLt [] [] = false := rfl
theorem lexLt_nil_cons (y : Int) (ys : List Int) : lexLt [] (y :: ys) = true := rfl
theorem lexLt_cons_nil (x : Int) (xs : List Int) : lexLt (x :: xs) [] = false := rfl

theorem eqAt_int (A : Around) (s : Shared) (a : Int) (t : Tok) (c : Int) (u : Tok) : ∃ e, SeqAt.EqAt A s (.int a t) (.int c u) e ∧ (e = true ↔ a = c) :=
  ⟨(a == c), SeqAt.EqAt.int_int a t c u, by simp⟩
theorem rcLt_int (A : Around) (s : Shared) (a : Int) (t : Tok) (c : Int) (u : Tok) (prog : Program) (w : World) (E : Value → Shared → Prop) (Q : Value → Shared → Prop) (h : Q (.bool (decide (a < c))) s) :
    wpAny (model prog w) A (richCompare .Lt (.int a t) (.int c u)) Q E s :=
  (PyProof.Rows.lt_int h : wpAny (model prog w) A (compareOp .Lt (.int a t) (.int c u)) Q E s)

section
open PySem.SeqAt
open PySem.AutoSeq1 (wpAny_loadPart')
open PySem.MeetsSeq PySem.MeetsSeq2 PySem.MeetsSeq3

theorem tuple_lt_ints (l b : Addr) (items items2 : Array Value) (n n2 : Nat) (dd dd2 : Option Addr) (sl sl2 : Array (Option Value)) (ns ms : List Int) (hi : IntsAre items.toList ns) (hj : IntsAre items2.toList ms) :
    Meets (Builtin.«tuple.__lt__» ⟨[.ref l, .ref b], []⟩)
      (fun _ R s => s.heap.get? l = some { cls := .type "tuple", dict := dd, data := .seq items n, slots := sl } ∧ s.heap.get? b = some { cls := .type "tuple", dict := dd2, data := .seq items2 n2, slots := sl2 } ∧
        R (.ok (.ret (.bool (lexLt ns ms)))) s) :=
  .of_wp fun prog w A R s h => by
    obtain ⟨hp, g, d, tk, os⟩ := s; obtain ⟨hl, hb, h⟩ := h
    have f2 := AutoSeq1.sub_tuple_tuple
    have z1 : items.size = ns.length := by rw [← hi.length]; simp
    have z2 : items2.size = ms.length := by rw [← hj.length]; simp
    wp_walk using wpAny_loadPart' hl, wpAny_loadPart' hb, wpAny_forIn_list _ (fun rest b s' => b.1 = none ∧ s' = ⟨hp, g, d, tk, os⟩ ∧ ∃ (vs ws : List Value) (ns' ms' : List Int), rest = vs.zip ws ∧
      IntsAre vs ns' ∧ IntsAre ws ms' ∧ ns'.length + items2.size = ms'.length + items.size ∧ R (.ok (.ret (.bool (lexLt ns' ms')))) ⟨hp, g, d, tk, os⟩) _
    case turn =>
      rintro ⟨y, x⟩ rest b s' ⟨hb', rfl, vs, ws, ns', ms', hz, hvi, hwi, hlen, hR⟩
      cases hvi with
      | nil => rw [List.zip_nil_left] at hz; cases hz
      | cons a t hvi' =>
        cases hwi with
        | nil => rw [List.zip_nil_right] at hz; cases hz
        | cons c u hwi' =>
          rw [List.zip_cons_cons] at hz
          injection hz with hyx hrest
          injection hyx with hy hx
          subst hy hx
          rw [lexLt_cons] at hR
          simp only [List.length_cons] at hlen
          obtain ⟨e, he, hiff⟩ := eqAt_int A.in1 ⟨hp, g, d, tk, os⟩ a t c u
          refine wpAny_bind (he prog w _ _ ?_)
          cases e with
          | true =>
            rw [if_pos (hiff.mp rfl)] at hR
            wp_walk
            exact ⟨rfl, rfl, _, _, _, _, hrest, hvi', hwi', by omega, hR⟩
          | false =>
            rw [if_neg (fun q => absurd (hiff.mpr q) Bool.false_ne_true)] at hR
            have hri := rcLt_int A.in1 ⟨hp, g, d, tk, os⟩ a t c u prog w
            wp_walk using hri
            exact ⟨_, rfl, by simpa using hR⟩
    case fin =>
      rintro ⟨b1, b2⟩ s' ⟨hb', rfl, vs, ws, ns', ms', hz, hvi, hwi, hlen, hR⟩
      simp only at hb'
      subst hb'
      have hv : lexLt ns' ms' = decide (items.size < items2.size) := by
        cases hvi with
        | nil =>
          cases hwi with
          | nil =>
            simp only [List.length_nil] at hlen
            rw [lexLt_nil_nil]
            exact (decide_eq_false (by omega)).symm
          | cons c u hw =>
            simp only [List.length_nil, List.length_cons] at hlen
            rw [lexLt_nil_cons]
            exact (decide_eq_true (by omega)).symm
        | cons a t hv =>
          cases hwi with
          | nil =>
            simp only [List.length_nil, List.length_cons] at hlen
            rw [lexLt_cons_nil]
            exact (decide_eq_false (by omega)).symm
          | cons c u hw =>
            rw [List.zip_cons_cons] at hz
            cases hz
      rw [hv] at hR
      wp_walk
      exact ⟨_, rfl, by simpa [Builtin.Tuple.tupleCompareSizes] using hR⟩
    case h =>
      exact ⟨rfl, rfl, items.toList, items2.toList, ns, ms, rfl, hi, hj, by omega, h⟩
end

section
variable {prog : Program} {w : World} {A : Around} {E : Value → Shared → Prop} {s : Shared}

theorem lt_tupInts {l b : Addr} {items items2 : Array Value} {ns ms : List Int} {Q : Value → Shared → Prop} (hl : IsTup s.heap l items) (hb : IsTup s.heap b items2) (hi : IntsAre items.toList ns) (hj : IntsAre items2.toList ms)
    (hu : A.units < cLine) (h : Q (.bool (lexLt ns ms)) s) : wpAny (model prog w) A (compareOp .Lt (.ref l) (.ref b)) Q E s := by
  obtain ⟨⟨cls, dd, data, sl⟩, ho, hc, n, hd⟩ := id hl
  obtain ⟨⟨cls2, dd2, data2, sl2⟩, ho2, hc2, n2, hd2⟩ := id hb
  simp only at hc hd hc2 hd2
  subst hc hd hc2 hd2
  exact richCompare_meets_room (op := .Lt) ⟨_, ho, rfl⟩ ⟨_, ho2, rfl⟩ PySem.F.slot_tuple_lt PySem.F.entry_tuple_lt (PySem.F.args_tuple_lt_2 _ _) (tuple_lt_ints l b items items2 n n2 dd dd2 sl sl2 ns ms hi hj)
    ⟨ho, ho2, show Value.bool (lexLt ns ms) ≠ Value.notImplemented ∧ Q (.bool (lexLt ns ms)) s from ⟨(fun x => nomatch x), h⟩⟩ hu

/-- t + u, t not empty -/
theorem cat_tup {t b : Addr} {vs ws : List Value} {Q : Value → Shared → Prop} (ht : IsTup s.heap t vs.toArray) (hb : IsTup s.heap b ws.toArray) (hv : vs ≠ [])
    (h1 : ws = [] → Q (.ref t) s) (h2 : ws ≠ [] → Q (.ref s.heap.objs.size) { s with heap := s.heap.push { cls := .type "tuple", data := .seq (vs ++ ws).toArray } })
    (hsz : vs.length + ws.length ≤ sizeLine) : wpAny (model prog w) A (binaryOp .Add (.ref t) (.ref b)) Q E s := by
  obtain ⟨⟨cls, dd, data, sl⟩, ho, hc, n, hd⟩ := id ht
  obtain ⟨⟨cls2, dd2, data2, sl2⟩, ho2, hc2, n2, hd2⟩ := id hb
  simp only at hc hd hc2 hd2
  subst hc hd hc2 hd2
  have e : vs.toArray ++ ws.toArray = (vs ++ ws).toArray := by simp
  by_cases hw : ws = []
  · exact concat_meets ⟨_, ho, rfl⟩ ⟨_, ho2, rfl⟩ noFill_tuple_add seq_tuple_add PySem.F.slot_tuple_add PySem.F.entry_tuple_add (PySem.F.args_tuple_add_2 _ _)
      (tuple_addW1 t b vs.toArray ws.toArray n n2 dd dd2 sl sl2 (by simpa using hv) (by simp [hw])) ⟨ho, ho2, h1 hw⟩
  · refine concat_meets ⟨_, ho, rfl⟩ ⟨_, ho2, rfl⟩ noFill_tuple_add seq_tuple_add PySem.F.slot_tuple_add PySem.F.entry_tuple_add (PySem.F.args_tuple_add_2 _ _)
      (tuple_addW2 t b vs.toArray ws.toArray n n2 dd dd2 sl sl2 (by simpa using hv) (by simpa using hw) (by rw [List.size_toArray, List.size_toArray]; exact hsz)) ⟨ho, ho2, ?_⟩
    rw [e]
    exact h2 hw

/-! ### t[a:b], not the whole -/
/-- a slice's bound as a place among n (d where it is left out) -/
def sIx (n d : Nat) : Option Int → Nat
  | none => d
  | some v => if v < 0 then (v + (n : Int)).toNat else min v.toNat n
theorem sIx_none (n d : Nat) : sIx n d none = d := rfl
theorem sIx_nat (n d k : Nat) : sIx n d (some (k : Int)) = min k n := by
  show (if (k : Int) < 0 then ((k : Int) + (n : Int)).toNat else min (k : Int).toNat n) = min k n
  rw [if_neg (by omega), Int.toNat_natCast]
theorem sIx_le (n d : Nat) (hd : d ≤ n) (o : Option Int) : sIx n d o ≤ n := by
  cases o with
  | none => exact hd
  | some v =>
    show (if v < 0 then (v + (n : Int)).toNat else min v.toNat n) ≤ n
    by_cases hv : v < 0
    · rw [if_pos hv]; omega
    · rw [if_neg hv]; exact Nat.min_le_right _ _
theorem clip_eq (v : Int) (n d : Nat) : (if v < 0 then max (v + (n : Int)) 0 else min v (n : Int)) = ((sIx n d (some v) : Nat) : Int) := by
  show (if v < 0 then max (v + (n : Int)) 0 else min v (n : Int)) = (((if v < 0 then (v + (n : Int)).toNat else min v.toNat n) : Nat) : Int)
  by_cases hv : v < 0
  · simp only [if_pos hv]; omega
  · simp only [if_neg hv]; omega
theorem adjust_gen (lo hi : Option Int) (n : Nat) : Builtin.Slice.sliceAdjust lo hi 1 (n : Int) = (((sIx n 0 lo : Nat) : Int), ((sIx n n hi : Nat) : Int)) := by
  have h1 : ¬ ((1 : Int) < 0) := by omega
  unfold Builtin.Slice.sliceAdjust
  simp only [h1, if_false]
  refine Prod.ext ?_ ?_
  · cases lo with
    | none => rfl
    | some v => exact clip_eq v n 0
  · cases hi with
    | none => rfl
    | some v => exact clip_eq v n n
theorem places_gen (i j : Nat) : Builtin.Slice.slicePlaces (i : Int) (j : Int) 1 = j - i := by
  unfold Builtin.Slice.slicePlaces
  have h1 : (1 : Int) > 0 := by omega
  simp only [h1, if_true, Int.ediv_one]
  split <;> omega
theorem slicePart_ {v : Value} {o : Option Int} {Q : Option Int → Shared → Prop} (p : IsPart v o) (h : Q o s) : wpAny (model prog w) A (Builtin.Slice.slicePartIndex v) Q E s := by
  cases p with
  | none => exact slicePart_none h
  | int i t => exact slicePart_int h
theorem sliceApplied_gen {sl : Addr} {vl vu : Value} {lo hi : Option Int} {n : Nat} {Q : Int × Int × Nat → Shared → Prop} (hs : s.heap.IsSliceOf sl vl vu .none) (pl : IsPart vl lo) (pu : IsPart vu hi)
    (h : Q (((sIx n 0 lo : Nat) : Int), 1, sIx n n hi - sIx n 0 lo) s) : wpAny (model prog w) A (Builtin.Slice.sliceApplied (.ref sl) (pure (n : Int))) Q E s := by
  obtain ⟨os, hos, hcs, hds⟩ := id hs
  unfold Builtin.Slice.sliceApplied Builtin.Slice.sliceFields
  refine wpAny_bind (wpAny_bind (wpAny_field hos hds (x := vl) rfl (wpAny_bind (wpAny_field hos hds (x := vu) rfl (wpAny_bind (wpAny_field hos hds (x := .none) rfl (wpAny_pure ?_)))))))
  refine wpAny_bind (slicePart_none ?_)
  show wpAny _ _ (if ((1 : Int) == 0) = true then _ else _) _ _ s
  rw [if_neg (by decide)]
  refine wpAny_bind (slicePart_ pl (wpAny_bind (slicePart_ pu (wpAny_bind (wpAny_pure ?_)))))
  show wpAny _ _ (match Builtin.Slice.sliceAdjust lo hi 1 (n : Int) with | (lo, hi) => pure (lo, (1 : Int), Builtin.Slice.slicePlaces lo hi 1)) _ _ s
  rw [adjust_gen lo hi n]
  show wpAny _ _ (pure (((sIx n 0 lo : Nat) : Int), (1 : Int), Builtin.Slice.slicePlaces ((sIx n 0 lo : Nat) : Int) ((sIx n n hi : Nat) : Int) 1)) _ _ s
  rw [places_gen]
  exact wpAny_pure h
theorem pick_gen (xs : Array Value) (i k : Nat) : ((List.range k).filterMap fun (m : Nat) => xs[((i : Int) + (m : Int) * 1).toNat]?).toArray = ((xs.toList.drop i).take k).toArray := by
  have e : (fun (m : Nat) => xs[((i : Int) + (m : Int) * 1).toNat]?) = fun m => xs[i + m]? := by
    funext m
    have : ((i : Int) + (m : Int) * 1).toNat = i + m := by omega
    rw [this]
  rw [e]
  have := pick_run xs i k
  rw [List.filterMap_map] at this
  have e2 : ((fun x => xs[x]?) ∘ fun x => i + x) = fun m => xs[i + m]? := rfl
  rw [e2] at this
  rw [this]

theorem getItem_tuple_cut {t sl : Addr} {items : Array Value} {vl vu : Value} {lo hi : Option Int} {Q : Value → Shared → Prop} (ht : IsTup s.heap t items) (hs : s.heap.IsSliceOf sl vl vu .none) (pl : IsPart vl lo) (pu : IsPart vu hi)
    (hw : ¬ (sIx items.size 0 lo = 0 ∧ sIx items.size items.size hi = items.size))
    (h : Q (.ref s.heap.objs.size) { s with heap := s.heap.push { cls := .type "tuple", data := .seq ((items.toList.drop (sIx items.size 0 lo)).take (sIx items.size items.size hi - sIx items.size 0 lo)).toArray } })
    (hsz : items.size ≤ sizeLine) : wpAny (model prog w) A (getItem (.ref t) (.ref sl)) Q E s := by
  have htake : sizeOk (.seq ((items.toList.drop (sIx items.size 0 lo)).take (sIx items.size items.size hi - sIx items.size 0 lo)).toArray) := by
    show ((items.toList.drop (sIx items.size 0 lo)).take (sIx items.size items.size hi - sIx items.size 0 lo)).toArray.size ≤ sizeLine
    rw [List.size_toArray, List.length_take, List.length_drop, Array.length_toList]
    omega
  have hj : sIx items.size items.size hi ≤ items.size := sIx_le _ _ (Nat.le_refl _) hi
  obtain ⟨os, hos, hcs, hds⟩ := id hs
  have hTs : s.TypeIs (.ref sl) "slice" := ⟨os, hos, hcs⟩
  unfold getItem
  try with_reducible refine wpAny_holding ?_
  first | refine wpAny_bind (wpAny_pure ?_) | skip
  refine wpAny_bind (wpAny_sequenceKey ht.typeIs (by decide) ?_)
  refine wpAny_bind (wpAny_callSpecial?_slot (name := Str.ofString "__getitem__") ht.typeIs PyProof.Rows.slot_tuple_getitem
    (wpAny_call_entry PyProof.Rows.slot_tuple_getitem ht.typeIs entry_tuple_getitem ?_ (args_tuple_getitem _ _)))
  show wpAny _ _ (Builtin.Tuple.tupleItemsOf (.ref t) >>= _) _ _ s
  refine wpAny_bind (tupleItemsOf_ ht ?_)
  refine wpAny_bind (wpAny_typeOf hTs ?_)
  rw [if_pos (by decide)]
  refine wpAny_bind (sliceApplied_gen hs pl pu ?_)
  have hno : ¬ ((((sIx items.size 0 lo : Nat) : Int) == 0 && (1 : Int) == 1 && (sIx items.size items.size hi - sIx items.size 0 lo) == items.size) = true) := by
    intro q
    rw [Bool.and_eq_true, Bool.and_eq_true] at q
    have q1 : ((sIx items.size 0 lo : Nat) : Int) = 0 := eq_of_beq q.1.1
    have q2 : sIx items.size items.size hi - sIx items.size 0 lo = items.size := eq_of_beq q.2
    exact hw ⟨by omega, by omega⟩
  show wpAny _ _ (if (((sIx items.size 0 lo : Nat) : Int) == 0 && (1 : Int) == 1 && (sIx items.size items.size hi - sIx items.size 0 lo) == items.size) = true then _ else _) _ _ s
  rw [if_neg hno, pick_gen]
  first
    | exact wpAny_bind (m := Builtin.Tuple.tupleExact _) (wpAny_newObj_type (wpAny_pure ⟨_, rfl, wpAny_pure h⟩) htake)
    | exact wpAny_bind (m := Builtin.Tuple.tupleExact _) (wpAny_newObj_type (wpAny_bind (wpAny_pure (wpAny_pure ⟨_, rfl, wpAny_pure h⟩))) htake)
    | exact wpAny_bind (wpAny_bind (m := Builtin.Tuple.tupleExact _) (wpAny_newObj_type (wpAny_pure (wpAny_pure ⟨_, rfl, wpAny_pure h⟩)) htake))
    | exact wpAny_bind (wpAny_bind (m := Builtin.Tuple.tupleExact _) (wpAny_newObj_type (wpAny_pure ⟨_, rfl, wpAny_pure h⟩) htake))
end
end HT

namespace L2
open PySem PySem.Spec PyProof.Rows

/-! ### the parts of a slice -/
abbrev TO := St → Hp → (Option Int → Hp → Prop) → Prop
/-- a slice's part (left out, or an int) -/
def PO (X : Cx) (e : Option Expr) (t : TO) : Prop :=
  ∀ (pins : List (Addr × Obj)) (s : Shared) (σ : St) (H : Hp) (Q : Option Int → Hp → Prop), Inv X pins σ H s → t σ H Q →
    wpAny (model X.prog X.w) X.A (evalPart e X.env) (fun u s' => ∃ o H', Inv X pins σ H' s' ∧ IsPart u o ∧ Q o H') X.xe s
def tNoPart : TO := fun _ H Q => Q none H
def tPart (t : TE) : TO := fun σ H Q => t σ H fun x H1 => ∃ i, x = .int i ∧ Q (some i) H1

theorem intsAre_of {ns : List Int} : ∀ {us : List Value}, Vals (ns.map V.int) us → IntsAre us ns := by
  induction ns with
  | nil => intro us r; rw [List.map_nil] at r; cases r; exact .nil
  | cons n ns ih =>
    intro us r
    rw [List.map_cons] at r
    cases r with
    | cons r1 r2 =>
      obtain ⟨t, e⟩ := r1
      subst e
      exact .cons n t (ih r2)

section
variable {X : Cx} {e : Expr} {te : TE} {lo hi : Option Expr} {tl th : TO} {pos p2 : Pos}

theorem po_none : PO X none tNoPart := by
  intro pins s σ H Q I h
  rw [evalPart_none]
  exact wpAny_pure ⟨none, H, I, .none, h⟩
theorem po_some (h : PE X e te) : PO X (some e) (tPart te) := by
  intro pins s σ H Q I hw
  rw [evalPart_some]
  refine thn (h pins s σ H _ I hw) fun u s1 ⟨x, H1, I1, r1, q1⟩ => ?_
  obtain ⟨i, rfl, q⟩ := q1
  obtain ⟨t, rfl⟩ := r1
  exact ⟨some i, H1, I1, .int i t, q⟩

/-- what a slice of a value is, by values: the slice object stands at sl -/
def SlR (X : Cx) (r : V → Option Int → Option Int → Hp → VK → Prop) : Prop :=
  ∀ (pins : List (Addr × Obj)) (s : Shared) (σ : St) (H : Hp) (x : V) (v vl vu : Value) (lo hi : Option Int) (sl : Addr) (Q : VK), Inv X pins σ H s → RelV x v → s.heap.IsSliceOf sl vl vu .none → IsPart vl lo → IsPart vu hi → r x lo hi H Q →
    ∃ T id, typeLookup (.type T) "__getitem__" = pure (some (.builtin id)) ∧ s.TypeIs v T ∧ wpAny (model X.prog X.w) X.A (getItem v (.ref sl)) (EP X pins σ Q) X.xe s
theorem SlR.or {r r' : V → Option Int → Option Int → Hp → VK → Prop} (h : SlR X r) (h' : SlR X r') : SlR X (fun x lo hi H Q => r x lo hi H Q ∨ r' x lo hi H Q) := by
  intro pins s σ H x v vl vu lo hi sl Q I rx hs pl pu q
  rcases q with q | q
  · exact h pins s σ H x v vl vu lo hi sl Q I rx hs pl pu q
  · exact h' pins s σ H x v vl vu lo hi sl Q I rx hs pl pu q
def tSl (r : V → Option Int → Option Int → Hp → VK → Prop) (te : TE) (tl th : TO) : TE := fun σ H Q => te σ H fun x H1 => tl σ H1 fun l H2 => th σ H2 fun u H3 => r x l u H3 Q
/-- a[lo:hi], any a -/
theorem pe_slice {r : V → Option Int → Option Int → Hp → VK → Prop} (hr : SlR X r) (he : PE X e te) (hl : PO X lo tl) (hu : PO X hi th) : PE X (.Subscript e (.Slice lo hi none p2) pos) (tSl r te tl th) := by
  intro pins s σ H Q I h
  refine Subscript_ (thn (he pins s σ H _ I h) fun v s1 ⟨x, H1, I1, r1, q1⟩ => ?_)
  refine wpAny_Slice (thn (hl pins s1 σ H1 _ I1 q1) fun vl s2 ⟨l, H2, I2, pl, q2⟩ => thn (hu pins s2 σ H2 _ I2 q2) fun vu s3 ⟨u, H3, I3, pu, q3⟩ => ?_)
  rw [evalPart_none]
  refine wpAny_pure ?_
  have I4 : Inv X pins σ H3 { s3 with heap := s3.heap.push { cls := .type "slice", data := .fields #[vl, vu, .none] } } := I3.kept (t' := s3.toks) fun b ob q => Heap.get?_push_of_some _ q
  obtain ⟨T, id, hT, ht, hg⟩ := hr pins { s3 with heap := s3.heap.push { cls := .type "slice", data := .fields #[vl, vu, .none] } } σ H3 x v vl vu l u s3.heap.objs.size Q I4 r1 (Heap.IsSliceOf.new ..) pl pu q3
  show wpAny (model X.prog X.w) X.A (subscriptTail e (.Slice lo hi none p2) v (.ref s3.heap.objs.size)) (EP X pins σ Q) X.xe { s3 with heap := s3.heap.push { cls := .type "slice", data := .fields #[vl, vu, .none] } }
  exact tail_any (ops := [.ref s3.heap.objs.size, v]) ht hT hg (by with_unfolding_all rfl)

/-- the items of xs[lo:hi] -/
def cutV (xs : List V) (lo hi : Option Int) : List V := (xs.drop (HT.sIx xs.length 0 lo)).take (HT.sIx xs.length xs.length hi - HT.sIx xs.length 0 lo)
theorem cutV_length (xs : List V) (lo hi : Option Int) : (cutV xs lo hi).length ≤ xs.length := by
  unfold cutV
  rw [List.length_take, List.length_drop]
  omega
/-- t[lo:hi], not the whole of it (the whole would be t itself) -/
def rSlT (K : PySem.W.Frag) : V → Option Int → Option Int → Hp → VK → Prop := fun x lo hi H Q => ∃ a xs, x = .ref a ∧ SqT K H a xs ∧
  ¬ (HT.sIx xs.length 0 lo = 0 ∧ HT.sIx xs.length xs.length hi = xs.length) ∧ ∀ p, H p = none → Q (.ref p) (upd H p (.tup (cutV xs lo hi)))
theorem sl_tup : SlR X (rSlT X.K) := by
  intro pins s σ H x v vl vu lo hi sl Q I rx hs pl pu h
  obtain ⟨a, xs, rfl, hx, hw, q⟩ := h
  cases rx
  obtain ⟨its, r, ht, hz⟩ := I.tuple hx
  have hlen : its.toArray.size = xs.length := by rw [List.size_toArray]; exact r.length.symm
  refine ⟨"tuple", _, PyProof.Rows.slot_tuple_getitem.lookup, ht.typeIs, ?_⟩
  refine HT.getItem_tuple_cut ht hs pl pu (by rw [hlen]; exact hw) ?_ (by rw [hlen]; exact hz)
  rw [hlen]
  refine ⟨.ref s.heap.objs.size, _, I.laid (t' := s.toks) (o := .tup (cutV xs lo hi)) (fun b ob q => Heap.get?_push_of_some _ q) (Nat.le_refl _) ?_, rfl, q _ (I.hok.fresh (Nat.le_refl _))⟩
  exact ⟨Nat.le_trans (cutV_length xs lo hi) hz, _, (r.drop (HT.sIx xs.length 0 lo)).take (HT.sIx xs.length xs.length hi - HT.sIx xs.length 0 lo), IsTup.new _ _⟩

/-! ### t < u, t + u -/
def rLtT (K : PySem.W.Frag) : R2 := fun x y H Q => ∃ a b ns ms, x = .ref a ∧ y = .ref b ∧ SqT K H a (ns.map V.int) ∧ SqT K H b (ms.map V.int) ∧ Q (.bl (HT.lexLt ns ms)) H
theorem op_ltT (hu : X.A.units < cLine) : OpR X (compareOp .Lt) (rLtT X.K) := by
  intro pins s σ H x y v u Q I rx ry h
  obtain ⟨a, b, ns, ms, rfl, rfl, ha, hb, q⟩ := h
  cases rx
  cases ry
  obtain ⟨its, r1, p1, _⟩ := I.tuple ha
  obtain ⟨its2, r2, p2, _⟩ := I.tuple hb
  have i1 : IntsAre its.toArray.toList ns := intsAre_of r1
  have i2 : IntsAre its2.toArray.toList ms := intsAre_of r2
  exact HT.lt_tupInts p1 p2 i1 i2 hu ⟨.bl (HT.lexLt ns ms), H, I, rfl, q⟩
/-- t + u, t not empty: u empty gives t itself -/
def rCatT (K : PySem.W.Frag) : R2 := fun x y H Q => ∃ a b xs ys, x = .ref a ∧ y = .ref b ∧ SqT K H a xs ∧ SqT K H b ys ∧ xs ≠ [] ∧ xs.length + ys.length ≤ sizeLine ∧
  (ys = [] → Q (.ref a) H) ∧ (ys ≠ [] → ∀ p, H p = none → Q (.ref p) (upd H p (.tup (xs ++ ys))))
theorem Vals.nil_iff {xs : List V} {us : List Value} (r : Vals xs us) : us = [] ↔ xs = [] := by
  cases r with
  | nil => simp
  | cons _ _ => simp
theorem op_catT : OpR X (binaryOp .Add) (rCatT X.K) := by
  intro pins s σ H x y v u Q I rx ry h
  obtain ⟨a, b, xs, ys, rfl, rfl, ha, hb, hx, hz, q1, q2⟩ := h
  cases rx
  cases ry
  obtain ⟨its, r1, p1, _⟩ := I.tuple ha
  obtain ⟨its2, r2, p2, _⟩ := I.tuple hb
  refine HT.cat_tup p1 p2 (fun z => hx (r1.nil_iff.mp z)) (fun z => ⟨.ref a, H, I, rfl, q1 (r2.nil_iff.mp z)⟩) (fun z => ?_) (by rw [← r1.length, ← r2.length]; exact hz)
  refine ⟨.ref s.heap.objs.size, _, I.laid (t' := s.toks) (o := .tup (xs ++ ys)) (fun b ob q => Heap.get?_push_of_some _ q) (Nat.le_refl _) ?_, rfl, q2 (fun w => z (r2.nil_iff.mpr w)) _ (I.hok.fresh (Nat.le_refl _))⟩
  exact ⟨by rw [List.length_append]; exact hz, _, r1.append r2, IsTup.new _ _⟩
/-- tuple(t) -/
theorem call_tupleT : CallR X (.type "tuple") (fun xs H Q => ∃ a ys, xs = [.ref a] ∧ SqT X.K H a ys ∧ Q (.ref a) H) := by
  intro pins s σ H xs us Q I r h
  obtain ⟨a, ys, rfl, ha, q⟩ := h
  obtain ⟨u, rfl, ru⟩ := vals1 r
  cases ru
  obtain ⟨its, _, p1, _⟩ := I.tuple ha
  exact call_tuple_same (items := its.toArray) p1 ⟨.ref a, H, I, rfl, q⟩
end
end L2

namespace L2
open PySem PySem.Spec PyProof.Rows

/-! ### places -/
/-- the place that an index of any sign means -/
def ixN (n : Nat) (i : Int) : Option Nat := if 0 ≤ i then (if i < n then some i.toNat else none) else if -(n : Int) ≤ i then some (i + n).toNat else none
def atI {α : Type} (xs : List α) (i : Int) : Option α := (ixN xs.length i).bind fun j => xs[j]?
theorem ixN_seq {n : Nat} {i : Int} {j : Nat} (h : ixN n i = some j) : seqIndex? i n = some j ∧ j < n ∧ -(n : Int) ≤ i ∧ i < n := by
  unfold ixN at h
  by_cases h0 : 0 ≤ i
  · rw [if_pos h0] at h
    by_cases h1 : i < n
    · rw [if_pos h1] at h
      have e : i.toNat = j := Option.some.inj h
      exact ⟨by rw [seqIndex_of h0 h1, e], by omega, by omega, h1⟩
    · rw [if_neg h1] at h; cases h
  · rw [if_neg h0] at h
    by_cases h1 : -(n : Int) ≤ i
    · rw [if_pos h1] at h
      have e : (i + n).toNat = j := Option.some.inj h
      exact ⟨by rw [seqIndex_neg (by omega) h1, e], by omega, h1, by omega⟩
    · rw [if_neg h1] at h; cases h
theorem atI_get {α : Type} {xs : List α} {i : Int} {v : α} (h : atI xs i = some v) : ∃ j, seqIndex? i xs.length = some j ∧ xs[j]? = some v ∧ j < xs.length ∧ -(xs.length : Int) ≤ i ∧ i < xs.length := by
  unfold atI at h
  cases e : ixN xs.length i with
  | none => rw [e] at h; cases h
  | some j =>
    rw [e] at h
    obtain ⟨h1, h2, h3, h4⟩ := ixN_seq e
    exact ⟨j, h1, h, h2, h3, h4⟩
theorem atI_nat {α : Type} {xs : List α} {j : Nat} {v : α} (h : xs[j]? = some v) : atI xs (j : Int) = some v := by
  have hj : j < xs.length := (List.getElem?_eq_some_iff.mp h).1
  have e : ixN xs.length (j : Int) = some j := by
    unfold ixN
    rw [if_pos (by omega), if_pos (by omega)]; simp
  unfold atI; rw [e]; exact h
theorem atI_last {α : Type} (xs : List α) (v : α) : atI (xs ++ [v]) (-1) = some v := by
  have hl : (xs ++ [v]).length = xs.length + 1 := by simp
  have e : ixN (xs ++ [v]).length (-1) = some xs.length := by
    unfold ixN
    rw [hl, if_neg (by decide), if_pos (by omega)]
    congr 1
    omega
  unfold atI
  rw [e]
  show (xs ++ [v])[xs.length]? = some v
  simp

/-! ### what may be subscripted -/
/-- what stands as an index of a plain subscript -/
def PlainIx (b : Expr) : Prop := ∀ o i, subscripted b false o i = operate [o, i] (getItem o i)
/-- a subscript by values -/
def IxR (X : Cx) (r : R2) : Prop :=
  ∀ (value slice : Expr) (pins : List (Addr × Obj)) (s : Shared) (σ : St) (H : Hp) (x y : V) (v u : Value) (Q : VK), Inv X pins σ H s → RelV x v → RelV y u → r x y H Q →
    subscripted slice false v u = operate [v, u] (getItem v u) → wpAny (model X.prog X.w) X.A (subscriptTail value slice v u) (EP X pins σ Q) X.xe s
/-- a call of a builtin's method by values: the receiver, the arguments -/
def MtR (X : Cx) (id : String) (r : V → List V → Hp → VK → Prop) : Prop :=
  ∀ (pins : List (Addr × Obj)) (s : Shared) (σ : St) (H : Hp) (x : V) (xs : List V) (v : Value) (us : List Value) (Q : VK), Inv X pins σ H s → RelV x v → Vals xs us → r x xs H Q →
    wpAny (model X.prog X.w) X.A (call (.builtin id) (v :: us)) (EP X pins σ Q) X.xe s
section
variable {X : Cx} {a b : Expr} {ta tb : TE} {pos : Pos}
theorem IxR.or {r r' : R2} (h : IxR X r) (h' : IxR X r') : IxR X (fun x y H Q => r x y H Q ∨ r' x y H Q) := by
  intro value slice pins s σ H x y v u Q I rx ry q hs
  rcases q with q | q
  · exact h value slice pins s σ H x y v u Q I rx ry q hs
  · exact h' value slice pins s σ H x y v u Q I rx ry q hs
theorem MtR.or {id : String} {r r' : V → List V → Hp → VK → Prop} (h : MtR X id r) (h' : MtR X id r') : MtR X id (fun x xs H Q => r x xs H Q ∨ r' x xs H Q) := by
  intro pins s σ H x xs v us Q I rx rs q
  rcases q with q | q
  · exact h pins s σ H x xs v us Q I rx rs q
  · exact h' pins s σ H x xs v us Q I rx rs q
/-- a[b] -/
theorem pe_ix {r : R2} (hr : IxR X r) (ha : PE X a ta) (hb : PE X b tb) (hs : PlainIx b) : PE X (.Subscript a b pos) (tOp r ta tb) := by
  intro pins s σ H Q I h
  exact Subscript_ (binT ha hb I h fun v u s2 x y H2 I2 rx ry q => hr a b pins s2 σ H2 x y v u Q I2 rx ry q (hs _ _))

def rIxL (K : PySem.W.Frag) : R2 := fun x y H Q => ∃ p xs i v, x = .ref p ∧ y = .int i ∧ SqL K H p xs ∧ atI xs i = some v ∧ Q v H
def rIxT (K : PySem.W.Frag) : R2 := fun x y H Q => ∃ p xs i v, x = .ref p ∧ y = .int i ∧ SqT K H p xs ∧ atI xs i = some v ∧ Q v H
def rIxS : R2 := fun x y H Q => ∃ z i c, x = .str z ∧ y = .int i ∧ z.length ≤ sizeLine ∧ atI z.cps.toList i = some c ∧ Q (.str ⟨#[c]⟩) H
theorem ix_list : IxR X (rIxL X.K) := by
  intro value slice pins s σ H x y v u Q I rx ry h hs
  obtain ⟨p, xs, i, z, rfl, rfl, hq, he, q⟩ := h
  cases rx
  obtain ⟨t, rfl⟩ := ry
  obtain ⟨its, r, pl, hz⟩ := I.list hq
  obtain ⟨j, h1, h2, h3, h4, h5⟩ := atI_get he
  obtain ⟨w, ew, rw'⟩ := r.get h2
  have hl := r.length
  have hn := line63
  have fin : EP X pins σ Q w s := ⟨z, H, I, rw', q⟩
  by_cases h0 : 0 ≤ i
  · have hj : i.toNat = j := by
      rw [seqIndex_of h0 h5] at h1
      exact Option.some.inj h1
    exact item_listR pl.isList h0 (by omega) (by rw [hj]; simpa using ew) fin hs
  · have hj : (i + (its.toArray.size : Int)).toNat = j := by
      rw [seqIndex_neg (by omega) h4] at h1
      rw [List.size_toArray, ← hl]
      exact Option.some.inj h1
    exact subscriptTail_builtinR (x := w) pl.isList.typeIs slot_list_getitem.lookup
      (wpAny_getItem_list_neg (Q := fun r s' => r = w ∧ EP X pins σ Q r s') pl.isList (by omega) (by rw [List.size_toArray] <;> omega) (by omega) (by rw [hj]; simpa using ew) ⟨rfl, fin⟩) hs
theorem ix_tup : IxR X (rIxT X.K) := by
  intro value slice pins s σ H x y v u Q I rx ry h hs
  obtain ⟨p, xs, i, z, rfl, rfl, hq, he, q⟩ := h
  cases rx
  obtain ⟨t, rfl⟩ := ry
  obtain ⟨its, r, pl, hz⟩ := I.tuple hq
  obtain ⟨j, h1, h2, h3, h4, h5⟩ := atI_get he
  obtain ⟨w, ew, rw'⟩ := r.get h2
  have hl := r.length
  have hn := line63
  have fin : EP X pins σ Q w s := ⟨z, H, I, rw', q⟩
  exact subscriptTail_builtinR (x := w) pl.typeIs slot_tuple_getitem.lookup
    (getItem_tuple (j := j) (Q := fun r s' => r = w ∧ EP X pins σ Q r s') pl (by omega) (by omega) (by rw [List.size_toArray, ← hl]; exact h1) (by simpa using ew) ⟨rfl, fin⟩) hs
theorem ix_str : IxR X rIxS := by
  intro value slice pins s σ H x y v u Q I rx ry h hs
  obtain ⟨z, i, c, rfl, rfl, hz, he, q⟩ := h
  obtain ⟨t, rfl⟩ := rx
  obtain ⟨t', rfl⟩ := ry
  obtain ⟨j, h1, h2, h3, h4, h5⟩ := atI_get he
  have hl : z.cps.toList.length = z.length := by simp [Str.length]
  rw [hl] at h1 h4 h5
  have hn := line63
  exact tail_any (typeIs_str s z t) slot_str_getitem.lookup (getItem_str (c := c) (by
    have e1 : decide (i < -(2 ^ 63 : Int)) = false := decide_eq_false (by omega)
    have e2 : decide (i ≥ 2 ^ 63) = false := decide_eq_false (by omega)
    rw [e1, e2, Bool.or_false]) (by rw [h1]; simpa using h2) ⟨.str ⟨#[c]⟩, H, I.tok _, ⟨_, rfl⟩, q⟩) hs
/-- list, tuple or str -/
def rIx (K : PySem.W.Frag) : R2 := fun x y H Q => rIxL K x y H Q ∨ rIxT K x y H Q ∨ rIxS x y H Q
theorem ix_seq : IxR X (rIx X.K) := ix_list.or (ix_tup.or ix_str)

/-! ### xs[i] = v, any sign -/
/-- the list's object behind a store -/
theorem mapSeq_set (its : List Value) (n j : Nat) (u : Value) : Obj.mapSeq (·.setIfInBounds j u) { cls := .type "list", data := .seq its.toArray n } = { cls := .type "list", data := .seq (its.set j u).toArray n } := by
  simp [Obj.mapSeq]
theorem Inv.lst {pins : List (Addr × Obj)} {σ : St} {H : Hp} {s : Shared} {p : Addr} {xs : List V} (I : Inv X pins σ H s) (h : H p = some (.lst xs)) :
    ∃ (its : List Value) (n : Nat), Vals xs its ∧ s.heap.get? p = some { cls := .type "list", data := .seq its.toArray n } ∧ xs.length ≤ sizeLine := by
  obtain ⟨z, its, n, r, e⟩ := I.hok p _ h
  exact ⟨its, n, r, e, z⟩
/-- the list at p is written by an update of its object -/
theorem Inv.lstUpd {pins : List (Addr × Obj)} {σ : St} {H : Hp} {s : Shared} {p : Addr} {xs ys : List V} {its its' : List Value} {n n' : Nat} {f : Obj → Obj} (I : Inv X pins σ H s) (h : H p = some (.lst xs))
    (ho : s.heap.get? p = some { cls := .type "list", data := .seq its.toArray n }) (hf : f { cls := .type "list", data := .seq its.toArray n } = { cls := .type "list", data := .seq its'.toArray n' }) (r : Vals ys its') (hz : ys.length ≤ sizeLine) (t : Nat) :
    Inv X pins σ (upd H p (.lst ys)) { s with heap := s.heap.update p f, toks := t } := by
  have e : (s.heap.update p f).get? p = some { cls := .type "list", data := .seq its'.toArray n' } := by
    rw [Heap.get?_update_self f ho (by rw [hf] <;> rfl), hf]
  refine I.write (x := p) (e := p) (by rw [h]; trivial) (.inl rfl) (fun b u hb q => (Heap.get?_update_other _ _ (Ne.symm hb)).trans q) ⟨_, e⟩ ?_
  exact ⟨hz, its', n', r, e⟩
def rSetL : V → V → V → Hp → (Hp → Prop) → Prop := fun o i v H Q => ∃ p xs k j, o = .ref p ∧ i = .int k ∧ H p = some (.lst xs) ∧ ixN xs.length k = some j ∧ Q (upd H p (.lst (xs.set j v)))
theorem set_list : PSet X rSetL := by
  intro pins s σ H o i v ov iv u Q I ro ri rv h
  obtain ⟨p, xs, k, j, rfl, rfl, hp, hj, q⟩ := h
  cases ro
  obtain ⟨t, rfl⟩ := ri
  obtain ⟨its, n, r, ho, hz⟩ := I.lst hp
  obtain ⟨h1, h2, h3, h4⟩ := ixN_seq hj
  have hl := r.length
  have hn := line63
  have I' : Inv X pins σ (upd H p (.lst (xs.set j v))) { s with heap := s.heap.update p (Obj.mapSeq (·.setIfInBounds j u)) } :=
    I.lstUpd hp ho (mapSeq_set its n j u) (r.set rv j) (by rw [List.length_set]; exact hz) s.toks
  by_cases h0 : 0 ≤ k
  · have hk : k.toNat = j := by
      rw [seqIndex_of h0 h4] at h1
      exact Option.some.inj h1
    exact PySem.W.ki_setAt ho h0 (by omega) (by rw [List.size_toArray, ← hl]; exact h4) (by rw [hk]; exact ⟨_, I', q⟩)
  · have hk : (k + (its.toArray.size : Int)).toNat = j := by
      rw [seqIndex_neg (by omega) h3] at h1
      rw [List.size_toArray, ← hl]
      exact Option.some.inj h1
    exact PySem.W.ki_setBack ho (by omega) (by rw [List.size_toArray, ← hl]; exact h3) (by omega) (by rw [hk]; exact ⟨_, I', q⟩)

/-! ### slices -/
theorem slice_bounds (lo hi : Option Int) (n : Nat) : (sliceBounds lo hi none n).1 = ((HT.sIx n 0 lo : Nat) : Int) ∧ (sliceBounds lo hi none n).2.1 = ((HT.sIx n n hi : Nat) : Int) ∧ (sliceBounds lo hi none n).2.2 = 1 := by
  refine ⟨?_, ?_, rfl⟩
  · cases lo with
    | none => simp [sliceBounds, HT.sIx]
    | some i =>
      simp only [sliceBounds, HT.sIx, Option.getD_none, show (1 : Int) > 0 by decide, if_true]
      by_cases h : i < 0
      · simp only [h, if_true] <;> omega
      · simp only [h, if_false] <;> omega
  · cases hi with
    | none => simp [sliceBounds, HT.sIx]
    | some i =>
      simp only [sliceBounds, HT.sIx, Option.getD_none, show (1 : Int) > 0 by decide, if_true]
      by_cases h : i < 0
      · simp only [h, if_true] <;> omega
      · simp only [h, if_false] <;> omega
theorem slicePick_cut (its : List Value) (lo hi : Option Int) : slicePick its.toArray lo hi none = ((its.drop (HT.sIx its.length 0 lo)).take (HT.sIx its.length its.length hi - HT.sIx its.length 0 lo)).toArray := by
  obtain ⟨h1, h2, h3⟩ := slice_bounds lo hi its.toArray.size
  unfold slicePick
  rw [h1, h2, h3]
  simp only [sliceRange_one, pick_run, List.size_toArray] <;> rfl
/-- xs[lo:hi] of a list: a new list -/
def rSlL (K : PySem.W.Frag) : V → Option Int → Option Int → Hp → VK → Prop := fun x lo hi H Q => ∃ a xs, x = .ref a ∧ SqL K H a xs ∧ ∀ p, H p = none → Q (.ref p) (upd H p (.lst (cutV xs lo hi)))
theorem sl_list : SlR X (rSlL X.K) := by
  intro pins s σ H x v vl vu lo hi sl Q I rx hs pl pu h
  obtain ⟨a, xs, rfl, hx, q⟩ := h
  cases rx
  obtain ⟨its, r, ht, hz⟩ := I.list hx
  have hlen := r.length
  refine ⟨"list", _, slot_list_getitem.lookup, ht.isList.typeIs, ?_⟩
  refine wpAny_getItem_list_slice ht.isList hs pl pu .none (by simp) ?_ (by rw [List.size_toArray] <;> omega)
  rw [slicePick_cut, ← hlen]
  refine ⟨.ref s.heap.objs.size, _, I.laid (t' := s.toks) (o := .lst (cutV xs lo hi)) (fun b ob q => Heap.get?_push_of_some _ q) (Nat.le_refl _) ?_, rfl, q _ (I.hok.fresh (Nat.le_refl _))⟩
  exact ⟨Nat.le_trans (cutV_length xs lo hi) hz, _, 0, (r.drop (HT.sIx xs.length 0 lo)).take (HT.sIx xs.length xs.length hi - HT.sIx xs.length 0 lo), Heap.get?_push_size _ rfl⟩

/-! ### in, not in: flat items -/
def flatV : V → Bool
  | .non => true
  | .bl _ => true
  | .int _ => true
  | .str _ => true
  | _ => false
/-- == of flat values -/
def eqV : V → V → Bool
  | .non, .non => true
  | .bl a, .bl b => a == b
  | .bl a, .int b => (if a then 1 else 0) == b
  | .int a, .bl b => a == (if b then 1 else 0)
  | .int a, .int b => a == b
  | .str a, .str b => a == b
  | _, _ => false
theorem eqAt_V {A : Around} {s : Shared} {y x : V} {u v : Value} (ry : RelV y u) (rx : RelV x v) (fy : flatV y = true) (fx : flatV x = true) : SeqAt.EqAt A s u v (eqV y x) := by
  cases y with
  | non =>
    cases ry
    cases x with
    | non => cases rx; exact SeqAt.EqAt.same _
    | bl b => cases rx; exact SeqAt.EqAt.none_bool b
    | int b => obtain ⟨t, rfl⟩ := rx; exact SeqAt.EqAt.none_int b t
    | str b => obtain ⟨t, rfl⟩ := rx; exact SeqAt.EqAt.none_str b t
    | _ => exact absurd (show false = true from fx) Bool.false_ne_true
  | bl a =>
    cases ry
    cases x with
    | non => cases rx; exact SeqAt.EqAt.bool_none a
    | bl b => cases rx; exact SeqAt.EqAt.bool_bool a b
    | int b => obtain ⟨t, rfl⟩ := rx; exact SeqAt.EqAt.bool_int a b t
    | str b => obtain ⟨t, rfl⟩ := rx; exact SeqAt.EqAt.bool_str a b t
    | _ => exact absurd (show false = true from fx) Bool.false_ne_true
  | int a =>
    obtain ⟨t', rfl⟩ := ry
    cases x with
    | non => cases rx; exact SeqAt.EqAt.int_none a t'
    | bl b => cases rx; exact SeqAt.EqAt.int_bool a t' b
    | int b => obtain ⟨t, rfl⟩ := rx; exact SeqAt.EqAt.int_int a t' b t
    | str b => obtain ⟨t, rfl⟩ := rx; exact SeqAt.EqAt.int_str a t' b t
    | _ => exact absurd (show false = true from fx) Bool.false_ne_true
  | str a =>
    obtain ⟨t', rfl⟩ := ry
    cases x with
    | non => cases rx; exact SeqAt.EqAt.str_none a t'
    | bl b => cases rx; exact SeqAt.EqAt.str_bool a t' b
    | int b => obtain ⟨t, rfl⟩ := rx; exact SeqAt.EqAt.str_int a t' b t
    | str b => obtain ⟨t, rfl⟩ := rx; exact SeqAt.EqAt.str_str a t' b t
    | _ => exact absurd (show false = true from fx) Bool.false_ne_true
  | _ => exact absurd (show false = true from fy) Bool.false_ne_true
/-- the items' answers, read off the values (a value's own answer does not lean on its token) -/
def eqU (x : V) (u : Value) : Bool := match u with
  | .none => eqV .non x
  | .bool b => eqV (.bl b) x
  | .int i _ => eqV (.int i) x
  | .str z _ => eqV (.str z) x
  | _ => false
theorem eqU_of {x y : V} {u : Value} (r : RelV y u) (f : flatV y = true) : eqU x u = eqV y x := by
  cases y with
  | non => cases r; rfl
  | bl b => cases r; rfl
  | int i => obtain ⟨t, rfl⟩ := r; rfl
  | str z => obtain ⟨t, rfl⟩ := r; rfl
  | _ => exact absurd (show false = true from f) Bool.false_ne_true
theorem any_eqU {x : V} : ∀ {xs : List V} {us : List Value}, Vals xs us → xs.all flatV = true → us.any (eqU x) = xs.any fun y => eqV y x
  | _, _, .nil, _ => rfl
  | y :: xs, u :: us, .cons r t, f => by
    rw [List.all_cons, Bool.and_eq_true] at f
    rw [List.any_cons, List.any_cons, eqU_of r f.1, any_eqU t f.2]
theorem mem_eqAt {A : Around} {s : Shared} {x : V} {v : Value} (rx : RelV x v) (fx : flatV x = true) : ∀ {xs : List V} {us : List Value}, Vals xs us → xs.all flatV = true → ∀ u ∈ us, SeqAt.EqAt A s u v (eqU x u)
  | _, _, .nil, _ => fun u hu => by cases hu
  | y :: xs, u :: us, .cons r t, f => fun u' hu => by
    rw [List.all_cons, Bool.and_eq_true] at f
    rcases List.mem_cons.mp hu with rfl | hu
    · rw [eqU_of r f.1]; exact eqAt_V r rx f.1 fx
    · exact mem_eqAt rx fx t f.2 u' hu
def inV (x : V) (xs : List V) : Bool := xs.any fun y => eqV y x
/-- x in a list or tuple of flat items -/
def rIn (K : PySem.W.Frag) (neg : Bool) : R2 := fun x y H Q => ∃ p xs, y = .ref p ∧ (SqL K H p xs ∨ SqT K H p xs) ∧ flatV x = true ∧ xs.all flatV = true ∧ Q (.bl (if neg then !inV x xs else inV x xs)) H
theorem op_in_seq : OpR X (compareOp .In) (rIn X.K false) := by
  intro pins s σ H x y v u Q I rx ry h
  obtain ⟨p, xs, rfl, hq, fx, fs, q⟩ := h
  cases ry
  rcases hq with hq | hq
  · obtain ⟨its, r, pl, hz⟩ := I.list hq
    refine SeqAt.in_listAt (eqU x) pl.isList (fun w hw => mem_eqAt rx fx r fs w (by simpa using hw)) ⟨.bl _, H, I, rfl, ?_⟩
    rw [show its.toArray.any (eqU x) = its.any (eqU x) by simp, any_eqU r fs]
    exact q
  · obtain ⟨its, r, pl, hz⟩ := I.tuple hq
    refine SeqAt.in_tupleAt (eqU x) pl (fun w hw => mem_eqAt rx fx r fs w (by simpa using hw)) ⟨.bl _, H, I, rfl, ?_⟩
    rw [show its.toArray.any (eqU x) = its.any (eqU x) by simp, any_eqU r fs]
    exact q
theorem op_notIn_seq : OpR X (compareOp .NotIn) (rIn X.K true) := by
  intro pins s σ H x y v u Q I rx ry h
  obtain ⟨p, xs, rfl, hq, fx, fs, q⟩ := h
  cases ry
  rcases hq with hq | hq
  · obtain ⟨its, r, pl, hz⟩ := I.list hq
    refine SeqAt.notIn_listAt (eqU x) pl.isList (fun w hw => mem_eqAt rx fx r fs w (by simpa using hw)) ⟨.bl _, H, I, rfl, ?_⟩
    rw [show its.toArray.any (eqU x) = its.any (eqU x) by simp, any_eqU r fs]
    exact q
  · obtain ⟨its, r, pl, hz⟩ := I.tuple hq
    refine SeqAt.notIn_tupleAt (eqU x) pl (fun w hw => mem_eqAt rx fx r fs w (by simpa using hw)) ⟨.bl _, H, I, rfl, ?_⟩
    rw [show its.toArray.any (eqU x) = its.any (eqU x) by simp, any_eqU r fs]
    exact q
theorem op_notIn_str : OpR X (compareOp .NotIn) (fun x y H Q => ∃ i j, x = .str i ∧ y = .str j ∧ Q (.bl (!(!(Builtin.Str.occurrences j i 0 j.length 1).isEmpty))) H) := by
  intro pins s σ H x y v u Q I rx ry h
  obtain ⟨i, j, rfl, rfl, q⟩ := h
  obtain ⟨t, rfl⟩ := rx
  obtain ⟨t', rfl⟩ := ry
  exact notIn_str ⟨.bl _, H, I, rfl, q⟩

/-! ### len, list(x), tuple(x) of any list or tuple that is read -/
theorem call_len_seq : CallR X (.builtin "len") (fun xs H Q => ∃ p ys, xs = [.ref p] ∧ (SqL X.K H p ys ∨ SqT X.K H p ys) ∧ Q (.int ys.length) H) := by
  intro pins s σ H xs us Q I r h
  obtain ⟨p, ys, rfl, hq, q⟩ := h
  obtain ⟨u, rfl, rx⟩ := vals1 r
  cases rx
  have hn := line63
  rcases hq with hq | hq
  · obtain ⟨its, r', pl, hz⟩ := I.list hq
    have hlen := r'.length
    exact Calls.call_len_list pl.isList (by simp only [List.size_toArray] <;> omega) ⟨.int ys.length, H, I.tok _, ⟨s.toks + 1, by rw [List.size_toArray, hlen]⟩, q⟩
  · obtain ⟨its, r', pl, hz⟩ := I.tuple hq
    have hlen := r'.length
    exact len_tuple pl (by simp only [List.size_toArray] <;> omega) ⟨.int ys.length, H, I.tok _, ⟨s.toks + 1, by rw [List.size_toArray, hlen]⟩, q⟩
theorem call_len_str : CallR X (.builtin "len") (fun xs H Q => ∃ z, xs = [.str z] ∧ z.length ≤ sizeLine ∧ Q (.int z.length) H) := by
  intro pins s σ H xs us Q I r h
  obtain ⟨z, rfl, hz, q⟩ := h
  obtain ⟨u, rfl, t, rfl⟩ := vals1 r
  have hn := line63
  exact len_str (by omega) ⟨.int z.length, H, I.tok _, ⟨_, rfl⟩, q⟩
theorem CallR.or {f : Value} {r r' : List V → Hp → VK → Prop} (h : CallR X f r) (h' : CallR X f r') : CallR X f (fun xs H Q => r xs H Q ∨ r' xs H Q) := by
  intro pins s σ H xs us Q I rs q
  rcases q with q | q
  · exact h pins s σ H xs us Q I rs q
  · exact h' pins s σ H xs us Q I rs q
theorem call_list_of : CallR X (.type "list") (fun xs H Q => ∃ p ys, xs = [.ref p] ∧ (SqL X.K H p ys ∨ SqT X.K H p ys) ∧ ∀ l, H l = none → Q (.ref l) (upd H l (.lst ys))) := by
  intro pins s σ H xs us Q I r h
  obtain ⟨p, ys, rfl, hq, q⟩ := h
  obtain ⟨u, rfl, rx⟩ := vals1 r
  cases rx
  have fin : ∀ (its : List Value), Vals ys its → ys.length ≤ sizeLine → ∀ (h' : Heap) (c' : Nat), (∀ b o', s.heap.get? b = some o' → h'.get? b = some o') →
      h'.get? s.heap.objs.size = some { cls := .type "list", dict := none, data := .seq its.toArray c', slots := #[] } → EP X pins σ Q (.ref s.heap.objs.size) { s with heap := h' } := fun its r' hz h' c' kp e =>
    ⟨.ref s.heap.objs.size, _, I.laid (t' := s.toks) kp (Nat.le_refl _) (show ObjOk X.prog X.w _ h' _ (.lst ys) from ⟨hz, its, c', r', e⟩), rfl, q _ (I.hok.fresh (Nat.le_refl _))⟩
  rcases hq with hq | hq
  · obtain ⟨its, r', pl, hz⟩ := I.list hq
    have hlen := r'.length
    obtain ⟨o, ho, hc, n, hd⟩ := pl.isList
    exact call_list_seq p (.inl rfl) ho hc hd (fun h' c' kp e => fin its r' hz h' c' kp e) (by simp only [List.size_toArray] <;> omega)
  · obtain ⟨its, r', pl, hz⟩ := I.tuple hq
    have hlen := r'.length
    obtain ⟨o, ho, hc, n, hd⟩ := pl
    exact call_list_seq p (.inr rfl) ho hc hd (fun h' c' kp e => fin its r' hz h' c' kp e) (by simp only [List.size_toArray] <;> omega)
theorem call_tuple_of : CallR X (.type "tuple") (fun xs H Q => ∃ p ys, xs = [.ref p] ∧ ((SqL X.K H p ys ∧ ∀ l, H l = none → Q (.ref l) (upd H l (.tup ys))) ∨ (SqT X.K H p ys ∧ Q (.ref p) H))) := by
  intro pins s σ H xs us Q I r h
  obtain ⟨p, ys, rfl, h⟩ := h
  obtain ⟨u, rfl, rx⟩ := vals1 r
  cases rx
  rcases h with ⟨hq, q⟩ | ⟨hq, q⟩
  · obtain ⟨its, r', pl, hz⟩ := I.list hq
    have hlen := r'.length
    refine call_tuple_list pl.isList (fun h' kp => ?_) (by simp only [List.size_toArray] <;> omega)
    have I1 : Inv X pins σ H { s with heap := h' } := I.kept (t' := s.toks) kp
    have I2 : Inv X pins σ (upd H h'.objs.size (.tup ys)) { s with heap := h'.push { cls := .type "tuple", data := .seq its.toArray } } :=
      I1.laid (t' := s.toks) (fun b o e => Heap.get?_push_of_some _ e) (Nat.le_refl _) (show ObjOk X.prog X.w _ _ _ (.tup ys) from ⟨hz, its, r', IsTup.new _ _⟩)
    exact ⟨.ref h'.objs.size, _, I2, rfl, q _ (I1.hok.fresh (Nat.le_refl _))⟩
  · obtain ⟨its, r', pl, hz⟩ := I.tuple hq
    exact call_tuple_same pl ⟨.ref p, H, I, rfl, q⟩

/-! ### the call of a builtin's method: o.m(..) -/
/-- the value is of that builtin type -/
def tyV (K : PySem.W.Frag) (T : String) (x : V) (H : Hp) : Prop := match x with
  | .str _ => T = "str"
  | .int _ => T = "int"
  | .ref p => (T = "list" ∧ ∃ xs, SqL K H p xs) ∨ (T = "tuple" ∧ ∃ o, K.lookup p = some o ∧ o.cls = .type "tuple" ∧ o.dict = none) ∨
      (T = "dict" ∧ ((∃ kvs, H p = some (.dK kvs)) ∨ ∃ kvs, H p = some (.dT kvs))) ∨ (T = "set" ∧ ∃ S n, H p = some (.set S n))
  | _ => False
theorem tyV_is {pins : List (Addr × Obj)} {σ : St} {H : Hp} {s : Shared} {T : String} {x : V} {v : Value} (I : Inv X pins σ H s) (r : RelV x v) (ty : tyV X.K T x H) :
    s.TypeIs v T ∧ ∀ a, v = .ref a → ∃ ob, s.heap.get? a = some ob ∧ ob.dict = none := by
  cases x with
  | str z =>
    obtain ⟨t, rfl⟩ := r
    cases (show T = "str" from ty)
    exact ⟨typeIs_str s z t, fun _ e => nomatch e⟩
  | int i =>
    obtain ⟨t, rfl⟩ := r
    cases (show T = "int" from ty)
    exact ⟨typeIs_int s i t, fun _ e => nomatch e⟩
  | ref p =>
    cases r
    rcases ty with ⟨rfl, xs, hq⟩ | ⟨rfl, o, hk, hc, hd⟩ | ⟨rfl, hk⟩ | ⟨rfl, S, n, hk⟩
    · obtain ⟨its, _, pl, _⟩ := I.list hq
      refine ⟨pl.isList.typeIs, fun a e => ?_⟩
      cases e
      obtain ⟨o, n, e, c, hd, _⟩ := pl
      exact ⟨o, e, hd⟩
    · refine ⟨⟨o, I.kIn p o hk, hc⟩, fun a e => ?_⟩
      cases e
      exact ⟨o, I.kIn _ o hk, hd⟩
    · have z : ∃ o, s.heap.get? p = some o ∧ o.ExactDict := by
        rcases hk with ⟨kvs, hk⟩ | ⟨kvs, hk⟩
        · obtain ⟨_, _, _, _, o, _, _, e, ex, _⟩ := I.hok p _ hk
          exact ⟨o, e, ex⟩
        · obtain ⟨_, _, _, _, o, _, _, e, ex, _⟩ := I.hok p _ hk
          exact ⟨o, e, ex⟩
      obtain ⟨o, e, ex⟩ := z
      refine ⟨⟨o, e, ex.1⟩, fun a e2 => ?_⟩
      cases e2
      exact ⟨o, e, ex.2.1⟩
    · obtain ⟨o, _, _, _, e, ex, _⟩ := I.hok p _ hk
      refine ⟨⟨o, e, ex.1⟩, fun a e2 => ?_⟩
      cases e2
      exact ⟨o, e, ex.2.1⟩
  | _ => exact False.elim ty
def tBM0 (K : PySem.W.Frag) (T : String) (r : V → List V → Hp → VK → Prop) (to : TE) : TE := fun σ H Q => to σ H fun x H1 => tyV K T x H1 ∧ r x [] H1 Q
def tBM (K : PySem.W.Frag) (T : String) (r : V → List V → Hp → VK → Prop) (to : TE) (t : TA) : TE := fun σ H Q => to σ H fun x H1 => tyV K T x H1 ∧ t σ H1 fun xs H2 => r x xs H2 Q
variable {o e : Expr} {es : List Expr} {to : TE} {t : TA} {name : Str} {apos cpos : Pos} {T id : String} {r : V → List V → Hp → VK → Prop}
theorem pe_bm0 (pa : PlainAttrs T) (slot : Slot T name id) (hty : typeOf (.builtin id) = pure (.type "method_descriptor")) (hm : MtR X id r) (ho : PE X o to)
    (hbase : attributeBase o name X.env (eval o X.env) = eval o X.env := by rfl) (hline : (apos.endLine == cpos.line) = true := by rfl) : PE X (.Call (.Attribute o name apos) [] [] cpos) (tBM0 X.K T r to) := by
  intro pins s σ H Q I h
  refine wpAny_Call_method0_late hbase hline (thn (ho pins s σ H _ I h) fun v s1 ⟨x, H1, I1, r1, ty, q1⟩ => ?_)
  obtain ⟨h1, h2⟩ := tyV_is I1 r1 ty
  exact ⟨T, id, pa, slot, hty, h1, h2, Calls.callWith_builtin rfl (PySem.evalArgs_none (hm pins s1 σ H1 x [] v [] Q I1 r1 .nil q1))⟩
theorem pe_bm (pa : PlainAttrs T) (slot : Slot T name id) (hty : typeOf (.builtin id) = pure (.type "method_descriptor")) (hm : MtR X id r) (ho : PE X o to) (ha : PA X (e :: es) t)
    (hbase : attributeBase o name X.env (eval o X.env) = eval o X.env := by rfl)
    (hfew : ((backTo cpos (starEach (e :: es) X.env)).all (fun x => !x.1) && (backToKw cpos (keywordEach [] X.env)).all (fun x => x.1.isSome)
      && decide ((e :: es).length + ([] : List Keyword).length + (if ([] : List Keyword).isEmpty then 0 else 1) < 30)) = true := by rfl)
    (hline : (apos.endLine == cpos.line) = true := by rfl) (hs : starEach (e :: es) X.env = (false, eval e X.env) :: starEach es X.env := by rfl) (hplain : (backTo cpos (starEach es X.env)).any (·.1) = false := by rfl) :
    PE X (.Call (.Attribute o name apos) (e :: es) [] cpos) (tBM X.K T r to t) := by
  intro pins s σ H Q I h
  refine wpAny_Call_method_late hbase hfew hline rfl (thn (ho pins s σ H _ I h) fun v s1 ⟨x, H1, I1, r1, ty, q1⟩ => ?_)
  obtain ⟨h1, h2⟩ := tyV_is I1 r1 ty
  refine ⟨T, id, pa, slot, hty, h1, h2, ?_⟩
  have hA := ha cpos pins s1 σ H1 _ I1 q1
  rw [hs] at hA ⊢
  refine Calls.callWith_builtin (by show (false || (backTo cpos (starEach es X.env)).any (·.1)) = false; rw [hplain] <;> rfl) (Calls.evalArgs_plain ?_)
  exact thn hA fun us s2 ⟨vs, H2, I2, r2, q2⟩ => hm pins s2 σ H2 x vs v us Q I2 r1 r2 q2
/- xs.append(e), list.index on a module's tuple .. are MtR facts of 06m -/
end
end L2

namespace L2
open PySem PySem.Spec PyProof.Rows

def MtM (X : Cx) (id : String) (r : V → List V → Hp → VK → Prop) : Prop :=
  ∀ (pins : List (Addr × Obj)) (s : Shared) (σ : St) (H : Hp) (x : V) (xs : List V) (v : Value) (us : List Value) (Q : VK), Inv X pins σ H s → RelV x v → Vals xs us → r x xs H Q →
    wpAny (model X.prog X.w) X.A (call (.builtin id) (v :: us)) (EP X pins σ Q) X.xe s

/-! ### lists of values -/
theorem Vals.one : ∀ {x : V} {us : List Value}, Vals [x] us → ∃ u, us = [u] ∧ RelV x u
  | _, _, .cons r .nil => ⟨_, rfl, r⟩
theorem Vals.two : ∀ {x y : V} {us : List Value}, Vals [x, y] us → ∃ u v, us = [u, v] ∧ RelV x u ∧ RelV y v
  | _, _, _, .cons r (.cons q .nil) => ⟨_, _, rfl, r, q⟩
theorem Vals.zero : ∀ {us : List Value}, Vals [] us → us = []
  | _, .nil => rfl
theorem Vals.dropLast {xs : List V} {us : List Value} (h : Vals xs us) : Vals xs.dropLast us.dropLast := by
  induction h with
  | nil => exact .nil
  | cons r t ih =>
    cases t with
    | nil => exact .nil
    | cons q t' => exact .cons r ih
theorem Vals.eraseIdx : ∀ {xs : List V} {us : List Value} (i : Nat), Vals xs us → Vals (xs.eraseIdx i) (us.eraseIdx i)
  | _, _, _, .nil => .nil
  | _, _, 0, .cons _ t => t
  | _, _, i + 1, .cons r t => .cons r (Vals.eraseIdx i t)
theorem Vals.reverse {xs : List V} {us : List Value} (h : Vals xs us) : Vals xs.reverse us.reverse := by
  induction h with
  | nil => exact .nil
  | cons r t ih => rw [List.reverse_cons, List.reverse_cons]; exact Vals.append ih (.cons r .nil)
theorem Vals.rep {xs : List V} {us : List Value} (h : Vals xs us) : ∀ k : Nat, Vals (List.replicate k xs).flatten (List.replicate k us).flatten
  | 0 => .nil
  | k + 1 => by
    rw [List.replicate_succ, List.replicate_succ, List.flatten_cons, List.flatten_cons]
    exact Vals.append h (Vals.rep h k)
theorem erase_last {α : Type} (l : List α) : l.eraseIdx (l.length - 1) = l.dropLast := by
  induction l with
  | nil => rfl
  | cons a r ih =>
    cases r with
    | nil => rfl
    | cons b r =>
      have e : (a :: b :: r).length - 1 = ((b :: r).length - 1) + 1 := by
        have h1 : (a :: b :: r).length = r.length + 2 := rfl
        have h2 : (b :: r).length = r.length + 1 := rfl
        omega
      rw [e, List.eraseIdx_cons_succ, ih]
      all_goals rfl
theorem len_erase {α : Type} : ∀ (l : List α) (i : Nat), (l.eraseIdx i).length ≤ l.length
  | [], _ => Nat.le_refl _
  | _ :: _, 0 => Nat.le_succ _
  | _ :: r, i + 1 => Nat.succ_le_succ (len_erase r i)
theorem foldl_rep (its : List Value) : ∀ (k : Nat) (acc : List Value),
    List.foldl (fun x1 x2 => x1 ++ x2) acc.toArray (List.replicate k its.toArray) = (acc ++ (List.replicate k its).flatten).toArray
  | 0, acc => by simp
  | k + 1, acc => by
    have e : acc.toArray ++ its.toArray = (acc ++ its).toArray := by simp
    have e2 : (acc ++ its) ++ (List.replicate k its).flatten = acc ++ (List.replicate (k + 1) its).flatten := by
      rw [List.replicate_succ, List.flatten_cons, List.append_assoc]
    rw [← e2, ← foldl_rep its k (acc ++ its), ← e, List.replicate_succ, List.foldl_cons]

section
variable {X : Cx} {pins : List (Addr × Obj)} {σ : St} {H : Hp} {s : Shared} {l b : Addr} {xs ys zs : List V}

/-! ### the two steps: a tracked list is rewritten, a new list is laid -/
theorem Inv.lset {its its' : List Value} {n : Nat} {f : Array Value → Array Value} {t' : Nat} (I : Inv X pins σ H s) (hH : H l = some (.lst xs))
    (e : s.heap.get? l = some { cls := .type "list", data := .seq its.toArray n }) (hf : f its.toArray = its'.toArray) (hv : Vals ys its') (hz : ys.length ≤ sizeLine) :
    Inv X pins σ (upd H l (.lst ys)) { s with heap := s.heap.update l (Obj.mapSeq f), toks := t' } := by
  have q := PySem.IsL.update e f
  rw [hf] at q
  refine I.write (x := l) (e := l) (by rw [hH]; exact trivial) (.inl rfl) (fun b' u hb hu => (Heap.get?_update_other s.heap (Obj.mapSeq f) (Ne.symm hb)).trans hu) ⟨_, q⟩ ?_
  exact ⟨hz, its', _, hv, q⟩
theorem Inv.lnew {its : List Value} {t' : Nat} (I : Inv X pins σ H s) (hv : Vals ys its) (hz : ys.length ≤ sizeLine) :
    Inv X pins σ (upd H s.heap.objs.size (.lst ys)) { s with heap := s.heap.push { cls := .type "list", data := .seq its.toArray }, toks := t' } :=
  I.laid (fun _ _ q => Heap.get?_push_of_some _ q) (Nat.le_refl _) ⟨hz, its, 0, hv, Heap.get?_push_size _ rfl⟩
theorem Inv.fresh (I : Inv X pins σ H s) : H s.heap.objs.size = none := I.hok.fresh (Nat.le_refl _)
theorem Inv.lstM (I : Inv X pins σ H s) (hH : H l = some (.lst xs)) : xs.length ≤ sizeLine ∧ ∃ (its : List Value) (n : Nat), Vals xs its ∧ xs.length = its.length ∧ s.heap.get? l = some { cls := .type "list", data := .seq its.toArray n } := by
  obtain ⟨z, its, n, r, e⟩ := I.hok l _ hH
  exact ⟨z, its, n, r, r.length, e⟩

theorem notLongL {n : Nat} (h : n ≤ sizeLine) : Builtin.List.listTooLong n = false := by
  unfold Builtin.List.listTooLong
  exact decide_eq_false (by omega)
end

section
variable {X : Cx}

/-! ### methods -/
def rAppend : V → List V → Hp → VK → Prop := fun x vs H Q => ∃ l xs y, x = .ref l ∧ vs = [y] ∧ H l = some (.lst xs) ∧ xs.length < sizeLine ∧ Q .non (upd H l (.lst (xs ++ [y])))
theorem mt_append : MtM X "list.append" rAppend := by
  intro pins s σ H x vs v us Q I rx rv h
  obtain ⟨l, xs, y, rfl, rfl, hH, hz, q⟩ := h
  cases rx
  obtain ⟨u, rfl, ru⟩ := rv.one
  obtain ⟨z, its, n, r, hl, e⟩ := I.lstM hH
  refine call_meets F.slot_list_append ⟨_, e, rfl⟩ F.entry_list_append (F.args_list_append_2 _ _) (PySem.list_append l its.toArray n u (by rw [List.size_toArray]; omega)) ⟨e, ?_⟩
  refine ⟨.non, _, I.lset (its' := its ++ [u]) hH e (by simp) (r.append (.cons ru .nil)) ?_, rfl, q⟩
  rw [List.length_append, List.length_singleton]
  omega

def rExtend : V → List V → Hp → VK → Prop := fun x vs H Q => ∃ l b xs zs, x = .ref l ∧ vs = [.ref b] ∧ H l = some (.lst xs) ∧ H b = some (.lst zs) ∧ xs.length + zs.length ≤ sizeLine ∧ Q .non (upd H l (.lst (xs ++ zs)))
theorem mt_extend : MtM X "list.extend" rExtend := by
  intro pins s σ H x vs v us Q I rx rv h
  obtain ⟨l, b, xs, zs, rfl, rfl, hH, hB, hz, q⟩ := h
  cases rx
  obtain ⟨u, rfl, ru⟩ := rv.one
  cases ru
  obtain ⟨z, its, n, r, hl, e⟩ := I.lstM hH
  obtain ⟨z2, its2, n2, r2, hl2, e2⟩ := I.lstM hB
  have hsz : its.toArray.size + its2.toArray.size ≤ sizeLine := by rw [List.size_toArray, List.size_toArray]; omega
  have hlong : ¬ (!its.toArray.isEmpty && Builtin.List.listTooLong (its.toArray.size + its2.toArray.size)) = true := by
    rw [notLongL hsz, Bool.and_false]
    exact Bool.false_ne_true
  refine call_meets F.slot_list_extend ⟨_, e, rfl⟩ F.entry_list_extend (F.args_list_extend_2 _ _)
    (AutoSeq1.list_extend_list_list_0 l its.toArray n b its2.toArray n2 hlong (by rw [List.size_toArray]; omega) (by omega)) ⟨e, e2, ?_⟩
  refine ⟨.non, _, I.lset (its' := its ++ its2) hH e (by simp) (r.append r2) ?_, rfl, q⟩
  rw [List.length_append]
  omega

def rPop : V → List V → Hp → VK → Prop := fun x vs H Q => ∃ l xs y, x = .ref l ∧ vs = [] ∧ H l = some (.lst xs) ∧ xs[xs.length - 1]? = some y ∧ Q y (upd H l (.lst xs.dropLast))
theorem mt_pop : MtM X "list.pop" rPop := by
  intro pins s σ H x vs v us Q I rx rv h
  obtain ⟨l, xs, y, rfl, rfl, hH, hy, q⟩ := h
  cases rx
  have hus := rv.zero
  subst hus
  obtain ⟨z, its, n, r, hl, e⟩ := I.lstM hH
  obtain ⟨u, hu, ru⟩ := r.get hy
  have hy' : its.toArray[its.toArray.size - 1]? = some u := by
    show its.toArray[its.length - 1]? = some u
    rw [← Array.getElem?_toList, ← hl]
    exact hu
  refine call_meets F.slot_list_pop ⟨_, e, rfl⟩ F.entry_list_pop (F.args_list_pop_1 _) (MeetsSeq.list_pop_last l its.toArray n u hy' (by rw [List.size_toArray]; omega)) ⟨e, ?_⟩
  refine ⟨y, _, I.lset (its' := its.dropLast) hH e ?_ r.dropLast ?_, ru, q⟩
  · show its.toArray.eraseIdxIfInBounds (its.toArray.size - 1) = its.dropLast.toArray
    rw [List.size_toArray, List.eraseIdxIfInBounds_toArray, erase_last]
  · rw [List.length_dropLast]
    omega

def rPopAt : V → List V → Hp → VK → Prop := fun x vs H Q => ∃ l xs i k y, x = .ref l ∧ vs = [.int i] ∧ H l = some (.lst xs) ∧ -(2 ^ 63) ≤ i ∧ i < 2 ^ 63 ∧ seqIndex? i xs.length = some k ∧ xs[k]? = some y ∧ Q y (upd H l (.lst (xs.eraseIdx k)))
theorem mt_popAt : MtM X "list.pop" rPopAt := by
  intro pins s σ H x vs v us Q I rx rv h
  obtain ⟨l, xs, i, k, y, rfl, rfl, hH, h1, h2, hk, hy, q⟩ := h
  cases rx
  obtain ⟨u, rfl, ru⟩ := rv.one
  obtain ⟨t, rfl⟩ := ru
  obtain ⟨z, its, n, r, hl, e⟩ := I.lstM hH
  obtain ⟨w, hw, rw'⟩ := r.get hy
  refine call_meets F.slot_list_pop ⟨_, e, rfl⟩ F.entry_list_pop (F.args_list_pop_2 _ _)
    (MeetsSeq.list_pop_at l its.toArray n i t k w (fitsIndex_both h1 h2) (by rw [List.size_toArray, ← hl]; exact hk) (by rw [← Array.getElem?_toList]; exact hw) (by rw [List.size_toArray]; omega)) ⟨e, ?_⟩
  refine ⟨y, _, I.lset (its' := its.eraseIdx k) hH e ?_ (r.eraseIdx k) ?_, rw', q⟩
  · show its.toArray.eraseIdxIfInBounds k = (its.eraseIdx k).toArray
    rw [List.eraseIdxIfInBounds_toArray]
  · have := len_erase xs k
    omega

def rReverse : V → List V → Hp → VK → Prop := fun x vs H Q => ∃ l xs, x = .ref l ∧ vs = [] ∧ H l = some (.lst xs) ∧ Q .non (upd H l (.lst xs.reverse))
theorem mt_reverse : MtM X "list.reverse" rReverse := by
  intro pins s σ H x vs v us Q I rx rv h
  obtain ⟨l, xs, rfl, rfl, hH, q⟩ := h
  cases rx
  have hus := rv.zero
  subst hus
  obtain ⟨z, its, n, r, hl, e⟩ := I.lstM hH
  refine call_meets F.slot_list_reverse ⟨_, e, rfl⟩ F.entry_list_reverse (F.args_list_reverse_1 _) (AutoSeq1.list_reverse_list_0 l its.toArray n (by rw [List.size_toArray]; omega)) ⟨e, ?_⟩
  refine ⟨.non, _, I.lset (its' := its.reverse) hH e (by simp) r.reverse ?_, rfl, q⟩
  rw [List.length_reverse]
  omega

def rClear : V → List V → Hp → VK → Prop := fun x vs H Q => ∃ l xs, x = .ref l ∧ vs = [] ∧ H l = some (.lst xs) ∧ Q .non (upd H l (.lst []))
theorem mt_clear : MtM X "list.clear" rClear := by
  intro pins s σ H x vs v us Q I rx rv h
  obtain ⟨l, xs, rfl, rfl, hH, q⟩ := h
  cases rx
  have hus := rv.zero
  subst hus
  obtain ⟨z, its, n, r, hl, e⟩ := I.lstM hH
  refine call_meets F.slot_list_clear ⟨_, e, rfl⟩ F.entry_list_clear (F.args_list_clear_1 _) (AutoSeq1.list_clear_list_0 l its.toArray n (by rw [List.size_toArray]; omega)) ⟨e, ?_⟩
  exact ⟨.non, _, I.lset (its' := []) (ys := []) hH e rfl .nil (Nat.zero_le _), rfl, q⟩

/-! ### list + list, list += list, list * int -/
def rCat : R2 := fun x y H Q => ∃ l b xs zs, x = .ref l ∧ y = .ref b ∧ H l = some (.lst xs) ∧ H b = some (.lst zs) ∧ xs.length + zs.length ≤ sizeLine ∧ ∀ p, H p = none → Q (.ref p) (upd H p (.lst (xs ++ zs)))
theorem op_cat : OpR X (binaryOp .Add) rCat := by
  intro pins s σ H x y v u Q I rx ry h
  obtain ⟨l, b, xs, zs, rfl, rfl, hH, hB, hz, q⟩ := h
  cases rx
  cases ry
  obtain ⟨z, its, n, r, hl, e⟩ := I.lstM hH
  obtain ⟨z2, its2, n2, r2, hl2, e2⟩ := I.lstM hB
  refine PySem.P.add_list e e2 ?_ (by rw [List.size_toArray, List.size_toArray]; omega)
  have ea : its.toArray ++ its2.toArray = (its ++ its2).toArray := by simp
  rw [ea]
  exact ⟨.ref _, _, I.lnew (t' := s.toks) (r.append r2) (by rw [List.length_append]; omega), rfl, q _ I.fresh⟩
/-- a list times an int (a negative one is nothing) -/
def rRep : R2 := fun x y H Q => ∃ l k xs, x = .ref l ∧ y = .int k ∧ H l = some (.lst xs) ∧ -(2 ^ 63) ≤ k ∧ k < 2 ^ 63 ∧ xs.length * k.toNat ≤ sizeLine ∧
  ∀ p, H p = none → Q (.ref p) (upd H p (.lst (List.replicate k.toNat xs).flatten))
theorem len_rep {α : Type} (xs : List α) (k : Nat) : (List.replicate k xs).flatten.length = k * xs.length := by
  induction k with
  | zero => simp
  | succ k ih => rw [List.replicate_succ, List.flatten_cons, List.length_append, ih, Nat.succ_mul, Nat.add_comm]
theorem op_rep : OpR X (binaryOp .Mult) rRep := by
  intro pins s σ H x y v u Q I rx ry h
  obtain ⟨l, k, xs, rfl, rfl, hH, h1, h2, hz, q⟩ := h
  cases rx
  obtain ⟨t, rfl⟩ := ry
  obtain ⟨z, its, n, r, hl, e⟩ := I.lstM hH
  have hlen : its.toArray.size * k.toNat ≤ sizeLine := by rw [List.size_toArray, ← hl]; exact hz
  have hcap : ¬ its.toArray.size * k.toNat > (2 ^ 63 - 1) / 8 := by
    have : (sizeLine : Nat) ≤ (2 ^ 63 - 1) / 8 := by decide
    omega
  have hfit : ¬ (!Builtin.List.listFitsIndex k) = true := by
    rw [fitsIndex_both h1 h2]
    exact Bool.false_ne_true
  have hlong : ¬ Builtin.List.listTooLong (its.toArray.size * k.toNat) = true := by
    rw [notLongL hlen]
    exact Bool.false_ne_true
  have hnew : List.foldl (fun x1 x2 => x1 ++ x2) #[] (List.replicate (if its.toArray.isEmpty = true then 0 else k.toNat) its.toArray) = (List.replicate k.toNat its).flatten.toArray := by
    have f0 : ∀ m : Nat, List.foldl (fun x1 x2 => x1 ++ x2) #[] (List.replicate m its.toArray) = (List.replicate m its).flatten.toArray := fun m => by
      have := foldl_rep its m []
      rw [List.nil_append] at this
      exact this
    rw [f0]
    cases its with
    | nil => simp
    | cons a r' => rw [if_neg (by simp)]
  refine wpAny_binaryOp_repeat_ref (T := "list") (U := "int") (by decide) ⟨_, e, rfl⟩ (fun s' => typeIs_int s' k t) noFill_list_mul F.fills_int_mul F.slot_int_rmul repeat_list F.slot_int_index.lookup
    (call_meets F.slot_int_rmul (typeIs_int s k t) F.entry_int_rmul (F.args_int_rmul_2 _ _) (int___rmul___int_list k t l its.toArray n)
      ⟨e, rfl, ⟨_, e, rfl⟩, call_meets F.slot_list_mul ⟨_, e, rfl⟩ F.entry_list_mul (F.args_list_mul_2 _ _) (AutoListH.list___mul___list_int_3 l its.toArray n k t hfit hcap hlong) ⟨e, ?_⟩⟩)
  rw [hnew]
  exact ⟨.ref _, _, I.lnew (t' := s.toks) (r.rep k.toNat) (by rw [len_rep, Nat.mul_comm]; exact hz), rfl, q _ I.fresh⟩

/-! ### del xs[i] -/
theorem del_list {pins : List (Addr × Obj)} {s : Shared} {σ : St} {H : Hp} {l : Addr} {xs : List V} {i : Int} {t : Tok} {k : Nat} {Q : Unit → Shared → Prop} (I : Inv X pins σ H s) (hH : H l = some (.lst xs))
    (h1 : -(2 ^ 63) ≤ i) (h2 : i < 2 ^ 63) (hk : seqIndex? i xs.length = some k) (h : ∀ s', Inv X pins σ (upd H l (.lst (xs.eraseIdx k))) s' → Q () s') :
    wpAny (model X.prog X.w) X.A (delItem (.ref l) (.int i t)) Q X.xe s := by
  obtain ⟨z, its, n, r, hl, e⟩ := I.lstM hH
  refine PySem.P.delItem_list (k := k) e (fitsIndex_both h1 h2) (by rw [List.size_toArray, ← hl]; exact hk) (h _ ?_) (by rw [List.size_toArray]; omega)
  refine I.lset (its' := its.eraseIdx k) (t' := s.toks) hH e ?_ (r.eraseIdx k) ?_
  · show its.toArray.eraseIdxIfInBounds k = (its.eraseIdx k).toArray
    rw [List.eraseIdxIfInBounds_toArray]
  · have := len_erase xs k
    omega
end

/-! ### xs[a:b] = ys -/
section
variable {prog : Program} {w : World} {A : Around} {E : Value → Shared → Prop} {s : Shared}
theorem splice_eq (its its2 : List Value) (a c : Nat) : its.toArray.extract 0 a ++ its2.toArray ++ its.toArray.extract c its.toArray.size = (its.take a ++ its2 ++ its.drop c).toArray := by
  apply Array.toList_inj.mp
  first
    | (simp
       exact List.take_of_length_le (by simp))
    | simp [List.take_of_length_le]
    | simp
theorem bounds_run {a c n : Nat} (hac : a ≤ c) (hc : c ≤ n) : sliceBounds (some (a : Int)) (some (c : Int)) none n = ((a : Int), (c : Int), 1) := by
  simp only [sliceBounds, Option.getD_none]
  have h1 : ¬ ((a : Int) < 0) := by omega
  have h2 : ¬ ((c : Int) < 0) := by omega
  simp only [h1, h2, if_false, show (1 : Int) > 0 by decide, if_true]
  congr 1
  · omega
  · congr 1; omega
set_option maxRecDepth 100000 in
/-- list.__setitem__ with a slice of step one and another list -/
theorem setItem_slice {l b sl : Addr} {items new : Array Value} {n n2 : Nat} {vl vu : Value} {a c : Nat} {Q : Unit → Shared → Prop}
    (e : s.heap.get? l = some { cls := .type "list", data := .seq items n }) (e2 : s.heap.get? b = some { cls := .type "list", data := .seq new n2 }) (hne : l ≠ b)
    (hs : s.heap.IsSliceOf sl vl vu .none) (pl : IsPart vl (some (a : Int))) (pu : IsPart vu (some (c : Int))) (hac : a ≤ c) (hc : c ≤ items.size)
    (hsz : items.size + new.size ≤ sizeLine) (h : Q () { s with heap := s.heap.update l (Obj.mapSeq fun xs => xs.extract 0 a ++ new ++ xs.extract c xs.size) }) :
    wpAny (model prog w) A (setItem (.ref l) (.ref sl) (.ref b)) Q E s := by
  have hl : s.heap.IsList l items := PySem.IsL.isList e
  have hb : s.heap.IsList b new := PySem.IsL.isList e2
  obtain ⟨os, hos, hcs, hds⟩ := id hs
  have hTs : s.TypeIs (.ref sl) "slice" := ⟨os, hos, hcs⟩
  have hstep : ¬ ((rawPart none == rawInt 0) = true) := Bool.false_ne_true
  have hsame : Builtin.List.listSameRef (.ref l) (.ref b) = false := by
    unfold Builtin.List.listSameRef
    exact beq_eq_false_iff_ne.mpr hne
  have hmax : (max (a : Int) (c : Int)).toNat = c := by omega
  have hz' : ((fun xs : Array Value => xs.extract 0 a ++ new ++ xs.extract c xs.size) items).size ≤ sizeLine + 1 := by
    simp only [Array.size_append, Array.size_extract]
    omega
  unfold setItem
  try with_reducible refine wpAny_holding ?_
  first | refine wpAny_bind (wpAny_pure ?_) | skip
  refine wpAny_bind (wpAny_sequenceKey hl.typeIs (by decide) ?_)
  refine wpAny_bind (wpAny_callSpecial?_slot (name := Str.ofString "__setitem__") hl.typeIs slot_list_setitem
    (wpAny_call_entry slot_list_setitem hl.typeIs entry_list_setitem ?_ (args_list_setitem _ _ _)))
  show wpAny _ _ (Builtin.List.listSubscript? (.ref sl) >>= _) _ _ s
  refine wpAny_bind ?_
  unfold Builtin.List.listSubscript?
  refine wpAny_bind (wpAny_specialOf hTs slice_no_index ?_)
  simp only [Option.isNone_none, if_true]
  refine wpAny_pure ?_
  show wpAny _ _ (typeOf (.ref sl) >>= _) _ _ s
  refine wpAny_bind (wpAny_typeOf hTs ?_)
  first
    | rw [if_neg (by decide)]
    | refine PySem.W.KFB.if_not (by decide) ?_
  rw [listSliceParts_eq]
  refine wpAny_bind (wpAny_bind (wpAny_field hos hds (x := .none) rfl (wpAny_bind (wpAny_listPart .none ?_))))
  rw [if_neg hstep]
  refine wpAny_bind (wpAny_field hos hds (x := vl) rfl (wpAny_bind (wpAny_listPart pl ?_)))
  refine wpAny_bind (wpAny_field hos hds (x := vu) rfl (wpAny_bind (wpAny_listPart pu (wpAny_pure ?_))))
  first
    | simp only [hsame, Bool.false_eq_true, if_false]
    | refine PySem.W.KFB.if_not hsame ?_
    | (dsimp only
       rw [if_neg (by rw [hsame]; exact Bool.false_ne_true)])
  refine wpAny_bind (m := Builtin.List.listAllItems (.ref b) "must assign iterable to extended slice") ?_
  unfold Builtin.List.listAllItems
  refine wpAny_bind (wpAny_typeOf hb.typeIs ?_)
  first
    | refine PySem.W.KFB.if_so (by decide) ?_
    | rw [if_pos (by decide)]
    | simp only [beq_self_eq_true, Bool.true_or, if_true]
  unfold Builtin.List.listItems
  refine wpAny_bind (wpAny_seqItems e2 rfl (wpAny_pure ?_))
  refine wpAny_bind (wpAny_bind (wpAny_seqItems e rfl (wpAny_pure ?_)))
  refine wpAny_bind (wpAny_of_eq ((sliceIndices_raw (some (a : Int)) (some (c : Int)) none items.size (by simp)).trans (congrArg (pure : Int × Int × Int → Sem (Int × Int × Int)) (bounds_run hac hc))) ?_)
  show wpAny _ _ (if ((1 : Int) == 1) = true then _ else _) _ _ s
  rw [if_pos (by decide)]
  refine wpAny_bind (wpAny_rule ?_)
  first
    | simp only [notLongL hsz, Bool.false_eq_true, if_false]
    | refine PySem.W.KFB.if_not (notLongL hsz) ?_
  first | refine wpAny_bind (wpAny_pure ?_) | skip
  show wpAny _ _ (updateSeq l (fun xs => xs.extract 0 ((a : Int)).toNat ++ new ++ xs.extract (max (a : Int) (c : Int)).toNat xs.size) >>= _) _ _ s
  rw [hmax, Int.toNat_natCast]
  refine wpAny_bind (wpAny_updateSeq (hz := Nat.le_trans (Nat.le_add_right _ _) hsz) (_hz' := hz') e rfl ?_)
  refine wpAny_bind (wpAny_letGo ?_)
  first
    | exact wpAny_bind (wpAny_pure (wpAny_pure ⟨.none, rfl, wpAny_pure h⟩))
    | exact wpAny_pure ⟨.none, rfl, wpAny_pure h⟩
end

section
variable {X : Cx}
/-- xs[a:c] = ys of another list, at the value level: sl is the slice object that was just made -/
theorem set_slice {pins : List (Addr × Obj)} {s : Shared} {σ : St} {H : Hp} {l b sl : Addr} {xs ys : List V} {a c : Int} {vl vu : Value} {Q : Unit → Shared → Prop} (I : Inv X pins σ H s)
    (hH : H l = some (.lst xs)) (hB : H b = some (.lst ys)) (hne : l ≠ b) (hs : s.heap.IsSliceOf sl vl vu .none) (ra : RelV (.int a) vl) (rc : RelV (.int c) vu) (h0 : 0 ≤ a) (hac : a ≤ c) (hc : c ≤ xs.length)
    (hz : xs.length + ys.length ≤ sizeLine) (h : ∀ s', Inv X pins σ (upd H l (.lst (xs.take a.toNat ++ ys ++ xs.drop c.toNat))) s' → Q () s') :
    wpAny (model X.prog X.w) X.A (setItem (.ref l) (.ref sl) (.ref b)) Q X.xe s := by
  obtain ⟨ta, rfl⟩ := ra
  obtain ⟨tc, rfl⟩ := rc
  obtain ⟨z, its, n, r, hl, e⟩ := I.lstM hH
  obtain ⟨z2, its2, n2, r2, hl2, e2⟩ := I.lstM hB
  obtain ⟨a', rfl⟩ := Int.eq_ofNat_of_zero_le h0
  obtain ⟨c', rfl⟩ := Int.eq_ofNat_of_zero_le (Int.le_trans h0 hac)
  simp only [Int.toNat_natCast] at h
  refine setItem_slice (a := a') (c := c') e e2 hne hs (.int _ _) (.int _ _) (by omega) (by rw [List.size_toArray]; omega) (by rw [List.size_toArray, List.size_toArray]; omega) (h _ ?_)
  refine I.lset (its' := its.take a' ++ its2 ++ its.drop c') (t' := s.toks) hH e ?_ (Vals.append (Vals.append (r.take _) r2) (r.drop _)) ?_
  · exact splice_eq its its2 a' c'
  · rw [List.length_append, List.length_append, List.length_take, List.length_drop]
    omega
end
end L2

namespace Att
open PySem PySem.W PySem.Calls PyProof.Rows

/-! ### the script -/
theorem ints_of_wellAll {P : Params} {h : Heap} : ∀ (ns : List Int) (vs : List Value), WellAll P h vs (ns.map WData.int) → IntsAre vs ns := by
  intro ns
  induction ns with
  | nil =>
    intro vs w
    rw [List.map_nil] at w
    cases w
    exact .nil
  | cons n ns ih =>
    intro vs w
    rw [List.map_cons] at w
    cases w with
    | cons a b =>
      cases a
      exact .cons _ _ (ih _ b)

theorem script_of {l : OpenLaw} {n : Nat} (hn : l.most = some n) {P : Params} {h : Heap} {args : List WData} {vals : List Value}
    (hpre : l.row.toRowW.claim.pre args = true) (hwl : WellAll P h vals args) :
    ∃ a vs ns, vals = [Value.ref a] ∧ args = [WData.list (ns.map WData.int)] ∧ h.get? a = some { cls := .type "list", data := .seq vs.toArray } ∧ IntsAre vs ns ∧ ns.length ≤ n := by
  have hsh : WShape.hasAll [] args [.list .int] = true := (pre_splitW hpre).1
  have hc : l.pre.holds [] { args := args } = true := (pre_splitW hpre).2
  obtain ⟨d, r, rfl, h1, h2⟩ := hasAllW_cons hsh
  obtain rfl := hasAllW_nil h2
  obtain ⟨xs, rfl, h3⟩ := hasW_list h1
  obtain ⟨ns, rfl⟩ := items_int h3
  have hlen : ns.length ≤ n := by
    unfold OpenLaw.pre at hc
    have h4 : (WTm.not (.lt (.lit (.int (n : Int))) (.len (.arg 0)))).holds [] { args := [.list (ns.map .int)] } = true := by
      have h4 := (holds_andW hc).1
      rw [hn] at h4
      exact h4
    have h5 := condW_of h4 (w_not (w_lt w_lit (w_len_list (w_arg rfl))))
    rw [List.length_map] at h5
    refine Nat.le_of_not_lt fun q => ?_
    have q' : (n : Int) < ((ns.length : Nat) : Int) := by omega
    first
      | (rw [decide_eq_true q'] at h5; exact absurd h5 (by decide))
      | (simp at h5; omega)
  cases hwl with
  | cons w1 w2 =>
    cases w2
    cases w1 with
    | list ho hall => exact ⟨_, _, ns, rfl, rfl, ho, ints_of_wellAll ns _ hall, hlen⟩

theorem post_true (l : OpenLaw) (args : List WData) : l.row.toRowW.claim.post args (.bool true) args = true :=
  postW_of (r := l.row.toRowW) (X := (true == true))
    (show WShape.has [] (.bool true) .bool = true by first | rfl | decide | simp [WShape.has, WShape.arms, WShape.armsAll])
    (show (WTm.eq .res (.lit (.bool true))).value [] { args := args, res := some (.bool true), after := args } = some (.bool (true == true)) from w_eq_bool (w_res rfl) w_lit) rfl

/-! ### the attachment: holds_open's last premise (the goal 'hc' behind k_head) from a wpAny of the law's body -/
theorem attach {l : OpenLaw} {n : Nat} {q : Program} {loose : List Str} {XP : (Str → Option Value) → Heap → Prop} {YP : World → Heap → Prop} {d : DefRec} {x : Str}
    (hn : l.most = some n) (hdf : d.params.defaults = [])
    (hbind : ∀ pm cd doc v : Value, bindArgs (docDef d.name d.params d.body d.scope pm cd doc) ⟨[v], []⟩ = pure [(x, v)])
    (hx : d.scope.names.lookup x = some .local ∨ d.scope.names.lookup x = some .cell)
    (hk : d.scope.kind = .function) (hco : d.scope.isCoroutine = false) (hgen : d.scope.isGenerator = false)
    (body : ∀ (w : World) (s₀ s₁ s : Shared) (mg mb : Str → Option Value) (fa : Addr) (o : Obj) (pm cd doc : Value) (a : Addr) (vs : List Value) (ns : List Int),
      Ground q loose [] XP w s₀ mg mb s₁.heap → YP w s₁.heap →
      s₁.heap.get? fa = some o → o.data = .func (docDef d.name d.params d.body d.scope pm cd doc) → s₁.heap.CodeRec cd d.name → mg d.name = some (.ref fa) →
      s₁.heap.get? a = some { cls := .type "list", data := .seq vs.toArray } → IntsAre vs ns → ns.length ≤ n →
      s.gens = #[] → s.os = s₁.os →
      Fr s₁.heap s₁.heap.objs.size s.heap (bindL (envOfC d.name d.scope s₁.heap.objs.size fa cd).kindOf [(x, .ref a)] fun _ => none) →
      Cl s₁.heap.objs.size (cellsFrom (s₁.heap.objs.size + 1) d.scope.names []) s.heap (bindC (envOfC d.name d.scope s₁.heap.objs.size fa cd).kindOf [(x, .ref a)] fun _ => none) →
      wpAny (model l.prog w) (callerA.deeper (envOfC d.name d.scope s₁.heap.objs.size fa cd)) (execs d.body (envOfC d.name d.scope s₁.heap.objs.size fa cd))
        (fun f s' => f = .ret (.bool true) ∧ OldK s₁.heap s'.heap ∧ s'.os = s₁.os ∧ AllBare s'.gens) (fun _ _ => False) s) :
    WalkO q loose XP YP l.row.toRowW d [] (fun f vs => PySem.call f vs) := by
  intro w s₀ s₁ mg mb G Y fa o pm cd doc dV kV ho hd hcd hD hmg hg args vals as hpre hlay hrd hwl hlo
  obtain rfl : dV = .none := Dflts.none hD hdf
  obtain rfl : kV = .none := Dflts.noKw hD
  obtain ⟨a, vs, ns, rfl, rfl, hobj, hints, hlen⟩ := script_of hn hpre hwl
  refine enter_call ?_
  refine call_cells_ret (o := o) (by rw [depth_caller]; decide) ho (fd_plain hd) G.T.nolimit hcd (hbind pm cd doc (.ref a)) (fun y hy => ?_) (fun h₁ tk F X => ?_) hco hgen hk
  · obtain rfl : y = (x, Value.ref a) := List.mem_singleton.mp hy
    rcases hx with e | e
    · exact .inl e
    · exact .inr ⟨e, cellsFrom_some _ _ _ (.inl e)⟩
  · refine wpAny_mono (body w s₀ s₁ { s₁ with heap := h₁, toks := tk } mg mb fa o pm cd doc a vs ns G Y ho (fd_plain hd) hcd hmg hobj hints hlen hg rfl F X) (fun f s' hq => ?_) (fun _ _ hq => hq)
    obtain ⟨rfl, h2, h3, h4⟩ := hq
    exact ⟨.inl ⟨.bool true, .bool true, [], rfl, fun _ => rfl, .bool true, post_true l _, fun _ => ⟨List.Pairwise.nil, fun _ hm => (nomatch hm)⟩⟩, h2, h3, h4⟩

/-- the same from a codeAny of the CALL (for a layer whose function contracts speak of calls) -/
theorem attach_call {l : OpenLaw} {n : Nat} {q : Program} {loose : List Str} {XP : (Str → Option Value) → Heap → Prop} {YP : World → Heap → Prop} {d : DefRec}
    (hn : l.most = some n) (hdf : d.params.defaults = [])
    (call : ∀ (w : World) (s₀ s₁ : Shared) (mg mb : Str → Option Value) (fa : Addr) (o : Obj) (pm cd doc : Value) (a : Addr) (vs : List Value) (ns : List Int),
      Ground q loose [] XP w s₀ mg mb s₁.heap → YP w s₁.heap →
      s₁.heap.get? fa = some o → o.data = .func (docDef d.name d.params d.body d.scope pm cd doc) → s₁.heap.CodeRec cd d.name → mg d.name = some (.ref fa) →
      s₁.heap.get? a = some { cls := .type "list", data := .seq vs.toArray } → IntsAre vs ns → ns.length ≤ n → s₁.gens = #[] →
      codeAny (model l.prog w) callerA (.call (.ref fa) ⟨[.ref a], []⟩) (fun r s' => r = .ok (.ret (.bool true)) ∧ OldK s₁.heap s'.heap ∧ s'.os = s₁.os ∧ AllBare s'.gens) s₁) :
    WalkO q loose XP YP l.row.toRowW d [] (fun f vs => PySem.call f vs) := by
  intro w s₀ s₁ mg mb G Y fa o pm cd doc dV kV ho hd hcd hD hmg hg args vals as hpre hlay hrd hwl hlo
  obtain rfl : dV = .none := Dflts.none hD hdf
  obtain rfl : kV = .none := Dflts.noKw hD
  obtain ⟨a, vs, ns, rfl, rfl, hobj, hints, hlen⟩ := script_of hn hpre hwl
  refine enter_call (codeAny_mono (call w s₀ s₁ mg mb fa o pm cd doc a vs ns G Y ho (fd_plain hd) hcd hmg hobj hints hlen hg) fun r s' hq => ?_)
  obtain ⟨rfl, h2, h3, h4⟩ := hq
  exact ⟨.inl ⟨.bool true, .bool true, [], rfl, fun _ => rfl, .bool true, post_true l _, fun _ => ⟨List.Pairwise.nil, fun _ hm => (nomatch hm)⟩⟩, h2, h3, h4⟩

/-- the same where the top left finished generators (o_head chose holds_openN): nothing may have changed at all and no generator may be left -/
theorem attachN {l : OpenLaw} {n : Nat} {q : Program} {loose : List Str} {XP : (Str → Option Value) → Heap → Prop} {YP : World → Heap → Prop} {d : DefRec} {x : Str}
    (hn : l.most = some n) (hdf : d.params.defaults = [])
    (hbind : ∀ pm cd doc v : Value, bindArgs (docDef d.name d.params d.body d.scope pm cd doc) ⟨[v], []⟩ = pure [(x, v)])
    (hx : d.scope.names.lookup x = some .local ∨ d.scope.names.lookup x = some .cell)
    (hk : d.scope.kind = .function) (hco : d.scope.isCoroutine = false) (hgen : d.scope.isGenerator = false)
    (body : ∀ (w : World) (s₀ s₁ s : Shared) (mg mb : Str → Option Value) (fa : Addr) (o : Obj) (pm cd doc : Value) (a : Addr) (vs : List Value) (ns : List Int),
      Ground q loose [] XP w s₀ mg mb s₁.heap → YP w s₁.heap →
      s₁.heap.get? fa = some o → o.data = .func (docDef d.name d.params d.body d.scope pm cd doc) → s₁.heap.CodeRec cd d.name → mg d.name = some (.ref fa) →
      s₁.heap.get? a = some { cls := .type "list", data := .seq vs.toArray } → IntsAre vs ns → ns.length ≤ n →
      s.gens = #[] → s.os = s₁.os →
      Fr s₁.heap s₁.heap.objs.size s.heap (bindL (envOfC d.name d.scope s₁.heap.objs.size fa cd).kindOf [(x, .ref a)] fun _ => none) →
      Cl s₁.heap.objs.size (cellsFrom (s₁.heap.objs.size + 1) d.scope.names []) s.heap (bindC (envOfC d.name d.scope s₁.heap.objs.size fa cd).kindOf [(x, .ref a)] fun _ => none) →
      wpAny (model l.prog w) (callerA.deeper (envOfC d.name d.scope s₁.heap.objs.size fa cd)) (execs d.body (envOfC d.name d.scope s₁.heap.objs.size fa cd))
        (fun f s' => f = .ret (.bool true) ∧ (∀ b o, s₁.heap.get? b = some o → s'.heap.get? b = some o) ∧ s'.os = s₁.os ∧ s'.gens = #[]) (fun _ _ => False) s) :
    WalkN q loose XP YP l.row.toRowW d [] (fun f vs => PySem.call f vs) := by
  intro w s₀ s₁ mg mb G Y fa o pm cd doc dV kV ho hd hcd hD hmg hg args vals as hpre hlay hrd hwl hlo
  obtain rfl : dV = .none := Dflts.none hD hdf
  obtain rfl : kV = .none := Dflts.noKw hD
  obtain ⟨a, vs, ns, rfl, rfl, hobj, hints, hlen⟩ := script_of hn hpre hwl
  refine enter_callW ?_
  refine call_cells_ret (o := o) (by rw [depth_caller]; decide) ho (fd_plain hd) G.T.nolimit hcd (hbind pm cd doc (.ref a)) (fun y hy => ?_) (fun h₁ tk F X => ?_) hco hgen hk
  · obtain rfl : y = (x, Value.ref a) := List.mem_singleton.mp hy
    rcases hx with e | e
    · exact .inl e
    · exact .inr ⟨e, cellsFrom_some _ _ _ (.inl e)⟩
  · refine wpAny_mono (body w s₀ s₁ { s₁ with heap := h₁, toks := tk } mg mb fa o pm cd doc a vs ns G Y ho (fd_plain hd) hcd hmg hobj hints hlen hg rfl F X) (fun f s' hq => ?_) (fun _ _ hq => hq)
    obtain ⟨rfl, h2, h3, h4⟩ := hq
    exact ⟨.inl ⟨.bool true, .bool true, [], rfl, fun _ => rfl, .bool true, post_true l _, fun _ => ⟨List.Pairwise.nil, fun _ hm => (nomatch hm)⟩⟩, h2, h3, h4⟩

/-! ### rules over ANY heap (no ledger) from facts about the written part K: the library's own take a ledger (News) for what they write -/
section
variable {prog : Program} {w : World} {A : Around} {E : Value → Shared → Prop} {s : Shared} {K : Frag}

/-- a def of the module, or a method (qual 'C.m'), entered: the frame is the next address; cells behind it -/
theorem call_fn {R : Result → Shared → Prop} {name qual : Str} {params : Arguments} {body : List Stmt} {scope : Scope} {dV kV doc pm cdv ct oc : Value} {an od : Option Addr} {osl : Array (Option Value)} {f : Addr} {args : Args} {binds : List (Str × Value)}
    (X : K.In s.heap) (hlim : s.heap.NoLimit) (ho : K.lookup f = some ⟨oc, od, .func (fnOf name qual params body scope dV kV doc pm an cdv ct), osl⟩) (hcd : codeIn K cdv qual = true) (hroom : A.depth < recursionLimit)
    (hbind : BindsTo s (fnOf name qual params body scope dV kV doc pm an cdv ct) args binds)
    (hkind : (binds.all fun y => scope.names.lookup y.1 == some .local || scope.names.lookup y.1 == some .cell) = true)
    (h : ∀ s₁, InCallC s s.heap.objs.size (bindL (envOfC qual scope s.heap.objs.size f cdv).kindOf binds fun _ => none) (cellsFrom (s.heap.objs.size + 1) scope.names [])
        (bindC (envOfC qual scope s.heap.objs.size f cdv).kindOf binds fun _ => none) s₁ →
      wpAny (model prog w) (A.deeper (envOfC qual scope s.heap.objs.size f cdv)) (execs body (envOfC qual scope s.heap.objs.size f cdv))
        (fun fl s' => R (.ok (.ret (match fl with | .ret v => v | _ => .none))) s')
        (fun e s' => wpAny (model prog w) (A.deeper (envOfC qual scope s.heap.objs.size f cdv)) (leaving (envOfC qual scope s.heap.objs.size f cdv) e) (fun _ s'' => R (.error e) s'') (fun e' s'' => R (.error e') s'') s') s₁)
    (hco : scope.isCoroutine = false) (hgen : scope.isGenerator = false) (hk : scope.kind = .function) : codeAny (model prog w) A (.call (.ref f) args) R s := by
  refine codeAny_call_function hroom (X _ _ ho) rfl hco hgen rfl (codeRec_of X hcd) (hbind _ _ _ _ ?_)
  refine wpAny_newFunctionEnv_cells hk (kindsX hkind _) fun env he s₁ x => ?_
  subst he
  exact ⟨hlim.keeps x.toInCall.keep, codeAny_func (h s₁ x)⟩

/-- C(..): dict at size, instance at size + 1, then __init__ -/
theorem make_obj {R : Result → Shared → Prop} {C fI : Addr} {rest : List Value} {kw : List (Str × Value)}
    (X : K.In s.heap) (hm : makesIn K C = true) (hi : findIn K (.ref C) "__init__" = some (some (.ref fI))) (hf : isFn K (.ref fI) = true)
    (h : codeAny (model prog w) (A.under (.builtin "type.__call__" ⟨.ref C :: rest, kw⟩)) (.call (.ref fI) ⟨.ref (s.heap.objs.size + 1) :: rest, kw⟩) (InitBack (s.heap.objs.size + 1) R)
      { s with heap := (s.heap.push emptyDict).push (instObj C s.heap.objs.size) }) : codeAny (model prog w) A (.call (.ref C) ⟨rest, kw⟩) R s := by
  obtain ⟨hh, g, d, t, os⟩ := s
  exact make_core (makes_of X hm) (looks_findIn X hi) (fun self => bind_fn X self (beq_iff_eq.mp hf)) (.inl rfl) h

/-- x.name where the instance's dict holds the name and the class does not -/
theorem get_field {x C : Addr} {ox : Obj} {es : List DictEntry} {n : Nat} {name : Str} {expr : Bool} {v : Value} {Q : Value → Shared → Prop}
    (X : K.In s.heap) (I : PySem.W.InstAt s.heap x ox C (some (dictOf es n))) (hg : plainGet K C name = true) (hh : hasDictIn K C = true) (ha : findIn K (.ref C) name = some none)
    (hl : getL name es = some (some v)) (hv : handedIn v = true) (h : Q v { s with toks := s.toks + 1 }) : wpAny (model prog w) A (getAttr (.ref x) name expr) Q E s :=
  get_value X I (plainGet_of hg).1 (findObj_own hh ha rfl hl) hv h

/-- x.m(..): the method found in the class -/
theorem get_method {x C f : Addr} {ox : Obj} {es : List DictEntry} {n : Nat} {name : Str} {pl : Sem Bool} {Q : Value × List Value → Shared → Prop}
    (X : K.In s.heap) (I : PySem.W.InstAt s.heap x ox C (some (dictOf es n))) (hg : plainGet K C name = true) (hf : findIn K (.ref C) name = some (some (.ref f))) (ht : isFn K (.ref f) = true)
    (hl : getL name es = some none) (h : Q (.ref f, [.ref x]) s) : wpAny (model prog w) A (getMethod (.ref x) name pl) Q E s :=
  method_fn X I (plainGet_of hg).1 (plainGet_of hg).2 hf (beq_iff_eq.mp ht) (by show (lookIn name (dictOf es n)).map _ = _; rw [lookIn_dict, hl]; rfl) h

/-! the whole heap as the ledger: makes every rule that writes through a ledger a rule over any heap -/
def noObjs (h : Heap) : Heap := { h with objs := #[] }
theorem noObjs_get (h : Heap) (b : Addr) : (noObjs h).get? b = none := by
  cases e : (noObjs h).get? b with
  | none => rfl
  | some o => exact absurd (Heap.lt_size e) (Nat.not_lt_zero _)
def ledger (h : Heap) (L d : Addr) : List (Addr × Obj) := (List.range h.objs.size).filterMap fun a => if a = L ∨ a = d then none else (h.get? a).map fun o => (a, o)
theorem mem_ledger {h : Heap} {L d a : Addr} {o : Obj} : (a, o) ∈ ledger h L d ↔ a ≠ L ∧ a ≠ d ∧ h.get? a = some o := by
  unfold ledger
  rw [List.mem_filterMap]
  constructor
  · rintro ⟨b, _, e⟩
    split at e
    · cases e
    · rename_i hb
      obtain ⟨o', ho, e'⟩ := Option.map_eq_some_iff.mp e
      cases e'
      exact ⟨fun q => hb (.inl q), fun q => hb (.inr q), ho⟩
  · rintro ⟨n1, n2, ho⟩
    refine ⟨a, List.mem_range.mpr (Heap.lt_size ho), ?_⟩
    rw [if_neg (show ¬ (a = L ∨ a = d) from fun q => q.elim n1 n2), ho] <;> rfl
theorem news_ledger {h : Heap} {L d : Addr} {od : Obj} (hne : d ≠ L) (ho : h.get? d = some od) : News (noObjs h) L h ([] ++ (d, od) :: ledger h L d) := by
  rintro ⟨a, o⟩ hp
  rcases List.mem_cons.mp hp with e | hp
  · cases e
    exact ⟨ho, hne, noObjs_get _ _⟩
  · obtain ⟨n1, n2, e⟩ := mem_ledger.mp hp
    exact ⟨e, n1, noObjs_get _ _⟩
theorem fr_all {h : Heap} {L : Addr} {m : Str → Option Value} (n : h.Ns L m) : Fr (noObjs h) L h m :=
  ⟨n, fun b o e => (by rw [noObjs_get] at e; cases e), Nat.zero_le _⟩
/-- Upd of the head entry (for append_K, setItem_K ..) -/
theorem upd_ledger {h : Heap} {L d : Addr} {o o' : Obj} : Upd d o o' ((d, o) :: ledger h L d) ((d, o') :: ledger h L d) :=
  .head fun ⟨_, _⟩ hp => (mem_ledger.mp hp).2.1

/-- x.name = v over any heap: L is any namespace of the heap (the frame's, say): its map stays, its object is not told; all else but the dict stays -/
theorem set_field {x C dx L : Addr} {ox : Obj} {m : Str → Option Value} {es es' : List DictEntry} {n n' : Nat} {name : Str} {v : Value} {Q : Unit → Shared → Prop}
    (X : K.In s.heap) (I : PySem.W.InstAt s.heap x ox C (some (dictOf es n))) (hd : ox.dict = some dx) (hL : s.heap.Ns L m) (hne : dx ≠ L)
    (hs : findIn K (.ref C) "__setattr__" = some (some (.builtin "object.__setattr__"))) (hp : plainOver K C = true) (ht : takerIn K C name = some none) (hh : hasDictIn K C = true) (hl : (getL name es).isSome = true)
    (e : (putL name (PyData.keyHash w.params name) (.str name (s.toks + 1)) v es, putN name es n) = (es', n')) (hz : es'.length ≤ 1000)
    (h : ∀ h' : Heap, h'.Ns L m → h'.get? dx = some (dictOf es' n') → (∀ b o, b ≠ dx → b ≠ L → s.heap.get? b = some o → h'.get? b = some o) → Q () { s with heap := h', toks := s.toks + 2 }) :
    wpAny (model prog w) A (setAttr (.ref x) name v) Q E s := by
  obtain ⟨e1, e2⟩ := Prod.mk.inj e
  have hdx : s.heap.get? dx = some (dictOf es n) := by
    have := I.dict
    rw [hd] at this
    exact this
  refine set_plain X I hs (osa_dict (s := { s with toks := s.toks + 1 }) (h₀ := noObjs s.heap) (L := L) (m := m) (od := dictOf es n) (od' := dictOf es' n') (es := es') (n := n') (pre := []) (post := ledger s.heap L dx)
    (fr_all hL) (news_ledger hne hdx) X I hd hp ht hh hl (fun _ q => nomatch q) (fun ⟨_, _⟩ q => (mem_ledger.mp q).2.1) (by rw [putName_dict, e1, e2]) rfl hz fun h' F' N' => ?_)
  exact h h' F'.ns (N'.get (List.Mem.head _)) fun b o n1 n2 ho => N'.get (List.Mem.tail _ (mem_ledger.mpr ⟨n2, n1, ho⟩))
end
end Att

namespace L2
open PySem PySem.Spec PyProof.Rows

theorem vals_ints : ∀ {vs : List Value} {ns : List Int}, IntsAre vs ns → Vals (ns.map V.int) vs
  | _, _, .nil => .nil
  | _, _, .cons n t h => .cons ⟨t, rfl⟩ (vals_ints h)

/-- nothing is tracked but the script, known to the object (or it is an object of the module) -/
def Only (H : Hp) : Prop := ∀ b, H b = none ∨ ∃ o xs, H b = some (.frz o (.lst xs))

/-- THE HEAD: the law's promise, at the heap behind the top. F, the promise of the law's def, may use that base is part of the heap (so K.In base, base.Ns mainGlobals mg stand in Mod) -/
theorem law_call {P : Program} {w : World} {K : PySem.W.Frag} {mg mb : Str → Option Value} {CX : CXT} {k : Nat} {fa a : Addr} {fd : FuncData} {x : Str} {sp : Sp} {s₁ : Shared} {vs : List Value} {ns : List Int}
    (KX : K.In s₁.heap) (hns : s₁.heap.Ns mainGlobals mg) (hb : s₁.heap.Ns builtinsNs mb) (hbb : ∀ x : Str, x ≠ "__name__" → mb x = bootBuiltins x) (hlim : s₁.heap.NoLimit) (hg : s₁.gens = #[])
    (ha : s₁.heap.get? a = some { cls := .type "list", data := .seq vs.toArray }) (hi : IntsAre vs ns) (hl : ns.length ≤ sizeLine) (hr : Room k callerA)
    (F : ∀ base : Heap, K.In base → base.Ns mainGlobals mg → FnOk P w K mg base CX k fa fd [x] sp) (hbind : ∀ (s : Shared) (u : Value), BindsTo s fd ⟨[u], []⟩ [(x, u)])
    (hsp : ∀ H : Hp, Only H → SqL K H a (ns.map V.int) → sp [.ref a] H (fun v _ => v = .bl true) fun _ _ _ => False)
    (hCX : ∀ H e s', CX [] H s₁ (fun _ _ _ => False) e s' → False) :
    codeAny (model P w) callerA (.call (.ref fa) ⟨[.ref a], []⟩) (fun r s' => r = .ok (.ret (.bool true)) ∧ OldK s₁.heap s'.heap ∧ s'.os = s₁.os ∧ AllBare s'.gens) s₁ := by
  have rv := vals_ints hi
  have lenV := hi.length
  -- from an abstract heap in which nothing but the script may be tracked
  have core : ∀ H : Hp, Only H → SqL K H a (ns.map V.int) → HOk P w H s₁.heap → (∀ b, H b ≠ none → b = a) → (H a ≠ none → K.lookup a = none) →
      codeAny (model P w) callerA (.call (.ref fa) ⟨[.ref a], []⟩) (fun r s' => r = .ok (.ret (.bool true)) ∧ OldK s₁.heap s'.heap ∧ s'.os = s₁.os ∧ AllBare s'.gens) s₁ := by
    intro H hO hS hok hA hK
    have base_of : ∀ {b : Addr} {o : Obj}, s₁.heap.get? b = some o → H b = none → (hidT s₁.heap H).get? b = some o := fun e n => hidT_get e n
    have noA : ∀ {b : Addr} {o : Obj} {es : Array DictEntry} {ep : Nat}, s₁.heap.get? b = some o → o.data = .dict es ep → H b = none := fun {b o es ep} e d => by
      cases q : H b with
      | none => rfl
      | some u =>
        have e' : b = a := hA b (by rw [q]; simp)
        subst e'
        rw [ha] at e; cases e
        have d' : Data.seq vs.toArray _ = Data.dict es ep := d
        cases d'
    have nsK : ∀ {b : Addr} {m : Str → Option Value}, s₁.heap.Ns b m → (hidT s₁.heap H).Ns b m := fun {b m} ⟨o, es, ep, e, d, r⟩ => ⟨o, es, ep, base_of e (noA e d), d, r⟩
    have hKb : K.In (hidT s₁.heap H) := fun b o e => base_of (KX b o e) (by
      cases q : H b with
      | none => rfl
      | some u =>
        have e' : b = a := hA b (by rw [q]; simp)
        subst e'
        rw [hK (by rw [q]; simp)] at e; cases e)
    have hM : Mod K mg (hidT s₁.heap H) := ⟨hKb, nsK hns, ⟨mb, nsK hb, hbb⟩, let ⟨mc, h1, h2⟩ := hlim; ⟨mc, nsK h1, h2⟩⟩
    have e0 : Env0 P w K mg (hidT s₁.heap H) callerA [] s₁ H := ⟨rfl, hM, fun b o e => of_hidT e, Nat.le_of_eq (hidT_size _ _), trivial, fun b hb => absurd (show b ∈ ([] : List Addr) from hb) (by simp), hok, .of_eq hg⟩
    refine codeAny_mono ((F _ hKb (nsK hns)).run callerA [] s₁ H ⟨[.ref a], []⟩ [.ref a] [.ref a] _ _ hr e0 (hbind s₁ (.ref a)) (.cons rfl .nil) (hsp H hO hS)) fun r s' h => ?_
    cases r with
    | error e => exact (hCX H e s' h).elim
    | ok fl =>
      cases fl with
      | next => exact False.elim h
      | brk => exact False.elim h
      | cont => exact False.elim h
      | ret u =>
        obtain ⟨v, H', os, bare, un, hok', r', q⟩ := h
        have q' : v = .bl true := q
        subst q'
        obtain rfl : u = Value.bool true := r'
        refine ⟨rfl, OldK.of_keep fun b o e => ?_, os, bare⟩
        cases q : H b with
        | none => exact un.keep b o e q (by intro z; exact absurd (show b ∈ ([] : List Addr) from z) (by simp)) (by simp)
        | some u =>
          rcases hO b with z | ⟨ob, xs, z⟩
          · rw [q] at z; cases z
          · have z2 := un.frzs b ob _ z
            obtain ⟨e1, _⟩ := hok b _ z
            obtain ⟨e2, _⟩ := hok' b _ z2
            rw [e] at e1; cases e1
            exact e2
  cases hk : K.lookup a with
  | some o =>
    -- the script is one of the module's own objects
    have e := KX a o hk
    rw [ha] at e
    cases e
    refine core (fun _ => none) (fun _ => .inl rfl) (.inr ⟨_, vs.toArray, _, hk, rfl, rfl, rfl, by rw [List.size_toArray, lenV]; exact hl, by simpa using rv⟩) (fun b u z => by have z' : (none : Option HO) = some u := z; cases z') (fun b z => absurd rfl z) fun z => absurd rfl z
  | none =>
    refine core (fun b => if b = a then some (.frz { cls := .type "list", data := .seq vs.toArray } (.lst (ns.map V.int))) else none) (fun b => ?_) (.inl (.inr ⟨{ cls := .type "list", data := .seq vs.toArray }, if_pos rfl⟩)) (fun b u z => ?_) (fun b z => ?_) fun _ => hk
    · by_cases hb : b = a
      · exact .inr ⟨_, _, if_pos hb⟩
      · exact .inl (if_neg hb)
    · by_cases hb : b = a
      · have z' := (if_pos hb).symm.trans z
        cases z'
        subst hb
        exact ⟨ha, by rw [List.length_map]; exact hl, vs, _, rv, ha⟩
      · have z' := (if_neg hb).symm.trans z
        cases z'
    · by_cases hb : b = a
      · exact hb
      · exact absurd (if_neg hb) z
end L2

namespace L2
open PySem PySem.Spec PyProof.Rows

abbrev KOf {K : PySem.W.Frag} {h : Heap} (_ : K.In h) : PySem.W.Frag := K

/-- the goal that k_head leaves (case hc), from the law's promise. F gives the function object fd (K's own) once, then the promise over every base -/
theorem walk_of {l : PySem.W.OpenLaw} {n k : Nat} {q : Program} {loose : List Str} {XP : (Str → Option Value) → Heap → Prop} {YP : World → Heap → Prop} {d : DefRec} {K : Params → PySem.W.Frag} {CX : World → CXT} {sp : World → Sp} {x : Str}
    (hn : l.most = some n) (hn2 : n ≤ sizeLine) (hdf : d.params.defaults = []) (hr : Room k callerA)
    (hY : ∀ (w : World) (h : Heap), YP w h → (K w.params).In h)
    (F : ∀ (w : World) (mg : Str → Option Value) (fa : Addr) (h : Heap), (K w.params).In h → h.Ns mainGlobals mg → mg d.name = some (.ref fa) →
      ∃ fd : FuncData, (∀ (s : Shared) (u : Value), BindsTo s fd ⟨[u], []⟩ [(x, u)]) ∧
        ∀ base : Heap, (K w.params).In base → base.Ns mainGlobals mg → FnOk l.prog w (K w.params) mg base (CX w) k fa fd [x] (sp w))
    (hsp : ∀ (w : World) (H : Hp) (a : Addr) (ns : List Int), ns.length ≤ n → Only H → SqL (K w.params) H a (ns.map V.int) → sp w [.ref a] H (fun v _ => v = .bl true) fun _ _ _ => False)
    (hCX : ∀ (w : World) (H : Hp) (s : Shared) (e : Value) (s' : Shared), CX w [] H s (fun _ _ _ => False) e s' → False) :
    PySem.W.WalkO q loose XP YP l.row.toRowW d [] (fun f vs => PySem.call f vs) := by
  refine Att.attach_call hn hdf fun w s₀ s₁ mg mb fa o pm cd doc a vs ns G Y ho hd hcd hmg hobj hints hlen hg => ?_
  have KX := hY w _ Y
  obtain ⟨fd, hb, hF⟩ := F w mg fa _ KX G.T.g hmg
  exact law_call KX G.T.g G.T.b G.T.builtins G.T.nolimit hg hobj hints (Nat.le_trans hlen hn2) hr hF hb (fun H hO hS => hsp w H a ns hlen hO hS) fun H e s' => hCX w H s₁ e s'
/-- the same where the promise hangs on the written part alone: (sp := My.sp_law), no hole under a binder -/
theorem walk_ofK {l : PySem.W.OpenLaw} {n k : Nat} {q : Program} {loose : List Str} {XP : (Str → Option Value) → Heap → Prop} {YP : World → Heap → Prop} {d : DefRec} {K : Params → PySem.W.Frag} {CX : CXT} {sp : PySem.W.Frag → Sp} {x : Str}
    (hn : l.most = some n) (hn2 : n ≤ sizeLine) (hdf : d.params.defaults = []) (hr : Room k callerA)
    (hY : ∀ (w : World) (h : Heap), YP w h → (K w.params).In h)
    (F : ∀ (w : World) (mg : Str → Option Value) (fa : Addr) (h : Heap), (K w.params).In h → h.Ns mainGlobals mg → mg d.name = some (.ref fa) →
      ∃ fd : FuncData, (∀ (s : Shared) (u : Value), BindsTo s fd ⟨[u], []⟩ [(x, u)]) ∧
        ∀ base : Heap, (K w.params).In base → base.Ns mainGlobals mg → FnOk l.prog w (K w.params) mg base CX k fa fd [x] (sp (K w.params)))
    (hsp : ∀ (K : PySem.W.Frag) (H : Hp) (a : Addr) (ns : List Int), ns.length ≤ n → Only H → SqL K H a (ns.map V.int) → sp K [.ref a] H (fun v _ => v = .bl true) fun _ _ _ => False)
    (hCX : ∀ (H : Hp) (s : Shared) (e : Value) (s' : Shared), CX [] H s (fun _ _ _ => False) e s' → False) :
    PySem.W.WalkO q loose XP YP l.row.toRowW d [] (fun f vs => PySem.call f vs) :=
  walk_of (K := K) (CX := fun _ => CX) (sp := fun w => sp (K w.params)) hn hn2 hdf hr hY F (fun w H a ns h1 h2 h3 => hsp (K w.params) H a ns h1 h2 h3) fun _ H s e s' => hCX H s e s'
end L2



/-! SHORT WORDS over the layer: a def of the text, its body, what a loop and a test want. -/
namespace L2
open PySem PySem.Spec PyProof.Rows

/-! ### the text by places -/
/-- the j-th statement of a class's body -/
def inClass (s : Stmt) (j : Nat) : Stmt := match s with
  | .ClassDef _ _ _ body _ _ _ _ _ _ _ => body.getD j (.Pass ⟨0, 0, 0, 0⟩)
  | _ => .Pass ⟨0, 0, 0, 0⟩
def defArgs (s : Stmt) : Arguments := match s with
  | .FunctionDef _ a _ _ _ _ _ _ _ _ => a
  | _ => { posonlyargs := [], args := [], vararg := none, kwonlyargs := [], kw_defaults := [], kwarg := none, defaults := [] }
def defBody (s : Stmt) : List Stmt := match s with
  | .FunctionDef _ _ b _ _ _ _ _ _ _ => b
  | _ => []
def defScope (s : Stmt) : Scope := match s with
  | .FunctionDef _ _ _ _ _ _ sc _ _ _ => sc
  | _ => { kind := .function, names := [], isGenerator := false, isCoroutine := false }

/-! ### no exception leaves a def -/
abbrev CX0 : CXT := fun _ _ _ _ _ _ => False
abbrev E0 : XK := fun _ _ _ => False
theorem pass0 {X : Cx} : Passes CX0 X E0 := fun _ _ _ _ _ _ _ h => h.elim

/-! ### a def (or method) of the text as it stands behind the top -/
structure Fun (K : PySem.W.Frag) (x qual : Str) (st : Stmt) (f : Addr) (fd : FuncData) : Prop where
  ex : ∃ (oc : Value) (od : Option Addr) (kV doc pm : Value) (an : Option Addr) (cdv ct : Value) (osl : Array (Option Value)),
    fd = PySem.W.fnOf x qual (defArgs st) (defBody st) (defScope st) .none kV doc pm an cdv ct ∧ K.lookup f = some ⟨oc, od, .func fd, osl⟩ ∧ PySem.W.codeIn K cdv qual = true
  kp : PySem.W.keepIn K (.ref f) = true
section
variable {P : Program} {w : World} {K : PySem.W.Frag} {mg : Str → Option Value} {base : Heap}
/-- THE RULE for a def: its body as a term of rules, and the reading of that term -/
theorem Fun.ok {x qual : Str} {st : Stmt} {f : Addr} {fd : FuncData} {N ps : List Str} {k : Nat} {sp : Sp} (F : Fun K x qual st f fd) (S : FnScope N ps (defScope st)) (len : ∀ vs H Q E, sp vs H Q E → vs.length = ps.length)
    (hbody : ∀ (cdv : Value) (A : Around) (outer : List Env) (s : Shared) (H : Hp) (vs : List V) (Q : VK) (E : XK), Room k (A.deeper (envOfC qual (defScope st) s.heap.objs.size f cdv)) → sp vs H Q E →
      ∃ t, PSs (cxOf CX0 P w K mg base N qual (defScope st) f cdv A outer s H E).nox (defBody st) t ∧ t { nx := fun _ H' => Q .non H', rt := Q } (start N vs) H) : FnOk P w K mg base CX0 (k + 1) f fd ps sp := by
  obtain ⟨oc, od, kV, doc, pm, an, cdv, ct, osl, rfl, lk, hcd⟩ := F.ex
  refine fn_of lk hcd S len fun A outer s H vs Q E hr hsp => ?_
  obtain ⟨t, h, q⟩ := hbody cdv A outer s H vs Q E hr hsp
  exact ⟨t, h.nox, q⟩
/-- how its arguments bind (no defaults): h is «fun _ _ _ _ _ _ us hl => match us, hl with | [_, _], _ => rfl», one _ a parameter -/
theorem Fun.binds {x qual : Str} {st : Stmt} {f : Addr} {fd : FuncData} {ps : List Str} (F : Fun K x qual st f fd)
    (h : ∀ (kV doc pm : Value) (an : Option Addr) (cdv ct : Value) (us : List Value), us.length = ps.length → bindArgs (PySem.W.fnOf x qual (defArgs st) (defBody st) (defScope st) .none kV doc pm an cdv ct) ⟨us, []⟩ = pure (ps.zip us)) : Binds K fd ps [] := by
  obtain ⟨oc, od, kV, doc, pm, an, cdv, ct, osl, rfl, lk, hcd⟩ := F.ex
  exact .all (h kV doc pm an cdv ct)
theorem fun_mk {x qual : Str} {st : Stmt} {f : Addr} {oc : Value} {od an : Option Addr} {osl : Array (Option Value)} {kV doc pm cdv ct : Value} (l : K.lookup f = some ⟨oc, od, .func (PySem.W.fnOf x qual (defArgs st) (defBody st) (defScope st) .none kV doc pm an cdv ct), osl⟩)
    (c : PySem.W.codeIn K cdv qual = true) (k : PySem.W.keepIn K (.ref f) = true) : Fun K x qual st f (PySem.W.fnOf x qual (defArgs st) (defBody st) (defScope st) .none kV doc pm an cdv ct) := ⟨⟨oc, od, kV, doc, pm, an, cdv, ct, osl, rfl, l, c⟩, k⟩
end
theorem hu_of {A : Around} {k : Nat} (hr : Room k A) : A.units + 1 < cLine := Nat.lt_of_le_of_lt (Nat.add_le_add_left (by decide : 1 ≤ 64) _) hr.units
theorem small1000 {n : Nat} (h : n ≤ 1000) : n < sizeLine := Nat.lt_of_le_of_lt h (by decide)

/-! ### expressions in short: the name that stands in the i-th slot -/
section
variable {X : Cx}
theorem pv (i : Nat) {x : Str} {pos : Pos} (hN : X.N[i]? = some x := by rfl) (hv : Vis X.env.scope x := by first | exact Or.inl rfl | exact Or.inr (Or.inl rfl) | exact Or.inr (Or.inr rfl)) (hd : (x == ("__debug__" : Str)) = false := by decide)
    (hcd : (x == ("__classdict__" : Str)) = false := by decide) : PE X (.Name x pos) (tVar i) := pe_var hN hv hd hcd
end

/-! ### tests -/
theorem iteF {A B : Prop} (h : B) : if false = true then A else B := by
  rw [if_neg Bool.false_ne_true]
  exact h
theorem iteT {A B : Prop} (h : A) : if true = true then A else B := by
  rw [if_pos rfl]
  exact h
theorem ite2 {c A B : Prop} [Decidable c] (h1 : c → A) (h2 : ¬ c → B) : if c then A else B := by
  by_cases h : c
  · rw [if_pos h]
    exact h1 h
  · rw [if_neg h]
    exact h2 h
theorem iteNS {c A B : Prop} [Decidable c] (hc : c) (h : B) : if (!decide c) = true then A else B := by
  rw [decide_eq_true hc]
  exact iteF h

/-! ### heaps -/
/-- all that was tracked is as it was -/
def Same (H H' : Hp) : Prop := ∀ b o, H b = some o → H' b = some o
theorem Same.refl (H : Hp) : Same H H := fun _ _ h => h
theorem Same.trans {H H1 H2 : Hp} (a : Same H H1) (b : Same H1 H2) : Same H H2 := fun c o h => b c o (a c o h)
theorem Same.free {H H' : Hp} (e : Same H H') {l : Addr} (h : H' l = Option.none) : H l = Option.none := by
  cases q : H l with
  | none => rfl
  | some o =>
    rw [e l o q] at h
    cases h
theorem Same.seq {K : PySem.W.Frag} {H H' : Hp} {a : Addr} {xs : List V} (e : Same H H') (h : SqL K H a xs) : SqL K H' a xs := by
  rcases h with (h | ⟨o, h⟩) | h
  · exact .inl (.inl (e _ _ h))
  · exact .inl (.inr ⟨o, e _ _ h⟩)
  · exact .inr h

end L2

set_option maxHeartbeats 4000000
namespace Sh
/-- the greatest number that divides all, as the fold of a loop -/
def gcdAll (ns : List Int) : Int := ns.foldl (fun c n => (Int.gcd c n : Int)) 0
theorem gcdAll_two (a b : Int) : gcdAll [a, b] = (Int.gcd a b : Int) := by
  show ((Int.gcd (Int.gcd 0 a : Int) b : Nat) : Int) = _
  congr 1
  rw [Int.gcd_zero_left, Int.gcd_eq_natAbs_gcd_natAbs, Int.gcd_eq_natAbs_gcd_natAbs, Int.natAbs_natCast]
theorem gcdAll_snoc (ns : List Int) (n : Int) : gcdAll (ns ++ [n]) = (Int.gcd (gcdAll ns) n : Int) := by
  unfold gcdAll
  rw [List.foldl_append]
  rfl
theorem gcdAll_nonneg (ns : List Int) : 0 ≤ gcdAll ns := by
  rcases List.eq_nil_or_concat ns with rfl | ⟨l, a, rfl⟩
  · exact Int.le_refl 0
  · rw [List.concat_eq_append, gcdAll_snoc]
    exact Int.natCast_nonneg _
/-- one turn of the loop that divides -/
theorem gcd_turn (c r : Int) : Int.gcd r (c.fmod r) = Int.gcd c r := by
  rw [Int.fmod_def, Int.gcd_sub_mul_left_right, Int.gcd_comm]
theorem fmod_less {c r : Int} (h : r ≠ 0) : (c.fmod r).natAbs < r.natAbs := by
  rcases Int.lt_or_gt_of_ne h with hr | hr
  · have e : c.fmod r = -((-c).fmod (-r)) := by rw [Int.neg_fmod_neg, Int.neg_neg]
    have h1 := Int.fmod_nonneg_of_pos (-c) (b := -r) (by omega)
    have h2 := Int.fmod_lt_of_pos (-c) (b := -r) (by omega)
    omega
  · have h1 := Int.fmod_nonneg_of_pos c hr
    have h2 := Int.fmod_lt_of_pos c hr
    omega
theorem abs_is (i : Int) : (if i < 0 then -i else i) = (i.natAbs : Int) := by
  split <;> omega
theorem gcd_abs (c i : Int) : Int.gcd c (if i < 0 then -i else i) = Int.gcd c i := by
  split
  · rw [Int.gcd_neg]
  · rfl
/-- the top and the bottom in lowest terms, the bottom from 1 on -/
def cm (t b : Int) : Int := if b < 0 then -(Int.gcd t b : Int) else (Int.gcd t b : Int)
def lowT (t b : Int) : Int := t.fdiv (cm t b)
def lowB (t b : Int) : Int := b.fdiv (cm t b)
theorem gcd_pos {t b : Int} (h : b ≠ 0) : 0 < (Int.gcd t b : Int) := by
  have : 0 < Int.gcd t b := Int.gcd_pos_of_ne_zero_right _ h
  omega
theorem cm_ne {t b : Int} (h : b ≠ 0) : cm t b ≠ 0 := by
  have := gcd_pos (t := t) h
  unfold cm
  split <;> omega
theorem cm_dvd_t (t b : Int) : cm t b ∣ t := by
  unfold cm
  split
  · exact Int.neg_dvd.mpr (Int.gcd_dvd_left t b)
  · exact Int.gcd_dvd_left t b
theorem cm_dvd_b (t b : Int) : cm t b ∣ b := by
  unfold cm
  split
  · exact Int.neg_dvd.mpr (Int.gcd_dvd_right t b)
  · exact Int.gcd_dvd_right t b
theorem lowT_mul (t b : Int) : lowT t b * cm t b = t := Int.fdiv_mul_cancel (cm_dvd_t t b)
theorem lowB_mul (t b : Int) : lowB t b * cm t b = b := Int.fdiv_mul_cancel (cm_dvd_b t b)
theorem lowB_pos {t b : Int} (h : b ≠ 0) : 0 < lowB t b := by
  have e := lowB_mul t b
  have g := gcd_pos (t := t) h
  rcases Int.lt_trichotomy (lowB t b) 0 with hl | hl | hl
  · exfalso
    unfold cm at e
    split at e
    · rename_i hb
      have := Int.mul_pos_of_neg_of_neg hl (show -(Int.gcd t b : Int) < 0 by omega)
      omega
    · have := Int.mul_neg_of_neg_of_pos hl g
      omega
  · exfalso
    rw [hl, Int.zero_mul] at e
    omega
  · exact hl
theorem low_gcd {t b : Int} (h : b ≠ 0) : Int.gcd (lowT t b) (lowB t b) = 1 := by
  have g := gcd_pos (t := t) h
  have e : Int.gcd (cm t b * lowT t b) (cm t b * lowB t b) = (cm t b).natAbs * Int.gcd (lowT t b) (lowB t b) := Int.gcd_mul_left _ _ _
  rw [Int.mul_comm (cm t b), Int.mul_comm (cm t b), lowT_mul, lowB_mul] at e
  have c : (cm t b).natAbs = Int.gcd t b := by
    unfold cm
    split
    · rw [Int.natAbs_neg, Int.natAbs_natCast]
    · rw [Int.natAbs_natCast]
  rw [c] at e
  have g' : 0 < Int.gcd t b := by omega
  exact Nat.eq_of_mul_eq_mul_left g' (by rw [Nat.mul_one]; exact e.symm)
theorem low_cross {t b : Int} (h : b ≠ 0) : lowT t b * b = t * lowB t b := by
  have e1 := lowT_mul t b
  have e2 := lowB_mul t b
  calc lowT t b * b = lowT t b * (lowB t b * cm t b) := by rw [e2]
    _ = (lowT t b * cm t b) * lowB t b := by rw [Int.mul_assoc, Int.mul_comm (lowB t b)]
    _ = t * lowB t b := by rw [e1]
theorem cm_pos_eq {t b : Int} (h : 0 < b) : cm t b = (Int.gcd t b : Int) := by
  unfold cm
  rw [if_neg (by omega)]
/-- floor and ceiling -/
theorem floor_le {t b : Int} (h : 0 < b) : t.fdiv b * b ≤ t ∧ t < (t.fdiv b + 1) * b := by
  have e := Int.fmod_def t b
  have h1 := Int.fmod_nonneg_of_pos t h
  have h2 := Int.fmod_lt_of_pos t h
  have m : t.fdiv b * b = b * t.fdiv b := Int.mul_comm _ _
  have n : (t.fdiv b + 1) * b = b * t.fdiv b + b := by rw [Int.add_mul, Int.one_mul, m]
  omega
theorem ceil_ge {t b : Int} (h : 0 < b) : t ≤ -((-t).fdiv b) * b ∧ (-((-t).fdiv b) - 1) * b < t := by
  have f := floor_le (t := -t) h
  have m : -((-t).fdiv b) * b = -((-t).fdiv b * b) := by rw [Int.neg_mul]
  have n : (-((-t).fdiv b) - 1) * b = -(((-t).fdiv b + 1) * b) := by rw [← Int.neg_mul]; congr 1; omega
  omega
end Sh

namespace Sh
/-- what a row comes to along a point, as the program reckons it -/
def alStep (st : Int × Int) (p : Int × Int × Int) : Int × Int := (st.1 * p.2.2 + p.1 * p.2.1 * st.2, st.2 * p.2.2)
def alFold (ws : List Int) (pts : List (Int × Int)) : Int × Int := (ws.zip pts).foldl alStep (0, 1)
def prodB (l : List (Int × Int × Int)) : Int := (l.map fun p => p.2.2).foldl (· * ·) 1
theorem foldl_mul (l : List Int) (c : Int) : l.foldl (· * ·) c = c * l.foldl (· * ·) 1 := by
  induction l generalizing c with
  | nil => simp
  | cons a r ih =>
    rw [List.foldl_cons, List.foldl_cons, ih (c * a), ih (1 * a), Int.one_mul, Int.mul_assoc]
theorem prodB_cons (p : Int × Int × Int) (l : List (Int × Int × Int)) : prodB (p :: l) = p.2.2 * prodB l := by
  unfold prodB
  rw [List.map_cons, List.foldl_cons, foldl_mul, Int.one_mul]
def sumQ (R : Int) (l : List (Int × Int × Int)) : Int := (l.map fun p => p.1 * p.2.1 * (R.fdiv p.2.2)).sum
theorem prodB_pos {l : List (Int × Int × Int)} (h : ∀ p ∈ l, 0 < p.2.2) : 0 < prodB l := by
  induction l with
  | nil => decide
  | cons p r ih =>
    rw [prodB_cons]
    exact Int.mul_pos (h p List.mem_cons_self) (ih fun q hq => h q (List.mem_cons_of_mem _ hq))
theorem dvd_prodB {l : List (Int × Int × Int)} {p : Int × Int × Int} (h : p ∈ l) : p.2.2 ∣ prodB l := by
  induction l with
  | nil => cases h
  | cons q r ih =>
    rw [prodB_cons]
    rcases List.mem_cons.mp h with rfl | h
    · exact Int.dvd_mul_right _ _
    · exact Int.dvd_trans (ih h) (Int.dvd_mul_left _ _)
theorem sumQ_mul {b : Int} {R : Int} : ∀ {l : List (Int × Int × Int)}, (∀ p ∈ l, p.2.2 ∣ R ∧ p.2.2 ≠ 0) → sumQ (b * R) l = b * sumQ R l
  | [], _ => by unfold sumQ; simp
  | p :: r, h => by
    have ih := sumQ_mul (b := b) (R := R) (l := r) fun q hq => h q (List.mem_cons_of_mem _ hq)
    obtain ⟨⟨c, hc⟩, nz⟩ := h p List.mem_cons_self
    have e1 : R.fdiv p.2.2 = c := by rw [hc]; exact Int.mul_fdiv_cancel_left _ nz
    have e2 : (b * R).fdiv p.2.2 = b * c := by
      rw [hc, show b * (p.2.2 * c) = p.2.2 * (b * c) from by rw [← Int.mul_assoc, Int.mul_comm b, Int.mul_assoc]]
      exact Int.mul_fdiv_cancel_left _ nz
    unfold sumQ at ih ⊢
    rw [List.map_cons, List.sum_cons, List.map_cons, List.sum_cons, ih, e1, e2, Int.mul_add]
    congr 1
    rw [← Int.mul_assoc, ← Int.mul_assoc, Int.mul_comm (p.1 * p.2.1) b, Int.mul_assoc b]
theorem alFold_is : ∀ (l : List (Int × Int × Int)) (T B : Int), (∀ p ∈ l, 0 < p.2.2) → l.foldl alStep (T, B) = (T * prodB l + B * sumQ (prodB l) l, B * prodB l)
  | [], T, B, _ => by
    show (T, B) = (T * 1 + B * 0, B * 1)
    simp
  | p :: r, T, B, h => by
    have hr : ∀ q ∈ r, 0 < q.2.2 := fun q hq => h q (List.mem_cons_of_mem _ hq)
    have hp := h p List.mem_cons_self
    rw [List.foldl_cons, alStep, alFold_is r _ _ hr, prodB_cons]
    have s1 : sumQ (p.2.2 * prodB r) (p :: r) = p.1 * p.2.1 * prodB r + p.2.2 * sumQ (prodB r) r := by
      have s2 := sumQ_mul (b := p.2.2) (R := prodB r) (l := r) fun q hq => ⟨dvd_prodB hq, Int.ne_of_gt (hr q hq)⟩
      unfold sumQ at s2 ⊢
      rw [List.map_cons, List.sum_cons, s2, Int.mul_fdiv_cancel_left _ (Int.ne_of_gt hp)]
    rw [s1]
    refine Prod.ext ?_ ?_
    · show (T * p.2.2 + p.1 * p.2.1 * B) * prodB r + B * p.2.2 * sumQ (prodB r) r = T * (p.2.2 * prodB r) + B * (p.1 * p.2.1 * prodB r + p.2.2 * sumQ (prodB r) r)
      rw [Int.add_mul, Int.mul_add, Int.mul_assoc T, Int.mul_assoc B, Int.mul_comm (p.1 * p.2.1) B, Int.mul_assoc B]
      omega
    · show B * p.2.2 * prodB r = B * (p.2.2 * prodB r)
      rw [Int.mul_assoc]
theorem alFold_eq (ws : List Int) (pts : List (Int × Int)) (h : ∀ p ∈ pts, 0 < p.2) : alFold ws pts = (sumQ (prodB (ws.zip pts)) (ws.zip pts), prodB (ws.zip pts)) := by
  unfold alFold
  rw [alFold_is _ _ _ (fun p hp => h p.2 (List.of_mem_zip hp).2)]
  simp
theorem gcd_one (x : Int) : Int.gcd x 1 = 1 := Int.gcd_one
theorem lowT_one (x : Int) : lowT x 1 = x := by
  unfold lowT cm
  rw [if_neg (by decide), gcd_one]
  exact Int.fdiv_one x
theorem lowB_one (x : Int) : lowB x 1 = 1 := by
  unfold lowB cm
  rw [if_neg (by decide), gcd_one]
  decide
end Sh

namespace L2
open PySem
/-- the cells that a block takes along -/
def closeStep (env : Env) (cs : List (Str × Addr)) (p : Str × NameKind) : List (Str × Addr) := if (p.2 == .free) = true then (p.1, (env.cells.lookup p.1).getD 0) :: cs else cs
def closeOf (scope : Scope) (env : Env) : List (Str × Addr) := scope.names.foldl (closeStep env) []
theorem close_loop {env : Env} : ∀ (names : List (Str × NameKind)) (cs : List (Str × Addr)), (∀ p ∈ names, p.2 = .free → (env.cells.lookup p.1).isSome = true) →
    (forIn names cs (fun (p : Str × NameKind) (r : List (Str × Addr)) => (if (p.2 == .free) = true then do let a ← cellOf env p.1; pure (ForInStep.yield ((p.1, a) :: r)) else pure (ForInStep.yield r) : Sem (ForInStep (List (Str × Addr)))))) = pure (names.foldl (closeStep env) cs) := by
  intro names
  induction names with
  | nil => intro cs _; rfl
  | cons p r ih =>
    intro cs h
    obtain ⟨n, k⟩ := p
    rw [List.forIn_cons]
    by_cases hk : k = .free
    · subst hk
      obtain ⟨c, hc⟩ := Option.isSome_iff_exists.mp (h (n, .free) List.mem_cons_self rfl)
      have e : cellOf env n = pure c := by unfold cellOf; dsimp only at hc; rw [hc]
      have z : closeStep env cs (n, .free) = (n, c) :: cs := by unfold closeStep; dsimp only at hc ⊢; rw [hc]; rfl
      simp only [e, beq_self_eq_true, if_true, pure_bind, List.foldl_cons, z]
      exact ih _ fun q hq => h q (List.mem_cons_of_mem _ hq)
    · have b : (k == NameKind.free) = false := by simpa using hk
      have z : closeStep env cs (n, k) = cs := by unfold closeStep; dsimp only; rw [b]; rfl
      simp only [b, Bool.false_eq_true, if_false, pure_bind, List.foldl_cons, z]
      exact ih _ fun q hq => h q (List.mem_cons_of_mem _ hq)
theorem closure_is {scope : Scope} {env : Env} (h : ∀ p ∈ scope.names, p.2 = .free → (env.cells.lookup p.1).isSome = true) : closureFor scope env = pure (closeOf scope env) := by
  unfold closureFor closeOf
  have := close_loop scope.names [] h
  exact (congrArg (fun m => m >>= fun r => pure r) this).trans rfl
theorem close_mem {env : Env} : ∀ (names : List (Str × NameKind)) (cs : List (Str × Addr)) (x : Str) (c : Addr), (x, c) ∈ names.foldl (closeStep env) cs → (x, c) ∈ cs ∨ ((x, NameKind.free) ∈ names ∧ c = (env.cells.lookup x).getD 0) := by
  intro names
  induction names with
  | nil => intro cs x c h; exact .inl h
  | cons p r ih =>
    intro cs x c h
    obtain ⟨n, k⟩ := p
    rw [List.foldl_cons] at h
    rcases ih _ x c h with h1 | ⟨h1, h2⟩
    · unfold closeStep at h1
      dsimp only at h1
      by_cases hk : k = .free
      · subst hk
        simp only [beq_self_eq_true, if_true] at h1
        rcases List.mem_cons.mp h1 with e | h1
        · injection e with e1 e2
          subst e1; subst e2
          exact .inr ⟨List.mem_cons_self, rfl⟩
        · exact .inl h1
      · have b : (k == NameKind.free) = false := by simpa using hk
        simp only [b, Bool.false_eq_true, if_false] at h1
        exact .inl h1
    · exact .inr ⟨List.mem_cons_of_mem _ h1, h2⟩
theorem mem_of_look {α β : Type} [BEq α] [LawfulBEq α] : ∀ {l : List (α × β)} {a : α} {b : β}, l.lookup a = some b → (a, b) ∈ l
  | [], _, _, h => by simp at h
  | (x, y) :: r, a, b, h => by
    rw [List.lookup_cons] at h
    by_cases e : a = x
    · subst e
      simp only [beq_self_eq_true, if_true] at h
      cases h
      exact List.mem_cons_self
    · have : (a == x) = false := by simpa using e
      simp only [this] at h
      exact List.mem_cons_of_mem _ (mem_of_look h)
theorem look_of_mem {α β : Type} [BEq α] [LawfulBEq α] : ∀ {l : List (α × β)} {a : α} {b : β}, (a, b) ∈ l → ∃ c, l.lookup a = some c
  | [], _, _, h => by cases h
  | (x, y) :: r, a, b, h => by
    rw [List.lookup_cons]
    by_cases e : a = x
    · subst e
      exact ⟨y, by simp⟩
    · have z : (a == x) = false := by simpa using e
      rcases List.mem_cons.mp h with q | q
      · injection q with q1 _; exact absurd q1 e
      · obtain ⟨c, hc⟩ := look_of_mem q
        exact ⟨c, by simp only [z]; exact hc⟩
theorem close_has {env : Env} : ∀ (names : List (Str × NameKind)) (cs : List (Str × Addr)) (x : Str), ((x, NameKind.free) ∈ names ∨ ∃ c, (x, c) ∈ cs) → ∃ c, (x, c) ∈ names.foldl (closeStep env) cs := by
  intro names
  induction names with
  | nil =>
    intro cs x h
    rcases h with h | h
    · cases h
    · exact h
  | cons p r ih =>
    intro cs x h
    rw [List.foldl_cons]
    refine ih _ x ?_
    rcases h with h | ⟨c, h⟩
    · rcases List.mem_cons.mp h with e | h
      · subst e
        exact .inr ⟨_, by unfold closeStep; simp only [beq_self_eq_true, if_true]; exact List.mem_cons_self⟩
      · exact .inl h
    · refine .inr ⟨c, ?_⟩
      unfold closeStep
      split
      · exact List.mem_cons_of_mem _ h
      · exact h
theorem close_look {scope : Scope} {env : Env} (h : ∀ p ∈ scope.names, p.2 = .free → (env.cells.lookup p.1).isSome = true) {x : Str} {c : Addr} (e : (closeOf scope env).lookup x = some c) :
    env.cells.lookup x = some c ∧ (x, NameKind.free) ∈ scope.names := by
  rcases close_mem scope.names [] x c (mem_of_look e) with z | ⟨z, q⟩
  · cases z
  · obtain ⟨d, hd⟩ := Option.isSome_iff_exists.mp (h _ z rfl)
    dsimp only at hd
    rw [hd] at q
    exact ⟨by rw [hd, q]; rfl, z⟩
theorem close_some {scope : Scope} {env : Env} {x : Str} (h : (x, NameKind.free) ∈ scope.names) : ∃ c, (closeOf scope env).lookup x = some c := by
  obtain ⟨c, hc⟩ := close_has (env := env) scope.names [] x (.inl h)
  exact look_of_mem hc
/-- the names of a block, as its context sees them -/
theorem relabel_kind {scope : Scope} {env : Env} {x : Str} {k : NameKind} (h : (relabel scope env).names.lookup x = some k) : (k = .cell ∧ ((x, NameKind.free) ∈ scope.names ∨ (x, NameKind.cell) ∈ scope.names)) ∨ (x, k) ∈ scope.names := by
  have m := mem_of_look h
  unfold relabel at m
  obtain ⟨⟨n, j⟩, hm, e⟩ := List.mem_map.mp m
  dsimp only at e
  split at e
  · rename_i q
    injection e with e1 e2
    subst e1; subst e2
    have q1 : j = NameKind.free := by
      have := (Bool.and_eq_true_iff.mp (Bool.and_eq_true_iff.mp q).1).1
      exact eq_of_beq this
    subst q1
    exact .inl ⟨rfl, .inl hm⟩
  · injection e with e1 e2
    subst e1; subst e2
    exact .inr hm
end L2

namespace L2
open PySem
section
variable {prog : Program} {w : World} {A : Around} {R : Result → Shared → Prop} {s : Shared}
/-- the turns of a list comprehension of one clause without tests, by a word and a measure; nothing is raised -/
theorem comp_turns {elt target iter : Expr} {scope : Scope} {pos : Pos} {it acc : Value} {env : Env} (Wd : Nat → Shared → Prop)
    (turn : ∀ n s, Wd n s → wpAny (model prog w) A (pyNext it) (fun r s1 => match r with
      | none => R (.ok .next) s1
      | some v => wpAny (model prog w) A (letOwnedTupleGo target it v) (fun _ s2 => wpAny (model prog w) A (assign target env v) (fun _ s3 => wpAny (model prog w) A (eval elt env) (fun x s4 =>
          wpAny (model prog w) A (call (.builtin "list.append") [acc, x]) (fun _ s5 => ∃ m, m < n ∧ Wd m s5) (fun _ _ => False) s4) (fun _ _ => False) s3) (fun _ _ => False) s2) (fun _ _ => False) s1) (fun _ _ => False) s)
    (n : Nat) (h : Wd n s) : codeAny (model prog w) A (.compLoop (.ListComp elt [⟨target, iter, [], 0⟩] scope pos) 0 it acc env) R s := by
  refine codeAny_loop rfl Wd (fun n s hI => ?_) n h
  show wpAny _ _ (Sem.onRaise (compTurn (.ListComp elt [⟨target, iter, [], 0⟩] scope pos) 0 it acc env) _) _ _ s
  refine wpAny_noted ?_
  rw [compTurn_list1]
  refine wpAny_bind (wpAny_standAt (wpAny_bind (wpAny_mono (turn n s hI) (fun r s1 h1 => ?_) fun _ _ z => False.elim z)))
  cases r with
  | none => exact wpAny_pure h1
  | some v =>
    refine wpAny_bind (wpAny_mono h1 (fun _ s2 h2 => ?_) fun _ _ z => False.elim z)
    refine wpAny_bind (wpAny_mono h2 (fun _ s3 h3 => ?_) fun _ _ z => False.elim z)
    refine wpAny_bind (wpAny_bind (wpAny_mono h3 (fun x s4 h4 => ?_) fun _ _ z => False.elim z))
    exact wpAny_bind (wpAny_mono h4 (fun _ s5 h5 => wpAny_pure (wpAny_pure ⟨rfl, h5⟩)) fun _ _ z => False.elim z)
end
end L2


/-! ## numbers of many figures -/
namespace L2
open PySem PySem.Spec PyProof.Rows
/-- an int of fewer than n binary places -/
def Bd (n : Nat) (i : Int) : Prop := i.natAbs < 2 ^ n
theorem Bd.mono {n m : Nat} {i : Int} (h : Bd n i) (k : n ≤ m) : Bd m i := Nat.lt_of_lt_of_le h (Nat.pow_le_pow_right (by decide) k)
theorem Bd.of_le {n : Nat} {i j : Int} (h : Bd n j) (k : i.natAbs ≤ j.natAbs) : Bd n i := Nat.lt_of_le_of_lt k h
theorem Bd.mul {n m : Nat} {i j : Int} (h : Bd n i) (k : Bd m j) : Bd (n + m) (i * j) := by
  unfold Bd
  rw [Int.natAbs_mul, Nat.pow_add]
  rcases Nat.eq_zero_or_pos j.natAbs with z | z
  · rw [z, Nat.mul_zero]
    exact Nat.mul_pos (Nat.two_pow_pos _) (Nat.two_pow_pos _)
  · exact Nat.lt_of_lt_of_le (Nat.mul_lt_mul_of_pos_right h z) (Nat.mul_le_mul_left _ (Nat.le_of_lt k))
theorem Bd.add {n : Nat} {i j : Int} (h : Bd n i) (k : Bd n j) : Bd (n + 1) (i + j) := by
  have h' : i.natAbs < 2 ^ n := h
  have k' : j.natAbs < 2 ^ n := k
  unfold Bd
  rw [Nat.pow_succ]
  have := Int.natAbs_add_le i j
  omega
theorem Bd.neg {n : Nat} {i : Int} (h : Bd n i) : Bd n (-i) := by
  unfold Bd
  rw [Int.natAbs_neg]
  exact h
theorem Bd.sub {n : Nat} {i j : Int} (h : Bd n i) (k : Bd n j) : Bd (n + 1) (i - j) := by
  rw [Int.sub_eq_add_neg]
  exact h.add k.neg
theorem Bd.lit {n : Nat} {i : Int} (h : i.natAbs < 2 ^ n := by decide) : Bd n i := h
theorem Bd.bits {n : Nat} {i : Int} (h : Bd n i) : Builtin.Int.intBits i ≤ n := by
  have h' : i.natAbs < 2 ^ n := h
  unfold Builtin.Int.intBits
  split
  · exact Nat.zero_le _
  · rename_i z
    have nz : i.natAbs ≠ 0 := by
      intro q
      apply z
      rw [Int.natAbs_eq_zero.mp q]
      rfl
    exact (Nat.log2_lt nz).mpr h'
/-- i // j of i: no more places than i has -/
theorem Bd.fdiv {n : Nat} {i : Int} (h : Bd n i) (j : Int) : Bd n (i.fdiv j) :=
  h.of_le (Int.natAbs_fdiv_le_natAbs i j)
/-- a product, a quotient of such -/
def CMulW (i j : Int) : Prop := Bd 60000 i ∧ Bd 60000 j
def CDivW (_ j : Int) : Prop := j ≠ 0 ∧ Bd 8000 j
section
variable {X : Cx}
theorem CMulW.ok {i j : Int} (h : CMulW i j) : IntMulOk i j := by
  have h1 := h.1.bits
  have h2 := h.2.bits
  have hc : Builtin.Int.intTooBig (Builtin.Int.intBits i + Builtin.Int.intBits j) = false := by
    unfold Builtin.Int.intTooBig
    rw [bitsLine_eq]
    exact decide_eq_false (by omega)
  unfold IntMulOk
  rw [hc]
  simp
theorem op_mulW : OpR X (binaryOp .Mult) (rI CMulW fun i j => .int (i * j)) := opI fun _ _ _ _ _ _ _ hc q => mul_int q hc.ok
theorem op_fdivW : OpR X (binaryOp .FloorDiv) (rI CDivW fun i j => .int (i.fdiv j)) := opI fun _ _ _ _ _ _ _ hc q => by
  refine floordiv_int hc.1 q (.inl (PyProof.noPylong_of_log2 ?_))
  have h' : _ < 2 ^ 8000 := hc.2
  have nz : _ ≠ 0 := fun z => hc.1 (Int.natAbs_eq_zero.mp z)
  exact Nat.lt_trans ((Nat.log2_lt nz).mpr h') (by decide)
end

/-! ## isinstance, is True -/
section
variable {X : Cx}
/-- isinstance(x, C), C a built-in type -/
def rInst (K : PySem.W.Frag) : List V → Hp → VK → Prop := fun xs H Q => ∃ x c t b, xs = [x, .ty c] ∧ TyOf K H x t ∧ PySem.W.kitOne K t (.type c) = some b ∧ Q (.bl b) H
theorem call_isinst : CallR X (.builtin "isinstance") (rInst X.K) := by
  intro pins s σ H xs us Q I r h
  obtain ⟨x, c, t, b, rfl, ty, e, q⟩ := h
  obtain ⟨u, v, rfl, ru, rv⟩ := vals2 r
  cases (show v = Value.type c from rv)
  exact isinst_ok I ru ty e fun tk => ⟨.bl b, H, I.tok tk, rfl, q⟩
end

/-! ## == and != of like data -/
mutual
/-- what a value is worth as data -/
inductive Dp (K : PySem.W.Frag) (H : Hp) : V → PyData → Prop where
  | non : Dp K H .non .none
  | bl (b : Bool) : Dp K H (.bl b) (.bool b)
  | int (i : Int) : Dp K H (.int i) (.int i)
  | str (x : Str) : Dp K H (.str x) (.str x)
  | lst {a : Addr} {xs : List V} {ds : List PyData} (e : SqL K H a xs) (h : DpAll K H xs ds) : Dp K H (.ref a) (.list ds)
  | tup {a : Addr} {xs : List V} {ds : List PyData} (e : SqT K H a xs) (h : DpAll K H xs ds) : Dp K H (.ref a) (.tuple ds)
inductive DpAll (K : PySem.W.Frag) (H : Hp) : List V → List PyData → Prop where
  | nil : DpAll K H [] []
  | cons {x : V} {xs : List V} {d : PyData} {ds : List PyData} (h : Dp K H x d) (t : DpAll K H xs ds) : DpAll K H (x :: xs) (d :: ds)
end
section
variable {X : Cx} {pins : List (Addr × Obj)} {σ : St} {H : Hp} {s : Shared}
mutual
theorem Dp.reads (I : Inv X pins σ H s) : ∀ {x : V} {d : PyData} {u : Value}, Dp X.K H x d → RelV x u → ∃ as, Reads s.heap u d as
  | _, _, _, .non, r => by cases r; exact ⟨_, .none⟩
  | _, _, _, .bl b, r => by cases r; exact ⟨_, .bool b⟩
  | _, _, _, .int i, r => by obtain ⟨t, rfl⟩ := r; exact ⟨_, .int i t⟩
  | _, _, _, .str x, r => by obtain ⟨t, rfl⟩ := r; exact ⟨_, .str x t⟩
  | _, _, _, .lst e h, r => by
    cases r
    obtain ⟨its, rv, ⟨o, n, e1, e2, _, e3⟩, _⟩ := I.list e
    obtain ⟨as, q⟩ := DpAll.reads I h rv
    exact ⟨_, .list e1 e2 e3 (by simpa using q)⟩
  | _, _, _, .tup e h, r => by
    cases r
    obtain ⟨its, rv, ⟨o, e1, e2, n, e3⟩, _⟩ := I.tuple e
    obtain ⟨as, q⟩ := DpAll.reads I h rv
    exact ⟨_, .tuple e1 e2 e3 (by simpa using q)⟩
theorem DpAll.reads (I : Inv X pins σ H s) : ∀ {xs : List V} {ds : List PyData} {us : List Value}, DpAll X.K H xs ds → Vals xs us → ∃ as, ReadsAll s.heap us ds as
  | _, _, _, .nil, r => by cases r; exact ⟨_, .nil⟩
  | _, _, _, .cons h t, r => by
    cases r with
    | cons r1 r2 =>
      obtain ⟨_, q1⟩ := Dp.reads I h r1
      obtain ⟨_, q2⟩ := DpAll.reads I t r2
      exact ⟨_, .cons q1 q2⟩
end
end
section
variable {X : Cx}
/-- two values that are the same data, no deeper than 60 -/
def rSameD (K : PySem.W.Frag) (b : Bool) : R2 := fun x y H Q => ∃ d : PyData, Dp K H x d ∧ Dp K H y d ∧ d.canLay0 = true ∧ d.depth ≤ 60 ∧ Q (.bl b) H
theorem op_eqD (hu : X.A.units + 64 < cLine) : OpR X (compareOp .Eq) (rSameD X.K true) := by
  intro pins s σ H x y v u Q I rx ry h
  obtain ⟨d, hx, hy, hc, hd, q⟩ := h
  obtain ⟨_, r1⟩ := hx.reads I rx
  obtain ⟨_, r2⟩ := hy.reads I ry
  refine SeqAt.rcAt_reads r1 r2 hc hc (by rw [Nat.min_self]; omega) _ _ _ _ ⟨.bl true, H, I, ?_, q⟩
  rw [SeqAt.eqv_refl d hc]
  rfl
theorem op_neD (hu : X.A.units + 64 < cLine) : OpR X (compareOp .NotEq) (rSameD X.K false) := by
  intro pins s σ H x y v u Q I rx ry h
  obtain ⟨d, hx, hy, hc, hd, q⟩ := h
  obtain ⟨_, r1⟩ := hx.reads I rx
  obtain ⟨_, r2⟩ := hy.reads I ry
  refine SeqAt.compareNe_reads r1 r2 hc hc (by rw [Nat.min_self]; omega) ⟨.bl false, H, I, ?_, q⟩
  rw [SeqAt.eqv_refl d hc]
  rfl
end

/-! ## all(..) of a list of bools -/
section
variable {X : Cx}
theorem call_all (hc : X.calm = true) : CallR X (.builtin "all") (fun xs H Q => ∃ (p : Addr) (bs : List Bool), xs = [.ref p] ∧ SqL X.K H p (bs.map V.bl) ∧ Q (.bl (bs.all id)) H) := by
  intro pins s σ H xs us Q I r h
  obtain ⟨p, bs, rfl, hq, q⟩ := h
  obtain ⟨u, rfl, ru⟩ := vals1 r
  cases ru
  obtain ⟨its, rv, pl, hz⟩ := I.list hq
  have hh : X.A.in1.handled = none := I.ok.hd hc
  have hlt : p < s.heap.objs.size := by obtain ⟨o, n, e, _⟩ := pl; exact Heap.lt_size e
  refine call_all_walk (wpAny_pyIter_list pl.isList ?_)
  have hlen : its.length = bs.length := by rw [← rv.length, List.length_map]
  refine ⟨s.heap.objs.size, _, _, _, _, _, fun i => bs.getD i true, rfl, Walks.list hh s.heap.objs.size p (Nat.ne_of_lt hlt) its.toArray, ⟨⟨_, Heap.get?_push_size _ rfl, rfl, rfl⟩, pl.isList.push _⟩, ?_, fun h' tk kk => ?_⟩
  · intro i v s' Q' E' hP hQ'
    have e1 : its[i]? = some v := by simpa using hP
    have hi : i < its.length := (List.getElem?_eq_some_iff.mp e1).1
    have hb : (bs.map V.bl)[i]? = some (.bl (bs.getD i true)) := by
      rw [List.getElem?_map, List.getElem?_eq_getElem (by omega), List.getD_eq_getElem?_getD, List.getElem?_eq_getElem (by omega)]
      rfl
    obtain ⟨u', e2, r2⟩ := rv.get hb
    rw [e1] at e2
    cases e2
    cases r2
    exact wpAny_truthy_bool hQ'
  · have e : (List.range its.toArray.size).all (fun i => bs.getD i true) = bs.all id := by
      rw [List.size_toArray, hlen]
      rw [Bool.eq_iff_iff, List.all_eq_true, List.all_eq_true]
      constructor
      · intro z b hb
        obtain ⟨i, hi, rfl⟩ := List.mem_iff_getElem.mp hb
        have := z i (List.mem_range.mpr hi)
        rw [List.getD_eq_getElem?_getD, List.getElem?_eq_getElem hi] at this
        exact this
      · intro z i hi
        have hi' := List.mem_range.mp hi
        rw [List.getD_eq_getElem?_getD, List.getElem?_eq_getElem hi']
        exact z _ (List.getElem_mem hi')
    refine ⟨.bl (bs.all id), H, I.kept (h' := h') (t' := tk) fun b o eb => kk b o ?_ (Heap.get?_push_of_some _ eb), ?_, q⟩
    · intro hb
      have : b = s.heap.objs.size := by simpa using hb
      rw [this] at eb
      exact absurd (Heap.lt_size eb) (Nat.lt_irrefl _)
    · rw [e]
      rfl
end
end L2


/-! ## a list comprehension of one clause without tests -/
namespace L2
open PySem PySem.Spec PyProof.Rows
/-- the block's own context: its frame at C, the iterator's objects at ex -/
abbrev blockCx (X : Cx) (scope : Scope) (N : List Str) (C : Addr) (s₀ : Shared) (H₀ : Hp) (ex : List Addr) : Cx :=
  { X with N := N, s₀ := s₀, H₀ := H₀, env := compEnvC scope (closeOf scope X.env) C X.env, outer := X.stack, ex := ex, fn := fun _ => false, pn := [], xe := fun _ _ => False }
/-- the names' values at the block's entry: its own ones are not set, the captured ones are those of the slots around -/
def blkSt (own : List Str) (caps : List (Nat × Str)) (σ : St) : St := own.map (fun _ => none) ++ caps.map fun p => (σ[p.1]?).getD none
abbrev blkN (own : List Str) (caps : List (Nat × Str)) : List Str := own ++ caps.map (·.2)
structure BlkOk (X : Cx) (scope : Scope) (own : List Str) (caps : List (Nat × Str)) : Prop where
  kind : scope.kind = .function
  ncell : ∀ y ∈ scope.names, y.2 ≠ .cell
  locs : ∀ y ∈ scope.names, y.2 = .local → scope.names.lookup y.1 = some .local
  free : ∀ y ∈ scope.names, y.2 = .free → (X.env.cells.lookup y.1).isSome = true
  caps : ∀ p ∈ caps, X.N[p.1]? = some p.2 ∧ scope.names.lookup p.2 = some .free ∧ (X.env.kindOf p.2 = some .cell ∨ X.env.kindOf p.2 = some .free)
theorem relabel_look {scope : Scope} {env : Env} {x : Str} : (relabel scope env).names.lookup x = (scope.names.lookup x).map fun k => if (k == .free && env.scope.kind == .function && env.kindOf x == some .cell) = true then .cell else k := by
  unfold relabel
  generalize scope.names = l
  induction l with
  | nil => rfl
  | cons p r ih =>
    obtain ⟨n, k⟩ := p
    rw [List.map_cons]
    by_cases e : x = n
    · subst e
      by_cases c : (k == NameKind.free && env.scope.kind == .function && env.kindOf x == some .cell) = true
      · simp only [c, if_true, List.lookup_cons, beq_self_eq_true, Option.map_some]
      · simp only [c, if_false, List.lookup_cons, beq_self_eq_true, Option.map_some, Bool.false_eq_true]
    · have z : (x == n) = false := by simpa using e
      dsimp only
      split <;> simp only [List.lookup_cons, z] <;> exact ih
theorem blk_free {scope : Scope} {env : Env} {x : Str} (nc : ∀ y ∈ scope.names, y.2 ≠ .cell) (h : (relabel scope env).names.lookup x = some .cell ∨ (relabel scope env).names.lookup x = some .free) : (x, NameKind.free) ∈ scope.names := by
  rw [relabel_look] at h
  cases e : scope.names.lookup x with
  | none => rw [e] at h; rcases h with h | h <;> cases h
  | some k =>
    have m := mem_of_look e
    rw [e] at h
    simp only [Option.map_some, Option.some.injEq] at h
    have kf : k = .free := by
      rcases h with h | h
      · split at h
        · rename_i q
          exact eq_of_beq (Bool.and_eq_true_iff.mp (Bool.and_eq_true_iff.mp q).1).1
        · exact absurd h (nc _ m)
      · split at h
        · cases h
        · exact h
    rw [← kf]
    exact m
/-- what the block reckons. W: the word by the turn, a measure, the list so far, the block's names, the heap -/
def CompGo (J : It) (g : TG) (te : TE) (Q : VK) (σ0 : St) (H1 : Hp) : Prop := ∃ W : Nat → Nat → List V → St → Hp → Prop, (∃ m, W 0 m [] σ0 H1) ∧
  ∀ i m ys σ1 H, W i m ys σ1 H → (J.stop i H ∧ ∀ p, H p = none → Q (.ref p) (upd H p (.lst ys))) ∨
    (J.go i H ∧ ys.length < sizeLine ∧ ∃ N : V → St → Hp → Prop, (∀ y σ' H', N y σ' H' → ∃ m', m' < m ∧ W (i + 1) m' (ys ++ [y]) σ' H') ∧ ∀ x H', J.yld i H x H' → g x σ1 H' fun σ2 H2 => te σ2 H2 fun y H3 => N y σ2 H3)
def tComp (own : List Str) (caps : List (Nat × Str)) (wi : TI) (g : TG) (te : TE) : TE := fun σ H Q => wi σ H fun J H1 => CompGo J g te Q (blkSt own caps σ) H1
section
variable {X : Cx} {scope : Scope} {own : List Str} {caps : List (Nat × Str)} {pins : List (Addr × Obj)} {σ : St} {H : Hp} {s s4 : Shared} {C D : Addr} {fp : List Addr}
theorem blk_ok (B : BlkOk X scope own caps) (I : Inv X pins σ H s) (hf : ∀ b ∈ fp, FpOk X pins H b) (hC : s.heap.objs.size ≤ C) (hlt : ∀ b ∈ fp, b < s.heap.objs.size) : (blockCx X scope (blkN own caps) C s H fp).Ok where
  mod := I.ok.mod
  kind := B.kind
  glob := I.ok.glob
  blt := I.ok.blt
  above := hC
  inj := fun x y c h1 h2 => I.ok.inj x y c (close_look B.free h1).1 (close_look B.free h2).1
  has := fun x h => close_some (blk_free B.ncell h)
  cab := fun x c h _ => by cases h
  hd := I.ok.hd
  frames := I.ok.frames
  stk := .inl rfl
  exf := fun b hb => ⟨fun e => by have := hlt b hb; rw [e] at this; exact absurd (Nat.lt_of_lt_of_le this hC) (Nat.lt_irrefl _), fun x c e => (hf b hb).2.2.2.2.1 x c (close_look B.free e).1⟩
  bs := I.bs
  bsz := Nat.le_trans I.ok.bsz I.sz
  noex := fun b o e hb => by
    rcases (hf b hb).2.2.2.1 with z | z
    · exact I.ok.noex b o e z
    · exact absurd (Nat.lt_of_lt_of_le (Heap.lt_size e) (Nat.le_trans I.ok.bsz z)) (Nat.lt_irrefl _)
  exfs := fun b hb z => by
    rcases List.mem_cons.mp (I.stkSub b z) with e | z
    · exact (hf b hb).2.1 e
    · exact (hf b hb).2.2.1 z
  funs := I.stack
  frf := I.stkFree
theorem blk_slot {i : Nat} {x : Str} {v : V} (h1 : (blkN own caps)[i]? = some x) (h2 : (blkSt own caps σ)[i]? = some (some v)) : ∃ j, (j, x) ∈ caps ∧ σ[j]? = some (some v) := by
  unfold blkSt at h2
  by_cases hi : i < own.length
  · rw [List.getElem?_append_left (by simpa using hi), List.getElem?_map] at h2
    cases e : own[i]? with
    | none => rw [e] at h2; cases h2
    | some a => rw [e] at h2; cases h2
  · rw [List.getElem?_append_right (by simpa using hi), List.length_map, List.getElem?_map] at h2
    unfold blkN at h1
    rw [List.getElem?_append_right (by omega), List.getElem?_map] at h1
    cases e : caps[i - own.length]? with
    | none => rw [e] at h1; cases h1
    | some p =>
      obtain ⟨j, n⟩ := p
      rw [e] at h1 h2
      cases h1
      refine ⟨j, List.mem_of_getElem? e, ?_⟩
      simp only [Option.map_some, Option.some.injEq] at h2
      cases q : σ[j]? with
      | none => rw [q] at h2; cases h2
      | some o => rw [q] at h2; exact congrArg some h2
theorem blk_inv (B : BlkOk X scope own caps) (I : Inv X pins σ H s) (hf : ∀ b ∈ fp, FpOk X pins H b) (hC : s.heap.objs.size ≤ C) (hlt : ∀ b ∈ fp, b < s.heap.objs.size)
    {m : Str → Option Value} (hn : s4.heap.Ns C m) (hk : ∀ b o, s.heap.get? b = some o → s4.heap.get? b = some o) (ho : s4.os = s.os) (hb : AllBare s4.gens) :
    Inv (blockCx X scope (blkN own caps) C s H fp) [] (blkSt own caps σ) H s4 where
  ok := blk_ok B I hf hC hlt
  os := ho
  bare := hb
  base := Un.kept hk
  loc := ⟨m, hn, fun i x v h1 h2 h3 => by
    obtain ⟨j, hm, hs⟩ := blk_slot h1 h2
    obtain ⟨c1, c2, c3⟩ := B.caps _ hm
    obtain ⟨m', _, hl⟩ := I.loc
    have vis : Vis X.env.scope x := c3.elim (fun z => .inr (.inl z)) fun z => .inr (.inr z)
    obtain ⟨u, r, l⟩ := hl j x v c1 hs vis
    refine ⟨u, r, .inr ?_⟩
    have hm2 : (x, NameKind.free) ∈ scope.names := mem_of_look c2
    obtain ⟨c', hc'⟩ := close_some (env := X.env) hm2
    have hc2 := (close_look B.free hc').1
    refine ⟨?_, c', hc', ?_⟩
    · show (relabel scope X.env).names.lookup x = some .cell ∨ (relabel scope X.env).names.lookup x = some .free
      rw [relabel_look, c2, Option.map_some]
      split
      · exact .inl rfl
      · exact .inr rfl
    · rcases l with ⟨k, _⟩ | ⟨_, c, e, z⟩
      · rcases c3 with c3 | c3 <;> rw [c3] at k <;> cases k
      · rw [hc2] at e
        cases e
        obtain ⟨o, e1, e2⟩ := z
        exact ⟨o, hk _ o e1, e2⟩⟩
  cell := fun x c e => by
    obtain ⟨v, o, e1, e2⟩ := I.cell x c (close_look B.free e).1
    exact ⟨v, o, hk _ o e1, e2⟩
  free := I.hok.fresh hC
  freeC := fun x c e => I.freeC x c (close_look B.free e).1
  pin := fun p hp => by simp at hp
  hok := I.hok.kept hk
  len := by
    show (blkSt own caps σ).length = (blkN own caps).length
    unfold blkSt blkN
    simp
/-- the list that the block fills, as an object -/
abbrev lobj (its : List Value) (k : Nat) : Obj := { cls := .type "list", data := .seq its.toArray k }
/-- the list of the block grows by one: it is no tracked thing, and pinned again behind -/
theorem blk_push {Y : Cx} {its : List Value} {k : Nat} {y : Value} {pl : List (Addr × Obj)} {Q : Value → Shared → Prop} {E : Value → Shared → Prop} (I : Inv Y ((D, lobj its k) :: pl) σ H s) (hn : FpOk Y [] H D) (hp : Y.pn = []) (hz : its.length ≤ sizeLine)
    (q : ∀ h' k' tk, (∀ b o, b ≠ D → s.heap.get? b = some o → h'.get? b = some o) → Inv Y [(D, lobj (its ++ [y]) k')] σ H { s with heap := h', toks := tk } → Q .none { s with heap := h', toks := tk }) :
    wpAny (model Y.prog Y.w) Y.A (call (.builtin "list.append") [.ref D, y]) Q E s := by
  have pD := I.pin (D, lobj its k) (List.mem_append_right _ List.mem_cons_self)
  have e : s.heap.get? D = some (lobj its k) := pD.1
  refine call_meets F.slot_list_append ⟨_, e, rfl⟩ F.entry_list_append (F.args_list_append_2 _ _) (PySem.list_append D its.toArray k y (by rw [List.size_toArray]; exact hz)) ⟨e, ?_⟩
  have e2 := PySem.IsL.update e (·.push y)
  have ea : its.toArray.push y = (its ++ [y]).toArray := by simp
  have keep : ∀ b o, b ≠ D → s.heap.get? b = some o → (s.heap.update D (Obj.mapSeq (·.push y))).get? b = some o := fun b o hb eb => (Heap.get?_update_other s.heap _ (Ne.symm hb)).trans eb
  have I0 : Inv Y [] σ H s := I.pins_of fun p hp' => by cases hp'
  have I1 : Inv Y [] σ H { s with heap := s.heap.update D (Obj.mapSeq (·.push y)), toks := s.toks } := I0.turned keep hn.1 hn.2.1 hn.2.2.2.1 hn.2.2.2.2.1 hn.2.2.2.2.2
  have e3 : (s.heap.update D (Obj.mapSeq (·.push y))).get? D = some (lobj (its ++ [y]) _) := e2.trans (by rw [ea])
  have I2 : Inv Y [(D, lobj (its ++ [y]) (if ((its ++ [y]).toArray.size == its.toArray.size) = true then k else k + 1))] σ H { s with heap := s.heap.update D (Obj.mapSeq (·.push y)), toks := s.toks } := I1.pins_of fun p hp' => by
    rw [List.mem_singleton.mp hp']
    exact ⟨e3, hn.1, hn.2.1, hn.2.2.1, fun v z => by cases z⟩
  exact q _ _ s.toks keep I2
end
section
variable {X : Cx} {scope : Scope} {own : List Str} {caps : List (Nat × Str)} {elt tg iter : Expr} {wi : TI} {g : TG} {te : TE} {pos : Pos}
/-- the block from its list on: behind it, what RR wants -/
theorem comp_core {pins : List (Addr × Obj)} {σ : St} {H2 : Hp} {s2 : Shared} {it : Addr} {fp : List Addr} {tn : Nat → Heap → Prop} {J : It} {W : Nat → Nat → List V → St → Hp → Prop} {m0 : Nat} {Q : VK} {E : Value → Shared → Prop} {RR : Value → Addr → Result → Shared → Prop}
    (B : BlkOk X scope own caps) (hc : X.calm = true) (hg : ∀ C s₀ H₀ ex, PG (blockCx X scope (blkN own caps) C s₀ H₀ ex) tg g) (he : ∀ C s₀ H₀ ex, PE (blockCx X scope (blkN own caps) C s₀ H₀ ex) elt te)
    (I2 : Inv X pins σ H2 s2) (T : Turn X.prog X.w X.K tg J fp it tn) (st2 : tn 0 s2.heap) (f2 : ∀ b ∈ fp, FpOk X pins H2 b) (w0 : W 0 m0 [] (blkSt own caps σ) H2)
    (turn : ∀ i m ys σ1 H, W i m ys σ1 H → (J.stop i H ∧ ∀ p, H p = none → Q (.ref p) (upd H p (.lst ys))) ∨
      (J.go i H ∧ ys.length < sizeLine ∧ ∃ N : V → St → Hp → Prop, (∀ y σ' H', N y σ' H' → ∃ m', m' < m ∧ W (i + 1) m' (ys ++ [y]) σ' H') ∧ ∀ x H', J.yld i H x H' → g x σ1 H' fun σ2 H2 => te σ2 H2 fun y H3 => N y σ2 H3))
    (hRR : ∀ D C s6 H6 ys m, s6.heap.Ns C m → s2.heap.objs.size ≤ C → (∀ h', Heap.SameBut C s6.heap h' → Inv X pins σ (upd H6 D (.lst ys)) { s6 with heap := h' }) → upd H6 D (.lst ys) C = none → Q (.ref D) (upd H6 D (.lst ys)) → RR (.ref D) C (.ok .next) s6) :
    wpAny (model X.prog X.w) X.A (newList []) (fun acc s3 => wpAny (model X.prog X.w) X.A (newFunctionEnv scope X.env.globals (closeOf scope X.env) [] X.env.qual none .none (some X.env)) (fun cenv s4 =>
      codeAny (model X.prog X.w) X.A (.compStart (.ListComp elt [⟨tg, iter, [], 0⟩] scope pos) 0 (.ref it) acc { cenv with scope := relabel scope X.env }) (RR acc cenv.locals) s4) E s3) E s2 := by
  have hlt : ∀ b ∈ fp, b < s2.heap.objs.size := fun b hb => by
    obtain ⟨o, ho, _⟩ := T.obj _ _ st2 b hb
    exact Heap.lt_size ho
  refine wpAny_newObj_type (wpAny_newFunctionEnv B.ncell (fun y hy => by simp at hy) (fun h4 hns hsb => ?_) B.kind)
  dsimp only at hns hsb ⊢
  generalize hP : s2.heap.push { cls := .type "list", dict := none, data := .seq ([] : List Value).toArray } = HD at hns hsb ⊢
  have hCD : HD.objs.size = s2.heap.objs.size + 1 := by rw [← hP, Heap.size_push]
  have hDC : s2.heap.objs.size ≠ HD.objs.size := by omega
  have hle : s2.heap.objs.size ≤ HD.objs.size := by omega
  have old : ∀ b o, s2.heap.get? b = some o → h4.get? b = some o := fun b o eb => by
    have hb := Heap.lt_size eb
    exact hsb.extBut b o (Nat.ne_of_lt (Nat.lt_of_lt_of_le hb hle)) (Heap.get?_push_of_some _ (by rw [← hP]; exact Heap.get?_push_of_some _ eb))
  have hD4 : h4.get? s2.heap.objs.size = some { cls := .type "list", data := .seq ([] : List Value).toArray 0 } :=
    hsb.extBut _ _ hDC (Heap.get?_push_of_some _ (by rw [← hP]; exact Heap.get?_push_size _ rfl))
  have IY : Inv (blockCx X scope (blkN own caps) HD.objs.size s2 H2 fp) [] (blkSt own caps σ) H2 { s2 with heap := h4, toks := s2.toks + ([] : List (Str × Value)).length } :=
    blk_inv B I2 f2 (by omega) hlt hns old rfl I2.bare
  -- what stays true of the iterator's objects and of the list
  have stat : ∀ {H' : Hp}, (∀ b ∈ fp, H' b = none) → ∀ b ∈ fp, FpOk (blockCx X scope (blkN own caps) HD.objs.size s2 H2 fp) [] H' b := fun {H'} hn b hb => by
    have hb2 := hlt b hb
    refine ⟨hn b hb, ?_, fun z => ?_, .inl hb, fun x c ec => (f2 b hb).2.2.2.2.1 x c (close_look B.free ec).1, fun p hp => by simp at hp⟩
    · exact Nat.ne_of_lt (Nat.lt_of_lt_of_le hb2 hle)
    · rcases List.mem_cons.mp (I2.stkSub b z) with e | z
      · exact (f2 b hb).2.1 e
      · exact (f2 b hb).2.2.1 z
  have statD : ∀ {H' : Hp}, H' s2.heap.objs.size = none → FpOk (blockCx X scope (blkN own caps) HD.objs.size s2 H2 fp) [] H' s2.heap.objs.size := fun {H'} hn => by
    refine ⟨hn, hDC, fun z => ?_, .inr (Nat.le_refl _), fun x c ec z => ?_, fun p hp => by simp at hp⟩
    · obtain ⟨_, o, ho, _⟩ := I2.stack.mem z
      exact absurd (Heap.lt_size ho) (Nat.lt_irrefl _)
    · obtain ⟨v, o, ho, _⟩ := I2.cell x c (close_look B.free ec).1
      rw [z] at ho
      exact absurd (Heap.lt_size ho) (Nat.lt_irrefl _)
  have neD : ∀ b ∈ fp, b ≠ s2.heap.objs.size := fun b hb => Nat.ne_of_lt (hlt b hb)
  have IY' : Inv (blockCx X scope (blkN own caps) HD.objs.size s2 H2 fp) [(s2.heap.objs.size, lobj [] 0)] (blkSt own caps σ) H2 { s2 with heap := h4, toks := s2.toks + ([] : List (Str × Value)).length } :=
    IY.pins_of fun p hp => by
      rw [List.mem_singleton.mp hp]
      have z := statD (I2.hok.fresh (Nat.le_refl _))
      exact ⟨hD4, z.1, z.2.1, z.2.2.1, fun v z => by cases z⟩
  have loop : ∀ s3 : Shared, s3 = { s2 with heap := h4, toks := s2.toks + ([] : List (Str × Value)).length } →
      codeAny (model X.prog X.w) X.A (.compLoop (.ListComp elt [⟨tg, iter, [], 0⟩] scope pos) 0 (.ref it) (.ref s2.heap.objs.size) (compEnvC scope (closeOf scope X.env) HD.objs.size X.env))
        (RR (.ref s2.heap.objs.size) HD.objs.size) s3 := by
    rintro s3 rfl
    refine comp_turns (fun n s' => ∃ i ys σ' H' its k, Inv (blockCx X scope (blkN own caps) HD.objs.size s2 H2 fp) [(s2.heap.objs.size, lobj its k)] σ' H' s' ∧ tn i s'.heap ∧ (∀ b ∈ fp, H' b = none) ∧
      Vals ys its ∧ ys.length ≤ sizeLine ∧ W i n ys σ' H') ?_ m0 ⟨0, [], _, H2, [], 0, IY', T.keep _ _ _ st2 fun b hb o eb => old b o eb, fun b hb => (f2 b hb).1, .nil, Nat.zero_le _, w0⟩
    rintro n s5 ⟨i, ys, σ5, H5, its, k, I5, st5, fr5, rv5, hz5, w5⟩
    have stat5 : ∀ {H' : Hp}, (∀ b ∈ fp, H' b = none) → ∀ b ∈ fp, FpOk (blockCx X scope (blkN own caps) HD.objs.size s2 H2 fp) [(s2.heap.objs.size, lobj its k)] H' b := fun {H'} hn b hb => by
      obtain ⟨a1, a2, a3, a4, a5, _⟩ := stat hn b hb
      refine ⟨a1, a2, a3, a4, a5, fun p hp => ?_⟩
      have hp' : p ∈ [(s2.heap.objs.size, lobj its k)] := hp
      rw [List.mem_singleton.mp hp']
      exact Ne.symm (neD b hb)
    rcases turn i n ys σ5 H5 w5 with ⟨stop, qn⟩ | ⟨go, hlen, N, hN, step⟩
    · refine thn (T.done (blockCx X scope (blkN own caps) HD.objs.size s2 H2 fp) rfl rfl rfl hc i _ s5 σ5 H5 _ I5 (stat5 fr5) st5 stop) fun r s6 ⟨hr, I6⟩ => ?_
      subst hr
      obtain ⟨pD1, pD2, _⟩ := I6.pin (s2.heap.objs.size, lobj its k) (List.mem_append_right _ List.mem_cons_self)
      obtain ⟨m6, hn6, _⟩ := I6.loc
      refine hRR _ _ s6 H5 ys m6 hn6 (by omega) (fun h' sb => ?_) (by rw [upd_ne (Ne.symm hDC)]; exact I6.free) (qn _ pD2)
      have hC5 : H5 HD.objs.size = none := I6.free
      have nb : ∀ b o, s2.heap.get? b = some o → b ≠ HD.objs.size ∧ b ≠ s2.heap.objs.size := fun b o eb => by
        have hb := Heap.lt_size eb
        exact ⟨Nat.ne_of_lt (Nat.lt_of_lt_of_le hb hle), Nat.ne_of_lt hb⟩
      have nt : ∀ b o, H5 b = some o → b ≠ s2.heap.objs.size := fun b o eb z => by rw [z] at eb; rw [show H5 s2.heap.objs.size = none from pD2] at eb; cases eb
      have un : Un (frs X.stack) fp H2 (upd H5 s2.heap.objs.size (.lst ys)) s2.heap h' :=
        ⟨fun b o eb n1 n2 n3 => sb.extBut b o (nb b o eb).1 (I6.base.keep b o eb n1 n2 n3),
          fun b o eb n1 n2 n3 => by
            obtain ⟨sl, e1⟩ := I6.base.slot b o eb n1 n2 n3
            exact ⟨sl, sb.extBut b _ (nb b o eb).1 e1⟩,
          fun b o eb n1 n3 => by
            rw [upd_ne (nb b o eb).2]
            exact I6.base.free b o eb n1 n3,
          fun b o eb n3 => by
            obtain ⟨o', e1⟩ := I6.base.there b o eb n3
            exact ⟨o', sb.extBut b _ (nb b o eb).1 e1⟩,
          fun b xs eb => by
            have e1 := I6.base.tups b xs eb
            rw [upd_ne (nt b _ e1)]
            exact e1,
          fun b o u eb => by
            have e1 := I6.base.frzs b o u eb
            rw [upd_ne (nt b _ e1)]
            exact e1,
          fun b ps eb => by
            obtain ⟨more, e1⟩ := I6.base.tbls b ps eb
            refine ⟨more, ?_⟩
            rw [upd_ne (nt b _ e1)]
            exact e1⟩
      have ok5 : HOk X.prog X.w (upd H5 s2.heap.objs.size (.lst ys)) h' := fun b u eb => by
        by_cases hb : b = s2.heap.objs.size
        · subst hb
          rw [upd_same] at eb
          cases eb
          exact ⟨hz5, its, k, rv5, sb.extBut _ _ hDC pD1⟩
        · rw [upd_ne hb] at eb
          refine (I6.hok b u eb).stay (fun c v hcv ev => sb.extBut c v ?_ ev) (fun c ec => by rw [upd_ne (nt c _ ec)]; exact ec) fun c xs ec => by rw [upd_ne (nt c _ ec)]; exact ec
          rintro rfl
          rcases hcv with z | z
          · rw [← z, hC5] at eb
            cases eb
          · rw [hC5] at z
            cases z
      exact I2.call' (s' := { s6 with heap := h' }) (ch := fp) I6.os un ok5 I6.bare fun b hb => ⟨(f2 b hb).2.2.2.1, (f2 b hb).2.1, (f2 b hb).2.2.2.2.1, (f2 b hb).2.2.2.2.2⟩
    · refine thn (T.item (blockCx X scope (blkN own caps) HD.objs.size s2 H2 fp) rfl rfl rfl hc i _ s5 σ5 H5 _ I5 (stat5 fr5) st5 go) fun r s6 ⟨u, hr, h6⟩ => ?_
      subst hr
      refine thn h6 fun _ s7 ⟨x, H7, I7, r7, y7, st7, fr7⟩ => ?_
      have I7' := I7.pinned (stat5 fr7) (T.obj _ _ st7)
      refine thn (hg HD.objs.size s2 H2 fp _ s7 σ5 H7 x u _ I7' r7 (step x H7 y7)) fun _ s8 ⟨σ8, H8, I8, q8⟩ => ?_
      refine thn (he HD.objs.size s2 H2 fp _ s8 σ8 H8 _ I8 q8) fun yv s9 ⟨y, H9, I9, r9, n9⟩ => ?_
      obtain ⟨m', hm', w9⟩ := hN y σ8 H9 n9
      have pD9 := (I9.pin (s2.heap.objs.size, lobj its k) (List.mem_append_right _ (List.mem_append_left _ List.mem_cons_self))).2.1
      have hl : its.length = ys.length := rv5.length.symm
      refine blk_push (Y := blockCx X scope (blkN own caps) HD.objs.size s2 H2 fp) (its := its) (k := k) (pl := pinsAt fp s7.heap) I9 (statD pD9) rfl (by omega) fun h' k' tk keep I' => ?_
      refine ⟨m', hm', i + 1, ys ++ [y], σ8, H9, its ++ [yv], k', I', ?_, fun b hb => ?_, rv5.append (.cons r9 .nil), ?_, w9⟩
      · refine T.keep _ _ _ st7 fun b hb o eb => keep b o (neD b hb) ?_
        exact (I9.pin (b, o) (List.mem_append_right _ (List.mem_append_right _ (mem_pinsAt hb eb)))).1
      · obtain ⟨o, eb, _⟩ := T.obj _ _ st7 b hb
        exact (I9.pin (b, o) (List.mem_append_right _ (List.mem_append_right _ (mem_pinsAt hb eb)))).2.1
      · rw [List.length_append, List.length_singleton]
        omega
  exact codeAny_compStart_list (loop _ rfl) (T.self _ 0 _ _ _ (T.keep _ _ _ st2 fun b hb o eb => old b o eb) (loop _ rfl))
theorem pe_comp (B : BlkOk X scope own caps) (hc : X.calm = true) (hi : PI X tg iter wi) (hg : ∀ C s₀ H₀ ex, PG (blockCx X scope (blkN own caps) C s₀ H₀ ex) tg g)
    (he : ∀ C s₀ H₀ ex, PE (blockCx X scope (blkN own caps) C s₀ H₀ ex) elt te) (hs : ∀ x, foldedSetIterable iter X.env x = pure x := by intro _; rfl) :
    PE X (.ListComp elt [⟨tg, iter, [], 0⟩] scope pos) (tComp own caps wi g te) := by
  intro pins s σ H Q I h
  rw [eval_ListComp]
  refine wpAny_comprehension_free (use := none) rfl hs (closure_is B.free) B.kind B.locs ?_
  refine thn (hi pins s σ H _ I h) fun xv s1 h1 => thn h1 fun itv s2 h2 => ?_
  obtain ⟨it, fp, tn, J, H2, e, I2, T, st2, f2, W, ⟨m0, w0⟩, turn⟩ := h2
  subst e
  refine comp_core (RR := fun acc C => compPost (model X.prog X.w) X.A X.xe none (EP X pins σ Q) acc C) B hc hg he I2 T st2 f2 w0 turn fun D C s6 H6 ys m hn hC J6 hC6 q => ?_
  exact ⟨m, hn, fun h' sb => ⟨.ref D, _, J6 h' sb, rfl, q⟩⟩
/-- name = [.. for ..] -/
theorem ps_comp {i : Nat} {y : Str} {py spos : Pos} (hN : X.N.Nodup) (hy : X.N[i]? = some y) (hl : X.env.scope.names.lookup y = some .local) (B : BlkOk X scope own caps) (hc : X.calm = true) (hi : PI X tg iter wi) (hg : ∀ C s₀ H₀ ex, PG (blockCx X scope (blkN own caps) C s₀ H₀ ex) tg g)
    (he : ∀ C s₀ H₀ ex, PE (blockCx X scope (blkN own caps) C s₀ H₀ ex) elt te) (hsw : swapsWith (.ListComp elt [⟨tg, iter, [], 0⟩] scope pos) (some (.Name y py)) spos.line X.env = pure true) (hs : ∀ x, foldedSetIterable iter X.env x = pure x := by intro _; rfl) :
    PS X (.Assign [.Name y py] (.ListComp elt [⟨tg, iter, [], 0⟩] scope pos) spos) (tAsg (tComp own caps wi g te) (gName i)) := by
  intro pins s σ H D0 I h
  rw [exec_Assign_Name_used _ _ _ _ hsw]
  refine wpAny_bind (wpAny_standAt (wpAny_bind ?_))
  change wpAny _ X.A (do let _ ← comprehension (.ListComp elt [⟨tg, iter, [], 0⟩] scope pos) scope X.env _ (newList []) false (eval iter X.env) (some (assign (.Name y py) X.env))) _ _ s
  refine wpAny_bind (wpAny_mono (wpAny_comprehension_free (use := some (assign (.Name y py) X.env)) (Q := fun _ s' => SP X pins D0 .next s') rfl hs (closure_is B.free) B.kind B.locs ?_) (fun _ s' hq => wpAny_pure (wpAny_pure hq)) fun _ _ e => e)
  refine thn (hi pins s σ H _ I h) fun xv s1 h1 => thn h1 fun itv s2 h2 => ?_
  obtain ⟨it, fp, tn, J, H2, e, I2, T, st2, f2, W, ⟨m0, w0⟩, turn⟩ := h2
  subst e
  refine comp_core (Q := fun x H1 => D0.nx (σ.set i (some x)) H1) (RR := fun acc C => compPost (model X.prog X.w) X.A X.xe (some (assign (.Name y py) X.env)) (fun _ s' => SP X pins D0 .next s') acc C) B hc hg he I2 T st2 f2 w0 turn fun D C s6 H6 ys m hn hC J6 hC6 q => ?_
  have I6 : Inv X pins σ (upd H6 D (.lst ys)) s6 := J6 s6.heap (.refl ..)
  have CL : C ≠ X.env.locals := fun z => by rw [z] at hC; exact absurd (Nat.lt_of_lt_of_le I2.lt hC) (Nat.lt_irrefl _)
  have CC : ∀ x c, X.env.cells.lookup x = some c → c ≠ C := fun x c ec z => by
    obtain ⟨v, o, ho, _⟩ := I2.cell x c ec
    rw [z] at ho
    exact absurd (Nat.lt_of_lt_of_le (Heap.lt_size ho) hC) (Nat.lt_irrefl _)
  have CP : ∀ p ∈ X.pn ++ pins, p.1 ≠ C := fun p hp z => by
    have hl := Heap.lt_size (I2.pin p hp).1
    rw [z] at hl
    exact absurd (Nat.lt_of_lt_of_le hl hC) (Nat.lt_irrefl _)
  change wpAny _ X.A (assign (.Name y py) X.env (.ref D)) _ _ s6
  refine wpAny_assign_Name (store_ok2 I6 hN hy (.inl hl) (v := .ref D) rfl (fun s7 I7 ⟨a, sb, ha⟩ => ?_) (.inr hl))
  have aC : C ≠ a := fun z => by
    rcases ha with e | e
    · exact CL (z.trans e)
    · exact CC _ _ e z.symm
  refine ⟨m, hn.sameBut sb aC, fun h' sb' => ⟨_, _, I7.turned (h' := h') (t' := s7.toks) (it := C) (fun b o hb eb => sb'.extBut b o hb eb) hC6 CL (.inr (Nat.le_trans I2.sz hC)) CC CP, q⟩⟩
end
end L2

namespace L2
open PySem PySem.Spec PyProof.Rows
/-! ## comprehensions in short: the heap only grows, what the block yields is told item by item -/
/-- over a list that stays -/
theorem comp_list {K : PySem.W.Frag} {a : Addr} {xs : List V} {g : TG} {te : TE} {σ0 : St} {H : Hp} {Q : VK} (Pv : Nat → List V → St → Hp → Prop) (h0 : Pv 0 [] σ0 H) (hl : ∀ i ys σ H, i ≤ xs.length → Pv i ys σ H → SqL K H a xs ∧ ys.length ≤ i) (hz : xs.length ≤ sizeLine)
    (hs : ∀ i x ys σ H, xs[i]? = some x → Pv i ys σ H → g x σ H fun σ2 H2 => te σ2 H2 fun y H3 => Pv (i + 1) (ys ++ [y]) σ2 H3)
    (hd : ∀ ys σ H, Pv xs.length ys σ H → ∀ p, H p = none → Q (.ref p) (upd H p (.lst ys))) :
    CompGo (Itl K a) g te Q σ0 H := by
  refine ⟨fun i m ys σ H => m = xs.length - i ∧ i ≤ xs.length ∧ Pv i ys σ H, ⟨xs.length, by simp, Nat.zero_le _, h0⟩, ?_⟩
  rintro i m ys σ H ⟨rfl, hi, p⟩
  obtain ⟨q, hy⟩ := hl i ys σ H hi p
  by_cases hlt : i < xs.length
  · refine .inr ⟨⟨xs, xs[i], q, by simp [hlt]⟩, by omega, fun y σ' H' => Pv (i + 1) (ys ++ [y]) σ' H', fun y σ' H' z => ⟨xs.length - (i + 1), by omega, rfl, hlt, z⟩, fun x H' y => ?_⟩
    obtain ⟨e, y⟩ := y
    subst e
    exact hs i x ys σ _ (y xs q) p
  · have e : i = xs.length := by omega
    subst e
    exact .inl ⟨⟨xs, q, Nat.le_refl _⟩, hd ys σ H p⟩
/-- over a range -/
theorem comp_range {lo : Int} {n : Nat} {g : TG} {te : TE} {σ0 : St} {H : Hp} {Q : VK} (Pv : Nat → List V → St → Hp → Prop) (h0 : Pv 0 [] σ0 H) (hl : ∀ i ys σ H, Pv i ys σ H → ys.length ≤ i) (hz : n ≤ sizeLine)
    (hs : ∀ i ys σ H, i < n → Pv i ys σ H → g (.int (lo + i)) σ H fun σ2 H2 => te σ2 H2 fun y H3 => Pv (i + 1) (ys ++ [y]) σ2 H3)
    (hd : ∀ ys σ H, Pv n ys σ H → ∀ p, H p = none → Q (.ref p) (upd H p (.lst ys))) : CompGo (Itr lo n) g te Q σ0 H := by
  refine ⟨fun i m ys σ H => m = n - i ∧ i ≤ n ∧ Pv i ys σ H, ⟨n, by simp, Nat.zero_le _, h0⟩, ?_⟩
  rintro i m ys σ H ⟨rfl, hi, p⟩
  have hy := hl i ys σ H p
  by_cases hlt : i < n
  · refine .inr ⟨hlt, by omega, fun y σ' H' => Pv (i + 1) (ys ++ [y]) σ' H', fun y σ' H' z => ⟨n - (i + 1), by omega, rfl, hlt, z⟩, fun x H' y => ?_⟩
    obtain ⟨e, y⟩ := y
    subst e y
    exact hs i ys σ _ hlt p
  · have e : i = n := by omega
    subst e
    exact .inl ⟨Nat.le_refl _, hd ys σ H p⟩
/-! ## a def of the text in one bundle -/
structure Fn (P : Program) (w : World) (K : PySem.W.Frag) (mg : Str → Option Value) (base : Heap) (x : Str) (ps : List Str) (k : Nat) (sp : Sp) : Prop where
  ex : ∃ f fd, FnOk P w K mg base CX0 k f fd ps sp ∧ mg x = some (.ref f) ∧ PySem.W.keepIn K (.ref f) = true ∧ Binds K fd ps []
theorem Fn.mono {P : Program} {w : World} {K : PySem.W.Frag} {mg : Str → Option Value} {base : Heap} {x : Str} {ps : List Str} {j k : Nat} {sp : Sp} (F : Fn P w K mg base x ps j sp) (h : j ≤ k) : Fn P w K mg base x ps k sp := by
  obtain ⟨f, fd, a, b, c, d⟩ := F.ex
  exact ⟨f, fd, a.mono h, b, c, d⟩
theorem pe_callF {X : Cx} {x : Str} {ps : List Str} {k : Nat} {sp : Sp} {e : Expr} {es : List Expr} {t : TA} {p pos : Pos} (F : Fn X.prog X.w X.K X.mg X.base x ps k sp) (hr : Room k X.A) (hg : Gl X x) (ha : PA X (e :: es) t)
    (hdb : (x == ("__debug__" : Str)) = false := by decide) (he : starEach (e :: es) X.env = (false, eval e X.env) :: starEach es X.env := by rfl) (hpl : (backTo pos (starEach es X.env)).any (·.1) = false := by rfl) :
    PE X (.Call (.Name x p) (e :: es) [] pos) (tCall sp [] E0 t) := by
  obtain ⟨f, fd, a, b, c, d⟩ := F.ex
  exact pe_call a hr hg b c d .nil pass0 ha hdb he hpl
end L2


/-! ## names of Python's own, kinds -/
namespace L2
open PySem PySem.Spec PyProof.Rows
theorem boot_isinstance_ : bootBuiltins "isinstance" = some (.builtin "isinstance") := by decide +kernel
theorem boot_len_ : bootBuiltins "len" = some (.builtin "len") := by decide +kernel
theorem boot_abs_ : bootBuiltins "abs" = some (.builtin "abs") := by decide +kernel
theorem boot_all_ : bootBuiltins "all" = some (.builtin "all") := by decide +kernel
theorem boot_int_ : bootBuiltins "int" = some (.type "int") := by decide +kernel
theorem boot_bool_ : bootBuiltins "bool" = some (.type "bool") := by decide +kernel
theorem boot_tuple_ : bootBuiltins "tuple" = some (.type "tuple") := by decide +kernel
theorem boot_list_ : bootBuiltins "list" = some (.type "list") := by decide +kernel
theorem boot_str_ : bootBuiltins "str" = some (.type "str") := by decide +kernel
section
variable (K : PySem.W.Frag)
theorem kit_int_int : PySem.W.kitOne K (.type "int") (.type "int") = some true := by first | rfl | decide +kernel | (unfold PySem.W.kitOne; rw [if_pos (by decide +kernel)])
theorem kit_int_bool : PySem.W.kitOne K (.type "int") (.type "bool") = some false := by first | rfl | decide +kernel | (unfold PySem.W.kitOne; rw [if_neg (by decide +kernel)]; rfl)
theorem kit_bool_int : PySem.W.kitOne K (.type "bool") (.type "int") = some true := by first | rfl | decide +kernel | (unfold PySem.W.kitOne; rw [if_neg (by decide +kernel)]; rfl)
theorem kit_bool_bool : PySem.W.kitOne K (.type "bool") (.type "bool") = some true := by first | rfl | decide +kernel | (unfold PySem.W.kitOne; rw [if_pos (by decide +kernel)])
theorem kit_tuple_tuple : PySem.W.kitOne K (.type "tuple") (.type "tuple") = some true := by first | rfl | decide +kernel | (unfold PySem.W.kitOne; rw [if_pos (by decide +kernel)])
end
/-- a block that captures nothing -/
theorem blk_mk {X : Cx} {scope : Scope} {own : List Str} (k : scope.kind = .function) (n : scope.names.all (fun y => y.2 != .cell && y.2 != .free && (y.2 != .local || scope.names.lookup y.1 == some .local)) = true := by first | rfl | decide +kernel) : BlkOk X scope own [] := by
  have z : ∀ y ∈ scope.names, (y.2 != .cell && y.2 != .free && (y.2 != .local || scope.names.lookup y.1 == some .local)) = true := List.all_eq_true.mp n
  refine ⟨k, fun y hy e => ?_, fun y hy e => ?_, fun y hy e => ?_, fun p hp => by cases hp⟩
  · have := z y hy
    rw [e] at this
    simp at this
  · have := z y hy
    rw [e] at this
    simpa using this
  · have := z y hy
    rw [e] at this
    simp at this
/-! ## a def with one default -/
structure FunD (K : PySem.W.Frag) (x qual : Str) (st : Stmt) (f : Addr) (fd : FuncData) (d : Value) : Prop where
  ex : ∃ (oc : Value) (od : Option Addr) (kV doc pm : Value) (an : Option Addr) (cdv ct : Value) (osl : Array (Option Value)) (T : Addr) (oT : Obj) (n : Nat),
    fd = PySem.W.fnOf x qual (defArgs st) (defBody st) (defScope st) (.ref T) kV doc pm an cdv ct ∧ K.lookup f = some ⟨oc, od, .func fd, osl⟩ ∧ PySem.W.codeIn K cdv qual = true ∧ K.lookup T = some oT ∧ oT.data = .seq #[d] n
  kp : PySem.W.keepIn K (.ref f) = true
theorem FunD.ok {P : Program} {w : World} {K : PySem.W.Frag} {mg : Str → Option Value} {base : Heap} {x qual : Str} {st : Stmt} {f : Addr} {fd : FuncData} {d : Value} {N ps : List Str} {k : Nat} {sp : Sp} (F : FunD K x qual st f fd d) (S : FnScope N ps (defScope st))
    (len : ∀ vs H Q E, sp vs H Q E → vs.length = ps.length)
    (hbody : ∀ (cdv : Value) (A : Around) (outer : List Env) (s : Shared) (H : Hp) (vs : List V) (Q : VK) (E : XK), Room k (A.deeper (envOfC qual (defScope st) s.heap.objs.size f cdv)) → sp vs H Q E →
      ∃ t, PSs (cxOf CX0 P w K mg base N qual (defScope st) f cdv A outer s H E).nox (defBody st) t ∧ t { nx := fun _ H' => Q .non H', rt := Q } (start N vs) H) : FnOk P w K mg base CX0 (k + 1) f fd ps sp := by
  obtain ⟨oc, od, kV, doc, pm, an, cdv, ct, osl, T, oT, n, rfl, lk, hcd, _⟩ := F.ex
  refine fn_of lk hcd S len fun A outer s H vs Q E hr hsp => ?_
  obtain ⟨t, h, q⟩ := hbody cdv A outer s H vs Q E hr hsp
  exact ⟨t, h.nox, q⟩
end L2
namespace L2
open PySem PySem.Spec PyProof.Rows
theorem fund_mk {K : PySem.W.Frag} {x qual : Str} {st : Stmt} {f T : Addr} {oc kV doc pm cdv ct d : Value} {od an : Option Addr} {osl : Array (Option Value)} {oT : Obj} {n : Nat} (l : K.lookup f = some ⟨oc, od, .func (PySem.W.fnOf x qual (defArgs st) (defBody st) (defScope st) (.ref T) kV doc pm an cdv ct), osl⟩)
    (c : PySem.W.codeIn K cdv qual = true) (k : PySem.W.keepIn K (.ref f) = true) (t : K.lookup T = some oT) (e : oT.data = .seq #[d] n) : FunD K x qual st f (PySem.W.fnOf x qual (defArgs st) (defBody st) (defScope st) (.ref T) kV doc pm an cdv ct) d :=
  ⟨⟨oc, od, kV, doc, pm, an, cdv, ct, osl, T, oT, n, rfl, l, c, t, e⟩, k⟩
/-- all arguments are given: the default is read and not used -/
theorem FunD.binds {K : PySem.W.Frag} {x qual : Str} {st : Stmt} {f : Addr} {fd : FuncData} {d : Value} {ps : List Str} (F : FunD K x qual st f fd d)
    (h : ∀ (T : Addr) (kV doc pm : Value) (an : Option Addr) (cdv ct : Value) (us : List Value), us.length = ps.length → ∃ k : Option (Array Value) → Sem (List (Str × Value)),
      bindArgs (PySem.W.fnOf x qual (defArgs st) (defBody st) (defScope st) (.ref T) kV doc pm an cdv ct) ⟨us, []⟩ = seqItems? (.ref T) >>= k ∧ k (some #[d]) = pure (ps.zip us)) : Binds K fd ps [] := by
  obtain ⟨oc, od, kV, doc, pm, an, cdv, ct, osl, T, oT, n, rfl, lk, hcd, t, e⟩ := F.ex
  intro s us X hl
  rw [List.append_nil] at hl ⊢
  obtain ⟨k, h1, h2⟩ := h T kV doc pm an cdv ct us hl
  exact .of_defaults (T := T) rfl (X T oT t) e h1 h2
end L2
namespace L2
open PySem PySem.Spec PyProof.Rows
/-- a block that captures names whose cells this frame has: S the frame's own names, N their slots -/
theorem blk_cap {X : Cx} {scope S : Scope} {own N : List Str} {caps : List (Nat × Str)} (k : scope.kind = .function) (n : scope.names.all (fun y => y.2 != .cell && (y.2 != .local || scope.names.lookup y.1 == some .local)) = true)
    (hS : X.env.scope = S) (hc : ∃ n, X.env.cells = cellsFrom n S.names []) (hN : X.N = N) (fr : scope.names.all (fun y => y.2 != .free || S.names.lookup y.1 == some .cell) = true)
    (cp : caps.all (fun p => N[p.1]? == some p.2 && scope.names.lookup p.2 == some .free && S.names.lookup p.2 == some .cell) = true) : BlkOk X scope own caps := by
  have z : ∀ y ∈ scope.names, (y.2 != .cell && (y.2 != .local || scope.names.lookup y.1 == some .local)) = true := List.all_eq_true.mp n
  obtain ⟨nn, hc⟩ := hc
  refine ⟨k, fun y hy e => ?_, fun y hy e => ?_, fun y hy e => ?_, fun p hp => ?_⟩
  · have := z y hy
    rw [e] at this
    simp at this
  · have := z y hy
    rw [e] at this
    simpa using this
  · have q := List.all_eq_true.mp fr y hy
    rw [e] at q
    have q2 : S.names.lookup y.1 = some .cell := by simpa using q
    rw [hc]
    exact PySem.W.cellsFrom_some S.names nn [] (.inl q2)
  · have q := List.all_eq_true.mp cp p hp
    simp only [Bool.and_eq_true, beq_iff_eq] at q
    refine ⟨by rw [hN]; exact q.1.1, q.1.2, .inl ?_⟩
    show X.env.scope.names.lookup p.2 = some .cell
    rw [hS]
    exact q.2
/-- a def with a default, in one bundle -/
structure FnD (P : Program) (w : World) (K : PySem.W.Frag) (mg : Str → Option Value) (base : Heap) (x : Str) (ps : List Str) (k : Nat) (sp : Sp) (dv : V) : Prop where
  ex : ∃ f fd d, FnOk P w K mg base CX0 k f fd ps sp ∧ mg x = some (.ref f) ∧ PySem.W.keepIn K (.ref f) = true ∧ Binds K fd ps [] ∧ Binds K fd ps [d] ∧ RelV dv d
theorem FnD.mono {P : Program} {w : World} {K : PySem.W.Frag} {mg : Str → Option Value} {base : Heap} {x : Str} {ps : List Str} {j k : Nat} {sp : Sp} {dv : V} (F : FnD P w K mg base x ps j sp dv) (h : j ≤ k) : FnD P w K mg base x ps k sp dv := by
  obtain ⟨f, fd, d, a, b, c, e⟩ := F.ex
  exact ⟨f, fd, d, a.mono h, b, c, e⟩
theorem FnD.fn {P : Program} {w : World} {K : PySem.W.Frag} {mg : Str → Option Value} {base : Heap} {x : Str} {ps : List Str} {k : Nat} {sp : Sp} {dv : V} (F : FnD P w K mg base x ps k sp dv) : Fn P w K mg base x ps k sp := by
  obtain ⟨f, fd, d, a, b, c, e, _⟩ := F.ex
  exact ⟨f, fd, a, b, c, e⟩
theorem pe_callF1 {X : Cx} {x : Str} {ps : List Str} {k : Nat} {sp : Sp} {e : Expr} {es : List Expr} {t : TA} {p pos : Pos} {dv : V} (F : FnD X.prog X.w X.K X.mg X.base x ps k sp dv) (hr : Room k X.A) (hg : Gl X x) (ha : PA X (e :: es) t)
    (hdb : (x == ("__debug__" : Str)) = false := by decide) (he : starEach (e :: es) X.env = (false, eval e X.env) :: starEach es X.env := by rfl) (hpl : (backTo pos (starEach es X.env)).any (·.1) = false := by rfl) :
    PE X (.Call (.Name x p) (e :: es) [] pos) (tCall sp [dv] E0 t) := by
  obtain ⟨f, fd, d, a, b, c, _, h2, r⟩ := F.ex
  exact pe_call a hr hg b c h2 (.cons r .nil) pass0 ha hdb he hpl
/-- the last argument is left out -/
theorem FunD.binds1 {K : PySem.W.Frag} {x qual : Str} {st : Stmt} {f : Addr} {fd : FuncData} {d : Value} {ps : List Str} (F : FunD K x qual st f fd d)
    (h : ∀ (T : Addr) (kV doc pm : Value) (an : Option Addr) (cdv ct : Value) (us : List Value), us.length + 1 = ps.length → ∃ k : Option (Array Value) → Sem (List (Str × Value)),
      bindArgs (PySem.W.fnOf x qual (defArgs st) (defBody st) (defScope st) (.ref T) kV doc pm an cdv ct) ⟨us, []⟩ = seqItems? (.ref T) >>= k ∧ k (some #[d]) = pure (ps.zip (us ++ [d]))) : Binds K fd ps [d] := by
  obtain ⟨oc, od, kV, doc, pm, an, cdv, ct, osl, T, oT, n, rfl, lk, hcd, t, e⟩ := F.ex
  intro s us X hl
  rw [List.length_append, List.length_singleton] at hl
  obtain ⟨k, h1, h2⟩ := h T kV doc pm an cdv ct us hl
  exact .of_defaults (T := T) rfl (X T oT t) e h1 h2
theorem boot_zip_ : bootBuiltins "zip" = some (.type "zip") := by decide +kernel
theorem boot_range_ : bootBuiltins "range" = some (.type "range") := by decide +kernel
/-- row[:-1] -/
theorem cut_last (xs : List V) (v : V) : cutV (xs ++ [v]) none (some (-1)) = xs := by
  unfold cutV
  have e1 : HT.sIx (xs ++ [v]).length 0 none = 0 := rfl
  have e2 : HT.sIx (xs ++ [v]).length (xs ++ [v]).length (some (-1)) = xs.length := by
    show (if (-1 : Int) < 0 then ((-1 : Int) + ((xs ++ [v]).length : Int)).toNat else min (-1 : Int).toNat (xs ++ [v]).length) = xs.length
    rw [if_pos (by decide), List.length_append, List.length_singleton]
    omega
  rw [e1, e2]
  simp
theorem cut_last_no (xs : List V) (v : V) : ¬ (HT.sIx (xs ++ [v]).length 0 none = 0 ∧ HT.sIx (xs ++ [v]).length (xs ++ [v]).length (some (-1)) = (xs ++ [v]).length) := by
  rintro ⟨_, e⟩
  have e2 : HT.sIx (xs ++ [v]).length (xs ++ [v]).length (some (-1)) = xs.length := by
    show (if (-1 : Int) < 0 then ((-1 : Int) + ((xs ++ [v]).length : Int)).toNat else min (-1 : Int).toNat (xs ++ [v]).length) = xs.length
    rw [if_pos (by decide), List.length_append, List.length_singleton]
    omega
  rw [e2, List.length_append, List.length_singleton] at e
  omega
end L2
namespace L2
theorem iteB1 {b : Bool} {A B : Prop} (e : b = true) (h : A) : if b = true then A else B := by
  rw [if_pos e]
  exact h
theorem iteB0 {b : Bool} {A B : Prop} (e : b = false) (h : B) : if b = true then A else B := by
  rw [if_neg (by rw [e]; exact Bool.false_ne_true)]
  exact h
theorem dec_yes {i j : Int} (h : i = j) : decide (V.int i = V.int j) = true := decide_eq_true (by rw [h])
theorem dec_no {i j : Int} (h : i ≠ j) : decide (V.int i = V.int j) = false := decide_eq_false fun e => h (by injection e)
theorem ndec_no {i j : Int} (h : i ≠ j) : (!decide (V.int i = V.int j)) = true := by rw [dec_no h]; rfl
theorem ndec_yes {i j : Int} (h : i = j) : (!decide (V.int i = V.int j)) = false := by rw [dec_yes h]; rfl
end L2

set_option maxRecDepth 100000
namespace L2
open PySem
section
variable {prog : Program} {w : World} {A : Around} {E : Value → Shared → Prop} {s : Shared}
/-- a tuple's iterator, drawn from -/
theorem draws_tup (hh : A.handled = none) (it t : Addr) (hne : t ≠ it) (items : Array Value) :
    Draws prog w A it [it, t] items.size (fun i v => items[i]? = some v) (fun i h => h.IsTupleIter it t i ∧ h.IsTuple t items) where
  live := fun _ _ st => let ⟨o, ho, _⟩ := st.1; ⟨o, ho⟩
  frame := fun _ _ _ st hk => ⟨let ⟨o, e, r⟩ := st.1; ⟨o, hk it (by simp) o e, r⟩, let ⟨o, e, r⟩ := st.2; ⟨o, hk t (by simp) o e, r⟩⟩
  item := fun i s Q E hi st hQ => by
    obtain ⟨hit, ht⟩ := st
    obtain ⟨o, ho, hc, hd⟩ := id hit
    obtain ⟨ol, hol, _, nl, hdl⟩ := id ht
    have hx : items[i]? = some items[i] := by simp [hi]
    unfold Builtin.SmallTypes.nextOf
    refine wpAny_bind (wpAny_callSpecial?_slot (name := Str.ofString "__next__") hit.typeIs F.slot_tuple_iterator_next (wpAny_call_entry F.slot_tuple_iterator_next hit.typeIs F.entry_tuple_iterator_next ?_ (F.args_tuple_iterator_next_1 _)))
    change wpAny _ _ (field (.ref it) 0 >>= _) _ _ s
    refine wpAny_bind (wpAny_field ho hd (x := .ref t) rfl ?_)
    change wpAny _ _ (if (Value.ref t == Value.none) = true then _ else _) _ _ s
    rw [if_neg (show (Value.ref t == Value.none) ≠ true from Bool.false_ne_true)]
    change wpAny _ _ (field (.ref it) 1 >>= _) _ _ s
    refine wpAny_bind (wpAny_field ho hd (x := .int i 0) rfl ?_)
    change wpAny _ _ (seqItems? (.ref t) >>= _) _ _ s
    refine wpAny_bind (wpAny_seqItems hol hdl ?_)
    simp only [Int.toNat_natCast, hx]
    refine wpAny_bind (wpAny_setField ho hd (by simp) (wpAny_pure ⟨items[i], rfl, wpAny_pure (hQ _ _ s.toks hx ⟨?_, ?_⟩ (Heap.SameBut.update ..))⟩))
    · exact ⟨_, Heap.get?_update_self _ ho (Obj.isFreed_of_fields (Obj.data_mapFields hd _)), (Obj.cls_mapFields ..).trans hc, by rw [Obj.data_mapFields hd]; simp [rawInt]⟩
    · exact ht.extBut (Heap.SameBut.update ..).extBut hne
  done := fun s Q E st hE => by
    obtain ⟨hit, ht⟩ := st
    obtain ⟨o, ho, hc, hd⟩ := id hit
    obtain ⟨ol, hol, _, nl, hdl⟩ := id ht
    have hx : items[items.size]? = none := by simp
    unfold Builtin.SmallTypes.nextOf
    refine wpAny_bind (wpAny_callSpecial?_slot (name := Str.ofString "__next__") hit.typeIs F.slot_tuple_iterator_next (wpAny_call_entry F.slot_tuple_iterator_next hit.typeIs F.entry_tuple_iterator_next ?_ (F.args_tuple_iterator_next_1 _)))
    change wpAny _ _ (field (.ref it) 0 >>= _) _ _ s
    refine wpAny_bind (wpAny_field ho hd (x := .ref t) rfl ?_)
    change wpAny _ _ (if (Value.ref t == Value.none) = true then _ else _) _ _ s
    rw [if_neg (show (Value.ref t == Value.none) ≠ true from Bool.false_ne_true)]
    change wpAny _ _ (field (.ref it) 1 >>= _) _ _ s
    refine wpAny_bind (wpAny_field ho hd (x := .int items.size 0) rfl ?_)
    change wpAny _ _ (seqItems? (.ref t) >>= _) _ _ s
    refine wpAny_bind (wpAny_seqItems hol hdl ?_)
    simp only [Int.toNat_natCast, hx]
    refine wpAny_bind (wpAny_rule (wpAny_bind (wpAny_setField ho hd (by simp) ?_)))
    change wpAny _ _ (newExc (.type "StopIteration") [] >>= _) _ _ _
    refine wpAny_bind ?_
    simp only [newExc, newTuple]
    refine wpAny_bind (wpAny_newObj_type ?_ (by size_fits))
    refine wpAny_bind (m := firstArgMember _ _) (wpAny_of_eq (a := Value.none) (by first | rfl | (simp only [firstArgMember]; rfl)) ?_)
    refine wpAny_newObj_type ?_ (by size_fits)
    simp only [raiseNew]
    refine wpAny_bind (wpAny_handled ?_)
    first | rw [show A.in1.handled = none from hh] | rw [hh]
    refine wpAny_bind (wpAny_pure (wpAny_throw ?_))
    exact hE _ _ (((Heap.SameBut.update ..).extBut.push _).push _) ⟨_, Heap.get?_push_size _ rfl, rfl⟩
/-- the objects of a zip of two stand apart -/
structure Zp (z TI TO i1 i2 : Addr) (f1 f2 : List Addr) : Prop where
  a1 : TI ≠ z
  a2 : TO ≠ z
  a3 : i1 ≠ z
  a4 : i2 ≠ z
  a5 : TI ≠ TO
  a6 : TI ≠ i1
  a7 : TI ≠ i2
  a8 : TO ≠ i1
  a9 : TO ≠ i2
  b1 : z ∉ f1
  b2 : z ∉ f2
  b3 : TO ∉ f1
  b4 : TO ∉ f2
  b5 : i1 ∉ f2
  b6 : i2 ∉ f1
theorem zip_draw {z TI TO i1 i2 : Addr} {f1 f2 : List Addr} {n1 n2 k : Nat} {P1 P2 : Nat → Value → Prop} {S1 S2 : Nat → Heap → Prop} {a b : Value} {Q : Value → Shared → Prop}
    (D1 : Draws prog w A i1 f1 n1 P1 S1) (D2 : Draws prog w A i2 f2 n2 P2 S2) (Z : Zp z TI TO i1 i2 f1 f2) (hz : IsZip s.heap z TI TO .none) (hI : IsPair s.heap TI (.ref i1) (.ref i2)) (hO : IsPair s.heap TO a b)
    (s1 : S1 k s.heap) (s2 : S2 k s.heap) (k1 : k < n1) (k2 : k < n2)
    (hQ : ∀ x y h' tk, P1 k x → P2 k y → IsZip h' z TI TO (rawInt s.heap.objs.size) → IsPair h' TI (.ref i1) (.ref i2) → IsPair h' TO x y → S1 (k + 1) h' → S2 (k + 1) h' → IsPair h' s.heap.objs.size x y →
      (∀ c o, c ≠ z → c ≠ TO → c ≠ i1 → c ≠ i2 → s.heap.get? c = some o → h'.get? c = some o) → Q (.ref s.heap.objs.size) { s with heap := h', toks := tk }) :
    wpAny (model prog w) A (Builtin.«zip.__next__» ⟨[.ref z], []⟩) (fun fin s' => ∃ v, fin = .done (.ret v) ∧ Q v s') E s := by
  change wpAny _ _ (field (.ref z) 2 >>= _) _ _ _
  refine wpAny_bind (wpAny_field hz rfl (x := .bool false) rfl ?_)
  change wpAny _ _ (field (.ref z) 3 >>= _) _ _ _
  refine wpAny_bind (wpAny_field hz rfl (x := .ref TI) rfl ?_)
  refine wpAny_bind (wpAny_seqItems hI rfl ?_)
  change wpAny _ _ (Builtin.SmallTypes.ownedTupleIsFree (.ref z) >>= _) _ _ _
  refine wpAny_bind ?_
  unfold Builtin.SmallTypes.ownedTupleIsFree
  refine wpAny_bind (wpAny_field hz rfl (x := .none) rfl (wpAny_pure ?_))
  simp only [if_true]
  refine wpAny_bind (wpAny_rule ?_)
  refine wpAny_bind (wpAny_field hz rfl (x := .ref TO) rfl ?_)
  refine wpAny_bind (wpAny_setField_rec hz (by simp) fun g1 z1 m1 => ?_)
  replace z1 : IsZip g1 z TI TO .ellipsis := z1
  refine wpAny_bind ?_
  simp only [List.zipIdx_cons, List.zipIdx_nil, List.forIn_cons, List.forIn_nil]
  refine wpAny_bind (wpAny_bind (wpAny_onRaise ?_))
  change wpAny _ _ (Builtin.SmallTypes.nextOf (.ref i1) >>= _) _ _ _
  refine wpAny_bind (D1.item k _ _ _ k1 (D1.frame _ _ _ s1 fun c hc o e => m1.extBut c o (fun q => Z.b1 (q ▸ hc)) e) fun x g2 t2 px s12 m2 => wpAny_pure ?_)
  have o2 : IsPair g2 TO a b := m2.extBut _ _ Z.a8 (m1.extBut _ _ Z.a2 hO)
  refine wpAny_bind (wpAny_seqItems o2 rfl ?_)
  refine wpAny_bind (wpAny_updateSeq_pair o2 fun g3 o3 m3 => ?_)
  replace o3 : IsPair g3 TO x b := o3
  refine wpAny_bind (wpAny_letGo (wpAny_pure ?_))
  refine wpAny_bind (wpAny_bind (wpAny_onRaise ?_))
  change wpAny _ _ (Builtin.SmallTypes.nextOf (.ref i2) >>= _) _ _ _
  refine wpAny_bind (D2.item k _ _ _ k2 (D2.frame _ _ _ s2 fun c hc o e => m3.extBut c o (fun q => Z.b4 (q ▸ hc)) (m2.extBut c o (fun q => Z.b5 (q ▸ hc)) (m1.extBut c o (fun q => Z.b2 (q ▸ hc)) e))) fun y g4 t4 py s24 m4 => wpAny_pure ?_)
  have o4 : IsPair g4 TO x b := m4.extBut _ _ Z.a9 o3
  refine wpAny_bind (wpAny_seqItems o4 rfl ?_)
  refine wpAny_bind (wpAny_updateSeq_pair o4 fun g5 o5 m5 => ?_)
  replace o5 : IsPair g5 TO x y := o5
  refine wpAny_bind (wpAny_letGo (wpAny_pure (wpAny_pure ?_)))
  refine wpAny_bind (wpAny_seqItems o5 rfl ?_)
  refine wpAny_bind (wpAny_newTuple ?_)
  have sz : g5.objs.size = s.heap.objs.size := by
    have q5 : g5.objs.size = g4.objs.size := m5.1
    have q4 : g4.objs.size = g3.objs.size := m4.1
    have q3 : g3.objs.size = g2.objs.size := m3.1
    have q2 : g2.objs.size = g1.objs.size := m2.1
    have q1 : g1.objs.size = s.heap.objs.size := m1.1
    omega
  have all5 : ∀ c o, c ≠ z → c ≠ TO → c ≠ i1 → c ≠ i2 → s.heap.get? c = some o → g5.get? c = some o := fun c o c1 c2 c3 c4 e => m5.extBut _ _ c2 (m4.extBut _ _ c4 (m3.extBut _ _ c2 (m2.extBut _ _ c3 (m1.extBut _ _ c1 e))))
  have z5 : IsZip g5 z TI TO .ellipsis := m5.extBut _ _ Z.a2.symm (m4.extBut _ _ Z.a4.symm (m3.extBut _ _ Z.a2.symm (m2.extBut _ _ Z.a3.symm z1)))
  have I5 : IsPair g5 TI (.ref i1) (.ref i2) := all5 _ _ Z.a1 Z.a5 Z.a6 Z.a7 hI
  have u1 : S1 (k + 1) g5 := D1.frame _ _ _ s12 fun c hc o e => m5.extBut c o (fun q => Z.b3 (q ▸ hc)) (m4.extBut c o (fun q => Z.b6 (q ▸ hc)) (m3.extBut c o (fun q => Z.b3 (q ▸ hc)) e))
  have u2 : S2 (k + 1) g5 := D2.frame _ _ _ s24 fun c hc o e => m5.extBut c o (fun q => Z.b4 (q ▸ hc)) e
  have lt : z < g5.objs.size := Heap.lt_size z5
  change wpAny _ _ (Builtin.SmallTypes.ownedTupleHandOut (.ref z) (.ref g5.objs.size) >>= _) _ _ _
  refine wpAny_bind ?_
  unfold Builtin.SmallTypes.ownedTupleHandOut
  have z6 : IsZip (g5.push { cls := .type "tuple", data := .seq #[x, y] }) z TI TO .ellipsis := Heap.get?_push_of_some _ z5
  refine wpAny_bind (wpAny_setField_rec z6 (by simp) fun g7 z7 m7 => ?_)
  replace z7 : IsZip g7 z TI TO (rawInt g5.objs.size) := z7
  refine wpAny_setField_rec z7 (by simp) fun g8 z8 m8 => ?_
  replace z8 : IsZip g8 z TI TO (rawInt g5.objs.size) := z8
  have up : ∀ c o, c ≠ z → g5.get? c = some o → g8.get? c = some o := fun c o c1 e => m8.extBut _ _ c1 (m7.extBut _ _ c1 (Heap.get?_push_of_some _ e))
  have T8 : IsPair g8 g5.objs.size x y := m8.extBut _ _ (Nat.ne_of_gt lt) (m7.extBut _ _ (Nat.ne_of_gt lt) (Heap.get?_push_size _ rfl))
  rw [sz] at z8 T8
  refine wpAny_pure ⟨_, rfl, ?_⟩
  change Q (.ref g5.objs.size) _
  rw [sz]
  exact hQ x y g8 _ px py z8 (up _ _ Z.a1 I5) (up _ _ Z.a2 o5) (D1.frame _ _ _ u1 fun c hc o e => up c o (fun q => Z.b1 (q ▸ hc)) e) (D2.frame _ _ _ u2 fun c hc o e => up c o (fun q => Z.b2 (q ▸ hc)) e) T8
    fun c o c1 c2 c3 c4 e => up c o c1 (all5 c o c1 c2 c3 c4 e)
/-- one of the two is through: the zip ends -/
theorem zip_over {z TI TO i1 i2 : Addr} {f1 f2 : List Addr} {n1 n2 k : Nat} {P1 P2 : Nat → Value → Prop} {S1 S2 : Nat → Heap → Prop} {a b : Value} {Q : Fin → Shared → Prop}
    (D1 : Draws prog w A i1 f1 n1 P1 S1) (D2 : Draws prog w A i2 f2 n2 P2 S2) (Z : Zp z TI TO i1 i2 f1 f2) (hz : IsZip s.heap z TI TO .none) (hI : IsPair s.heap TI (.ref i1) (.ref i2)) (hO : IsPair s.heap TO a b)
    (s1 : S1 k s.heap) (s2 : S2 k s.heap) (k1 : k ≤ n1) (k2 : k ≤ n2) (ke : k = n1 ∨ k = n2)
    (hE : ∀ h' e tk, (∀ c o, c ≠ z → c ≠ TO → c ≠ i1 → c ≠ i2 → s.heap.get? c = some o → h'.get? c = some o) → (∃ o, h'.get? e = some o ∧ o.cls = .type "StopIteration") → E (.ref e) { s with heap := h', toks := tk }) :
    wpAny (model prog w) A (Builtin.«zip.__next__» ⟨[.ref z], []⟩) Q E s := by
  change wpAny _ _ (field (.ref z) 2 >>= _) _ _ _
  refine wpAny_bind (wpAny_field hz rfl (x := .bool false) rfl ?_)
  change wpAny _ _ (field (.ref z) 3 >>= _) _ _ _
  refine wpAny_bind (wpAny_field hz rfl (x := .ref TI) rfl ?_)
  refine wpAny_bind (wpAny_seqItems hI rfl ?_)
  change wpAny _ _ (Builtin.SmallTypes.ownedTupleIsFree (.ref z) >>= _) _ _ _
  refine wpAny_bind ?_
  unfold Builtin.SmallTypes.ownedTupleIsFree
  refine wpAny_bind (wpAny_field hz rfl (x := .none) rfl (wpAny_pure ?_))
  simp only [if_true]
  refine wpAny_bind (wpAny_rule ?_)
  refine wpAny_bind (wpAny_field hz rfl (x := .ref TO) rfl ?_)
  refine wpAny_bind (wpAny_setField_rec hz (by simp) fun g1 z1 m1 => ?_)
  replace z1 : IsZip g1 z TI TO .ellipsis := z1
  refine wpAny_bind ?_
  simp only [List.zipIdx_cons, List.zipIdx_nil, List.forIn_cons, List.forIn_nil]
  refine wpAny_bind (wpAny_bind (wpAny_onRaise ?_))
  change wpAny _ _ (Builtin.SmallTypes.nextOf (.ref i1) >>= _) _ _ _
  have s1' : S1 k g1 := D1.frame _ _ _ s1 fun c hc o e => m1.extBut c o (fun q => Z.b1 (q ▸ hc)) e
  by_cases c1 : k = n1
  · subst c1
    refine wpAny_bind (D1.done _ _ _ s1' fun g2 e m2 he => ?_)
    obtain ⟨oe, he1, he2⟩ := he
    have z2 : IsZip g2 z TI TO .ellipsis := m2 _ _ Z.a3.symm z1
    have nez : e ≠ z := fun q => by subst q; rw [z2] at he1; cases he1; simp at he2
    exact wpAny_setField_rec z2 (by simp) fun g3 _ m3 => hE g3 e _ (fun c o c1 c2 c3 c4 q => m3.extBut _ _ c1 (m2 _ _ c3 (m1.extBut _ _ c1 q))) ⟨oe, m3.extBut _ _ nez he1, he2⟩
  · have c2 : k = n2 := ke.resolve_left c1
    subst c2
    refine wpAny_bind (D1.item k _ _ _ (by omega) s1' fun x g2 t2 px s12 m2 => wpAny_pure ?_)
    have o2 : IsPair g2 TO a b := m2.extBut _ _ Z.a8 (m1.extBut _ _ Z.a2 hO)
    refine wpAny_bind (wpAny_seqItems o2 rfl ?_)
    refine wpAny_bind (wpAny_updateSeq_pair o2 fun g3 o3 m3 => ?_)
    refine wpAny_bind (wpAny_letGo (wpAny_pure ?_))
    refine wpAny_bind (wpAny_bind (wpAny_onRaise ?_))
    change wpAny _ _ (Builtin.SmallTypes.nextOf (.ref i2) >>= _) _ _ _
    refine wpAny_bind (D2.done _ _ _ (D2.frame _ _ _ s2 fun c hc o e => m3.extBut c o (fun q => Z.b4 (q ▸ hc)) (m2.extBut c o (fun q => Z.b5 (q ▸ hc)) (m1.extBut c o (fun q => Z.b2 (q ▸ hc)) e))) fun g4 e m4 he => ?_)
    obtain ⟨oe, he1, he2⟩ := he
    have z4 : IsZip g4 z TI TO .ellipsis := m4 _ _ Z.a4.symm (m3.extBut _ _ Z.a2.symm (m2.extBut _ _ Z.a3.symm z1))
    have nez : e ≠ z := fun q => by subst q; rw [z4] at he1; cases he1; simp at he2
    exact wpAny_setField_rec z4 (by simp) fun g5 _ m5 => hE g5 e _ (fun c o c1 c2 c3 c4 q => m5.extBut _ _ c1 (m4 _ _ c4 (m3.extBut _ _ c2 (m2.extBut _ _ c3 (m1.extBut _ _ c1 q))))) ⟨oe, m5.extBut _ _ nez he1, he2⟩
end

abbrev zq1 (h : Heap) (t : Addr) : Heap := h.push { cls := .type "tuple_iterator", data := .fields #[.ref t, .int 0 0] }
abbrev zq2 (h : Heap) (t l : Addr) : Heap := (zq1 h t).push { cls := .type "list_iterator", data := .fields #[.ref l, .int 0 0] }
abbrev zq3 (h : Heap) (t l : Addr) : Heap := (zq2 h t l).push { cls := .type "tuple", data := .seq #[.ref h.objs.size, .ref (zq1 h t).objs.size] }
abbrev zq4 (h : Heap) (t l : Addr) : Heap := (zq3 h t l).push { cls := .type "tuple", data := .seq #[.none, .none] }
abbrev zq5 (h : Heap) (t l : Addr) : Heap := (zq4 h t l).push { cls := .type "zip", data := .fields #[.none, .bool false, .bool false, .ref (zq2 h t l).objs.size, .ref (zq3 h t l).objs.size] }
theorem zip_new_tl (t l : Addr) (xs ys : Array Value) :
    Meets (Builtin.«zip.__new__» ⟨[.type "zip", .ref t, .ref l], []⟩) (fun _ R s => s.heap.IsTuple t xs ∧ s.heap.IsList l ys ∧ R (.ok (.ret (.ref (zq4 s.heap t l).objs.size))) { s with heap := zq5 s.heap t l }) :=
  .of_wp fun prog w A R s h => by
    obtain ⟨hp, g, d, tk, os⟩ := s; obtain ⟨h1, h2, h⟩ := h
    have hsub := sub_zip
    have e1 : Heap.IsTuple (Shared.heap ⟨hp, g, d, tk, os⟩) t xs := h1
    have e2 : Heap.IsList (Shared.heap ⟨hp.push { cls := .type "tuple_iterator", data := .fields #[.ref t, .int 0 0] }, g, d, tk, os⟩) l ys := Heap.IsList.push h2 _
    wp_walk using wpAny_pyIter_tuple e1, wpAny_pyIter_list e2
    exact ⟨_, rfl, h⟩
theorem call_zip_tl {prog : Program} {w : World} {A : Around} {E : Value → Shared → Prop} {s : Shared} {t l : Addr} {xs ys : Array Value} {Q : Value → Shared → Prop} (h1 : s.heap.IsTuple t xs) (h2 : s.heap.IsList l ys)
    (h : ∀ h', IsZip h' (s.heap.objs.size + 4) (s.heap.objs.size + 2) (s.heap.objs.size + 3) .none → IsPair h' (s.heap.objs.size + 2) (.ref s.heap.objs.size) (.ref (s.heap.objs.size + 1)) → IsPair h' (s.heap.objs.size + 3) .none .none →
      h'.IsTupleIter s.heap.objs.size t 0 → h'.IsListIter (s.heap.objs.size + 1) l 0 → (∀ c o, s.heap.get? c = some o → h'.get? c = some o) → Q (.ref (s.heap.objs.size + 4)) { s with heap := h' }) :
    wpAny (model prog w) A (call (.type "zip") [.ref t, .ref l]) Q E s := by
  refine callType_new F.called_zip (by decide) (F.typeCall_zip_2 _ _) (F.newCall_zip_2 _ _) (fun obj => F.args_object_init_3 obj _ _) F.entry_zip_new (zip_new_tl t l xs ys) ⟨h1, h2, ?_⟩
  have n1 : (zq1 s.heap t).objs.size = s.heap.objs.size + 1 := Heap.size_push ..
  have n2 : (zq2 s.heap t l).objs.size = s.heap.objs.size + 2 := by rw [Heap.size_push, n1]
  have n3 : (zq3 s.heap t l).objs.size = s.heap.objs.size + 3 := by rw [Heap.size_push, n2]
  have n4 : (zq4 s.heap t l).objs.size = s.heap.objs.size + 4 := by rw [Heap.size_push, n3]
  have p5 : (zq5 s.heap t l).get? (zq4 s.heap t l).objs.size = some _ := Heap.get?_push_size _ rfl
  have p4 : (zq5 s.heap t l).get? (zq3 s.heap t l).objs.size = some _ := Heap.get?_push_of_some _ (Heap.get?_push_size _ rfl)
  have p3 : (zq5 s.heap t l).get? (zq2 s.heap t l).objs.size = some _ := Heap.get?_push_of_some _ (Heap.get?_push_of_some _ (Heap.get?_push_size _ rfl))
  have p2 : (zq5 s.heap t l).get? (zq1 s.heap t).objs.size = some _ := Heap.get?_push_of_some _ (Heap.get?_push_of_some _ (Heap.get?_push_of_some _ (Heap.get?_push_size _ rfl)))
  have p1 : (zq5 s.heap t l).get? s.heap.objs.size = some _ := Heap.get?_push_of_some _ (Heap.get?_push_of_some _ (Heap.get?_push_of_some _ (Heap.get?_push_of_some _ (Heap.get?_push_size _ rfl))))
  change _ ∧ _
  rw [n2, n3, n4] at p5
  rw [n1, n2] at p3
  rw [n3] at p4
  rw [n1] at p2
  rw [n4]
  exact ⟨⟨_, p5, rfl⟩, h _ p5 p3 p4 ⟨_, p1, rfl, rfl⟩ ⟨_, p2, rfl, rfl⟩ fun c o x => Heap.get?_push_of_some _ (Heap.get?_push_of_some _ (Heap.get?_push_of_some _ (Heap.get?_push_of_some _ (Heap.get?_push_of_some _ x))))⟩
section
variable {prog : Program} {w : World} {A : Around} {E : Value → Shared → Prop} {s : Shared}
theorem zip_next {z TI TO i1 i2 : Addr} {f1 f2 : List Addr} {n1 n2 k : Nat} {P1 P2 : Nat → Value → Prop} {S1 S2 : Nat → Heap → Prop} {a b : Value} {Q : Option Value → Shared → Prop}
    (D1 : Draws prog w A.in1 i1 f1 n1 P1 S1) (D2 : Draws prog w A.in1 i2 f2 n2 P2 S2) (Z : Zp z TI TO i1 i2 f1 f2) (hz : IsZip s.heap z TI TO .none) (hI : IsPair s.heap TI (.ref i1) (.ref i2)) (hO : IsPair s.heap TO a b)
    (s1 : S1 k s.heap) (s2 : S2 k s.heap) (k1 : k < n1) (k2 : k < n2)
    (hQ : ∀ x y h' tk, P1 k x → P2 k y → IsZip h' z TI TO (rawInt s.heap.objs.size) → IsPair h' TI (.ref i1) (.ref i2) → IsPair h' TO x y → S1 (k + 1) h' → S2 (k + 1) h' → IsPair h' s.heap.objs.size x y →
      (∀ c o, c ≠ z → c ≠ TO → c ≠ i1 → c ≠ i2 → s.heap.get? c = some o → h'.get? c = some o) → Q (some (.ref s.heap.objs.size)) { s with heap := h', toks := tk }) :
    wpAny (model prog w) A (pyNext (.ref z)) Q E s := by
  have ty : s.TypeIs (.ref z) "zip" := ⟨_, hz, rfl⟩
  unfold pyNext
  refine wpAny_bind (wpAny_attempt (wpAny_callSpecial?_slot (name := Str.ofString "__next__") ty F.slot_zip_next (wpAny_call_entry F.slot_zip_next ty F.entry_zip_next ?_ (F.args_zip_next_1 _))))
  exact zip_draw D1 D2 Z hz hI hO s1 s2 k1 k2 fun x y h' tk c1 c2 c3 c4 c5 c6 c7 c8 c9 => wpAny_pure (hQ x y h' tk c1 c2 c3 c4 c5 c6 c7 c8 c9)
theorem zip_end {z TI TO i1 i2 : Addr} {f1 f2 : List Addr} {n1 n2 k : Nat} {P1 P2 : Nat → Value → Prop} {S1 S2 : Nat → Heap → Prop} {a b : Value} {Q : Option Value → Shared → Prop}
    (D1 : Draws prog w A.in1 i1 f1 n1 P1 S1) (D2 : Draws prog w A.in1 i2 f2 n2 P2 S2) (Z : Zp z TI TO i1 i2 f1 f2) (hz : IsZip s.heap z TI TO .none) (hI : IsPair s.heap TI (.ref i1) (.ref i2)) (hO : IsPair s.heap TO a b)
    (s1 : S1 k s.heap) (s2 : S2 k s.heap) (k1 : k ≤ n1) (k2 : k ≤ n2) (ke : k = n1 ∨ k = n2)
    (hQ : ∀ h' tk, (∀ c o, c ≠ z → c ≠ TO → c ≠ i1 → c ≠ i2 → s.heap.get? c = some o → h'.get? c = some o) → Q none { s with heap := h', toks := tk }) :
    wpAny (model prog w) A (pyNext (.ref z)) Q E s := by
  have ty : s.TypeIs (.ref z) "zip" := ⟨_, hz, rfl⟩
  unfold pyNext
  refine wpAny_bind (wpAny_attempt (wpAny_callSpecial?_slot (name := Str.ofString "__next__") ty F.slot_zip_next (wpAny_call_entry F.slot_zip_next ty F.entry_zip_next
    (zip_over D1 D2 Z hz hI hO s1 s2 k1 k2 ke fun h' e tk keep he => ?_) (F.args_zip_next_1 _))))
  obtain ⟨o, ho, hc⟩ := he
  refine wpAny_bind (wpAny_isInstance (T := "StopIteration") (b := true) ⟨o, ho, hc⟩ isSubtype_stop ?_)
  exact wpAny_pure (hQ _ _ keep)
end
end L2


/-! ## a tuple and a list walked together by zip -/
namespace L2
open PySem PySem.Spec PyProof.Rows
def Itz (K : PySem.W.Frag) (a b : Addr) : It :=
  ⟨fun i H => ∃ xs ys x y, SqT K H a xs ∧ SqL K H b ys ∧ xs[i]? = some x ∧ ys[i]? = some y,
    fun i H v H' => ∃ T x y, v = .ref T ∧ H T = none ∧ H' = upd H T (.tup [x, y]) ∧ (∀ xs, SqT K H a xs → xs[i]? = some x) ∧ ∀ ys, SqL K H b ys → ys[i]? = some y,
    fun i H => ∃ xs ys, SqT K H a xs ∧ SqL K H b ys ∧ i ≤ xs.length ∧ i ≤ ys.length ∧ (i = xs.length ∨ i = ys.length)⟩
theorem fields_no_cell {vs : Array Value} (v : Option Value) : Data.fields vs ≠ Data.cell v := fun z => by cases z
theorem seq_no_cell {vs : Array Value} {n : Nat} (v : Option Value) : Data.seq vs n ≠ Data.cell v := fun z => by cases z
/-- the untracked records at ch turn, a tuple may come: the state stands -/
theorem Inv.turnT {X : Cx} {pins : List (Addr × Obj)} {σ : St} {H : Hp} {s : Shared} {h' : Heap} {tk : Nat} {ch : List Addr} {T : Addr} {x y : V} {u v : Value} (I : Inv X pins σ H s) (hf : ∀ b ∈ ch, FpOk X pins H b) (keep : ∀ b o, b ∉ ch → s.heap.get? b = some o → h'.get? b = some o)
    (hT : s.heap.objs.size ≤ T) (p : IsPair h' T u v) (rx : RelV x u) (ry : RelV y v) : Inv X pins σ (upd H T (.tup [x, y])) { s with heap := h', toks := tk } := by
  have fr : H T = none := I.hok.fresh hT
  have nT : ∀ b o, s.heap.get? b = some o → b ≠ T := fun b o e z => by rw [z] at e; exact absurd (Nat.lt_of_lt_of_le (Heap.lt_size e) hT) (Nat.lt_irrefl _)
  have trk : ∀ b o, H b = some o → b ∉ ch := fun b o e z => by rw [(hf b z).1] at e; cases e
  refine I.step (ch := ch) (fun b hb => ⟨(hf b hb).2.2.2.1, (hf b hb).2.1, (hf b hb).2.2.2.2.1, (hf b hb).2.2.2.2.2⟩) (fun b o _ _ hc e _ => keep b o hc e) (fun b o _ _ hc e _ => ⟨o.slots, keep b o hc e⟩)
    (fun b o _ e n => by rw [upd_ne (nT b o e)]; exact n) (fun b o hc e => ⟨o, keep b o hc e⟩) (fun b xs e => by rw [upd_ne (ne_of_none e fr)]; exact e) (fun b o w e => by rw [upd_ne (ne_of_none e fr)]; exact e)
    (fun b ps e => ⟨#[], by rw [upd_ne (ne_of_none e fr), e]; simp⟩) (fun m hm => ?_) (fun b w e => ?_) I.bare
  · obtain ⟨o, es, ep, ho, r⟩ := hm
    exact ⟨o, es, ep, keep _ o (fun z => (hf _ z).2.1 rfl) ho, r⟩
  · by_cases hb : b = T
    · subst hb
      rw [upd_same] at e
      cases e
      exact ⟨by show 2 ≤ sizeLine; decide, [u, v], .cons rx (.cons ry .nil), ⟨_, p, rfl, _, rfl⟩⟩
    · rw [upd_ne hb] at e
      refine (I.hok b w e).stay (fun c q hc ec => keep c q ?_ ec) (fun c ec => by rw [upd_ne (ne_of_none ec fr)]; exact ec) fun c xs ec => by rw [upd_ne (ne_of_none ec fr)]; exact ec
      rcases hc with z | z
      · rw [z]
        exact trk b w e
      · exact trk c _ z
/-- .. no tuple comes -/
theorem Inv.turnN {X : Cx} {pins : List (Addr × Obj)} {σ : St} {H : Hp} {s : Shared} {h' : Heap} {tk : Nat} {ch : List Addr} (I : Inv X pins σ H s) (hf : ∀ b ∈ ch, FpOk X pins H b) (keep : ∀ b o, b ∉ ch → s.heap.get? b = some o → h'.get? b = some o) :
    Inv X pins σ H { s with heap := h', toks := tk } := by
  have trk : ∀ b o, H b = some o → b ∉ ch := fun b o e z => by rw [(hf b z).1] at e; cases e
  refine I.step (ch := ch) (fun b hb => ⟨(hf b hb).2.2.2.1, (hf b hb).2.1, (hf b hb).2.2.2.2.1, (hf b hb).2.2.2.2.2⟩) (fun b o _ _ hc e _ => keep b o hc e) (fun b o _ _ hc e _ => ⟨o.slots, keep b o hc e⟩)
    (fun b o _ e n => n) (fun b o hc e => ⟨o, keep b o hc e⟩) (fun b xs e => e) (fun b o w e => e) (fun b ps e => ⟨#[], by rw [e]; simp⟩) (fun m hm => ?_) (fun b w e => ?_) I.bare
  · obtain ⟨o, es, ep, ho, r⟩ := hm
    exact ⟨o, es, ep, keep _ o (fun z => (hf _ z).2.1 rfl) ho, r⟩
  · refine (I.hok b w e).stay (fun c q hc ec => keep c q ?_ ec) (fun c ec => ec) fun c xs ec => ec
    rcases hc with z | z
    · rw [z]
      exact trk b w e
    · exact trk c _ z
theorem turn_zip {P : Program} {w : World} {K : PySem.W.Frag} {es : List Expr} {kk : Nat} {tp : Pos} {a b z TI TO i1 i2 : Addr} (Z : Zp z TI TO i1 i2 [i1, a] [i2, b]) (na : a ≠ i1) (nb : b ≠ i2) :
    Turn P w K (.Tuple es kk tp) (Itz K a b) [z, TI, TO, i1, i2] z (fun i h => IsZip h z TI TO .none ∧ IsPair h TI (.ref i1) (.ref i2) ∧ (∃ x y, IsPair h TO x y) ∧ h.IsTupleIter i1 a i ∧ h.IsListIter i2 b i) where
  mem := by simp
  obj := fun i h ⟨t1, t2, ⟨x, y, t3⟩, t4, t5⟩ c hc => by
    simp only [List.mem_cons, List.not_mem_nil, or_false] at hc
    rcases hc with rfl | rfl | rfl | rfl | rfl
    · exact ⟨_, t1, fields_no_cell⟩
    · exact ⟨_, t2, seq_no_cell⟩
    · exact ⟨_, t3, seq_no_cell⟩
    · obtain ⟨o, e, _, d⟩ := t4
      exact ⟨o, e, by rw [d]; exact fields_no_cell⟩
    · obtain ⟨o, e, _, d⟩ := t5
      exact ⟨o, e, by rw [d]; exact fields_no_cell⟩
  keep := fun i h h' ⟨t1, t2, ⟨x, y, t3⟩, t4, t5⟩ k => ⟨k z (by simp) _ t1, k TI (by simp) _ t2, ⟨x, y, k TO (by simp) _ t3⟩, (by obtain ⟨o, e, r⟩ := t4; exact ⟨o, k i1 (by simp) o e, r⟩), (by obtain ⟨o, e, r⟩ := t5; exact ⟨o, k i2 (by simp) o e, r⟩)⟩
  item := by
    intro X hP hw hK hc i pins s σ H E I hf ⟨t1, t2, ⟨x0, y0, t3⟩, t4, t5⟩ hg
    subst hP hw hK
    obtain ⟨xs, ys, x, y, hq1, hq2, hx, hy⟩ := hg
    obtain ⟨its1, rv1, p1, _⟩ := I.tuple hq1
    obtain ⟨its2, rv2, p2, _⟩ := I.list hq2
    obtain ⟨u, hu, ru⟩ := rv1.get hx
    obtain ⟨v, hv, rv⟩ := rv2.get hy
    have hh : X.A.in1.handled = none := I.ok.hd hc
    have l1 : i < its1.toArray.size := by rw [List.size_toArray]; exact (List.getElem?_eq_some_iff.mp hu).1
    have l2 : i < its2.toArray.size := by rw [List.size_toArray]; exact (List.getElem?_eq_some_iff.mp hv).1
    refine zip_next (draws_tup hh i1 a na its1.toArray) (Draws.list hh i2 b nb its2.toArray) Z t1 t2 t3 ⟨t4, p1⟩ ⟨t5, p2.isList⟩ l1 l2 ?_
    intro x' y' h1 tk px py z1 z2 z3 z4 z5 z6 keep
    have ex : x' = u := by
      have q : its1.toArray[i]? = some x' := px
      simp only [List.getElem?_toArray] at q
      rw [hu] at q
      exact (Option.some.inj q).symm
    have ey : y' = v := by
      have q : its2.toArray[i]? = some y' := py
      simp only [List.getElem?_toArray] at q
      rw [hv] at q
      exact (Option.some.inj q).symm
    subst ex ey
    refine ⟨_, rfl, wpAny_letOwnedTupleGo_zip (s := { s with heap := h1, toks := tk }) z1 fun h2 z7 sb => ?_⟩
    have zlt : z < s.heap.objs.size := Heap.lt_size t1
    have keep2 : ∀ c o, c ∉ [z, TI, TO, i1, i2] → s.heap.get? c = some o → h2.get? c = some o := fun c o hc e => by
      simp only [List.mem_cons, List.not_mem_nil, or_false, not_or] at hc
      exact sb.extBut c o hc.1 (keep c o hc.1 hc.2.2.1 hc.2.2.2.1 hc.2.2.2.2 e)
    have pT : IsPair h2 s.heap.objs.size x' y' := sb.extBut _ _ (Nat.ne_of_gt zlt) z6
    have I' := I.turnT (h' := h2) (tk := tk) (ch := [z, TI, TO, i1, i2]) (x := x) (y := y) hf keep2 (Nat.le_refl _) pT ru rv
    refine ⟨.ref s.heap.objs.size, _, I', rfl, ⟨s.heap.objs.size, x, y, rfl, I.hok.fresh (Nat.le_refl _), rfl, fun xs' q => by rw [I.tuple_inj q hq1]; exact hx, fun ys' q => by rw [I.list_inj q hq2]; exact hy⟩,
      ⟨z7, sb.extBut _ _ Z.a1 z2, ⟨_, _, sb.extBut _ _ Z.a2 z3⟩, z4.1.extBut sb.extBut Z.a3, z5.1.extBut sb.extBut Z.a4⟩, fun c hc => ?_⟩
    have := (hf c hc).1
    rw [upd_ne]
    · exact this
    · intro q
      obtain ⟨o, e, _⟩ : ∃ o, s.heap.get? c = some o ∧ True := by
        simp only [List.mem_cons, List.not_mem_nil, or_false] at hc
        rcases hc with rfl | rfl | rfl | rfl | rfl
        · exact ⟨_, t1, trivial⟩
        · exact ⟨_, t2, trivial⟩
        · exact ⟨_, t3, trivial⟩
        · obtain ⟨o, e, _⟩ := t4; exact ⟨o, e, trivial⟩
        · obtain ⟨o, e, _⟩ := t5; exact ⟨o, e, trivial⟩
      rw [q] at e
      exact absurd (Heap.lt_size e) (Nat.lt_irrefl _)
  done := by
    intro X hP hw hK hc i pins s σ H E I hf ⟨t1, t2, ⟨x0, y0, t3⟩, t4, t5⟩ hg
    subst hP hw hK
    obtain ⟨xs, ys, hq1, hq2, e1, e2, e3⟩ := hg
    obtain ⟨its1, rv1, p1, _⟩ := I.tuple hq1
    obtain ⟨its2, rv2, p2, _⟩ := I.list hq2
    have hh : X.A.in1.handled = none := I.ok.hd hc
    have n1 : its1.toArray.size = xs.length := by rw [List.size_toArray]; exact rv1.length.symm
    have n2 : its2.toArray.size = ys.length := by rw [List.size_toArray]; exact rv2.length.symm
    refine zip_end (draws_tup hh i1 a na its1.toArray) (Draws.list hh i2 b nb its2.toArray) Z t1 t2 t3 ⟨t4, p1⟩ ⟨t5, p2.isList⟩ (by omega) (by omega) (by omega) ?_
    intro h1 tk keep
    refine ⟨rfl, I.turnN (h' := h1) (tk := tk) (ch := [z, TI, TO, i1, i2]) hf fun c o hc e => ?_⟩
    simp only [List.mem_cons, List.not_mem_nil, or_false, not_or] at hc
    exact keep c o hc.1 hc.2.2.1 hc.2.2.2.1 hc.2.2.2.2 e
  self := fun _ _ _ _ _ st h => wpAny_pyIter_zip st.1 h
theorem nin2 {x y z : Nat} (h1 : x ≠ y) (h2 : x ≠ z) : x ∉ [y, z] := by simp [h1, h2]
theorem zp_mk (n a b : Nat) (la : a < n) (lb : b < n) : Zp (n + 4) (n + 2) (n + 3) n (n + 1) [n, a] [n + 1, b] := by
  have e : ∀ x y : Nat, x ≠ y → (x : Addr) ≠ y := fun _ _ h => h
  exact ⟨e _ _ (by omega), e _ _ (by omega), e _ _ (by omega), e _ _ (by omega), e _ _ (by omega), e _ _ (by omega), e _ _ (by omega), e _ _ (by omega), e _ _ (by omega),
    nin2 (by omega) (by omega), nin2 (by omega) (by omega), nin2 (by omega) (by omega), nin2 (by omega) (by omega), nin2 (by omega) (by omega), nin2 (by omega) (by omega)⟩
section
variable {X : Cx} {es : List Expr} {kk : Nat} {tp : Pos}
def iZip (K : PySem.W.Frag) (ta : TA) : TI := fun σ H R => ta σ H fun vs H1 => ∃ a b, vs = [.ref a, .ref b] ∧ (∃ xs, SqT K H1 a xs) ∧ (∃ ys, SqL K H1 b ys) ∧ R (Itz K a b) H1
theorem pi_zip {e1 e2 : Expr} {ta : TA} {p pos : Pos} (hg : Gl X "zip") (hm : X.mg "zip" = none) (ha : PA X [e1, e2] ta) (hs : starEach [e1, e2] X.env = [(false, eval e1 X.env), (false, eval e2 X.env)] := by rfl) (hs2 : starEach [e2] X.env = [(false, eval e2 X.env)] := by rfl) :
    PI X (.Tuple es kk tp) (.Call (.Name "zip" p) [e1, e2] [] pos) (iZip X.K ta) := by
  intro pins s σ H R I h
  refine Call_ (ld_blt I hg hm (show bootBuiltins "zip" = some (.type "zip") by decide +kernel) (PyProof.Rows.callWith_type1 (thn (ha pos pins s σ H _ I h) fun us s1 ⟨vs, H1, I1, r1, q1⟩ => ?_) (by rw [hs, hs2]) (by rw [hs2]; rfl)))
  obtain ⟨a, b, e, ⟨xs, hx⟩, ⟨ys, hy⟩, q⟩ := q1
  subst e
  obtain ⟨u, v, rfl, ru, rv⟩ := vals2 r1
  cases ru
  cases rv
  obtain ⟨its1, rv1, p1, _⟩ := I1.tuple hx
  obtain ⟨its2, rv2, p2, _⟩ := I1.list hy
  have la : a < s1.heap.objs.size := by obtain ⟨o, e, _⟩ := p1; exact Heap.lt_size e
  have lb : b < s1.heap.objs.size := by obtain ⟨o, n, e, _⟩ := p2; exact Heap.lt_size e
  refine call_zip_tl p1 p2.isList fun h' z1 z2 z3 z4 z5 keep => wpAny_pyIter_zip z1 ?_
  have I2 : Inv X pins σ H1 { s1 with heap := h' } := I1.kept (t' := s1.toks) keep
  refine ⟨s1.heap.objs.size + 4, [s1.heap.objs.size + 4, s1.heap.objs.size + 2, s1.heap.objs.size + 3, s1.heap.objs.size, s1.heap.objs.size + 1], _, _, H1, rfl, I2,
    turn_zip (a := a) (b := b) (zp_mk _ _ _ la lb) (Nat.ne_of_lt la) (Nat.ne_of_lt (Nat.lt_succ_of_lt lb)), ⟨z1, z2, ⟨_, _, z3⟩, z4, z5⟩, fun c hc => ?_, q⟩
  · have ge : s1.heap.objs.size ≤ c := by
      simp only [List.mem_cons, List.not_mem_nil, or_false] at hc
      rcases hc with rfl | rfl | rfl | rfl | rfl
      · exact Nat.le_add_right _ 4
      · exact Nat.le_add_right _ 2
      · exact Nat.le_add_right _ 3
      · exact Nat.le_refl _
      · exact Nat.le_add_right _ 1
    exact I1.fpOk ge (I1.hok.fresh ge)
end
/-- over a tuple and a list that stay -/
theorem for_zip {K : PySem.W.Frag} {a b : Addr} {xs ys : List V} {g : TG} {tb : TS} {D : Ends} {σ : St} {H : Hp} (Pv : Nat → St → Hp → Prop) (h0 : Pv 0 σ H) (hl : ∀ i σ H, i ≤ xs.length → Pv i σ H → SqT K H a xs ∧ SqL K H b ys) (hlen : xs.length ≤ ys.length)
    (hs : ∀ i x y T σ H, xs[i]? = some x → ys[i]? = some y → H T = none → Pv i σ H → g (.ref T) σ (upd H T (.tup [x, y])) fun σ2 H2 => tb { D with nx := Pv (i + 1), ct := Pv (i + 1), bk := D.nx } σ2 H2) (hd : ∀ σ H, Pv xs.length σ H → D.nx σ H) :
    ∃ W : Nat → Nat → St → Hp → Prop, (∃ m, W 0 m σ H) ∧ ∀ i m σ H, W i m σ H →
      ((Itz K a b).stop i H ∧ D.nx σ H) ∨ ((Itz K a b).go i H ∧ ∃ N : St → Hp → Prop, (∀ σ' H', N σ' H' → ∃ m', m' < m ∧ W (i + 1) m' σ' H') ∧ ∀ x H', (Itz K a b).yld i H x H' → g x σ H' fun σ2 H2 => tb { D with nx := N, ct := N, bk := D.nx } σ2 H2) := by
  refine ⟨fun i m σ H => m = xs.length - i ∧ i ≤ xs.length ∧ Pv i σ H, ⟨xs.length, by simp, Nat.zero_le _, h0⟩, ?_⟩
  rintro i m σ H ⟨rfl, hi, p⟩
  obtain ⟨q1, q2⟩ := hl i σ H hi p
  by_cases hlt : i < xs.length
  · have hlt2 : i < ys.length := by omega
    refine .inr ⟨⟨xs, ys, xs[i], ys[i], q1, q2, by simp [hlt], by simp [hlt2]⟩, Pv (i + 1), fun σ' H' p' => ⟨xs.length - (i + 1), by omega, rfl, hlt, p'⟩, fun v H' y => ?_⟩
    obtain ⟨T, x, y, rfl, hT, rfl, c1, c2⟩ := y
    exact hs i x y T σ H (c1 xs q1) (c2 ys q2) hT p
  · have e : i = xs.length := by omega
    subst e
    exact .inl ⟨⟨xs, ys, q1, q2, Nat.le_refl _, hlen, .inl rfl⟩, hd σ H p⟩
end L2

namespace L2
open PySem PySem.Spec PyProof.Rows

/-! ### lists of pairs as tables -/
section
variable {κ : Type} [DecidableEq κ]
def valV (kvs : List (κ × V)) (k : κ) : Option V := (kvs.find? fun kv => decide (kv.1 = k)).map (·.2)
/-- in its place, or at the end -/
def putK (kvs : List (κ × V)) (k : κ) (v : V) : List (κ × V) :=
  if (kvs.any fun kv => decide (kv.1 = k)) = true then kvs.map (fun kv => if kv.1 = k then (kv.1, v) else kv) else kvs ++ [(k, v)]
def dropK (kvs : List (κ × V)) (k : κ) : List (κ × V) := kvs.filter fun kv => decide (kv.1 ≠ k)

theorem valV_nil {k : κ} : valV ([] : List (κ × V)) k = none := rfl
theorem valV_pos {p : κ × V} {r : List (κ × V)} {k : κ} (e : p.1 = k) : valV (p :: r) k = some p.2 := by simp [valV, List.find?_cons, e]
theorem valV_neg {p : κ × V} {r : List (κ × V)} {k : κ} (e : ¬ p.1 = k) : valV (p :: r) k = valV r k := by simp [valV, List.find?_cons, e]
theorem valV_any (k : κ) : ∀ kvs : List (κ × V), (kvs.any fun kv => decide (kv.1 = k)) = (valV kvs k).isSome
  | [] => rfl
  | p :: r => by
    rw [List.any_cons]
    by_cases e : p.1 = k
    · simp only [valV_pos e, decide_eq_true e, Bool.true_or, Option.isSome_some]
    · rw [valV_neg e, decide_eq_false e, Bool.false_or]; exact valV_any k r
theorem valV_map (k j : κ) (y : V) : ∀ kvs : List (κ × V), valV (kvs.map fun kv => if kv.1 = k then (kv.1, y) else kv) j = (valV kvs j).map fun x => if j = k then y else x
  | [] => rfl
  | p :: r => by
    have ih := valV_map k j y r
    rw [List.map_cons]
    by_cases h : p.1 = k
    · rw [if_pos h]
      by_cases e : p.1 = j
      · rw [valV_pos (p := (p.1, y)) e, valV_pos e, Option.map_some, if_pos (e.symm.trans h)]
      · rw [valV_neg (p := (p.1, y)) e, valV_neg e, ih]
    · rw [if_neg h]
      by_cases e : p.1 = j
      · rw [valV_pos (p := p) e, valV_pos e, Option.map_some, if_neg (fun z => h (e.trans z))]
      · rw [valV_neg (p := p) e, valV_neg e, ih]
theorem valV_snoc (k j : κ) (y : V) : ∀ kvs : List (κ × V), valV kvs k = none → valV (kvs ++ [(k, y)]) j = if j = k then some y else valV kvs j
  | [], _ => by
    by_cases e : k = j
    · rw [if_pos e.symm]; exact valV_pos (p := (k, y)) e
    · rw [if_neg (fun z => e z.symm)]; exact valV_neg (p := (k, y)) e
  | p :: r, hn => by
    rw [List.cons_append]
    have hk : ¬ p.1 = k := fun z => by rw [valV_pos z] at hn; cases hn
    rw [valV_neg hk] at hn
    have ih := valV_snoc k j y r hn
    by_cases e : p.1 = j
    · rw [valV_pos e, valV_pos e, if_neg (fun z => hk (e.trans z))]
    · rw [valV_neg e, valV_neg e, ih]
theorem valV_put (kvs : List (κ × V)) (k j : κ) (y : V) : valV (putK kvs k y) j = if j = k then some y else valV kvs j := by
  unfold putK
  by_cases a : (kvs.any fun kv => decide (kv.1 = k)) = true
  · rw [if_pos a, valV_map]
    rw [valV_any] at a
    by_cases e : j = k
    · obtain ⟨x, hx⟩ := Option.isSome_iff_exists.mp a
      rw [if_pos e, e, hx, Option.map_some, if_pos rfl]
    · rw [if_neg e]
      cases valV kvs j with
      | none => rfl
      | some x => rw [Option.map_some, if_neg e]
  · rw [if_neg a]
    refine valV_snoc k j y kvs ?_
    rw [valV_any] at a
    cases q : valV kvs k with
    | none => rfl
    | some x => rw [q] at a; exact (a rfl).elim
theorem length_putK (kvs : List (κ × V)) (k : κ) (v : V) : (putK kvs k v).length ≤ kvs.length + 1 := by
  unfold putK
  split
  · rw [List.length_map]; omega
  · rw [List.length_append, List.length_cons, List.length_nil]; omega
theorem putK_new {kvs : List (κ × V)} {k : κ} (v : V) (h : valV kvs k = none) : putK kvs k v = kvs ++ [(k, v)] := by
  unfold putK
  rw [valV_any, h]
  exact if_neg (by decide)

theorem RelO.isSome_eq {o : Option V} {u : Option Value} (r : RelO o u) : o.isSome = u.isSome := by
  cases o with
  | none => cases u with
    | none => rfl
    | some _ => exact (show False from r).elim
  | some _ => cases u with
    | none => exact (show False from r).elim
    | some _ => rfl
theorem RelO.getD {o : Option V} {u : Option Value} {d : V} {d' : Value} (r : RelO o u) (rd : RelV d d') : RelV (o.getD d) (u.getD d') := by
  cases o with
  | none => cases u with
    | none => exact rd
    | some _ => exact (show False from r).elim
  | some _ => cases u with
    | none => exact (show False from r).elim
    | some _ => exact r

/-- raw tables of the same keys -/
theorem KV.val {kvs : List (κ × V)} {vs : List (κ × Value)} (r : KV kvs vs) (k : κ) : RelO (valV kvs k) (valueAt vs k) := by
  unfold KV at r
  induction r with
  | nil => exact True.intro
  | @cons p q ps qs h t ih =>
    obtain ⟨h1, h2⟩ := h
    by_cases e : p.1 = k
    · have e' : q.1 = k := h1.symm.trans e
      have b : valueAt (q :: qs) k = some q.2 := by simp [valueAt, List.find?_cons, e']
      rw [valV_pos e, b]; exact h2
    · have e' : ¬ q.1 = k := fun z => e (h1.trans z)
      have b : valueAt (q :: qs) k = valueAt qs k := by simp [valueAt, List.find?_cons, e']
      rw [valV_neg e, b]; exact ih
theorem KV.any {kvs : List (κ × V)} {vs : List (κ × Value)} (r : KV kvs vs) (k : κ) : (kvs.any fun kv => decide (kv.1 = k)) = vs.any fun kv => decide (kv.1 = k) := by
  unfold KV at r
  induction r with
  | nil => rfl
  | cons h t ih => rw [List.any_cons, List.any_cons, ih, h.1]
theorem KV.repl {kvs : List (κ × V)} {vs : List (κ × Value)} (r : KV kvs vs) (k : κ) {y : V} {u : Value} (ry : RelV y u) :
    KV (kvs.map fun kv => if kv.1 = k then (kv.1, y) else kv) (vs.map fun kv => if kv.1 = k then (kv.1, u) else kv) := by
  unfold KV at r ⊢
  induction r with
  | nil => exact .nil
  | @cons p q ps qs h t ih =>
    rw [List.map_cons, List.map_cons]
    refine .cons ?_ ih
    obtain ⟨h1, h2⟩ := h
    by_cases e : p.1 = k
    · rw [if_pos e, if_pos (h1.symm.trans e)]; exact ⟨h1, ry⟩
    · rw [if_neg e, if_neg (fun z => e (h1.trans z))]; exact ⟨h1, h2⟩
theorem KV.put {kvs : List (κ × V)} {vs : List (κ × Value)} (r : KV kvs vs) (k : κ) {y : V} {u : Value} (ry : RelV y u) : KV (putK kvs k y) (stored vs k u) := by
  unfold putK stored
  rw [r.any k]
  by_cases e : (vs.any fun kv => decide (kv.1 = k)) = true
  · rw [if_pos e, if_pos e]; exact r.repl k ry
  · rw [if_neg e, if_neg e]; exact Paired.snoc r ⟨rfl, ry⟩
theorem KV.drop {kvs : List (κ × V)} {vs : List (κ × Value)} (r : KV kvs vs) (k : κ) : KV (dropK kvs k) (without vs k) := by
  unfold KV at r ⊢
  unfold dropK without
  induction r with
  | nil => exact .nil
  | @cons p q ps qs h t ih =>
    obtain ⟨h1, h2⟩ := h
    rw [List.filter_cons, List.filter_cons]
    by_cases e : p.1 = k
    · have a : ¬ decide (p.1 ≠ k) = true := by simp [e]
      have b : ¬ decide (q.1 ≠ k) = true := by simp [h1.symm.trans e]
      rw [if_neg a, if_neg b]; exact ih
    · have e' : ¬ q.1 = k := fun z => e (h1.trans z)
      have a : decide (p.1 ≠ k) = true := by simp [e]
      have b : decide (q.1 ≠ k) = true := by simp [e']
      rw [if_pos a, if_pos b]; exact .cons ⟨h1, h2⟩ ih
theorem KV.keys {kvs : List (κ × V)} {vs : List (κ × Value)} (r : KV kvs vs) : kvs.map (·.1) = vs.map (·.1) := by
  unfold KV at r
  induction r with
  | nil => rfl
  | cons h t ih => rw [List.map_cons, List.map_cons, ih, h.1]
theorem KV.length {kvs : List (κ × V)} {vs : List (κ × Value)} (r : KV kvs vs) : kvs.length = vs.length := Paired.length r
theorem dropK_le (kvs : List (κ × V)) (k : κ) : (dropK kvs k).length ≤ kvs.length := List.length_filter_le _ _
end


/-! ### a tracked dict, its keys ints and texts or tuples of these -/
theorem kV_is {P : Program} {w : World} {k : Key} {u : Value} (r : RelV (kV k) u) : (mixKind P w).is k u = true := by
  cases k with
  | inl i => obtain ⟨t, e⟩ := (show ∃ t, u = Value.int i t from r); subst e; exact mixKind_int P w i t
  | inr x => obtain ⟨t, e⟩ := (show ∃ t, u = Value.str x t from r); subst e; exact mixKind_str P w x t
theorem kV_inj {a b : Key} (e : kV a = kV b) : a = b := by
  cases a with
  | inl i => cases b with
    | inl j => have e' : V.int i = V.int j := e; injection e' with e'; rw [e']
    | inr y => exact nomatch (show V.int i = V.str y from e)
  | inr x => cases b with
    | inl j => exact nomatch (show V.str x = V.int j from e)
    | inr y => have e' : V.str x = V.str y := e; injection e' with e'; rw [e']
theorem kVs_inj : ∀ {a b : List Key}, a.map kV = b.map kV → a = b
  | [], [], _ => rfl
  | [], _ :: _, e => by simp at e
  | _ :: _, [], e => by simp at e
  | x :: xs, y :: ys, e => by
    rw [List.map_cons, List.map_cons] at e
    injection e with e1 e2
    rw [kV_inj e1, kVs_inj e2]
theorem items_are {P : Program} {w : World} : ∀ {ks : List Key} {us : List Value}, Vals (ks.map kV) us → ItemsAre (mixKind P w) ks us
  | [], _, r => by rw [List.map_nil] at r; cases r; exact .nil
  | k :: ks, _, r => by
    rw [List.map_cons] at r
    cases r with
    | cons h t => exact .cons (kV_is h) (items_are t)

/-- raw entries of a dict with tuple keys -/
abbrev KT (H : Hp) : List (List Key × V) → List (List Key × Addr × Value) → Prop := Paired fun p q => p.1 = q.1 ∧ H q.2.1 = some (.tup (p.1.map kV)) ∧ RelV p.2 q.2.2
theorem KT.val {H : Hp} {kvs : List (List Key × V)} {xs : List (List Key × Addr × Value)} (r : KT H kvs xs) (k : List Key) : RelO (valV kvs k) ((atKey xs k).map (·.2)) := by
  induction r with
  | nil => exact True.intro
  | @cons p q ps qs h t ih =>
    obtain ⟨h1, _, h2⟩ := h
    by_cases e : p.1 = k
    · have e' : q.1 = k := h1.symm.trans e
      have b : atKey (q :: qs) k = some q.2 := by simp [atKey, List.find?_cons, e']
      rw [valV_pos e, b]; exact h2
    · have e' : ¬ q.1 = k := fun z => e (h1.trans z)
      have b : atKey (q :: qs) k = atKey qs k := by simp [atKey, List.find?_cons, e']
      rw [valV_neg e, b]; exact ih
theorem KT.repl {H : Hp} {kvs : List (List Key × V)} {xs : List (List Key × Addr × Value)} (r : KT H kvs xs) (k : List Key) {y : V} {u : Value} (ry : RelV y u) :
    KT H (kvs.map fun kv => if kv.1 = k then (kv.1, y) else kv) (xs.map (putAt k u)) := by
  induction r with
  | nil => exact .nil
  | @cons p q ps qs h t ih =>
    rw [List.map_cons, List.map_cons]
    refine .cons ?_ ih
    obtain ⟨h1, h2, h3⟩ := h
    unfold putAt
    by_cases e : p.1 = k
    · rw [if_pos e, if_pos (h1.symm.trans e)]; exact ⟨h1, h2, ry⟩
    · rw [if_neg e, if_neg (fun z => e (h1.trans z))]; exact ⟨h1, h2, h3⟩
theorem KT.put {H : Hp} {kvs : List (List Key × V)} {xs : List (List Key × Addr × Value)} (r : KT H kvs xs) (k : List Key) {b : Addr} {y : V} {u : Value} (hb : H b = some (.tup (k.map kV))) (ry : RelV y u) :
    KT H (putK kvs k y) (storedH xs k b u) := by
  have e : (kvs.any fun kv => decide (kv.1 = k)) = (atKey xs k).isSome := by
    rw [valV_any, (r.val k).isSome_eq, Option.isSome_map]
  unfold putK storedH
  rw [e]
  by_cases q : (atKey xs k).isSome = true
  · rw [if_pos q, if_pos q]; exact r.repl k ry
  · rw [if_neg q, if_neg q]; exact Paired.snoc r ⟨rfl, hb, ry⟩
theorem KT.keeps {H H' : Hp} {kvs : List (List Key × V)} {xs : List (List Key × Addr × Value)} (r : KT H kvs xs) (ht : ∀ b ys, H b = some (.tup ys) → H' b = some (.tup ys)) : KT H' kvs xs :=
  Paired.mapP r fun _ _ z => ⟨z.1, ht _ _ z.2.1, z.2.2⟩

section
variable {P : Program} {w : World} {H : Hp} {h : Heap} {a : Addr}
theorem rd_of {u : HO} (ok : HOk P w H h) (e : Rd H a u) : ObjOk P w H h a u := e.ok ok
theorem dk_rd {kvs : List (Key × V)} (ok : HOk P w H h) (e : Rd H a (.dK kvs)) : kvs.length ≤ sizeLine ∧ (a == sysModules) = false ∧ ∃ vs, KV kvs vs ∧ h.DictOf (mixKind P w) a vs :=
  show ObjOk P w H h a (.dK kvs) from rd_of ok e
theorem dk_of {kvs : List (Key × V)} (ok : HOk P w H h) (e : H a = some (.dK kvs)) : kvs.length ≤ sizeLine ∧ (a == sysModules) = false ∧ ∃ vs, KV kvs vs ∧ h.DictOf (mixKind P w) a vs := dk_rd ok (.inl e)
/-- a tracked tuple of ints and texts is a key -/
theorem key_of {ks : List Key} (ok : HOk P w H h) (e : H a = some (.tup (ks.map kV))) : (tupleKind (mixKind P w)).is h ks a := by
  obtain ⟨_, its, r, o, h1, h2, n, h3⟩ := (show ObjOk P w H h a (.tup (ks.map kV)) from ok a _ e)
  exact ⟨o, its.toArray, n, h1, h2, h3, by simpa using items_are r⟩
theorem dt_rd {kvs : List (List Key × V)} (ok : HOk P w H h) (e : Rd H a (.dT kvs)) : kvs.length ≤ sizeLine ∧ (a == sysModules) = false ∧
    ∃ xs, KT H kvs xs ∧ h.DictOfH (tupleKind (mixKind P w)) a xs := by
  obtain ⟨z, y, xs, r, o, es, ep, h1, h2, h3, h4, h5⟩ := (show ObjOk P w H h a (.dT kvs) from rd_of ok e)
  refine ⟨z, y, xs, r, o, es, ep, h1, h2, h3, h4, fun x hx => ?_, h5⟩
  have all : ∀ {l : List (List Key × V)} {m : List (List Key × Addr × Value)}, KT H l m → ∀ x ∈ m, (tupleKind (mixKind P w)).is h x.1 x.2.1 := by
    intro l m q
    induction q with
    | nil => intro x hx; exact nomatch hx
    | @cons p q ps qs hq t ih =>
      intro x hx
      rcases List.mem_cons.mp hx with e | hx
      · subst e
        exact key_of ok (by rw [← hq.1]; exact hq.2.1)
      · exact ih x hx
  exact all r x hx
theorem dt_of {kvs : List (List Key × V)} (ok : HOk P w H h) (e : H a = some (.dT kvs)) : kvs.length ≤ sizeLine ∧ (a == sysModules) = false ∧
    ∃ xs, KT H kvs xs ∧ h.DictOfH (tupleKind (mixKind P w)) a xs := dt_rd ok (.inl e)
end

/-- what the dict at a holds at the key y -/
def DGet (H : Hp) (a : Addr) (y : V) (r : Option V) : Prop :=
  (∃ kvs k, Rd H a (.dK kvs) ∧ y = kV k ∧ r = valV kvs k) ∨ ∃ kvs k b, Rd H a (.dT kvs) ∧ y = .ref b ∧ H b = some (.tup (k.map kV)) ∧ r = valV kvs k
/-- the heap behind a[y] = v -/
def DPut (H : Hp) (a : Addr) (y v : V) (H' : Hp) : Prop :=
  (∃ kvs k, H a = some (.dK kvs) ∧ y = kV k ∧ kvs.length < sizeLine ∧ H' = upd H a (.dK (putK kvs k v))) ∨
  ∃ kvs k b, H a = some (.dT kvs) ∧ y = .ref b ∧ H b = some (.tup (k.map kV)) ∧ kvs.length < sizeLine ∧ H' = upd H a (.dT (putK kvs k v))
theorem DGet.k {H : Hp} {a : Addr} {kvs : List (Key × V)} {k : Key} (e : H a = some (.dK kvs)) : DGet H a (kV k) (valV kvs k) := .inl ⟨kvs, k, .inl e, rfl, rfl⟩
theorem DGet.t {H : Hp} {a b : Addr} {kvs : List (List Key × V)} {k : List Key} (e : H a = some (.dT kvs)) (eb : H b = some (.tup (k.map kV))) : DGet H a (.ref b) (valV kvs k) := .inr ⟨kvs, k, b, .inl e, rfl, eb, rfl⟩
theorem DPut.k {H : Hp} {a : Addr} {kvs : List (Key × V)} {k : Key} {v : V} (e : H a = some (.dK kvs)) (hl : kvs.length < sizeLine) : DPut H a (kV k) v (upd H a (.dK (putK kvs k v))) := .inl ⟨kvs, k, e, rfl, hl, rfl⟩
theorem DPut.t {H : Hp} {a b : Addr} {kvs : List (List Key × V)} {k : List Key} {v : V} (e : H a = some (.dT kvs)) (eb : H b = some (.tup (k.map kV))) (hl : kvs.length < sizeLine) :
    DPut H a (.ref b) v (upd H a (.dT (putK kvs k v))) := .inr ⟨kvs, k, b, e, rfl, eb, hl, rfl⟩


section
variable {X : Cx} {pins : List (Addr × Obj)} {σ : St} {H : Hp} {s : Shared} {a : Addr} {y v : V} {u r : Value} {o : Option V} {A : Around} {E : Value → Shared → Prop}

theorem Inv.big (I : Inv X pins σ H s) : sysModules < s.heap.objs.size := by
  have h : mainGlobals < s.heap.objs.size := (I.mod.glob.keeps I.bk).lt
  exact Nat.lt_trans (by decide) h

/-- d[y], there -/
theorem d_getItem {Q : Value → Shared → Prop} (hu : A.units + 1 < cLine) (I : Inv X pins σ H s) (g : DGet H a y (some v)) (ry : RelV y u) (h : ∀ w' s', Inv X pins σ H s' → RelV v w' → Q w' s') :
    wpAny (model X.prog X.w) A (getItem (.ref a) u) Q E s := by
  rcases g with ⟨kvs, k, e, ey, l⟩ | ⟨kvs, k, b, e, ey, eb, l⟩
  · subst ey
    obtain ⟨z, hd, vs, rel, dd⟩ := dk_rd I.hok e
    obtain ⟨w', hw, rw'⟩ := RelO.some_of (v := v) (o := valueAt vs k) (by rw [l]; exact rel.val k)
    exact wpAny_getItem_of (kV_is ry) dd.mapOf hw (h w' _ (I.tok _) rw')
  · subst ey
    cases (show u = Value.ref b from ry)
    obtain ⟨z, hd, xs, rel, dd⟩ := dt_rd I.hok e
    obtain ⟨w', hw, rw'⟩ := RelO.some_of (v := v) (o := (atKey xs k).map (·.2)) (by rw [l]; exact rel.val k)
    obtain ⟨p, hp, hp2⟩ := Option.map_eq_some_iff.mp hw
    refine wpAny_getItem_heap (tupleKind_room_in1 hu) (key_of I.hok eb) dd hp ?_
    rw [hp2]
    exact h w' _ (I.tok _) rw'
/-- y in d -/
theorem d_in {Q : Value → Shared → Prop} (hu : A.units + 1 < cLine) (I : Inv X pins σ H s) (g : DGet H a y o) (ry : RelV y u) (h : ∀ s', Inv X pins σ H s' → Q (.bool o.isSome) s') :
    wpAny (model X.prog X.w) A (compareOp .In u (.ref a)) Q E s := by
  rcases g with ⟨kvs, k, e, ey, l⟩ | ⟨kvs, k, b, e, ey, eb, l⟩
  · subst ey
    obtain ⟨z, hd, vs, rel, dd⟩ := dk_rd I.hok e
    refine wpAny_in_of (kV_is ry) hd dd.mapOf ?_
    rw [← (rel.val k).isSome_eq, ← l]
    exact h _ (I.tok _)
  · subst ey
    cases (show u = Value.ref b from ry)
    obtain ⟨z, hd, xs, rel, dd⟩ := dt_rd I.hok e
    refine wpAny_in_heap (tupleKind_room_in1 hu) (key_of I.hok eb) hd dd ?_
    have q := (rel.val k).isSome_eq
    rw [Option.isSome_map] at q
    rw [← q, ← l]
    exact h _ (I.tok _)
theorem d_notIn {Q : Value → Shared → Prop} (hu : A.units + 1 < cLine) (I : Inv X pins σ H s) (g : DGet H a y o) (ry : RelV y u) (h : ∀ s', Inv X pins σ H s' → Q (.bool (!o.isSome)) s') :
    wpAny (model X.prog X.w) A (compareOp .NotIn u (.ref a)) Q E s := by
  rcases g with ⟨kvs, k, e, ey, l⟩ | ⟨kvs, k, b, e, ey, eb, l⟩
  · subst ey
    obtain ⟨z, hd, vs, rel, dd⟩ := dk_rd I.hok e
    refine wpAny_notIn_of (kV_is ry) hd dd.mapOf ?_
    rw [← (rel.val k).isSome_eq, ← l]
    exact h _ (I.tok _)
  · subst ey
    cases (show u = Value.ref b from ry)
    obtain ⟨z, hd, xs, rel, dd⟩ := dt_rd I.hok e
    refine wpAny_notIn_heap (tupleKind_room_in1 hu) (key_of I.hok eb) hd dd ?_
    have q := (rel.val k).isSome_eq
    rw [Option.isSome_map] at q
    rw [← q, ← l]
    exact h _ (I.tok _)
/-- a dict's object is replaced -/
theorem d_write {h' : Heap} {t' : Nat} {ob : HO} (I : Inv X pins σ H s) (mu : Mut (H a)) (hs : Heap.SameBut a s.heap h') (he : ∃ q, h'.get? a = some q) (new : ObjOk X.prog X.w (upd H a ob) h' a ob) :
    Inv X pins σ (upd H a ob) { s with heap := h', toks := t' } :=
  I.write (x := a) (e := a) mu (.inl rfl) (fun b q hb z => (hs.2 b hb).trans z) he new
theorem dk_new {P : Program} {w : World} {H' : Hp} {h' : Heap} {kvs : List (Key × V)} {vs : List (Key × Value)} (z : kvs.length ≤ sizeLine) (hd : (a == sysModules) = false) (rel : KV kvs vs) (dd : h'.DictOf (mixKind P w) a vs) :
    ObjOk P w H' h' a (.dK kvs) := ⟨z, hd, vs, rel, dd⟩
/-- d[y] = v -/
theorem d_setItem {H' : Hp} {Q : Unit → Shared → Prop} (hu : A.units + 1 < cLine) (I : Inv X pins σ H s) (g : DPut H a y v H') (ry : RelV y u) (rv : RelV v r) (h : ∀ s', Inv X pins σ H' s' → Q () s') :
    wpAny (model X.prog X.w) A (setItem (.ref a) u r) Q E s := by
  rcases g with ⟨kvs, k, e, ey, l, eH⟩ | ⟨kvs, k, b, e, ey, eb, l, eH⟩
  · subst ey eH
    obtain ⟨z, hd, vs, rel, dd⟩ := dk_of I.hok e
    have hz : vs.length ≤ sizeLine := by rw [← rel.length]; exact z
    have hl : (putK kvs k v).length ≤ sizeLine := by have := length_putK kvs k v; omega
    refine wpAny_setItem_pairs (hsz := hz) (kV_is ry) dd fun h' dd' hs => h _ ?_
    have he : ∃ q, h'.get? a = some q := let ⟨q, _, _, hq, _⟩ := dd'; ⟨q, hq⟩
    exact d_write I (by rw [e]; exact True.intro) hs he (dk_new hl hd (rel.put k rv) dd')
  · subst ey eH
    cases (show u = Value.ref b from ry)
    obtain ⟨z, hd, xs, rel, dd⟩ := dt_of I.hok e
    have hz : xs.length ≤ sizeLine := by rw [← Paired.length rel]; exact z
    have hl : (putK kvs k v).length ≤ sizeLine := by have := length_putK kvs k v; omega
    refine wpAny_setItem_heap (hsz := hz) (tupleKind_room_in1 hu) (key_of I.hok eb) dd fun h' dd' hs => h _ ?_
    obtain ⟨q, es, ep, hq, h2, h3, h4, _, h5⟩ := dd'
    refine d_write I (by rw [e]; exact True.intro) hs ⟨q, hq⟩ ⟨hl, hd, _, (rel.put k eb rv).keeps fun c ys ec => ?_, q, es, ep, hq, h2, h3, h4, h5⟩
    rw [upd_ne (ne_of ec e (fun z => nomatch z))]
    exact ec
end

section
variable {X : Cx} {pins : List (Addr × Obj)} {σ : St} {H : Hp} {s : Shared} {a : Addr} {kvs : List (Key × V)} {k : Key} {u : Value} {A : Around} {E : Value → Shared → Prop}
/-- del d[k] -/
theorem d_delItem {Q : Unit → Shared → Prop} (I : Inv X pins σ H s) (e : H a = some (.dK kvs)) (ry : RelV (kV k) u) (l : (valV kvs k).isSome = true) (h : ∀ s', Inv X pins σ (upd H a (.dK (dropK kvs k))) s' → Q () s') :
    wpAny (model X.prog X.w) A (delItem (.ref a) u) Q E s := by
  obtain ⟨z, hd, vs, rel, dd⟩ := dk_of I.hok e
  refine wpAny_delItem_slot dd.typeIs (by decide) PySem.F.slot_dict_delitem
    (call_meetsIn PySem.F.slot_dict_delitem dd.typeIs PySem.F.entry_dict_delitem (PySem.F.args_dict_delitem_2 _ _) (meets_dict_delitem_pairs (mixKind X.prog X.w) a (kV_is ry)) ⟨vs, dd, by rw [← rel.length]; exact z, by rw [← (rel.val k).isSome_eq]; exact l, fun h' dd' hs => h _ ?_⟩)
  have he : ∃ q, h'.get? a = some q := let ⟨q, _, _, hq, _⟩ := dd'; ⟨q, hq⟩
  exact d_write I (by rw [e]; exact True.intro) hs he (dk_new (Nat.le_trans (dropK_le kvs k) z) hd (rel.drop k) dd')
/-- d.pop(k[, x]), there -/
theorem d_pop {v : V} {more : List Value} {Q : Value → Shared → Prop} (I : Inv X pins σ H s) (e : H a = some (.dK kvs)) (ry : RelV (kV k) u) (l : valV kvs k = some v) (hm : more = [] ∨ ∃ x, more = [x])
    (h : ∀ w' s', Inv X pins σ (upd H a (.dK (dropK kvs k))) s' → RelV v w' → Q w' s') : wpAny (model X.prog X.w) A (call (.builtin "dict.pop") (.ref a :: u :: more)) Q E s := by
  obtain ⟨z, hd, vs, rel, dd⟩ := dk_of I.hok e
  obtain ⟨w', hw, rw'⟩ := RelO.some_of (v := v) (o := valueAt vs k) (by rw [← l]; exact rel.val k)
  have hp : (keyPart u).isSome = true := by
    cases k with
    | inl i => obtain ⟨t, q⟩ := (show ∃ t, u = Value.int i t from ry); subst q; rfl
    | inr x => obtain ⟨t, q⟩ := (show ∃ t, u = Value.str x t from ry); subst q; rfl
  have ha : argsOk "dict.pop" ⟨.ref a :: u :: more, []⟩ := by
    rcases hm with q | ⟨x, q⟩
    · subst q; exact PySem.F.args_dict_pop_2 _ _
    · subst q; exact PySem.F.args_dict_pop_3 _ _ _
  refine call_meetsIn PySem.F.slot_dict_pop dd.typeIs PySem.F.entry_dict_pop ha (meets_dict_pop_there (mixKind X.prog X.w) a (kV_is ry) more hm hp)
    ⟨vs, w', dd, by rw [← rel.length]; exact z, hw, fun h' dd' hs => h w' _ ?_ rw'⟩
  have he : ∃ q, h'.get? a = some q := let ⟨q, _, _, hq, _⟩ := dd'; ⟨q, hq⟩
  exact d_write I (by rw [e]; exact True.intro) hs he (dk_new (Nat.le_trans (dropK_le kvs k) z) hd (rel.drop k) dd')
/-- d.pop(k, x), not there -/
theorem d_popD {r : Value} {Q : Value → Shared → Prop} (I : Inv X pins σ H s) (e : H a = some (.dK kvs)) (ry : RelV (kV k) u) (l : valV kvs k = none) (h : ∀ s', Inv X pins σ H s' → Q r s') :
    wpAny (model X.prog X.w) A (call (.builtin "dict.pop") [.ref a, u, r]) Q E s := by
  obtain ⟨z, hd, vs, rel, dd⟩ := dk_of I.hok e
  have hn : valueAt vs k = none := RelO.none_of (by rw [← l]; exact rel.val k)
  have hp : (keyPart u).isSome = true := by
    cases k with
    | inl i => obtain ⟨t, q⟩ := (show ∃ t, u = Value.int i t from ry); subst q; rfl
    | inr x => obtain ⟨t, q⟩ := (show ∃ t, u = Value.str x t from ry); subst q; rfl
  exact call_meetsIn PySem.F.slot_dict_pop dd.typeIs PySem.F.entry_dict_pop (PySem.F.args_dict_pop_3 _ _ _) (meets_dict_pop_default (mixKind X.prog X.w) a (kV_is ry) hd hp r) ⟨vs, dd, hn, h _ (I.tok _)⟩
/-- d.clear() -/
theorem d_clear {Q : Value → Shared → Prop} (I : Inv X pins σ H s) (e : H a = some (.dK kvs)) (h : ∀ s', Inv X pins σ (upd H a (.dK [])) s' → Q .none s') : wpAny (model X.prog X.w) A (call (.builtin "dict.clear") [.ref a]) Q E s := by
  obtain ⟨z, hd, vs, rel, dd⟩ := dk_of I.hok e
  refine call_meetsIn PySem.F.slot_dict_clear dd.typeIs PySem.F.entry_dict_clear (PySem.F.args_dict_clear_1 _) (meets_dict_clear (mixKind X.prog X.w) a) ⟨vs, dd, by rw [← rel.length]; exact z, fun h' dd' hs => h _ ?_⟩
  have he : ∃ q, h'.get? a = some q := let ⟨q, _, _, hq, _⟩ := dd'; ⟨q, hq⟩
  exact d_write (t' := s.toks) I (by rw [e]; exact True.intro) hs he (dk_new (Nat.zero_le _) hd .nil dd')
/-- len(d) -/
theorem d_len {Q : Value → Shared → Prop} (I : Inv X pins σ H s) (e : Rd H a (.dK kvs)) (h : ∀ t s', Inv X pins σ H s' → Q (.int kvs.length t) s') : wpAny (model X.prog X.w) A (call (.builtin "len") [.ref a]) Q E s := by
  obtain ⟨z, hd, vs, rel, dd⟩ := dk_rd I.hok e
  refine call_len_dict hd dd (by rw [← rel.length]; rw [sizeLine_eq] at z; omega) ?_
  rw [← rel.length]
  exact h _ _ (I.tok _)
/-- if d -/
theorem d_truth {Q : Bool → Shared → Prop} (I : Inv X pins σ H s) (e : Rd H a (.dK kvs)) (h : ∀ s', Inv X pins σ H s' → Q (!kvs.isEmpty) s') : wpAny (model X.prog X.w) A (truthy (.ref a)) Q E s := by
  obtain ⟨z, hd, vs, rel, dd⟩ := dk_rd I.hok e
  refine wpAny_truthy_dict hd dd (by rw [← rel.length]; rw [sizeLine_eq] at z; omega) ?_
  have q : kvs.isEmpty = vs.isEmpty := by cases rel <;> rfl
  rw [← q]
  exact h _ (I.tok _)
end


/-! ### readings and rules -/
/-- the element of a subscription, not a slice -/
def NoSl (i : Expr) : Prop := ∀ ov iv, subscripted i false ov iv = operate [ov, iv] (getItem ov iv)
theorem subD_of {prog : Program} {w : World} {A : Around} {E : Value → Shared → Prop} {s : Shared} {env : Env} {value slice : Expr} {pos : Pos} {T id : String} {Q : Value → Shared → Prop}
    (hl : typeLookup (.type T) "__getitem__" = pure (some (.builtin id))) (hs : NoSl slice)
    (h : wpAny (model prog w) A (eval value env) (fun o s₁ => wpAny (model prog w) A (eval slice env) (fun i s₂ => s₂.TypeIs o T ∧ wpAny (model prog w) A (getItem o i) Q E s₂) E s₁) E s) :
    wpAny (model prog w) A (eval (.Subscript value slice pos) env) Q E s := by
  refine Subscript_ (wpAny_mono h (fun o s₁ h₁ => wpAny_mono h₁ (fun i s₂ h₂ => ?_) fun _ _ x => x) fun _ _ x => x)
  obtain ⟨hT, h₂⟩ := h₂
  unfold subscriptTail
  refine wpAny_bind ?_
  rw [getitemInPython_of_ne hT.not_modules]
  refine wpAny_bind (wpAny_specialOf hT hl ?_)
  have fin : wpAny (model prog w) A (subscripted slice false o i) (fun r s₃ => wpAny (model prog w) A (letTemporaryGo value o r >>= fun _ => pure r) Q E s₃) E s₂ := by
    rw [hs o i]
    exact wpAny_operating (wpAny_mono h₂ (fun r s₃ h₃ => wpAny_bind (wpAny_letTemporaryGo (wpAny_pure h₃))) fun _ _ x => x)
  first
    | exact wpAny_pure (wpAny_bind fin)
    | exact wpAny_bind (wpAny_pure (wpAny_bind fin))
    | exact wpAny_bind fin

theorem dict_typeIs {X : Cx} {pins : List (Addr × Obj)} {σ : St} {H : Hp} {s : Shared} {a : Addr} {y : V} {o : Option V} (I : Inv X pins σ H s) (g : DGet H a y o) : s.TypeIs (.ref a) "dict" := by
  rcases g with ⟨kvs, k, e, _, _⟩ | ⟨kvs, k, b, e, _, _, _⟩
  · obtain ⟨_, _, vs, _, dd⟩ := dk_rd I.hok e
    exact dd.typeIs
  · obtain ⟨_, _, xs, _, dd⟩ := dt_rd I.hok e
    exact dd.typeIs
theorem dict_noDict {X : Cx} {pins : List (Addr × Obj)} {σ : St} {H : Hp} {s : Shared} {a : Addr} {y : V} {o : Option V} (I : Inv X pins σ H s) (g : DGet H a y o) :
    ∀ b, Value.ref a = .ref b → ∃ ob, s.heap.get? b = some ob ∧ ob.dict = none := fun b q => by
  cases q
  rcases g with ⟨kvs, k, e, _, _⟩ | ⟨kvs, k, b, e, _, _, _⟩
  · obtain ⟨_, _, vs, _, ob, _, _, h1, h2, _⟩ := dk_rd I.hok e
    exact ⟨ob, h1, h2.2.1⟩
  · obtain ⟨_, _, xs, _, ob, _, _, h1, h2, _⟩ := dt_rd I.hok e
    exact ⟨ob, h1, h2.2.1⟩

/-- d[y] -/
def tDGet (td ty : TE) : TE := fun σ H Q => td σ H fun x H1 => ty σ H1 fun y H2 => ∃ a v, x = .ref a ∧ DGet H2 a y (some v) ∧ Q v H2
/-- y in d, y not in d -/
def tDIn (ty td : TE) : TE := fun σ H Q => ty σ H fun y H1 => td σ H1 fun x H2 => ∃ a o, x = .ref a ∧ DGet H2 a y o ∧ Q (.bl o.isSome) H2
def tDNotIn (ty td : TE) : TE := fun σ H Q => ty σ H fun y H1 => td σ H1 fun x H2 => ∃ a o, x = .ref a ∧ DGet H2 a y o ∧ Q (.bl (!o.isSome)) H2
/-- d[y] = v -/
def sDPut (td ty tv : TE) : TS := fun D σ H => tv σ H fun v H1 => td σ H1 fun x H2 => ty σ H2 fun y H3 => ∃ a H4, x = .ref a ∧ DPut H3 a y v H4 ∧ D.nx σ H4
/-- d[y] op= v -/
def sDAug (td ty tv : TE) (rd : V → V → Hp → VK → Prop) : TS := fun D σ H => td σ H fun x H1 => ty σ H1 fun y H2 => ∃ a v, x = .ref a ∧ DGet H2 a y (some v) ∧
  tv σ H2 fun y2 H3 => rd v y2 H3 fun z H4 => ∃ H5, DPut H4 a y z H5 ∧ D.nx σ H5
/-- del d[y] -/
def sDDel (td ty : TE) : TS := fun D σ H => td σ H fun x H1 => ty σ H1 fun y H2 => ∃ a kvs k, x = .ref a ∧ H2 a = some (.dK kvs) ∧ y = kV k ∧ (valV kvs k).isSome = true ∧ D.nx σ (upd H2 a (.dK (dropK kvs k)))

section
variable {X : Cx} {o i e value : Expr} {pos pos' tpos : Pos} {td ty tv : TE}
theorem pe_dget (hu : X.A.units + 1 < cLine) (ho : PE X o td) (hi : PE X i ty) (hs : NoSl i) : PE X (.Subscript o i pos) (tDGet td ty) := by
  intro pins s σ H Q I h
  refine subD_of PySem.F.slot_dict_getitem.lookup hs (thn (ho pins s σ H _ I h) fun u s1 ⟨x, H1, I1, rx, q1⟩ => thn (hi pins s1 σ H1 _ I1 q1) fun iv s2 ⟨y, H2, I2, ry, a, v, ex, g, q2⟩ => ?_)
  subst ex
  obtain rfl : u = Value.ref a := rx
  exact ⟨dict_typeIs I2 g, d_getItem hu I2 g ry fun w' s3 I3 rw' => ⟨v, H2, I3, rw', q2⟩⟩
theorem pc_din (hu : X.A.units + 1 < cLine) (hi : PE X i ty) (ho : PE X o td) : PC X .In i o (tDIn ty td) := by
  intro pins s σ H Q I h
  refine thn (hi pins s σ H _ I h) fun iv s1 ⟨y, H1, I1, ry, q1⟩ => thn (ho pins s1 σ H1 _ I1 q1) fun u s2 ⟨x, H2, I2, rx, a, ov, ex, g, q2⟩ => ?_
  subst ex
  obtain rfl : u = Value.ref a := rx
  exact d_in hu I2 g ry fun s3 I3 => ⟨.bl ov.isSome, H2, I3, rfl, q2⟩
theorem pc_dnotin (hu : X.A.units + 1 < cLine) (hi : PE X i ty) (ho : PE X o td) : PC X .NotIn i o (tDNotIn ty td) := by
  intro pins s σ H Q I h
  refine thn (hi pins s σ H _ I h) fun iv s1 ⟨y, H1, I1, ry, q1⟩ => thn (ho pins s1 σ H1 _ I1 q1) fun u s2 ⟨x, H2, I2, rx, a, ov, ex, g, q2⟩ => ?_
  subst ex
  obtain rfl : u = Value.ref a := rx
  exact d_notIn hu I2 g ry fun s3 I3 => ⟨.bl (!ov.isSome), H2, I3, rfl, q2⟩
theorem ps_dput (hu : X.A.units + 1 < cLine) (ho : PE X o td) (hi : PE X i ty) (hv : PE X value tv) (hs : swapsWith value (some (.Subscript o i pos')) pos.line X.env = pure false) :
    PS X (.Assign [.Subscript o i pos'] value pos) (sDPut td ty tv) := by
  intro pins s σ H D I h
  refine wpAny_Assign_Subscript (thn (hv pins s σ H _ I h) fun r s1 ⟨v, H1, I1, rv, q1⟩ => thn (ho pins s1 σ H1 _ I1 q1) fun u s2 ⟨x, H2, I2, rx, q2⟩ => thn (hi pins s2 σ H2 _ I2 q2) fun iv s3 ⟨y, H3, I3, ry, a, H4, ex, g, q3⟩ => ?_) hs
  subst ex
  obtain rfl : u = Value.ref a := rx
  exact d_setItem hu I3 g ry rv fun s4 I4 => ⟨σ, H4, I4, q3⟩
theorem ps_daug {op : Operator} {rd : V → V → Hp → VK → Prop} (hu : X.A.units + 1 < cLine) (ho : PE X o td) (hi : PE X i ty) (hv : PE X value tv) (hop : InOp X op rd)
    (ha : ∀ ov iv new, augStore i ov iv new = (do holding [new, ov, iv] (setItem ov iv new); release [new, ov, iv] []; pure .next)) : PS X (.AugAssign (.Subscript o i tpos) op value pos) (sDAug td ty tv rd) := by
  intro pins s σ H D I h
  refine wpAny_AugAssign_SubscriptAny (thn (ho pins s σ H _ I h) fun u s1 ⟨x, H1, I1, rx, q1⟩ => thn (hi pins s1 σ H1 _ I1 q1) fun iv s2 ⟨y, H2, I2, ry, a, v, ex, g, q2⟩ => ?_) ha
  subst ex
  obtain rfl : u = Value.ref a := rx
  refine d_getItem hu I2 g ry fun w' s3 I3 rw' => thn (hv pins s3 σ H2 _ I3 q2) fun w2 s4 ⟨y2, H3, I4, ry2, q3⟩ => thn (hop pins s4 σ H3 v y2 w' w2 _ I4 rw' ry2 q3) fun w3 s5 ⟨z, H4, I5, rz, H5, g5, q4⟩ => ?_
  exact d_setItem hu I5 g5 ry rz fun s6 I6 => ⟨σ, H5, I6, q4⟩
theorem ps_ddel (ho : PE X o td) (hi : PE X i ty) : PS X (.Delete [.Subscript o i tpos] pos) (sDDel td ty) := by
  intro pins s σ H D I h
  refine wpAny_Delete (wpAny_deleteEach_cons (wpAny_delete_Subscript (thn (ho pins s σ H _ I h) fun u s1 ⟨x, H1, I1, rx, q1⟩ => thn (hi pins s1 σ H1 _ I1 q1) fun iv s2 ⟨y, H2, I2, ry, a, kvs, k, ex, e, ey, l, q2⟩ => ?_)))
  subst ex ey
  obtain rfl : u = Value.ref a := rx
  exact d_delItem I2 e ry l fun s3 I3 => wpAny_deleteEach_nil ⟨σ, _, I3, q2⟩
end


/-! ### displays -/
theorem dk_empty {P : Program} {w : World} {H : Hp} (h : Heap) (hb : sysModules < h.objs.size) : ObjOk P w H (h.push { cls := .type "dict", data := .dict #[] }) h.objs.size (.dK []) :=
  ⟨Nat.zero_le _, beq_eq_false_iff_ne.mpr (Ne.symm (Nat.ne_of_lt hb)), [], .nil, Heap.DictOf.new h⟩
theorem dt_empty {P : Program} {w : World} {H : Hp} (h : Heap) (hb : sysModules < h.objs.size) : ObjOk P w H (h.push { cls := .type "dict", data := .dict #[] }) h.objs.size (.dT []) :=
  ⟨Nat.zero_le _, beq_eq_false_iff_ne.mpr (Ne.symm (Nat.ne_of_lt hb)), [], .nil, _, #[], 0, Heap.get?_push_size _ rfl, ⟨rfl, rfl, rfl⟩, rfl, rfl, List.nodup_nil⟩
/-- {}, to be a dict of the kind that is wanted -/
def tDNewK : TE := fun _ H Q => ∀ p, H p = none → Q (.ref p) (upd H p (.dK []))
def tDNewT : TE := fun _ H Q => ∀ p, H p = none → Q (.ref p) (upd H p (.dT []))
section
variable {X : Cx} {pos : Pos}
theorem pe_dnewK : PE X (.Dict [] [] pos) tDNewK := fun pins s σ H Q I h =>
  wpAny_Dict_empty ⟨.ref s.heap.objs.size, _, I.laid (a := s.heap.objs.size) (o := .dK []) (t' := s.toks) (fun _ _ q => Heap.get?_push_of_some _ q) (Nat.le_refl _) (dk_empty s.heap I.big), rfl, h _ (I.hok.fresh (Nat.le_refl _))⟩
theorem pe_dnewT : PE X (.Dict [] [] pos) tDNewT := fun pins s σ H Q I h =>
  wpAny_Dict_empty ⟨.ref s.heap.objs.size, _, I.laid (a := s.heap.objs.size) (o := .dT []) (t' := s.toks) (fun _ _ q => Heap.get?_push_of_some _ q) (Nat.le_refl _) (dt_empty s.heap I.big), rfl, h _ (I.hok.fresh (Nat.le_refl _))⟩
end
end L2


namespace L2
open PySem
section
variable {prog : Program} {w : World} {A : Around} {R : Result → Shared → Prop} {s : Shared}
/-- the turns of a list comprehension of one clause with one test -/
theorem comp_turnsF {elt target iter cond : Expr} {scope : Scope} {pos : Pos} {it acc : Value} {env : Env} (Wd : Nat → Shared → Prop)
    (turn : ∀ n s, Wd n s → wpAny (model prog w) A (pyNext it) (fun r s1 => match r with
      | none => R (.ok .next) s1
      | some v => wpAny (model prog w) A (letOwnedTupleGo target it v) (fun _ s2 => wpAny (model prog w) A (assign target env v) (fun _ s3 => wpAny (model prog w) A (isTrue cond env (eval cond env)) (fun ok s4 =>
          if ok = true then wpAny (model prog w) A (eval elt env) (fun x s5 => wpAny (model prog w) A (call (.builtin "list.append") [acc, x]) (fun _ s6 => ∃ m, m < n ∧ Wd m s6) (fun _ _ => False) s5) (fun _ _ => False) s4
          else ∃ m, m < n ∧ Wd m s4) (fun _ _ => False) s3) (fun _ _ => False) s2) (fun _ _ => False) s1) (fun _ _ => False) s)
    (n : Nat) (h : Wd n s) : codeAny (model prog w) A (.compLoop (.ListComp elt [⟨target, iter, [cond], 0⟩] scope pos) 0 it acc env) R s := by
  refine codeAny_loop rfl Wd (fun n s hI => ?_) n h
  show wpAny _ _ (Sem.onRaise (compTurn (.ListComp elt [⟨target, iter, [cond], 0⟩] scope pos) 0 it acc env) _) _ _ s
  refine wpAny_noted ?_
  rw [compTurn_list]
  refine wpAny_bind (wpAny_standAt (wpAny_bind (wpAny_mono (turn n s hI) (fun r s1 h1 => ?_) fun _ _ z => False.elim z)))
  cases r with
  | none => exact wpAny_pure h1
  | some v =>
    refine wpAny_bind (wpAny_mono h1 (fun _ s2 h2 => ?_) fun _ _ z => False.elim z)
    refine wpAny_bind (wpAny_mono h2 (fun _ s3 h3 => ?_) fun _ _ z => False.elim z)
    refine wpAny_bind (wpAny_tests_one (wpAny_mono h3 (fun ok s4 h4 => ?_) fun _ _ z => False.elim z))
    cases ok with
    | false => exact wpAny_pure ⟨rfl, h4⟩
    | true => exact wpAny_bind (wpAny_bind (wpAny_mono h4 (fun x s5 h5 => wpAny_bind (wpAny_mono h5 (fun _ s6 h6 => wpAny_pure (wpAny_pure ⟨rfl, h6⟩)) fun _ _ z => False.elim z)) fun _ _ z => False.elim z))
end
end L2
namespace L2
open PySem PySem.Spec PyProof.Rows
def CompGoF (J : It) (g : TG) (tc : TT) (te : TE) (Q : VK) (σ0 : St) (H0 : Hp) : Prop := ∃ W : Nat → Nat → List V → St → Hp → Prop, (∃ m, W 0 m [] σ0 H0) ∧ ∀ i m ys σ1 H, W i m ys σ1 H →
  (J.stop i H ∧ ∀ p, H p = none → Q (.ref p) (upd H p (.lst ys))) ∨ (J.go i H ∧ ys.length < sizeLine ∧ ∃ (N : V → St → Hp → Prop) (N0 : St → Hp → Prop), (∀ y σ' H', N y σ' H' → ∃ m', m' < m ∧ W (i + 1) m' (ys ++ [y]) σ' H') ∧ (∀ σ' H', N0 σ' H' → ∃ m', m' < m ∧ W (i + 1) m' ys σ' H') ∧
        ∀ x H', J.yld i H x H' → g x σ1 H' fun σ2 H2 => tc σ2 H2 fun b H3 => if b = true then te σ2 H3 fun y H4 => N y σ2 H4 else N0 σ2 H3)
def tCompF (own : List Str) (caps : List (Nat × Str)) (wi : TI) (g : TG) (tc : TT) (te : TE) : TE := fun σ H Q => wi σ H fun J H1 => CompGoF J g tc te Q (blkSt own caps σ) H1
section
variable {X : Cx} {scope : Scope} {own : List Str} {caps : List (Nat × Str)} {elt tg iter cond : Expr} {wi : TI} {g : TG} {tc : TT} {te : TE} {pos : Pos}
/-- the block from its list on: behind it, what RR wants -/
theorem comp_coreF {pins : List (Addr × Obj)} {σ : St} {H2 : Hp} {s2 : Shared} {it : Addr} {fp : List Addr} {tn : Nat → Heap → Prop} {J : It} {W : Nat → Nat → List V → St → Hp → Prop} {m0 : Nat} {Q : VK} {E : Value → Shared → Prop} {RR : Value → Addr → Result → Shared → Prop}
    (B : BlkOk X scope own caps) (hc : X.calm = true) (hg : ∀ C s₀ H₀ ex, PG (blockCx X scope (blkN own caps) C s₀ H₀ ex) tg g) (ht : ∀ C s₀ H₀ ex, PT (blockCx X scope (blkN own caps) C s₀ H₀ ex) cond tc) (he : ∀ C s₀ H₀ ex, PE (blockCx X scope (blkN own caps) C s₀ H₀ ex) elt te)
    (I2 : Inv X pins σ H2 s2) (T : Turn X.prog X.w X.K tg J fp it tn) (st2 : tn 0 s2.heap) (f2 : ∀ b ∈ fp, FpOk X pins H2 b) (w0 : W 0 m0 [] (blkSt own caps σ) H2)
    (turn : ∀ i m ys σ1 H, W i m ys σ1 H → (J.stop i H ∧ ∀ p, H p = none → Q (.ref p) (upd H p (.lst ys))) ∨
      (J.go i H ∧ ys.length < sizeLine ∧ ∃ (N : V → St → Hp → Prop) (N0 : St → Hp → Prop), (∀ y σ' H', N y σ' H' → ∃ m', m' < m ∧ W (i + 1) m' (ys ++ [y]) σ' H') ∧ (∀ σ' H', N0 σ' H' → ∃ m', m' < m ∧ W (i + 1) m' ys σ' H') ∧
        ∀ x H', J.yld i H x H' → g x σ1 H' fun σ2 H2 => tc σ2 H2 fun b H3 => if b = true then te σ2 H3 fun y H4 => N y σ2 H4 else N0 σ2 H3))
    (hRR : ∀ D C s6 H6 ys m, s6.heap.Ns C m → s2.heap.objs.size ≤ C → (∀ h', Heap.SameBut C s6.heap h' → Inv X pins σ (upd H6 D (.lst ys)) { s6 with heap := h' }) → upd H6 D (.lst ys) C = none → Q (.ref D) (upd H6 D (.lst ys)) → RR (.ref D) C (.ok .next) s6) :
    wpAny (model X.prog X.w) X.A (newList []) (fun acc s3 => wpAny (model X.prog X.w) X.A (newFunctionEnv scope X.env.globals (closeOf scope X.env) [] X.env.qual none .none (some X.env)) (fun cenv s4 =>
      codeAny (model X.prog X.w) X.A (.compStart (.ListComp elt [⟨tg, iter, [cond], 0⟩] scope pos) 0 (.ref it) acc { cenv with scope := relabel scope X.env }) (RR acc cenv.locals) s4) E s3) E s2 := by
  have hlt : ∀ b ∈ fp, b < s2.heap.objs.size := fun b hb => by
    obtain ⟨o, ho, _⟩ := T.obj _ _ st2 b hb
    exact Heap.lt_size ho
  refine wpAny_newObj_type (wpAny_newFunctionEnv B.ncell (fun y hy => by simp at hy) (fun h4 hns hsb => ?_) B.kind)
  dsimp only at hns hsb ⊢
  generalize hP : s2.heap.push { cls := .type "list", dict := none, data := .seq ([] : List Value).toArray } = HD at hns hsb ⊢
  have hCD : HD.objs.size = s2.heap.objs.size + 1 := by rw [← hP, Heap.size_push]
  have hDC : s2.heap.objs.size ≠ HD.objs.size := by omega
  have hle : s2.heap.objs.size ≤ HD.objs.size := by omega
  have old : ∀ b o, s2.heap.get? b = some o → h4.get? b = some o := fun b o eb => by
    have hb := Heap.lt_size eb
    exact hsb.extBut b o (Nat.ne_of_lt (Nat.lt_of_lt_of_le hb hle)) (Heap.get?_push_of_some _ (by rw [← hP]; exact Heap.get?_push_of_some _ eb))
  have hD4 : h4.get? s2.heap.objs.size = some { cls := .type "list", data := .seq ([] : List Value).toArray 0 } :=
    hsb.extBut _ _ hDC (Heap.get?_push_of_some _ (by rw [← hP]; exact Heap.get?_push_size _ rfl))
  have IY : Inv (blockCx X scope (blkN own caps) HD.objs.size s2 H2 fp) [] (blkSt own caps σ) H2 { s2 with heap := h4, toks := s2.toks + ([] : List (Str × Value)).length } :=
    blk_inv B I2 f2 (by omega) hlt hns old rfl I2.bare
  -- what stays true of the iterator's objects and of the list
  have stat : ∀ {H' : Hp}, (∀ b ∈ fp, H' b = none) → ∀ b ∈ fp, FpOk (blockCx X scope (blkN own caps) HD.objs.size s2 H2 fp) [] H' b := fun {H'} hn b hb => by
    have hb2 := hlt b hb
    refine ⟨hn b hb, ?_, fun z => ?_, .inl hb, fun x c ec => (f2 b hb).2.2.2.2.1 x c (close_look B.free ec).1, fun p hp => by simp at hp⟩
    · exact Nat.ne_of_lt (Nat.lt_of_lt_of_le hb2 hle)
    · rcases List.mem_cons.mp (I2.stkSub b z) with e | z
      · exact (f2 b hb).2.1 e
      · exact (f2 b hb).2.2.1 z
  have statD : ∀ {H' : Hp}, H' s2.heap.objs.size = none → FpOk (blockCx X scope (blkN own caps) HD.objs.size s2 H2 fp) [] H' s2.heap.objs.size := fun {H'} hn => by
    refine ⟨hn, hDC, fun z => ?_, .inr (Nat.le_refl _), fun x c ec z => ?_, fun p hp => by simp at hp⟩
    · obtain ⟨_, o, ho, _⟩ := I2.stack.mem z
      exact absurd (Heap.lt_size ho) (Nat.lt_irrefl _)
    · obtain ⟨v, o, ho, _⟩ := I2.cell x c (close_look B.free ec).1
      rw [z] at ho
      exact absurd (Heap.lt_size ho) (Nat.lt_irrefl _)
  have neD : ∀ b ∈ fp, b ≠ s2.heap.objs.size := fun b hb => Nat.ne_of_lt (hlt b hb)
  have IY' : Inv (blockCx X scope (blkN own caps) HD.objs.size s2 H2 fp) [(s2.heap.objs.size, lobj [] 0)] (blkSt own caps σ) H2 { s2 with heap := h4, toks := s2.toks + ([] : List (Str × Value)).length } :=
    IY.pins_of fun p hp => by
      rw [List.mem_singleton.mp hp]
      have z := statD (I2.hok.fresh (Nat.le_refl _))
      exact ⟨hD4, z.1, z.2.1, z.2.2.1, fun v z => by cases z⟩
  have loop : ∀ s3 : Shared, s3 = { s2 with heap := h4, toks := s2.toks + ([] : List (Str × Value)).length } →
      codeAny (model X.prog X.w) X.A (.compLoop (.ListComp elt [⟨tg, iter, [cond], 0⟩] scope pos) 0 (.ref it) (.ref s2.heap.objs.size) (compEnvC scope (closeOf scope X.env) HD.objs.size X.env))
        (RR (.ref s2.heap.objs.size) HD.objs.size) s3 := by
    rintro s3 rfl
    refine comp_turnsF (fun n s' => ∃ i ys σ' H' its k, Inv (blockCx X scope (blkN own caps) HD.objs.size s2 H2 fp) [(s2.heap.objs.size, lobj its k)] σ' H' s' ∧ tn i s'.heap ∧ (∀ b ∈ fp, H' b = none) ∧
      Vals ys its ∧ ys.length ≤ sizeLine ∧ W i n ys σ' H') ?_ m0 ⟨0, [], _, H2, [], 0, IY', T.keep _ _ _ st2 fun b hb o eb => old b o eb, fun b hb => (f2 b hb).1, .nil, Nat.zero_le _, w0⟩
    rintro n s5 ⟨i, ys, σ5, H5, its, k, I5, st5, fr5, rv5, hz5, w5⟩
    have stat5 : ∀ {H' : Hp}, (∀ b ∈ fp, H' b = none) → ∀ b ∈ fp, FpOk (blockCx X scope (blkN own caps) HD.objs.size s2 H2 fp) [(s2.heap.objs.size, lobj its k)] H' b := fun {H'} hn b hb => by
      obtain ⟨a1, a2, a3, a4, a5, _⟩ := stat hn b hb
      refine ⟨a1, a2, a3, a4, a5, fun p hp => ?_⟩
      have hp' : p ∈ [(s2.heap.objs.size, lobj its k)] := hp
      rw [List.mem_singleton.mp hp']
      exact Ne.symm (neD b hb)
    rcases turn i n ys σ5 H5 w5 with ⟨stop, qn⟩ | ⟨go, hlen, N, N0, hN, hN0, step⟩
    · refine thn (T.done (blockCx X scope (blkN own caps) HD.objs.size s2 H2 fp) rfl rfl rfl hc i _ s5 σ5 H5 _ I5 (stat5 fr5) st5 stop) fun r s6 ⟨hr, I6⟩ => ?_
      subst hr
      obtain ⟨pD1, pD2, _⟩ := I6.pin (s2.heap.objs.size, lobj its k) (List.mem_append_right _ List.mem_cons_self)
      obtain ⟨m6, hn6, _⟩ := I6.loc
      refine hRR _ _ s6 H5 ys m6 hn6 (by omega) (fun h' sb => ?_) (by rw [upd_ne (Ne.symm hDC)]; exact I6.free) (qn _ pD2)
      have hC5 : H5 HD.objs.size = none := I6.free
      have nb : ∀ b o, s2.heap.get? b = some o → b ≠ HD.objs.size ∧ b ≠ s2.heap.objs.size := fun b o eb => by
        have hb := Heap.lt_size eb
        exact ⟨Nat.ne_of_lt (Nat.lt_of_lt_of_le hb hle), Nat.ne_of_lt hb⟩
      have nt : ∀ b o, H5 b = some o → b ≠ s2.heap.objs.size := fun b o eb z => by rw [z] at eb; rw [show H5 s2.heap.objs.size = none from pD2] at eb; cases eb
      have un : Un (frs X.stack) fp H2 (upd H5 s2.heap.objs.size (.lst ys)) s2.heap h' :=
        ⟨fun b o eb n1 n2 n3 => sb.extBut b o (nb b o eb).1 (I6.base.keep b o eb n1 n2 n3),
          fun b o eb n1 n2 n3 => by
            obtain ⟨sl, e1⟩ := I6.base.slot b o eb n1 n2 n3
            exact ⟨sl, sb.extBut b _ (nb b o eb).1 e1⟩,
          fun b o eb n1 n3 => by
            rw [upd_ne (nb b o eb).2]
            exact I6.base.free b o eb n1 n3,
          fun b o eb n3 => by
            obtain ⟨o', e1⟩ := I6.base.there b o eb n3
            exact ⟨o', sb.extBut b _ (nb b o eb).1 e1⟩,
          fun b xs eb => by
            have e1 := I6.base.tups b xs eb
            rw [upd_ne (nt b _ e1)]
            exact e1,
          fun b o u eb => by
            have e1 := I6.base.frzs b o u eb
            rw [upd_ne (nt b _ e1)]
            exact e1,
          fun b ps eb => by
            obtain ⟨more, e1⟩ := I6.base.tbls b ps eb
            refine ⟨more, ?_⟩
            rw [upd_ne (nt b _ e1)]
            exact e1⟩
      have ok5 : HOk X.prog X.w (upd H5 s2.heap.objs.size (.lst ys)) h' := fun b u eb => by
        by_cases hb : b = s2.heap.objs.size
        · subst hb
          rw [upd_same] at eb
          cases eb
          exact ⟨hz5, its, k, rv5, sb.extBut _ _ hDC pD1⟩
        · rw [upd_ne hb] at eb
          refine (I6.hok b u eb).stay (fun c v hcv ev => sb.extBut c v ?_ ev) (fun c ec => by rw [upd_ne (nt c _ ec)]; exact ec) fun c xs ec => by rw [upd_ne (nt c _ ec)]; exact ec
          rintro rfl
          rcases hcv with z | z
          · rw [← z, hC5] at eb
            cases eb
          · rw [hC5] at z
            cases z
      exact I2.call' (s' := { s6 with heap := h' }) (ch := fp) I6.os un ok5 I6.bare fun b hb => ⟨(f2 b hb).2.2.2.1, (f2 b hb).2.1, (f2 b hb).2.2.2.2.1, (f2 b hb).2.2.2.2.2⟩
    · refine thn (T.item (blockCx X scope (blkN own caps) HD.objs.size s2 H2 fp) rfl rfl rfl hc i _ s5 σ5 H5 _ I5 (stat5 fr5) st5 go) fun r s6 ⟨u, hr, h6⟩ => ?_
      subst hr
      refine thn h6 fun _ s7 ⟨x, H7, I7, r7, y7, st7, fr7⟩ => ?_
      have I7' := I7.pinned (stat5 fr7) (T.obj _ _ st7)
      refine thn (hg HD.objs.size s2 H2 fp _ s7 σ5 H7 x u _ I7' r7 (step x H7 y7)) fun _ s8 ⟨σ8, H8, I8, q8⟩ => ?_
      refine thn (ht HD.objs.size s2 H2 fp _ s8 σ8 H8 _ I8 q8) fun ok sT ⟨HT, IT, qT⟩ => ?_
      cases ok with
      | false =>
        obtain ⟨m', hm', w9⟩ := hN0 σ8 HT qT
        refine ⟨m', hm', i + 1, ys, σ8, HT, its, k, IT.unpinned, ?_, fun b hb => ?_, rv5, hz5, w9⟩
        · refine T.keep _ _ _ st7 fun b hb o eb => ?_
          exact (IT.pin (b, o) (List.mem_append_right _ (List.mem_append_right _ (mem_pinsAt hb eb)))).1
        · obtain ⟨o, eb, _⟩ := T.obj _ _ st7 b hb
          exact (IT.pin (b, o) (List.mem_append_right _ (List.mem_append_right _ (mem_pinsAt hb eb)))).2.1
      | true =>
        refine thn (he HD.objs.size s2 H2 fp _ sT σ8 HT _ IT qT) fun yv s9 ⟨y, H9, I9, r9, n9⟩ => ?_
        obtain ⟨m', hm', w9⟩ := hN y σ8 H9 n9
        have pD9 := (I9.pin (s2.heap.objs.size, lobj its k) (List.mem_append_right _ (List.mem_append_left _ List.mem_cons_self))).2.1
        have hl : its.length = ys.length := rv5.length.symm
        refine blk_push (Y := blockCx X scope (blkN own caps) HD.objs.size s2 H2 fp) (its := its) (k := k) (pl := pinsAt fp s7.heap) I9 (statD pD9) rfl (by omega) fun h' k' tk keep I' => ?_
        refine ⟨m', hm', i + 1, ys ++ [y], σ8, H9, its ++ [yv], k', I', ?_, fun b hb => ?_, rv5.append (.cons r9 .nil), ?_, w9⟩
        · refine T.keep _ _ _ st7 fun b hb o eb => keep b o (neD b hb) ?_
          exact (I9.pin (b, o) (List.mem_append_right _ (List.mem_append_right _ (mem_pinsAt hb eb)))).1
        · obtain ⟨o, eb, _⟩ := T.obj _ _ st7 b hb
          exact (I9.pin (b, o) (List.mem_append_right _ (List.mem_append_right _ (mem_pinsAt hb eb)))).2.1
        · rw [List.length_append, List.length_singleton]
          omega
  exact codeAny_compStart_list (loop _ rfl) (T.self _ 0 _ _ _ (T.keep _ _ _ st2 fun b hb o eb => old b o eb) (loop _ rfl))
theorem pe_compF (B : BlkOk X scope own caps) (hc : X.calm = true) (hi : PI X tg iter wi) (hg : ∀ C s₀ H₀ ex, PG (blockCx X scope (blkN own caps) C s₀ H₀ ex) tg g)
    (ht : ∀ C s₀ H₀ ex, PT (blockCx X scope (blkN own caps) C s₀ H₀ ex) cond tc) (he : ∀ C s₀ H₀ ex, PE (blockCx X scope (blkN own caps) C s₀ H₀ ex) elt te) (hs : ∀ x, foldedSetIterable iter X.env x = pure x := by intro _; rfl) :
    PE X (.ListComp elt [⟨tg, iter, [cond], 0⟩] scope pos) (tCompF own caps wi g tc te) := by
  intro pins s σ H Q I h
  rw [eval_ListComp]
  refine wpAny_comprehension_free (use := none) rfl hs (closure_is B.free) B.kind B.locs ?_
  refine thn (hi pins s σ H _ I h) fun xv s1 h1 => thn h1 fun itv s2 h2 => ?_
  obtain ⟨it, fp, tn, J, H2, e, I2, T, st2, f2, W, ⟨m0, w0⟩, turn⟩ := h2
  subst e
  refine comp_coreF (RR := fun acc C => compPost (model X.prog X.w) X.A X.xe none (EP X pins σ Q) acc C) B hc hg ht he I2 T st2 f2 w0 turn fun D C s6 H6 ys m hn hC J6 hC6 q => ?_
  exact ⟨m, hn, fun h' sb => ⟨.ref D, _, J6 h' sb, rfl, q⟩⟩
/-- name = [.. for ..] -/
theorem ps_compF {i : Nat} {y : Str} {py spos : Pos} (hN : X.N.Nodup) (hy : X.N[i]? = some y) (hl : X.env.scope.names.lookup y = some .local) (B : BlkOk X scope own caps) (hc : X.calm = true) (hi : PI X tg iter wi) (hg : ∀ C s₀ H₀ ex, PG (blockCx X scope (blkN own caps) C s₀ H₀ ex) tg g)
    (ht : ∀ C s₀ H₀ ex, PT (blockCx X scope (blkN own caps) C s₀ H₀ ex) cond tc) (he : ∀ C s₀ H₀ ex, PE (blockCx X scope (blkN own caps) C s₀ H₀ ex) elt te) (hsw : swapsWith (.ListComp elt [⟨tg, iter, [cond], 0⟩] scope pos) (some (.Name y py)) spos.line X.env = pure true) (hs : ∀ x, foldedSetIterable iter X.env x = pure x := by intro _; rfl) :
    PS X (.Assign [.Name y py] (.ListComp elt [⟨tg, iter, [cond], 0⟩] scope pos) spos) (tAsg (tCompF own caps wi g tc te) (gName i)) := by
  intro pins s σ H D0 I h
  rw [exec_Assign_Name_used _ _ _ _ hsw]
  refine wpAny_bind (wpAny_standAt (wpAny_bind ?_))
  change wpAny _ X.A (do let _ ← comprehension (.ListComp elt [⟨tg, iter, [cond], 0⟩] scope pos) scope X.env _ (newList []) false (eval iter X.env) (some (assign (.Name y py) X.env))) _ _ s
  refine wpAny_bind (wpAny_mono (wpAny_comprehension_free (use := some (assign (.Name y py) X.env)) (Q := fun _ s' => SP X pins D0 .next s') rfl hs (closure_is B.free) B.kind B.locs ?_) (fun _ s' hq => wpAny_pure (wpAny_pure hq)) fun _ _ e => e)
  refine thn (hi pins s σ H _ I h) fun xv s1 h1 => thn h1 fun itv s2 h2 => ?_
  obtain ⟨it, fp, tn, J, H2, e, I2, T, st2, f2, W, ⟨m0, w0⟩, turn⟩ := h2
  subst e
  refine comp_coreF (Q := fun x H1 => D0.nx (σ.set i (some x)) H1) (RR := fun acc C => compPost (model X.prog X.w) X.A X.xe (some (assign (.Name y py) X.env)) (fun _ s' => SP X pins D0 .next s') acc C) B hc hg ht he I2 T st2 f2 w0 turn fun D C s6 H6 ys m hn hC J6 hC6 q => ?_
  have I6 : Inv X pins σ (upd H6 D (.lst ys)) s6 := J6 s6.heap (.refl ..)
  have CL : C ≠ X.env.locals := fun z => by rw [z] at hC; exact absurd (Nat.lt_of_lt_of_le I2.lt hC) (Nat.lt_irrefl _)
  have CC : ∀ x c, X.env.cells.lookup x = some c → c ≠ C := fun x c ec z => by
    obtain ⟨v, o, ho, _⟩ := I2.cell x c ec
    rw [z] at ho
    exact absurd (Nat.lt_of_lt_of_le (Heap.lt_size ho) hC) (Nat.lt_irrefl _)
  have CP : ∀ p ∈ X.pn ++ pins, p.1 ≠ C := fun p hp z => by
    have hl := Heap.lt_size (I2.pin p hp).1
    rw [z] at hl
    exact absurd (Nat.lt_of_lt_of_le hl hC) (Nat.lt_irrefl _)
  change wpAny _ X.A (assign (.Name y py) X.env (.ref D)) _ _ s6
  refine wpAny_assign_Name (store_ok2 I6 hN hy (.inl hl) (v := .ref D) rfl (fun s7 I7 ⟨a, sb, ha⟩ => ?_) (.inr hl))
  have aC : C ≠ a := fun z => by
    rcases ha with e | e
    · exact CL (z.trans e)
    · exact CC _ _ e z.symm
  refine ⟨m, hn.sameBut sb aC, fun h' sb' => ⟨_, _, I7.turned (h' := h') (t' := s7.toks) (it := C) (fun b o hb eb => sb'.extBut b o hb eb) hC6 CL (.inr (Nat.le_trans I2.sz hC)) CC CP, q⟩⟩
end
/-- over a list that stays, with a test -/
theorem comp_listF {K : PySem.W.Frag} {a : Addr} {xs : List V} {g : TG} {tc : TT} {te : TE} {σ0 : St} {H : Hp} {Q : VK} (Pv : Nat → List V → St → Hp → Prop) (h0 : Pv 0 [] σ0 H) (hl : ∀ i ys σ H, i ≤ xs.length → Pv i ys σ H → SqL K H a xs ∧ ys.length ≤ i) (hz : xs.length ≤ sizeLine)
    (hs : ∀ i x ys σ H, xs[i]? = some x → Pv i ys σ H → g x σ H fun σ2 H2 => tc σ2 H2 fun b H3 => if b = true then te σ2 H3 fun y H4 => Pv (i + 1) (ys ++ [y]) σ2 H4 else Pv (i + 1) ys σ2 H3)
    (hd : ∀ ys σ H, Pv xs.length ys σ H → ∀ p, H p = none → Q (.ref p) (upd H p (.lst ys))) :
    CompGoF (Itl K a) g tc te Q σ0 H := by
  refine ⟨fun i m ys σ H => m = xs.length - i ∧ i ≤ xs.length ∧ Pv i ys σ H, ⟨xs.length, by simp, Nat.zero_le _, h0⟩, ?_⟩
  rintro i m ys σ H ⟨rfl, hi, p⟩
  obtain ⟨q, hy⟩ := hl i ys σ H hi p
  by_cases hlt : i < xs.length
  · refine .inr ⟨⟨xs, xs[i], q, by simp [hlt]⟩, by omega, fun y σ' H' => Pv (i + 1) (ys ++ [y]) σ' H', fun σ' H' => Pv (i + 1) ys σ' H', fun y σ' H' z => ⟨xs.length - (i + 1), by omega, rfl, hlt, z⟩, fun σ' H' z => ⟨xs.length - (i + 1), by omega, rfl, hlt, z⟩, fun x H' y => ?_⟩
    obtain ⟨e, y⟩ := y
    subst e
    exact hs i x ys σ _ (y xs q) p
  · have e : i = xs.length := by omega
    subst e
    exact .inl ⟨⟨xs, q, Nat.le_refl _⟩, hd ys σ H p⟩
/-- over a range, with a test -/
theorem comp_rangeF {lo : Int} {n : Nat} {g : TG} {tc : TT} {te : TE} {σ0 : St} {H : Hp} {Q : VK} (Pv : Nat → List V → St → Hp → Prop) (h0 : Pv 0 [] σ0 H) (hl : ∀ i ys σ H, Pv i ys σ H → ys.length ≤ i) (hz : n ≤ sizeLine)
    (hs : ∀ i ys σ H, i < n → Pv i ys σ H → g (.int (lo + i)) σ H fun σ2 H2 => tc σ2 H2 fun b H3 => if b = true then te σ2 H3 fun y H4 => Pv (i + 1) (ys ++ [y]) σ2 H4 else Pv (i + 1) ys σ2 H3)
    (hd : ∀ ys σ H, Pv n ys σ H → ∀ p, H p = none → Q (.ref p) (upd H p (.lst ys))) : CompGoF (Itr lo n) g tc te Q σ0 H := by
  refine ⟨fun i m ys σ H => m = n - i ∧ i ≤ n ∧ Pv i ys σ H, ⟨n, by simp, Nat.zero_le _, h0⟩, ?_⟩
  rintro i m ys σ H ⟨rfl, hi, p⟩
  have hy := hl i ys σ H p
  by_cases hlt : i < n
  · refine .inr ⟨hlt, by omega, fun y σ' H' => Pv (i + 1) (ys ++ [y]) σ' H', fun σ' H' => Pv (i + 1) ys σ' H', fun y σ' H' z => ⟨n - (i + 1), by omega, rfl, hlt, z⟩, fun σ' H' z => ⟨n - (i + 1), by omega, rfl, hlt, z⟩, fun x H' y => ?_⟩
    obtain ⟨e, y⟩ := y
    subst e y
    exact hs i ys σ _ hlt p
  · have e : i = n := by omega
    subst e
    exact .inl ⟨Nat.le_refl _, hd ys σ H p⟩
end L2


/-! ## the pairs of a dict whose keys are tuples, walked -/
namespace L2
open PySem PySem.Spec PyProof.Rows
section
variable {prog : Program} {w : World} {A : Around} {E : Value → Shared → Prop} {s : Shared}
theorem items_view {d : Addr} {Q : Value → Shared → Prop} (hd : (d == sysModules) = false) (hT : s.TypeIs (.ref d) "dict")
    (q : Q (.ref s.heap.objs.size) { s with heap := s.heap.push { cls := .type "dict_items", data := .fields #[.ref d] } }) : wpAny (model prog w) A (call (.builtin "dict.items") [.ref d]) Q E s := by
  refine call_meets (S := fun _ R s => s.TypeIs (.ref d) "dict" ∧ R (.ok (.ret (.ref s.heap.objs.size))) { s with heap := s.heap.push { cls := .type "dict_items", data := .fields #[.ref d] } }) F.slot_dict_items hT F.entry_dict_items (F.args_dict_items_1 _)
    (.of_wp fun prog w A R s ⟨ht, hk⟩ => ?_) ⟨hT, q⟩
  unfold Builtin.«dict.items» Builtin.Dict.noArgs
  refine wpAny_bind (wpAny_bind (wpAny_notOrdered_dict ht ?_))
  show wpAny _ _ (pure d) _ _ s
  refine wpAny_pure ?_
  show wpAny _ _ (Builtin.Dict.showsAll d >>= _) _ _ s
  unfold Builtin.Dict.showsAll
  rw [if_neg (by rw [hd]; exact Bool.false_ne_true)]
  exact wpAny_bind (wpAny_pure (wpAny_bind (wpAny_newObj_type (wpAny_pure ⟨_, rfl, hk⟩))))
theorem items_start {v d : Addr} {od : Obj} {es : Array DictEntry} {ep : Nat} {Q : Value → Shared → Prop} (hv : s.heap.IsItemsView v d) (ho : s.heap.get? d = some od) (hdat : od.data = .dict es ep)
    (q : Q (.ref s.heap.objs.size) { s with heap := s.heap.push { cls := .type "dict_itemiterator", data := .fields #[.none, .bool false, .ref d, .int 0 0, .int es.size 0, .int ep 0, .none, .none] } }) :
    wpAny (model prog w) A (pyIter (.ref v)) Q E s := by
  obtain ⟨vo, hvo, _, vdat⟩ := id hv
  refine wpAny_pyIter_slot hv.typeIs F.slot_dict_items_iter (wpAny_call_entry F.slot_dict_items_iter hv.typeIs F.entry_dict_items_iter ?_ (F.args_dict_items_iter_1 _))
  unfold Builtin.«dict_items.__iter__» Builtin.Dict_items.dictOf Builtin.Dict_items.newIterator
  refine wpAny_bind (wpAny_pure (wpAny_bind (wpAny_bind (wpAny_field hvo vdat (x := .ref d) rfl (wpAny_pure (wpAny_bind (wpAny_bind (wpAny_dictEntries ho hdat (wpAny_bind (wpAny_dictEpoch ho hdat ?_))))))))))
  have owns : Builtin.Dict_items.ownsTuple "dict_itemiterator" = true := by decide
  simp only [owns, if_true]
  refine wpAny_newObj_type (wpAny_pure ⟨_, rfl, "dict_itemiterator", _, ⟨_, Heap.get?_push_size _ rfl, rfl⟩, F.slot_dict_itemiterator_next.lookup, ?_⟩)
    (by simp only [sizeOk, Builtin.Dict_items.ownedTupleFields, List.size_toArray, List.length_append, List.length_cons, List.length_nil, sizeLine_eq]; omega)
  simpa [rawInt, Builtin.Dict_items.ownedTupleFields] using q
theorem items_next {it d : Addr} {i n ep : Nat} {od : Obj} {es : Array DictEntry} {ok ov : Value} {en : DictEntry} {Q : Option Value → Shared → Prop} (hit : IsItemIter s.heap it d i n ep ok ov) (hod : s.heap.get? d = some od) (hdd : od.data = .dict es ep) (hsz : es.size = n) (hx : es[i]? = some en)
    (hQ : ∀ h', IsItemIterOut h' it d (i + 1) n ep en.key en.val s.heap.objs.size → h'.get? s.heap.objs.size = some { cls := .type "tuple", data := .seq #[en.key, en.val] } →
      (∀ b o, b ≠ it → s.heap.get? b = some o → h'.get? b = some o) → Q (some (.ref s.heap.objs.size)) { s with heap := h' }) :
    wpAny (model prog w) A (pyNext (.ref it)) Q E s := by
  obtain ⟨h0, gs, dr, t0, o0⟩ := s
  have ty : Shared.TypeIs ⟨h0, gs, dr, t0, o0⟩ (.ref it) "dict_itemiterator" := ⟨_, hit, rfl⟩
  unfold pyNext
  refine wpAny_bind (wpAny_attempt (wpAny_callSpecial?_slot (name := Str.ofString "__next__") ty F.slot_dict_itemiterator_next (wpAny_call_entry F.slot_dict_itemiterator_next ty F.entry_dict_itemiterator_next ?_ (F.args_dict_itemiterator_next_1 _))))
  refine wpAny_bind (wpAny_pure (wpAny_bind (wpAny_bind ?_)))
  first | refine wpAny_bind (wpAny_typeNameOfWhole_itemiter ty (wpAny_pure ?_)) | refine wpAny_bind (wpAny_typeNameOf_itemiter ty (wpAny_pure ?_))
  refine wpAny_bind (wpAny_fieldsOf hit rfl ?_)
  have owns : Builtin.Dict_items.ownsTuple "dict_itemiterator" = true := by decide
  simp only [owns, if_true]
  show wpAny _ _ (if (Value.ref d == Value.none) = true then _ else _) _ _ _
  rw [if_neg (show ¬ ((Value.ref d == Value.none) = true) from fun z => Bool.false_ne_true z)]
  refine wpAny_bind (wpAny_pure (wpAny_bind (wpAny_dictEntries hod hdd ?_)))
  rw [if_neg (by rw [hsz]; simp)]
  refine wpAny_bind (wpAny_pure (wpAny_bind (wpAny_dictEpoch hod hdd ?_)))
  rw [if_neg (by simp)]
  refine wpAny_pure ?_
  obtain ⟨il, ie⟩ := Array.getElem?_eq_some_iff.mp hx
  simp only [show ¬ ((i : Int) < 0) from by omega, if_false, Int.toNat_natCast, hx]
  refine wpAny_bind ?_
  first | refine wpAny_bind (wpAny_typeNameOfWhole_itemiter ty (wpAny_pure ?_)) | refine wpAny_bind (wpAny_typeNameOf_itemiter ty (wpAny_pure ?_))
  refine wpAny_bind (wpAny_isOneOf_itemiter ty ?_)
  show wpAny _ _ (setField (.ref it) 3 (rawInt ((i : Int) + 1)) >>= _) _ _ _
  refine wpAny_bind (wpAny_setField_rec hit (by simp) fun u1 e1 b1 => ?_)
  replace b1 : Heap.SameBut it h0 u1 := b1
  replace e1 : IsItemIter u1 it d (i + 1) n ep ok ov := by
    have e : ((i + 1 : Nat) : Int) = (i : Int) + 1 := by omega
    unfold IsItemIter
    rw [e]
    simpa [rawInt] using e1
  have ty1 : Shared.TypeIs ⟨u1, gs, dr, t0, o0⟩ (.ref it) "dict_itemiterator" := ⟨_, e1, rfl⟩
  refine wpAny_bind (wpAny_holding (wpAny_bind (wpAny_isOneOf_itemiter ty1 (wpAny_bind (wpAny_isOneOf_itemiter ty1 ?_)))))
  show wpAny _ _ (Builtin.Dict_items.pairFromOwner (.ref it) 6 en.key en.val) _ _ _
  unfold Builtin.Dict_items.pairFromOwner
  refine wpAny_bind (wpAny_newTuple ?_)
  have e2 : IsItemIter (u1.push { cls := .type "tuple", data := .seq #[en.key, en.val] }) it d (i + 1) n ep ok ov := Heap.get?_push_of_some _ e1
  generalize eq2 : u1.push { cls := .type "tuple", data := .seq #[en.key, en.val] } = u2 at e2
  have z1 : u1.objs.size = h0.objs.size := b1.1
  have il0 : it < h0.objs.size := Heap.lt_size hit
  have t2 : u2.get? h0.objs.size = some { cls := .type "tuple", data := .seq #[en.key, en.val] } := by rw [← eq2, ← z1]; exact Heap.get?_push_size _ rfl
  have k2 : ∀ b o, b ≠ it → h0.get? b = some o → u2.get? b = some o := fun b o hb e => by rw [← eq2]; exact Heap.get?_push_of_some _ (b1.extBut b o hb e)
  show wpAny _ _ (Builtin.Dict_items.ownedTupleIsFree (.ref it) >>= _) _ _ ⟨u2, gs, dr, t0, o0⟩
  rw [z1]
  clear eq2 e1 b1 ty1 z1 u1
  unfold Builtin.Dict_items.ownedTupleIsFree
  refine wpAny_bind (wpAny_bind (wpAny_field e2 rfl (x := .none) rfl (wpAny_pure ?_)))
  simp only [if_true]
  refine wpAny_bind (wpAny_field e2 rfl (x := ok) rfl (wpAny_bind (wpAny_field e2 rfl (x := ov) rfl (wpAny_bind (wpAny_setField_rec e2 (by simp) fun u3 e3 b3 => ?_)))))
  replace b3 : Heap.SameBut it u2 u3 := b3
  replace e3 : IsItemIter u3 it d (i + 1) n ep en.key ov := e3
  refine wpAny_bind (wpAny_setField_rec e3 (by simp) fun u4 e4 b4 => ?_)
  replace b4 : Heap.SameBut it u3 u4 := b4
  replace e4 : IsItemIter u4 it d (i + 1) n ep en.key en.val := e4
  refine wpAny_bind (wpAny_setField_rec e4 (by simp) fun u5 e5 b5 => ?_)
  replace b5 : Heap.SameBut it u4 u5 := b5
  replace e5 : IsItemIterOut u5 it d (i + 1) n ep en.key en.val h0.objs.size := e5
  refine wpAny_bind (wpAny_setField_rec e5 (by simp) fun u6 e6 b6 => ?_)
  replace b6 : Heap.SameBut it u5 u6 := b6
  replace e6 : IsItemIterOut u6 it d (i + 1) n ep en.key en.val h0.objs.size := e6
  have far : h0.objs.size ≠ it := Nat.ne_of_gt il0
  refine wpAny_bind (wpAny_letGo (wpAny_pure (wpAny_pure ⟨_, rfl, wpAny_pure (hQ u6 e6 ?_ fun b o hb e => ?_)⟩)))
  · exact b6.extBut _ _ far (b5.extBut _ _ far (b4.extBut _ _ far (b3.extBut _ _ far t2)))
  · exact b6.extBut b o hb (b5.extBut b o hb (b4.extBut b o hb (b3.extBut b o hb (k2 b o hb e))))
theorem items_end {it d : Addr} {i n ep : Nat} {od : Obj} {es : Array DictEntry} {ok ov : Value} {Q : Option Value → Shared → Prop} (hh : A.handled = none) (hit : IsItemIter s.heap it d i n ep ok ov) (hod : s.heap.get? d = some od) (hdd : od.data = .dict es ep) (hsz : es.size = n) (hx : es.size ≤ i)
    (hQ : ∀ h', Heap.ExtBut it s.heap h' → Q none { s with heap := h' }) : wpAny (model prog w) A (pyNext (.ref it)) Q E s := by
  have ty : s.TypeIs (.ref it) "dict_itemiterator" := ⟨_, hit, rfl⟩
  unfold pyNext
  refine wpAny_bind (wpAny_attempt (wpAny_callSpecial?_slot (name := Str.ofString "__next__") ty F.slot_dict_itemiterator_next (wpAny_call_entry F.slot_dict_itemiterator_next ty F.entry_dict_itemiterator_next ?_ (F.args_dict_itemiterator_next_1 _))))
  refine wpAny_bind (wpAny_pure (wpAny_bind (wpAny_bind ?_)))
  first | refine wpAny_bind (wpAny_typeNameOfWhole_itemiter ty (wpAny_pure ?_)) | refine wpAny_bind (wpAny_typeNameOf_itemiter ty (wpAny_pure ?_))
  refine wpAny_bind (wpAny_fieldsOf hit rfl ?_)
  have owns : Builtin.Dict_items.ownsTuple "dict_itemiterator" = true := by decide
  simp only [owns, if_true]
  show wpAny _ _ (if (Value.ref d == Value.none) = true then _ else _) _ _ _
  rw [if_neg (show ¬ ((Value.ref d == Value.none) = true) from fun z => Bool.false_ne_true z)]
  refine wpAny_bind (wpAny_pure (wpAny_bind (wpAny_dictEntries hod hdd ?_)))
  rw [if_neg (by rw [hsz]; simp)]
  refine wpAny_bind (wpAny_pure (wpAny_bind (wpAny_dictEpoch hod hdd ?_)))
  rw [if_neg (by simp)]
  refine wpAny_pure ?_
  simp only [show ¬ ((i : Int) < 0) from by omega, if_false, Int.toNat_natCast, Array.getElem?_eq_none hx]
  refine wpAny_bind ?_
  first | refine wpAny_bind (wpAny_typeNameOfWhole_itemiter ty (wpAny_pure ?_)) | refine wpAny_bind (wpAny_typeNameOf_itemiter ty (wpAny_pure ?_))
  show wpAny _ _ (setField (.ref it) 2 .none >>= _) _ _ _
  refine wpAny_bind (wpAny_setField hit rfl (by simp) ?_)
  show wpAny _ _ (newExc (.type "StopIteration") [] >>= _) _ _ _
  simp only [newExc, newTuple]
  refine wpAny_bind (wpAny_bind (wpAny_newObj_type ?_ (by size_fits)))
  refine wpAny_bind (m := firstArgMember _ _) (wpAny_of_eq (a := Value.none) (by first | rfl | (simp only [firstArgMember]; rfl)) (wpAny_newObj_type ?_ (by size_fits)))
  simp only [raiseNew]
  refine wpAny_bind (wpAny_handled ?_)
  rw [show A.in1.handled = none from hh]
  refine wpAny_bind (wpAny_pure (wpAny_throw ?_))
  refine wpAny_bind (wpAny_isInstance (b := true) (T := "StopIteration") ⟨_, Heap.get?_push_size _ rfl, rfl⟩ isSubtype_stop ?_)
  exact wpAny_pure (hQ _ (((Heap.SameBut.update ..).extBut.push _).push _))
theorem entry_itemiter_iter : entryFor table "dict_itemiterator.__iter__" = some Builtin.«dict_keyiterator.__iter__» := entryFor_alias (id' := "dict_keyiterator.__iter__") (by kernel_rfl) rfl (by decide +kernel) (by kernel_rfl)
theorem items_self {it d : Addr} {i n ep : Nat} {ok ov : Value} {Q : Value → Shared → Prop} (hit : IsItemIter s.heap it d i n ep ok ov) (h : Q (.ref it) s) : wpAny (model prog w) A (pyIter (.ref it)) Q E s := by
  have ty : s.TypeIs (.ref it) "dict_itemiterator" := ⟨_, hit, rfl⟩
  refine wpAny_pyIter_slot ty F.slot_dict_itemiterator_iter (wpAny_call_entry F.slot_dict_itemiterator_iter ty entry_itemiter_iter ?_ (F.args_dict_itemiterator_iter_1 _))
  show wpAny _ _ (ret (.ref it)) _ _ s
  exact wpAny_pure ⟨_, rfl, "dict_itemiterator", _, ty, F.slot_dict_itemiterator_next.lookup, h⟩
end
/-- a thing is known to its object: it is read from here on -/
theorem Inv.freeze {X : Cx} {pins : List (Addr × Obj)} {σ : St} {H : Hp} {s : Shared} {d : Addr} {ob : Obj} {kvs : List (List Key × V)} (I : Inv X pins σ H s) (e : H d = some (.dT kvs)) (ho : s.heap.get? d = some ob) : Inv X pins σ (upd H d (.frz ob (.dT kvs))) s := by
  have ne : ∀ b u, H b = some u → u ≠ .dT kvs → b ≠ d := fun b u q n => ne_of q e n
  refine ⟨I.ok, I.os, I.bare, ⟨I.base.keep, I.base.slot, fun b o q n hx => ?_, I.base.there, fun b xs q => ?_, fun b o u q => ?_, fun b ps q => ?_⟩, I.loc, I.cell, ?_, fun x c q => ?_, fun p hp => ?_, fun b u q => ?_, I.len⟩
  · have z := I.base.free b o q n hx
    rw [upd_ne fun y => by rw [y, e] at z; cases z]
    exact z
  · have z := I.base.tups b xs q
    rw [upd_ne (ne _ _ z (by intro y; cases y))]
    exact z
  · have z := I.base.frzs b o u q
    rw [upd_ne (ne _ _ z (by intro y; cases y))]
    exact z
  · obtain ⟨m, z⟩ := I.base.tbls b ps q
    exact ⟨m, by rw [upd_ne (ne _ _ z (by intro y; cases y))]; exact z⟩
  · rw [upd_ne fun y => by have z := I.free; rw [y, e] at z; cases z]
    exact I.free
  · rw [upd_ne fun y => by have z := I.freeC x c q; rw [y, e] at z; cases z]
    exact I.freeC x c q
  · obtain ⟨a1, a2, a3, a4, a5⟩ := I.pin p hp
    exact ⟨a1, by rw [upd_ne fun y => by rw [y, e] at a2; cases a2]; exact a2, a3, a4, a5⟩
  · have st : ∀ {b : Addr} {u : HO}, ObjOk X.prog X.w H s.heap b u → ObjOk X.prog X.w (upd H d (.frz ob (.dT kvs))) s.heap b u := fun x => x.stay (fun _ _ _ r => r) (fun c r => by rw [upd_ne (ne _ _ r (by intro y; cases y))]; exact r) fun c xs r => by rw [upd_ne (ne _ _ r (by intro y; cases y))]; exact r
    by_cases hb : b = d
    · subst hb
      rw [upd_same] at q
      cases q
      exact ⟨ho, st (I.hok b _ e)⟩
    · rw [upd_ne hb] at q
      exact st (I.hok b u q)
/-- the pairs of the dict at d -/
def Itd (d : Addr) (od : Obj) : It :=
  ⟨fun i H => ∃ kvs p, H d = some (.frz od (.dT kvs)) ∧ kvs[i]? = some p,
    fun i H v H' => ∃ (T b : Addr) (x : V) (k : List Key), v = .ref T ∧ H T = none ∧ H' = upd H T (.tup [.ref b, x]) ∧ H b = some (.tup (k.map kV)) ∧ ∀ kvs, H d = some (.frz od (.dT kvs)) → kvs[i]? = some (k, x),
    fun i H => ∃ kvs, H d = some (.frz od (.dT kvs)) ∧ kvs.length ≤ i⟩
theorem kt_get {H : Hp} : ∀ {kvs : List (List Key × V)} {xs : List (List Key × Addr × Value)} {i : Nat} {p : List Key × V}, KT H kvs xs → kvs[i]? = some p → ∃ q, xs[i]? = some q ∧ p.1 = q.1 ∧ H q.2.1 = some (.tup (p.1.map kV)) ∧ RelV p.2 q.2.2
  | _, _, _, _, .nil, e => by simp at e
  | _, _, 0, _, .cons r _, e => by simp at e; subst e; exact ⟨_, rfl, r⟩
  | _, _, i + 1, p, .cons _ t, e => by
    obtain ⟨q, h1, h2⟩ := kt_get (i := i) (p := p) t (by simpa using e)
    exact ⟨q, by simpa using h1, h2⟩
theorem turn_items {P : Program} {w : World} {K : PySem.W.Frag} {ts : List Expr} {kk : Nat} {tp : Pos} {d it : Addr} {od : Obj} {es : Array DictEntry} {ep : Nat} (hdd : od.data = .dict es ep) :
    Turn P w K (.Tuple ts kk tp) (Itd d od) [it] it (fun i h => ∃ ok ov, IsItemIter h it d i es.size ep ok ov) where
  mem := by simp
  obj := fun i h ⟨ok, ov, t⟩ b hb => by
    rw [List.mem_singleton.mp hb]
    exact ⟨_, t, fields_no_cell⟩
  keep := fun i h h' ⟨ok, ov, t⟩ k => ⟨ok, ov, k it (by simp) _ t⟩
  item := by
    intro X hP hw hK hc i pins s σ H E I hf ⟨ok, ov, t⟩ hg
    subst hP hw hK
    obtain ⟨kvs, p, hd, hp⟩ := hg
    obtain ⟨ho, _, _, xs, rel, o, es', ep', h1, _, h3, h4, _⟩ := (show ObjOk X.prog X.w H s.heap d (.frz od (.dT kvs)) from I.hok d _ hd)
    rw [ho] at h1
    cases h1
    rw [hdd] at h3
    cases h3
    obtain ⟨q, hq, e1, e2, e3⟩ := kt_get rel hp
    have hen : es[i]? = some (entryOfKey (tupleKind (mixKind X.prog X.w)) q) := by
      rw [← Array.getElem?_toList, h4, List.getElem?_map, hq]
      rfl
    refine items_next t ho hdd rfl hen fun h' o1 o2 keep => ?_
    refine ⟨_, rfl, wpAny_letOwnedTupleGo_items (s := { s with heap := h' }) o1 fun h2 i2 sb => ?_⟩
    have il : it < s.heap.objs.size := Heap.lt_size t
    have keep2 : ∀ c ob, c ∉ [it] → s.heap.get? c = some ob → h2.get? c = some ob := fun c ob hcn e => by
      have n : c ≠ it := fun z => hcn (by rw [z]; exact List.mem_singleton.mpr rfl)
      exact sb.extBut c ob n (keep c ob n e)
    have pT : IsPair h2 s.heap.objs.size (.ref q.2.1) q.2.2 := sb.extBut _ _ (Nat.ne_of_gt il) o2
    have I' := I.turnT (h' := h2) (tk := s.toks) (ch := [it]) (x := .ref q.2.1) (y := p.2) hf keep2 (Nat.le_refl _) pT rfl e3
    refine ⟨.ref s.heap.objs.size, _, I', rfl, ⟨s.heap.objs.size, q.2.1, p.2, p.1, rfl, I.hok.fresh (Nat.le_refl _), rfl, e2, fun kvs' z => ?_⟩, ⟨_, _, i2⟩, fun c hcn => ?_⟩
    · rw [hd] at z
      cases z
      exact hp
    · rw [List.mem_singleton.mp hcn, upd_ne (Nat.ne_of_lt il)]
      exact (hf it (List.mem_singleton.mpr rfl)).1
  done := by
    intro X hP hw hK hc i pins s σ H E I hf ⟨ok, ov, t⟩ hg
    subst hP hw hK
    obtain ⟨kvs, hd, hl⟩ := hg
    obtain ⟨ho, _, _, xs, rel, o, es', ep', h1, _, h3, h4, _⟩ := (show ObjOk X.prog X.w H s.heap d (.frz od (.dT kvs)) from I.hok d _ hd)
    rw [ho] at h1
    cases h1
    rw [hdd] at h3
    cases h3
    have n1 : es.size = kvs.length := by
      rw [← Array.length_toList, h4, List.length_map]
      exact (Paired.length rel).symm
    refine items_end (I.ok.hd hc) t ho hdd rfl (by omega) fun h' k => ⟨rfl, ?_⟩
    refine I.turnN (h' := h') (tk := s.toks) (ch := [it]) hf fun c ob hcn e => k c ob (fun z => hcn (by rw [z]; exact List.mem_singleton.mpr rfl)) e
  self := by
    intro A i s Q E ⟨ok, ov, t⟩ q
    exact items_self t q
def iItems (td : TE) : TI := fun σ H R => td σ H fun x H1 => ∃ (d : Addr) (kvs : List (List Key × V)), x = .ref d ∧ H1 d = some (.dT kvs) ∧ ∀ od, R (Itd d od) (upd H1 d (.frz od (.dT kvs)))
theorem pi_items {X : Cx} {o : Expr} {td : TE} {ts : List Expr} {kk : Nat} {tp apos cpos : Pos} (ho : PE X o td) (hbase : attributeBase o "items" X.env (eval o X.env) = eval o X.env := by rfl) (hline : (apos.endLine == cpos.line) = true := by rfl) :
    PI X (.Tuple ts kk tp) (.Call (.Attribute o "items" apos) [] [] cpos) (iItems td) := by
  intro pins s σ H R I h
  refine wpAny_Call_method0_late hbase hline (thn (ho pins s σ H _ I h) fun v s1 ⟨x, H1, I1, r1, d, kvs, ex, e, q⟩ => ?_)
  subst ex
  cases r1
  obtain ⟨h1, h2⟩ := tyV_is (T := "dict") (x := .ref d) I1 rfl (.inr (.inr (.inl ⟨rfl, .inr ⟨kvs, e⟩⟩)))
  obtain ⟨z, hsm, xs, rel, od, es, ep, o1, o2, o3, o4, o5⟩ := (show ObjOk X.prog X.w H1 s1.heap d (.dT kvs) from I1.hok d _ e)
  refine ⟨"dict", "dict.items", PySem.F.plainAttrs_dict, F.slot_dict_items, F.type_dict_items, h1, h2, Calls.callWith_builtin rfl (PySem.evalArgs_none (items_view hsm h1 ?_))⟩
  have I2 : Inv X pins σ H1 { s1 with heap := s1.heap.push { cls := .type "dict_items", data := .fields #[.ref d] }, toks := s1.toks } := I1.kept fun b u q => Heap.get?_push_of_some _ q
  refine items_start (s := { s1 with heap := s1.heap.push { cls := .type "dict_items", data := .fields #[.ref d] } }) ⟨_, Heap.get?_push_size _ rfl, rfl, rfl⟩ (Heap.get?_push_of_some _ o1) o3 ?_
  have sz : (s1.heap.push { cls := .type "dict_items", data := .fields #[.ref d] }).objs.size = s1.heap.objs.size + 1 := Heap.size_push ..
  have I3 := I2.kept (h' := (s1.heap.push { cls := .type "dict_items", data := .fields #[.ref d] }).push { cls := .type "dict_itemiterator", data := .fields #[.none, .bool false, .ref d, .int 0 0, .int es.size 0, .int ep 0, .none, .none] }) (t' := s1.toks) fun b u q => Heap.get?_push_of_some _ q
  have I4 := I3.freeze e (Heap.get?_push_of_some _ (Heap.get?_push_of_some _ o1))
  refine ⟨_, [_], _, Itd d od, _, rfl, I4, turn_items o3, ⟨.none, .none, Heap.get?_push_size _ rfl⟩, fun b hb => ?_, q od⟩
  rw [List.mem_singleton.mp hb]
  refine I1.fpOk (by rw [sz]; omega) ?_
  rw [upd_ne fun y => ?_]
  · exact I1.hok.fresh (by rw [sz]; omega)
  · have small := Heap.lt_size o1
    rw [sz] at y
    exact absurd small (by rw [← y]; exact Nat.not_lt.mpr (Nat.le_succ _))
end L2


/-! ## comprehensions over a tuple, over the pairs of a dict -/
namespace L2
open PySem PySem.Spec PyProof.Rows
theorem comp_tup {K : PySem.W.Frag} {a : Addr} {xs : List V} {g : TG} {te : TE} {σ0 : St} {H : Hp} {Q : VK} (Pv : Nat → List V → St → Hp → Prop) (h0 : Pv 0 [] σ0 H) (hl : ∀ i ys σ H, i ≤ xs.length → Pv i ys σ H → SqT K H a xs ∧ ys.length ≤ i) (hz : xs.length ≤ sizeLine)
    (hs : ∀ i x ys σ H, xs[i]? = some x → Pv i ys σ H → g x σ H fun σ2 H2 => te σ2 H2 fun y H3 => Pv (i + 1) (ys ++ [y]) σ2 H3)
    (hd : ∀ ys σ H, Pv xs.length ys σ H → ∀ p, H p = none → Q (.ref p) (upd H p (.lst ys))) :
    CompGo (Itt K a) g te Q σ0 H := by
  refine ⟨fun i m ys σ H => m = xs.length - i ∧ i ≤ xs.length ∧ Pv i ys σ H, ⟨xs.length, by simp, Nat.zero_le _, h0⟩, ?_⟩
  rintro i m ys σ H ⟨rfl, hi, p⟩
  obtain ⟨q, hy⟩ := hl i ys σ H hi p
  by_cases hlt : i < xs.length
  · refine .inr ⟨⟨xs, xs[i], q, by simp [hlt]⟩, by omega, fun y σ' H' => Pv (i + 1) (ys ++ [y]) σ' H', fun y σ' H' z => ⟨xs.length - (i + 1), by omega, rfl, hlt, z⟩, fun x H' y => ?_⟩
    obtain ⟨e, y⟩ := y
    subst e
    exact hs i x ys σ _ (y xs q) p
  · have e : i = xs.length := by omega
    subst e
    exact .inl ⟨⟨xs, q, Nat.le_refl _⟩, hd ys σ H p⟩
theorem comp_items {d : Addr} {od : Obj} {kvs : List (List Key × V)} {g : TG} {te : TE} {σ0 : St} {H : Hp} {Q : VK} (Pv : Nat → List V → St → Hp → Prop) (h0 : Pv 0 [] σ0 H) (hl : ∀ i ys σ H, i ≤ kvs.length → Pv i ys σ H → H d = some (.frz od (.dT kvs)) ∧ ys.length ≤ i) (hz : kvs.length ≤ sizeLine)
    (hs : ∀ i k x T b ys σ H, kvs[i]? = some (k, x) → H T = none → H b = some (.tup (k.map kV)) → Pv i ys σ H → g (.ref T) σ (upd H T (.tup [.ref b, x])) fun σ2 H2 => te σ2 H2 fun y H3 => Pv (i + 1) (ys ++ [y]) σ2 H3)
    (hd : ∀ ys σ H, Pv kvs.length ys σ H → ∀ p, H p = none → Q (.ref p) (upd H p (.lst ys))) :
    CompGo (Itd d od) g te Q σ0 H := by
  refine ⟨fun i m ys σ H => m = kvs.length - i ∧ i ≤ kvs.length ∧ Pv i ys σ H, ⟨kvs.length, by simp, Nat.zero_le _, h0⟩, ?_⟩
  rintro i m ys σ H ⟨rfl, hi, p⟩
  obtain ⟨q, hy⟩ := hl i ys σ H hi p
  by_cases hlt : i < kvs.length
  · refine .inr ⟨⟨kvs, kvs[i], q, by simp [hlt]⟩, by omega, fun y σ' H' => Pv (i + 1) (ys ++ [y]) σ' H', fun y σ' H' z => ⟨kvs.length - (i + 1), by omega, rfl, hlt, z⟩, fun x H' y => ?_⟩
    obtain ⟨T, b, v, k, rfl, hT, rfl, hb, hk⟩ := y
    exact hs i k v T b ys σ _ (hk kvs q) hT hb p
  · have e : i = kvs.length := by omega
    subst e
    exact .inl ⟨⟨kvs, q, Nat.le_refl _⟩, hd ys σ H p⟩
/-! ## == and != of any data -/
section
variable {X : Cx}
theorem op_neX (hu : X.A.units + 64 < cLine) : OpR X (compareOp .NotEq) (fun x y H Q => ∃ d e : PyData, Dp X.K H x d ∧ Dp X.K H y e ∧ d.canLay0 = true ∧ e.canLay0 = true ∧ d.depth ≤ 60 ∧ e.depth ≤ 60 ∧ Q (.bl (!PyData.eqv d e)) H) := by
  intro pins s σ H x y v u Q I rx ry h
  obtain ⟨d, e, hx, hy, hc, hc', hd, hd', q⟩ := h
  obtain ⟨_, r1⟩ := hx.reads I rx
  obtain ⟨_, r2⟩ := hy.reads I ry
  exact SeqAt.compareNe_reads r1 r2 hc hc' (by omega) ⟨.bl _, H, I, rfl, q⟩
end
end L2


/-! ## what each law needs -/
namespace Sh
open PySem L2
def cellZ (ns : List Int) (k : Int) : Int := (ns[k.toNat]?).getD 0
def spCell (K : PySem.W.Frag) : Sp := fun vs H Q _ => ∃ (a : Addr) (ns : List Int) (k : Int), vs = [.ref a, .int k] ∧ SqL K H a (ns.map V.int) ∧ 0 ≤ k ∧ Q (.int (cellZ ns k)) H
theorem same_new {H : Hp} {p : Addr} (h : H p = none) (o : HO) : Same H (upd H p o) := fun b u q => by rw [upd_ne (ne_of_none q h)]; exact q
theorem at0 {x y : V} : atI [x, y] 0 = some x := rfl
theorem at1 {x y : V} : atI [x, y] 1 = some y := rfl
def Tp (H : Hp) (v : V) (xs : List V) : Prop := ∃ a, v = .ref a ∧ H a = some (.tup xs)
theorem Tp.same {H H' : Hp} {v : V} {xs : List V} (s : Same H H') (h : Tp H v xs) : Tp H' v xs := let ⟨r, e, q⟩ := h; ⟨r, e, s _ _ q⟩
theorem Tp.upd {H : Hp} {v : V} {xs : List V} {l : Addr} {o o' : HO} (hl : H l = some o) (n : ∀ ys, o ≠ .tup ys) (h : Tp H v xs) : Tp (upd H l o') v xs := by
  obtain ⟨r, e, q⟩ := h
  exact ⟨r, e, by rw [upd_ne (ne_of q hl fun z => n _ z.symm)]; exact q⟩
theorem paired_get {α β : Type} {R : α → β → Prop} : ∀ {xs : List α} {ys : List β} {i : Nat} {x : α}, Paired R xs ys → xs[i]? = some x → ∃ y, ys[i]? = some y ∧ R x y
  | _, _, _, _, .nil, e => by simp at e
  | _, _, 0, _, .cons r _, e => by simp at e; subst e; exact ⟨_, rfl, r⟩
  | _, _, i + 1, x, .cons _ t, e => by
    obtain ⟨y, h1, h2⟩ := paired_get (i := i) (x := x) t (by simpa using e)
    exact ⟨y, by simpa using h1, h2⟩
theorem paired_snoc {α β : Type} {R : α → β → Prop} {x : α} {y : β} (r : R x y) : ∀ {xs : List α} {ys : List β}, Paired R xs ys → Paired R (xs ++ [x]) (ys ++ [y])
  | _, _, .nil => .cons r .nil
  | _, _, .cons q t => .cons q (paired_snoc r t)
theorem paired_app {α β : Type} {R : α → β → Prop} : ∀ {xs zs : List α} {ys us : List β}, Paired R xs ys → Paired R zs us → Paired R (xs ++ zs) (ys ++ us)
  | _, _, _, _, .nil, h => h
  | _, _, _, _, .cons q t, h => .cons q (paired_app t h)
theorem take_snoc {α : Type} {l : List α} {i : Nat} {x : α} (h : l[i]? = some x) : l.take (i + 1) = l.take i ++ [x] := by
  obtain ⟨hi, e⟩ := List.getElem?_eq_some_iff.mp h
  rw [List.take_succ_eq_append_getElem hi, e]
theorem same_upd {H H' : Hp} {g : Addr} {o : HO} (h : Same H H') (hg : H g = none) : Same H (upd H' g o) := fun b u e => by
  rw [upd_ne (ne_of_none e hg)]
  exact h b u e
theorem ne_of_none' {H : Hp} {l ra : Addr} {o : HO} (h : upd H ra o l = none) : l ≠ ra := fun e => by
  rw [e, upd_same] at h
  cases h
theorem fold_take {α β : Type} (f : β → α → β) (b : β) {l : List α} {i : Nat} {x : α} (h : l[i]? = some x) : (l.take (i + 1)).foldl f b = f ((l.take i).foldl f b) x := by
  rw [take_snoc h, List.foldl_append]
  rfl
abbrev WaysV (H : Hp) (vs : List V) (ks : List (List Int)) : Prop := Paired (fun v (k : List Int) => Tp H v (k.map V.int)) vs ks
theorem tupd {H : Hp} {a l : Addr} {xs : List V} {o o' : HO} (h : H a = some (.tup xs)) (hl : H l = some o) (n : ∀ ys, o ≠ .tup ys) : upd H l o' a = some (.tup xs) := by
  rw [upd_ne (ne_of h hl fun z => n _ z.symm)]
  exact h
theorem WaysV.same {H H' : Hp} {vs : List V} {ks : List (List Int)} (s : Same H H') (h : WaysV H vs ks) : WaysV H' vs ks := Paired.mapP h fun _ _ z => Tp.same s z
theorem WaysV.upd {H : Hp} {vs : List V} {ks : List (List Int)} {l : Addr} {o o' : HO} (hl : H l = some o) (n : ∀ ys, o ≠ .tup ys) (h : WaysV H vs ks) : WaysV (upd H l o') vs ks := Paired.mapP h fun _ _ z => Tp.upd hl n z
theorem paired_set {α β : Type} {R : α → β → Prop} {x : α} {y : β} (r : R x y) : ∀ {xs : List α} {ys : List β} (j : Nat), Paired R xs ys → Paired R (xs.set j x) (ys.set j y)
  | _, _, _, .nil => .nil
  | _, _, 0, .cons _ t => .cons r t
  | _, _, j + 1, .cons q t => .cons q (paired_set r j t)
theorem paired_rep {α β : Type} {R : α → β → Prop} {x : α} {y : β} (r : R x y) : ∀ k : Nat, Paired R (List.replicate k [x]).flatten (List.replicate k y)
  | 0 => .nil
  | k + 1 => by
    rw [List.replicate_succ, List.replicate_succ, List.flatten_cons]
    exact .cons r (paired_rep r k)
theorem ixN_nat {n j : Nat} (h : j < n) : ixN n (j : Int) = some j := by
  unfold ixN
  rw [if_pos (by omega), if_pos (by omega)]
  rfl
theorem dp_ints {K : PySem.W.Frag} {H : Hp} : ∀ ws : List Int, DpAll K H (ws.map V.int) (ws.map PyData.int)
  | [] => .nil
  | w :: r => .cons (.int w) (dp_ints r)
theorem dp_app {K : PySem.W.Frag} {H : Hp} : ∀ {xs ys : List V} {ds es : List PyData}, DpAll K H xs ds → DpAll K H ys es → DpAll K H (xs ++ ys) (ds ++ es)
  | _, _, _, _, .nil, b => b
  | _, _, _, _, .cons h t, b => .cons h (dp_app t b)
theorem lay_i : ∀ ws : List Int, PyData.canLayAll0 (ws.map PyData.int) = true
  | [] => rfl
  | w :: r => by
    show (PyData.canLay0 (.int w) && PyData.canLayAll0 (r.map PyData.int)) = true
    rw [lay_i r]
    rfl
theorem dep_i : ∀ ws : List Int, PyData.depthAll (ws.map PyData.int) = 0
  | [] => rfl
  | w :: r => by
    show max 0 (PyData.depthAll (r.map PyData.int)) = 0
    rw [dep_i r]
    rfl
theorem lay_ints (js : List Int) : (PyData.list (js.map PyData.int)).canLay0 = true := lay_i js
theorem dep_ints (js : List Int) : (PyData.list (js.map PyData.int)).depth ≤ 60 := by
  show PyData.depthAll (js.map PyData.int) + 1 ≤ 60
  rw [dep_i]
  decide
theorem lay_tup (js : List Int) : (PyData.tuple (js.map PyData.int)).canLay0 = true := lay_i js
theorem dep_tup (js : List Int) : (PyData.tuple (js.map PyData.int)).depth ≤ 60 := by
  show PyData.depthAll (js.map PyData.int) + 1 ≤ 60
  rw [dep_i]
  decide
theorem kit_list_list (K : PySem.W.Frag) : PySem.W.kitOne K (.type "list") (.type "list") = some true := by first | rfl | decide +kernel | (unfold PySem.W.kitOne; rw [if_pos (by decide +kernel)])
theorem all_eq {α : Type} {f g : α → Bool} : ∀ {l : List α}, (∀ r ∈ l, f r = g r) → l.all f = l.all g
  | [], _ => rfl
  | a :: t, h => by
    rw [List.all_cons, List.all_cons, h a List.mem_cons_self, all_eq fun r hr => h r (List.mem_cons_of_mem _ hr)]
theorem eqv_cons (d : PyData) (ds : List PyData) : PyData.eqv (.list (d :: ds)) (.list []) = false := rfl
theorem eqv_nil : PyData.eqv (.list []) (.list []) = true := rfl
def keyL (ws : List Int) : List Key := ws.map Sum.inl
theorem keyL_kV (ws : List Int) : (keyL ws).map kV = ws.map V.int := by
  unfold keyL
  rw [List.map_map]
  rfl
theorem keyL_inj : ∀ {a b : List Int}, keyL a = keyL b → a = b
  | [], [], _ => rfl
  | [], _ :: _, e => by cases e
  | _ :: _, [], e => by cases e
  | x :: xs, y :: ys, e => by
    unfold keyL at e
    rw [List.map_cons, List.map_cons] at e
    injection e with e1 e2
    have e1' : x = y := Sum.inl.inj e1
    rw [e1', keyL_inj e2]
theorem kv_tup {ws : List Int} {H : Hp} {t : Addr} (h : H t = some (.tup (ws.map V.int))) : H t = some (.tup ((keyL ws).map kV)) := by rw [keyL_kV]; exact h
def spLaw (K : PySem.W.Frag) : Sp := fun vs H Q _ => ∃ (a : Addr) (ns : List Int), vs = [.ref a] ∧ SqL K H a (ns.map V.int) ∧ ns.length ≤ 63 ∧ ∀ H', Q (.bl true) H'
def spStream : Sp := fun vs H Q _ => ∃ c m : Int, vs = [.int c, .int m] ∧ 0 ≤ m ∧ m ≤ 100 ∧ ∀ (r : Addr) (H' : Hp) (xs : List Int), Same H H' → H r = none → H' r = some (.lst (xs.map V.int)) → xs.length = m.toNat → (∀ x ∈ xs, 0 ≤ x ∧ x < 10 ^ 45) → Q (.ref r) H'
def spNumber : Sp := fun vs H Q _ => ∃ x : Int, vs = [.int x] ∧ ∀ (H' : Hp) (y : Int), Same H H' → Bd 51 y → Q (.int y) H'
theorem at_ints {xs : List Int} {j : Nat} (h : j < xs.length) : atI (xs.map V.int) (j : Int) = some (.int (xs[j]'h)) := atI_nat (by rw [List.getElem?_map, List.getElem?_eq_getElem h]; rfl)
theorem ints_get {xs : List Int} {i : Nat} {x : V} (h : (xs.map V.int)[i]? = some x) : ∃ z, xs[i]? = some z ∧ x = V.int z := by
  rw [List.getElem?_map] at h
  cases e : xs[i]? with
  | none => rw [e] at h; cases h
  | some z => rw [e] at h; exact ⟨z, rfl, (Option.some.inj h).symm⟩
theorem at_lastI {xs : List Int} (h : 0 < xs.length) : ∃ x, xs[xs.length - 1]? = some x ∧ atI (xs.map V.int) (-1) = some (.int x) := by
  rcases List.eq_nil_or_concat xs with rfl | ⟨r, p, rfl⟩
  · cases h
  rw [List.concat_eq_append]
  refine ⟨p, ?_, ?_⟩
  · rw [List.length_append, List.length_singleton, Nat.add_sub_cancel, List.getElem?_append_right (Nat.le_refl _), Nat.sub_self]
    rfl
  · rw [List.map_append]
    exact atI_last _ _
end Sh


/-! ## two lists walked together by zip -/
namespace L2
open PySem PySem.Spec PyProof.Rows
def ItzL (K : PySem.W.Frag) (a b : Addr) : It :=
  ⟨fun i H => ∃ xs ys x y, SqL K H a xs ∧ SqL K H b ys ∧ xs[i]? = some x ∧ ys[i]? = some y,
    fun i H v H' => ∃ T x y, v = .ref T ∧ H T = none ∧ H' = upd H T (.tup [x, y]) ∧ (∀ xs, SqL K H a xs → xs[i]? = some x) ∧ ∀ ys, SqL K H b ys → ys[i]? = some y,
    fun i H => ∃ xs ys, SqL K H a xs ∧ SqL K H b ys ∧ i ≤ xs.length ∧ i ≤ ys.length ∧ (i = xs.length ∨ i = ys.length)⟩
theorem turn_zipL {P : Program} {w : World} {K : PySem.W.Frag} {es : List Expr} {kk : Nat} {tp : Pos} {a b z TI TO i1 i2 : Addr} (Z : Zp z TI TO i1 i2 [i1, a] [i2, b]) (na : a ≠ i1) (nb : b ≠ i2) :
    Turn P w K (.Tuple es kk tp) (ItzL K a b) [z, TI, TO, i1, i2] z (fun i h => IsZip h z TI TO .none ∧ IsPair h TI (.ref i1) (.ref i2) ∧ (∃ x y, IsPair h TO x y) ∧ h.IsListIter i1 a i ∧ h.IsListIter i2 b i) where
  mem := by simp
  obj := fun i h ⟨t1, t2, ⟨x, y, t3⟩, t4, t5⟩ c hc => by
    simp only [List.mem_cons, List.not_mem_nil, or_false] at hc
    rcases hc with rfl | rfl | rfl | rfl | rfl
    · exact ⟨_, t1, fields_no_cell⟩
    · exact ⟨_, t2, seq_no_cell⟩
    · exact ⟨_, t3, seq_no_cell⟩
    · obtain ⟨o, e, _, d⟩ := t4
      exact ⟨o, e, by rw [d]; exact fields_no_cell⟩
    · obtain ⟨o, e, _, d⟩ := t5
      exact ⟨o, e, by rw [d]; exact fields_no_cell⟩
  keep := fun i h h' ⟨t1, t2, ⟨x, y, t3⟩, t4, t5⟩ k => ⟨k z (by simp) _ t1, k TI (by simp) _ t2, ⟨x, y, k TO (by simp) _ t3⟩, (by obtain ⟨o, e, r⟩ := t4; exact ⟨o, k i1 (by simp) o e, r⟩), (by obtain ⟨o, e, r⟩ := t5; exact ⟨o, k i2 (by simp) o e, r⟩)⟩
  item := by
    intro X hP hw hK hc i pins s σ H E I hf ⟨t1, t2, ⟨x0, y0, t3⟩, t4, t5⟩ hg
    subst hP hw hK
    obtain ⟨xs, ys, x, y, hq1, hq2, hx, hy⟩ := hg
    obtain ⟨its1, rv1, p1, _⟩ := I.list hq1
    obtain ⟨its2, rv2, p2, _⟩ := I.list hq2
    obtain ⟨u, hu, ru⟩ := rv1.get hx
    obtain ⟨v, hv, rv⟩ := rv2.get hy
    have hh : X.A.in1.handled = none := I.ok.hd hc
    have l1 : i < its1.toArray.size := by rw [List.size_toArray]; exact (List.getElem?_eq_some_iff.mp hu).1
    have l2 : i < its2.toArray.size := by rw [List.size_toArray]; exact (List.getElem?_eq_some_iff.mp hv).1
    refine zip_next (Draws.list hh i1 a na its1.toArray) (Draws.list hh i2 b nb its2.toArray) Z t1 t2 t3 ⟨t4, p1.isList⟩ ⟨t5, p2.isList⟩ l1 l2 ?_
    intro x' y' h1 tk px py z1 z2 z3 z4 z5 z6 keep
    have ex : x' = u := by
      have q : its1.toArray[i]? = some x' := px
      simp only [List.getElem?_toArray] at q
      rw [hu] at q
      exact (Option.some.inj q).symm
    have ey : y' = v := by
      have q : its2.toArray[i]? = some y' := py
      simp only [List.getElem?_toArray] at q
      rw [hv] at q
      exact (Option.some.inj q).symm
    subst ex ey
    refine ⟨_, rfl, wpAny_letOwnedTupleGo_zip (s := { s with heap := h1, toks := tk }) z1 fun h2 z7 sb => ?_⟩
    have zlt : z < s.heap.objs.size := Heap.lt_size t1
    have keep2 : ∀ c o, c ∉ [z, TI, TO, i1, i2] → s.heap.get? c = some o → h2.get? c = some o := fun c o hc e => by
      simp only [List.mem_cons, List.not_mem_nil, or_false, not_or] at hc
      exact sb.extBut c o hc.1 (keep c o hc.1 hc.2.2.1 hc.2.2.2.1 hc.2.2.2.2 e)
    have pT : IsPair h2 s.heap.objs.size x' y' := sb.extBut _ _ (Nat.ne_of_gt zlt) z6
    have I' := I.turnT (h' := h2) (tk := tk) (ch := [z, TI, TO, i1, i2]) (x := x) (y := y) hf keep2 (Nat.le_refl _) pT ru rv
    refine ⟨.ref s.heap.objs.size, _, I', rfl, ⟨s.heap.objs.size, x, y, rfl, I.hok.fresh (Nat.le_refl _), rfl, fun xs' q => by rw [I.list_inj q hq1]; exact hx, fun ys' q => by rw [I.list_inj q hq2]; exact hy⟩,
      ⟨z7, sb.extBut _ _ Z.a1 z2, ⟨_, _, sb.extBut _ _ Z.a2 z3⟩, z4.1.extBut sb.extBut Z.a3, z5.1.extBut sb.extBut Z.a4⟩, fun c hc => ?_⟩
    have := (hf c hc).1
    rw [upd_ne]
    · exact this
    · intro q
      obtain ⟨o, e, _⟩ : ∃ o, s.heap.get? c = some o ∧ True := by
        simp only [List.mem_cons, List.not_mem_nil, or_false] at hc
        rcases hc with rfl | rfl | rfl | rfl | rfl
        · exact ⟨_, t1, trivial⟩
        · exact ⟨_, t2, trivial⟩
        · exact ⟨_, t3, trivial⟩
        · obtain ⟨o, e, _⟩ := t4; exact ⟨o, e, trivial⟩
        · obtain ⟨o, e, _⟩ := t5; exact ⟨o, e, trivial⟩
      rw [q] at e
      exact absurd (Heap.lt_size e) (Nat.lt_irrefl _)
  done := by
    intro X hP hw hK hc i pins s σ H E I hf ⟨t1, t2, ⟨x0, y0, t3⟩, t4, t5⟩ hg
    subst hP hw hK
    obtain ⟨xs, ys, hq1, hq2, e1, e2, e3⟩ := hg
    obtain ⟨its1, rv1, p1, _⟩ := I.list hq1
    obtain ⟨its2, rv2, p2, _⟩ := I.list hq2
    have hh : X.A.in1.handled = none := I.ok.hd hc
    have n1 : its1.toArray.size = xs.length := by rw [List.size_toArray]; exact rv1.length.symm
    have n2 : its2.toArray.size = ys.length := by rw [List.size_toArray]; exact rv2.length.symm
    refine zip_end (Draws.list hh i1 a na its1.toArray) (Draws.list hh i2 b nb its2.toArray) Z t1 t2 t3 ⟨t4, p1.isList⟩ ⟨t5, p2.isList⟩ (by omega) (by omega) (by omega) ?_
    intro h1 tk keep
    refine ⟨rfl, I.turnN (h' := h1) (tk := tk) (ch := [z, TI, TO, i1, i2]) hf fun c o hc e => ?_⟩
    simp only [List.mem_cons, List.not_mem_nil, or_false, not_or] at hc
    exact keep c o hc.1 hc.2.2.1 hc.2.2.2.1 hc.2.2.2.2 e
  self := fun _ _ _ _ _ st h => wpAny_pyIter_zip st.1 h
section
variable {X : Cx} {es : List Expr} {kk : Nat} {tp : Pos}
def iZipL (K : PySem.W.Frag) (ta : TA) : TI := fun σ H R => ta σ H fun vs H1 => ∃ a b, vs = [.ref a, .ref b] ∧ (∃ xs, SqL K H1 a xs) ∧ (∃ ys, SqL K H1 b ys) ∧ R (ItzL K a b) H1
theorem pi_zipL {e1 e2 : Expr} {ta : TA} {p pos : Pos} (hg : Gl X "zip") (hm : X.mg "zip" = none) (ha : PA X [e1, e2] ta) (hs : starEach [e1, e2] X.env = [(false, eval e1 X.env), (false, eval e2 X.env)] := by rfl) (hs2 : starEach [e2] X.env = [(false, eval e2 X.env)] := by rfl) :
    PI X (.Tuple es kk tp) (.Call (.Name "zip" p) [e1, e2] [] pos) (iZipL X.K ta) := by
  intro pins s σ H R I h
  refine Call_ (ld_blt I hg hm (show bootBuiltins "zip" = some (.type "zip") by decide +kernel) (PyProof.Rows.callWith_type1 (thn (ha pos pins s σ H _ I h) fun us s1 ⟨vs, H1, I1, r1, q1⟩ => ?_) (by rw [hs, hs2]) (by rw [hs2]; rfl)))
  obtain ⟨a, b, e, ⟨xs, hx⟩, ⟨ys, hy⟩, q⟩ := q1
  subst e
  obtain ⟨u, v, rfl, ru, rv⟩ := vals2 r1
  cases ru
  cases rv
  obtain ⟨its1, rv1, p1, _⟩ := I1.list hx
  obtain ⟨its2, rv2, p2, _⟩ := I1.list hy
  have la : a < s1.heap.objs.size := by obtain ⟨o, n, e, _⟩ := p1; exact Heap.lt_size e
  have lb : b < s1.heap.objs.size := by obtain ⟨o, n, e, _⟩ := p2; exact Heap.lt_size e
  refine call_zip_2 p1.isList p2.isList fun h' z1 z2 z3 z4 z5 _ keep => wpAny_pyIter_zip z1 ?_
  have I2 : Inv X pins σ H1 { s1 with heap := h' } := I1.kept (t' := s1.toks) keep
  refine ⟨s1.heap.objs.size + 4, [s1.heap.objs.size + 4, s1.heap.objs.size + 2, s1.heap.objs.size + 3, s1.heap.objs.size, s1.heap.objs.size + 1], _, _, H1, rfl, I2,
    turn_zipL (a := a) (b := b) (zp_mk _ _ _ la lb) (Nat.ne_of_lt la) (Nat.ne_of_lt (Nat.lt_succ_of_lt lb)), ⟨z1, z2, ⟨_, _, z3⟩, z4, z5⟩, fun c hc => ?_, q⟩
  · have ge : s1.heap.objs.size ≤ c := by
      simp only [List.mem_cons, List.not_mem_nil, or_false] at hc
      rcases hc with rfl | rfl | rfl | rfl | rfl
      · exact Nat.le_add_right _ 4
      · exact Nat.le_add_right _ 2
      · exact Nat.le_add_right _ 3
      · exact Nat.le_refl _
      · exact Nat.le_add_right _ 1
    exact I1.fpOk ge (I1.hok.fresh ge)
end
/-- over a tuple and a list that stay -/
theorem for_zipL {K : PySem.W.Frag} {a b : Addr} {xs ys : List V} {g : TG} {tb : TS} {D : Ends} {σ : St} {H : Hp} (Pv : Nat → St → Hp → Prop) (h0 : Pv 0 σ H) (hl : ∀ i σ H, i ≤ xs.length → Pv i σ H → SqL K H a xs ∧ SqL K H b ys) (hlen : xs.length ≤ ys.length)
    (hs : ∀ i x y T σ H, xs[i]? = some x → ys[i]? = some y → H T = none → Pv i σ H → g (.ref T) σ (upd H T (.tup [x, y])) fun σ2 H2 => tb { D with nx := Pv (i + 1), ct := Pv (i + 1), bk := D.nx } σ2 H2) (hd : ∀ σ H, Pv xs.length σ H → D.nx σ H) :
    ∃ W : Nat → Nat → St → Hp → Prop, (∃ m, W 0 m σ H) ∧ ∀ i m σ H, W i m σ H →
      ((ItzL K a b).stop i H ∧ D.nx σ H) ∨ ((ItzL K a b).go i H ∧ ∃ N : St → Hp → Prop, (∀ σ' H', N σ' H' → ∃ m', m' < m ∧ W (i + 1) m' σ' H') ∧ ∀ x H', (ItzL K a b).yld i H x H' → g x σ H' fun σ2 H2 => tb { D with nx := N, ct := N, bk := D.nx } σ2 H2) := by
  refine ⟨fun i m σ H => m = xs.length - i ∧ i ≤ xs.length ∧ Pv i σ H, ⟨xs.length, by simp, Nat.zero_le _, h0⟩, ?_⟩
  rintro i m σ H ⟨rfl, hi, p⟩
  obtain ⟨q1, q2⟩ := hl i σ H hi p
  by_cases hlt : i < xs.length
  · have hlt2 : i < ys.length := by omega
    refine .inr ⟨⟨xs, ys, xs[i], ys[i], q1, q2, by simp [hlt], by simp [hlt2]⟩, Pv (i + 1), fun σ' H' p' => ⟨xs.length - (i + 1), by omega, rfl, hlt, p'⟩, fun v H' y => ?_⟩
    obtain ⟨T, x, y, rfl, hT, rfl, c1, c2⟩ := y
    exact hs i x y T σ H (c1 xs q1) (c2 ys q2) hT p
  · have e : i = xs.length := by omega
    subst e
    exact .inl ⟨⟨xs, ys, q1, q2, Nat.le_refl _, hlen, .inl rfl⟩, hd σ H p⟩

/-- a comprehension over two lists walked together -/
theorem comp_zipL {K : PySem.W.Frag} {a b : Addr} {xs ys : List V} {g : TG} {te : TE} {σ0 : St} {H : Hp} {Q : VK} (Pv : Nat → List V → St → Hp → Prop) (h0 : Pv 0 [] σ0 H) (hl : ∀ i zs σ H, i ≤ xs.length → Pv i zs σ H → SqL K H a xs ∧ SqL K H b ys ∧ zs.length ≤ i) (hlen : xs.length ≤ ys.length) (hz : xs.length ≤ sizeLine)
    (hs : ∀ i x y T zs σ H, xs[i]? = some x → ys[i]? = some y → H T = none → Pv i zs σ H → g (.ref T) σ (upd H T (.tup [x, y])) fun σ2 H2 => te σ2 H2 fun z H3 => Pv (i + 1) (zs ++ [z]) σ2 H3)
    (hd : ∀ zs σ H, Pv xs.length zs σ H → ∀ p, H p = none → Q (.ref p) (upd H p (.lst zs))) : CompGo (ItzL K a b) g te Q σ0 H := by
  refine ⟨fun i m zs σ H => m = xs.length - i ∧ i ≤ xs.length ∧ Pv i zs σ H, ⟨xs.length, by simp, Nat.zero_le _, h0⟩, ?_⟩
  rintro i m zs σ H ⟨rfl, hi, p⟩
  obtain ⟨q1, q2, hy⟩ := hl i zs σ H hi p
  by_cases hlt : i < xs.length
  · have hlt2 : i < ys.length := by omega
    refine .inr ⟨⟨xs, ys, xs[i], ys[i], q1, q2, by simp [hlt], by simp [hlt2]⟩, by omega, fun z σ' H' => Pv (i + 1) (zs ++ [z]) σ' H', fun z σ' H' p' => ⟨xs.length - (i + 1), by omega, rfl, hlt, p'⟩, fun v H' y => ?_⟩
    obtain ⟨T, x, y, rfl, hT, rfl, c1, c2⟩ := y
    exact hs i x y T zs σ H (c1 xs q1) (c2 ys q2) hT p
  · have e : i = xs.length := by omega
    subst e
    exact .inl ⟨⟨xs, ys, q1, q2, Nat.le_refl _, hlen, .inl rfl⟩, hd zs σ H p⟩
/-- .. over a tuple and a list -/
theorem comp_zip {K : PySem.W.Frag} {a b : Addr} {xs ys : List V} {g : TG} {te : TE} {σ0 : St} {H : Hp} {Q : VK} (Pv : Nat → List V → St → Hp → Prop) (h0 : Pv 0 [] σ0 H) (hl : ∀ i zs σ H, i ≤ xs.length → Pv i zs σ H → SqT K H a xs ∧ SqL K H b ys ∧ zs.length ≤ i) (hlen : xs.length ≤ ys.length) (hz : xs.length ≤ sizeLine)
    (hs : ∀ i x y T zs σ H, xs[i]? = some x → ys[i]? = some y → H T = none → Pv i zs σ H → g (.ref T) σ (upd H T (.tup [x, y])) fun σ2 H2 => te σ2 H2 fun z H3 => Pv (i + 1) (zs ++ [z]) σ2 H3)
    (hd : ∀ zs σ H, Pv xs.length zs σ H → ∀ p, H p = none → Q (.ref p) (upd H p (.lst zs))) : CompGo (Itz K a b) g te Q σ0 H := by
  refine ⟨fun i m zs σ H => m = xs.length - i ∧ i ≤ xs.length ∧ Pv i zs σ H, ⟨xs.length, by simp, Nat.zero_le _, h0⟩, ?_⟩
  rintro i m zs σ H ⟨rfl, hi, p⟩
  obtain ⟨q1, q2, hy⟩ := hl i zs σ H hi p
  by_cases hlt : i < xs.length
  · have hlt2 : i < ys.length := by omega
    refine .inr ⟨⟨xs, ys, xs[i], ys[i], q1, q2, by simp [hlt], by simp [hlt2]⟩, by omega, fun z σ' H' => Pv (i + 1) (zs ++ [z]) σ' H', fun z σ' H' p' => ⟨xs.length - (i + 1), by omega, rfl, hlt, p'⟩, fun v H' y => ?_⟩
    obtain ⟨T, x, y, rfl, hT, rfl, c1, c2⟩ := y
    exact hs i x y T zs σ H (c1 xs q1) (c2 ys q2) hT p
  · have e : i = xs.length := by omega
    subst e
    exact .inl ⟨⟨xs, ys, q1, q2, Nat.le_refl _, hlen, .inl rfl⟩, hd zs σ H p⟩
end L2


/-! ## points, rows and what they come to; == of any data -/
namespace L2
open PySem PySem.Spec PyProof.Rows
section
variable {X : Cx}
def rEqX (K : PySem.W.Frag) : R2 := fun x y H Q => ∃ d e : PyData, Dp K H x d ∧ Dp K H y e ∧ d.canLay0 = true ∧ e.canLay0 = true ∧ d.depth ≤ 60 ∧ e.depth ≤ 60 ∧ Q (.bl (PyData.eqv d e)) H
theorem op_eqX (hu : X.A.units + 64 < cLine) : OpR X (compareOp .Eq) (rEqX X.K) := by
  intro pins s σ H x y v u Q I rx ry h
  obtain ⟨d, e, hx, hy, hc, hc', hd, hd', q⟩ := h
  obtain ⟨_, r1⟩ := hx.reads I rx
  obtain ⟨_, r2⟩ := hy.reads I ry
  exact SeqAt.compareEq_reads r1 r2 hc hc' (by omega) ⟨.bl _, H, I, rfl, q⟩
end
end L2
namespace Sh
open PySem L2
theorem eqvA_ints : ∀ ns ms : List Int, PyData.eqvAll (ns.map PyData.int) (ms.map PyData.int) = decide (ns = ms)
  | [], [] => by simp [PyData.eqvAll]
  | [], _ :: _ => by simp [PyData.eqvAll]
  | _ :: _, [] => by simp [PyData.eqvAll]
  | a :: r, b :: t => by
    have ih := eqvA_ints r t
    simp only [List.map_cons, PyData.eqvAll, PyData.eqv, ih, List.cons.injEq]
    by_cases h1 : a = b <;> by_cases h2 : r = t <;> simp [h1, h2]
theorem eqv_ints (ns ms : List Int) : PyData.eqv (.list (ns.map PyData.int)) (.list (ms.map PyData.int)) = decide (ns = ms) := eqvA_ints ns ms
theorem eqv_tupI (ns ms : List Int) : PyData.eqv (.tuple (ns.map PyData.int)) (.tuple (ms.map PyData.int)) = decide (ns = ms) := eqvA_ints ns ms
/-- a value that is a fraction -/
def FrV (H : Hp) (v : V) (p : Int × Int) : Prop := ∃ r, v = .ref r ∧ H r = some (.tup [.int p.1, .int p.2])
abbrev PtV (H : Hp) (vs : List V) (pts : List (Int × Int)) : Prop := Paired (FrV H) vs pts
def rowV (ws : List Int) (b : Int) : List V := ws.map V.int ++ [.int b]
theorem FrV.same {H H' : Hp} {v : V} {p : Int × Int} (s : Same H H') (h : FrV H v p) : FrV H' v p := let ⟨r, e, q⟩ := h; ⟨r, e, s _ _ q⟩
theorem PtV.same {H H' : Hp} {vs : List V} {pts : List (Int × Int)} (s : Same H H') (h : PtV H vs pts) : PtV H' vs pts := Paired.mapP h fun _ _ z => z.same s
theorem FrV.upd {H : Hp} {v : V} {p : Int × Int} {l : Addr} {xs : List V} {o : HO} (hl : H l = some (.lst xs)) (h : FrV H v p) : FrV (upd H l o) v p := by
  obtain ⟨r, e, q⟩ := h
  exact ⟨r, e, by rw [upd_ne (ne_of q hl (by intro z; cases z))]; exact q⟩
theorem PtV.upd {H : Hp} {vs : List V} {pts : List (Int × Int)} {l : Addr} {xs : List V} {o : HO} (hl : H l = some (.lst xs)) (h : PtV H vs pts) : PtV (upd H l o) vs pts := Paired.mapP h fun _ _ z => z.upd hl
structure PtOk (pts : List (Int × Int)) : Prop where
  n7 : pts.length ≤ 7
  ok : ∀ p ∈ pts, 0 < p.2 ∧ Bd 1000 p.1 ∧ Bd 1000 p.2
structure RwOk (ws : List Int) (n : Nat) : Prop where
  len : ws.length = n
  bd : ∀ w ∈ ws, Bd 1000 w
theorem bd_al : ∀ (n : Nat) (l : List (Int × Int × Int)), l.length = n → (∀ p ∈ l, Bd 1000 p.1 ∧ Bd 1000 p.2.1 ∧ Bd 1000 p.2.2) → Bd (2001 + 1001 * n) (l.foldl alStep (0, 1)).1 ∧ Bd (1000 * n + 1) (l.foldl alStep (0, 1)).2
  | 0, l, e, _ => by
    have : l = [] := List.length_eq_zero_iff.mp e
    subst this
    exact ⟨(Bd.lit (n := 1)).mono (by decide), Bd.lit⟩
  | n + 1, l, e, h => by
    rcases List.eq_nil_or_concat l with rfl | ⟨r, p, rfl⟩
    · cases e
    rw [List.concat_eq_append] at *
    rw [List.length_append, List.length_singleton] at e
    obtain ⟨i1, i2⟩ := bd_al n r (by omega) fun q hq => h q (List.mem_append_left _ hq)
    obtain ⟨h1, h2, h3⟩ := h p (List.mem_append_right _ (List.mem_singleton.mpr rfl))
    rw [List.foldl_append]
    generalize r.foldl alStep (0, 1) = st at i1 i2
    constructor
    · show Bd (2001 + 1001 * (n + 1)) (st.1 * p.2.2 + p.1 * p.2.1 * st.2)
      exact (((i1.mul h3).mono (show 2001 + 1001 * n + 1000 ≤ 3001 + 1001 * n by omega)).add (((h1.mul h2).mul i2).mono (show 1000 + 1000 + (1000 * n + 1) ≤ 3001 + 1001 * n by omega))).mono (by omega)
    · show Bd (1000 * (n + 1) + 1) (st.2 * p.2.2)
      exact (i2.mul h3).mono (by omega)
theorem zip_ok {ws : List Int} {pts : List (Int × Int)} (P : PtOk pts) (W : RwOk ws pts.length) : ∀ p ∈ ws.zip pts, 0 < p.2.2 ∧ Bd 1000 p.1 ∧ Bd 1000 p.2.1 ∧ Bd 1000 p.2.2 := fun p hp => by
  obtain ⟨a, b⟩ := List.of_mem_zip hp
  obtain ⟨c1, c2, c3⟩ := P.ok _ b
  exact ⟨c1, W.bd _ a, c2, c3⟩
theorem zip_len {ws : List Int} {pts : List (Int × Int)} (W : RwOk ws pts.length) : (ws.zip pts).length = pts.length := by
  rw [List.length_zip, W.len, Nat.min_self]
theorem al_pos {ws : List Int} {pts : List (Int × Int)} (P : PtOk pts) (W : RwOk ws pts.length) : 0 < (alFold ws pts).2 := by
  rw [alFold_eq ws pts fun p hp => (P.ok p hp).1]
  exact prodB_pos fun p hp => (zip_ok P W p hp).1
theorem al_bd {ws : List Int} {pts : List (Int × Int)} (P : PtOk pts) (W : RwOk ws pts.length) : Bd 9100 (alFold ws pts).1 ∧ Bd 7001 (alFold ws pts).2 := by
  have z := bd_al pts.length (ws.zip pts) (zip_len W) fun p hp => (zip_ok P W p hp).2
  have := P.n7
  exact ⟨z.1.mono (by omega), z.2.mono (by omega)⟩
def holdM (ws : List Int) (b : Int) (pts : List (Int × Int)) : Bool := decide ((alFold ws pts).1 ≤ b * (alFold ws pts).2)
def spRaw (K : PySem.W.Frag) : Sp := fun vs H Q _ => ∃ (na pa : Addr) (ws : List Int) (pv : List V) (pts : List (Int × Int)), vs = [.ref na, .ref pa] ∧ H na = some (.tup (ws.map V.int)) ∧ SqL K H pa pv ∧ PtV H pv pts ∧ PtOk pts ∧ RwOk ws pts.length ∧
  ∀ r H', Same H H' → H' r = some (.tup [.int (alFold ws pts).1, .int (alFold ws pts).2]) → Q (.ref r) H'
def spHolds (K : PySem.W.Frag) : Sp := fun vs H Q _ => ∃ (ra pa : Addr) (ws : List Int) (b : Int) (pv : List V) (pts : List (Int × Int)), vs = [.ref ra, .ref pa] ∧ H ra = some (.tup (rowV ws b)) ∧ SqL K H pa pv ∧ PtV H pv pts ∧ PtOk pts ∧ RwOk ws pts.length ∧ Bd 1000 b ∧
  ∀ H', Same H H' → Q (.bl (holdM ws b pts)) H'
/-- a row as one list of numbers, the bound last -/
structure RowOk (r : List Int) (n : Nat) : Prop where
  len : r.length = n + 1
  bd : ∀ x ∈ r, Bd 1000 x
theorem row_split {r : List Int} {n : Nat} (h : r.length = n + 1) : r.take n ++ [r.getD n 0] = r := by
  have e : r[n]? = some (r.getD n 0) := by
    rw [List.getD_eq_getElem?_getD, List.getElem?_eq_getElem (by omega)]
    rfl
  have z := take_snoc e
  rw [← z, List.take_of_length_le (by omega)]
theorem rowV_split {r : List Int} {n : Nat} (h : r.length = n + 1) : rowV (r.take n) (r.getD n 0) = r.map V.int := by
  have e : rowV (r.take n) (r.getD n 0) = (r.take n ++ [r.getD n 0]).map V.int := by
    rw [List.map_append]
    rfl
  rw [e, row_split h]
theorem RowOk.rw {r : List Int} {n : Nat} (h : RowOk r n) : RwOk (r.take n) n := ⟨by rw [List.length_take, h.len]; omega, fun w hw => h.bd w (List.mem_of_mem_take hw)⟩
theorem RowOk.at {r : List Int} {n j : Nat} (h : RowOk r n) (hj : j ≤ n) : r[j]? = some (r.getD j 0) ∧ Bd 1000 (r.getD j 0) := by
  have e : r[j]? = some (r.getD j 0) := by
    rw [List.getD_eq_getElem?_getD, List.getElem?_eq_getElem (by have := h.len; omega)]
    rfl
  exact ⟨e, h.bd _ (List.mem_of_getElem? e)⟩
def holdR (pts : List (Int × Int)) (r : List Int) : Bool := holdM (r.take pts.length) (r.getD pts.length 0) pts
def spLiesIn (K : PySem.W.Frag) : Sp := fun vs H Q _ => ∃ (rm pa : Addr) (rv : List V) (rows : List (List Int)) (pv : List V) (pts : List (Int × Int)), vs = [.ref rm, .ref pa] ∧ SqL K H rm rv ∧ WaysV H rv rows ∧ (∀ r ∈ rows, RowOk r pts.length) ∧ rows.length ≤ 900 ∧
  SqL K H pa pv ∧ PtV H pv pts ∧ PtOk pts ∧ ∀ H', Same H H' → Q (.bl (rows.all (holdR pts))) H'
/-! ### rows added, and what that shows -/
def plc (rows : List (List Int)) (nums : List Int) (j : Nat) : Int := ((rows.zip nums).map fun p => p.1.getD j 0 * p.2).sum
def addM (rows : List (List Int)) (nums : List Int) (n : Nat) : List Int := (List.range (n + 1)).map (plc rows nums)
structure RNOk (rows : List (List Int)) (nums : List Int) (n : Nat) : Prop where
  len : nums.length = rows.length
  row : ∀ r ∈ rows, r.length = n + 1 ∧ ∀ x ∈ r, Bd 1000 x
  num : ∀ x ∈ nums, Bd 1000 x
  few : rows.length ≤ 500
  nar : n ≤ 100
def spAddedUp (K : PySem.W.Frag) : Sp := fun vs H Q _ => ∃ (na rm : Addr) (nums : List Int) (rv : List V) (rows : List (List Int)) (w : Int), vs = [.ref na, .ref rm, .int w] ∧ 0 < w ∧ SqL K H na (nums.map V.int) ∧ SqL K H rm rv ∧ WaysV H rv rows ∧ RNOk rows nums (w.toNat - 1) ∧
  ∀ l H', Same H H' → H l = none → H' l = some (.lst (((List.range w.toNat).map (plc rows nums)).map V.int)) → Q (.ref l) H'
def spAdded (K : PySem.W.Frag) : Sp := fun vs H Q _ => ∃ (rm na : Addr) (rv : List V) (rows : List (List Int)) (nums : List Int) (m : Int), vs = [.ref rm, .ref na, .int m] ∧ 0 ≤ m ∧ SqL K H rm rv ∧ WaysV H rv rows ∧ SqL K H na (nums.map V.int) ∧ RNOk rows nums m.toNat ∧
  ∀ t H', Same H H' → H' t = some (.tup ((addM rows nums m.toNat).map V.int)) → Q (.ref t) H'
theorem zip_get {rows : List (List Int)} {nums : List Int} {i : Nat} {r : List Int} {x : Int} (h1 : rows[i]? = some r) (h2 : nums[i]? = some x) : (rows.zip nums)[i]? = some (r, x) := by
  rw [List.getElem?_zip_eq_some]
  exact ⟨h1, h2⟩
theorem row_at {r : List Int} {j n : Nat} (h : r.length = n + 1) (hj : j ≤ n) : r[j]? = some (r.getD j 0) := by
  have : j < r.length := by omega
  rw [List.getD_eq_getElem?_getD, List.getElem?_eq_getElem this]
  rfl
theorem addM_len (rows : List (List Int)) (nums : List Int) (n : Nat) : (addM rows nums n).length = n + 1 := by
  unfold addM
  rw [List.length_map, List.length_range]
theorem addM_at (rows : List (List Int)) (nums : List Int) {n j : Nat} (h : j ≤ n) : (addM rows nums n)[j]? = some (plc rows nums j) := by
  unfold addM
  rw [List.getElem?_map, List.getElem?_range (by omega)]
  rfl
theorem addM_cut (rows : List (List Int)) (nums : List Int) (n : Nat) : addM rows nums n = (List.range n).map (plc rows nums) ++ [plc rows nums n] := by
  unfold addM
  rw [List.range_succ, List.map_append]
  rfl
/-- what the sums are no more than -/
theorem bd_plc {rows : List (List Int)} {nums : List Int} {n : Nat} (RN : RNOk rows nums n) {j : Nat} (hj : j ≤ n) : Bd 2600 (plc rows nums j) := by
  have key : ∀ l : List (List Int × Int), (∀ p ∈ l, Bd 2000 (p.1.getD j 0 * p.2)) → Bd (2000 + l.length) (l.map fun p => p.1.getD j 0 * p.2).sum := by
    intro l
    induction l with
    | nil => intro _; exact (Bd.lit (n := 1) (i := 0)).mono (by simp)
    | cons p t ih =>
      intro h
      have h1 := h p (List.mem_cons_self ..)
      have h2 := ih fun q hq => h q (List.mem_cons_of_mem _ hq)
      rw [List.map_cons, List.sum_cons, List.length_cons]
      exact ((h1.mono (by omega)).add h2).mono (by omega)
  have z := key (rows.zip nums) fun p hp => by
    obtain ⟨a, b⟩ := List.of_mem_zip hp
    obtain ⟨l, hb⟩ := RN.row _ a
    exact ((hb _ (List.mem_of_getElem? (row_at l hj))).mul (RN.num _ b)).mono (by decide)
  refine z.mono ?_
  rw [List.length_zip]
  have := RN.few
  have := RN.len
  omega
/-- numbers by which shares show a row -/
def showM (rows : List (List Int)) (tw : List Int) (o : Int) (nums : List Int) (n : Nat) : Bool :=
  if o = 0 then ((List.range n).map (plc rows nums)).all (fun x => decide (x = 0)) && decide (plc rows nums n < 0)
  else decide ((List.range n).map (plc rows nums) = (tw.take n).map (o * ·)) && decide (plc rows nums n ≤ o * tw.getD n 0)
def lin (n : Nat) (c : Nat → Int) (r : List Int) : Int := ((List.range n).map fun i => r.getD i 0 * c i).sum
theorem sum_swap {α β : Type} (f : α → β → Int) (ys : List β) : ∀ xs : List α, (xs.map fun i => (ys.map fun p => f i p).sum).sum = (ys.map fun p => (xs.map fun i => f i p).sum).sum
  | [] => by
    induction ys with
    | nil => rfl
    | cons y t ih => simp only [List.map_nil, List.sum_nil, List.map_cons, List.sum_cons] at ih ⊢; omega
  | x :: t => by
    rw [List.map_cons, List.sum_cons, sum_swap f ys t]
    have key : ∀ zs : List β, (zs.map fun p => f x p).sum + (zs.map fun p => (t.map fun i => f i p).sum).sum = (zs.map fun p => ((x :: t).map fun i => f i p).sum).sum := by
      intro zs
      induction zs with
      | nil => rfl
      | cons y u ih => simp only [List.map_cons, List.sum_cons] at ih ⊢; omega
    exact key ys
theorem sum_mul {α : Type} (f : α → Int) (c : Int) : ∀ l : List α, (l.map f).sum * c = (l.map fun x => f x * c).sum
  | [] => Int.zero_mul _
  | x :: t => by rw [List.map_cons, List.sum_cons, List.map_cons, List.sum_cons, Int.add_mul, sum_mul f c t]
theorem lin_add (n : Nat) (c : Nat → Int) (rows : List (List Int)) (nums : List Int) : ((List.range n).map fun i => plc rows nums i * c i).sum = ((rows.zip nums).map fun p => lin n c p.1 * p.2).sum := by
  have e : ((List.range n).map fun i => plc rows nums i * c i) = (List.range n).map fun i => ((rows.zip nums).map fun p => p.1.getD i 0 * p.2 * c i).sum :=
    List.map_congr_left fun i _ => sum_mul (fun p : List Int × Int => p.1.getD i 0 * p.2) (c i) (rows.zip nums)
  rw [e, sum_swap (fun i (p : List Int × Int) => p.1.getD i 0 * p.2 * c i)]
  refine congrArg List.sum (List.map_congr_left fun p _ => ?_)
  unfold lin
  rw [sum_mul]
  refine congrArg List.sum (List.map_congr_left fun i _ => ?_)
  rw [Int.mul_right_comm]
theorem fold_hold {n : Nat} {c : Nat → Int} {B : Int} : ∀ l : List (List Int × Int), (∀ p ∈ l, 0 ≤ p.2 ∧ lin n c p.1 ≤ p.1.getD n 0 * B) → (l.map fun p => lin n c p.1 * p.2).sum ≤ (l.map fun p => p.1.getD n 0 * p.2).sum * B
  | [], _ => by rw [List.map_nil, List.map_nil, List.sum_nil, Int.zero_mul]; exact Int.le_refl _
  | p :: t, h => by
    rw [List.map_cons, List.sum_cons, List.map_cons, List.sum_cons, Int.add_mul]
    obtain ⟨h0, h1⟩ := h p (List.mem_cons_self ..)
    have z := Int.mul_le_mul_of_nonneg_right h1 h0
    rw [Int.mul_right_comm] at z
    exact Int.add_le_add z (fold_hold t fun q hq => h q (List.mem_cons_of_mem _ hq))
theorem lin_scale (n : Nat) (c : Nat → Int) (t : Int) (tw : List Int) {f : Nat → Int} (he : ∀ i, i < n → f i = t * tw.getD i 0) : ((List.range n).map fun i => f i * c i).sum = t * lin n c tw := by
  unfold lin
  rw [Int.mul_comm t, sum_mul]
  refine congrArg List.sum (List.map_congr_left fun i hi => ?_)
  rw [he i (List.mem_range.mp hi), Int.mul_assoc, Int.mul_comm t]
theorem shows_hold {n : Nat} {c : Nat → Int} {B t : Int} {rows : List (List Int)} {nums tw : List Int} (h : ∀ p ∈ rows.zip nums, 0 ≤ p.2 ∧ lin n c p.1 ≤ p.1.getD n 0 * B) (hB : 0 < B) (ht : 0 < t) (he : ∀ i, i < n → plc rows nums i = t * tw.getD i 0) (hb : plc rows nums n ≤ t * tw.getD n 0) : lin n c tw ≤ tw.getD n 0 * B := by
  have z := fold_hold _ h
  rw [← lin_add, lin_scale n c t tw he] at z
  have y := Int.mul_le_mul_of_nonneg_right hb (Int.le_of_lt hB)
  have x := Int.le_trans z y
  rw [Int.mul_assoc] at x
  exact Int.le_of_mul_le_mul_left x ht
theorem shows_none {n : Nat} {c : Nat → Int} {B : Int} {rows : List (List Int)} {nums : List Int} (h : ∀ p ∈ rows.zip nums, 0 ≤ p.2 ∧ lin n c p.1 ≤ p.1.getD n 0 * B) (hB : 0 < B) (he : ∀ i, i < n → plc rows nums i = 0) (hb : plc rows nums n < 0) : False := by
  have z := fold_hold _ h
  rw [← lin_add, lin_scale n c 0 [] (fun i hi => by rw [he i hi, Int.zero_mul]), Int.zero_mul] at z
  have y := Int.mul_neg_of_neg_of_pos hb hB
  have w : ((rows.zip nums).map fun p => p.1.getD n 0 * p.2).sum * B = plc rows nums n * B := rfl
  rw [w] at z
  omega
theorem zip_range {ws : List Int} {pts : List (Int × Int)} (h : ws.length = pts.length) : ws.zip pts = (List.range pts.length).map fun i => (ws.getD i 0, pts.getD i (0, 1)) := by
  refine List.ext_getElem ?_ fun i h1 h2 => ?_
  · rw [List.length_zip, List.length_map, List.length_range, h, Nat.min_self]
  · rw [List.length_zip] at h1
    rw [List.getElem_zip, List.getElem_map, List.getElem_range, List.getD_eq_getElem?_getD, List.getD_eq_getElem?_getD, List.getElem?_eq_getElem (by omega), List.getElem?_eq_getElem (by omega)]
    rfl
def bots (pts : List (Int × Int)) : Int := (pts.map (·.2)).foldl (· * ·) 1
theorem prodB_zip {ws : List Int} {pts : List (Int × Int)} (h : ws.length = pts.length) : prodB (ws.zip pts) = bots pts := by
  unfold prodB bots
  have e : (ws.zip pts).map (fun p => p.2.2) = pts.map (·.2) := by
    have := List.map_snd_zip (l₁ := ws) (l₂ := pts) (by omega)
    conv => rhs; rw [← this, List.map_map]
    rfl
  rw [e]
/-- what a row's numbers come to along a point, over the product of the bottoms -/
def coef (pts : List (Int × Int)) (i : Nat) : Int := (pts.getD i (0, 1)).1 * (bots pts).fdiv (pts.getD i (0, 1)).2
theorem al_lin {r : List Int} {pts : List (Int × Int)} (P : PtOk pts) (h : pts.length ≤ r.length) : alFold (r.take pts.length) pts = (lin pts.length (coef pts) r, bots pts) := by
  have hl : (r.take pts.length).length = pts.length := by rw [List.length_take]; omega
  rw [alFold_eq _ _ fun p hp => (P.ok p hp).1, prodB_zip hl]
  refine Prod.ext ?_ rfl
  show sumQ (bots pts) ((r.take pts.length).zip pts) = _
  unfold sumQ lin
  rw [zip_range hl, List.map_map]
  refine congrArg List.sum (List.map_congr_left fun i hi => ?_)
  have hi' := List.mem_range.mp hi
  have e : (r.take pts.length).getD i 0 = r.getD i 0 := by
    rw [List.getD_eq_getElem?_getD, List.getD_eq_getElem?_getD, List.getElem?_take, if_pos hi']
  show (r.take pts.length).getD i 0 * (pts.getD i (0, 1)).1 * (bots pts).fdiv (pts.getD i (0, 1)).2 = r.getD i 0 * coef pts i
  rw [e, Int.mul_assoc]
  rfl
theorem bots_pos {pts : List (Int × Int)} (P : PtOk pts) : 0 < bots pts := by
  have z : 0 < prodB ((List.replicate pts.length (0 : Int)).zip pts) := prodB_pos fun p hp => (P.ok _ (List.of_mem_zip hp).2).1
  rw [prodB_zip (by rw [List.length_replicate])] at z
  exact z
theorem holdR_iff {r : List Int} {pts : List (Int × Int)} (P : PtOk pts) (h : pts.length ≤ r.length) : holdR pts r = true ↔ lin pts.length (coef pts) r ≤ r.getD pts.length 0 * bots pts := by
  unfold holdR holdM
  rw [al_lin P h, decide_eq_true_iff]
/-- what shares show holds at each point that holds the rows -/
theorem show_sound {rows : List (List Int)} {tw : List Int} {o : Int} {nums : List Int} {pts : List (Int × Int)} (P : PtOk pts) (RN : RNOk rows nums pts.length) (ht : tw.length = pts.length + 1) (h0 : ∀ x ∈ nums, 0 ≤ x) (ho : 0 ≤ o) (hs : showM rows tw o nums pts.length = true) (hl : rows.all (holdR pts) = true) : o ≠ 0 ∧ holdR pts tw = true := by
  have hh : ∀ p ∈ rows.zip nums, 0 ≤ p.2 ∧ lin pts.length (coef pts) p.1 ≤ p.1.getD pts.length 0 * bots pts := fun p hp => by
    obtain ⟨a, b⟩ := List.of_mem_zip hp
    exact ⟨h0 _ b, (holdR_iff P (by have := (RN.row _ a).1; omega)).mp (List.all_eq_true.mp hl _ a)⟩
  have hB := bots_pos P
  unfold showM at hs
  by_cases z : o = 0
  · rw [if_pos z, Bool.and_eq_true, List.all_eq_true, decide_eq_true_iff] at hs
    obtain ⟨e1, e2⟩ := hs
    refine (shows_none hh hB (fun i hi => ?_) e2).elim
    exact of_decide_eq_true (e1 _ (List.mem_map.mpr ⟨i, List.mem_range.mpr hi, rfl⟩))
  · rw [if_neg z, Bool.and_eq_true, decide_eq_true_iff, decide_eq_true_iff] at hs
    obtain ⟨e1, e2⟩ := hs
    refine ⟨z, (holdR_iff P (by omega)).mpr (shows_hold hh hB (by omega) (fun i hi => ?_) e2)⟩
    have q := congrArg (fun l => l[i]?) e1
    have hi2 : i < tw.length := by omega
    simp only [List.getElem?_map, List.getElem?_range hi, Option.map_some, List.getElem?_take, if_pos hi, List.getElem?_eq_getElem hi2, Option.some.injEq] at q
    rw [q, List.getD_eq_getElem?_getD, List.getElem?_eq_getElem hi2]
    rfl
def rowT (r : List Int) : PyData := .tuple (r.map PyData.int)
theorem dp_ways {K : PySem.W.Frag} {H : Hp} : ∀ {rv : List V} {rows : List (List Int)}, WaysV H rv rows → DpAll K H rv (rows.map rowT)
  | _, _, .nil => .nil
  | _, _, .cons ⟨a, e, h⟩ t => by
    subst e
    exact .cons (.tup (SqT.of h) (dp_ints _)) (dp_ways t)
theorem lay_ways : ∀ rows : List (List Int), PyData.canLayAll0 (rows.map rowT) = true
  | [] => rfl
  | r :: t => by
    show (PyData.canLayAll0 (r.map PyData.int) && PyData.canLayAll0 (t.map rowT)) = true
    rw [lay_i, lay_ways t]
    rfl
theorem dep_ways : ∀ rows : List (List Int), PyData.depthAll (rows.map rowT) ≤ 1
  | [] => Nat.zero_le _
  | r :: t => by
    show max (PyData.depthAll (r.map PyData.int) + 1) (PyData.depthAll (t.map rowT)) ≤ 1
    rw [dep_i]
    have := dep_ways t
    omega
theorem dep_rows (rows : List (List Int)) : (PyData.list (rows.map rowT)).depth ≤ 60 := by
  show PyData.depthAll (rows.map rowT) + 1 ≤ 60
  have := dep_ways rows
  omega
theorem lay_rows (rows : List (List Int)) : (PyData.list (rows.map rowT)).canLay0 = true := lay_ways rows
theorem eqv_rows0 (rows : List (List Int)) : (!PyData.eqv (.list (rows.map rowT)) (.list [])) = decide (rows ≠ []) := by
  cases rows with
  | nil => rfl
  | cons r t => rfl
end Sh


/-! ## kinds of values -/
namespace Sh
open PySem L2
inductive Kd where
  | int | bool | non | str | lst | tup | dic
  deriving DecidableEq
def Kd.nm : Kd → String
  | .int => "int" | .bool => "bool" | .non => "NoneType" | .str => "str" | .lst => "list" | .tup => "tuple" | .dic => "dict"
def Kd.whole : Kd → Bool
  | .int => true
  | _ => false
def Kd.isInt : Kd → Bool
  | .int => true
  | .bool => true
  | _ => false
def Kd.isBool : Kd → Bool
  | .bool => true
  | _ => false
def Kd.isTup : Kd → Bool
  | .tup => true
  | _ => false
inductive Kof (H : Hp) : V → Kd → Prop where
  | non : Kof H .non .non
  | bl (b : Bool) : Kof H (.bl b) .bool
  | int (i : Int) : Kof H (.int i) .int
  | str (x : Str) : Kof H (.str x) .str
  | lst {a : Addr} {xs : List V} (e : H a = some (.lst xs)) : Kof H (.ref a) .lst
  | tup {a : Addr} {xs : List V} (e : H a = some (.tup xs)) : Kof H (.ref a) .tup
  | dic {a : Addr} {kvs : List (Key × V)} (e : H a = some (.dK kvs)) : Kof H (.ref a) .dic
theorem Kof.ty {K : PySem.W.Frag} {H : Hp} {x : V} {k : Kd} (h : Kof H x k) : TyOf K H x (.type k.nm) := by
  cases h with
  | non => exact .non
  | bl b => exact .bl b
  | int i => exact .int i
  | str x => exact .str x
  | lst e => exact .lst e
  | tup e => exact .tup e
  | dic e => exact .dK e
theorem Kof.same {H H' : Hp} {x : V} {k : Kd} (s : Same H H') (h : Kof H x k) : Kof H' x k := by
  cases h with
  | non => exact .non
  | bl b => exact .bl b
  | int i => exact .int i
  | str x => exact .str x
  | lst e => exact .lst (s _ _ e)
  | tup e => exact .tup (s _ _ e)
  | dic e => exact .dic (s _ _ e)
def Kd.isLst : Kd → Bool
  | .lst => true
  | _ => false
section
variable (K : PySem.W.Frag)
theorem kd_int (k : Kd) : PySem.W.kitOne K (.type k.nm) (.type "int") = some k.isInt := by
  cases k <;> first | rfl | decide +kernel | (unfold PySem.W.kitOne; rw [if_pos (by decide +kernel)]; rfl) | (unfold PySem.W.kitOne; rw [if_neg (by decide +kernel)]; rfl)
theorem kd_bool (k : Kd) : PySem.W.kitOne K (.type k.nm) (.type "bool") = some k.isBool := by
  cases k <;> first | rfl | decide +kernel | (unfold PySem.W.kitOne; rw [if_pos (by decide +kernel)]; rfl) | (unfold PySem.W.kitOne; rw [if_neg (by decide +kernel)]; rfl)
theorem kd_tup (k : Kd) : PySem.W.kitOne K (.type k.nm) (.type "tuple") = some k.isTup := by
  cases k <;> first | rfl | decide +kernel | (unfold PySem.W.kitOne; rw [if_pos (by decide +kernel)]; rfl) | (unfold PySem.W.kitOne; rw [if_neg (by decide +kernel)]; rfl)
theorem kd_lst (k : Kd) : PySem.W.kitOne K (.type k.nm) (.type "list") = some k.isLst := by
  cases k <;> first | rfl | decide +kernel | (unfold PySem.W.kitOne; rw [if_pos (by decide +kernel)]; rfl) | (unfold PySem.W.kitOne; rw [if_neg (by decide +kernel)]; rfl)
end
end Sh
namespace L2
open PySem PySem.Spec PyProof.Rows
section
variable {X : Cx}
theorem op_isB : OpR X (compareOp .Is) (fun x y H Q => ∃ a b, x = .bl a ∧ y = .bl b ∧ Q (.bl (a == b)) H) := by
  intro pins s σ H x y v u Q I rx ry h
  obtain ⟨a, b, rfl, rfl, q⟩ := h
  cases rx
  cases ry
  exact is_bool ⟨.bl (a == b), H, I, rfl, q⟩
theorem op_isnotB : OpR X (compareOp .IsNot) (fun x y H Q => ∃ a b, x = .bl a ∧ y = .bl b ∧ Q (.bl (a != b)) H) := by
  intro pins s σ H x y v u Q I rx ry h
  obtain ⟨a, b, rfl, rfl, q⟩ := h
  cases rx
  cases ry
  exact isnot_bool ⟨.bl (a != b), H, I, rfl, q⟩
end
end L2


/-! ## own classes, in bundles -/
namespace L2
open PySem PySem.Spec PyProof.Rows
/-- a class as the top has made it -/
structure ClsF (K : PySem.W.Frag) (mg : Str → Option Value) (x : Str) (C : Addr) : Prop where
  cl : Cls K C
  mgC : mg x = some (.ref C)
  ha : PySem.W.findIn K (.ref C) "__class__" = some (some (.builtin "object.__class__"))
  hn : PySem.W.specialIn K (.builtin "object.__class__") "__get__" = some (some (.builtin "getset_descriptor.__get__"))
  htk : PySem.W.takesIn K (.builtin "object.__class__") = some true
  hm : PySem.W.mroIn K C (.type "object") = some true
theorem ClsF.ty {K : PySem.W.Frag} {mg : Str → Option Value} {x : Str} {C a dx : Addr} {H : Hp} {fs : List (Str × V)} (T : ClsF K mg x C) (e : H a = some (.ins C dx fs)) : TyOf K H (.ref a) (.ref C) := .ins e T.cl T.ha T.hn T.htk T.hm
/-- a method, with what it promises -/
structure FnM (P : Program) (w : World) (K : PySem.W.Frag) (mg : Str → Option Value) (base : Heap) (C : Addr) (m : Str) (ps : List Str) (k : Nat) (sp : Sp) : Prop where
  ex : ∃ f fd, FnOk P w K mg base CX0 k f fd ps sp ∧ Meth K C m f ∧ Binds K fd ps []
/-- a class that is made, with what its __init__ promises -/
structure FnC (P : Program) (w : World) (K : PySem.W.Frag) (mg : Str → Option Value) (base : Heap) (C : Addr) (ps : List Str) (k : Nat) (sp : Sp) : Prop where
  ex : ∃ f fd, FnOk P w K mg base CX0 k f fd ps sp ∧ Mk K C f ∧ Binds K fd ps []
/-- .. whose last argument may be left out -/
structure FnCD (P : Program) (w : World) (K : PySem.W.Frag) (mg : Str → Option Value) (base : Heap) (C : Addr) (ps : List Str) (k : Nat) (sp : Sp) (dv : V) : Prop where
  ex : ∃ f fd d, FnOk P w K mg base CX0 k f fd ps sp ∧ Mk K C f ∧ Binds K fd ps [] ∧ Binds K fd ps [d] ∧ RelV dv d
theorem FnM.mono {P : Program} {w : World} {K : PySem.W.Frag} {mg : Str → Option Value} {base : Heap} {C : Addr} {m : Str} {ps : List Str} {j k : Nat} {sp : Sp} (F : FnM P w K mg base C m ps j sp) (h : j ≤ k) : FnM P w K mg base C m ps k sp := by
  obtain ⟨f, fd, a, b, c⟩ := F.ex
  exact ⟨f, fd, a.mono h, b, c⟩
theorem FnC.mono {P : Program} {w : World} {K : PySem.W.Frag} {mg : Str → Option Value} {base : Heap} {C : Addr} {ps : List Str} {j k : Nat} {sp : Sp} (F : FnC P w K mg base C ps j sp) (h : j ≤ k) : FnC P w K mg base C ps k sp := by
  obtain ⟨f, fd, a, b, c⟩ := F.ex
  exact ⟨f, fd, a.mono h, b, c⟩
theorem FnCD.mono {P : Program} {w : World} {K : PySem.W.Frag} {mg : Str → Option Value} {base : Heap} {C : Addr} {ps : List Str} {j k : Nat} {sp : Sp} {dv : V} (F : FnCD P w K mg base C ps j sp dv) (h : j ≤ k) : FnCD P w K mg base C ps k sp dv := by
  obtain ⟨f, fd, d, a, b, c⟩ := F.ex
  exact ⟨f, fd, d, a.mono h, b, c⟩
theorem FnCD.fn {P : Program} {w : World} {K : PySem.W.Frag} {mg : Str → Option Value} {base : Heap} {C : Addr} {ps : List Str} {k : Nat} {sp : Sp} {dv : V} (F : FnCD P w K mg base C ps k sp dv) : FnC P w K mg base C ps k sp := by
  obtain ⟨f, fd, d, a, b, c, _⟩ := F.ex
  exact ⟨f, fd, a, b, c⟩
section
variable {X : Cx} {C : Addr} {m x : Str} {ps : List Str} {k : Nat} {sp : Sp} {o e : Expr} {es : List Expr} {ta : TE} {t : TA} {p pos apos : Pos} {dv : V}
theorem pe_methF {pl : Sem Bool} (F : FnM X.prog X.w X.K X.mg X.base C m ps k sp) (T : ClsF X.K X.mg x C) (hr : Room k X.A) (he : PE X o ta) (ha : PA X (e :: es) t)
    (hst : starEach (e :: es) X.env = (false, eval e X.env) :: starEach es X.env := by rfl) (hpl : (backTo pos (starEach es X.env)).any (·.1) = false := by rfl)
    (ht : eval (.Call (.Attribute o m apos) (e :: es) [] pos) X.env = (do
      let ov ← eval o X.env
      standAt apos.atName
      let (f, first) ← holding [ov] (getMethod ov m pl)
      callWith pos f first (backTo pos (starEach (e :: es) X.env)) (backToKw pos (keywordEach [] X.env))) := by rfl) :
    PE X (.Call (.Attribute o m apos) (e :: es) [] pos) (tMeth C m sp [] E0 ta t) := by
  obtain ⟨f, fd, a, b, c⟩ := F.ex
  exact pe_meth he T.cl b a hr c .nil pass0 ha hst hpl ht
theorem pe_methF0 {pl : Sem Bool} (F : FnM X.prog X.w X.K X.mg X.base C m ps k sp) (T : ClsF X.K X.mg x C) (hr : Room k X.A) (he : PE X o ta)
    (ht : eval (.Call (.Attribute o m apos) [] [] pos) X.env = (do
      let ov ← eval o X.env
      standAt apos.atName
      let (f, first) ← holding [ov] (getMethod ov m pl)
      callWith pos f first (backTo pos (starEach [] X.env)) (backToKw pos (keywordEach [] X.env))) := by rfl) :
    PE X (.Call (.Attribute o m apos) [] [] pos) (tMeth C m sp [] E0 ta tNil) := by
  obtain ⟨f, fd, a, b, c⟩ := F.ex
  exact pe_meth0 he T.cl b a hr c .nil pass0 ht
theorem pe_makeF (F : FnC X.prog X.w X.K X.mg X.base C ps k sp) (T : ClsF X.K X.mg x C) (hr : Room (k + 1) X.A) (hg : Gl X x) (ha : PA X (e :: es) t)
    (hdb : (x == ("__debug__" : Str)) = false := by decide) (he : starEach (e :: es) X.env = (false, eval e X.env) :: starEach es X.env := by rfl) (hpl : (backTo pos (starEach es X.env)).any (·.1) = false := by rfl) :
    PE X (.Call (.Name x p) (e :: es) [] pos) (tMake C sp [] E0 t) := by
  obtain ⟨f, fd, a, b, c⟩ := F.ex
  exact pe_make b a hr hg T.mgC c .nil pass0 ha hdb he hpl
theorem pe_makeF1 (F : FnCD X.prog X.w X.K X.mg X.base C ps k sp dv) (T : ClsF X.K X.mg x C) (hr : Room (k + 1) X.A) (hg : Gl X x) (ha : PA X (e :: es) t)
    (hdb : (x == ("__debug__" : Str)) = false := by decide) (he : starEach (e :: es) X.env = (false, eval e X.env) :: starEach es X.env := by rfl) (hpl : (backTo pos (starEach es X.env)).any (·.1) = false := by rfl) :
    PE X (.Call (.Name x p) (e :: es) [] pos) (tMake C sp [dv] E0 t) := by
  obtain ⟨f, fd, d, a, b, _, c, r⟩ := F.ex
  exact pe_make b a hr hg T.mgC c (.cons r .nil) pass0 ha hdb he hpl
theorem pe_makeF0 (F : FnC X.prog X.w X.K X.mg X.base C ps k sp) (T : ClsF X.K X.mg x C) (hr : Room (k + 1) X.A) (hg : Gl X x)
    (hdb : (x == ("__debug__" : Str)) = false := by decide) : PE X (.Call (.Name x p) [] [] pos) (tMake C sp [] E0 tNil) := by
  obtain ⟨f, fd, a, b, c⟩ := F.ex
  exact pe_make0 b a hr hg T.mgC c .nil pass0 hdb
/-- the class by its name -/
theorem pe_cls (T : ClsF X.K X.mg x C) (hg : Gl X x) (hd : (x == ("__debug__" : Str)) = false := by decide) : PE X (.Name x pos) (tC (.ref C)) := pe_glob hg T.mgC rfl hd
/-- isinstance(x, C), C an own class -/
def rInstO (K : PySem.W.Frag) : List V → Hp → VK → Prop := fun xs H Q => ∃ x C t b, xs = [x, .ref C] ∧ TyOf K H x t ∧ PySem.W.kitOne K t (.ref C) = some b ∧ Q (.bl b) H
theorem call_isinstO : CallR X (.builtin "isinstance") (rInstO X.K) := by
  intro pins s σ H xs us Q I r h
  obtain ⟨x, C, t, b, rfl, ty, e, q⟩ := h
  obtain ⟨u, v, rfl, ru, rv⟩ := vals2 r
  cases (show v = Value.ref C from rv)
  exact isinst_ok I ru ty e fun tk => ⟨.bl b, H, I.tok tk, rfl, q⟩
end
end L2


/-! ## a constant of the module; a promise of nothing -/
namespace L2
open PySem PySem.Spec PyProof.Rows
section
variable {X : Cx} {pos : Pos}
theorem pe_const {x : Str} {n : Int} (hg : Gl X x) (h : ∃ t, X.mg x = some (.int n t)) (hd : (x == ("__debug__" : Str)) = false := by decide) : PE X (.Name x pos) (tC (.int n)) :=
  let ⟨t, e⟩ := h
  pe_glob hg e ⟨t, rfl⟩ hd
end
def spNone : Sp := fun _ _ _ _ => False
theorem FnOk.none {P : Program} {w : World} {K : PySem.W.Frag} {mg : Str → Option Value} {base : Heap} {CX : CXT} {k : Nat} {f : Addr} {fd : FuncData} {ps : List Str} : FnOk P w K mg base CX k f fd ps spNone :=
  ⟨fun _ _ _ _ h => h.elim, fun _ _ _ _ _ _ _ _ _ _ _ _ _ h => h.elim⟩
end L2
namespace L2
open PySem PySem.Spec PyProof.Rows PySem.SeqAt
/-- the same object, or two lists of the same objects -/
def EqV (K : PySem.W.Frag) (H : Hp) (v w : V) : Prop := (∃ a, v = .ref a ∧ w = .ref a) ∨ ∃ (a b : Addr) (zs : List V), v = .ref a ∧ w = .ref b ∧ SqL K H a zs ∧ SqL K H b zs ∧ ∀ z ∈ zs, ∃ c, z = .ref c
theorem refs_same {zs : List V} {us ws : List Value} (h : ∀ z ∈ zs, ∃ c, z = V.ref c) (a : Vals zs us) (b : Vals zs ws) : us = ws := by
  induction a generalizing ws with
  | nil => cases b; rfl
  | cons r t ih =>
    cases b with
    | cons r' t' =>
      obtain ⟨c, e⟩ := h _ (List.mem_cons_self ..)
      subst e
      cases r
      cases r'
      rw [ih (fun z hz => h z (List.mem_cons_of_mem _ hz)) t']
section
variable {X : Cx}
theorem eqV_at {pins : List (Addr × Obj)} {σ : St} {H : Hp} {s : Shared} {v w : V} {u1 u2 : Value} (I : Inv X pins σ H s) (r1 : RelV v u1) (r2 : RelV w u2) (h : EqV X.K H v w) (A : Around) (hu : A.units < cLine) : EqAt A s u1 u2 true := by
  rcases h with ⟨a, rfl, rfl⟩ | ⟨a, b, zs, rfl, rfl, ha, hb, hz⟩
  · cases r1
    cases r2
    exact EqAt.same _
  · cases r1
    cases r2
    by_cases e : a = b
    · subst e
      exact EqAt.same _
    obtain ⟨i1, v1, p1, _⟩ := I.list ha
    obtain ⟨i2, v2, p2, _⟩ := I.list hb
    have e12 := refs_same hz v1 v2
    subst e12
    have z := RcAt.lists (e := fun _ => true) p1.isList p2.isList rfl hu fun j _ _ => EqAt.same _
    have y : (List.range i1.toArray.size).all (fun _ => true) = true := List.all_eq_true.mpr fun _ _ => rfl
    rw [y] at z
    exact EqAt.of_refs e z
theorem op_neI (hu : X.A.units + 64 < cLine) : OpR X (compareOp .NotEq) (fun x y H Q => ∃ (l b : Addr) (xs ys : List V), x = .ref l ∧ y = .ref b ∧ SqL X.K H l xs ∧ SqL X.K H b ys ∧ Paired (EqV X.K H) xs ys ∧ Q (.bl false) H) := by
  intro pins s σ H x y v u Q I rx ry h
  obtain ⟨l, b, xs, ys, rfl, rfl, hl, hb, hp, q⟩ := h
  cases rx
  cases ry
  obtain ⟨i1, v1, p1, _⟩ := I.list hl
  obtain ⟨i2, v2, p2, _⟩ := I.list hb
  have lxy := Paired.length hp
  have sz : i1.toArray.size = i2.toArray.size := by
    rw [List.size_toArray, List.size_toArray, ← v1.length, ← v2.length, lxy]
  have he : ∀ j (h1 : j < i1.toArray.size) (h2 : j < i2.toArray.size), EqAt X.A.in1 s i1.toArray[j] i2.toArray[j] true := fun j h1 h2 => by
    rw [List.size_toArray] at h1 h2
    have hx : xs[j]? = some (xs[j]'(by rw [v1.length]; exact h1)) := List.getElem?_eq_getElem _
    obtain ⟨y, hy, e⟩ := Sh.paired_get hp hx
    obtain ⟨u1, g1, r1⟩ := v1.get hx
    obtain ⟨u2, g2, r2⟩ := v2.get hy
    have e1 : i1.toArray[j] = u1 := by
      rw [List.getElem_toArray]
      exact (List.getElem?_eq_some_iff.mp g1).2
    have e2 : i2.toArray[j] = u2 := by
      rw [List.getElem_toArray]
      exact (List.getElem?_eq_some_iff.mp g2).2
    rw [e1, e2]
    refine eqV_at I r1 r2 e _ ?_
    show X.A.in1.units < cLine
    first
      | exact Nat.lt_of_le_of_lt (show X.A.in1.units ≤ X.A.units + 64 by first | exact Nat.le_add_right_of_le (Nat.le_refl _) | (simp [Around.in1]; omega) | (show X.A.units + 1 ≤ _; omega) | (show X.A.units ≤ _; omega)) hu
  have z := RcNeAt.lists (e := fun _ => true) p1.isList p2.isList sz (by omega) he X.prog X.w X.xe (EP X pins σ Q)
  have y : (!(List.range i1.toArray.size).all (fun _ => true)) = false := by rw [List.all_eq_true.mpr fun _ _ => rfl]; rfl
  rw [y] at z
  exact z ⟨.bl false, H, I, rfl, q⟩
end
end L2


/-! ## tuples or lists: walked together, one item; names out of a list -/
namespace L2
open PySem PySem.Spec PyProof.Rows
open PySem
abbrev zttq1 (h : Heap) (t : Addr) : Heap := h.push { cls := .type "tuple_iterator", data := .fields #[.ref t, .int 0 0] }
abbrev zttq2 (h : Heap) (t l : Addr) : Heap := (zttq1 h t).push { cls := .type "tuple_iterator", data := .fields #[.ref l, .int 0 0] }
abbrev zttq3 (h : Heap) (t l : Addr) : Heap := (zttq2 h t l).push { cls := .type "tuple", data := .seq #[.ref h.objs.size, .ref (zttq1 h t).objs.size] }
abbrev zttq4 (h : Heap) (t l : Addr) : Heap := (zttq3 h t l).push { cls := .type "tuple", data := .seq #[.none, .none] }
abbrev zttq5 (h : Heap) (t l : Addr) : Heap := (zttq4 h t l).push { cls := .type "zip", data := .fields #[.none, .bool false, .bool false, .ref (zttq2 h t l).objs.size, .ref (zttq3 h t l).objs.size] }
theorem zip_new_tt (t l : Addr) (xs ys : Array Value) :
    Meets (Builtin.«zip.__new__» ⟨[.type "zip", .ref t, .ref l], []⟩) (fun _ R s => s.heap.IsTuple t xs ∧ s.heap.IsTuple l ys ∧ R (.ok (.ret (.ref (zttq4 s.heap t l).objs.size))) { s with heap := zttq5 s.heap t l }) :=
  .of_wp fun prog w A R s h => by
    obtain ⟨hp, g, d, tk, os⟩ := s; obtain ⟨h1, h2, h⟩ := h
    have hsub := sub_zip
    have e1 : Heap.IsTuple (Shared.heap ⟨hp, g, d, tk, os⟩) t xs := h1
    have e2 : Heap.IsTuple (Shared.heap ⟨hp.push { cls := .type "tuple_iterator", data := .fields #[.ref t, .int 0 0] }, g, d, tk, os⟩) l ys := (let ⟨o, e, r⟩ := h2; ⟨o, Heap.get?_push_of_some _ e, r⟩)
    wp_walk using wpAny_pyIter_tuple e1, wpAny_pyIter_tuple e2
    exact ⟨_, rfl, h⟩
theorem call_zip_tt {prog : Program} {w : World} {A : Around} {E : Value → Shared → Prop} {s : Shared} {t l : Addr} {xs ys : Array Value} {Q : Value → Shared → Prop} (h1 : s.heap.IsTuple t xs) (h2 : s.heap.IsTuple l ys)
    (h : ∀ h', IsZip h' (s.heap.objs.size + 4) (s.heap.objs.size + 2) (s.heap.objs.size + 3) .none → IsPair h' (s.heap.objs.size + 2) (.ref s.heap.objs.size) (.ref (s.heap.objs.size + 1)) → IsPair h' (s.heap.objs.size + 3) .none .none →
      h'.IsTupleIter s.heap.objs.size t 0 → h'.IsTupleIter (s.heap.objs.size + 1) l 0 → (∀ c o, s.heap.get? c = some o → h'.get? c = some o) → Q (.ref (s.heap.objs.size + 4)) { s with heap := h' }) :
    wpAny (model prog w) A (call (.type "zip") [.ref t, .ref l]) Q E s := by
  refine callType_new F.called_zip (by decide) (F.typeCall_zip_2 _ _) (F.newCall_zip_2 _ _) (fun obj => F.args_object_init_3 obj _ _) F.entry_zip_new (zip_new_tt t l xs ys) ⟨h1, h2, ?_⟩
  have n1 : (zttq1 s.heap t).objs.size = s.heap.objs.size + 1 := Heap.size_push ..
  have n2 : (zttq2 s.heap t l).objs.size = s.heap.objs.size + 2 := by rw [Heap.size_push, n1]
  have n3 : (zttq3 s.heap t l).objs.size = s.heap.objs.size + 3 := by rw [Heap.size_push, n2]
  have n4 : (zttq4 s.heap t l).objs.size = s.heap.objs.size + 4 := by rw [Heap.size_push, n3]
  have p5 : (zttq5 s.heap t l).get? (zttq4 s.heap t l).objs.size = some _ := Heap.get?_push_size _ rfl
  have p4 : (zttq5 s.heap t l).get? (zttq3 s.heap t l).objs.size = some _ := Heap.get?_push_of_some _ (Heap.get?_push_size _ rfl)
  have p3 : (zttq5 s.heap t l).get? (zttq2 s.heap t l).objs.size = some _ := Heap.get?_push_of_some _ (Heap.get?_push_of_some _ (Heap.get?_push_size _ rfl))
  have p2 : (zttq5 s.heap t l).get? (zttq1 s.heap t).objs.size = some _ := Heap.get?_push_of_some _ (Heap.get?_push_of_some _ (Heap.get?_push_of_some _ (Heap.get?_push_size _ rfl)))
  have p1 : (zttq5 s.heap t l).get? s.heap.objs.size = some _ := Heap.get?_push_of_some _ (Heap.get?_push_of_some _ (Heap.get?_push_of_some _ (Heap.get?_push_of_some _ (Heap.get?_push_size _ rfl))))
  change _ ∧ _
  rw [n2, n3, n4] at p5
  rw [n1, n2] at p3
  rw [n3] at p4
  rw [n1] at p2
  rw [n4]
  exact ⟨⟨_, p5, rfl⟩, h _ p5 p3 p4 ⟨_, p1, rfl, rfl⟩ ⟨_, p2, rfl, rfl⟩ fun c o x => Heap.get?_push_of_some _ (Heap.get?_push_of_some _ (Heap.get?_push_of_some _ (Heap.get?_push_of_some _ (Heap.get?_push_of_some _ x))))⟩
abbrev zltq1 (h : Heap) (t : Addr) : Heap := h.push { cls := .type "list_iterator", data := .fields #[.ref t, .int 0 0] }
abbrev zltq2 (h : Heap) (t l : Addr) : Heap := (zltq1 h t).push { cls := .type "tuple_iterator", data := .fields #[.ref l, .int 0 0] }
abbrev zltq3 (h : Heap) (t l : Addr) : Heap := (zltq2 h t l).push { cls := .type "tuple", data := .seq #[.ref h.objs.size, .ref (zltq1 h t).objs.size] }
abbrev zltq4 (h : Heap) (t l : Addr) : Heap := (zltq3 h t l).push { cls := .type "tuple", data := .seq #[.none, .none] }
abbrev zltq5 (h : Heap) (t l : Addr) : Heap := (zltq4 h t l).push { cls := .type "zip", data := .fields #[.none, .bool false, .bool false, .ref (zltq2 h t l).objs.size, .ref (zltq3 h t l).objs.size] }
theorem zip_new_lt (t l : Addr) (xs ys : Array Value) :
    Meets (Builtin.«zip.__new__» ⟨[.type "zip", .ref t, .ref l], []⟩) (fun _ R s => s.heap.IsList t xs ∧ s.heap.IsTuple l ys ∧ R (.ok (.ret (.ref (zltq4 s.heap t l).objs.size))) { s with heap := zltq5 s.heap t l }) :=
  .of_wp fun prog w A R s h => by
    obtain ⟨hp, g, d, tk, os⟩ := s; obtain ⟨h1, h2, h⟩ := h
    have hsub := sub_zip
    have e1 : Heap.IsList (Shared.heap ⟨hp, g, d, tk, os⟩) t xs := h1
    have e2 : Heap.IsTuple (Shared.heap ⟨hp.push { cls := .type "list_iterator", data := .fields #[.ref t, .int 0 0] }, g, d, tk, os⟩) l ys := (let ⟨o, e, r⟩ := h2; ⟨o, Heap.get?_push_of_some _ e, r⟩)
    wp_walk using wpAny_pyIter_list e1, wpAny_pyIter_tuple e2
    exact ⟨_, rfl, h⟩
theorem call_zip_lt {prog : Program} {w : World} {A : Around} {E : Value → Shared → Prop} {s : Shared} {t l : Addr} {xs ys : Array Value} {Q : Value → Shared → Prop} (h1 : s.heap.IsList t xs) (h2 : s.heap.IsTuple l ys)
    (h : ∀ h', IsZip h' (s.heap.objs.size + 4) (s.heap.objs.size + 2) (s.heap.objs.size + 3) .none → IsPair h' (s.heap.objs.size + 2) (.ref s.heap.objs.size) (.ref (s.heap.objs.size + 1)) → IsPair h' (s.heap.objs.size + 3) .none .none →
      h'.IsListIter s.heap.objs.size t 0 → h'.IsTupleIter (s.heap.objs.size + 1) l 0 → (∀ c o, s.heap.get? c = some o → h'.get? c = some o) → Q (.ref (s.heap.objs.size + 4)) { s with heap := h' }) :
    wpAny (model prog w) A (call (.type "zip") [.ref t, .ref l]) Q E s := by
  refine callType_new F.called_zip (by decide) (F.typeCall_zip_2 _ _) (F.newCall_zip_2 _ _) (fun obj => F.args_object_init_3 obj _ _) F.entry_zip_new (zip_new_lt t l xs ys) ⟨h1, h2, ?_⟩
  have n1 : (zltq1 s.heap t).objs.size = s.heap.objs.size + 1 := Heap.size_push ..
  have n2 : (zltq2 s.heap t l).objs.size = s.heap.objs.size + 2 := by rw [Heap.size_push, n1]
  have n3 : (zltq3 s.heap t l).objs.size = s.heap.objs.size + 3 := by rw [Heap.size_push, n2]
  have n4 : (zltq4 s.heap t l).objs.size = s.heap.objs.size + 4 := by rw [Heap.size_push, n3]
  have p5 : (zltq5 s.heap t l).get? (zltq4 s.heap t l).objs.size = some _ := Heap.get?_push_size _ rfl
  have p4 : (zltq5 s.heap t l).get? (zltq3 s.heap t l).objs.size = some _ := Heap.get?_push_of_some _ (Heap.get?_push_size _ rfl)
  have p3 : (zltq5 s.heap t l).get? (zltq2 s.heap t l).objs.size = some _ := Heap.get?_push_of_some _ (Heap.get?_push_of_some _ (Heap.get?_push_size _ rfl))
  have p2 : (zltq5 s.heap t l).get? (zltq1 s.heap t).objs.size = some _ := Heap.get?_push_of_some _ (Heap.get?_push_of_some _ (Heap.get?_push_of_some _ (Heap.get?_push_size _ rfl)))
  have p1 : (zltq5 s.heap t l).get? s.heap.objs.size = some _ := Heap.get?_push_of_some _ (Heap.get?_push_of_some _ (Heap.get?_push_of_some _ (Heap.get?_push_of_some _ (Heap.get?_push_size _ rfl))))
  change _ ∧ _
  rw [n2, n3, n4] at p5
  rw [n1, n2] at p3
  rw [n3] at p4
  rw [n1] at p2
  rw [n4]
  exact ⟨⟨_, p5, rfl⟩, h _ p5 p3 p4 ⟨_, p1, rfl, rfl⟩ ⟨_, p2, rfl, rfl⟩ fun c o x => Heap.get?_push_of_some _ (Heap.get?_push_of_some _ (Heap.get?_push_of_some _ (Heap.get?_push_of_some _ (Heap.get?_push_of_some _ x))))⟩
def ItzTT (K : PySem.W.Frag) (a b : Addr) : It :=
  ⟨fun i H => ∃ xs ys x y, SqT K H a xs ∧ SqT K H b ys ∧ xs[i]? = some x ∧ ys[i]? = some y,
    fun i H v H' => ∃ T x y, v = .ref T ∧ H T = none ∧ H' = upd H T (.tup [x, y]) ∧ (∀ xs, SqT K H a xs → xs[i]? = some x) ∧ ∀ ys, SqT K H b ys → ys[i]? = some y,
    fun i H => ∃ xs ys, SqT K H a xs ∧ SqT K H b ys ∧ i ≤ xs.length ∧ i ≤ ys.length ∧ (i = xs.length ∨ i = ys.length)⟩
theorem turn_zipTT {P : Program} {w : World} {K : PySem.W.Frag} {es : List Expr} {kk : Nat} {tp : Pos} {a b z TI TO i1 i2 : Addr} (Z : Zp z TI TO i1 i2 [i1, a] [i2, b]) (na : a ≠ i1) (nb : b ≠ i2) :
    Turn P w K (.Tuple es kk tp) (ItzTT K a b) [z, TI, TO, i1, i2] z (fun i h => IsZip h z TI TO .none ∧ IsPair h TI (.ref i1) (.ref i2) ∧ (∃ x y, IsPair h TO x y) ∧ h.IsTupleIter i1 a i ∧ h.IsTupleIter i2 b i) where
  mem := by simp
  obj := fun i h ⟨t1, t2, ⟨x, y, t3⟩, t4, t5⟩ c hc => by
    simp only [List.mem_cons, List.not_mem_nil, or_false] at hc
    rcases hc with rfl | rfl | rfl | rfl | rfl
    · exact ⟨_, t1, fields_no_cell⟩
    · exact ⟨_, t2, seq_no_cell⟩
    · exact ⟨_, t3, seq_no_cell⟩
    · obtain ⟨o, e, _, d⟩ := t4
      exact ⟨o, e, by rw [d]; exact fields_no_cell⟩
    · obtain ⟨o, e, _, d⟩ := t5
      exact ⟨o, e, by rw [d]; exact fields_no_cell⟩
  keep := fun i h h' ⟨t1, t2, ⟨x, y, t3⟩, t4, t5⟩ k => ⟨k z (by simp) _ t1, k TI (by simp) _ t2, ⟨x, y, k TO (by simp) _ t3⟩, (by obtain ⟨o, e, r⟩ := t4; exact ⟨o, k i1 (by simp) o e, r⟩), (by obtain ⟨o, e, r⟩ := t5; exact ⟨o, k i2 (by simp) o e, r⟩)⟩
  item := by
    intro X hP hw hK hc i pins s σ H E I hf ⟨t1, t2, ⟨x0, y0, t3⟩, t4, t5⟩ hg
    subst hP hw hK
    obtain ⟨xs, ys, x, y, hq1, hq2, hx, hy⟩ := hg
    obtain ⟨its1, rv1, p1, _⟩ := I.tuple hq1
    obtain ⟨its2, rv2, p2, _⟩ := I.tuple hq2
    obtain ⟨u, hu, ru⟩ := rv1.get hx
    obtain ⟨v, hv, rv⟩ := rv2.get hy
    have hh : X.A.in1.handled = none := I.ok.hd hc
    have l1 : i < its1.toArray.size := by rw [List.size_toArray]; exact (List.getElem?_eq_some_iff.mp hu).1
    have l2 : i < its2.toArray.size := by rw [List.size_toArray]; exact (List.getElem?_eq_some_iff.mp hv).1
    refine zip_next (draws_tup hh i1 a na its1.toArray) (draws_tup hh i2 b nb its2.toArray) Z t1 t2 t3 ⟨t4, p1⟩ ⟨t5, p2⟩ l1 l2 ?_
    intro x' y' h1 tk px py z1 z2 z3 z4 z5 z6 keep
    have ex : x' = u := by
      have q : its1.toArray[i]? = some x' := px
      simp only [List.getElem?_toArray] at q
      rw [hu] at q
      exact (Option.some.inj q).symm
    have ey : y' = v := by
      have q : its2.toArray[i]? = some y' := py
      simp only [List.getElem?_toArray] at q
      rw [hv] at q
      exact (Option.some.inj q).symm
    subst ex ey
    refine ⟨_, rfl, wpAny_letOwnedTupleGo_zip (s := { s with heap := h1, toks := tk }) z1 fun h2 z7 sb => ?_⟩
    have zlt : z < s.heap.objs.size := Heap.lt_size t1
    have keep2 : ∀ c o, c ∉ [z, TI, TO, i1, i2] → s.heap.get? c = some o → h2.get? c = some o := fun c o hc e => by
      simp only [List.mem_cons, List.not_mem_nil, or_false, not_or] at hc
      exact sb.extBut c o hc.1 (keep c o hc.1 hc.2.2.1 hc.2.2.2.1 hc.2.2.2.2 e)
    have pT : IsPair h2 s.heap.objs.size x' y' := sb.extBut _ _ (Nat.ne_of_gt zlt) z6
    have I' := I.turnT (h' := h2) (tk := tk) (ch := [z, TI, TO, i1, i2]) (x := x) (y := y) hf keep2 (Nat.le_refl _) pT ru rv
    refine ⟨.ref s.heap.objs.size, _, I', rfl, ⟨s.heap.objs.size, x, y, rfl, I.hok.fresh (Nat.le_refl _), rfl, fun xs' q => by rw [I.tuple_inj q hq1]; exact hx, fun ys' q => by rw [I.tuple_inj q hq2]; exact hy⟩,
      ⟨z7, sb.extBut _ _ Z.a1 z2, ⟨_, _, sb.extBut _ _ Z.a2 z3⟩, z4.1.extBut sb.extBut Z.a3, z5.1.extBut sb.extBut Z.a4⟩, fun c hc => ?_⟩
    have := (hf c hc).1
    rw [upd_ne]
    · exact this
    · intro q
      obtain ⟨o, e, _⟩ : ∃ o, s.heap.get? c = some o ∧ True := by
        simp only [List.mem_cons, List.not_mem_nil, or_false] at hc
        rcases hc with rfl | rfl | rfl | rfl | rfl
        · exact ⟨_, t1, trivial⟩
        · exact ⟨_, t2, trivial⟩
        · exact ⟨_, t3, trivial⟩
        · obtain ⟨o, e, _⟩ := t4; exact ⟨o, e, trivial⟩
        · obtain ⟨o, e, _⟩ := t5; exact ⟨o, e, trivial⟩
      rw [q] at e
      exact absurd (Heap.lt_size e) (Nat.lt_irrefl _)
  done := by
    intro X hP hw hK hc i pins s σ H E I hf ⟨t1, t2, ⟨x0, y0, t3⟩, t4, t5⟩ hg
    subst hP hw hK
    obtain ⟨xs, ys, hq1, hq2, e1, e2, e3⟩ := hg
    obtain ⟨its1, rv1, p1, _⟩ := I.tuple hq1
    obtain ⟨its2, rv2, p2, _⟩ := I.tuple hq2
    have hh : X.A.in1.handled = none := I.ok.hd hc
    have n1 : its1.toArray.size = xs.length := by rw [List.size_toArray]; exact rv1.length.symm
    have n2 : its2.toArray.size = ys.length := by rw [List.size_toArray]; exact rv2.length.symm
    refine zip_end (draws_tup hh i1 a na its1.toArray) (draws_tup hh i2 b nb its2.toArray) Z t1 t2 t3 ⟨t4, p1⟩ ⟨t5, p2⟩ (by omega) (by omega) (by omega) ?_
    intro h1 tk keep
    refine ⟨rfl, I.turnN (h' := h1) (tk := tk) (ch := [z, TI, TO, i1, i2]) hf fun c o hc e => ?_⟩
    simp only [List.mem_cons, List.not_mem_nil, or_false, not_or] at hc
    exact keep c o hc.1 hc.2.2.1 hc.2.2.2.1 hc.2.2.2.2 e
  self := fun _ _ _ _ _ st h => wpAny_pyIter_zip st.1 h
theorem comp_zipTT {K : PySem.W.Frag} {a b : Addr} {xs ys : List V} {g : TG} {te : TE} {σ0 : St} {H : Hp} {Q : VK} (Pv : Nat → List V → St → Hp → Prop) (h0 : Pv 0 [] σ0 H) (hl : ∀ i zs σ H, i ≤ xs.length → Pv i zs σ H → SqT K H a xs ∧ SqT K H b ys ∧ zs.length ≤ i) (hlen : xs.length ≤ ys.length) (hz : xs.length ≤ sizeLine)
    (hs : ∀ i x y T zs σ H, xs[i]? = some x → ys[i]? = some y → H T = none → Pv i zs σ H → g (.ref T) σ (upd H T (.tup [x, y])) fun σ2 H2 => te σ2 H2 fun z H3 => Pv (i + 1) (zs ++ [z]) σ2 H3)
    (hd : ∀ zs σ H, Pv xs.length zs σ H → ∀ p, H p = none → Q (.ref p) (upd H p (.lst zs))) : CompGo (ItzTT K a b) g te Q σ0 H := by
  refine ⟨fun i m zs σ H => m = xs.length - i ∧ i ≤ xs.length ∧ Pv i zs σ H, ⟨xs.length, by simp, Nat.zero_le _, h0⟩, ?_⟩
  rintro i m zs σ H ⟨rfl, hi, p⟩
  obtain ⟨q1, q2, hy⟩ := hl i zs σ H hi p
  by_cases hlt : i < xs.length
  · have hlt2 : i < ys.length := by omega
    refine .inr ⟨⟨xs, ys, xs[i], ys[i], q1, q2, by simp [hlt], by simp [hlt2]⟩, by omega, fun z σ' H' => Pv (i + 1) (zs ++ [z]) σ' H', fun z σ' H' p' => ⟨xs.length - (i + 1), by omega, rfl, hlt, p'⟩, fun v H' y => ?_⟩
    obtain ⟨T, x, y, rfl, hT, rfl, c1, c2⟩ := y
    exact hs i x y T zs σ H (c1 xs q1) (c2 ys q2) hT p
  · have e : i = xs.length := by omega
    subst e
    exact .inl ⟨⟨xs, ys, q1, q2, Nat.le_refl _, hlen, .inl rfl⟩, hd zs σ H p⟩
def ItzLT (K : PySem.W.Frag) (a b : Addr) : It :=
  ⟨fun i H => ∃ xs ys x y, SqL K H a xs ∧ SqT K H b ys ∧ xs[i]? = some x ∧ ys[i]? = some y,
    fun i H v H' => ∃ T x y, v = .ref T ∧ H T = none ∧ H' = upd H T (.tup [x, y]) ∧ (∀ xs, SqL K H a xs → xs[i]? = some x) ∧ ∀ ys, SqT K H b ys → ys[i]? = some y,
    fun i H => ∃ xs ys, SqL K H a xs ∧ SqT K H b ys ∧ i ≤ xs.length ∧ i ≤ ys.length ∧ (i = xs.length ∨ i = ys.length)⟩
theorem turn_zipLT {P : Program} {w : World} {K : PySem.W.Frag} {es : List Expr} {kk : Nat} {tp : Pos} {a b z TI TO i1 i2 : Addr} (Z : Zp z TI TO i1 i2 [i1, a] [i2, b]) (na : a ≠ i1) (nb : b ≠ i2) :
    Turn P w K (.Tuple es kk tp) (ItzLT K a b) [z, TI, TO, i1, i2] z (fun i h => IsZip h z TI TO .none ∧ IsPair h TI (.ref i1) (.ref i2) ∧ (∃ x y, IsPair h TO x y) ∧ h.IsListIter i1 a i ∧ h.IsTupleIter i2 b i) where
  mem := by simp
  obj := fun i h ⟨t1, t2, ⟨x, y, t3⟩, t4, t5⟩ c hc => by
    simp only [List.mem_cons, List.not_mem_nil, or_false] at hc
    rcases hc with rfl | rfl | rfl | rfl | rfl
    · exact ⟨_, t1, fields_no_cell⟩
    · exact ⟨_, t2, seq_no_cell⟩
    · exact ⟨_, t3, seq_no_cell⟩
    · obtain ⟨o, e, _, d⟩ := t4
      exact ⟨o, e, by rw [d]; exact fields_no_cell⟩
    · obtain ⟨o, e, _, d⟩ := t5
      exact ⟨o, e, by rw [d]; exact fields_no_cell⟩
  keep := fun i h h' ⟨t1, t2, ⟨x, y, t3⟩, t4, t5⟩ k => ⟨k z (by simp) _ t1, k TI (by simp) _ t2, ⟨x, y, k TO (by simp) _ t3⟩, (by obtain ⟨o, e, r⟩ := t4; exact ⟨o, k i1 (by simp) o e, r⟩), (by obtain ⟨o, e, r⟩ := t5; exact ⟨o, k i2 (by simp) o e, r⟩)⟩
  item := by
    intro X hP hw hK hc i pins s σ H E I hf ⟨t1, t2, ⟨x0, y0, t3⟩, t4, t5⟩ hg
    subst hP hw hK
    obtain ⟨xs, ys, x, y, hq1, hq2, hx, hy⟩ := hg
    obtain ⟨its1, rv1, p1, _⟩ := I.list hq1
    obtain ⟨its2, rv2, p2, _⟩ := I.tuple hq2
    obtain ⟨u, hu, ru⟩ := rv1.get hx
    obtain ⟨v, hv, rv⟩ := rv2.get hy
    have hh : X.A.in1.handled = none := I.ok.hd hc
    have l1 : i < its1.toArray.size := by rw [List.size_toArray]; exact (List.getElem?_eq_some_iff.mp hu).1
    have l2 : i < its2.toArray.size := by rw [List.size_toArray]; exact (List.getElem?_eq_some_iff.mp hv).1
    refine zip_next (Draws.list hh i1 a na its1.toArray) (draws_tup hh i2 b nb its2.toArray) Z t1 t2 t3 ⟨t4, p1.isList⟩ ⟨t5, p2⟩ l1 l2 ?_
    intro x' y' h1 tk px py z1 z2 z3 z4 z5 z6 keep
    have ex : x' = u := by
      have q : its1.toArray[i]? = some x' := px
      simp only [List.getElem?_toArray] at q
      rw [hu] at q
      exact (Option.some.inj q).symm
    have ey : y' = v := by
      have q : its2.toArray[i]? = some y' := py
      simp only [List.getElem?_toArray] at q
      rw [hv] at q
      exact (Option.some.inj q).symm
    subst ex ey
    refine ⟨_, rfl, wpAny_letOwnedTupleGo_zip (s := { s with heap := h1, toks := tk }) z1 fun h2 z7 sb => ?_⟩
    have zlt : z < s.heap.objs.size := Heap.lt_size t1
    have keep2 : ∀ c o, c ∉ [z, TI, TO, i1, i2] → s.heap.get? c = some o → h2.get? c = some o := fun c o hc e => by
      simp only [List.mem_cons, List.not_mem_nil, or_false, not_or] at hc
      exact sb.extBut c o hc.1 (keep c o hc.1 hc.2.2.1 hc.2.2.2.1 hc.2.2.2.2 e)
    have pT : IsPair h2 s.heap.objs.size x' y' := sb.extBut _ _ (Nat.ne_of_gt zlt) z6
    have I' := I.turnT (h' := h2) (tk := tk) (ch := [z, TI, TO, i1, i2]) (x := x) (y := y) hf keep2 (Nat.le_refl _) pT ru rv
    refine ⟨.ref s.heap.objs.size, _, I', rfl, ⟨s.heap.objs.size, x, y, rfl, I.hok.fresh (Nat.le_refl _), rfl, fun xs' q => by rw [I.list_inj q hq1]; exact hx, fun ys' q => by rw [I.tuple_inj q hq2]; exact hy⟩,
      ⟨z7, sb.extBut _ _ Z.a1 z2, ⟨_, _, sb.extBut _ _ Z.a2 z3⟩, z4.1.extBut sb.extBut Z.a3, z5.1.extBut sb.extBut Z.a4⟩, fun c hc => ?_⟩
    have := (hf c hc).1
    rw [upd_ne]
    · exact this
    · intro q
      obtain ⟨o, e, _⟩ : ∃ o, s.heap.get? c = some o ∧ True := by
        simp only [List.mem_cons, List.not_mem_nil, or_false] at hc
        rcases hc with rfl | rfl | rfl | rfl | rfl
        · exact ⟨_, t1, trivial⟩
        · exact ⟨_, t2, trivial⟩
        · exact ⟨_, t3, trivial⟩
        · obtain ⟨o, e, _⟩ := t4; exact ⟨o, e, trivial⟩
        · obtain ⟨o, e, _⟩ := t5; exact ⟨o, e, trivial⟩
      rw [q] at e
      exact absurd (Heap.lt_size e) (Nat.lt_irrefl _)
  done := by
    intro X hP hw hK hc i pins s σ H E I hf ⟨t1, t2, ⟨x0, y0, t3⟩, t4, t5⟩ hg
    subst hP hw hK
    obtain ⟨xs, ys, hq1, hq2, e1, e2, e3⟩ := hg
    obtain ⟨its1, rv1, p1, _⟩ := I.list hq1
    obtain ⟨its2, rv2, p2, _⟩ := I.tuple hq2
    have hh : X.A.in1.handled = none := I.ok.hd hc
    have n1 : its1.toArray.size = xs.length := by rw [List.size_toArray]; exact rv1.length.symm
    have n2 : its2.toArray.size = ys.length := by rw [List.size_toArray]; exact rv2.length.symm
    refine zip_end (Draws.list hh i1 a na its1.toArray) (draws_tup hh i2 b nb its2.toArray) Z t1 t2 t3 ⟨t4, p1.isList⟩ ⟨t5, p2⟩ (by omega) (by omega) (by omega) ?_
    intro h1 tk keep
    refine ⟨rfl, I.turnN (h' := h1) (tk := tk) (ch := [z, TI, TO, i1, i2]) hf fun c o hc e => ?_⟩
    simp only [List.mem_cons, List.not_mem_nil, or_false, not_or] at hc
    exact keep c o hc.1 hc.2.2.1 hc.2.2.2.1 hc.2.2.2.2 e
  self := fun _ _ _ _ _ st h => wpAny_pyIter_zip st.1 h
theorem comp_zipLT {K : PySem.W.Frag} {a b : Addr} {xs ys : List V} {g : TG} {te : TE} {σ0 : St} {H : Hp} {Q : VK} (Pv : Nat → List V → St → Hp → Prop) (h0 : Pv 0 [] σ0 H) (hl : ∀ i zs σ H, i ≤ xs.length → Pv i zs σ H → SqL K H a xs ∧ SqT K H b ys ∧ zs.length ≤ i) (hlen : xs.length ≤ ys.length) (hz : xs.length ≤ sizeLine)
    (hs : ∀ i x y T zs σ H, xs[i]? = some x → ys[i]? = some y → H T = none → Pv i zs σ H → g (.ref T) σ (upd H T (.tup [x, y])) fun σ2 H2 => te σ2 H2 fun z H3 => Pv (i + 1) (zs ++ [z]) σ2 H3)
    (hd : ∀ zs σ H, Pv xs.length zs σ H → ∀ p, H p = none → Q (.ref p) (upd H p (.lst zs))) : CompGo (ItzLT K a b) g te Q σ0 H := by
  refine ⟨fun i m zs σ H => m = xs.length - i ∧ i ≤ xs.length ∧ Pv i zs σ H, ⟨xs.length, by simp, Nat.zero_le _, h0⟩, ?_⟩
  rintro i m zs σ H ⟨rfl, hi, p⟩
  obtain ⟨q1, q2, hy⟩ := hl i zs σ H hi p
  by_cases hlt : i < xs.length
  · have hlt2 : i < ys.length := by omega
    refine .inr ⟨⟨xs, ys, xs[i], ys[i], q1, q2, by simp [hlt], by simp [hlt2]⟩, by omega, fun z σ' H' => Pv (i + 1) (zs ++ [z]) σ' H', fun z σ' H' p' => ⟨xs.length - (i + 1), by omega, rfl, hlt, p'⟩, fun v H' y => ?_⟩
    obtain ⟨T, x, y, rfl, hT, rfl, c1, c2⟩ := y
    exact hs i x y T zs σ H (c1 xs q1) (c2 ys q2) hT p
  · have e : i = xs.length := by omega
    subst e
    exact .inl ⟨⟨xs, ys, q1, q2, Nat.le_refl _, hlen, .inl rfl⟩, hd zs σ H p⟩
theorem Same.seqT {K : PySem.W.Frag} {H H' : Hp} {a : Addr} {xs : List V} (e : Same H H') (h : SqT K H a xs) : SqT K H' a xs := by
  rcases h with (h | ⟨o, h⟩) | h
  · exact .inl (.inl (e _ _ h))
  · exact .inl (.inr ⟨o, e _ _ h⟩)
  · exact .inr h
def SqE (K : PySem.W.Frag) (H : Hp) (a : Addr) (xs : List V) : Prop := SqT K H a xs ∨ SqL K H a xs
theorem SqE.same {K : PySem.W.Frag} {H H' : Hp} {a : Addr} {xs : List V} (s : Same H H') (h : SqE K H a xs) : SqE K H' a xs := h.imp (fun z => s.seqT z) (fun z => s.seq z)
section
variable {X : Cx} {es : List Expr} {kk : Nat} {tp : Pos}
theorem five {pins : List (Addr × Obj)} {σ : St} {H : Hp} {s : Shared} (I : Inv X pins σ H s) {c : Addr} (hc : c ∈ [s.heap.objs.size + 4, s.heap.objs.size + 2, s.heap.objs.size + 3, s.heap.objs.size, s.heap.objs.size + 1]) : FpOk X pins H c := by
  have ge : s.heap.objs.size ≤ c := by
    simp only [List.mem_cons, List.not_mem_nil, or_false] at hc
    rcases hc with rfl | rfl | rfl | rfl | rfl
    · exact Nat.le_add_right _ 4
    · exact Nat.le_add_right _ 2
    · exact Nat.le_add_right _ 3
    · exact Nat.le_refl _
    · exact Nat.le_add_right _ 1
  exact I.fpOk ge (I.hok.fresh ge)
/-- zip of two, each a tuple or a list -/
def orZ (K : PySem.W.Frag) (H : Hp) (a b : Addr) (R : It → Hp → Prop) : Prop :=
  ((∃ xs, SqT K H a xs) ∧ (∃ ys, SqL K H b ys) ∧ R (Itz K a b) H) ∨ ((∃ xs, SqL K H a xs) ∧ (∃ ys, SqL K H b ys) ∧ R (ItzL K a b) H) ∨ ((∃ xs, SqT K H a xs) ∧ (∃ ys, SqT K H b ys) ∧ R (ItzTT K a b) H) ∨ ((∃ xs, SqL K H a xs) ∧ (∃ ys, SqT K H b ys) ∧ R (ItzLT K a b) H)
def iZipS (K : PySem.W.Frag) (ta : TA) : TI := fun σ H R => ta σ H fun vs H1 => ∃ a b, vs = [.ref a, .ref b] ∧ orZ K H1 a b R
theorem pi_zipS {e1 e2 : Expr} {ta : TA} {p pos : Pos} (hg : Gl X "zip") (hm : X.mg "zip" = none) (ha : PA X [e1, e2] ta) (hs : starEach [e1, e2] X.env = [(false, eval e1 X.env), (false, eval e2 X.env)] := by rfl) (hs2 : starEach [e2] X.env = [(false, eval e2 X.env)] := by rfl) :
    PI X (.Tuple es kk tp) (.Call (.Name "zip" p) [e1, e2] [] pos) (iZipS X.K ta) := by
  intro pins s σ H R I h
  refine Call_ (ld_blt I hg hm (show bootBuiltins "zip" = some (.type "zip") by decide +kernel) (PyProof.Rows.callWith_type1 (thn (ha pos pins s σ H _ I h) fun us s1 ⟨vs, H1, I1, r1, q1⟩ => ?_) (by rw [hs, hs2]) (by rw [hs2]; rfl)))
  obtain ⟨a, b, e, q1⟩ := q1
  subst e
  obtain ⟨u, v, rfl, ru, rv⟩ := vals2 r1
  cases ru
  cases rv
  rcases q1 with ⟨⟨xs, hx⟩, ⟨ys, hy⟩, q⟩ | ⟨⟨xs, hx⟩, ⟨ys, hy⟩, q⟩ | ⟨⟨xs, hx⟩, ⟨ys, hy⟩, q⟩ | ⟨⟨xs, hx⟩, ⟨ys, hy⟩, q⟩
  · obtain ⟨its1, rv1, p1, _⟩ := I1.tuple hx
    obtain ⟨its2, rv2, p2, _⟩ := I1.list hy
    have la : a < s1.heap.objs.size := by obtain ⟨o, e, _⟩ := p1; exact Heap.lt_size e
    have lb : b < s1.heap.objs.size := by obtain ⟨o, n, e, _⟩ := p2; exact Heap.lt_size e
    refine call_zip_tl p1 p2.isList fun h' z1 z2 z3 z4 z5 keep => wpAny_pyIter_zip z1 ?_
    have I2 : Inv X pins σ H1 { s1 with heap := h' } := I1.kept (t' := s1.toks) keep
    exact ⟨s1.heap.objs.size + 4, [s1.heap.objs.size + 4, s1.heap.objs.size + 2, s1.heap.objs.size + 3, s1.heap.objs.size, s1.heap.objs.size + 1], _, _, H1, rfl, I2,
      turn_zip (a := a) (b := b) (zp_mk _ _ _ la lb) (Nat.ne_of_lt la) (Nat.ne_of_lt (Nat.lt_succ_of_lt lb)), ⟨z1, z2, ⟨_, _, z3⟩, z4, z5⟩, fun c hc => five I1 hc, q⟩
  · obtain ⟨its1, rv1, p1, _⟩ := I1.list hx
    obtain ⟨its2, rv2, p2, _⟩ := I1.list hy
    have la : a < s1.heap.objs.size := by obtain ⟨o, n, e, _⟩ := p1; exact Heap.lt_size e
    have lb : b < s1.heap.objs.size := by obtain ⟨o, n, e, _⟩ := p2; exact Heap.lt_size e
    refine call_zip_2 p1.isList p2.isList fun h' z1 z2 z3 z4 z5 _ keep => wpAny_pyIter_zip z1 ?_
    have I2 : Inv X pins σ H1 { s1 with heap := h' } := I1.kept (t' := s1.toks) keep
    exact ⟨s1.heap.objs.size + 4, [s1.heap.objs.size + 4, s1.heap.objs.size + 2, s1.heap.objs.size + 3, s1.heap.objs.size, s1.heap.objs.size + 1], _, _, H1, rfl, I2,
      turn_zipL (a := a) (b := b) (zp_mk _ _ _ la lb) (Nat.ne_of_lt la) (Nat.ne_of_lt (Nat.lt_succ_of_lt lb)), ⟨z1, z2, ⟨_, _, z3⟩, z4, z5⟩, fun c hc => five I1 hc, q⟩
  · obtain ⟨its1, rv1, p1, _⟩ := I1.tuple hx
    obtain ⟨its2, rv2, p2, _⟩ := I1.tuple hy
    have la : a < s1.heap.objs.size := by obtain ⟨o, e, _⟩ := p1; exact Heap.lt_size e
    have lb : b < s1.heap.objs.size := by obtain ⟨o, e, _⟩ := p2; exact Heap.lt_size e
    refine call_zip_tt p1 p2 fun h' z1 z2 z3 z4 z5 keep => wpAny_pyIter_zip z1 ?_
    have I2 : Inv X pins σ H1 { s1 with heap := h' } := I1.kept (t' := s1.toks) keep
    exact ⟨s1.heap.objs.size + 4, [s1.heap.objs.size + 4, s1.heap.objs.size + 2, s1.heap.objs.size + 3, s1.heap.objs.size, s1.heap.objs.size + 1], _, _, H1, rfl, I2,
      turn_zipTT (a := a) (b := b) (zp_mk _ _ _ la lb) (Nat.ne_of_lt la) (Nat.ne_of_lt (Nat.lt_succ_of_lt lb)), ⟨z1, z2, ⟨_, _, z3⟩, z4, z5⟩, fun c hc => five I1 hc, q⟩
  · obtain ⟨its1, rv1, p1, _⟩ := I1.list hx
    obtain ⟨its2, rv2, p2, _⟩ := I1.tuple hy
    have la : a < s1.heap.objs.size := by obtain ⟨o, n, e, _⟩ := p1; exact Heap.lt_size e
    have lb : b < s1.heap.objs.size := by obtain ⟨o, e, _⟩ := p2; exact Heap.lt_size e
    refine call_zip_lt p1.isList p2 fun h' z1 z2 z3 z4 z5 keep => wpAny_pyIter_zip z1 ?_
    have I2 : Inv X pins σ H1 { s1 with heap := h' } := I1.kept (t' := s1.toks) keep
    exact ⟨s1.heap.objs.size + 4, [s1.heap.objs.size + 4, s1.heap.objs.size + 2, s1.heap.objs.size + 3, s1.heap.objs.size, s1.heap.objs.size + 1], _, _, H1, rfl, I2,
      turn_zipLT (a := a) (b := b) (zp_mk _ _ _ la lb) (Nat.ne_of_lt la) (Nat.ne_of_lt (Nat.lt_succ_of_lt lb)), ⟨z1, z2, ⟨_, _, z3⟩, z4, z5⟩, fun c hc => five I1 hc, q⟩
/-- x[i], x a tuple or a list -/
def rIxE (K : PySem.W.Frag) : R2 := fun x y H Q => ∃ p xs i v, x = .ref p ∧ y = .int i ∧ SqE K H p xs ∧ atI xs i = some v ∧ Q v H
theorem ix_seqE : IxR X (rIxE X.K) := by
  intro value slice pins s σ H x y v u Q I rx ry h hs
  obtain ⟨p, xs, i, z, e1, e2, hq, he, q⟩ := h
  rcases hq with hq | hq
  · exact ix_tup value slice pins s σ H x y v u Q I rx ry ⟨p, xs, i, z, e1, e2, hq, he, q⟩ hs
  · exact ix_list value slice pins s σ H x y v u Q I rx ry ⟨p, xs, i, z, e1, e2, hq, he, q⟩ hs
end
theorem comp_zipS {K : PySem.W.Frag} {a b : Addr} {xs ys : List V} {g : TG} {te : TE} {σ0 : St} {H : Hp} {Q : VK} (ha : SqE K H a xs) (hb : SqE K H b ys) (Pv : Nat → List V → St → Hp → Prop) (h0 : Pv 0 [] σ0 H) (hl : ∀ i zs σ H', i ≤ xs.length → Pv i zs σ H' → Same H H' ∧ zs.length ≤ i) (hlen : xs.length ≤ ys.length) (hz : xs.length ≤ sizeLine)
    (hs : ∀ i x y T zs σ H, xs[i]? = some x → ys[i]? = some y → H T = none → Pv i zs σ H → g (.ref T) σ (upd H T (.tup [x, y])) fun σ2 H2 => te σ2 H2 fun z H3 => Pv (i + 1) (zs ++ [z]) σ2 H3)
    (hd : ∀ zs σ H, Pv xs.length zs σ H → ∀ p, H p = none → Q (.ref p) (upd H p (.lst zs))) : orZ K H a b fun J H' => CompGo J g te Q σ0 H' := by
  rcases ha with ha | ha
  · rcases hb with hb | hb
    · exact .inr (.inr (.inl ⟨⟨_, ha⟩, ⟨_, hb⟩, comp_zipTT Pv h0 (fun i zs σ H' hi p => ⟨(hl i zs σ H' hi p).1.seqT ha, (hl i zs σ H' hi p).1.seqT hb, (hl i zs σ H' hi p).2⟩) hlen hz hs hd⟩))
    · exact .inl ⟨⟨_, ha⟩, ⟨_, hb⟩, comp_zip Pv h0 (fun i zs σ H' hi p => ⟨(hl i zs σ H' hi p).1.seqT ha, (hl i zs σ H' hi p).1.seq hb, (hl i zs σ H' hi p).2⟩) hlen hz hs hd⟩
  · rcases hb with hb | hb
    · exact .inr (.inr (.inr ⟨⟨_, ha⟩, ⟨_, hb⟩, comp_zipLT Pv h0 (fun i zs σ H' hi p => ⟨(hl i zs σ H' hi p).1.seq ha, (hl i zs σ H' hi p).1.seqT hb, (hl i zs σ H' hi p).2⟩) hlen hz hs hd⟩))
    · exact .inr (.inl ⟨⟨_, ha⟩, ⟨_, hb⟩, comp_zipL Pv h0 (fun i zs σ H' hi p => ⟨(hl i zs σ H' hi p).1.seq ha, (hl i zs σ H' hi p).1.seq hb, (hl i zs σ H' hi p).2⟩) hlen hz hs hd⟩)
section
variable {prog : Program} {w : World} {A : Around} {E : Value → Shared → Prop}
theorem drawL {it l : Addr} {xs : Array Value} (ne : l ≠ it) : ∀ (m j : Nat) (s : Shared) (R : List Value → Shared → Prop), s.heap.IsListIter it l j → s.heap.IsList l xs → j + m ≤ xs.size →
    (∀ g, g.IsListIter it l (j + m) → Heap.SameBut it s.heap g → R ((xs.toList.drop j).take m) { s with heap := g }) → wpAny (model prog w) A (draw (.ref it) m) R E s
  | 0, j, s, R, hi, _, _, k => wpAny_pure (by simpa using k s.heap hi (Heap.SameBut.refl ..))
  | m + 1, j, s, R, hi, hl, le, k => by
    have lt : j < xs.size := by omega
    have step := fun g (z : Heap.SameBut it s.heap g) => (hl.extBut z.extBut ne : g.IsList l xs)
    show wpAny _ _ (pyNext (.ref it) >>= _) R E s
    refine wpAny_bind (wpAny_pyNext_list_item hi hl (x := xs[j]) (by simp [lt]) fun g1 i1 b1 => ?_)
    refine wpAny_bind (wpAny_holding (drawL ne m (j + 1) _ _ i1 (step g1 b1) (by omega) fun g2 i2 b2 => wpAny_pure ?_))
    have z := k g2 (by rw [show j + (m + 1) = j + 1 + m by omega]; exact i2) (b1.trans b2)
    rw [show xs.toList.drop j = xs[j] :: xs.toList.drop (j + 1) by simp [List.drop_eq_getElem_cons, lt], List.take_succ_cons] at z
    exact z
theorem itemsL {s : Shared} {l : Addr} {xs : Array Value} {R : List Value → Shared → Prop} (hd : A.handled = none) (hl : s.heap.IsList l xs)
    (k : ∀ g, Heap.ExtBut s.heap.objs.size s.heap g → R xs.toList { s with heap := g }) : wpAny (model prog w) A (unpackItems (.ref l) xs.size none) R E s := by
  have ne : l ≠ s.heap.objs.size := by
    obtain ⟨o, eo, _⟩ := hl
    exact Nat.ne_of_lt (Heap.lt_size eo)
  unfold unpackItems
  refine wpAny_bind ?_
  unfold notIterableAtAll
  refine wpAny_bind (wpAny_specialOf hl.typeIs slot_list_iter.lookup ?_)
  refine wpAny_pure ?_
  simp only [Bool.false_eq_true, if_false]
  refine wpAny_bind (wpAny_holding (wpAny_pyIter_list hl ?_))
  refine wpAny_bind (wpAny_holding (drawL ne xs.size 0 _ _ ⟨_, Heap.get?_push_size _ rfl, rfl, rfl⟩ (hl.push _) (by omega) fun g1 i1 b1 => ?_))
  rw [show List.take xs.size (List.drop 0 xs.toList) = xs.toList by rw [List.drop_zero]; exact List.take_of_length_le (by simp), if_neg (by simp)]
  refine wpAny_bind (wpAny_holding (wpAny_pyNext_list_end hd i1 ((hl.push _).extBut b1.extBut ne) (by simp) fun g2 x2 => ?_))
  simp only [Option.isSome_none, Bool.false_eq_true, if_false]
  exact wpAny_pure (k g2 fun c o n e => x2 c o n (b1.extBut c o n (Heap.get?_push_of_some _ e)))
end
section
variable {X : Cx} {pos : Pos}
/-- (a, b, ..) = a list of that length -/
def gLst (K : PySem.W.Frag) (n : Nat) (t : TGs) : TG := fun v σ H Q => ∃ a xs, v = .ref a ∧ SqL K H a xs ∧ xs.length = n ∧ t xs σ H Q
theorem pg_lst {es : List Expr} {k : Nat} {t : TGs} {n : Nat} (hc : X.calm = true) (h : PGs X es t)
    (hn : (assignEach es X.env).length = n := by rfl) (hst : (assignEach es X.env).findIdx? (·.1) = none := by rfl) : PG X (.Tuple es k pos) (gLst X.K n t) := by
  intro pins s σ H v u Q I r hw
  obtain ⟨a, xs, e1, hq, hl, hw⟩ := hw
  subst e1
  cases r
  obtain ⟨its, rv, ht, hz⟩ := I.list hq
  rw [assign_Tuple]
  refine wpAny_bind (wpAny_standAt ?_)
  unfold unpack
  rw [show (assignEach es X.env).length = its.toArray.size by simp [hn, ← hl, rv.length], hst]
  refine wpAny_bind (wpAny_holding (itemsL (I.ok.hd hc) ht.isList fun g hx => ?_))
  have I1 : Inv X pins σ H { s with heap := g } := I.kept (t' := s.toks) fun b o e => hx b o (Nat.ne_of_lt (Heap.lt_size e)) e
  exact h pins _ σ H xs _ Q I1 (by simpa using rv) hw
end
end L2


/-! ## modes and things in the heap; what the defs of steadyhand.things promise of right ones -/
namespace Sh
open PySem L2
/-- a list of numbers -/
def LstI (H : Hp) (v : V) (r : List Int) : Prop := ∃ a, v = .ref a ∧ H a = some (.lst (r.map V.int))
abbrev TabV (H : Hp) (vs : List V) (tab : List (List Int)) : Prop := Paired (LstI H) vs tab
theorem LstI.same {H H' : Hp} {v : V} {r : List Int} (s : Same H H') (h : LstI H v r) : LstI H' v r := let ⟨a, e, q⟩ := h; ⟨a, e, s _ _ q⟩
theorem TabV.same {H H' : Hp} {vs : List V} {tab : List (List Int)} (s : Same H H') (h : TabV H vs tab) : TabV H' vs tab := Paired.mapP h fun _ _ z => z.same s
/-- the same but for one place -/
def SameB (p : Addr) (H H' : Hp) : Prop := ∀ b o, H b = some o → b ≠ p → H' b = some o
theorem Same.but {p : Addr} {H H' : Hp} (s : Same H H') : SameB p H H' := fun b o e _ => s b o e
theorem SameB.trans {p : Addr} {H H1 H2 : Hp} (a : SameB p H H1) (b : SameB p H1 H2) : SameB p H H2 := fun c o e n => b c o (a c o e n) n
theorem sameB_upd (p : Addr) (H : Hp) (o : HO) : SameB p H (upd H p o) := fun b u e n => by rw [upd_ne n]; exact e
/-- .. of what is new -/
def NewL (H0 H : Hp) (v : V) (r : List Int) : Prop := ∃ a, v = .ref a ∧ H0 a = none ∧ H a = some (.lst (r.map V.int))
/-! ### copies -/
def spC0 : Sp := fun vs H Q _ => ∃ i d : Int, vs = [.int i, .int d] ∧ Q (.int i) H
def spC1 : Sp := fun vs H Q _ => (∃ i d : Int, vs = [.int i, .int d] ∧ Q (.int i) H) ∨
  (∃ (a : Addr) (ns : List Int) (d : Int), vs = [.ref a, .int d] ∧ 1 ≤ d ∧ H a = some (.lst (ns.map V.int)) ∧ ns.length ≤ 900 ∧ ∀ l H', Same H H' → H l = none → H' l = some (.lst (ns.map V.int)) → Q (.ref l) H') ∨
  (∃ (a : Addr) (ns : List Int) (d : Int), vs = [.ref a, .int d] ∧ 1 ≤ d ∧ H a = some (.tup (ns.map V.int)) ∧ ns.length ≤ 900 ∧ ∀ t H', Same H H' → H t = none → H' t = some (.tup (ns.map V.int)) → Q (.ref t) H')
def spC2 : Sp := fun vs H Q E => spC1 vs H Q E ∨
  (∃ (a : Addr) (rv : List V) (rows : List (List Int)) (d : Int), vs = [.ref a, .int d] ∧ 2 ≤ d ∧ H a = some (.lst rv) ∧ WaysV H rv rows ∧ rows.length ≤ 900 ∧ (∀ r ∈ rows, r.length ≤ 900) ∧ ∀ l lv H', Same H H' → H l = none → H' l = some (.lst lv) → WaysV H' lv rows → Q (.ref l) H') ∨
  (∃ (a : Addr) (tv : List V) (tab : List (List Int)) (d : Int), vs = [.ref a, .int d] ∧ 2 ≤ d ∧ H a = some (.lst tv) ∧ TabV H tv tab ∧ tab.length ≤ 900 ∧ (∀ r ∈ tab, r.length ≤ 900) ∧ ∀ l lv H', Same H H' → H l = none → H' l = some (.lst lv) → Paired (NewL H H') lv tab → Q (.ref l) H')
/-! ### what is looked at -/
def spIsWhole : Sp := fun vs H Q _ => ∃ i : Int, vs = [.int i] ∧ Q (.bl true) H
def spIsNumbers : Sp := fun vs H Q _ => ∃ (a : Addr) (ns : List Int), vs = [.ref a, .int (ns.length : Int)] ∧ H a = some (.lst (ns.map V.int)) ∧ ns.length ≤ 900 ∧ ∀ H', Same H H' → Q (.bl true) H'
def spIsTable : Sp := fun vs H Q _ => ∃ (a : Addr) (tv : List V) (tab : List (List Int)) (w : Nat), vs = [.ref a, .int (tab.length : Int), .int (w : Int)] ∧ H a = some (.lst tv) ∧ TabV H tv tab ∧ tab.length ≤ 900 ∧ (∀ r ∈ tab, r.length = w) ∧ w ≤ 900 ∧ ∀ H', Same H H' → Q (.bl true) H'
def spIsRow : Sp := fun vs H Q _ => ∃ (a : Addr) (ns : List Int) (n : Nat), vs = [.ref a, .int (n : Int)] ∧ H a = some (.tup (ns.map V.int)) ∧ ns.length = n + 1 ∧ n ≤ 800 ∧ ∀ H', Same H H' → Q (.bl true) H'
def spIsRoom : Sp := fun vs H Q _ => ∃ (a : Addr) (rv : List V) (rows : List (List Int)) (n : Nat), vs = [.ref a, .int (n : Int)] ∧ H a = some (.lst rv) ∧ WaysV H rv rows ∧ rows.length ≤ 900 ∧ (∀ r ∈ rows, r.length = n + 1) ∧ n ≤ 800 ∧ ∀ H', Same H H' → Q (.bl true) H'
def spIsPush : Sp := fun vs H Q _ => ∃ (a : Addr) (lo hi : Int), vs = [.ref a] ∧ H a = some (.tup [.int lo, .int hi]) ∧ lo ≤ hi ∧ Q (.bl true) H
/-! ### modes -/
structure MD where
  rows : List (List Int)
  nexts : List (List Int)
  steer : List Int
  push : List (List Int)
  add : List Int
  div : Int
structure MDOk (m : MD) (n p : Nat) : Prop where
  rows : ∀ r ∈ m.rows, r.length = n + 1
  few : m.rows.length ≤ 900
  nexts : m.nexts.length = n ∧ ∀ r ∈ m.nexts, r.length = n
  steer : m.steer.length = n
  push : m.push.length = n ∧ ∀ r ∈ m.push, r.length = p
  add : m.add.length = n
  div : 1 ≤ m.div
  n3 : n ≤ 3
  p6 : p ≤ 12
def modeF (r n s p a : V) (d : Int) : List (Str × V) := [("rows", r), ("nexts", n), ("steer", s), ("push", p), ("add", a), ("divisor", .int d)]
/-- a mode in the heap -/
structure ModeAt (C : Addr) (H : Hp) (o : Addr) (m : MD) where
  dx : Addr
  r : Addr
  rv : List V
  n : Addr
  nv : List V
  s : Addr
  p : Addr
  pv : List V
  a : Addr
structure ModeAt.Ok {C : Addr} {H : Hp} {o : Addr} {m : MD} (M : ModeAt C H o m) : Prop where
  ins : H o = some (.ins C M.dx (modeF (.ref M.r) (.ref M.n) (.ref M.s) (.ref M.p) (.ref M.a) m.div))
  hr : H M.r = some (.lst M.rv)
  hrv : WaysV H M.rv m.rows
  hn : H M.n = some (.lst M.nv)
  hnv : TabV H M.nv m.nexts
  hs : H M.s = some (.lst (m.steer.map V.int))
  hp : H M.p = some (.lst M.pv)
  hpv : TabV H M.pv m.push
  ha : H M.a = some (.lst (m.add.map V.int))
def ModeV (C : Addr) (H : Hp) (v : V) (m : MD) : Prop := ∃ (o : Addr) (M : ModeAt C H o m), v = .ref o ∧ M.Ok
theorem ModeV.same {C : Addr} {H H' : Hp} {v : V} {m : MD} (s : Same H H') (h : ModeV C H v m) : ModeV C H' v m :=
  let ⟨o, M, e, k⟩ := h
  ⟨o, ⟨M.dx, M.r, M.rv, M.n, M.nv, M.s, M.p, M.pv, M.a⟩, e, ⟨s _ _ k.ins, s _ _ k.hr, WaysV.same s k.hrv, s _ _ k.hn, TabV.same s k.hnv, s _ _ k.hs, s _ _ k.hp, TabV.same s k.hpv, s _ _ k.ha⟩⟩
/-- Mode(..) of right parts: all that it keeps is new -/
def spModeInit (C : Addr) : Sp := fun vs H Q _ => ∃ (o dx ra na sa pa aa : Addr) (rv nv pv : List V) (m : MD) (n p : Nat), vs = [.ref o, .ref ra, .ref na, .ref sa, .ref pa, .ref aa, .int m.div] ∧ H o = some (.ins C dx []) ∧ MDOk m n p ∧
  H ra = some (.lst rv) ∧ WaysV H rv m.rows ∧ H na = some (.lst nv) ∧ TabV H nv m.nexts ∧ H sa = some (.lst (m.steer.map V.int)) ∧ H pa = some (.lst pv) ∧ TabV H pv m.push ∧ H aa = some (.lst (m.add.map V.int)) ∧
  ∀ (M : ModeAt C H o m) (H' : Hp), SameB o H H' → (ModeAt.mk (C := C) (H := H') (o := o) (m := m) M.dx M.r M.rv M.n M.nv M.s M.p M.pv M.a).Ok → H M.r = none → H M.n = none → H M.s = none → H M.p = none → H M.a = none → Paired (NewL H H') M.nv m.nexts → Paired (NewL H H') M.pv m.push → Q .non H'
def spIsMode (C : Addr) : Sp := fun vs H Q _ => ∃ (v : V) (m : MD) (n p : Nat), vs = [v, .int (n : Int), .int (p : Int)] ∧ ModeV C H v m ∧ MDOk m n p ∧ ∀ H', Same H H' → Q (.bl true) H'
def PuV (H : Hp) (v : V) (b : Int × Int) : Prop := ∃ a, v = .ref a ∧ H a = some (.tup [.int b.1, .int b.2])
theorem PuV.same {H H' : Hp} {v : V} {b : Int × Int} (s : Same H H') (h : PuV H v b) : PuV H' v b := let ⟨a, e, q⟩ := h; ⟨a, e, s _ _ q⟩
/-- right parts of a thing -/
structure ThOk (n : Nat) (bs : List (Int × Int)) (ms : List MD) : Prop where
  n1 : 1 ≤ n
  n3 : n ≤ 3
  bok : ∀ b ∈ bs, b.1 ≤ b.2
  b6 : bs.length ≤ 6
  m1 : 1 ≤ ms.length
  m40 : ms.length ≤ 40
  mok : ∀ m ∈ ms, MDOk m n bs.length
def spIsSound (C : Addr) : Sp := fun vs H Q _ => ∃ (pa ma : Addr) (pv mv : List V) (n : Nat) (bs : List (Int × Int)) (ms : List MD), vs = [.int (n : Int), .ref pa, .ref ma] ∧ H pa = some (.lst pv) ∧ Paired (PuV H) pv bs ∧ H ma = some (.lst mv) ∧ Paired (ModeV C H) mv ms ∧ ThOk n bs ms ∧ ∀ H', Same H H' → Q (.bl true) H'
def thingF (n : Int) (p m : V) : List (Str × V) := [("many", .int n), ("kept_pushes", p), ("kept_modes", m)]
structure ThingAt (C CM : Addr) (H : Hp) (o : Addr) (n : Nat) (bs : List (Int × Int)) (ms : List MD) (pv mv : List V) (kp km : Addr) : Prop where
  ins : ∃ dx, H o = some (.ins C dx (thingF (n : Int) (.ref kp) (.ref km)))
  hp : H kp = some (.lst pv)
  hpv : Paired (PuV H) pv bs
  hm : H km = some (.lst mv)
  hmv : Paired (ModeV CM H) mv ms
theorem ThingAt.same {C CM : Addr} {H H' : Hp} {o : Addr} {n : Nat} {bs : List (Int × Int)} {ms : List MD} {pv mv : List V} {kp km : Addr} (s : Same H H') (h : ThingAt C CM H o n bs ms pv mv kp km) : ThingAt C CM H' o n bs ms pv mv kp km :=
  ⟨let ⟨dx, e⟩ := h.ins; ⟨dx, s _ _ e⟩, s _ _ h.hp, Paired.mapP h.hpv fun _ _ z => z.same s, s _ _ h.hm, Paired.mapP h.hmv fun _ _ z => z.same s⟩
def spThingInit (C CM : Addr) : Sp := fun vs H Q _ => ∃ (o dx pa ma : Addr) (pv mv : List V) (n : Nat) (bs : List (Int × Int)) (ms : List MD), vs = [.ref o, .int (n : Int), .ref pa, .ref ma] ∧ H o = some (.ins C dx []) ∧ H pa = some (.lst pv) ∧ Paired (PuV H) pv bs ∧ H ma = some (.lst mv) ∧ Paired (ModeV CM H) mv ms ∧ ThOk n bs ms ∧
  ∀ (kp km : Addr) (H' : Hp), SameB o H H' → H kp = none → H km = none → kp ≠ km → H' o = some (.ins C dx (thingF (n : Int) (.ref kp) (.ref km))) → H' kp = some (.lst pv) → H' km = some (.lst mv) → Q .non H'
def spPushes (C CM : Addr) : Sp := fun vs H Q _ => ∃ (o kp km : Addr) (n : Nat) (bs : List (Int × Int)) (ms : List MD) (pv mv : List V), vs = [.ref o] ∧ ThingAt C CM H o n bs ms pv mv kp km ∧ ∀ l H', Same H H' → H l = none → H' l = some (.lst pv) → Q (.ref l) H'
def spModes (C CM : Addr) : Sp := fun vs H Q _ => ∃ (o kp km : Addr) (n : Nat) (bs : List (Int × Int)) (ms : List MD) (pv mv : List V), vs = [.ref o] ∧ ThingAt C CM H o n bs ms pv mv kp km ∧ ∀ l H', Same H H' → H l = none → H' l = some (.lst mv) → Q (.ref l) H'
def spUnsteered (C : Addr) : Sp := fun vs H Q _ => ∃ (v : V) (m : MD), vs = [v] ∧ ModeV C H v m ∧ m.steer.length ≤ 900 ∧ ∀ H', Same H H' → Q (.bl (m.steer.all (fun x => decide (x = 0)))) H'
def spClosed (C CM : Addr) : Sp := fun vs H Q _ => ∃ (o kp km : Addr) (n : Nat) (bs : List (Int × Int)) (ms : List MD) (pv mv : List V), vs = [.ref o] ∧ ThingAt C CM H o n bs ms pv mv kp km ∧ ThOk n bs ms ∧ ∀ H', Same H H' → Q (.bl (ms.all fun m => m.steer.all (fun x => decide (x = 0)))) H'
def spPlain (C CM : Addr) : Sp := fun vs H Q _ => ∃ (o kp km : Addr) (n : Nat) (bs : List (Int × Int)) (ms : List MD) (pv mv : List V), vs = [.ref o] ∧ ThingAt C CM H o n bs ms pv mv kp km ∧ ThOk n bs ms ∧ Q (.bl (decide (ms.length = 1) && decide ((ms.map MD.rows).getD 0 [] = []))) H
theorem dec_intS (a b : Int) : decide (V.int a = V.int b) = decide (a = b) := by
  by_cases h : a = b
  · rw [h, decide_eq_true rfl, decide_eq_true rfl]
  · rw [decide_eq_false h, decide_eq_false fun z => h (by injection z)]
theorem kit_self {K : PySem.W.Frag} {C : Addr} : PySem.W.kitOne K (.ref C) (.ref C) = some true := by
  unfold PySem.W.kitOne
  rw [if_pos (by simp)]
theorem all_true : ∀ n : Nat, (List.replicate n true).all id = true
  | 0 => rfl
  | n + 1 => by rw [List.replicate_succ, List.all_cons, all_true n]; rfl
theorem keepB {o : Addr} {H H' : Hp} {C dx : Addr} {fs : List (Str × V)} (ho : H o = some (.ins C dx fs)) (s : SameB o H H') {a : Addr} {u : HO} (h : H a = some u) (hu : u ≠ .ins C dx fs) : H' a = some u :=
  s _ _ h fun e => hu (by rw [e, ho] at h; exact (Option.some.inj h).symm)
theorem freeB {o : Addr} {H H' : Hp} (s : SameB o H H') {x : HO} (ho : H' o = some x) {l : Addr} (h : H' l = none) : H l = none := by
  cases e : H l with
  | none => rfl
  | some u =>
    have n : l ≠ o := fun z => by rw [z, ho] at h; cases h
    rw [s _ _ e n] at h
    cases h
theorem WaysV.keepB {o : Addr} {H H' : Hp} {C dx : Addr} {fs : List (Str × V)} (ho : H o = some (.ins C dx fs)) (s : SameB o H H') {vs : List V} {rows : List (List Int)} (h : WaysV H vs rows) : WaysV H' vs rows :=
  Paired.mapP h fun _ _ ⟨a, e, q⟩ => ⟨a, e, Sh.keepB ho s q fun z => by cases z⟩
theorem TabV.keepB {o : Addr} {H H' : Hp} {C dx : Addr} {fs : List (Str × V)} (ho : H o = some (.ins C dx fs)) (s : SameB o H H') {vs : List V} {tab : List (List Int)} (h : TabV H vs tab) : TabV H' vs tab :=
  Paired.mapP h fun _ _ ⟨a, e, q⟩ => ⟨a, e, Sh.keepB ho s q fun z => by cases z⟩
theorem NewL.tab {H0 H : Hp} {vs : List V} {tab : List (List Int)} (h : Paired (NewL H0 H) vs tab) : TabV H vs tab := Paired.mapP h fun _ _ ⟨a, e, _, q⟩ => ⟨a, e, q⟩
theorem mode_put (r n s p a : V) (d : Int) : putF "divisor" (.int d) (putF "add" a (putF "push" p (putF "steer" s (putF "nexts" n (putF "rows" r []))))) = modeF r n s p a d := rfl
end Sh


/-! ## places that are left out of the heap -/
namespace Sh
open PySem L2
def off (B : List Addr) (H H' : Hp) : Prop := ∀ b o, H b = some o → b ∉ B → H' b = some o
theorem off.refl (B : List Addr) (H : Hp) : off B H H := fun _ _ e _ => e
theorem off.put {B : List Addr} {H H' : Hp} {x : Addr} (o : HO) (h : off B H H') (hx : x ∈ B) : off B H (upd H' x o) := fun b u e nb => by
  rw [upd_ne (fun e' => by rw [e'] at nb; exact nb hx)]
  exact h b u e nb
theorem off.new {B : List Addr} {H H' : Hp} {x : Addr} (o : HO) (h : off B H H') (hx : H' x = none) : off B H (upd H' x o) := fun b u e nb => by
  have z := h b u e nb
  rw [upd_ne (fun e' => by rw [e', hx] at z; cases z)]
  exact z
theorem off.trans {B : List Addr} {H H1 H2 : Hp} (a : off B H H1) (b : off B H1 H2) : off B H H2 := fun c o e n => b c o (a c o e n) n
theorem off.same {B : List Addr} {H H1 H2 : Hp} (a : off B H H1) (b : Same H1 H2) : off B H H2 := fun c o e n => b c o (a c o e n)
theorem off.of {B : List Addr} {H H1 : Hp} (s : Same H H1) : off B H H1 := fun c o e _ => s c o e
theorem off_sub {A B : List Addr} {H H1 : Hp} (h1 : off A H H1) (h : ∀ x ∈ A, x ∈ B) : off B H H1 := fun b o e n => h1 _ _ e fun z => n (h _ z)
/-- what changed was new, but for B -/
theorem off.cut {A B : List Addr} {H H1 : Hp} (h1 : off A H H1) (h : ∀ x ∈ A, x ∉ B → H x = none) : off B H H1 := fun b o e n => h1 _ _ e fun z => by
  rw [h b z n] at e
  cases e
theorem off_nil {H H1 : Hp} (h : off [] H H1) : Same H H1 := fun b o e => h b o e (fun z => by cases z)
theorem off.free {B : List Addr} {H H' : Hp} (s : off B H H') {l : Addr} (h : H' l = none) (n : l ∉ B) : H l = none := by
  cases e : H l with
  | none => rfl
  | some u => rw [s _ _ e n] at h; cases h
def hide (B : List Addr) (H : Hp) : Hp := fun b => if b ∈ B then none else H b
theorem hide_sub {B : List Addr} {H : Hp} : Same (hide B H) H := fun b o h => by
  unfold hide at h
  by_cases e : b ∈ B
  · rw [if_pos e] at h; cases h
  · rw [if_neg e] at h; exact h
theorem hide_at {B : List Addr} {H : Hp} {b : Addr} (e : b ∉ B) : hide B H b = H b := by unfold hide; rw [if_neg e]
theorem hide_in {B : List Addr} {H : Hp} {b : Addr} (e : b ∈ B) : hide B H b = none := by unfold hide; rw [if_pos e]
theorem hide_mem {B : List Addr} {H : Hp} {b : Addr} {o : HO} (h : hide B H b = some o) : b ∉ B := fun e => by rw [hide_in e] at h; cases h
theorem hide_off {B : List Addr} {H H' : Hp} (s : off B H H') : Same (hide B H) (hide B H') := fun b o h => by
  have e := hide_mem h
  rw [hide_at e] at h ⊢
  exact s _ _ h e
theorem hide_same {B : List Addr} {H H' : Hp} (s : Same H H') : Same (hide B H) (hide B H') := hide_off fun b o h _ => s _ _ h
theorem hide_fresh {B : List Addr} {H H' : Hp} (f : ∀ x ∈ B, H x = none) (s : Same H H') : Same H (hide B H') := fun b o h => by
  rw [hide_at (fun e => by rw [f b e] at h; cases h)]
  exact s _ _ h
/-- more is hidden, but it is new -/
theorem hide_grow {B C : List Addr} {H H' : Hp} (f : ∀ x ∈ C, x ∉ B → H x = none) (s : off B H H') : Same (hide B H) (hide C H') := fun b o h => by
  have e := hide_mem h
  rw [hide_at e] at h
  rw [hide_at (fun z => by rw [f b z e] at h; cases h)]
  exact s _ _ h e
theorem same_but {H H1 H2 : Hp} {x : Addr} (s : Same H H1) (b : SameB x H1 H2) (n : H x = none) : Same H H2 := fun c o e => b _ _ (s _ _ e) (ne_of_none e n)
theorem same_make {H : Hp} {x dx : Addr} (hx : H x = none) (hdx : H dx = none) (ne : dx ≠ x) (u o : HO) : Same H (upd (upd H dx u) x o) :=
  (same_new hdx _).trans (same_new ((upd_ne (Ne.symm ne)).trans hx) _)
/-- what has come since -/
def mns (H H' : Hp) : Hp := fun b => match H b with | none => H' b | some _ => none
theorem mns_at {H H' : Hp} {b : Addr} (h : H b = none) : mns H H' b = H' b := by
  unfold mns
  rw [h]
theorem mns_ex {H H' : Hp} {b : Addr} {o : HO} (h : mns H H' b = some o) : H b = none ∧ H' b = some o := by
  unfold mns at h
  cases e : H b with
  | none => rw [e] at h; exact ⟨rfl, h⟩
  | some u => rw [e] at h; cases h
theorem mns_sub {H H' : Hp} : Same (mns H H') H' := fun b o h => (mns_ex h).2
theorem mns_same {H H1 H2 : Hp} (s : Same H1 H2) : Same (mns H H1) (mns H H2) := fun b o h => by
  obtain ⟨h1, h2⟩ := mns_ex h
  rw [mns_at h1]
  exact s _ _ h2
/-- new places of a first part, and of a second one -/
theorem two_first {as1 as2 : List Addr} {la : Addr} {H H1 H2 : Hp} {o : HO} (hl : H la = some o) (o2 : off [la] H1 H2) (f2 : ∀ a ∈ as2, H1 a = none) : Same (hide as1 (mns H H1)) (hide (as1 ++ as2) (mns H H2)) := fun b u h => by
  have n := hide_mem h
  rw [hide_at n] at h
  obtain ⟨h1, h2⟩ := mns_ex h
  rw [hide_at (fun z => (List.mem_append.mp z).elim n (fun z => by rw [f2 b z] at h2; cases h2)), mns_at h1]
  exact o2 _ _ h2 (fun z => by rw [List.mem_singleton.mp z, hl] at h1; cases h1)
theorem two_second {as1 as2 : List Addr} {la : Addr} {H H1 H2 : Hp} {o : HO} (hl : H1 la = some o) (o1 : off [la] H H1) (s1 : ∀ a ∈ as1, ∃ u, H1 a = some u) : Same (hide as2 (mns H1 H2)) (hide (as1 ++ as2) (mns H H2)) := fun b u h => by
  have n := hide_mem h
  rw [hide_at n] at h
  obtain ⟨h1, h2⟩ := mns_ex h
  rw [hide_at (fun z => (List.mem_append.mp z).elim (fun z => by obtain ⟨u, e⟩ := s1 b z; rw [h1] at e; cases e) n)]
  rw [mns_at (o1.free h1 (fun z => by rw [List.mem_singleton.mp z, hl] at h1; cases h1))]
  exact h2
end Sh
namespace L2
open PySem PySem.Spec PyProof.Rows
section
variable {X : Cx} {e : Expr}
/-- one rule or the other -/
theorem pe_alt {t1 t2 : TE} (h1 : PE X e t1) (h2 : PE X e t2) : PE X e (fun σ H Q => t1 σ H Q ∨ t2 σ H Q) := fun pins s σ H Q I h => h.elim (fun z => h1 pins s σ H Q I z) (fun z => h2 pins s σ H Q I z)
end
theorem FnOk.no {P : Program} {w : World} {K : PySem.W.Frag} {mg : Str → Option Value} {base : Heap} {CX : CXT} {k : Nat} {f : Addr} {fd : FuncData} {ps : List Str} {sp : Sp} (hn : ∀ vs H Q E, ¬ sp vs H Q E) : FnOk P w K mg base CX k f fd ps sp :=
  ⟨fun _ _ _ _ h => (hn _ _ _ _ h).elim, fun _ _ _ _ _ _ _ _ _ _ _ _ _ h => (hn _ _ _ _ h).elim⟩
/-- a loop over zip of a tuple or a list, and a list -/
theorem for_zipE {K : PySem.W.Frag} {a b : Addr} {xs ys : List V} {g : TG} {tb : TS} {D : Ends} {σ : St} {H : Hp} (ha : SqE K H a xs) (hb : SqL K H b ys) (Pv : Nat → St → Hp → Prop) (h0 : Pv 0 σ H) (hl : ∀ i σ H', i ≤ xs.length → Pv i σ H' → Same H H') (hlen : xs.length ≤ ys.length)
    (hs : ∀ i x y T σ H, xs[i]? = some x → ys[i]? = some y → H T = none → Pv i σ H → g (.ref T) σ (upd H T (.tup [x, y])) fun σ2 H2 => tb { D with nx := Pv (i + 1), ct := Pv (i + 1), bk := D.nx } σ2 H2) (hd : ∀ σ H, Pv xs.length σ H → D.nx σ H) :
    orZ K H a b fun J H' => ∃ W : Nat → Nat → St → Hp → Prop, (∃ m, W 0 m σ H') ∧ ∀ i m σ H, W i m σ H →
      (J.stop i H ∧ D.nx σ H) ∨ (J.go i H ∧ ∃ N : St → Hp → Prop, (∀ σ' H', N σ' H' → ∃ m', m' < m ∧ W (i + 1) m' σ' H') ∧ ∀ x H', J.yld i H x H' → g x σ H' fun σ2 H2 => tb { D with nx := N, ct := N, bk := D.nx } σ2 H2) := by
  rcases ha with ha | ha
  · exact .inl ⟨⟨_, ha⟩, ⟨_, hb⟩, for_zip Pv h0 (fun i σ H' hi p => ⟨(hl i σ H' hi p).seqT ha, (hl i σ H' hi p).seq hb⟩) hlen hs hd⟩
  · exact .inr (.inl ⟨⟨_, ha⟩, ⟨_, hb⟩, for_zipL Pv h0 (fun i σ H' hi p => ⟨(hl i σ H' hi p).seq ha, (hl i σ H' hi p).seq hb⟩) hlen hs hd⟩)
end L2

namespace Sh
theorem dvd_co {a b c : Int} (g : Int.gcd a b = 1) (h : a ∣ b * c) : a ∣ c := by
  rw [← Int.natAbs_dvd_natAbs] at h ⊢
  rw [Int.natAbs_mul] at h
  exact Nat.Coprime.dvd_of_dvd_mul_left (by rw [Int.gcd_eq_natAbs_gcd_natAbs] at g; exact g) h
/-- equal quotients have the same lowest terms -/
theorem low_uniq {t b t' b' : Int} (h : 0 < b) (h' : 0 < b') (e : t * b' = t' * b) : lowT t b = lowT t' b' ∧ lowB t b = lowB t' b' := by
  have hb : b ≠ 0 := by omega
  have hb' : b' ≠ 0 := by omega
  have c1 := low_cross (t := t) hb
  have c2 := low_cross (t := t') hb'
  have p1 := lowB_pos (t := t) hb
  have p2 := lowB_pos (t := t') hb'
  have g1 := low_gcd (t := t) hb
  have g2 := low_gcd (t := t') hb'
  generalize lowT t b = x at *
  generalize lowB t b = y at *
  generalize lowT t' b' = x' at *
  generalize lowB t' b' = y' at *
  have k : x * y' = x' * y := by
    have z : (x * y') * (b * b') = (x' * y) * (b * b') := by
      calc (x * y') * (b * b') = (x * b) * (y' * b') := by grind
        _ = (t * y) * (y' * b') := by rw [c1]
        _ = (t * b') * (y * y') := by grind
        _ = (t' * b) * (y * y') := by rw [e]
        _ = (t' * y') * (b * y) := by grind
        _ = (x' * b') * (b * y) := by rw [c2]
        _ = (x' * y) * (b * b') := by grind
    have ne : b * b' ≠ 0 := Int.mul_ne_zero hb hb'
    exact Int.eq_of_mul_eq_mul_right ne z
  have d1 : y ∣ y' := by
    have : y ∣ x * y' := by rw [k]; exact ⟨x', Int.mul_comm _ _⟩
    have g : Int.gcd y x = 1 := by rw [Int.gcd_comm]; exact g1
    exact dvd_co g this
  have d2 : y' ∣ y := by
    have : y' ∣ x' * y := by rw [← k]; exact ⟨x, Int.mul_comm _ _⟩
    have g : Int.gcd y' x' = 1 := by rw [Int.gcd_comm]; exact g2
    exact dvd_co g this
  have ey : y = y' := by
    have a1 := Int.le_of_dvd p2 d1
    have a2 := Int.le_of_dvd p1 d2
    omega
  subst ey
  exact ⟨Int.eq_of_mul_eq_mul_right (by omega) k, rfl⟩
/-- a rule, as the law's tree has it -/
inductive RT where
  | str (ns : List Int) (a d : Int)
  | stp (t : RT) (lo hi : Int)
  | prt (row : List Int) (x y : RT)
def RT.dep : RT → Nat
  | .str _ _ _ => 1
  | .stp t _ _ => t.dep + 1
  | .prt _ x y => max x.dep y.dep + 1
def RT.leaves : RT → Nat
  | .str _ _ _ => 1
  | .stp t _ _ => t.leaves
  | .prt _ x y => x.leaves + y.leaves
theorem RT.dep_pos (t : RT) : 1 ≤ t.dep := by cases t <;> simp [RT.dep]
def RT.rows : RT → List (List Int)
  | .str _ _ _ => []
  | .stp t _ _ => t.rows
  | .prt r x y => [r] ++ x.rows ++ y.rows
theorem RT.rows_len : ∀ t : RT, t.rows.length + 1 = t.leaves
  | .str _ _ _ => rfl
  | .stp t _ _ => t.rows_len
  | .prt r x y => by
    have h1 := x.rows_len
    have h2 := y.rows_len
    show ([r] ++ x.rows ++ y.rows).length + 1 = x.leaves + y.leaves
    rw [List.length_append, List.length_append]
    show 1 + x.rows.length + y.rows.length + 1 = _
    omega
/-- what it tells at a point -/
def valM (pts : List (Int × Int)) : RT → Int × Int
  | .str ns a d => (lowT ((alFold ns pts).1 + a * (alFold ns pts).2) ((alFold ns pts).2 * d), lowB ((alFold ns pts).1 + a * (alFold ns pts).2) ((alFold ns pts).2 * d))
  | .stp t lo hi => if (valM pts t).1 < lo * (valM pts t).2 then (lo, 1) else if hi * (valM pts t).2 < (valM pts t).1 then (hi, 1) else valM pts t
  | .prt row x y => if (alFold (row.take pts.length) pts).1 ≤ row.getD pts.length 0 * (alFold (row.take pts.length) pts).2 then valM pts x else valM pts y
/-- the sum in lowest terms first, then what is added and the divisor -/
theorem low_add {T B a d : Int} (hB : 0 < B) (hd : 0 < d) : lowT (lowT T B + a * lowB T B) (lowB T B * d) = lowT (T + a * B) (B * d) ∧ lowB (lowT T B + a * lowB T B) (lowB T B * d) = lowB (T + a * B) (B * d) := by
  have hb : B ≠ 0 := by omega
  have p := lowB_pos (t := T) hb
  refine low_uniq (Int.mul_pos p hd) (Int.mul_pos hB hd) ?_
  have c := low_cross (t := T) hb
  generalize lowT T B = x at *
  generalize lowB T B = y at *
  calc (x + a * y) * (B * d) = (x * B) * d + a * y * B * d := by grind
    _ = (T * y) * d + a * y * B * d := by rw [c]
    _ = (T + a * B) * (y * d) := by grind
theorem low_le {T B b : Int} (hB : 0 < B) : lowT T B ≤ b * lowB T B ↔ T ≤ b * B := by
  have hb : B ≠ 0 := by omega
  have p := lowB_pos (t := T) hb
  have c := low_cross (t := T) hb
  generalize lowT T B = x at *
  generalize lowB T B = y at *
  constructor
  · intro h
    have : x * B ≤ b * y * B := Int.mul_le_mul_of_nonneg_right h (by omega)
    rw [c] at this
    have e : b * y * B = (b * B) * y := by grind
    rw [e] at this
    exact Int.le_of_mul_le_mul_right this p
  · intro h
    have : T * y ≤ b * B * y := Int.mul_le_mul_of_nonneg_right h (by omega)
    rw [← c] at this
    have e : b * B * y = (b * y) * B := by grind
    rw [e] at this
    exact Int.le_of_mul_le_mul_right this hB
end Sh


/-! ## fractions handed in; rules and the law's trees in the heap -/
namespace Sh
open PySem L2
theorem bd_gcd {n : Nat} {t b : Int} (h : Bd n b) (hb : b ≠ 0) : Bd n (Int.gcd t b : Int) := by
  refine h.of_le ?_
  rw [Int.natAbs_natCast]
  exact Int.gcd_le_natAbs_right t hb
theorem bd_cm {n : Nat} {t b : Int} (h : Bd n b) (hb : b ≠ 0) : Bd n (cm t b) := by
  unfold cm
  split
  · exact (bd_gcd h hb).neg
  · exact bd_gcd h hb
theorem bd_lowT {n : Nat} {t b : Int} (h : Bd n t) : Bd n (lowT t b) := h.fdiv _
theorem bd_lowB {n : Nat} {t b : Int} (h : Bd n b) : Bd n (lowB t b) := h.fdiv _
def spCommon (K : PySem.W.Frag) : Sp := fun vs H Q _ => ∃ (a : Addr) (ns : List Int), vs = [.ref a] ∧ SqT K H a (ns.map V.int) ∧ Q (.int (gcdAll ns)) H
def spFraction : Sp := fun vs H Q _ => ∃ t b : Int, vs = [.int t, .int b] ∧ b ≠ 0 ∧ Bd 8000 b ∧ ∀ r H', Same H H' → H' r = some (.tup [.int (lowT t b), .int (lowB t b)]) → Q (.ref r) H'
structure Two (H : Hp) (p q : Addr) (a b c d : Int) : Prop where
  p : H p = some (.tup [.int a, .int b])
  q : H q = some (.tup [.int c, .int d])
  b0 : 0 < b
  d0 : 0 < d
  ab : Bd 9000 a
  bb : Bd 9000 b
  cb : Bd 9000 c
  db : Bd 9000 d
def spUnder : Sp := fun vs H Q _ => ∃ (p q : Addr) (a b c d : Int), vs = [.ref p, .ref q] ∧ Two H p q a b c d ∧ Q (.bl (decide (a * d < c * b))) H
def spShare : Sp := fun vs H Q _ => ∃ a b : Int, vs = [.int a, .int b] ∧ Q (.int (Int.gcd a b)) H
def spLowest : Sp := fun vs H Q _ => ∃ t b : Int, vs = [.int t, .int b] ∧ 0 < b ∧ Bd 8000 b ∧ ∀ r H', Same H H' → H' r = some (.tup [.int (lowT t b), .int (lowB t b)]) → Q (.ref r) H'
/-- numbers in a tuple or a list, along a point -/
def spRawE (K : PySem.W.Frag) : Sp := fun vs H Q _ => ∃ (na pa : Addr) (ws : List Int) (pv : List V) (pts : List (Int × Int)), vs = [.ref na, .ref pa] ∧ SqE K H na (ws.map V.int) ∧ SqL K H pa pv ∧ PtV H pv pts ∧ PtOk pts ∧ RwOk ws pts.length ∧
  ∀ r H', Same H H' → H' r = some (.tup [.int (alFold ws pts).1, .int (alFold ws pts).2]) → Q (.ref r) H'
def spDivided (K : PySem.W.Frag) : Sp := fun vs H Q _ => ∃ (na pa : Addr) (ws : List Int) (pv : List V) (pts : List (Int × Int)) (a d : Int), vs = [.ref na, .ref pa, .int a, .int d] ∧ SqE K H na (ws.map V.int) ∧ SqL K H pa pv ∧ PtV H pv pts ∧ PtOk pts ∧ pts.length ≤ 3 ∧ RwOk ws pts.length ∧ Bd 1000 a ∧ 0 < d ∧ Bd 1000 d ∧
  ∀ r H', Same H H' → H' r = some (.tup [.int (lowT ((alFold ws pts).1 + a * (alFold ws pts).2) ((alFold ws pts).2 * d)), .int (lowB ((alFold ws pts).1 + a * (alFold ws pts).2) ((alFold ws pts).2 * d))]) → Q (.ref r) H'
/-- the sum along a point in lowest terms -/
def spSumL (K : PySem.W.Frag) : Sp := fun vs H Q _ => ∃ (na pa : Addr) (ws : List Int) (pv : List V) (pts : List (Int × Int)), vs = [.ref na, .ref pa] ∧ SqE K H na (ws.map V.int) ∧ SqL K H pa pv ∧ PtV H pv pts ∧ PtOk pts ∧ RwOk ws pts.length ∧
  ∀ r H', Same H H' → H' r = some (.tup [.int (lowT (alFold ws pts).1 (alFold ws pts).2), .int (lowB (alFold ws pts).1 (alFold ws pts).2)]) → Q (.ref r) H'
theorem al_bd3 {ws : List Int} {pts : List (Int × Int)} (P : PtOk pts) (n3 : pts.length ≤ 3) (W : RwOk ws pts.length) : Bd 5100 (alFold ws pts).1 ∧ Bd 3001 (alFold ws pts).2 := by
  obtain ⟨a, b⟩ := bd_al pts.length (ws.zip pts) (zip_len W) fun q hq => (zip_ok P W q hq).2
  exact ⟨a.mono (by omega), b.mono (by omega)⟩
/-! ### rules -/
def TrOk (n : Nat) : RT → Prop
  | .str ns a d => ns.length = n ∧ (∀ x ∈ ns, Bd 300 x) ∧ Bd 300 a ∧ 0 < d ∧ Bd 300 d
  | .stp t lo hi => TrOk n t ∧ Bd 300 lo ∧ Bd 300 hi
  | .prt r x y => (r.length = n + 1 ∧ ∀ z ∈ r, Bd 300 z) ∧ TrOk n x ∧ TrOk n y
def strF (l : V) (a d : Int) : List (Str × V) := [("numbers", l), ("add", .int a), ("divisor", .int d)]
def stpF (u : V) (lo hi : Int) : List (Str × V) := [("rule", u), ("low", .int lo), ("high", .int hi)]
def prtF (r u w : V) : List (Str × V) := [("row", r), ("rule", u), ("other", w)]
/-- a rule as the program has it; C1, C2, C3 are its classes -/
def RuleV (C1 C2 C3 : Addr) (H : Hp) : V → RT → Prop
  | v, .str ns a d => ∃ o dx la, v = .ref o ∧ H o = some (.ins C1 dx (strF (.ref la) a d)) ∧ H la = some (.lst (ns.map V.int))
  | v, .stp t lo hi => ∃ o dx u, v = .ref o ∧ H o = some (.ins C2 dx (stpF u lo hi)) ∧ RuleV C1 C2 C3 H u t
  | v, .prt r x y => ∃ o dx ra u w, v = .ref o ∧ H o = some (.ins C3 dx (prtF (.ref ra) u w)) ∧ H ra = some (.tup (r.map V.int)) ∧ RuleV C1 C2 C3 H u x ∧ RuleV C1 C2 C3 H w y
theorem RuleV.same {C1 C2 C3 : Addr} {H H' : Hp} (s : Same H H') : ∀ {t : RT} {v : V}, RuleV C1 C2 C3 H v t → RuleV C1 C2 C3 H' v t
  | .str .., _, ⟨o, dx, la, e, h1, h2⟩ => ⟨o, dx, la, e, s _ _ h1, s _ _ h2⟩
  | .stp .., _, ⟨o, dx, u, e, h1, h2⟩ => ⟨o, dx, u, e, s _ _ h1, RuleV.same s h2⟩
  | .prt .., _, ⟨o, dx, ra, u, w, e, h1, h2, h3, h4⟩ => ⟨o, dx, ra, u, w, e, s _ _ h1, s _ _ h2, RuleV.same s h3, RuleV.same s h4⟩
/-- a rule as the law's tree has it -/
def TreeV (H : Hp) : V → RT → Prop
  | v, .str ns a d => ∃ o la, v = .ref o ∧ H o = some (.tup [.str "straight", .ref la, .int a, .int d]) ∧ H la = some (.lst (ns.map V.int))
  | v, .stp t lo hi => ∃ o u, v = .ref o ∧ H o = some (.tup [.str "stopped", u, .int lo, .int hi]) ∧ TreeV H u t
  | v, .prt r x y => ∃ o ra u w, v = .ref o ∧ H o = some (.tup [.str "parted", .ref ra, u, w]) ∧ H ra = some (.tup (r.map V.int)) ∧ TreeV H u x ∧ TreeV H w y
theorem TreeV.same {H H' : Hp} (s : Same H H') : ∀ {t : RT} {v : V}, TreeV H v t → TreeV H' v t
  | .str .., _, ⟨o, la, e, h1, h2⟩ => ⟨o, la, e, s _ _ h1, s _ _ h2⟩
  | .stp .., _, ⟨o, u, e, h1, h2⟩ => ⟨o, u, e, s _ _ h1, TreeV.same s h2⟩
  | .prt .., _, ⟨o, ra, u, w, e, h1, h2, h3, h4⟩ => ⟨o, ra, u, w, e, s _ _ h1, s _ _ h2, TreeV.same s h3, TreeV.same s h4⟩
def isStr : RT → Bool | .str .. => true | _ => false
def isStp : RT → Bool | .stp .. => true | _ => false
def isPrt : RT → Bool | .prt .. => true | _ => false
theorem rt_kinds (t : RT) : isStr t = true ∨ isStp t = true ∨ isPrt t = true := by cases t <;> simp [isStr, isStp, isPrt]
theorem RuleV.insS {C1 C2 C3 : Addr} {H : Hp} {v : V} : ∀ {t : RT}, RuleV C1 C2 C3 H v t → isStr t = true → ∃ o dx fs, v = .ref o ∧ H o = some (.ins C1 dx fs) ∧ fs.lookup ("steering" : Str) = none
  | .str .., ⟨o, dx, la, e, h1, h2⟩, _ => ⟨o, dx, _, e, h1, rfl⟩
  | .stp .., _, h => by cases h
  | .prt .., _, h => by cases h
theorem RuleV.insT {C1 C2 C3 : Addr} {H : Hp} {v : V} : ∀ {t : RT}, RuleV C1 C2 C3 H v t → isStp t = true → ∃ o dx fs, v = .ref o ∧ H o = some (.ins C2 dx fs) ∧ fs.lookup ("steering" : Str) = none
  | .str .., _, h => by cases h
  | .stp .., ⟨o, dx, u, e, h1, h2⟩, _ => ⟨o, dx, _, e, h1, rfl⟩
  | .prt .., _, h => by cases h
theorem RuleV.insP {C1 C2 C3 : Addr} {H : Hp} {v : V} : ∀ {t : RT}, RuleV C1 C2 C3 H v t → isPrt t = true → ∃ o dx fs, v = .ref o ∧ H o = some (.ins C3 dx fs) ∧ fs.lookup ("steering" : Str) = none
  | .str .., _, h => by cases h
  | .stp .., _, h => by cases h
  | .prt .., ⟨o, dx, ra, u, w, e, h1, h2⟩, _ => ⟨o, dx, _, e, h1, rfl⟩
theorem TrOk.row {n : Nat} {r : List Int} (h : r.length = n + 1 ∧ ∀ z ∈ r, Bd 300 z) : RowOk r n := ⟨h.1, fun x hx => (h.2 x hx).mono (by decide)⟩
theorem TrOk.rows {n : Nat} : ∀ {t : RT}, TrOk n t → ∀ r ∈ t.rows, r.length = n + 1 ∧ ∀ z ∈ r, Bd 300 z
  | .str .., _ => fun r hr => by cases hr
  | .stp .., h => fun r hr => TrOk.rows h.1 r hr
  | .prt q x y, h => fun r hr => by
    rcases List.mem_append.mp hr with hr | hr
    · rcases List.mem_append.mp hr with hr | hr
      · rw [List.mem_singleton.mp hr]; exact h.1
      · exact TrOk.rows h.2.1 r hr
    · exact TrOk.rows h.2.2 r hr
/-- what a rule tells is a fraction, of bounded size -/
theorem val_ok {pts : List (Int × Int)} (P : PtOk pts) (n3 : pts.length ≤ 3) : ∀ {t : RT}, TrOk pts.length t → 0 < (valM pts t).2 ∧ Bd 5500 (valM pts t).1 ∧ Bd 5500 (valM pts t).2
  | .str ns a d, ⟨h1, h2, h3, h4, h5⟩ => by
    have W : RwOk ns pts.length := ⟨h1, fun w hw => (h2 w hw).mono (by decide)⟩
    obtain ⟨b1, b2⟩ := al_bd3 P n3 W
    have p := al_pos P W
    have q := Int.mul_pos p h4
    refine ⟨lowB_pos (by omega), bd_lowT ?_, bd_lowB ?_⟩
    · exact (b1.add ((h3.mul b2).mono (show 300 + 3001 ≤ 5100 by decide))).mono (by decide)
    · exact (b2.mul h5).mono (by decide)
  | .stp t lo hi, ⟨h1, h2, h3⟩ => by
    have ih := val_ok P n3 h1
    show 0 < (if _ then _ else _ : Int × Int).2 ∧ Bd 5500 (if _ then _ else _ : Int × Int).1 ∧ Bd 5500 (if _ then _ else _ : Int × Int).2
    split
    · exact ⟨(show (0 : Int) < 1 by decide), h2.mono (by decide), (show Bd 1 (1 : Int) from Bd.lit).mono (by decide)⟩
    · split
      · exact ⟨(show (0 : Int) < 1 by decide), h3.mono (by decide), (show Bd 1 (1 : Int) from Bd.lit).mono (by decide)⟩
      · exact ih
  | .prt r x y, ⟨h1, h2, h3⟩ => by
    show 0 < (if _ then _ else _ : Int × Int).2 ∧ Bd 5500 (if _ then _ else _ : Int × Int).1 ∧ Bd 5500 (if _ then _ else _ : Int × Int).2
    split
    · exact val_ok P n3 h2
    · exact val_ok P n3 h3
/-! ### what the defs promise -/
def spStraightInit (C : Addr) : Sp := fun vs H Q _ => ∃ (o dx la : Addr) (ns : List Int) (a d : Int), vs = [.ref o, .ref la, .int a, .int d] ∧ H o = some (.ins C dx []) ∧ H la = some (.lst (ns.map V.int)) ∧ ns.length ≤ 900 ∧
  ∀ l H', SameB o H H' → H l = none → H' o = some (.ins C dx (strF (.ref l) a d)) → H' l = some (.lst (ns.map V.int)) → Q .non H'
def spStoppedInit (C : Addr) : Sp := fun vs H Q _ => ∃ (o dx : Addr) (u : V) (lo hi : Int), vs = [.ref o, u, .int lo, .int hi] ∧ H o = some (.ins C dx []) ∧
  ∀ H', SameB o H H' → H' o = some (.ins C dx (stpF u lo hi)) → Q .non H'
def spPartedInit (C : Addr) : Sp := fun vs H Q _ => ∃ (o dx ra : Addr) (r : List Int) (u w : V), vs = [.ref o, .ref ra, u, w] ∧ H o = some (.ins C dx []) ∧ H ra = some (.tup (r.map V.int)) ∧ r.length ≤ 900 ∧
  ∀ rb H', SameB o H H' → H rb = none → H' o = some (.ins C dx (prtF (.ref rb) u w)) → H' rb = some (.tup (r.map V.int)) → Q .non H'
/-- a rule of one kind, at most d deep, asked at a point -/
def spSteer (C1 C2 C3 : Addr) (K : PySem.W.Frag) (kd : RT → Bool) (d : Nat) : Sp := fun vs H Q _ => ∃ (o pa : Addr) (pv : List V) (pts : List (Int × Int)) (t : RT), vs = [.ref o, .ref pa] ∧ kd t = true ∧ t.dep ≤ d ∧ RuleV C1 C2 C3 H (.ref o) t ∧ TrOk pts.length t ∧ SqL K H pa pv ∧ PtV H pv pts ∧ PtOk pts ∧ pts.length ≤ 3 ∧
  ∀ r H', Same H H' → H' r = some (.tup [.int (valM pts t).1, .int (valM pts t).2]) → Q (.ref r) H'
theorem spSteer_no {C1 C2 C3 : Addr} {K : PySem.W.Frag} {kd : RT → Bool} : ∀ vs H Q E, ¬ spSteer C1 C2 C3 K kd 0 vs H Q E := fun _ _ _ _ ⟨_, _, _, _, t, _, _, h, _⟩ => by
  have := t.dep_pos
  omega
/-- the law's value of a tree -/
def spValue (K : PySem.W.Frag) (d : Nat) : Sp := fun vs H Q _ => ∃ (v : V) (pa : Addr) (pv : List V) (pts : List (Int × Int)) (t : RT), vs = [v, .ref pa] ∧ t.dep ≤ d ∧ TreeV H v t ∧ TrOk pts.length t ∧ SqL K H pa pv ∧ PtV H pv pts ∧ PtOk pts ∧ pts.length ≤ 3 ∧
  ∀ r H', Same H H' → H' r = some (.tup [.int (valM pts t).1, .int (valM pts t).2]) → Q (.ref r) H'
theorem spValue_no {K : PySem.W.Frag} : ∀ vs H Q E, ¬ spValue K 0 vs H Q E := fun _ _ _ _ ⟨_, _, _, _, t, _, h, _⟩ => by
  have := t.dep_pos
  omega
def spRowsT (d : Nat) : Sp := fun vs H Q _ => ∃ (v : V) (t : RT), vs = [v] ∧ t.dep ≤ d ∧ TreeV H v t ∧ t.leaves ≤ 100 ∧
  ∀ l lv H', Same H H' → H l = none → H' l = some (.lst lv) → WaysV H' lv t.rows → Q (.ref l) H'
theorem spRowsT_no : ∀ vs H Q E, ¬ spRowsT 0 vs H Q E := fun _ _ _ _ ⟨_, t, _, h, _⟩ => by
  have := t.dep_pos
  omega
/-- a list of numbers, one or more -/
def NumsA (H : Hp) (a : Addr) : Prop := ∃ ns : List Int, H a = some (.lst (ns.map V.int)) ∧ 1 ≤ ns.length
/-- the rule that the law makes of a tree; the lists that it hands in are new, and kept in a list -/
def spRuleL (C1 C2 C3 : Addr) (d : Nat) : Sp := fun vs H Q _ => ∃ (v : V) (la : Addr) (lv : List V) (n : Nat) (t : RT), vs = [v, .ref la] ∧ t.dep ≤ d ∧ TreeV (hide [la] H) v t ∧ TrOk n t ∧ 1 ≤ n ∧ n ≤ 3 ∧ H la = some (.lst lv) ∧ lv.length + t.leaves ≤ 100 ∧
  ∀ (u : V) (as : List Addr) (H' : Hp), off [la] H H' → H' la = some (.lst (lv ++ as.map V.ref)) → (∀ a ∈ as, H a = none) → (∀ a ∈ as, NumsA H' a) → RuleV C1 C2 C3 (hide as (mns H H')) u t → as.length = t.leaves → Q u H'
theorem spRuleL_no {C1 C2 C3 : Addr} : ∀ vs H Q E, ¬ spRuleL C1 C2 C3 0 vs H Q E := fun _ _ _ _ ⟨_, _, _, _, t, _, h, _⟩ => by
  have := t.dep_pos
  omega
def spNum21 : Sp := fun vs H Q _ => ∃ x : Int, vs = [.int x] ∧ Bd 200 x ∧ ∀ y : Int, Bd 101 y → Q (.int y) H
def spLeaf : Sp := fun vs H Q _ => ∃ c mm : Int, vs = [.int c, .int mm] ∧ 1 ≤ mm ∧ mm ≤ 3 ∧ ∀ (v : V) (t : RT) (H' : Hp), Same H H' → TreeV H' v t → TrOk mm.toNat t → isStr t = true → Q v H'
def spTree (K : PySem.W.Frag) : Sp := fun vs H Q _ => ∃ (ca : Addr) (cs : List Int) (mm : Int), vs = [.ref ca, .int mm] ∧ SqL K H ca (cs.map V.int) ∧ 1 ≤ mm ∧ mm ≤ 3 ∧ ∀ (v : V) (t : RT) (H' : Hp), Same H H' → TreeV H' v t → TrOk mm.toNat t → t.dep ≤ 9 → t.leaves ≤ 9 → Q v H'
def spPointT : Sp := fun vs H Q _ => ∃ (c mm : Int) (ra : Addr) (rv : List V) (rows : List (List Int)), vs = [.int c, .int mm, .ref ra] ∧ 1 ≤ mm ∧ mm ≤ 3 ∧ H ra = some (.lst rv) ∧ WaysV H rv rows ∧ (∀ r ∈ rows, r.length = mm.toNat + 1 ∧ ∀ z ∈ r, Bd 300 z) ∧ rows.length ≤ 100 ∧
  ∀ (l : Addr) (pv : List V) (pts : List (Int × Int)) (H' : Hp), Same H H' → H l = none → H' l = some (.lst pv) → PtV H' pv pts → PtOk pts → pts.length = mm.toNat → Q (.ref l) H'
end Sh
namespace Sh
open PySem L2
theorem isStr_ex : ∀ {t : RT}, isStr t = true → ∃ ns a d, t = .str ns a d
  | .str ns a d, _ => ⟨ns, a, d, rfl⟩
  | .stp .., h => by cases h
  | .prt .., h => by cases h
theorem isStp_ex : ∀ {t : RT}, isStp t = true → ∃ u lo hi, t = .stp u lo hi
  | .stp u lo hi, _ => ⟨u, lo, hi, rfl⟩
  | .str .., h => by cases h
  | .prt .., h => by cases h
theorem isPrt_ex : ∀ {t : RT}, isPrt t = true → ∃ r x y, t = .prt r x y
  | .prt r x y, _ => ⟨r, x, y, rfl⟩
  | .str .., h => by cases h
  | .stp .., h => by cases h
theorem str_put (l : V) (a d : Int) : putF "divisor" (.int d) (putF "add" (.int a) (putF "numbers" l [])) = strF l a d := rfl
theorem stp_put (u : V) (lo hi : Int) : putF "high" (.int hi) (putF "low" (.int lo) (putF "rule" u [])) = stpF u lo hi := rfl
theorem prt_put (r u w : V) : putF "other" w (putF "rule" u (putF "row" r [])) = prtF r u w := rfl
theorem val_lo {pts : List (Int × Int)} {t : RT} {lo hi : Int} (h : (valM pts t).1 < lo * (valM pts t).2) : valM pts (.stp t lo hi) = (lo, 1) := by
  show (if _ then _ else _) = _
  rw [if_pos h]
theorem val_hi {pts : List (Int × Int)} {t : RT} {lo hi : Int} (h : ¬ (valM pts t).1 < lo * (valM pts t).2) (h2 : hi * (valM pts t).2 < (valM pts t).1) : valM pts (.stp t lo hi) = (hi, 1) := by
  show (if _ then _ else _) = _
  rw [if_neg h, if_pos h2]
theorem val_in {pts : List (Int × Int)} {t : RT} {lo hi : Int} (h : ¬ (valM pts t).1 < lo * (valM pts t).2) (h2 : ¬ hi * (valM pts t).2 < (valM pts t).1) : valM pts (.stp t lo hi) = valM pts t := by
  show (if _ then _ else _) = _
  rw [if_neg h, if_neg h2]
theorem val_yes {pts : List (Int × Int)} {r : List Int} {x y : RT} (h : holdM (r.take pts.length) (r.getD pts.length 0) pts = true) : valM pts (.prt r x y) = valM pts x := by
  show (if _ then _ else _) = _
  rw [if_pos (of_decide_eq_true h)]
theorem val_no {pts : List (Int × Int)} {r : List Int} {x y : RT} (h : ¬ holdM (r.take pts.length) (r.getD pts.length 0) pts = true) : valM pts (.prt r x y) = valM pts y := by
  show (if _ then _ else _) = _
  rw [if_neg fun z => h (decide_eq_true z)]
theorem frac_one {H : Hp} {f : Addr} {x : Int} (h : H f = some (.tup [.int (lowT x 1), .int (lowB x 1)])) : H f = some (.tup [.int x, .int 1]) := by
  rw [lowT_one, lowB_one] at h
  exact h
theorem cut_to (xs : List Int) {b : Nat} (hb : b ≤ xs.length) : cutV (xs.map V.int) none (some (b : Int)) = (xs.take b).map V.int := by
  have e2 : HT.sIx (xs.map V.int).length (xs.map V.int).length (some (b : Int)) = min b (xs.map V.int).length := HT.sIx_nat _ _ b
  unfold cutV
  rw [e2, HT.sIx_none, List.length_map, Nat.min_eq_left hb, ← List.map_drop, ← List.map_take]
  rfl
theorem cut_any (xs : List Int) (a b : Nat) : ∃ zs : List Int, cutV (xs.map V.int) (some (a : Int)) (some (b : Int)) = zs.map V.int ∧ zs.length ≤ b - a := by
  have e1 : HT.sIx (xs.map V.int).length 0 (some (a : Int)) = min a (xs.map V.int).length := HT.sIx_nat _ 0 a
  have e2 : HT.sIx (xs.map V.int).length (xs.map V.int).length (some (b : Int)) = min b (xs.map V.int).length := HT.sIx_nat _ _ b
  unfold cutV
  rw [e1, e2, ← List.map_drop, ← List.map_take]
  refine ⟨_, rfl, ?_⟩
  rw [List.length_take, List.length_drop, List.length_map]
  omega
theorem sne1 : decide (V.str "stopped" = V.str "straight") = false := by decide +kernel
theorem sne2 : decide (V.str "parted" = V.str "straight") = false := by decide +kernel
theorem sne3 : decide (V.str "parted" = V.str "stopped") = false := by decide +kernel
theorem bd_pick3 {x y z g : Int} {n : Nat} (g0 : 0 ≤ g) (g1 : g < 3) (hx : Bd n x) (hy : Bd n y) (hz : Bd n z) : ∃ k, atI [V.int x, V.int y, V.int z] g = some (V.int k) ∧ Bd n k := by
  rcases (show g = 0 ∨ g = 1 ∨ g = 2 by omega) with e | e | e
  · rw [e]; exact ⟨x, rfl, hx⟩
  · rw [e]; exact ⟨y, rfl, hy⟩
  · rw [e]; exact ⟨z, rfl, hz⟩
theorem pos_pick3 {x y z g : Int} {m : Int} (g0 : 0 ≤ g) (g1 : g < 3) (hx : 0 < x ∧ x ≤ m) (hy : 0 < y ∧ y ≤ m) (hz : 0 < z ∧ z ≤ m) : ∃ k, atI [V.int x, V.int y, V.int z] g = some (V.int k) ∧ 0 < k ∧ k ≤ m := by
  rcases (show g = 0 ∨ g = 1 ∨ g = 2 by omega) with e | e | e
  · rw [e]; exact ⟨x, rfl, hx⟩
  · rw [e]; exact ⟨y, rfl, hy⟩
  · rw [e]; exact ⟨z, rfl, hz⟩
theorem swap_pick {v u : V} {g : Int} (g0 : 0 ≤ g) (g1 : g < 2) : ∃ x y, atI [v, u] g = some x ∧ atI [u, v] g = some y ∧ ((x = v ∧ y = u) ∨ (x = u ∧ y = v)) := by
  rcases (show g = 0 ∨ g = 1 by omega) with e | e
  · rw [e]; exact ⟨v, u, rfl, rfl, .inl ⟨rfl, rfl⟩⟩
  · rw [e]; exact ⟨u, v, rfl, rfl, .inr ⟨rfl, rfl⟩⟩
theorem bd45 {x : Int} (h : 0 ≤ x ∧ x < 10 ^ 45) : Bd 150 x := by
  have : (10 : Int) ^ 45 < 2 ^ 150 := by decide
  show x.natAbs < 2 ^ 150
  omega
theorem isStr_one {t : RT} (h : isStr t = true) : t.dep = 1 ∧ t.leaves = 1 := by
  obtain ⟨ns, a, d, rfl⟩ := isStr_ex h
  exact ⟨rfl, rfl⟩
theorem cut_in (xs : List V) (v : V) (h : 1 ≤ xs.length) : cutV (xs ++ [v]) (some 1) (some (-1)) = xs.drop 1 ∧ ¬ (HT.sIx (xs ++ [v]).length 0 (some 1) = 0 ∧ HT.sIx (xs ++ [v]).length (xs ++ [v]).length (some (-1)) = (xs ++ [v]).length) := by
  have e1 : HT.sIx (xs ++ [v]).length 0 (some 1) = 1 := by
    have : HT.sIx (xs ++ [v]).length 0 (some ((1 : Nat) : Int)) = min 1 (xs ++ [v]).length := HT.sIx_nat _ 0 1
    rw [List.length_append] at this ⊢
    exact this.trans (by omega)
  have e2 : HT.sIx (xs ++ [v]).length (xs ++ [v]).length (some (-1)) = xs.length := by
    show (if (-1 : Int) < 0 then ((-1 : Int) + ((xs ++ [v]).length : Int)).toNat else min (-1 : Int).toNat (xs ++ [v]).length) = xs.length
    rw [if_pos (by decide), List.length_append, List.length_singleton]
    omega
  constructor
  · unfold cutV
    rw [e1, e2, List.drop_append_of_le_length h, List.take_append_of_le_length (by rw [List.length_drop]; omega), List.take_of_length_le (by rw [List.length_drop]; omega)]
  · rintro ⟨a, _⟩
    rw [e1] at a
    cases a
theorem cut_from1 (xs : List V) : cutV xs (some 1) none = xs.drop 1 := by
  have e1 : HT.sIx xs.length 0 (some ((1 : Nat) : Int)) = min 1 xs.length := HT.sIx_nat _ 0 1
  have e1' : HT.sIx xs.length 0 (some 1) = min 1 xs.length := e1
  unfold cutV
  rw [e1', HT.sIx_none]
  cases xs with
  | nil => rfl
  | cons x t =>
    have : min 1 (x :: t).length = 1 := by
      show min 1 (t.length + 1) = 1
      omega
    rw [this, List.take_of_length_le (by rw [List.length_drop]; exact Nat.le_refl _)]
theorem pts_drop {H : Hp} : ∀ {pv : List V} {pts : List (Int × Int)}, PtV H pv pts → PtV H (pv.drop 1) (pts.drop 1)
  | _, _, .nil => .nil
  | _, _, .cons _ t => t
/-- at most two numbers along small fractions -/
theorem bd_al2 : ∀ l : List (Int × Int × Int), l.length ≤ 2 → (∀ p ∈ l, Bd 300 p.1 ∧ Bd 101 p.2.1 ∧ Bd 30 p.2.2) → Bd 440 (l.foldl alStep (0, 1)).1 ∧ Bd 61 (l.foldl alStep (0, 1)).2
  | [], _, _ => ⟨(Bd.lit (n := 1)).mono (by decide), (Bd.lit (n := 1)).mono (by decide)⟩
  | [p], _, h => by
    obtain ⟨a, b, c⟩ := h p (List.mem_singleton.mpr rfl)
    show Bd 440 (0 * p.2.2 + p.1 * p.2.1 * 1) ∧ Bd 61 (1 * p.2.2)
    rw [Int.zero_mul, Int.zero_add, Int.mul_one, Int.one_mul]
    exact ⟨(a.mul b).mono (by decide), c.mono (by decide)⟩
  | [p, r], _, h => by
    obtain ⟨a, b, c⟩ := h p (List.mem_cons_self ..)
    obtain ⟨a', b', c'⟩ := h r (List.mem_cons_of_mem _ (List.mem_singleton.mpr rfl))
    show Bd 440 ((0 * p.2.2 + p.1 * p.2.1 * 1) * r.2.2 + r.1 * r.2.1 * (1 * p.2.2)) ∧ Bd 61 (1 * p.2.2 * r.2.2)
    rw [Int.zero_mul, Int.zero_add, Int.mul_one, Int.one_mul]
    exact ⟨(((a.mul b).mul c').add ((a'.mul b').mul c)).mono (by decide), (c.mul c').mono (by decide)⟩
  | _ :: _ :: _ :: _, h, _ => by
    exfalso
    simp at h
def puT (b : Int × Int) : PyData := .tuple [.int b.1, .int b.2]
theorem dp_pt {K : PySem.W.Frag} {H : Hp} : ∀ {pv : List V} {bs : List (Int × Int)}, PtV H pv bs → DpAll K H pv (bs.map puT)
  | _, _, .nil => .nil
  | _, _, .cons ⟨a, e, h⟩ t => by
    subst e
    exact .cons (.tup (SqT.of h) (.cons (.int _) (.cons (.int _) .nil))) (dp_pt t)
theorem lay_pt : ∀ bs : List (Int × Int), PyData.canLayAll0 (bs.map puT) = true
  | [] => rfl
  | p :: t => by
    show (true && PyData.canLayAll0 (t.map puT)) = true
    rw [lay_pt t]
    rfl
theorem dep_pt : ∀ bs : List (Int × Int), PyData.depthAll (bs.map puT) ≤ 1
  | [] => Nat.zero_le _
  | p :: t => by
    show max (max 0 (max 0 0) + 1) (PyData.depthAll (t.map puT)) ≤ 1
    have := dep_pt t
    omega
theorem dep_pts (bs : List (Int × Int)) : PyData.depth (.list (bs.map puT)) ≤ 60 := by
  show PyData.depthAll (bs.map puT) + 1 ≤ 60
  have := dep_pt bs
  omega
theorem ways_hideN {as : List Addr} {H : Hp} (h : ∀ a ∈ as, NumsA H a) {vs : List V} {rows : List (List Int)} (w : WaysV H vs rows) : WaysV (hide as H) vs rows :=
  Paired.mapP w fun _ _ ⟨a, e, q⟩ => ⟨a, e, by
    rw [hide_at (fun z => by obtain ⟨ns, e', _⟩ := h a z; rw [q] at e'; cases e')]
    exact q⟩
/-- a rule of any kind asked at a point -/
theorem steer_alt {C1 C2 C3 : Addr} {K : PySem.W.Frag} {d : Nat} {σ : St} {H : Hp} {Q : VK} {ta : TE} {tt : TA} {u : V} {t : RT} {pa : Addr} {pv : List V} {pts : List (Int × Int)} (h1 : ∀ R : V → Hp → Prop, R u H → ta σ H R) (h2 : ∀ R : List V → Hp → Prop, R [.ref pa] H → tt σ H R)
    (hu : RuleV C1 C2 C3 H u t) (dp : t.dep ≤ d) (TO : TrOk pts.length t) (hpa : SqL K H pa pv) (hpt : PtV H pv pts) (PO : PtOk pts) (n3 : pts.length ≤ 3)
    (q : ∀ r H', Same H H' → H' r = some (.tup [.int (valM pts t).1, .int (valM pts t).2]) → Q (.ref r) H') :
    tMeth C1 "steering" (spSteer C1 C2 C3 K isStr d) [] E0 ta tt σ H Q ∨ tMeth C2 "steering" (spSteer C1 C2 C3 K isStp d) [] E0 ta tt σ H Q ∨ tMeth C3 "steering" (spSteer C1 C2 C3 K isPrt d) [] E0 ta tt σ H Q := by
  rcases rt_kinds t with hk | hk | hk
  · obtain ⟨o1, dx1, fs1, rfl, i1, l1⟩ := hu.insS hk
    exact .inl (h1 _ ⟨o1, dx1, fs1, rfl, i1, l1, h2 _ ⟨o1, pa, pv, pts, t, rfl, hk, dp, hu, TO, hpa, hpt, PO, n3, q⟩⟩)
  · obtain ⟨o1, dx1, fs1, rfl, i1, l1⟩ := hu.insT hk
    exact .inr (.inl (h1 _ ⟨o1, dx1, fs1, rfl, i1, l1, h2 _ ⟨o1, pa, pv, pts, t, rfl, hk, dp, hu, TO, hpa, hpt, PO, n3, q⟩⟩))
  · obtain ⟨o1, dx1, fs1, rfl, i1, l1⟩ := hu.insP hk
    exact .inr (.inr (h1 _ ⟨o1, dx1, fs1, rfl, i1, l1, h2 _ ⟨o1, pa, pv, pts, t, rfl, hk, dp, hu, TO, hpa, hpt, PO, n3, q⟩⟩))
theorem NumsA.put {H : Hp} {b : Addr} {ns : List Int} (hn : 1 ≤ ns.length) {a : Addr} (h : NumsA H a) : NumsA (upd H b (.lst (ns.map V.int))) a := by
  by_cases e : a = b
  · rw [e]; exact ⟨ns, upd_same, hn⟩
  · obtain ⟨ms, h1, h2⟩ := h
    exact ⟨ms, (upd_ne e).trans h1, h2⟩
end Sh

namespace K21
open PySem L2 Sh
def top (i : Nat) : Stmt := PySem.Challenge.pw_steadyhand_k21_what_a_rule_tells.main.body.getD i (.Pass ⟨0, 0, 0, 0⟩)
structure Bl (mg : Str → Option Value) : Prop where
  isinstance_ : mg "isinstance" = none
  int_ : mg "int" = none
  bool_ : mg "bool" = none
  tuple_ : mg "tuple" = none
  len_ : mg "len" = none
  abs_ : mg "abs" = none
  list_ : mg "list" = none
  range_ : mg "range" = none
  zip_ : mg "zip" = none
structure AtStraight (K : PySem.W.Frag) (C : Addr) : Prop where
  n_numbers : NoAttr K C "numbers"
  n_add : NoAttr K C "add"
  n_divisor : NoAttr K C "divisor"
structure AtStopped (K : PySem.W.Frag) (C : Addr) : Prop where
  n_rule : NoAttr K C "rule"
  n_low : NoAttr K C "low"
  n_high : NoAttr K C "high"
structure AtParted (K : PySem.W.Frag) (C : Addr) : Prop where
  n_row : NoAttr K C "row"
  n_rule : NoAttr K C "rule"
  n_other : NoAttr K C "other"
section
variable {P : Program} {w : World} {K : PySem.W.Frag} {mg : Str → Option Value} {base : Heap}
abbrev s_is_whole : Stmt := top 4
theorem sc_is_whole : FnScope ["thing"] ["thing"] (defScope s_is_whole) := ⟨rfl, rfl, rfl, by decide +kernel, rfl, by decide +kernel, by decide +kernel⟩
theorem ok_is_whole {k : Nat} {f : Addr} {fd : FuncData} {aStraight aStopped aParted : Addr} (TStraight : ClsF K mg "Straight" aStraight) (AStraight : AtStraight K aStraight) (TStopped : ClsF K mg "Stopped" aStopped) (AStopped : AtStopped K aStopped) (TParted : ClsF K mg "Parted" aParted) (AParted : AtParted K aParted) (F : Fun K "is_whole" "is_whole" s_is_whole f fd) (B : Bl mg) : FnOk P w K mg base CX0 (k + 1) f fd ["thing"] spIsWhole := by
  refine F.ok sc_is_whole (fun vs H Q E h => ?_) (fun cdv A outer s H vs Q E hr h => ?_)
  · obtain ⟨i, rfl, _⟩ := h
    rfl
  obtain ⟨i, rfl, q⟩ := h
  refine ⟨_, (pss_one (ps_ret (pe_and (pe_callB call_isinst rfl B.isinstance_ boot_isinstance_ (pa_cons (L2.pv 0) (pa_cons (pe_bltn (v := .ty "int") (u := .type "int") rfl B.int_ boot_int_ rfl) pa_nil))) (pe_one (pe_not (pe_callB call_isinst rfl B.isinstance_ boot_isinstance_ (pa_cons (L2.pv 0) (pa_cons (pe_bltn (v := .ty "bool") (u := .type "bool") rfl B.bool_ boot_bool_ rfl) pa_nil)))))))), ?_⟩
  refine ⟨_, rfl, _, _, _, _, rfl, .int _, kit_int_int _, _, rfl, iteT ?_⟩
  exact ⟨_, rfl, _, _, _, _, rfl, .int _, kit_int_bool _, _, rfl, q⟩
abbrev s_common_divisor : Stmt := top 5
theorem sc_common_divisor : FnScope ["numbers", "common", "number", "rest", "left"] ["numbers"] (defScope s_common_divisor) := ⟨rfl, rfl, rfl, by decide +kernel, rfl, by decide +kernel, by decide +kernel⟩
theorem ok_common_divisor {k : Nat} {f : Addr} {fd : FuncData} {aStraight aStopped aParted : Addr} (TStraight : ClsF K mg "Straight" aStraight) (AStraight : AtStraight K aStraight) (TStopped : ClsF K mg "Stopped" aStopped) (AStopped : AtStopped K aStopped) (TParted : ClsF K mg "Parted" aParted) (AParted : AtParted K aParted) (F : Fun K "common_divisor" "common_divisor" s_common_divisor f fd) (B : Bl mg) : FnOk P w K mg base CX0 (k + 1) f fd ["numbers"] (spCommon K) := by
  refine F.ok sc_common_divisor (fun vs H Q E h => ?_) (fun cdv A outer s H vs Q E hr h => ?_)
  · obtain ⟨a, ns, rfl, _⟩ := h
    rfl
  obtain ⟨a, ns, rfl, hS, q⟩ := h
  refine ⟨_, (pss_cons (ps_set (i := 1) sc_common_divisor.nd rfl (Or.inl rfl) pe_int)
    (pss_cons (ps_for PassesOwn.never rfl (pi_tup (L2.pv 0)) (pg_name (i := 2) sc_common_divisor.nd rfl (Or.inl rfl)) (pss_cons (ps_set (i := 3) sc_common_divisor.nd rfl (Or.inl rfl) (pe_callB call_abs rfl B.abs_ boot_abs_ (pa_cons (L2.pv 2) pa_nil)))
      (pss_one (ps_while PassesOwn.never (pt_cmpR op_ne (L2.pv 3) pe_int (nomark _)) (pss_cons (ps_set (i := 4) sc_common_divisor.nd rfl (Or.inl rfl) (pe_op op_modN (L2.pv 1) (L2.pv 3)))
        (pss_cons (ps_set (i := 1) sc_common_divisor.nd rfl (Or.inl rfl) (L2.pv 3))
        (pss_one (ps_set (i := 3) sc_common_divisor.nd rfl (Or.inl rfl) (L2.pv 4)))))))))
    (pss_one (ps_ret (L2.pv 1))))), ?_⟩
  refine ⟨_, rfl, a, rfl, ⟨_, hS⟩, for_tup (K := K) (a := a) (xs := ns.map V.int) (fun i σ H2 => ∃ n r l, σ = [some (.ref a), some (.int (gcdAll (ns.take i))), n, r, l] ∧ H2 = H)
    ⟨none, none, none, rfl, rfl⟩ (fun i σ H2 _ ⟨_, _, _, _, e⟩ => e ▸ hS) ?_ ?_⟩
  · rintro i x σ H2 hi ⟨n, r, l, rfl, rfl⟩
    obtain ⟨z, hz, rfl⟩ : ∃ z, ns[i]? = some z ∧ x = V.int z := by
      rw [List.getElem?_map] at hi
      cases e : ns[i]? with
      | none => rw [e] at hi; cases hi
      | some z => rw [e] at hi; exact ⟨z, rfl, (Option.some.inj hi).symm⟩
    have hlt : i < ns.length := (List.getElem?_eq_some_iff.mp hz).1
    have ez : ns[i] = z := (List.getElem?_eq_some_iff.mp hz).2
    have tk : gcdAll (ns.take (i + 1)) = (Int.gcd (gcdAll (ns.take i)) z : Int) := by rw [List.take_succ_eq_append_getElem hlt, gcdAll_snoc, ez]
    refine ⟨_, rfl, z, rfl, ?_⟩
    refine while_by (fun σ H' => ∃ (c r : Int) (l : Option V), σ = [some (.ref a), some (.int c), some (.int z), some (.int r), l] ∧ H' = H2 ∧ 0 ≤ c ∧ 0 ≤ r ∧ Int.gcd c r = Int.gcd (gcdAll (ns.take i)) z)
      (fun σ _ => match σ with | [_, _, _, some (.int r), _] => r.toNat | _ => 0) ⟨_, _, l, rfl, rfl, gcdAll_nonneg _, (by split <;> omega), gcd_abs _ _⟩ ?_ ?_
    · rintro σ H' ⟨c, r, l, rfl, rfl, hc, hr0, hg⟩
      refine ⟨_, rfl, rfl, _, rfl, ?_⟩
      by_cases z0 : r = 0
      · subst z0
        refine iteNS rfl ?_
        rw [Int.gcd_zero_right] at hg
        have ec : c = gcdAll (ns.take (i + 1)) := by rw [tk]; omega
        exact ⟨_, _, _, by rw [ec], rfl⟩
      · have ne : ¬ (V.int r = V.int 0) := fun e => z0 (by injection e)
        refine iteB1 (ndec_no z0) ?_
        refine ⟨_, rfl, _, rfl, _, _, rfl, rfl, z0, _, rfl, _, rfl, ?_⟩
        have h1 := Int.fmod_nonneg_of_pos c (show 0 < r by omega)
        have h2 := Int.fmod_lt_of_pos c (show 0 < r by omega)
        refine ⟨⟨r, c.fmod r, _, rfl, rfl, hr0, h1, by rw [gcd_turn]; exact hg⟩, ?_⟩
        show (c.fmod r).toNat < r.toNat
        omega
    · rintro σ H' Q1 Q2 h ⟨v, e, sc, k, ek, q1⟩
      exact ⟨v, e, sc, k, ek, h _ _ q1⟩
  · rintro σ H2 ⟨n, r, l, rfl, rfl⟩
    refine ⟨_, rfl, ?_⟩
    rw [List.length_map, List.take_length]
    exact q
abbrev s_fraction : Stmt := top 6
theorem sc_fraction : FnScope ["top", "bottom", "common"] ["top", "bottom"] (defScope s_fraction) := ⟨rfl, rfl, rfl, by decide +kernel, rfl, by decide +kernel, by decide +kernel⟩
theorem ok_fraction {k : Nat} {f : Addr} {fd : FuncData} {dv : Value} {aStraight aStopped aParted : Addr} (TStraight : ClsF K mg "Straight" aStraight) (AStraight : AtStraight K aStraight) (TStopped : ClsF K mg "Stopped" aStopped) (AStopped : AtStopped K aStopped) (TParted : ClsF K mg "Parted" aParted) (AParted : AtParted K aParted) (F : FunD K "fraction" "fraction" s_fraction f fd dv) (B : Bl mg) (c_is_whole : Fn P w K mg base "is_whole" ["thing"] k spIsWhole) (c_common_divisor : Fn P w K mg base "common_divisor" ["numbers"] k (spCommon K)) : FnOk P w K mg base CX0 (k + 1) f fd ["top", "bottom"] spFraction := by
  refine F.ok sc_fraction (fun vs H Q E h => ?_) (fun cdv A outer s H vs Q E hr h => ?_)
  · obtain ⟨t, b, rfl, _⟩ := h
    rfl
  obtain ⟨t, b, rfl, b0, bb, q⟩ := h
  refine ⟨_, (pss_cons (ps_if (PW.pt (pw_or (pt_not (pt_val (pe_callF c_is_whole hr rfl (pa_cons (L2.pv 0) pa_nil)))) (pw_or1 (pt_not (pt_val (pe_callF c_is_whole hr rfl (pa_cons (L2.pv 1) pa_nil))))))) (pss_one ps_never) pss_nil)
    (pss_cons (ps_if (pt_cmpR op_eq (L2.pv 1) pe_int (nomark _)) (pss_one ps_never) pss_nil)
    (pss_cons (ps_set (i := 2) sc_fraction.nd rfl (Or.inl rfl) (pe_callF c_common_divisor hr rfl (pa_cons (pe_tup (pa_cons (L2.pv 0) (pa_cons (L2.pv 1) pa_nil))) pa_nil)))
    (pss_cons (ps_if (pt_cmpR op_lt (L2.pv 1) pe_int (nomark _)) (pss_one (ps_set (i := 2) sc_fraction.nd rfl (Or.inl rfl) (pe_un un_neg (L2.pv 2)))) pss_nil)
    (pss_one (ps_ret (pe_tup (pa_cons (pe_op op_fdivW (L2.pv 0) (L2.pv 2)) (pa_cons (pe_op op_fdivW (L2.pv 1) (L2.pv 2)) pa_nil))))))))), ?_⟩
  refine ⟨_, rfl, t, rfl, _, rfl, iteF ?_⟩
  refine ⟨_, rfl, b, rfl, _, rfl, iteF ?_⟩
  refine ⟨_, rfl, rfl, _, rfl, ?_⟩
  refine iteB0 (dec_no b0) ?_
  refine ⟨_, rfl, _, rfl, (by show 2 ≤ sizeLine; decide), fun p hp => ?_⟩
  refine ⟨p, [t, b], rfl, SqT.of upd_same, ?_⟩
  rw [gcdAll_two]
  have sm := same_new hp (HO.tup [.int t, .int b])
  have fin : ∀ c : Int, c = cm t b → ∀ D' : Hp, D' = upd H p (.tup [.int t, .int b]) → (t.fdiv c) = lowT t b ∧ b.fdiv c = lowB t b ∧ c ≠ 0 ∧ Bd 8000 c := fun c e _ _ => by
    subst e
    exact ⟨rfl, rfl, cm_ne b0, bd_cm bb b0⟩
  refine ⟨_, rfl, _, _, rfl, rfl, _, rfl, ?_⟩
  refine ite2 (fun hb => ?_) (fun hb => ?_)
  · have hb' : b < 0 := of_decide_eq_true hb
    refine ⟨_, rfl, _, rfl, ?_⟩
    have ec : -(Int.gcd t b : Int) = cm t b := by unfold cm; rw [if_pos hb']
    obtain ⟨e1, e2, e3, e4⟩ := fin _ ec _ rfl
    refine ⟨_, rfl, _, rfl, _, _, rfl, rfl, ⟨e3, e4⟩, _, rfl, _, rfl, _, _, rfl, rfl, ⟨e3, e4⟩, (by show 2 ≤ sizeLine; decide), fun r hr' => ?_⟩
    exact q r _ (sm.trans (same_new hr' _)) (upd_same.trans (by show some (HO.tup [V.int (t.fdiv _), V.int (b.fdiv _)]) = _; rw [e1, e2]))
  · have hb' : ¬ b < 0 := fun z => hb (decide_eq_true z)
    have ec : (Int.gcd t b : Int) = cm t b := by unfold cm; rw [if_neg hb']
    obtain ⟨e1, e2, e3, e4⟩ := fin _ ec _ rfl
    refine ⟨_, rfl, _, rfl, _, _, rfl, rfl, ⟨e3, e4⟩, _, rfl, _, rfl, _, _, rfl, rfl, ⟨e3, e4⟩, (by show 2 ≤ sizeLine; decide), fun r hr' => ?_⟩
    exact q r _ (sm.trans (same_new hr' _)) (upd_same.trans (by show some (HO.tup [V.int (t.fdiv _), V.int (b.fdiv _)]) = _; rw [e1, e2]))
abbrev s_under : Stmt := top 7
theorem sc_under : FnScope ["one", "other"] ["one", "other"] (defScope s_under) := ⟨rfl, rfl, rfl, by decide +kernel, rfl, by decide +kernel, by decide +kernel⟩
theorem ok_under {k : Nat} {f : Addr} {fd : FuncData} {aStraight aStopped aParted : Addr} (TStraight : ClsF K mg "Straight" aStraight) (AStraight : AtStraight K aStraight) (TStopped : ClsF K mg "Stopped" aStopped) (AStopped : AtStopped K aStopped) (TParted : ClsF K mg "Parted" aParted) (AParted : AtParted K aParted) (F : Fun K "under" "under" s_under f fd) (B : Bl mg) : FnOk P w K mg base CX0 (k + 1) f fd ["one", "other"] spUnder := by
  refine F.ok sc_under (fun vs H Q E h => ?_) (fun cdv A outer s H vs Q E hr h => ?_)
  · obtain ⟨p, q, a, b, c, d, rfl, _⟩ := h
    rfl
  obtain ⟨p, q, a, b, c, d, rfl, T, qq⟩ := h
  refine ⟨_, (pss_one (ps_ret (pe_cmpR op_lt (pe_op op_mulW (pe_ix ix_tup (L2.pv 0) pe_int (fun _ _ => rfl)) (pe_ix ix_tup (L2.pv 1) pe_int (fun _ _ => rfl))) (pe_op op_mulW (pe_ix ix_tup (L2.pv 1) pe_int (fun _ _ => rfl)) (pe_ix ix_tup (L2.pv 0) pe_int (fun _ _ => rfl))) (nomark _)))), ?_⟩
  refine ⟨_, rfl, p, _, 0, _, rfl, rfl, SqT.of T.p, at0, _, rfl, q, _, 1, _, rfl, rfl, SqT.of T.q, at1, _, _, rfl, rfl, ⟨(T.ab).mono (by decide), (T.db).mono (by decide)⟩, ?_⟩
  refine ⟨_, rfl, q, _, 0, _, rfl, rfl, SqT.of T.q, at0, _, rfl, p, _, 1, _, rfl, rfl, SqT.of T.p, at1, _, _, rfl, rfl, ⟨(T.cb).mono (by decide), (T.bb).mono (by decide)⟩, _, _, rfl, rfl, ?_⟩
  exact qq
abbrev s_copied : Stmt := top 9
theorem sc_copied : FnScope ["value", "depth"] ["value", "depth"] (defScope s_copied) := ⟨rfl, rfl, rfl, by decide +kernel, rfl, by decide +kernel, by decide +kernel⟩
theorem ok_copied_0 {k : Nat} {f : Addr} {fd : FuncData} {dv : Value} {aStraight aStopped aParted : Addr} (TStraight : ClsF K mg "Straight" aStraight) (AStraight : AtStraight K aStraight) (TStopped : ClsF K mg "Stopped" aStopped) (AStopped : AtStopped K aStopped) (TParted : ClsF K mg "Parted" aParted) (AParted : AtParted K aParted) (F : FunD K "copied" "copied" s_copied f fd dv) (B : Bl mg) (c_copied : FnD P w K mg base "copied" ["value", "depth"] k spNone (.int 5)) : FnOk P w K mg base CX0 (k + 1) f fd ["value", "depth"] spC0 := by
  refine F.ok sc_copied (fun vs H Q E h => ?_) (fun cdv A outer s H vs Q E hr h => ?_)
  · obtain ⟨i, d, rfl, _⟩ := h
    rfl
  refine ⟨_, (pss_cons (ps_if (pt_cmpR op_eq (L2.pv 1) pe_int (nomark _)) (pss_one (ps_ret (L2.pv 0))) pss_nil)
    (pss_cons (ps_if (pt_val (pe_callB call_isinst rfl B.isinstance_ boot_isinstance_ (pa_cons (L2.pv 0) (pa_cons (pe_bltn (v := .ty "list") (u := .type "list") rfl B.list_ boot_list_ rfl) pa_nil)))) (pss_one (ps_ret (pe_comp (own := ["part"]) (caps := [(1, "depth")]) (blk_cap (S := defScope s_copied) (N := ["value", "depth"]) rfl (by decide +kernel) rfl ⟨_, rfl⟩ rfl (by decide +kernel) (by decide +kernel)) rfl (pi_list (L2.pv 0)) (fun _ _ _ _ => pg_name (i := 0) (show (["part", "depth"] : List Str).Nodup by decide +kernel) rfl (Or.inl rfl)) (fun _ _ _ _ => (pe_callF c_copied.fn hr rfl (pa_cons (L2.pv 0) (pa_cons (pe_op op_sub (L2.pv 1) pe_int) pa_nil))))))) pss_nil)
    (pss_cons (ps_if (pt_val (pe_callB call_isinst rfl B.isinstance_ boot_isinstance_ (pa_cons (L2.pv 0) (pa_cons (pe_bltn (v := .ty "tuple") (u := .type "tuple") rfl B.tuple_ boot_tuple_ rfl) pa_nil)))) (pss_one (ps_ret (pe_callTy call_tuple_of rfl B.tuple_ boot_tuple_ (pa_cons (pe_comp (own := ["part"]) (caps := [(1, "depth")]) (blk_cap (S := defScope s_copied) (N := ["value", "depth"]) rfl (by decide +kernel) rfl ⟨_, rfl⟩ rfl (by decide +kernel) (by decide +kernel)) rfl (pi_tup (L2.pv 0)) (fun _ _ _ _ => pg_name (i := 0) (show (["part", "depth"] : List Str).Nodup by decide +kernel) rfl (Or.inl rfl)) (fun _ _ _ _ => (pe_callF c_copied.fn hr rfl (pa_cons (L2.pv 0) (pa_cons (pe_op op_sub (L2.pv 1) pe_int) pa_nil))))) pa_nil)))) pss_nil)
    (pss_one (ps_ret (L2.pv 0)))))), ?_⟩
  obtain ⟨i, d, rfl, q⟩ := h
  refine ⟨_, rfl, rfl, _, rfl, ?_⟩
  by_cases d0 : d = 0
  · exact iteB1 (dec_yes d0) ⟨_, rfl, q⟩
  refine iteB0 (dec_no d0) ?_
  refine ⟨_, rfl, _, _, _, _, rfl, .int i, kd_lst K .int, _, rfl, iteF ?_⟩
  refine ⟨_, rfl, _, _, _, _, rfl, .int i, kd_tup K .int, _, rfl, iteF ?_⟩
  exact ⟨_, rfl, q⟩
theorem ok_copied_1 {k : Nat} {f : Addr} {fd : FuncData} {dv : Value} {aStraight aStopped aParted : Addr} (TStraight : ClsF K mg "Straight" aStraight) (AStraight : AtStraight K aStraight) (TStopped : ClsF K mg "Stopped" aStopped) (AStopped : AtStopped K aStopped) (TParted : ClsF K mg "Parted" aParted) (AParted : AtParted K aParted) (F : FunD K "copied" "copied" s_copied f fd dv) (B : Bl mg) (c_copied : FnD P w K mg base "copied" ["value", "depth"] k spC0 (.int 5)) : FnOk P w K mg base CX0 (k + 1) f fd ["value", "depth"] spC1 := by
  refine F.ok sc_copied (fun vs H Q E h => ?_) (fun cdv A outer s H vs Q E hr h => ?_)
  · obtain ⟨i, d, rfl, _⟩ | ⟨a, ns, d, rfl, _⟩ | ⟨a, ns, d, rfl, _⟩ := h
    all_goals rfl
  refine ⟨_, (pss_cons (ps_if (pt_cmpR op_eq (L2.pv 1) pe_int (nomark _)) (pss_one (ps_ret (L2.pv 0))) pss_nil)
    (pss_cons (ps_if (pt_val (pe_callB call_isinst rfl B.isinstance_ boot_isinstance_ (pa_cons (L2.pv 0) (pa_cons (pe_bltn (v := .ty "list") (u := .type "list") rfl B.list_ boot_list_ rfl) pa_nil)))) (pss_one (ps_ret (pe_comp (own := ["part"]) (caps := [(1, "depth")]) (blk_cap (S := defScope s_copied) (N := ["value", "depth"]) rfl (by decide +kernel) rfl ⟨_, rfl⟩ rfl (by decide +kernel) (by decide +kernel)) rfl (pi_list (L2.pv 0)) (fun _ _ _ _ => pg_name (i := 0) (show (["part", "depth"] : List Str).Nodup by decide +kernel) rfl (Or.inl rfl)) (fun _ _ _ _ => (pe_callF c_copied.fn hr rfl (pa_cons (L2.pv 0) (pa_cons (pe_op op_sub (L2.pv 1) pe_int) pa_nil))))))) pss_nil)
    (pss_cons (ps_if (pt_val (pe_callB call_isinst rfl B.isinstance_ boot_isinstance_ (pa_cons (L2.pv 0) (pa_cons (pe_bltn (v := .ty "tuple") (u := .type "tuple") rfl B.tuple_ boot_tuple_ rfl) pa_nil)))) (pss_one (ps_ret (pe_callTy call_tuple_of rfl B.tuple_ boot_tuple_ (pa_cons (pe_comp (own := ["part"]) (caps := [(1, "depth")]) (blk_cap (S := defScope s_copied) (N := ["value", "depth"]) rfl (by decide +kernel) rfl ⟨_, rfl⟩ rfl (by decide +kernel) (by decide +kernel)) rfl (pi_tup (L2.pv 0)) (fun _ _ _ _ => pg_name (i := 0) (show (["part", "depth"] : List Str).Nodup by decide +kernel) rfl (Or.inl rfl)) (fun _ _ _ _ => (pe_callF c_copied.fn hr rfl (pa_cons (L2.pv 0) (pa_cons (pe_op op_sub (L2.pv 1) pe_int) pa_nil))))) pa_nil)))) pss_nil)
    (pss_one (ps_ret (L2.pv 0)))))), ?_⟩
  rcases h with h | h | h
  · obtain ⟨i, d, rfl, q⟩ := h
    refine ⟨_, rfl, rfl, _, rfl, ?_⟩
    by_cases d0 : d = 0
    · exact iteB1 (dec_yes d0) ⟨_, rfl, q⟩
    refine iteB0 (dec_no d0) ?_
    refine ⟨_, rfl, _, _, _, _, rfl, .int i, kd_lst K .int, _, rfl, iteF ?_⟩
    refine ⟨_, rfl, _, _, _, _, rfl, .int i, kd_tup K .int, _, rfl, iteF ?_⟩
    exact ⟨_, rfl, q⟩
  · obtain ⟨a, ns, d, rfl, d1, ha, few, q⟩ := h
    refine ⟨_, rfl, rfl, _, rfl, iteB0 (dec_no (by omega)) ?_⟩
    refine ⟨_, rfl, _, _, _, _, rfl, .lst ha, kit_list_list K, _, rfl, iteT ?_⟩
    refine ⟨_, rfl, a, rfl, ⟨_, SqL.of ha⟩, comp_list (K := K) (a := a) (xs := ns.map V.int) (fun i ys σ H' => ys = (ns.take i).map V.int ∧ (∃ o, σ = [o, some (.int d)]) ∧ H' = H)
      ⟨rfl, ⟨none, rfl⟩, rfl⟩ (fun i ys σ H' hi ⟨e1, _, e3⟩ => ⟨by rw [e3]; exact SqL.of ha, by rw [e1, List.length_map, List.length_take]; exact Nat.min_le_left _ _⟩) (by rw [List.length_map]; exact Nat.le_of_lt (small1000 (by omega))) ?_ ?_⟩
    · rintro i x ys σ H' hi ⟨rfl, ⟨o, rfl⟩, rfl⟩
      obtain ⟨z, hz, rfl⟩ := ints_get hi
      refine ⟨_, rfl, _, rfl, _, _, rfl, rfl, ⟨z, d - 1, rfl, ?_, ⟨_, rfl⟩, rfl⟩⟩
      rw [take_snoc hz, List.map_append]
      rfl
    rintro ys σ H' ⟨rfl, ⟨o, rfl⟩, rfl⟩ l hl
    refine q l _ (same_new hl _) hl (upd_same.trans ?_)
    rw [List.length_map, List.take_length]
  · obtain ⟨a, ns, d, rfl, d1, ha, few, q⟩ := h
    refine ⟨_, rfl, rfl, _, rfl, iteB0 (dec_no (by omega)) ?_⟩
    refine ⟨_, rfl, _, _, _, _, rfl, .tup ha, kd_lst K .tup, _, rfl, iteF ?_⟩
    refine ⟨_, rfl, _, _, _, _, rfl, .tup ha, kit_tuple_tuple K, _, rfl, iteT ?_⟩
    refine ⟨_, rfl, a, rfl, ⟨_, SqT.of ha⟩, comp_tup (K := K) (a := a) (xs := ns.map V.int) (fun i ys σ H' => ys = (ns.take i).map V.int ∧ (∃ o, σ = [o, some (.int d)]) ∧ H' = H)
      ⟨rfl, ⟨none, rfl⟩, rfl⟩ (fun i ys σ H' hi ⟨e1, _, e3⟩ => ⟨by rw [e3]; exact SqT.of ha, by rw [e1, List.length_map, List.length_take]; exact Nat.min_le_left _ _⟩) (by rw [List.length_map]; exact Nat.le_of_lt (small1000 (by omega))) ?_ ?_⟩
    · rintro i x ys σ H' hi ⟨rfl, ⟨o, rfl⟩, rfl⟩
      obtain ⟨z, hz, rfl⟩ := ints_get hi
      refine ⟨_, rfl, _, rfl, _, _, rfl, rfl, ⟨z, d - 1, rfl, ?_, ⟨_, rfl⟩, rfl⟩⟩
      rw [take_snoc hz, List.map_append]
      rfl
    rintro ys σ H' ⟨rfl, ⟨o, rfl⟩, rfl⟩ l hl
    refine ⟨l, _, rfl, .inl ⟨SqL.of upd_same, fun t ht => ?_⟩⟩
    refine q t _ ((same_new hl _).trans (same_new ht _)) ((same_new hl _).free ht) (upd_same.trans ?_)
    rw [List.length_map, List.take_length]
theorem ok_copied_2 {k : Nat} {f : Addr} {fd : FuncData} {dv : Value} {aStraight aStopped aParted : Addr} (TStraight : ClsF K mg "Straight" aStraight) (AStraight : AtStraight K aStraight) (TStopped : ClsF K mg "Stopped" aStopped) (AStopped : AtStopped K aStopped) (TParted : ClsF K mg "Parted" aParted) (AParted : AtParted K aParted) (F : FunD K "copied" "copied" s_copied f fd dv) (B : Bl mg) (c_copied : FnD P w K mg base "copied" ["value", "depth"] k spC1 (.int 5)) : FnOk P w K mg base CX0 (k + 1) f fd ["value", "depth"] spC2 := by
  refine F.ok sc_copied (fun vs H Q E h => ?_) (fun cdv A outer s H vs Q E hr h => ?_)
  · obtain (⟨i, d, rfl, _⟩ | ⟨a, ns, d, rfl, _⟩ | ⟨a, ns, d, rfl, _⟩) | ⟨a, rv, rows, d, rfl, _⟩ | ⟨a, tv, tab, d, rfl, _⟩ := h
    all_goals rfl
  refine ⟨_, (pss_cons (ps_if (pt_cmpR op_eq (L2.pv 1) pe_int (nomark _)) (pss_one (ps_ret (L2.pv 0))) pss_nil)
    (pss_cons (ps_if (pt_val (pe_callB call_isinst rfl B.isinstance_ boot_isinstance_ (pa_cons (L2.pv 0) (pa_cons (pe_bltn (v := .ty "list") (u := .type "list") rfl B.list_ boot_list_ rfl) pa_nil)))) (pss_one (ps_ret (pe_comp (own := ["part"]) (caps := [(1, "depth")]) (blk_cap (S := defScope s_copied) (N := ["value", "depth"]) rfl (by decide +kernel) rfl ⟨_, rfl⟩ rfl (by decide +kernel) (by decide +kernel)) rfl (pi_list (L2.pv 0)) (fun _ _ _ _ => pg_name (i := 0) (show (["part", "depth"] : List Str).Nodup by decide +kernel) rfl (Or.inl rfl)) (fun _ _ _ _ => (pe_callF c_copied.fn hr rfl (pa_cons (L2.pv 0) (pa_cons (pe_op op_sub (L2.pv 1) pe_int) pa_nil))))))) pss_nil)
    (pss_cons (ps_if (pt_val (pe_callB call_isinst rfl B.isinstance_ boot_isinstance_ (pa_cons (L2.pv 0) (pa_cons (pe_bltn (v := .ty "tuple") (u := .type "tuple") rfl B.tuple_ boot_tuple_ rfl) pa_nil)))) (pss_one (ps_ret (pe_callTy call_tuple_of rfl B.tuple_ boot_tuple_ (pa_cons (pe_comp (own := ["part"]) (caps := [(1, "depth")]) (blk_cap (S := defScope s_copied) (N := ["value", "depth"]) rfl (by decide +kernel) rfl ⟨_, rfl⟩ rfl (by decide +kernel) (by decide +kernel)) rfl (pi_tup (L2.pv 0)) (fun _ _ _ _ => pg_name (i := 0) (show (["part", "depth"] : List Str).Nodup by decide +kernel) rfl (Or.inl rfl)) (fun _ _ _ _ => (pe_callF c_copied.fn hr rfl (pa_cons (L2.pv 0) (pa_cons (pe_op op_sub (L2.pv 1) pe_int) pa_nil))))) pa_nil)))) pss_nil)
    (pss_one (ps_ret (L2.pv 0)))))), ?_⟩
  rcases h with (h | h | h) | h | h
  · obtain ⟨i, d, rfl, q⟩ := h
    refine ⟨_, rfl, rfl, _, rfl, ?_⟩
    by_cases d0 : d = 0
    · exact iteB1 (dec_yes d0) ⟨_, rfl, q⟩
    refine iteB0 (dec_no d0) ?_
    refine ⟨_, rfl, _, _, _, _, rfl, .int i, kd_lst K .int, _, rfl, iteF ?_⟩
    refine ⟨_, rfl, _, _, _, _, rfl, .int i, kd_tup K .int, _, rfl, iteF ?_⟩
    exact ⟨_, rfl, q⟩
  · obtain ⟨a, ns, d, rfl, d1, ha, few, q⟩ := h
    refine ⟨_, rfl, rfl, _, rfl, iteB0 (dec_no (by omega)) ?_⟩
    refine ⟨_, rfl, _, _, _, _, rfl, .lst ha, kit_list_list K, _, rfl, iteT ?_⟩
    refine ⟨_, rfl, a, rfl, ⟨_, SqL.of ha⟩, comp_list (K := K) (a := a) (xs := ns.map V.int) (fun i ys σ H' => ys = (ns.take i).map V.int ∧ (∃ o, σ = [o, some (.int d)]) ∧ H' = H)
      ⟨rfl, ⟨none, rfl⟩, rfl⟩ (fun i ys σ H' hi ⟨e1, _, e3⟩ => ⟨by rw [e3]; exact SqL.of ha, by rw [e1, List.length_map, List.length_take]; exact Nat.min_le_left _ _⟩) (by rw [List.length_map]; exact Nat.le_of_lt (small1000 (by omega))) ?_ ?_⟩
    · rintro i x ys σ H' hi ⟨rfl, ⟨o, rfl⟩, rfl⟩
      obtain ⟨z, hz, rfl⟩ := ints_get hi
      refine ⟨_, rfl, _, rfl, _, _, rfl, rfl, .inl ⟨z, d - 1, rfl, ?_, ⟨_, rfl⟩, rfl⟩⟩
      rw [take_snoc hz, List.map_append]
      rfl
    rintro ys σ H' ⟨rfl, ⟨o, rfl⟩, rfl⟩ l hl
    refine q l _ (same_new hl _) hl (upd_same.trans ?_)
    rw [List.length_map, List.take_length]
  · obtain ⟨a, ns, d, rfl, d1, ha, few, q⟩ := h
    refine ⟨_, rfl, rfl, _, rfl, iteB0 (dec_no (by omega)) ?_⟩
    refine ⟨_, rfl, _, _, _, _, rfl, .tup ha, kd_lst K .tup, _, rfl, iteF ?_⟩
    refine ⟨_, rfl, _, _, _, _, rfl, .tup ha, kit_tuple_tuple K, _, rfl, iteT ?_⟩
    refine ⟨_, rfl, a, rfl, ⟨_, SqT.of ha⟩, comp_tup (K := K) (a := a) (xs := ns.map V.int) (fun i ys σ H' => ys = (ns.take i).map V.int ∧ (∃ o, σ = [o, some (.int d)]) ∧ H' = H)
      ⟨rfl, ⟨none, rfl⟩, rfl⟩ (fun i ys σ H' hi ⟨e1, _, e3⟩ => ⟨by rw [e3]; exact SqT.of ha, by rw [e1, List.length_map, List.length_take]; exact Nat.min_le_left _ _⟩) (by rw [List.length_map]; exact Nat.le_of_lt (small1000 (by omega))) ?_ ?_⟩
    · rintro i x ys σ H' hi ⟨rfl, ⟨o, rfl⟩, rfl⟩
      obtain ⟨z, hz, rfl⟩ := ints_get hi
      refine ⟨_, rfl, _, rfl, _, _, rfl, rfl, .inl ⟨z, d - 1, rfl, ?_, ⟨_, rfl⟩, rfl⟩⟩
      rw [take_snoc hz, List.map_append]
      rfl
    rintro ys σ H' ⟨rfl, ⟨o, rfl⟩, rfl⟩ l hl
    refine ⟨l, _, rfl, .inl ⟨SqL.of upd_same, fun t ht => ?_⟩⟩
    refine q t _ ((same_new hl _).trans (same_new ht _)) ((same_new hl _).free ht) (upd_same.trans ?_)
    rw [List.length_map, List.take_length]
  · obtain ⟨a, rv, rows, d, rfl, d1, ha, hrv, few, rl, q⟩ := h
    have lr : rv.length = rows.length := Paired.length hrv
    refine ⟨_, rfl, rfl, _, rfl, iteB0 (dec_no (by omega)) ?_⟩
    refine ⟨_, rfl, _, _, _, _, rfl, .lst ha, kit_list_list K, _, rfl, iteT ?_⟩
    refine ⟨_, rfl, a, rfl, ⟨_, SqL.of ha⟩, comp_list (K := K) (a := a) (xs := rv) (fun i ys σ H' => WaysV H' ys (rows.take i) ∧ (∃ o, σ = [o, some (.int d)]) ∧ Same H H')
      ⟨.nil, ⟨none, rfl⟩, Same.refl _⟩ (fun i ys σ H' hi ⟨e1, _, sm⟩ => ⟨SqL.of (sm _ _ ha), by have := Paired.length e1; rw [List.length_take] at this; omega⟩) (Nat.le_of_lt (small1000 (by omega))) ?_ ?_⟩
    · rintro i x ys σ H' hi ⟨hys, ⟨o, rfl⟩, sm⟩
      obtain ⟨r, hr', b, rfl, eb⟩ := paired_get hrv hi
      refine ⟨_, rfl, _, rfl, _, _, rfl, rfl, .inr (.inr ⟨b, r, d - 1, rfl, (by omega), sm _ _ eb, rl r (List.mem_of_getElem? hr'), fun t H2 s2 _ et => ?_⟩)⟩
      refine ⟨?_, ⟨_, rfl⟩, sm.trans s2⟩
      rw [take_snoc hr']
      exact paired_snoc (R := fun v (k : List Int) => Tp H2 v (k.map V.int)) ⟨t, rfl, et⟩ (WaysV.same s2 hys)
    rintro ys σ H' ⟨hys, ⟨o, rfl⟩, sm⟩ l hl
    rw [lr, List.take_length] at hys
    exact q l ys _ (sm.trans (same_new hl _)) (sm.free hl) upd_same (WaysV.same (same_new hl _) hys)
  · obtain ⟨a, tv, tab, d, rfl, d1, ha, htv, few, rl, q⟩ := h
    have lr : tv.length = tab.length := Paired.length htv
    refine ⟨_, rfl, rfl, _, rfl, iteB0 (dec_no (by omega)) ?_⟩
    refine ⟨_, rfl, _, _, _, _, rfl, .lst ha, kit_list_list K, _, rfl, iteT ?_⟩
    refine ⟨_, rfl, a, rfl, ⟨_, SqL.of ha⟩, comp_list (K := K) (a := a) (xs := tv) (fun i ys σ H' => Paired (NewL H H') ys (tab.take i) ∧ (∃ o, σ = [o, some (.int d)]) ∧ Same H H')
      ⟨.nil, ⟨none, rfl⟩, Same.refl _⟩ (fun i ys σ H' hi ⟨e1, _, sm⟩ => ⟨SqL.of (sm _ _ ha), by have := Paired.length e1; rw [List.length_take] at this; omega⟩) (Nat.le_of_lt (small1000 (by omega))) ?_ ?_⟩
    · rintro i x ys σ H' hi ⟨hys, ⟨o, rfl⟩, sm⟩
      obtain ⟨r, hr', b, rfl, eb⟩ := paired_get htv hi
      refine ⟨_, rfl, _, rfl, _, _, rfl, rfl, .inr (.inl ⟨b, r, d - 1, rfl, (by omega), sm _ _ eb, rl r (List.mem_of_getElem? hr'), fun t H2 s2 tn et => ?_⟩)⟩
      refine ⟨?_, ⟨_, rfl⟩, sm.trans s2⟩
      rw [take_snoc hr']
      exact paired_snoc (R := NewL H H2) ⟨t, rfl, sm.free tn, et⟩ (Paired.mapP hys fun _ _ ⟨c, e, n, k⟩ => ⟨c, e, n, s2 _ _ k⟩)
    rintro ys σ H' ⟨hys, ⟨o, rfl⟩, sm⟩ l hl
    rw [lr, List.take_length] at hys
    have z := same_new hl (HO.lst ys)
    exact q l ys _ (sm.trans z) (sm.free hl) upd_same (Paired.mapP hys fun _ _ ⟨c, e, n, k⟩ => ⟨c, e, n, z _ _ k⟩)
abbrev s_raw_sum : Stmt := top 11
theorem sc_raw_sum : FnScope ["numbers", "point", "top", "bottom", "number", "part"] ["numbers", "point"] (defScope s_raw_sum) := ⟨rfl, rfl, rfl, by decide +kernel, rfl, by decide +kernel, by decide +kernel⟩
theorem ok_raw_sum {k : Nat} {f : Addr} {fd : FuncData} {aStraight aStopped aParted : Addr} (TStraight : ClsF K mg "Straight" aStraight) (AStraight : AtStraight K aStraight) (TStopped : ClsF K mg "Stopped" aStopped) (AStopped : AtStopped K aStopped) (TParted : ClsF K mg "Parted" aParted) (AParted : AtParted K aParted) (F : Fun K "raw_sum" "raw_sum" s_raw_sum f fd) (B : Bl mg) : FnOk P w K mg base CX0 (k + 1) f fd ["numbers", "point"] (spRawE K) := by
  refine F.ok sc_raw_sum (fun vs H Q E h => ?_) (fun cdv A outer s H vs Q E hr h => ?_)
  · obtain ⟨na, pa, ws, pv, pts, rfl, _⟩ := h
    rfl
  obtain ⟨na, pa, ws, pv, pts, rfl, hna, hpa, hpt, PO, WO, q⟩ := h
  refine ⟨_, (pss_cons (ps_set (i := 2) sc_raw_sum.nd rfl (Or.inl rfl) pe_int)
    (pss_cons (ps_set (i := 3) sc_raw_sum.nd rfl (Or.inl rfl) pe_int)
    (pss_cons (ps_for PassesOwn.never rfl (pi_zipS rfl B.zip_ (pa_cons (L2.pv 0) (pa_cons (L2.pv 1) pa_nil))) (pg_tup rfl (pgs_cons (pg_name (i := 4) sc_raw_sum.nd rfl (Or.inl rfl)) (pgs_cons (pg_name (i := 5) sc_raw_sum.nd rfl (Or.inl rfl)) pgs_nil))) (pss_cons (ps_set (i := 2) sc_raw_sum.nd rfl (Or.inl rfl) (pe_op op_add (pe_op op_mulW (L2.pv 2) (pe_ix ix_tup (L2.pv 5) pe_int (fun _ _ => rfl))) (pe_op op_mulW (pe_op op_mulW (L2.pv 4) (pe_ix ix_tup (L2.pv 5) pe_int (fun _ _ => rfl))) (L2.pv 3))))
      (pss_one (ps_set (i := 3) sc_raw_sum.nd rfl (Or.inl rfl) (pe_op op_mulW (L2.pv 3) (pe_ix ix_tup (L2.pv 5) pe_int (fun _ _ => rfl)))))))
    (pss_one (ps_ret (pe_tup (pa_cons (L2.pv 2) (pa_cons (L2.pv 3) pa_nil)))))))), ?_⟩
  have lp : pv.length = pts.length := Paired.length hpt
  have hlen : (ws.map V.int).length ≤ pv.length := by rw [List.length_map, WO.len, lp]; exact Nat.le_refl _
  refine ⟨_, rfl, _, rfl, na, pa, rfl, for_zipE (xs := ws.map V.int) (ys := pv) hna hpa
    (fun i σ H2 => ∃ n1 p1, σ = [some (.ref na), some (.ref pa), some (.int (((ws.zip pts).take i).foldl alStep (0, 1)).1), some (.int (((ws.zip pts).take i).foldl alStep (0, 1)).2), n1, p1] ∧ Same H H2)
    ⟨none, none, rfl, Same.refl _⟩ (fun i σ H2 _ ⟨_, _, _, sm⟩ => sm) hlen ?_ ?_⟩
  · rintro i x y T σ H2 hx hy hT ⟨n1, p1, rfl, sm⟩
    obtain ⟨wv, hw, rfl⟩ := ints_get hx
    obtain ⟨pr, hpr, r, rfl, er⟩ := paired_get hpt hy
    have hz : (ws.zip pts)[i]? = some (wv, pr) := by rw [List.getElem?_zip_eq_some]; exact ⟨hw, hpr⟩
    have hzm := List.mem_of_getElem? hz
    obtain ⟨z1, z2, z3, z4⟩ := zip_ok PO WO _ hzm
    have hil : i < pts.length := (List.getElem?_eq_some_iff.mp hpr).1
    obtain ⟨b1, b2⟩ := bd_al i ((ws.zip pts).take i) (by rw [List.length_take, zip_len WO]; omega) fun q hq => (zip_ok PO WO q (List.mem_of_mem_take hq)).2
    have n7 := PO.n7
    have s2 := sm.trans (same_new hT (HO.tup [V.int wv, V.ref r]))
    have er2 := s2 _ _ er
    have tk : ((ws.zip pts).take (i + 1)).foldl alStep (0, 1) = alStep (((ws.zip pts).take i).foldl alStep (0, 1)) (wv, pr) := by rw [take_snoc hz, List.foldl_append]; rfl
    refine ⟨T, _, rfl, SqT.of upd_same, rfl, _, _, rfl, _, _, rfl, rfl, ?_⟩
    refine ⟨_, rfl, _, rfl, r, _, 1, _, rfl, rfl, SqT.of er2, at1, _, _, rfl, rfl, ⟨b1.mono (by omega), z4.mono (by decide)⟩, ?_⟩
    refine ⟨_, rfl, _, rfl, r, _, 0, _, rfl, rfl, SqT.of er2, at0, _, _, rfl, rfl, ⟨z2.mono (by decide), z3.mono (by decide)⟩, _, rfl, _, _, rfl, rfl, ⟨(z2.mul z3).mono (by decide), b2.mono (by omega)⟩, _, _, rfl, rfl, ?_⟩
    refine ⟨_, rfl, _, rfl, r, _, 1, _, rfl, rfl, SqT.of er2, at1, _, _, rfl, rfl, ⟨b2.mono (by omega), z4.mono (by decide)⟩, ?_⟩
    refine ⟨some (.int wv), some (.ref r), ?_, s2⟩
    rw [tk]
    rfl
  · rintro σ H2 ⟨n1, p1, rfl, sm⟩
    have tk : (ws.zip pts).take (ws.map V.int).length = ws.zip pts := List.take_of_length_le (by rw [zip_len WO, List.length_map, WO.len]; exact Nat.le_refl _)
    rw [tk]
    refine ⟨_, rfl, _, rfl, (by show 2 ≤ sizeLine; decide), fun r hr' => ?_⟩
    exact q r _ (sm.trans (same_new hr' _)) upd_same
abbrev s_divided_sum : Stmt := top 12
theorem sc_divided_sum : FnScope ["numbers", "point", "add", "divisor", "total"] ["numbers", "point", "add", "divisor"] (defScope s_divided_sum) := ⟨rfl, rfl, rfl, by decide +kernel, rfl, by decide +kernel, by decide +kernel⟩
theorem ok_divided_sum {k : Nat} {f : Addr} {fd : FuncData} {aStraight aStopped aParted : Addr} (TStraight : ClsF K mg "Straight" aStraight) (AStraight : AtStraight K aStraight) (TStopped : ClsF K mg "Stopped" aStopped) (AStopped : AtStopped K aStopped) (TParted : ClsF K mg "Parted" aParted) (AParted : AtParted K aParted) (F : Fun K "divided_sum" "divided_sum" s_divided_sum f fd) (B : Bl mg) (c_raw_sum : Fn P w K mg base "raw_sum" ["numbers", "point"] k (spRawE K)) (c_fraction : FnD P w K mg base "fraction" ["top", "bottom"] k spFraction (.int 1)) : FnOk P w K mg base CX0 (k + 1) f fd ["numbers", "point", "add", "divisor"] (spDivided K) := by
  refine F.ok sc_divided_sum (fun vs H Q E h => ?_) (fun cdv A outer s H vs Q E hr h => ?_)
  · obtain ⟨na, pa, ws, pv, pts, a, d, rfl, _⟩ := h
    rfl
  obtain ⟨na, pa, ws, pv, pts, a, d, rfl, hna, hpa, hpt, PO, n3, WO, ba, d0, bd, q⟩ := h
  refine ⟨_, (pss_cons (ps_set (i := 4) sc_divided_sum.nd rfl (Or.inl rfl) (pe_callF c_raw_sum hr rfl (pa_cons (L2.pv 0) (pa_cons (L2.pv 1) pa_nil))))
    (pss_one (ps_ret (pe_callF c_fraction.fn hr rfl (pa_cons (pe_op op_add (pe_ix ix_tup (L2.pv 4) pe_int (fun _ _ => rfl)) (pe_op op_mulW (L2.pv 2) (pe_ix ix_tup (L2.pv 4) pe_int (fun _ _ => rfl)))) (pa_cons (pe_op op_mulW (pe_ix ix_tup (L2.pv 4) pe_int (fun _ _ => rfl)) (L2.pv 3)) pa_nil)))))), ?_⟩
  obtain ⟨b1, b2⟩ := al_bd3 PO n3 WO
  have p0 := al_pos PO WO
  have pq := Int.mul_pos p0 d0
  refine ⟨_, rfl, _, rfl, na, pa, ws, pv, pts, rfl, hna, hpa, hpt, PO, WO, fun r1 H1 s1 e1 => ?_⟩
  refine ⟨_, rfl, r1, _, 0, _, rfl, rfl, SqT.of e1, at0, _, rfl, _, rfl, r1, _, 1, _, rfl, rfl, SqT.of e1, at1, _, _, rfl, rfl, ⟨ba.mono (by decide), b2.mono (by decide)⟩, _, _, rfl, rfl, _, rfl, r1, _, 1, _, rfl, rfl, SqT.of e1, at1, _, rfl, _, _, rfl, rfl, ⟨b2.mono (by decide), bd.mono (by decide)⟩, _, _, rfl, (by omega), (b2.mul bd).mono (by decide), fun r H2 s2 e2 => ?_⟩
  exact q r H2 (s1.trans s2) e2
abbrev s_holds : Stmt := top 13
theorem sc_holds : FnScope ["row", "point", "total"] ["row", "point"] (defScope s_holds) := ⟨rfl, rfl, rfl, by decide +kernel, rfl, by decide +kernel, by decide +kernel⟩
theorem ok_holds {k : Nat} {f : Addr} {fd : FuncData} {aStraight aStopped aParted : Addr} (TStraight : ClsF K mg "Straight" aStraight) (AStraight : AtStraight K aStraight) (TStopped : ClsF K mg "Stopped" aStopped) (AStopped : AtStopped K aStopped) (TParted : ClsF K mg "Parted" aParted) (AParted : AtParted K aParted) (F : Fun K "holds" "holds" s_holds f fd) (B : Bl mg) (c_raw_sum : Fn P w K mg base "raw_sum" ["numbers", "point"] k (spRawE K)) : FnOk P w K mg base CX0 (k + 1) f fd ["row", "point"] (spHolds K) := by
  refine F.ok sc_holds (fun vs H Q E h => ?_) (fun cdv A outer s H vs Q E hr h => ?_)
  · obtain ⟨ra, pa, ws, b, pv, pts, rfl, _⟩ := h
    rfl
  obtain ⟨ra, pa, ws, b, pv, pts, rfl, hra, hpa, hpt, PO, WO, bb, q⟩ := h
  refine ⟨_, (pss_cons (ps_set (i := 2) sc_holds.nd rfl (Or.inl rfl) (pe_callF c_raw_sum hr rfl (pa_cons (pe_slice sl_tup (L2.pv 0) po_none (po_some (pe_un un_neg pe_int))) (pa_cons (L2.pv 1) pa_nil))))
    (pss_one (ps_ret (pe_cmpR op_le (pe_ix ix_tup (L2.pv 2) pe_int (fun _ _ => rfl)) (pe_op op_mulW (pe_ix ix_tup (L2.pv 0) (pe_un un_neg pe_int) (fun _ _ => rfl)) (pe_ix ix_tup (L2.pv 2) pe_int (fun _ _ => rfl))) (nomark _))))), ?_⟩
  refine ⟨_, rfl, _, rfl, _, rfl, ra, _, rfl, SqT.of hra, cut_last_no _ _, fun p hp => ?_⟩
  have ec : cutV (rowV ws b) none (some (-1)) = ws.map V.int := cut_last _ _
  have s1 := same_new hp (HO.tup (cutV (rowV ws b) none (some (-1))))
  refine ⟨_, rfl, p, pa, ws, pv, pts, rfl, .inl (SqT.of (upd_same.trans (by rw [ec]))), s1.seq hpa, hpt.same s1, PO, WO, fun r1 H1 s2 e1 => ?_⟩
  have b2 := (al_bd PO WO).2
  refine ⟨_, rfl, r1, _, 0, _, rfl, rfl, SqT.of e1, at0, _, rfl, _, rfl, ra, _, _, _, rfl, rfl, SqT.of (s2 _ _ (s1 _ _ hra)), atI_last _ _, _, rfl, r1, _, 1, _, rfl, rfl, SqT.of e1, at1, _, _, rfl, rfl, ⟨bb.mono (by decide), b2.mono (by decide)⟩, _, _, rfl, rfl, ?_⟩
  exact q H1 (s1.trans s2)
abbrev s_Straight___init__ : Stmt := inClass (top 16) 0
theorem sc_Straight___init__ : FnScope ["self", "numbers", "add", "divisor"] ["self", "numbers", "add", "divisor"] (defScope s_Straight___init__) := ⟨rfl, rfl, rfl, by decide +kernel, rfl, by decide +kernel, by decide +kernel⟩
theorem ok_Straight___init__ {k : Nat} {f : Addr} {fd : FuncData} {dv : Value} {aStraight aStopped aParted : Addr} (TStraight : ClsF K mg "Straight" aStraight) (AStraight : AtStraight K aStraight) (TStopped : ClsF K mg "Stopped" aStopped) (AStopped : AtStopped K aStopped) (TParted : ClsF K mg "Parted" aParted) (AParted : AtParted K aParted) (F : FunD K "__init__" "Straight.__init__" s_Straight___init__ f fd dv) (B : Bl mg) (c_copied : FnD P w K mg base "copied" ["value", "depth"] k spC2 (.int 5)) : FnOk P w K mg base CX0 (k + 1) f fd ["self", "numbers", "add", "divisor"] (spStraightInit aStraight) := by
  refine F.ok sc_Straight___init__ (fun vs H Q E h => ?_) (fun cdv A outer s H vs Q E hr h => ?_)
  · obtain ⟨o, dx, la, ns, a, d, rfl, _⟩ := h
    rfl
  obtain ⟨o, dx, la, ns, a, d, rfl, ho, hla, few, q⟩ := h
  refine ⟨_, (pss_cons (ps_fld (L2.pv 0) (pe_callF1 c_copied hr rfl (pa_cons (L2.pv 1) pa_nil)) rfl)
    (pss_cons (ps_fld (L2.pv 0) (L2.pv 2) rfl)
    (pss_one (ps_fld (L2.pv 0) (L2.pv 3) rfl)))), ?_⟩
  refine ⟨_, rfl, .inl (.inr (.inl ⟨la, ns, 5, rfl, (by decide), hla, few, fun l H1 s1 fl el => ?_⟩))⟩
  have ho1 := s1 _ _ ho
  refine ⟨_, rfl, o, aStraight, dx, _, rfl, ho1, TStraight.cl, AStraight.n_numbers, (by show 0 < 1000; decide), ?_⟩
  have o1 := upd_same (H := H1) (a := o) (o := HO.ins aStraight dx (putF "numbers" (.ref l) []))
  have T1 : SameB o H1 (upd H1 o (HO.ins aStraight dx (putF "numbers" (.ref l) []))) := sameB_upd o H1 _
  obtain ⟨J1, hJ1⟩ : ∃ J, J = upd H1 o (HO.ins aStraight dx (putF "numbers" (.ref l) [])) := ⟨_, rfl⟩
  rw [← hJ1] at o1 T1 ⊢
  refine ⟨_, rfl, _, rfl, o, aStraight, dx, _, rfl, o1, TStraight.cl, AStraight.n_add, (by show 1 < 1000; decide), ?_⟩
  have o2 := upd_same (H := J1) (a := o) (o := HO.ins aStraight dx (putF "add" (.int a) (putF "numbers" (.ref l) [])))
  have T2 : SameB o J1 (upd J1 o (HO.ins aStraight dx (putF "add" (.int a) (putF "numbers" (.ref l) [])))) := sameB_upd o J1 _
  obtain ⟨J2, hJ2⟩ : ∃ J, J = upd J1 o (HO.ins aStraight dx (putF "add" (.int a) (putF "numbers" (.ref l) []))) := ⟨_, rfl⟩
  rw [← hJ2] at o2 T2 ⊢
  refine ⟨_, rfl, _, rfl, o, aStraight, dx, _, rfl, o2, TStraight.cl, AStraight.n_divisor, (by show 2 < 1000; decide), ?_⟩
  have o3 := upd_same (H := J2) (a := o) (o := HO.ins aStraight dx (putF "divisor" (.int d) (putF "add" (.int a) (putF "numbers" (.ref l) []))))
  have T3 : SameB o J2 (upd J2 o (HO.ins aStraight dx (putF "divisor" (.int d) (putF "add" (.int a) (putF "numbers" (.ref l) []))))) := sameB_upd o J2 _
  obtain ⟨J3, hJ3⟩ : ∃ J, J = upd J2 o (HO.ins aStraight dx (putF "divisor" (.int d) (putF "add" (.int a) (putF "numbers" (.ref l) [])))) := ⟨_, rfl⟩
  rw [← hJ3] at o3 T3 ⊢
  have T13 : SameB o H1 J3 := T1.trans (T2.trans T3)
  exact q l J3 ((Same.but s1).trans T13) fl (o3.trans (by rw [str_put])) (keepB ho1 T13 el (fun z => by cases z))
abbrev s_Stopped___init__ : Stmt := inClass (top 17) 0
theorem sc_Stopped___init__ : FnScope ["self", "rule", "low", "high"] ["self", "rule", "low", "high"] (defScope s_Stopped___init__) := ⟨rfl, rfl, rfl, by decide +kernel, rfl, by decide +kernel, by decide +kernel⟩
theorem ok_Stopped___init__ {k : Nat} {f : Addr} {fd : FuncData} {aStraight aStopped aParted : Addr} (TStraight : ClsF K mg "Straight" aStraight) (AStraight : AtStraight K aStraight) (TStopped : ClsF K mg "Stopped" aStopped) (AStopped : AtStopped K aStopped) (TParted : ClsF K mg "Parted" aParted) (AParted : AtParted K aParted) (F : Fun K "__init__" "Stopped.__init__" s_Stopped___init__ f fd) (B : Bl mg) : FnOk P w K mg base CX0 (k + 1) f fd ["self", "rule", "low", "high"] (spStoppedInit aStopped) := by
  refine F.ok sc_Stopped___init__ (fun vs H Q E h => ?_) (fun cdv A outer s H vs Q E hr h => ?_)
  · obtain ⟨o, dx, u, lo, hi, rfl, _⟩ := h
    rfl
  obtain ⟨o, dx, u, lo, hi, rfl, ho, q⟩ := h
  refine ⟨_, (pss_cons (ps_fld (L2.pv 0) (L2.pv 1) rfl)
    (pss_cons (ps_fld (L2.pv 0) (L2.pv 2) rfl)
    (pss_one (ps_fld (L2.pv 0) (L2.pv 3) rfl)))), ?_⟩
  obtain ⟨H1, hH1⟩ : ∃ H1, H1 = H := ⟨_, rfl⟩
  rw [← hH1] at ho q ⊢
  have ho1 := ho
  refine ⟨_, rfl, _, rfl, o, aStopped, dx, _, rfl, ho1, TStopped.cl, AStopped.n_rule, (by show 0 < 1000; decide), ?_⟩
  have o1 := upd_same (H := H1) (a := o) (o := HO.ins aStopped dx (putF "rule" u []))
  have T1 : SameB o H1 (upd H1 o (HO.ins aStopped dx (putF "rule" u []))) := sameB_upd o H1 _
  obtain ⟨J1, hJ1⟩ : ∃ J, J = upd H1 o (HO.ins aStopped dx (putF "rule" u [])) := ⟨_, rfl⟩
  rw [← hJ1] at o1 T1 ⊢
  refine ⟨_, rfl, _, rfl, o, aStopped, dx, _, rfl, o1, TStopped.cl, AStopped.n_low, (by show 1 < 1000; decide), ?_⟩
  have o2 := upd_same (H := J1) (a := o) (o := HO.ins aStopped dx (putF "low" (.int lo) (putF "rule" u [])))
  have T2 : SameB o J1 (upd J1 o (HO.ins aStopped dx (putF "low" (.int lo) (putF "rule" u [])))) := sameB_upd o J1 _
  obtain ⟨J2, hJ2⟩ : ∃ J, J = upd J1 o (HO.ins aStopped dx (putF "low" (.int lo) (putF "rule" u []))) := ⟨_, rfl⟩
  rw [← hJ2] at o2 T2 ⊢
  refine ⟨_, rfl, _, rfl, o, aStopped, dx, _, rfl, o2, TStopped.cl, AStopped.n_high, (by show 2 < 1000; decide), ?_⟩
  have o3 := upd_same (H := J2) (a := o) (o := HO.ins aStopped dx (putF "high" (.int hi) (putF "low" (.int lo) (putF "rule" u []))))
  have T3 : SameB o J2 (upd J2 o (HO.ins aStopped dx (putF "high" (.int hi) (putF "low" (.int lo) (putF "rule" u []))))) := sameB_upd o J2 _
  obtain ⟨J3, hJ3⟩ : ∃ J, J = upd J2 o (HO.ins aStopped dx (putF "high" (.int hi) (putF "low" (.int lo) (putF "rule" u [])))) := ⟨_, rfl⟩
  rw [← hJ3] at o3 T3 ⊢
  have T13 : SameB o H1 J3 := T1.trans (T2.trans T3)
  exact q J3 T13 (o3.trans (by rw [stp_put]))
abbrev s_Parted___init__ : Stmt := inClass (top 18) 0
theorem sc_Parted___init__ : FnScope ["self", "row", "rule", "other"] ["self", "row", "rule", "other"] (defScope s_Parted___init__) := ⟨rfl, rfl, rfl, by decide +kernel, rfl, by decide +kernel, by decide +kernel⟩
theorem ok_Parted___init__ {k : Nat} {f : Addr} {fd : FuncData} {aStraight aStopped aParted : Addr} (TStraight : ClsF K mg "Straight" aStraight) (AStraight : AtStraight K aStraight) (TStopped : ClsF K mg "Stopped" aStopped) (AStopped : AtStopped K aStopped) (TParted : ClsF K mg "Parted" aParted) (AParted : AtParted K aParted) (F : Fun K "__init__" "Parted.__init__" s_Parted___init__ f fd) (B : Bl mg) (c_copied : FnD P w K mg base "copied" ["value", "depth"] k spC2 (.int 5)) : FnOk P w K mg base CX0 (k + 1) f fd ["self", "row", "rule", "other"] (spPartedInit aParted) := by
  refine F.ok sc_Parted___init__ (fun vs H Q E h => ?_) (fun cdv A outer s H vs Q E hr h => ?_)
  · obtain ⟨o, dx, ra, r, u, w, rfl, _⟩ := h
    rfl
  obtain ⟨o, dx, ra, r, u, w, rfl, ho, hra, few, q⟩ := h
  refine ⟨_, (pss_cons (ps_fld (L2.pv 0) (pe_callF1 c_copied hr rfl (pa_cons (L2.pv 1) pa_nil)) rfl)
    (pss_cons (ps_fld (L2.pv 0) (L2.pv 2) rfl)
    (pss_one (ps_fld (L2.pv 0) (L2.pv 3) rfl)))), ?_⟩
  refine ⟨_, rfl, .inl (.inr (.inr ⟨ra, r, 5, rfl, (by decide), hra, few, fun l H1 s1 fl el => ?_⟩))⟩
  have ho1 := s1 _ _ ho
  refine ⟨_, rfl, o, aParted, dx, _, rfl, ho1, TParted.cl, AParted.n_row, (by show 0 < 1000; decide), ?_⟩
  have o1 := upd_same (H := H1) (a := o) (o := HO.ins aParted dx (putF "row" (.ref l) []))
  have T1 : SameB o H1 (upd H1 o (HO.ins aParted dx (putF "row" (.ref l) []))) := sameB_upd o H1 _
  obtain ⟨J1, hJ1⟩ : ∃ J, J = upd H1 o (HO.ins aParted dx (putF "row" (.ref l) [])) := ⟨_, rfl⟩
  rw [← hJ1] at o1 T1 ⊢
  refine ⟨_, rfl, _, rfl, o, aParted, dx, _, rfl, o1, TParted.cl, AParted.n_rule, (by show 1 < 1000; decide), ?_⟩
  have o2 := upd_same (H := J1) (a := o) (o := HO.ins aParted dx (putF "rule" u (putF "row" (.ref l) [])))
  have T2 : SameB o J1 (upd J1 o (HO.ins aParted dx (putF "rule" u (putF "row" (.ref l) [])))) := sameB_upd o J1 _
  obtain ⟨J2, hJ2⟩ : ∃ J, J = upd J1 o (HO.ins aParted dx (putF "rule" u (putF "row" (.ref l) []))) := ⟨_, rfl⟩
  rw [← hJ2] at o2 T2 ⊢
  refine ⟨_, rfl, _, rfl, o, aParted, dx, _, rfl, o2, TParted.cl, AParted.n_other, (by show 2 < 1000; decide), ?_⟩
  have o3 := upd_same (H := J2) (a := o) (o := HO.ins aParted dx (putF "other" w (putF "rule" u (putF "row" (.ref l) []))))
  have T3 : SameB o J2 (upd J2 o (HO.ins aParted dx (putF "other" w (putF "rule" u (putF "row" (.ref l) []))))) := sameB_upd o J2 _
  obtain ⟨J3, hJ3⟩ : ∃ J, J = upd J2 o (HO.ins aParted dx (putF "other" w (putF "rule" u (putF "row" (.ref l) [])))) := ⟨_, rfl⟩
  rw [← hJ3] at o3 T3 ⊢
  have T13 : SameB o H1 J3 := T1.trans (T2.trans T3)
  exact q l J3 ((Same.but s1).trans T13) fl (o3.trans (by rw [prt_put])) (keepB ho1 T13 el (fun z => by cases z))
abbrev s_Straight_steering : Stmt := inClass (top 16) 1
theorem sc_Straight_steering : FnScope ["self", "point"] ["self", "point"] (defScope s_Straight_steering) := ⟨rfl, rfl, rfl, by decide +kernel, rfl, by decide +kernel, by decide +kernel⟩
theorem ok_Straight_steering {k : Nat} {f : Addr} {fd : FuncData} {d : Nat} {aStraight aStopped aParted : Addr} (TStraight : ClsF K mg "Straight" aStraight) (AStraight : AtStraight K aStraight) (TStopped : ClsF K mg "Stopped" aStopped) (AStopped : AtStopped K aStopped) (TParted : ClsF K mg "Parted" aParted) (AParted : AtParted K aParted) (F : Fun K "steering" "Straight.steering" s_Straight_steering f fd) (B : Bl mg) (c_divided_sum : Fn P w K mg base "divided_sum" ["numbers", "point", "add", "divisor"] k (spDivided K)) : FnOk P w K mg base CX0 (k + 1) f fd ["self", "point"] (spSteer aStraight aStopped aParted K isStr d) := by
  refine F.ok sc_Straight_steering (fun vs H Q E h => ?_) (fun cdv A outer s H vs Q E hr h => ?_)
  · obtain ⟨o, pa, pv, pts, t, rfl, _⟩ := h
    rfl
  obtain ⟨o, pa, pv, pts, t, rfl, kd, dp, hR, TO, hpa, hpt, PO, n3, q⟩ := h
  obtain ⟨ns, a, dd, rfl⟩ := isStr_ex kd
  obtain ⟨_, dx, la, e0, ins, ela⟩ := hR
  cases e0
  refine ⟨_, (pss_one (ps_ret (pe_callF c_divided_sum hr rfl (pa_cons (pe_fld (L2.pv 0) rfl) (pa_cons (L2.pv 1) (pa_cons (pe_fld (L2.pv 0) rfl) (pa_cons (pe_fld (L2.pv 0) rfl) pa_nil))))))), ?_⟩
  refine ⟨_, rfl, o, aStraight, dx, _, _, rfl, ins, TStraight.cl, AStraight.n_numbers, rfl, _, rfl, _, rfl, o, aStraight, dx, _, _, rfl, ins, TStraight.cl, AStraight.n_add, rfl, _, rfl, o, aStraight, dx, _, _, rfl, ins, TStraight.cl, AStraight.n_divisor, rfl, la, pa, ns, pv, pts, a, dd, rfl, .inr (SqL.of ela), hpa, hpt, PO, n3, ⟨TO.1, fun w hw => (TO.2.1 w hw).mono (by decide)⟩, TO.2.2.1.mono (by decide), TO.2.2.2.1, TO.2.2.2.2.mono (by decide), fun r H' s e => q r H' s e⟩
abbrev s_Stopped_steering : Stmt := inClass (top 17) 1
theorem sc_Stopped_steering : FnScope ["self", "point", "value"] ["self", "point"] (defScope s_Stopped_steering) := ⟨rfl, rfl, rfl, by decide +kernel, rfl, by decide +kernel, by decide +kernel⟩
theorem ok_Stopped_steering {k : Nat} {f : Addr} {fd : FuncData} {d : Nat} {aStraight aStopped aParted : Addr} (TStraight : ClsF K mg "Straight" aStraight) (AStraight : AtStraight K aStraight) (TStopped : ClsF K mg "Stopped" aStopped) (AStopped : AtStopped K aStopped) (TParted : ClsF K mg "Parted" aParted) (AParted : AtParted K aParted) (F : Fun K "steering" "Stopped.steering" s_Stopped_steering f fd) (B : Bl mg) (c_Straight_steering : FnM P w K mg base aStraight "steering" ["self", "point"] k (spSteer aStraight aStopped aParted K isStr d)) (c_Stopped_steering : FnM P w K mg base aStopped "steering" ["self", "point"] k (spSteer aStraight aStopped aParted K isStp d)) (c_Parted_steering : FnM P w K mg base aParted "steering" ["self", "point"] k (spSteer aStraight aStopped aParted K isPrt d)) (c_under : Fn P w K mg base "under" ["one", "other"] k spUnder) (c_fraction : FnD P w K mg base "fraction" ["top", "bottom"] k spFraction (.int 1)) : FnOk P w K mg base CX0 (k + 1) f fd ["self", "point"] (spSteer aStraight aStopped aParted K isStp (d + 1)) := by
  refine F.ok sc_Stopped_steering (fun vs H Q E h => ?_) (fun cdv A outer s H vs Q E hr h => ?_)
  · obtain ⟨o, pa, pv, pts, t, rfl, _⟩ := h
    rfl
  obtain ⟨o, pa, pv, pts, t, rfl, kd, dp, hR, TO, hpa, hpt, PO, n3, q⟩ := h
  obtain ⟨t1, lo, hi, rfl⟩ := isStp_ex kd
  obtain ⟨_, dx, u, e0, ins, hu⟩ := hR
  cases e0
  obtain ⟨v0, bv1, bv2⟩ := val_ok PO n3 TO.1
  have blo := TO.2.1
  have bhi := TO.2.2
  have b1 : Bd 9000 (1 : Int) := (Bd.lit (n := 1)).mono (by decide)
  have b8 : Bd 8000 (1 : Int) := (Bd.lit (n := 1)).mono (by decide)
  have hrm := hr
  obtain ⟨t2, T2, R2⟩ : ∃ t2, PSs (cxOf CX0 P w K mg base ["self", "point", "value"] "Stopped.steering" (defScope s_Stopped_steering) f cdv A outer s H E).nox ((defBody s_Stopped_steering).drop 1) t2 ∧ ∀ r H', Same H H' → H' r = some (.tup [.int (valM pts t1).1, .int (valM pts t1).2]) → t2 { nx := fun _ H' => Q .non H', rt := Q } [some (.ref o), some (.ref pa), some (.ref r)] H' := by
    refine ⟨_, (pss_cons (ps_if (pt_val (pe_callF c_under hr rfl (pa_cons (L2.pv 2) (pa_cons (pe_callF1 c_fraction hr rfl (pa_cons (pe_fld (L2.pv 0) rfl) pa_nil)) pa_nil)))) (pss_one (ps_ret (pe_callF1 c_fraction hr rfl (pa_cons (pe_fld (L2.pv 0) rfl) pa_nil)))) pss_nil)
    (pss_cons (ps_if (pt_val (pe_callF c_under hr rfl (pa_cons (pe_callF1 c_fraction hr rfl (pa_cons (pe_fld (L2.pv 0) rfl) pa_nil)) (pa_cons (L2.pv 2) pa_nil)))) (pss_one (ps_ret (pe_callF1 c_fraction hr rfl (pa_cons (pe_fld (L2.pv 0) rfl) pa_nil)))) pss_nil)
    (pss_one (ps_ret (L2.pv 2))))), ?_⟩
    intro r H0 s0 er
    refine ⟨_, rfl, _, rfl, o, aStopped, dx, _, _, rfl, (s0 _ _ ins), TStopped.cl, AStopped.n_low, rfl, lo, 1, rfl, (by decide), b8, fun f1 H1 s1 e1 => ?_⟩
    have e1 := frac_one e1
    refine ⟨r, f1, _, _, _, _, rfl, ⟨s1 _ _ er, e1, v0, by decide, bv1.mono (by decide), bv2.mono (by decide), blo.mono (by decide), b1⟩, _, rfl, ?_⟩
    rw [Int.mul_one]
    refine ite2 (fun c => ?_) (fun c => ?_)
    · refine ⟨_, rfl, o, aStopped, dx, _, _, rfl, (s1 _ _ (s0 _ _ ins)), TStopped.cl, AStopped.n_low, rfl, lo, 1, rfl, (by decide), b8, fun f2 H2 s2 e2 => ?_⟩
      exact q f2 H2 (s0.trans (s1.trans s2)) ((frac_one e2).trans (by rw [val_lo (of_decide_eq_true c)]))
    have c' : ¬ (valM pts t1).1 < lo * (valM pts t1).2 := fun z => c (decide_eq_true z)
    refine ⟨_, rfl, o, aStopped, dx, _, _, rfl, (s1 _ _ (s0 _ _ ins)), TStopped.cl, AStopped.n_high, rfl, hi, 1, rfl, (by decide), b8, fun f3 H3 s3 e3 => ?_⟩
    have e3 := frac_one e3
    refine ⟨_, rfl, f3, r, _, _, _, _, rfl, ⟨e3, s3 _ _ (s1 _ _ er), by decide, v0, bhi.mono (by decide), b1, bv1.mono (by decide), bv2.mono (by decide)⟩, _, rfl, ?_⟩
    rw [Int.mul_one]
    refine ite2 (fun k => ?_) (fun k => ?_)
    · refine ⟨_, rfl, o, aStopped, dx, _, _, rfl, (s3 _ _ (s1 _ _ (s0 _ _ ins))), TStopped.cl, AStopped.n_high, rfl, hi, 1, rfl, (by decide), b8, fun f2 H2 s2 e2 => ?_⟩
      exact q f2 H2 (s0.trans (s1.trans (s3.trans s2))) ((frac_one e2).trans (by rw [val_hi c' (of_decide_eq_true k)]))
    · refine ⟨_, rfl, q r H3 (s0.trans (s1.trans s3)) ((s3 _ _ (s1 _ _ er)).trans (by rw [val_in c' (fun z => k (decide_eq_true z))]))⟩
  refine ⟨_, (pss_cons (ps_set (i := 2) sc_Stopped_steering.nd rfl (Or.inl rfl) (pe_alt (pe_methF c_Straight_steering TStraight hrm (pe_fld (L2.pv 0) rfl) (pa_cons (L2.pv 1) pa_nil)) (pe_alt (pe_methF c_Stopped_steering TStopped hrm (pe_fld (L2.pv 0) rfl) (pa_cons (L2.pv 1) pa_nil)) (pe_methF c_Parted_steering TParted hrm (pe_fld (L2.pv 0) rfl) (pa_cons (L2.pv 1) pa_nil)))))
    T2), ?_⟩
  rcases rt_kinds t1 with hk | hk | hk
  · obtain ⟨o1, dx1, fs1, rfl, i1, l1⟩ := (hu).insS hk
    exact .inl ⟨_, rfl, o, aStopped, dx, _, _, rfl, ins, TStopped.cl, AStopped.n_rule, rfl, o1, dx1, fs1, rfl, i1, l1, _, rfl, o1, pa, pv, pts, t1, rfl, hk, (Nat.le_of_succ_le_succ dp), hu, TO.1, hpa, hpt, PO, n3, R2⟩
  · obtain ⟨o1, dx1, fs1, rfl, i1, l1⟩ := (hu).insT hk
    exact .inr <| .inl ⟨_, rfl, o, aStopped, dx, _, _, rfl, ins, TStopped.cl, AStopped.n_rule, rfl, o1, dx1, fs1, rfl, i1, l1, _, rfl, o1, pa, pv, pts, t1, rfl, hk, (Nat.le_of_succ_le_succ dp), hu, TO.1, hpa, hpt, PO, n3, R2⟩
  · obtain ⟨o1, dx1, fs1, rfl, i1, l1⟩ := (hu).insP hk
    exact .inr <| .inr ⟨_, rfl, o, aStopped, dx, _, _, rfl, ins, TStopped.cl, AStopped.n_rule, rfl, o1, dx1, fs1, rfl, i1, l1, _, rfl, o1, pa, pv, pts, t1, rfl, hk, (Nat.le_of_succ_le_succ dp), hu, TO.1, hpa, hpt, PO, n3, R2⟩
abbrev s_Parted_steering : Stmt := inClass (top 18) 1
theorem sc_Parted_steering : FnScope ["self", "point"] ["self", "point"] (defScope s_Parted_steering) := ⟨rfl, rfl, rfl, by decide +kernel, rfl, by decide +kernel, by decide +kernel⟩
theorem ok_Parted_steering {k : Nat} {f : Addr} {fd : FuncData} {d : Nat} {aStraight aStopped aParted : Addr} (TStraight : ClsF K mg "Straight" aStraight) (AStraight : AtStraight K aStraight) (TStopped : ClsF K mg "Stopped" aStopped) (AStopped : AtStopped K aStopped) (TParted : ClsF K mg "Parted" aParted) (AParted : AtParted K aParted) (F : Fun K "steering" "Parted.steering" s_Parted_steering f fd) (B : Bl mg) (c_holds : Fn P w K mg base "holds" ["row", "point"] k (spHolds K)) (c_Straight_steering : FnM P w K mg base aStraight "steering" ["self", "point"] k (spSteer aStraight aStopped aParted K isStr d)) (c_Stopped_steering : FnM P w K mg base aStopped "steering" ["self", "point"] k (spSteer aStraight aStopped aParted K isStp d)) (c_Parted_steering : FnM P w K mg base aParted "steering" ["self", "point"] k (spSteer aStraight aStopped aParted K isPrt d)) : FnOk P w K mg base CX0 (k + 1) f fd ["self", "point"] (spSteer aStraight aStopped aParted K isPrt (d + 1)) := by
  refine F.ok sc_Parted_steering (fun vs H Q E h => ?_) (fun cdv A outer s H vs Q E hr h => ?_)
  · obtain ⟨o, pa, pv, pts, t, rfl, _⟩ := h
    rfl
  obtain ⟨o, pa, pv, pts, t, rfl, kd, dp, hR, TO, hpa, hpt, PO, n3, q⟩ := h
  obtain ⟨row, x, y, rfl⟩ := isPrt_ex kd
  obtain ⟨_, dx, ra, u, w0, e0, ins, hra, hx, hy⟩ := hR
  cases e0
  have W := TrOk.row TO.1
  have hrm := hr
  refine ⟨_, (pss_cons (ps_if (pt_val (pe_callF c_holds hr rfl (pa_cons (pe_fld (L2.pv 0) rfl) (pa_cons (L2.pv 1) pa_nil)))) (pss_one (ps_ret (pe_alt (pe_methF c_Straight_steering TStraight hrm (pe_fld (L2.pv 0) rfl) (pa_cons (L2.pv 1) pa_nil)) (pe_alt (pe_methF c_Stopped_steering TStopped hrm (pe_fld (L2.pv 0) rfl) (pa_cons (L2.pv 1) pa_nil)) (pe_methF c_Parted_steering TParted hrm (pe_fld (L2.pv 0) rfl) (pa_cons (L2.pv 1) pa_nil)))))) pss_nil)
    (pss_one (ps_ret (pe_alt (pe_methF c_Straight_steering TStraight hrm (pe_fld (L2.pv 0) rfl) (pa_cons (L2.pv 1) pa_nil)) (pe_alt (pe_methF c_Stopped_steering TStopped hrm (pe_fld (L2.pv 0) rfl) (pa_cons (L2.pv 1) pa_nil)) (pe_methF c_Parted_steering TParted hrm (pe_fld (L2.pv 0) rfl) (pa_cons (L2.pv 1) pa_nil))))))), ?_⟩
  refine ⟨_, rfl, o, aParted, dx, _, _, rfl, ins, TParted.cl, AParted.n_row, rfl, _, rfl, ra, pa, row.take pts.length, row.getD pts.length 0, pv, pts, rfl, hra.trans (by rw [rowV_split W.len]), hpa, hpt, PO, W.rw, (W.at (Nat.le_refl _)).2, fun H1 s1 => ⟨_, rfl, ?_⟩⟩
  refine ite2 (fun c => ?_) (fun c => ?_)
  · have ev := val_yes (x := x) (y := y) c
    rcases rt_kinds x with hk | hk | hk
    · obtain ⟨o1, dx1, fs1, rfl, i1, l1⟩ := (hx.same s1).insS hk
      exact .inl ⟨_, rfl, o, aParted, dx, _, _, rfl, (s1 _ _ ins), TParted.cl, AParted.n_rule, rfl, o1, dx1, fs1, rfl, i1, l1, _, rfl, o1, pa, pv, pts, x, rfl, hk, (Nat.le_trans (Nat.le_max_left _ _) (Nat.le_of_succ_le_succ dp)), hx.same s1, TO.2.1, (s1.seq hpa), (hpt.same s1), PO, n3, fun r H' s e => q r H' (s1.trans s) (e.trans (by rw [ev]))⟩
    · obtain ⟨o1, dx1, fs1, rfl, i1, l1⟩ := (hx.same s1).insT hk
      exact .inr <| .inl ⟨_, rfl, o, aParted, dx, _, _, rfl, (s1 _ _ ins), TParted.cl, AParted.n_rule, rfl, o1, dx1, fs1, rfl, i1, l1, _, rfl, o1, pa, pv, pts, x, rfl, hk, (Nat.le_trans (Nat.le_max_left _ _) (Nat.le_of_succ_le_succ dp)), hx.same s1, TO.2.1, (s1.seq hpa), (hpt.same s1), PO, n3, fun r H' s e => q r H' (s1.trans s) (e.trans (by rw [ev]))⟩
    · obtain ⟨o1, dx1, fs1, rfl, i1, l1⟩ := (hx.same s1).insP hk
      exact .inr <| .inr ⟨_, rfl, o, aParted, dx, _, _, rfl, (s1 _ _ ins), TParted.cl, AParted.n_rule, rfl, o1, dx1, fs1, rfl, i1, l1, _, rfl, o1, pa, pv, pts, x, rfl, hk, (Nat.le_trans (Nat.le_max_left _ _) (Nat.le_of_succ_le_succ dp)), hx.same s1, TO.2.1, (s1.seq hpa), (hpt.same s1), PO, n3, fun r H' s e => q r H' (s1.trans s) (e.trans (by rw [ev]))⟩
  · have ev := val_no (x := x) (y := y) c
    rcases rt_kinds y with hk | hk | hk
    · obtain ⟨o1, dx1, fs1, rfl, i1, l1⟩ := (hy.same s1).insS hk
      exact .inl ⟨_, rfl, o, aParted, dx, _, _, rfl, (s1 _ _ ins), TParted.cl, AParted.n_other, rfl, o1, dx1, fs1, rfl, i1, l1, _, rfl, o1, pa, pv, pts, y, rfl, hk, (Nat.le_trans (Nat.le_max_right _ _) (Nat.le_of_succ_le_succ dp)), hy.same s1, TO.2.2, (s1.seq hpa), (hpt.same s1), PO, n3, fun r H' s e => q r H' (s1.trans s) (e.trans (by rw [ev]))⟩
    · obtain ⟨o1, dx1, fs1, rfl, i1, l1⟩ := (hy.same s1).insT hk
      exact .inr <| .inl ⟨_, rfl, o, aParted, dx, _, _, rfl, (s1 _ _ ins), TParted.cl, AParted.n_other, rfl, o1, dx1, fs1, rfl, i1, l1, _, rfl, o1, pa, pv, pts, y, rfl, hk, (Nat.le_trans (Nat.le_max_right _ _) (Nat.le_of_succ_le_succ dp)), hy.same s1, TO.2.2, (s1.seq hpa), (hpt.same s1), PO, n3, fun r H' s e => q r H' (s1.trans s) (e.trans (by rw [ev]))⟩
    · obtain ⟨o1, dx1, fs1, rfl, i1, l1⟩ := (hy.same s1).insP hk
      exact .inr <| .inr ⟨_, rfl, o, aParted, dx, _, _, rfl, (s1 _ _ ins), TParted.cl, AParted.n_other, rfl, o1, dx1, fs1, rfl, i1, l1, _, rfl, o1, pa, pv, pts, y, rfl, hk, (Nat.le_trans (Nat.le_max_right _ _) (Nat.le_of_succ_le_succ dp)), hy.same s1, TO.2.2, (s1.seq hpa), (hpt.same s1), PO, n3, fun r H' s e => q r H' (s1.trans s) (e.trans (by rw [ev]))⟩
end
section
variable {P : Program} {w : World} {K : PySem.W.Frag} {mg : Str → Option Value} {base : Heap}
abbrev s_l_cell_at : Stmt := top 20
theorem sc_l_cell_at : FnScope ["_law_script", "_law_k"] ["_law_script", "_law_k"] (defScope s_l_cell_at) := ⟨rfl, rfl, rfl, by decide +kernel, rfl, by decide +kernel, by decide +kernel⟩
theorem ok_l_cell_at {k : Nat} {f : Addr} {fd : FuncData} {aStraight aStopped aParted : Addr} (TStraight : ClsF K mg "Straight" aStraight) (AStraight : AtStraight K aStraight) (TStopped : ClsF K mg "Stopped" aStopped) (AStopped : AtStopped K aStopped) (TParted : ClsF K mg "Parted" aParted) (AParted : AtParted K aParted) (F : Fun K "_law_cell_at" "_law_cell_at" s_l_cell_at f fd) (B : Bl mg) : FnOk P w K mg base CX0 (k + 1) f fd ["_law_script", "_law_k"] (spCell K) := by
  refine F.ok sc_l_cell_at (fun vs H Q E h => ?_) (fun cdv A outer s H vs Q E hr h => ?_)
  · obtain ⟨a, ns, k, rfl, _⟩ := h
    rfl
  obtain ⟨a, ns, k, rfl, hS, h0, q⟩ := h
  refine ⟨_, (pss_cons (ps_if (pt_cmpR op_lt (L2.pv 1) (pe_callB call_len_seq rfl B.len_ boot_len_ (pa_cons (L2.pv 0) pa_nil)) (nomark _)) (pss_one (ps_ret (pe_ix ix_list (L2.pv 0) (L2.pv 1) (fun _ _ => rfl)))) pss_nil)
    (pss_one (ps_ret pe_int))), ?_⟩
  refine ⟨_, rfl, _, rfl, a, _, rfl, .inl hS, _, _, rfl, rfl, _, rfl, ?_⟩
  refine ite2 (fun c => ?_) (fun c => ?_)
  · have c' : k < ((ns.map V.int).length : Int) := of_decide_eq_true c
    rw [List.length_map] at c'
    have hk : k.toNat < ns.length := by omega
    have ek : k = ((k.toNat : Nat) : Int) := by omega
    have q0 : atI (ns.map V.int) ((k.toNat : Nat) : Int) = some (.int ns[k.toNat]) := atI_nat (by rw [List.getElem?_map, List.getElem?_eq_getElem hk]; rfl)
    rw [← ek] at q0
    refine ⟨_, rfl, _, rfl, a, _, k, .int (ns[k.toNat]), rfl, rfl, hS, q0, ?_⟩
    · have e : ns[k.toNat] = cellZ ns k := by unfold cellZ; rw [List.getElem?_eq_getElem hk]; rfl
      rw [e]
      exact q
  · have c' : ¬ k < ((ns.map V.int).length : Int) := fun z => c (decide_eq_true z)
    rw [List.length_map] at c'
    have e : (0 : Int) = cellZ ns k := by unfold cellZ; rw [List.getElem?_eq_none (by omega)]; rfl
    show Q (.int 0) H
    rw [e]
    exact q
abbrev s_l_stream : Stmt := top 21
theorem sc_l_stream : FnScope ["_law_cell", "_law_many", "_law_found", "_law_rest", "_law_k", "_law_number_here"] ["_law_cell", "_law_many"] (defScope s_l_stream) := ⟨rfl, rfl, rfl, by decide +kernel, rfl, by decide +kernel, by decide +kernel⟩
theorem ok_l_stream {k : Nat} {f : Addr} {fd : FuncData} {aStraight aStopped aParted : Addr} (TStraight : ClsF K mg "Straight" aStraight) (AStraight : AtStraight K aStraight) (TStopped : ClsF K mg "Stopped" aStopped) (AStopped : AtStopped K aStopped) (TParted : ClsF K mg "Parted" aParted) (AParted : AtParted K aParted) (F : Fun K "_law_stream" "_law_stream" s_l_stream f fd) (B : Bl mg) : FnOk P w K mg base CX0 (k + 1) f fd ["_law_cell", "_law_many"] spStream := by
  refine F.ok sc_l_stream (fun vs H Q E h => ?_) (fun cdv A outer s H vs Q E hr h => ?_)
  · obtain ⟨c, mm, rfl, _⟩ := h
    rfl
  obtain ⟨c, mm, rfl, m0, m10, q⟩ := h
  refine ⟨_, (pss_cons (ps_set (i := 2) sc_l_stream.nd rfl (Or.inl rfl) (pe_lst pa_nil))
    (pss_cons (ps_if (pt_cmpR op_ge (L2.pv 0) (pe_op op_pow pe_int pe_int) (nomark _)) (pss_cons (ps_set (i := 3) sc_l_stream.nd rfl (Or.inl rfl) (pe_op op_sub (L2.pv 0) (pe_op op_pow pe_int pe_int)))
      (pss_cons (ps_for PassesOwn.never rfl (pi_range1 rfl B.range_ (pa_cons (L2.pv 1) pa_nil)) (pg_name (i := 4) sc_l_stream.nd rfl (Or.inl rfl)) (pss_cons (ps_expr (pe_bm PySem.F.plainAttrs_list PySem.F.slot_list_append PySem.F.type_list_append mt_append (L2.pv 2) (pa_cons (pe_op op_modN (L2.pv 3) pe_int) pa_nil)))
        (pss_one (ps_set (i := 3) sc_l_stream.nd rfl (Or.inl rfl) (pe_op op_fdivW (L2.pv 3) pe_int)))))
      (pss_one (ps_ret (L2.pv 2))))) pss_nil)
    (pss_cons (ps_set (i := 5) sc_l_stream.nd rfl (Or.inl rfl) (pe_op op_add (pe_op op_modN (L2.pv 0) pe_int) pe_int))
    (pss_cons (ps_for PassesOwn.never rfl (pi_range1 rfl B.range_ (pa_cons (pe_op op_add (L2.pv 1) pe_int) pa_nil)) (pg_name (i := 4) sc_l_stream.nd rfl (Or.inl rfl)) (pss_cons (ps_set (i := 5) sc_l_stream.nd rfl (Or.inl rfl) (pe_op op_modN (pe_op op_add (pe_op op_add (pe_op op_mulW (L2.pv 5) (L2.pv 5)) (pe_op op_mulW pe_int (L2.pv 5))) (L2.pv 4)) pe_int))
      (pss_one (ps_expr (pe_bm PySem.F.plainAttrs_list PySem.F.slot_list_append PySem.F.type_list_append mt_append (L2.pv 2) (pa_cons (L2.pv 5) pa_nil))))))
    (pss_one (ps_ret (pe_slice sl_list (L2.pv 2) (po_some pe_int) po_none))))))), ?_⟩
  have p0 : (0 : Int) < 2147483647 := by decide
  have b0 : Bd 31 (2147483647 : Int) := Bd.lit
  have big : (2147483647 : Int) < 10 ^ 45 := by decide
  have bmod : ∀ z : Int, Bd 31 (z.fmod 2147483647) := fun z => by
    have h1 := Int.fmod_nonneg_of_pos z p0
    have h2 := Int.fmod_lt_of_pos z p0
    have h3 : (2147483647 : Int).natAbs < 2 ^ 31 := b0
    show (z.fmod 2147483647).natAbs < 2 ^ 31
    omega
  refine ⟨(by show 0 ≤ sizeLine; decide), fun l hl => ?_⟩
  refine ⟨_, rfl, _, _, rfl, rfl, ⟨by decide, by decide, by decide⟩, _, _, rfl, rfl, _, rfl, ?_⟩
  refine ite2 (fun cc => ?_) (fun cc => ?_)
  · refine ⟨_, rfl, _, _, rfl, rfl, ⟨by decide, by decide, by decide⟩, _, _, rfl, rfl, ?_⟩
    refine ⟨_, rfl, mm, rfl, (by omega), (by omega), for_range (lo := 0) (n := mm.toNat)
      (fun i σ H2 => ∃ (xs : List Int) (rs : Int) (kk : Option V), σ = [some (.int c), some (.int mm), some (.ref l), some (.int rs), kk, none] ∧ H2 = upd H l (.lst (xs.map V.int)) ∧ xs.length = i ∧ ∀ x ∈ xs, 0 ≤ x ∧ x < 10 ^ 45)
      ⟨[], _, none, rfl, rfl, rfl, fun x hx => by cases hx⟩ ?_ ?_⟩
    · rintro i σ H2 hi ⟨xs, rs, kk, rfl, rfl, hlen, hxs⟩
      refine ⟨_, rfl, .inl ⟨rfl, _, SqL.of upd_same⟩, _, rfl, _, _, rfl, rfl, (show (2147483647 : Int) ≠ 0 by decide), l, _, _, rfl, rfl, upd_same, ?_, ?_⟩
      · rw [List.length_map]
        exact small1000 (by omega)
      refine ⟨_, rfl, _, _, rfl, rfl, ⟨(show (2147483647 : Int) ≠ 0 by decide), b0.mono (by decide)⟩, ?_⟩
      refine ⟨xs ++ [rs.fmod 2147483647], _, _, rfl, ?_, ?_, fun x hx => ?_⟩
      · rw [upd_upd, List.map_append]
        rfl
      · rw [List.length_append, hlen]
        rfl
      · rcases List.mem_append.mp hx with hx | hx
        · exact hxs x hx
        · rw [List.mem_singleton.mp hx]
          have h2 := Int.fmod_lt_of_pos rs p0
          exact ⟨Int.fmod_nonneg_of_pos _ p0, by omega⟩
    · rintro σ H2 ⟨xs, rs, kk, rfl, rfl, hlen, hxs⟩
      exact ⟨_, rfl, q l _ xs (same_new hl _) hl upd_same hlen hxs⟩
  · refine ⟨_, rfl, _, _, rfl, rfl, (show (2147483647 : Int) ≠ 0 by decide), _, _, rfl, rfl, ?_⟩
    have bk : Bd 31 (48271 : Int) := Bd.lit
    have hb0 : Bd 62 (c.fmod 2147483647 + 48271) := ((bmod c).add bk).mono (by decide)
    refine ⟨_, rfl, _, _, rfl, rfl, mm + 2, rfl, (by omega), (by omega), for_range (lo := 0) (n := (mm + 2).toNat)
      (fun i σ H2 => ∃ (xs : List Int) (nh : Int) (kk : Option V), σ = [some (.int c), some (.int mm), some (.ref l), none, kk, some (.int nh)] ∧ H2 = upd H l (.lst (xs.map V.int)) ∧ xs.length = i ∧ Bd 62 nh ∧ ∀ x ∈ xs, 0 ≤ x ∧ x < 10 ^ 45)
      ⟨[], _, none, rfl, rfl, rfl, hb0, fun x hx => by cases hx⟩ ?_ ?_⟩
    · rintro i σ H2 hi ⟨xs, nh, kk, rfl, rfl, hlen, hnh, hxs⟩
      refine ⟨_, rfl, _, rfl, _, _, rfl, rfl, ⟨hnh.mono (by decide), hnh.mono (by decide)⟩, _, rfl, _, _, rfl, rfl, ⟨bk.mono (by decide), hnh.mono (by decide)⟩, _, _, rfl, rfl, _, rfl, _, _, rfl, rfl, _, _, rfl, rfl, (show (2147483647 : Int) ≠ 0 by decide), ?_⟩
      refine ⟨_, rfl, .inl ⟨rfl, _, SqL.of upd_same⟩, _, rfl, l, _, _, rfl, rfl, upd_same, ?_, ?_⟩
      · rw [List.length_map]
        exact small1000 (by omega)
      refine ⟨xs ++ [(nh * nh + 48271 * nh + (0 + (i : Int))).fmod 2147483647], _, _, rfl, ?_, ?_, (bmod _).mono (by decide), fun x hx => ?_⟩
      · rw [upd_upd, List.map_append]
        rfl
      · rw [List.length_append, hlen]
        rfl
      · rcases List.mem_append.mp hx with hx | hx
        · exact hxs x hx
        · rw [List.mem_singleton.mp hx]
          have h2 := Int.fmod_lt_of_pos (nh * nh + 48271 * nh + (0 + (i : Int))) p0
          exact ⟨Int.fmod_nonneg_of_pos _ p0, by omega⟩
    · rintro σ H2 ⟨xs, nh, kk, rfl, rfl, hlen, hnh, hxs⟩
      refine ⟨_, rfl, _, rfl, l, _, rfl, SqL.of upd_same, fun p hp => ?_⟩
      have ec : cutV (xs.map V.int) (some 2) none = (xs.drop 2).map V.int := by
        have e1 : HT.sIx (xs.map V.int).length 0 (some 2) = min 2 (xs.map V.int).length := HT.sIx_nat _ 0 2
        unfold cutV
        rw [e1, HT.sIx_none, List.length_map, hlen, show min 2 (mm + 2).toNat = 2 by omega, ← List.map_drop, List.take_of_length_le (by rw [List.length_map, List.length_drop]; omega)]
      refine q p _ (xs.drop 2) ((same_new hl _).trans (same_new hp _)) ((same_new hl _).free hp) (upd_same.trans (by rw [ec])) (by rw [List.length_drop]; omega) fun x hx => hxs x (List.mem_of_mem_drop hx)
abbrev s_l_number : Stmt := top 22
theorem sc_l_number : FnScope ["_law_number_here"] ["_law_number_here"] (defScope s_l_number) := ⟨rfl, rfl, rfl, by decide +kernel, rfl, by decide +kernel, by decide +kernel⟩
theorem ok_l_number {k : Nat} {f : Addr} {fd : FuncData} {aStraight aStopped aParted : Addr} (TStraight : ClsF K mg "Straight" aStraight) (AStraight : AtStraight K aStraight) (TStopped : ClsF K mg "Stopped" aStopped) (AStopped : AtStopped K aStopped) (TParted : ClsF K mg "Parted" aParted) (AParted : AtParted K aParted) (F : Fun K "_law_number" "_law_number" s_l_number f fd) (B : Bl mg) : FnOk P w K mg base CX0 (k + 1) f fd ["_law_number_here"] spNum21 := by
  refine F.ok sc_l_number (fun vs H Q E h => ?_) (fun cdv A outer s H vs Q E hr h => ?_)
  · obtain ⟨x, rfl, _⟩ := h
    rfl
  obtain ⟨x, rfl, bx, q⟩ := h
  refine ⟨_, (pss_cons (ps_if (pt_cmpR op_eq (pe_op op_modN (L2.pv 0) pe_int) pe_int (nomark _)) (pss_one (ps_ret (pe_op op_sub (pe_op op_modN (pe_op op_mulW (pe_op op_fdivW (L2.pv 0) pe_int) (pe_op op_pow pe_int pe_int)) (pe_op op_pow pe_int pe_int)) (pe_op op_mulW pe_int (pe_op op_pow pe_int pe_int))))) pss_nil)
    (pss_one (ps_ret (pe_op op_sub (pe_op op_modN (pe_op op_fdivW (L2.pv 0) pe_int) pe_int) pe_int)))), ?_⟩
  have b6 : Bd 4 (6 : Int) := Bd.lit
  have b5 : Bd 4 (5 : Int) := Bd.lit
  have p30 : (0 : Int) < 10 ^ (30 : Int).toNat := by decide
  have b22 : Bd 104 ((10 : Int) ^ (22 : Int).toNat) := Bd.lit
  have b29 : Bd 130 ((10 : Int) ^ (29 : Int).toNat) := Bd.lit
  refine ⟨_, rfl, _, _, rfl, rfl, (show (6 : Int) ≠ 0 by decide), rfl, _, rfl, ?_⟩
  refine ite2 (fun c1 => ?_) (fun c1 => ?_)
  · refine ⟨_, rfl, _, _, rfl, rfl, ⟨by decide, b6.mono (by decide)⟩, _, _, rfl, rfl, ⟨by decide, by decide, by decide⟩, _, _, rfl, rfl, ⟨(bx.fdiv _).mono (by decide), b22.mono (by decide)⟩, _, _, rfl, rfl, ⟨by decide, by decide, by decide⟩, _, _, rfl, rfl, (show (10 : Int) ^ (30 : Int).toNat ≠ 0 by decide), _, _, rfl, rfl, ⟨by decide, by decide, by decide⟩, _, _, rfl, rfl, ⟨b5.mono (by decide), b29.mono (by decide)⟩, _, _, rfl, rfl, ?_⟩
    refine q _ ?_
    have h1 := Int.fmod_nonneg_of_pos (x.fdiv 6 * 10 ^ (22 : Int).toNat) p30
    have h2 := Int.fmod_lt_of_pos (x.fdiv 6 * 10 ^ (22 : Int).toNat) p30
    have h3 : (10 : Int) ^ (30 : Int).toNat < 2 ^ 100 := by decide
    have h4 : (5 : Int) * 10 ^ (29 : Int).toNat < 2 ^ 100 := by decide
    have h5 : 0 < (5 : Int) * 10 ^ (29 : Int).toNat := by decide
    show ((x.fdiv 6 * 10 ^ (22 : Int).toNat).fmod (10 ^ (30 : Int).toNat) - 5 * 10 ^ (29 : Int).toNat).natAbs < 2 ^ 101
    omega
  · refine ⟨_, rfl, _, _, rfl, rfl, ⟨by decide, b6.mono (by decide)⟩, _, _, rfl, rfl, (show (19 : Int) ≠ 0 by decide), _, _, rfl, rfl, ?_⟩
    refine q _ ?_
    have h1 := Int.fmod_nonneg_of_pos (x.fdiv 6) (show (0 : Int) < 19 by decide)
    have h2 := Int.fmod_lt_of_pos (x.fdiv 6) (show (0 : Int) < 19 by decide)
    have : Bd 5 ((x.fdiv 6).fmod 19 - 9) := by
      show ((x.fdiv 6).fmod 19 - 9).natAbs < 2 ^ 5
      omega
    exact this.mono (by decide)
abbrev s_l_leaf : Stmt := top 23
theorem sc_l_leaf : FnScope ["_law_cell", "_law_many", "_law_xs", "_law_divisor_here"] ["_law_cell", "_law_many"] (defScope s_l_leaf) := ⟨rfl, rfl, rfl, by decide +kernel, rfl, by decide +kernel, by decide +kernel⟩
theorem ok_l_leaf {k : Nat} {f : Addr} {fd : FuncData} {aStraight aStopped aParted : Addr} (TStraight : ClsF K mg "Straight" aStraight) (AStraight : AtStraight K aStraight) (TStopped : ClsF K mg "Stopped" aStopped) (AStopped : AtStopped K aStopped) (TParted : ClsF K mg "Parted" aParted) (AParted : AtParted K aParted) (F : Fun K "_law_leaf" "_law_leaf" s_l_leaf f fd) (B : Bl mg) (c_l_stream : Fn P w K mg base "_law_stream" ["_law_cell", "_law_many"] k spStream) (c_l_number : Fn P w K mg base "_law_number" ["_law_number_here"] k spNum21) : FnOk P w K mg base CX0 (k + 1) f fd ["_law_cell", "_law_many"] spLeaf := by
  refine F.ok sc_l_leaf (fun vs H Q E h => ?_) (fun cdv A outer s H vs Q E hr h => ?_)
  · obtain ⟨c, mm, rfl, _⟩ := h
    rfl
  obtain ⟨c, mm, rfl, m1, m3, q⟩ := h
  refine ⟨_, (pss_cons (ps_set (i := 2) sc_l_leaf.nd rfl (Or.inl rfl) (pe_callF c_l_stream hr rfl (pa_cons (L2.pv 0) (pa_cons pe_int pa_nil))))
    (pss_cons (ps_set (i := 3) sc_l_leaf.nd rfl (Or.inl rfl) (pe_op op_add pe_int (pe_op op_modN (pe_ix ix_list (L2.pv 2) pe_int (fun _ _ => rfl)) (pe_ix ix_list (pe_lst (pa_cons pe_int (pa_cons pe_int (pa_cons (pe_op op_pow pe_int pe_int) pa_nil)))) (pe_op op_modN (pe_ix ix_list (L2.pv 2) pe_int (fun _ _ => rfl)) pe_int) (fun _ _ => rfl)))))
    (pss_one (ps_ret (pe_tup (pa_cons pe_str (pa_cons (pe_comp (own := ["_law_number_here"]) (caps := []) (blk_mk rfl) rfl (pi_list (pe_slice sl_list (L2.pv 2) po_none (po_some (L2.pv 1)))) (fun _ _ _ _ => pg_name (i := 0) (show (["_law_number_here"] : List Str).Nodup by decide +kernel) rfl (Or.inl rfl)) (fun _ _ _ _ => (pe_callF c_l_number hr rfl (pa_cons (L2.pv 0) pa_nil)))) (pa_cons (pe_callF c_l_number hr rfl (pa_cons (pe_ix ix_list (L2.pv 2) pe_int (fun _ _ => rfl)) pa_nil)) (pa_cons (L2.pv 3) pa_nil))))))))), ?_⟩
  refine ⟨_, rfl, _, 6, rfl, (by decide), (by decide), fun xa H1 xs s1 xn ex lx bx => ?_⟩
  have lx6 : xs.length = 6 := lx
  have a3 : atI (xs.map V.int) (3 : Int) = some (.int (xs[3]'(by omega))) := at_ints (j := 3) _
  have a4 : atI (xs.map V.int) (4 : Int) = some (.int (xs[4]'(by omega))) := at_ints (j := 4) _
  have a5 : atI (xs.map V.int) (5 : Int) = some (.int (xs[5]'(by omega))) := at_ints (j := 5) _
  refine ⟨_, rfl, xa, _, _, _, rfl, rfl, SqL.of ex, a4, _, _, rfl, rfl, ⟨by decide, by decide, by decide⟩, (by show 3 ≤ sizeLine; decide), fun l hl => ?_⟩
  have zl := same_new hl (HO.lst [V.int 1, V.int 9, V.int ((10 : Int) ^ (9 : Int).toNat)])
  have el := upd_same (H := H1) (a := l) (o := HO.lst [V.int 1, V.int 9, V.int ((10 : Int) ^ (9 : Int).toNat)])
  obtain ⟨H2, hH2⟩ : ∃ H2, H2 = upd H1 l (HO.lst [V.int 1, V.int 9, V.int ((10 : Int) ^ (9 : Int).toNat)]) := ⟨_, rfl⟩
  rw [← hH2] at zl el ⊢
  have ex2 := zl _ _ ex
  obtain ⟨dd, ed, d0, d1⟩ := pos_pick3 (x := 1) (y := 9) (z := (10 : Int) ^ (9 : Int).toNat) (m := 10 ^ 9) (Int.fmod_nonneg_of_pos (xs[5]'(by omega)) (show (0 : Int) < 3 by decide)) (Int.fmod_lt_of_pos (xs[5]'(by omega)) (show (0 : Int) < 3 by decide)) ⟨by decide, by decide⟩ ⟨by decide, by decide⟩ ⟨by decide, by decide⟩
  refine ⟨_, rfl, xa, _, _, _, rfl, rfl, SqL.of ex2, a5, _, _, rfl, rfl, (show (3 : Int) ≠ 0 by decide), l, _, _, .int dd, rfl, rfl, SqL.of el, ed, _, _, rfl, rfl, (by omega), _, _, rfl, rfl, ?_⟩
  have v0 := Int.fmod_nonneg_of_pos (xs[4]'(by omega)) d0
  have v1 := Int.fmod_lt_of_pos (xs[4]'(by omega)) d0
  obtain ⟨dv, hdv⟩ : ∃ dv, dv = 1 + (xs[4]'(by omega)).fmod dd := ⟨_, rfl⟩
  refine ⟨_, rfl, _, rfl, _, rfl, xa, _, rfl, SqL.of ex2, fun p hp => ?_⟩
  have ec : cutV (xs.map V.int) none (some mm) = (xs.take mm.toNat).map V.int := by
    rw [show mm = ((mm.toNat : Nat) : Int) by omega]
    exact cut_to xs (by omega)
  have zp := same_new hp (HO.lst (cutV (xs.map V.int) none (some mm)))
  have ep : upd H2 p (HO.lst (cutV (xs.map V.int) none (some mm))) p = some (.lst ((xs.take mm.toNat).map V.int)) := upd_same.trans (by rw [ec])
  obtain ⟨Hp1, hHp1⟩ : ∃ Hp1, Hp1 = upd H2 p (HO.lst (cutV (xs.map V.int) none (some mm))) := ⟨_, rfl⟩
  rw [← hHp1] at zp ep ⊢
  refine ⟨p, rfl, ⟨_, SqL.of ep⟩, comp_list (K := K) (a := p) (xs := (xs.take mm.toNat).map V.int) (fun i ys σ H' => ∃ ws : List Int, ys = ws.map V.int ∧ ws.length = i ∧ (∀ x ∈ ws, Bd 101 x) ∧ (∃ o, σ = [o]) ∧ H' = Hp1)
    ⟨[], rfl, rfl, (fun x hx => by cases hx), ⟨none, rfl⟩, rfl⟩ (fun i ys σ H' hi ⟨ws, e1, l1, _, _, e3⟩ => ⟨by rw [e3]; exact SqL.of ep, by rw [e1, List.length_map]; omega⟩) (by rw [List.length_map, List.length_take]; exact Nat.le_of_lt (small1000 (by omega))) ?_ ?_⟩
  · rintro i x ys σ H' hi ⟨ws, rfl, lw, bw, ⟨o, rfl⟩, rfl⟩
    obtain ⟨z, hz, rfl⟩ := ints_get hi
    refine ⟨_, rfl, z, rfl, (bd45 (bx z (List.mem_of_mem_take (List.mem_of_getElem? hz)))).mono (by decide), fun y by' => ⟨ws ++ [y], (by rw [List.map_append]; rfl), (by rw [List.length_append, lw]; rfl), fun u hu => ?_, ⟨_, rfl⟩, rfl⟩⟩
    rcases List.mem_append.mp hu with hu | hu
    · exact bw u hu
    · rw [List.mem_singleton.mp hu]; exact by'
  rintro ys σ H' ⟨ws, rfl, lws0, bws, ⟨o, rfl⟩, rfl⟩ cl hcl
  have lws : ws.length = mm.toNat := by rw [lws0, List.length_map, List.length_take]; omega
  have zc := same_new hcl (HO.lst (ws.map V.int))
  have ecl := upd_same (H := H') (a := cl) (o := HO.lst (ws.map V.int))
  obtain ⟨Hn, hHn⟩ : ∃ Hn, Hn = upd H' cl (HO.lst (ws.map V.int)) := ⟨_, rfl⟩
  rw [← hHn] at zc ecl ⊢
  have zn := zp.trans zc
  refine ⟨_, rfl, xa, _, _, _, rfl, rfl, SqL.of (zn _ _ ex2), a3, _, rfl, (bd45 (bx _ (List.getElem_mem _))).mono (by decide), fun y by' => ?_⟩
  refine ⟨_, rfl, (by show 4 ≤ sizeLine; decide), fun t ht => ?_⟩
  have zt := same_new ht (HO.tup [V.str "straight", V.ref cl, V.int y, V.int (1 + (xs[4]'(by omega)).fmod dd)])
  refine q (.ref t) (.str ws y (1 + (xs[4]'(by omega)).fmod dd)) _ (s1.trans (zl.trans (zn.trans zt))) ⟨t, cl, rfl, upd_same, zt _ _ ecl⟩ ⟨lws, fun x hx => (bws x hx).mono (by decide), by'.mono (by decide), by omega, ?_⟩ rfl
  have : (10 : Int) ^ 9 < 2 ^ 100 := by decide
  have : Bd 101 (1 + (xs[4]'(by omega)).fmod dd) := by
    show (1 + (xs[4]'(by omega)).fmod dd).natAbs < 2 ^ 101
    omega
  exact this.mono (by decide)
abbrev s_l_tree : Stmt := top 24
theorem sc_l_tree : FnScope ["_law_cells", "_law_many", "_law_tree_here", "_law_cell", "_law_xs", "_law_low", "_law_other", "_law_row"] ["_law_cells", "_law_many"] (defScope s_l_tree) := ⟨rfl, rfl, rfl, by decide +kernel, rfl, by decide +kernel, by decide +kernel⟩
theorem ok_l_tree {k : Nat} {f : Addr} {fd : FuncData} {aStraight aStopped aParted : Addr} (TStraight : ClsF K mg "Straight" aStraight) (AStraight : AtStraight K aStraight) (TStopped : ClsF K mg "Stopped" aStopped) (AStopped : AtStopped K aStopped) (TParted : ClsF K mg "Parted" aParted) (AParted : AtParted K aParted) (F : Fun K "_law_tree" "_law_tree" s_l_tree f fd) (B : Bl mg) (c_l_leaf : Fn P w K mg base "_law_leaf" ["_law_cell", "_law_many"] k spLeaf) (c_l_cell_at : Fn P w K mg base "_law_cell_at" ["_law_script", "_law_k"] k (spCell K)) (c_l_stream : Fn P w K mg base "_law_stream" ["_law_cell", "_law_many"] k spStream) (c_l_number : Fn P w K mg base "_law_number" ["_law_number_here"] k spNum21) : FnOk P w K mg base CX0 (k + 1) f fd ["_law_cells", "_law_many"] (spTree K) := by
  refine F.ok sc_l_tree (fun vs H Q E h => ?_) (fun cdv A outer s H vs Q E hr h => ?_)
  · obtain ⟨ca, cs, mm, rfl, _⟩ := h
    rfl
  obtain ⟨ca, cs, mm, rfl, hca, m1, m3, q⟩ := h
  refine ⟨_, (pss_cons (ps_set (i := 2) sc_l_tree.nd rfl (Or.inl rfl) (pe_callF c_l_leaf hr rfl (pa_cons (pe_callF c_l_cell_at hr rfl (pa_cons (L2.pv 0) (pa_cons pe_int pa_nil))) (pa_cons (L2.pv 1) pa_nil))))
    (pss_cons (ps_for PassesOwn.never rfl (pi_list (pe_slice sl_list (L2.pv 0) (po_some pe_int) (po_some pe_int))) (pg_name (i := 3) sc_l_tree.nd rfl (Or.inl rfl)) (pss_cons (ps_set (i := 4) sc_l_tree.nd rfl (Or.inl rfl) (pe_callF c_l_stream hr rfl (pa_cons (L2.pv 3) (pa_cons pe_int pa_nil))))
      (pss_one (ps_if (pt_cmpR op_lt (pe_op op_modN (pe_ix ix_list (L2.pv 4) pe_int (fun _ _ => rfl)) pe_int) pe_int (nomark _)) (pss_cons (ps_set (i := 5) sc_l_tree.nd rfl (Or.inl rfl) (pe_callF c_l_number hr rfl (pa_cons (pe_ix ix_list (L2.pv 4) pe_int (fun _ _ => rfl)) pa_nil)))
        (pss_one (ps_set (i := 2) sc_l_tree.nd rfl (Or.inl rfl) (pe_tup (pa_cons pe_str (pa_cons (L2.pv 2) (pa_cons (L2.pv 5) (pa_cons (pe_op op_add (L2.pv 5) (pe_ix ix_list (pe_lst (pa_cons (pe_op op_modN (pe_ix ix_list (L2.pv 4) pe_int (fun _ _ => rfl)) pe_int) (pa_cons (pe_op op_mulW (pe_ix ix_list (L2.pv 4) pe_int (fun _ _ => rfl)) (pe_op op_pow pe_int pe_int)) (pa_cons pe_int pa_nil)))) (pe_op op_modN (pe_ix ix_list (L2.pv 4) pe_int (fun _ _ => rfl)) pe_int) (fun _ _ => rfl))) pa_nil)))))))) (pss_cons (ps_set (i := 6) sc_l_tree.nd rfl (Or.inl rfl) (pe_callF c_l_leaf hr rfl (pa_cons (pe_op op_fdivW (L2.pv 3) pe_int) (pa_cons (L2.pv 1) pa_nil))))
        (pss_cons (ps_set (i := 7) sc_l_tree.nd rfl (Or.inl rfl) (pe_callTy call_tuple_of rfl B.tuple_ boot_tuple_ (pa_cons (pe_op op_cat (pe_comp (own := ["_law_number_here"]) (caps := []) (blk_mk rfl) rfl (pi_list (pe_slice sl_list (L2.pv 4) po_none (po_some (L2.pv 1)))) (fun _ _ _ _ => pg_name (i := 0) (show (["_law_number_here"] : List Str).Nodup by decide +kernel) rfl (Or.inl rfl)) (fun _ _ _ _ => (pe_callF c_l_number hr rfl (pa_cons (L2.pv 0) pa_nil)))) (pe_lst (pa_cons (pe_callF c_l_number hr rfl (pa_cons (pe_ix ix_list (L2.pv 4) pe_int (fun _ _ => rfl)) pa_nil)) pa_nil))) pa_nil)))
        (pss_one (ps_set (i := 2) sc_l_tree.nd rfl (Or.inl rfl) (pe_tup (pa_cons pe_str (pa_cons (L2.pv 7) (pa_cons (pe_ix ix_list (pe_lst (pa_cons (L2.pv 2) (pa_cons (L2.pv 6) pa_nil))) (pe_op op_modN (pe_ix ix_list (L2.pv 4) pe_int (fun _ _ => rfl)) pe_int) (fun _ _ => rfl)) (pa_cons (pe_ix ix_list (pe_lst (pa_cons (L2.pv 6) (pa_cons (L2.pv 2) pa_nil))) (pe_op op_modN (pe_ix ix_list (L2.pv 4) pe_int (fun _ _ => rfl)) pe_int) (fun _ _ => rfl)) pa_nil)))))))))))))
    (pss_one (ps_ret (L2.pv 2))))), ?_⟩
  refine ⟨_, rfl, ca, cs, 0, rfl, hca, (by decide), _, rfl, _, mm, rfl, m1, m3, fun v0 t0 H1 s1 tv0 to0 k0 => ?_⟩
  refine ⟨_, rfl, _, rfl, _, rfl, ca, _, rfl, s1.seq hca, fun pp hpp => ?_⟩
  obtain ⟨cz, ecz, lcz⟩ := cut_any cs 1 9
  have zpp := same_new hpp (HO.lst (cutV (cs.map V.int) (some 1) (some 9)))
  have epp : upd H1 pp (HO.lst (cutV (cs.map V.int) (some 1) (some 9))) pp = some (.lst (cz.map V.int)) := upd_same.trans (congrArg (fun z => some (HO.lst z)) ecz)
  obtain ⟨H2, hH2⟩ : ∃ H2, H2 = upd H1 pp (HO.lst (cutV (cs.map V.int) (some 1) (some 9))) := ⟨_, rfl⟩
  rw [← hH2] at zpp epp ⊢
  obtain ⟨dp0, lv0⟩ := isStr_one k0
  refine ⟨pp, rfl, ⟨_, SqL.of epp⟩, for_list (K := K) (a := pp) (xs := cz.map V.int)
    (fun i σ H' => ∃ (v : V) (t : RT) (o3 o4 o5 o6 o7 : Option V), σ = [some (.ref ca), some (.int mm), some v, o3, o4, o5, o6, o7] ∧ Same H2 H' ∧ TreeV H' v t ∧ TrOk mm.toNat t ∧ t.dep ≤ i + 1 ∧ t.leaves ≤ i + 1)
    ⟨v0, t0, none, none, none, none, none, rfl, Same.refl _, tv0.same zpp, to0, by omega, by omega⟩ (fun i σ H' _ ⟨_, _, _, _, _, _, _, _, sm, _⟩ => SqL.of (sm _ _ epp)) ?_ ?_⟩
  · rintro i x σ H' hi ⟨v, t, o3, o4, o5, o6, o7, rfl, sm, tv, tok, dpt, lvt⟩
    obtain ⟨z, hz, rfl⟩ := ints_get hi
    refine ⟨_, rfl, _, 5, rfl, (by decide), (by decide), fun xa H4 xs s4 xn ex lx bx => ?_⟩
    have lx5 : xs.length = 5 := lx
    have a0 : atI (xs.map V.int) (0 : Int) = some (.int (xs[0]'(by omega))) := at_ints (j := 0) _
    have a1 : atI (xs.map V.int) (1 : Int) = some (.int (xs[1]'(by omega))) := at_ints (j := 1) _
    have a2 : atI (xs.map V.int) (2 : Int) = some (.int (xs[2]'(by omega))) := at_ints (j := 2) _
    have a3 : atI (xs.map V.int) (3 : Int) = some (.int (xs[3]'(by omega))) := at_ints (j := 3) _
    have a4 : atI (xs.map V.int) (4 : Int) = some (.int (xs[4]'(by omega))) := at_ints (j := 4) _
    refine ⟨_, rfl, xa, _, _, _, rfl, rfl, SqL.of ex, a4, _, _, rfl, rfl, (show (5 : Int) ≠ 0 by decide), _, _, rfl, rfl, _, rfl, ?_⟩
    refine ite2 (fun cc => ?_) (fun cc => ?_)
    · refine ⟨_, rfl, xa, _, _, _, rfl, rfl, SqL.of ex, a0, _, rfl, (bd45 (bx _ (List.getElem_mem _))).mono (by decide), fun y by' => ?_⟩
      have b20 : Bd 104 ((10 : Int) ^ (20 : Int).toNat) := Bd.lit
      have bx1 := bd45 (bx _ (List.getElem_mem (l := xs) (n := 1) (by omega)))
      obtain ⟨X1, hX1⟩ : ∃ X1, X1 = xs[1]'(by omega) := ⟨_, rfl⟩
      rw [← hX1] at a1 bx1
      have bm : Bd 260 (X1.fmod 9) := by
        have h1 := Int.fmod_nonneg_of_pos X1 (show (0 : Int) < 9 by decide)
        have h2 := Int.fmod_lt_of_pos X1 (show (0 : Int) < 9 by decide)
        have : Bd 4 (X1.fmod 9) := by
          show (X1.fmod 9).natAbs < 2 ^ 4
          omega
        exact this.mono (by decide)
      obtain ⟨kk, ek, bk⟩ := bd_pick3 (n := 260) (x := X1.fmod 9) (y := X1 * 10 ^ (20 : Int).toNat) (z := 0) (Int.fmod_nonneg_of_pos (xs[2]'(by omega)) (show (0 : Int) < 3 by decide)) (Int.fmod_lt_of_pos (xs[2]'(by omega)) (show (0 : Int) < 3 by decide)) bm ((bx1.mul b20).mono (by decide)) ((Bd.lit (n := 1)).mono (by decide))
      refine ⟨_, rfl, _, rfl, _, rfl, _, rfl, xa, _, _, _, rfl, rfl, SqL.of ex, a1, _, _, rfl, rfl, (show (9 : Int) ≠ 0 by decide), _, rfl, xa, _, _, _, rfl, rfl, SqL.of ex, a1, _, _, rfl, rfl, ⟨by decide, by decide, by decide⟩, _, _, rfl, rfl, ⟨bx1.mono (by decide), b20.mono (by decide)⟩, (by show 3 ≤ sizeLine; decide), fun l hl => ?_⟩
      have zl := same_new hl (HO.lst [V.int (X1.fmod 9), V.int (X1 * 10 ^ (20 : Int).toNat), V.int 0])
      refine ⟨_, rfl, xa, _, _, _, rfl, rfl, SqL.of (zl _ _ ex), a2, _, _, rfl, rfl, (show (3 : Int) ≠ 0 by decide), l, _, _, .int kk, rfl, rfl, SqL.of upd_same, ek, _, _, rfl, rfl, (by show 4 ≤ sizeLine; decide), fun tt htt => ?_⟩
      have zt := zl.trans (same_new htt (HO.tup [V.str "stopped", v, V.int y, V.int (y + kk)]))
      refine ⟨.ref tt, .stp t y (y + kk), _, _, _, _, _, rfl, sm.trans (s4.trans zt), ⟨tt, v, rfl, upd_same, (tv.same s4).same zt⟩, ⟨tok, by'.mono (by decide), ((by'.mono (show 101 ≤ 260 by decide)).add bk).mono (by decide)⟩, ?_, ?_⟩
      · show t.dep + 1 ≤ _
        omega
      · show t.leaves ≤ _
        omega
    · have b7 : Bd 4 (7 : Int) := Bd.lit
      refine ⟨_, rfl, _, _, rfl, rfl, ⟨by decide, b7.mono (by decide)⟩, _, rfl, _, mm, rfl, m1, m3, fun v1 t1 H5 s5 tv1 to1 k1 => ?_⟩
      have ex5 := s5 _ _ ex
      refine ⟨_, rfl, _, rfl, _, rfl, xa, _, rfl, SqL.of ex5, fun p hp => ?_⟩
      have ec : cutV (xs.map V.int) none (some mm) = (xs.take mm.toNat).map V.int := by
        rw [show mm = ((mm.toNat : Nat) : Int) by omega]
        exact cut_to xs (by omega)
      have zp := same_new hp (HO.lst (cutV (xs.map V.int) none (some mm)))
      have ep : upd H5 p (HO.lst (cutV (xs.map V.int) none (some mm))) p = some (.lst ((xs.take mm.toNat).map V.int)) := upd_same.trans (by rw [ec])
      obtain ⟨Hp1, hHp1⟩ : ∃ Hp1, Hp1 = upd H5 p (HO.lst (cutV (xs.map V.int) none (some mm))) := ⟨_, rfl⟩
      rw [← hHp1] at zp ep ⊢
      refine ⟨p, rfl, ⟨_, SqL.of ep⟩, comp_list (K := K) (a := p) (xs := (xs.take mm.toNat).map V.int) (fun i ys σ H' => ∃ ws : List Int, ys = ws.map V.int ∧ ws.length = i ∧ (∀ x ∈ ws, Bd 101 x) ∧ (∃ o, σ = [o]) ∧ H' = Hp1)
        ⟨[], rfl, rfl, (fun x hx => by cases hx), ⟨none, rfl⟩, rfl⟩ (fun i ys σ H' hi ⟨ws, e1, l1, _, _, e3⟩ => ⟨by rw [e3]; exact SqL.of ep, by rw [e1, List.length_map]; omega⟩) (by rw [List.length_map, List.length_take]; exact Nat.le_of_lt (small1000 (by omega))) ?_ ?_⟩
      · rintro i x ys σ H' hi ⟨ws, rfl, lw, bw, ⟨o, rfl⟩, rfl⟩
        obtain ⟨z, hz, rfl⟩ := ints_get hi
        refine ⟨_, rfl, z, rfl, (bd45 (bx z (List.mem_of_mem_take (List.mem_of_getElem? hz)))).mono (by decide), fun y by' => ⟨ws ++ [y], (by rw [List.map_append]; rfl), (by rw [List.length_append, lw]; rfl), fun u hu => ?_, ⟨_, rfl⟩, rfl⟩⟩
        rcases List.mem_append.mp hu with hu | hu
        · exact bw u hu
        · rw [List.mem_singleton.mp hu]; exact by'
      rintro ys σ H' ⟨ws, rfl, lws0, bws, ⟨o, rfl⟩, rfl⟩ cl hcl
      have lws : ws.length = mm.toNat := by rw [lws0, List.length_map, List.length_take]; omega
      have zc := same_new hcl (HO.lst (ws.map V.int))
      have ecl := upd_same (H := H') (a := cl) (o := HO.lst (ws.map V.int))
      obtain ⟨Hn, hHn⟩ : ∃ Hn, Hn = upd H' cl (HO.lst (ws.map V.int)) := ⟨_, rfl⟩
      rw [← hHn] at zc ecl ⊢
      have zn := zp.trans zc
      have exn := zn _ _ ex5
      refine ⟨_, rfl, xa, _, _, _, rfl, rfl, SqL.of exn, a3, _, rfl, (bd45 (bx _ (List.getElem_mem _))).mono (by decide), fun y by' => ?_⟩
      refine ⟨(by show 1 ≤ sizeLine; decide), fun l2 hl2 => ?_⟩
      have z2 := same_new hl2 (HO.lst [V.int y])
      have el2 := upd_same (H := Hn) (a := l2) (o := HO.lst [V.int y])
      obtain ⟨H6, hH6⟩ : ∃ H6, H6 = upd Hn l2 (HO.lst [V.int y]) := ⟨_, rfl⟩
      rw [← hH6] at z2 el2 ⊢
      refine ⟨cl, l2, _, _, rfl, rfl, z2 _ _ ecl, el2, (by rw [List.length_map]; exact Nat.le_of_lt (small1000 (by show ws.length + 1 ≤ 1000; omega))), fun cc2 hcc2 => ?_⟩
      have er : ws.map V.int ++ [V.int y] = (ws ++ [y]).map V.int := by rw [List.map_append]; rfl
      rw [er]
      have z3 := same_new hcc2 (HO.lst ((ws ++ [y]).map V.int))
      refine ⟨cc2, _, rfl, .inl ⟨SqL.of upd_same, fun rt hrt => ?_⟩⟩
      have z4 := same_new hrt (HO.tup ((ws ++ [y]).map V.int))
      have ert := upd_same (H := upd H6 cc2 (HO.lst ((ws ++ [y]).map V.int))) (a := rt) (o := HO.tup ((ws ++ [y]).map V.int))
      have s57 := zn.trans (z2.trans (z3.trans z4))
      obtain ⟨H7, hH7⟩ : ∃ H7, H7 = upd (upd H6 cc2 (HO.lst ((ws ++ [y]).map V.int))) rt (HO.tup ((ws ++ [y]).map V.int)) := ⟨_, rfl⟩
      rw [← hH7] at ert s57 ⊢
      have ex7 := s57 _ _ ex5
      obtain ⟨X, Y, eX, eY, XY⟩ := swap_pick (v := v) (u := v1) (Int.fmod_nonneg_of_pos (xs[4]'(by omega)) (show (0 : Int) < 2 by decide)) (Int.fmod_lt_of_pos (xs[4]'(by omega)) (show (0 : Int) < 2 by decide))
      refine ⟨_, rfl, _, rfl, _, rfl, (by show 2 ≤ sizeLine; decide), fun l3 hl3 => ?_⟩
      have z5 := same_new hl3 (HO.lst [v, v1])
      refine ⟨_, rfl, xa, _, _, _, rfl, rfl, SqL.of (z5 _ _ ex7), a4, _, _, rfl, rfl, (show (2 : Int) ≠ 0 by decide), l3, _, _, X, rfl, rfl, SqL.of upd_same, eX, ?_⟩
      refine ⟨_, rfl, _, rfl, (by show 2 ≤ sizeLine; decide), fun l4 hl4 => ?_⟩
      have z6 := same_new hl4 (HO.lst [v1, v])
      refine ⟨_, rfl, xa, _, _, _, rfl, rfl, SqL.of (z6 _ _ (z5 _ _ ex7)), a4, _, _, rfl, rfl, (show (2 : Int) ≠ 0 by decide), l4, _, _, Y, rfl, rfl, SqL.of upd_same, eY, (by show 4 ≤ sizeLine; decide), fun tt htt => ?_⟩
      have z7 := z5.trans (z6.trans (same_new htt (HO.tup [V.str "parted", V.ref rt, X, Y])))
      have sV := s4.trans (s5.trans (s57.trans z7))
      have tvF := (tv.same sV)
      have tv1F := (tv1.same (s57.trans z7))
      obtain ⟨dp1, lv1⟩ := isStr_one k1
      have RO : (ws ++ [y]).length = mm.toNat + 1 ∧ ∀ x ∈ ws ++ [y], Bd 300 x := ⟨by rw [List.length_append, lws]; rfl, fun x hx => by
        rcases List.mem_append.mp hx with hx | hx
        · exact (bws x hx).mono (by decide)
        · rw [List.mem_singleton.mp hx]; exact by'.mono (by decide)⟩
      rcases XY with ⟨rfl, rfl⟩ | ⟨rfl, rfl⟩
      · refine ⟨.ref tt, .prt (ws ++ [y]) t t1, _, _, _, _, _, rfl, sm.trans sV, ⟨tt, rt, _, _, rfl, upd_same, z7 _ _ ert, tvF, tv1F⟩, ⟨RO, tok, to1⟩, ?_, ?_⟩
        · show max t.dep t1.dep + 1 ≤ _
          omega
        · show t.leaves + t1.leaves ≤ _
          omega
      · refine ⟨.ref tt, .prt (ws ++ [y]) t1 t, _, _, _, _, _, rfl, sm.trans sV, ⟨tt, rt, _, _, rfl, upd_same, z7 _ _ ert, tv1F, tvF⟩, ⟨RO, to1, tok⟩, ?_, ?_⟩
        · show max t1.dep t.dep + 1 ≤ _
          omega
        · show t1.leaves + t.leaves ≤ _
          omega
  rintro σ H' ⟨v, t, o3, o4, o5, o6, o7, rfl, sm, tv, tok, dpt, lvt⟩
  rw [List.length_map] at dpt lvt
  exact ⟨_, rfl, q v t H' (s1.trans (zpp.trans sm)) tv tok (by omega) (by omega)⟩
end
section
variable {P : Program} {w : World} {K : PySem.W.Frag} {mg : Str → Option Value} {base : Heap}
abbrev s_l_rule : Stmt := top 25
theorem sc_l_rule : FnScope ["_law_tree_here", "_law_lists"] ["_law_tree_here", "_law_lists"] (defScope s_l_rule) := ⟨rfl, rfl, rfl, by decide +kernel, rfl, by decide +kernel, by decide +kernel⟩
theorem ok_l_rule {k : Nat} {f : Addr} {fd : FuncData} {d : Nat} {aStraight aStopped aParted : Addr} (TStraight : ClsF K mg "Straight" aStraight) (AStraight : AtStraight K aStraight) (TStopped : ClsF K mg "Stopped" aStopped) (AStopped : AtStopped K aStopped) (TParted : ClsF K mg "Parted" aParted) (AParted : AtParted K aParted) (F : Fun K "_law_rule" "_law_rule" s_l_rule f fd) (B : Bl mg) (c_Straight___init__ : FnCD P w K mg base aStraight ["self", "numbers", "add", "divisor"] k (spStraightInit aStraight) (.int 1)) (c_Stopped___init__ : FnC P w K mg base aStopped ["self", "rule", "low", "high"] k (spStoppedInit aStopped)) (c_l_rule : Fn P w K mg base "_law_rule" ["_law_tree_here", "_law_lists"] (k + 1) (spRuleL aStraight aStopped aParted d)) (c_Parted___init__ : FnC P w K mg base aParted ["self", "row", "rule", "other"] k (spPartedInit aParted)) : FnOk P w K mg base CX0 (k + 1 + 1) f fd ["_law_tree_here", "_law_lists"] (spRuleL aStraight aStopped aParted (d + 1)) := by
  refine F.ok sc_l_rule (fun vs H Q E h => ?_) (fun cdv A outer s H vs Q E hr h => ?_)
  · obtain ⟨v, la, lv, n, t, rfl, _⟩ := h
    rfl
  obtain ⟨v, la, lv, n, t, rfl, dp, hT, TO, n1, n3, hla, few, q⟩ := h
  refine ⟨_, (pss_cons (ps_if (pt_cmpR op_eq (pe_ix ix_tup (L2.pv 0) pe_int (fun _ _ => rfl)) pe_str (nomark _)) (pss_cons (ps_expr (pe_bm PySem.F.plainAttrs_list PySem.F.slot_list_append PySem.F.type_list_append mt_append (L2.pv 1) (pa_cons (pe_callTy call_list_of rfl B.list_ boot_list_ (pa_cons (pe_ix ix_tup (L2.pv 0) pe_int (fun _ _ => rfl)) pa_nil)) pa_nil)))
      (pss_cons (ps_if (pt_cmpR op_eq (pe_ix ix_tup (L2.pv 0) pe_int (fun _ _ => rfl)) pe_int (nomark _)) (pss_one (ps_ret (pe_makeF1 c_Straight___init__ TStraight hr rfl (pa_cons (pe_ix ix_list (L2.pv 1) (pe_un un_neg pe_int) (fun _ _ => rfl)) (pa_cons (pe_ix ix_tup (L2.pv 0) pe_int (fun _ _ => rfl)) pa_nil))))) pss_nil)
      (pss_one (ps_ret (pe_makeF c_Straight___init__.fn TStraight hr rfl (pa_cons (pe_ix ix_list (L2.pv 1) (pe_un un_neg pe_int) (fun _ _ => rfl)) (pa_cons (pe_ix ix_tup (L2.pv 0) pe_int (fun _ _ => rfl)) (pa_cons (pe_ix ix_tup (L2.pv 0) pe_int (fun _ _ => rfl)) pa_nil)))))))) pss_nil)
    (pss_cons (ps_if (pt_cmpR op_eq (pe_ix ix_tup (L2.pv 0) pe_int (fun _ _ => rfl)) pe_str (nomark _)) (pss_one (ps_ret (pe_makeF c_Stopped___init__ TStopped hr rfl (pa_cons (pe_callF c_l_rule hr rfl (pa_cons (pe_ix ix_tup (L2.pv 0) pe_int (fun _ _ => rfl)) (pa_cons (L2.pv 1) pa_nil))) (pa_cons (pe_ix ix_tup (L2.pv 0) pe_int (fun _ _ => rfl)) (pa_cons (pe_ix ix_tup (L2.pv 0) pe_int (fun _ _ => rfl)) pa_nil)))))) pss_nil)
    (pss_one (ps_ret (pe_makeF c_Parted___init__ TParted hr rfl (pa_cons (pe_ix ix_tup (L2.pv 0) pe_int (fun _ _ => rfl)) (pa_cons (pe_callF c_l_rule hr rfl (pa_cons (pe_ix ix_tup (L2.pv 0) pe_int (fun _ _ => rfl)) (pa_cons (L2.pv 1) pa_nil))) (pa_cons (pe_callF c_l_rule hr rfl (pa_cons (pe_ix ix_tup (L2.pv 0) pe_int (fun _ _ => rfl)) (pa_cons (L2.pv 1) pa_nil))) pa_nil)))))))), ?_⟩
  cases t with
  | str ns a d0 =>
    obtain ⟨o, na, rfl, eo, ena⟩ := hT
    have eo' := hide_sub _ _ eo
    have ena' := hide_sub _ _ ena
    have ola : o ≠ la := fun z => hide_mem eo (List.mem_singleton.mpr z)
    refine ⟨_, rfl, o, _, 0, _, rfl, rfl, SqT.of eo', rfl, rfl, _, rfl, iteB1 (decide_eq_true rfl) ?_⟩
    refine ⟨_, rfl, .inl ⟨rfl, _, SqL.of hla⟩, _, rfl, o, _, 1, _, rfl, rfl, SqT.of eo', rfl, na, _, rfl, .inl (SqL.of ena'), fun b hb => ?_⟩
    have zb := same_new hb (HO.lst (ns.map V.int))
    refine ⟨la, lv, _, rfl, rfl, zb _ _ hla, small1000 (by omega), ?_⟩
    have bla : b ≠ la := (ne_of_none hla hb).symm
    have o2 : off [la] H (upd (upd H b (HO.lst (ns.map V.int))) la (HO.lst (lv ++ [V.ref b]))) := ((off.refl [la] H).new _ hb).put _ (List.mem_singleton.mpr rfl)
    have ela2 := upd_same (H := upd H b (HO.lst (ns.map V.int))) (a := la) (o := HO.lst (lv ++ [V.ref b]))
    have eb2 : upd (upd H b (HO.lst (ns.map V.int))) la (HO.lst (lv ++ [V.ref b])) b = some (.lst (ns.map V.int)) := (upd_ne bla).trans upd_same
    have eo2 := (upd_ne (o := HO.lst (lv ++ [V.ref b])) ola).trans (zb _ _ eo')
    obtain ⟨H2, hH2⟩ : ∃ H2, H2 = upd (upd H b (HO.lst (ns.map V.int))) la (HO.lst (lv ++ [V.ref b])) := ⟨_, rfl⟩
    rw [← hH2] at o2 ela2 eb2 eo2 ⊢
    refine ⟨_, rfl, o, _, 3, _, rfl, rfl, SqT.of eo2, rfl, rfl, _, rfl, ?_⟩
    by_cases c1 : d0 = 1
    · subst c1
      refine iteB1 (dec_yes rfl) ?_
      refine ⟨_, rfl, _, rfl, la, _, _, _, rfl, rfl, SqL.of ela2, atI_last _ _, _, rfl, o, _, 2, _, rfl, rfl, SqT.of eo2, rfl, fun x dx hx hdx ne => ?_⟩
      have zx := same_make hx hdx ne (HO.own x) (HO.ins aStraight dx [])
      have ex0 := upd_same (H := upd H2 dx (HO.own x)) (a := x) (o := HO.ins aStraight dx [])
      obtain ⟨HX, hHX⟩ : ∃ HX, HX = upd (upd H2 dx (HO.own x)) x (HO.ins aStraight dx []) := ⟨_, rfl⟩
      rw [← hHX] at zx ex0 ⊢
      refine ⟨x, dx, b, ns, a, 1, rfl, ex0, zx _ _ eb2, (by have := TO.1; omega), fun l H4 sb fl eo4 el => ⟨rfl, ?_⟩⟩
      have s24 := same_but zx sb hx
      have xb : x ≠ b := (ne_of_none eb2 hx).symm
      have lb : l ≠ b := (ne_of_none (zx _ _ eb2) fl).symm
      have xH : H x = none := o2.free hx (fun z => by rw [List.mem_singleton.mp z, ela2] at hx; cases hx)
      have lH : H l = none := o2.free (zx.free fl) (fun z => by have := zx.free fl; rw [List.mem_singleton.mp z, ela2] at this; cases this)
      refine q (.ref x) [b] H4 (o2.same s24) (s24 _ _ ela2) (fun c hc => by rw [List.mem_singleton.mp hc]; exact hb) (fun c hc => by rw [List.mem_singleton.mp hc]; exact ⟨ns, s24 _ _ eb2, by have := TO.1; omega⟩) ⟨x, dx, l, rfl, ?_, ?_⟩ rfl
      · rw [hide_at (fun z => xb (List.mem_singleton.mp z)), mns_at xH]
        exact eo4
      · rw [hide_at (fun z => lb (List.mem_singleton.mp z)), mns_at lH]
        exact el
    · refine iteB0 (dec_no c1) ?_
      refine ⟨_, rfl, _, rfl, la, _, _, _, rfl, rfl, SqL.of ela2, atI_last _ _, _, rfl, o, _, 2, _, rfl, rfl, SqT.of eo2, rfl, _, rfl, o, _, 3, _, rfl, rfl, SqT.of eo2, rfl, fun x dx hx hdx ne => ?_⟩
      have zx := same_make hx hdx ne (HO.own x) (HO.ins aStraight dx [])
      have ex0 := upd_same (H := upd H2 dx (HO.own x)) (a := x) (o := HO.ins aStraight dx [])
      obtain ⟨HX, hHX⟩ : ∃ HX, HX = upd (upd H2 dx (HO.own x)) x (HO.ins aStraight dx []) := ⟨_, rfl⟩
      rw [← hHX] at zx ex0 ⊢
      refine ⟨x, dx, b, ns, a, d0, rfl, ex0, zx _ _ eb2, (by have := TO.1; omega), fun l H4 sb fl eo4 el => ⟨rfl, ?_⟩⟩
      have s24 := same_but zx sb hx
      have xb : x ≠ b := (ne_of_none eb2 hx).symm
      have lb : l ≠ b := (ne_of_none (zx _ _ eb2) fl).symm
      have xH : H x = none := o2.free hx (fun z => by rw [List.mem_singleton.mp z, ela2] at hx; cases hx)
      have lH : H l = none := o2.free (zx.free fl) (fun z => by have := zx.free fl; rw [List.mem_singleton.mp z, ela2] at this; cases this)
      refine q (.ref x) [b] H4 (o2.same s24) (s24 _ _ ela2) (fun c hc => by rw [List.mem_singleton.mp hc]; exact hb) (fun c hc => by rw [List.mem_singleton.mp hc]; exact ⟨ns, s24 _ _ eb2, by have := TO.1; omega⟩) ⟨x, dx, l, rfl, ?_, ?_⟩ rfl
      · rw [hide_at (fun z => xb (List.mem_singleton.mp z)), mns_at xH]
        exact eo4
      · rw [hide_at (fun z => lb (List.mem_singleton.mp z)), mns_at lH]
        exact el
  | stp t1 lo hi =>
    obtain ⟨o, u, rfl, eo, hu⟩ := hT
    have eo' := hide_sub _ _ eo
    have ola : o ∉ [la] := hide_mem eo
    refine ⟨_, rfl, o, _, 0, _, rfl, rfl, SqT.of eo', rfl, rfl, _, rfl, iteB0 sne1 ?_⟩
    refine ⟨_, rfl, o, _, 0, _, rfl, rfl, SqT.of eo', rfl, rfl, _, rfl, iteB1 (decide_eq_true rfl) ?_⟩
    refine ⟨_, rfl, o, _, 1, _, rfl, rfl, SqT.of eo', rfl, _, rfl, u, la, lv, n, t1, rfl, Nat.le_of_succ_le_succ dp, hu, TO.1, n1, n3, hla, few, fun u1 as H1 of1 la1 fr1 nu1 R1 ln1 => ?_⟩
    have eo1 := of1 _ _ eo' ola
    refine ⟨_, rfl, o, _, 2, _, rfl, rfl, SqT.of eo1, rfl, _, rfl, o, _, 3, _, rfl, rfl, SqT.of eo1, rfl, fun x dx hx hdx ne => ?_⟩
    have zx := same_make hx hdx ne (HO.own x) (HO.ins aStopped dx [])
    have ex0 := upd_same (H := upd H1 dx (HO.own x)) (a := x) (o := HO.ins aStopped dx [])
    obtain ⟨HX, hHX⟩ : ∃ HX, HX = upd (upd H1 dx (HO.own x)) x (HO.ins aStopped dx []) := ⟨_, rfl⟩
    rw [← hHX] at zx ex0 ⊢
    refine ⟨x, dx, u1, lo, hi, rfl, ex0, fun H4 sb eo4 => ⟨rfl, ?_⟩⟩
    have s14 := same_but zx sb hx
    have xas : x ∉ as := fun z => by
      obtain ⟨ns, e, _⟩ := nu1 x z
      rw [hx] at e
      cases e
    have xH : H x = none := of1.free hx (fun z => by rw [List.mem_singleton.mp z, la1] at hx; cases hx)
    refine q (.ref x) as H4 (of1.same s14) (s14 _ _ la1) fr1 (fun c hc => let ⟨ns, e, l⟩ := nu1 c hc; ⟨ns, s14 _ _ e, l⟩) ⟨x, dx, u1, rfl, ?_, R1.same (hide_same (mns_same s14))⟩ ln1
    rw [hide_at xas, mns_at xH]
    exact eo4
  | prt r t1 t2 =>
    obtain ⟨o, ra, u, w2, rfl, eo, era, hu, hw⟩ := hT
    have eo' := hide_sub _ _ eo
    have ola : o ∉ [la] := hide_mem eo
    have rla : ra ∉ [la] := hide_mem era
    have lv2 : lv.length + (t1.leaves + t2.leaves) ≤ 100 := few
    have dp2 : max t1.dep t2.dep ≤ d := Nat.le_of_succ_le_succ dp
    refine ⟨_, rfl, o, _, 0, _, rfl, rfl, SqT.of eo', rfl, rfl, _, rfl, iteB0 sne2 ?_⟩
    refine ⟨_, rfl, o, _, 0, _, rfl, rfl, SqT.of eo', rfl, rfl, _, rfl, iteB0 sne3 ?_⟩
    refine ⟨_, rfl, o, _, 1, _, rfl, rfl, SqT.of eo', rfl, _, rfl, o, _, 2, _, rfl, rfl, SqT.of eo', rfl, _, rfl, u, la, lv, n, t1, rfl, (by omega), hu, TO.2.1, n1, n3, hla, (by omega), fun u1 as1 H1 of1 la1 fr1 nu1 R1 ln1 => ?_⟩
    have eo1 := of1 _ _ eo' ola
    refine ⟨_, rfl, o, _, 3, _, rfl, rfl, SqT.of eo1, rfl, _, rfl, w2, la, _, n, t2, rfl, (by omega), hw.same (hide_off of1), TO.2.2, n1, n3, la1, (by rw [List.length_append, List.length_map]; omega), fun u2 as2 H2 of2 la2 fr2 nu2 R2 ln2 => ?_⟩
    intro x dx hx hdx ne
    have zx := same_make hx hdx ne (HO.own x) (HO.ins aParted dx [])
    have ex0 := upd_same (H := upd H2 dx (HO.own x)) (a := x) (o := HO.ins aParted dx [])
    obtain ⟨HX, hHX⟩ : ∃ HX, HX = upd (upd H2 dx (HO.own x)) x (HO.ins aParted dx []) := ⟨_, rfl⟩
    rw [← hHX] at zx ex0 ⊢
    have ra2 := of2 _ _ (of1 _ _ (hide_sub _ _ era) rla) rla
    refine ⟨x, dx, ra, r, u1, u2, rfl, ex0, zx _ _ ra2, (by have := TO.1.1; omega), fun rb H4 sb frb eo4 eb4 => ⟨rfl, ?_⟩⟩
    have s24 := same_but zx sb hx
    have of12 := of1.trans of2
    have st1 : ∀ a ∈ as1, ∃ u, H1 a = some u := fun a ha => let ⟨_, e, _⟩ := nu1 a ha; ⟨_, e⟩
    have nla : ∀ a ∈ as1, a ∉ [la] := fun a ha z => by
      have := fr1 a ha
      rw [List.mem_singleton.mp z, hla] at this
      cases this
    have nu : ∀ a ∈ as1 ++ as2, NumsA H2 a := fun a ha => by
      rcases List.mem_append.mp ha with ha | ha
      · obtain ⟨ns, e, l⟩ := nu1 a ha
        exact ⟨ns, of2 _ _ e (nla a ha), l⟩
      · exact nu2 a ha
    have fresh : ∀ c, H2 c = none → H c = none ∧ c ∉ as1 ++ as2 := fun c hc => ⟨of12.free hc (fun z => by rw [List.mem_singleton.mp z, la2] at hc; cases hc), fun z => by
      obtain ⟨_, e, _⟩ := nu c z
      rw [hc] at e
      cases e⟩
    obtain ⟨xH, xas⟩ := fresh x hx
    obtain ⟨bH, bas⟩ := fresh rb (zx.free frb)
    have fr2' : ∀ a ∈ as2, H a = none := fun a ha => of1.free (fr2 a ha) (fun z => by
      have := fr2 a ha
      rw [List.mem_singleton.mp z, la1] at this
      cases this)
    refine q (.ref x) (as1 ++ as2) H4 (of12.same s24) ((s24 _ _ la2).trans (by rw [List.append_assoc, List.map_append])) (fun a ha => (List.mem_append.mp ha).elim (fr1 a) (fr2' a)) (fun c hc => let ⟨ns, e, l⟩ := nu c hc; ⟨ns, s24 _ _ e, l⟩) ⟨x, dx, rb, u1, u2, rfl, ?_, ?_, R1.same ((two_first hla of2 fr2).trans (hide_same (mns_same s24))), R2.same ((two_second la1 of1 st1).trans (hide_same (mns_same s24)))⟩ (by rw [List.length_append, ln1, ln2]; rfl)
    · rw [hide_at xas, mns_at xH]
      exact eo4
    · rw [hide_at bas, mns_at bH]
      exact eb4
abbrev s_l_divisor : Stmt := top 26
theorem sc_l_divisor : FnScope ["_law_one", "_law_other"] ["_law_one", "_law_other"] (defScope s_l_divisor) := ⟨rfl, rfl, rfl, by decide +kernel, rfl, by decide +kernel, by decide +kernel⟩
theorem ok_l_divisor {k : Nat} {f : Addr} {fd : FuncData} {aStraight aStopped aParted : Addr} (TStraight : ClsF K mg "Straight" aStraight) (AStraight : AtStraight K aStraight) (TStopped : ClsF K mg "Stopped" aStopped) (AStopped : AtStopped K aStopped) (TParted : ClsF K mg "Parted" aParted) (AParted : AtParted K aParted) (F : Fun K "_law_divisor" "_law_divisor" s_l_divisor f fd) (B : Bl mg) : FnOk P w K mg base CX0 (k + 1) f fd ["_law_one", "_law_other"] spShare := by
  refine F.ok sc_l_divisor (fun vs H Q E h => ?_) (fun cdv A outer s H vs Q E hr h => ?_)
  · obtain ⟨a, b, rfl, _⟩ := h
    rfl
  obtain ⟨a, b, rfl, q⟩ := h
  refine ⟨_, (pss_cons (ps_while PassesOwn.never (pt_cmpR op_ne (L2.pv 1) pe_int (nomark _)) (pss_one (ps_par (i := 0) (j := 1) rfl sc_l_divisor.nd rfl rfl (by decide) rfl rfl (pa_cons (L2.pv 1) (pa_cons (pe_op op_modN (L2.pv 0) (L2.pv 1)) pa_nil)) rfl)))
    (pss_one (ps_ret (pe_callB call_abs rfl B.abs_ boot_abs_ (pa_cons (L2.pv 0) pa_nil))))), ?_⟩
  refine while_by (fun σ H' => ∃ c r : Int, σ = [some (.int c), some (.int r)] ∧ H' = H ∧ Int.gcd c r = Int.gcd a b) (fun σ _ => match σ with | [_, some (.int r)] => r.natAbs | _ => 0) ⟨a, b, rfl, rfl, rfl⟩ ?_ ?_
  · rintro σ H' ⟨c, r, rfl, rfl, hg⟩
    refine ⟨_, rfl, rfl, _, rfl, ?_⟩
    by_cases z0 : r = 0
    · subst z0
      refine iteNS rfl ?_
      refine ⟨_, rfl, c, rfl, ?_⟩
      rw [abs_is]
      rw [Int.gcd_zero_right] at hg
      rw [hg]
      exact q
    · have ne : ¬ (V.int r = V.int 0) := fun e => z0 (by injection e)
      refine iteB1 (ndec_no z0) ?_
      refine ⟨_, rfl, _, rfl, _, rfl, _, _, rfl, rfl, z0, _, _, rfl, ?_⟩
      exact ⟨⟨r, c.fmod r, rfl, rfl, by rw [gcd_turn]; exact hg⟩, fmod_less z0⟩
  · rintro σ H' Q1 Q2 h ⟨v, e, sc, k, ek, q1⟩
    exact ⟨v, e, sc, k, ek, h _ _ q1⟩
abbrev s_l_fraction : Stmt := top 27
theorem sc_l_fraction : FnScope ["_law_top", "_law_bottom", "_law_share"] ["_law_top", "_law_bottom"] (defScope s_l_fraction) := ⟨rfl, rfl, rfl, by decide +kernel, rfl, by decide +kernel, by decide +kernel⟩
theorem ok_l_fraction {k : Nat} {f : Addr} {fd : FuncData} {aStraight aStopped aParted : Addr} (TStraight : ClsF K mg "Straight" aStraight) (AStraight : AtStraight K aStraight) (TStopped : ClsF K mg "Stopped" aStopped) (AStopped : AtStopped K aStopped) (TParted : ClsF K mg "Parted" aParted) (AParted : AtParted K aParted) (F : Fun K "_law_fraction" "_law_fraction" s_l_fraction f fd) (B : Bl mg) (c_l_divisor : Fn P w K mg base "_law_divisor" ["_law_one", "_law_other"] k spShare) : FnOk P w K mg base CX0 (k + 1) f fd ["_law_top", "_law_bottom"] spLowest := by
  refine F.ok sc_l_fraction (fun vs H Q E h => ?_) (fun cdv A outer s H vs Q E hr h => ?_)
  · obtain ⟨t, b, rfl, _⟩ := h
    rfl
  obtain ⟨t, b, rfl, b0, bb, q⟩ := h
  refine ⟨_, (pss_cons (ps_set (i := 2) sc_l_fraction.nd rfl (Or.inl rfl) (pe_callF c_l_divisor hr rfl (pa_cons (L2.pv 0) (pa_cons (L2.pv 1) pa_nil))))
    (pss_one (ps_ret (pe_tup (pa_cons (pe_op op_fdivW (L2.pv 0) (L2.pv 2)) (pa_cons (pe_op op_fdivW (L2.pv 1) (L2.pv 2)) pa_nil)))))), ?_⟩
  refine ⟨_, rfl, _, rfl, _, _, rfl, ?_⟩
  have nb : b ≠ 0 := by omega
  have ec : (Int.gcd t b : Int) = cm t b := (cm_pos_eq b0).symm
  rw [ec]
  refine ⟨_, rfl, _, rfl, _, _, rfl, rfl, ⟨cm_ne nb, bd_cm bb nb⟩, _, rfl, _, rfl, _, _, rfl, rfl, ⟨cm_ne nb, bd_cm bb nb⟩, (by show 2 ≤ sizeLine; decide), fun r hr' => ?_⟩
  exact q r _ (same_new hr' _) upd_same
abbrev s_l_sum : Stmt := top 28
theorem sc_l_sum : FnScope ["_law_numbers", "_law_point_here", "_law_top", "_law_bottom", "_law_number_here", "_law_value_here"] ["_law_numbers", "_law_point_here"] (defScope s_l_sum) := ⟨rfl, rfl, rfl, by decide +kernel, rfl, by decide +kernel, by decide +kernel⟩
theorem ok_l_sum {k : Nat} {f : Addr} {fd : FuncData} {aStraight aStopped aParted : Addr} (TStraight : ClsF K mg "Straight" aStraight) (AStraight : AtStraight K aStraight) (TStopped : ClsF K mg "Stopped" aStopped) (AStopped : AtStopped K aStopped) (TParted : ClsF K mg "Parted" aParted) (AParted : AtParted K aParted) (F : Fun K "_law_sum" "_law_sum" s_l_sum f fd) (B : Bl mg) (c_l_fraction : Fn P w K mg base "_law_fraction" ["_law_top", "_law_bottom"] k spLowest) : FnOk P w K mg base CX0 (k + 1) f fd ["_law_numbers", "_law_point_here"] (spSumL K) := by
  refine F.ok sc_l_sum (fun vs H Q E h => ?_) (fun cdv A outer s H vs Q E hr h => ?_)
  · obtain ⟨na, pa, ws, pv, pts, rfl, _⟩ := h
    rfl
  obtain ⟨na, pa, ws, pv, pts, rfl, hna, hpa, hpt, PO, WO, q⟩ := h
  refine ⟨_, (pss_cons (ps_set (i := 2) sc_l_sum.nd rfl (Or.inl rfl) pe_int)
    (pss_cons (ps_set (i := 3) sc_l_sum.nd rfl (Or.inl rfl) pe_int)
    (pss_cons (ps_for PassesOwn.never rfl (pi_zipS rfl B.zip_ (pa_cons (L2.pv 0) (pa_cons (L2.pv 1) pa_nil))) (pg_tup rfl (pgs_cons (pg_name (i := 4) sc_l_sum.nd rfl (Or.inl rfl)) (pgs_cons (pg_name (i := 5) sc_l_sum.nd rfl (Or.inl rfl)) pgs_nil))) (pss_cons (ps_set (i := 2) sc_l_sum.nd rfl (Or.inl rfl) (pe_op op_add (pe_op op_mulW (L2.pv 2) (pe_ix ix_tup (L2.pv 5) pe_int (fun _ _ => rfl))) (pe_op op_mulW (pe_op op_mulW (L2.pv 4) (pe_ix ix_tup (L2.pv 5) pe_int (fun _ _ => rfl))) (L2.pv 3))))
      (pss_one (ps_set (i := 3) sc_l_sum.nd rfl (Or.inl rfl) (pe_op op_mulW (L2.pv 3) (pe_ix ix_tup (L2.pv 5) pe_int (fun _ _ => rfl)))))))
    (pss_one (ps_ret (pe_callF c_l_fraction hr rfl (pa_cons (L2.pv 2) (pa_cons (L2.pv 3) pa_nil)))))))), ?_⟩
  have lp : pv.length = pts.length := Paired.length hpt
  have hlen : (ws.map V.int).length ≤ pv.length := by rw [List.length_map, WO.len, lp]; exact Nat.le_refl _
  refine ⟨_, rfl, _, rfl, na, pa, rfl, for_zipE (xs := ws.map V.int) (ys := pv) hna hpa
    (fun i σ H2 => ∃ n1 p1, σ = [some (.ref na), some (.ref pa), some (.int (((ws.zip pts).take i).foldl alStep (0, 1)).1), some (.int (((ws.zip pts).take i).foldl alStep (0, 1)).2), n1, p1] ∧ Same H H2)
    ⟨none, none, rfl, Same.refl _⟩ (fun i σ H2 _ ⟨_, _, _, sm⟩ => sm) hlen ?_ ?_⟩
  · rintro i x y T σ H2 hx hy hT ⟨n1, p1, rfl, sm⟩
    obtain ⟨wv, hw, rfl⟩ := ints_get hx
    obtain ⟨pr, hpr, r, rfl, er⟩ := paired_get hpt hy
    have hz : (ws.zip pts)[i]? = some (wv, pr) := by rw [List.getElem?_zip_eq_some]; exact ⟨hw, hpr⟩
    have hzm := List.mem_of_getElem? hz
    obtain ⟨z1, z2, z3, z4⟩ := zip_ok PO WO _ hzm
    have hil : i < pts.length := (List.getElem?_eq_some_iff.mp hpr).1
    obtain ⟨b1, b2⟩ := bd_al i ((ws.zip pts).take i) (by rw [List.length_take, zip_len WO]; omega) fun q hq => (zip_ok PO WO q (List.mem_of_mem_take hq)).2
    have n7 := PO.n7
    have s2 := sm.trans (same_new hT (HO.tup [V.int wv, V.ref r]))
    have er2 := s2 _ _ er
    have tk : ((ws.zip pts).take (i + 1)).foldl alStep (0, 1) = alStep (((ws.zip pts).take i).foldl alStep (0, 1)) (wv, pr) := by rw [take_snoc hz, List.foldl_append]; rfl
    refine ⟨T, _, rfl, SqT.of upd_same, rfl, _, _, rfl, _, _, rfl, rfl, ?_⟩
    refine ⟨_, rfl, _, rfl, r, _, 1, _, rfl, rfl, SqT.of er2, at1, _, _, rfl, rfl, ⟨b1.mono (by omega), z4.mono (by decide)⟩, ?_⟩
    refine ⟨_, rfl, _, rfl, r, _, 0, _, rfl, rfl, SqT.of er2, at0, _, _, rfl, rfl, ⟨z2.mono (by decide), z3.mono (by decide)⟩, _, rfl, _, _, rfl, rfl, ⟨(z2.mul z3).mono (by decide), b2.mono (by omega)⟩, _, _, rfl, rfl, ?_⟩
    refine ⟨_, rfl, _, rfl, r, _, 1, _, rfl, rfl, SqT.of er2, at1, _, _, rfl, rfl, ⟨b2.mono (by omega), z4.mono (by decide)⟩, ?_⟩
    refine ⟨some (.int wv), some (.ref r), ?_, s2⟩
    rw [tk]
    rfl
  · rintro σ H2 ⟨n1, p1, rfl, sm⟩
    have tk : (ws.zip pts).take (ws.map V.int).length = ws.zip pts := List.take_of_length_le (by rw [zip_len WO, List.length_map, WO.len]; exact Nat.le_refl _)
    rw [tk]
    have p0 := al_pos PO WO
    have b2 := (al_bd PO WO).2
    exact ⟨_, rfl, _, rfl, _, _, rfl, p0, b2.mono (by decide), fun r H3 s3 e3 => q r H3 (sm.trans s3) e3⟩
abbrev s_l_value : Stmt := top 29
theorem sc_l_value : FnScope ["_law_tree_here", "_law_point_here", "_law_value_here"] ["_law_tree_here", "_law_point_here"] (defScope s_l_value) := ⟨rfl, rfl, rfl, by decide +kernel, rfl, by decide +kernel, by decide +kernel⟩
theorem ok_l_value {k : Nat} {f : Addr} {fd : FuncData} {d : Nat} {aStraight aStopped aParted : Addr} (TStraight : ClsF K mg "Straight" aStraight) (AStraight : AtStraight K aStraight) (TStopped : ClsF K mg "Stopped" aStopped) (AStopped : AtStopped K aStopped) (TParted : ClsF K mg "Parted" aParted) (AParted : AtParted K aParted) (F : Fun K "_law_value" "_law_value" s_l_value f fd) (B : Bl mg) (c_l_sum : Fn P w K mg base "_law_sum" ["_law_numbers", "_law_point_here"] k (spSumL K)) (c_l_fraction : Fn P w K mg base "_law_fraction" ["_law_top", "_law_bottom"] k spLowest) (c_l_value : Fn P w K mg base "_law_value" ["_law_tree_here", "_law_point_here"] k (spValue K d)) : FnOk P w K mg base CX0 (k + 1) f fd ["_law_tree_here", "_law_point_here"] (spValue K (d + 1)) := by
  refine F.ok sc_l_value (fun vs H Q E h => ?_) (fun cdv A outer s H vs Q E hr h => ?_)
  · obtain ⟨v, pa, pv, pts, t, rfl, _⟩ := h
    rfl
  obtain ⟨v, pa, pv, pts, t, rfl, dp, hT, TO, hpa, hpt, PO, n3, q⟩ := h
  refine ⟨_, (pss_cons (ps_if (pt_cmpR op_eq (pe_ix ix_tup (L2.pv 0) pe_int (fun _ _ => rfl)) pe_str (nomark _)) (pss_cons (ps_set (i := 2) sc_l_value.nd rfl (Or.inl rfl) (pe_callF c_l_sum hr rfl (pa_cons (pe_ix ix_tup (L2.pv 0) pe_int (fun _ _ => rfl)) (pa_cons (L2.pv 1) pa_nil))))
      (pss_one (ps_ret (pe_callF c_l_fraction hr rfl (pa_cons (pe_op op_add (pe_ix ix_tup (L2.pv 2) pe_int (fun _ _ => rfl)) (pe_op op_mulW (pe_ix ix_tup (L2.pv 0) pe_int (fun _ _ => rfl)) (pe_ix ix_tup (L2.pv 2) pe_int (fun _ _ => rfl)))) (pa_cons (pe_op op_mulW (pe_ix ix_tup (L2.pv 2) pe_int (fun _ _ => rfl)) (pe_ix ix_tup (L2.pv 0) pe_int (fun _ _ => rfl))) pa_nil)))))) pss_nil)
    (pss_cons (ps_if (pt_cmpR op_eq (pe_ix ix_tup (L2.pv 0) pe_int (fun _ _ => rfl)) pe_str (nomark _)) (pss_cons (ps_set (i := 2) sc_l_value.nd rfl (Or.inl rfl) (pe_callF c_l_value hr rfl (pa_cons (pe_ix ix_tup (L2.pv 0) pe_int (fun _ _ => rfl)) (pa_cons (L2.pv 1) pa_nil))))
      (pss_cons (ps_if (pt_cmpR op_lt (pe_ix ix_tup (L2.pv 2) pe_int (fun _ _ => rfl)) (pe_op op_mulW (pe_ix ix_tup (L2.pv 0) pe_int (fun _ _ => rfl)) (pe_ix ix_tup (L2.pv 2) pe_int (fun _ _ => rfl))) (nomark _)) (pss_one (ps_ret (pe_tup (pa_cons (pe_ix ix_tup (L2.pv 0) pe_int (fun _ _ => rfl)) (pa_cons pe_int pa_nil))))) pss_nil)
      (pss_cons (ps_if (pt_cmpR op_gt (pe_ix ix_tup (L2.pv 2) pe_int (fun _ _ => rfl)) (pe_op op_mulW (pe_ix ix_tup (L2.pv 0) pe_int (fun _ _ => rfl)) (pe_ix ix_tup (L2.pv 2) pe_int (fun _ _ => rfl))) (nomark _)) (pss_one (ps_ret (pe_tup (pa_cons (pe_ix ix_tup (L2.pv 0) pe_int (fun _ _ => rfl)) (pa_cons pe_int pa_nil))))) pss_nil)
      (pss_one (ps_ret (L2.pv 2)))))) pss_nil)
    (pss_cons (ps_set (i := 2) sc_l_value.nd rfl (Or.inl rfl) (pe_callF c_l_sum hr rfl (pa_cons (pe_slice sl_tup (pe_ix ix_tup (L2.pv 0) pe_int (fun _ _ => rfl)) po_none (po_some (pe_un un_neg pe_int))) (pa_cons (L2.pv 1) pa_nil))))
    (pss_cons (ps_if (pt_cmpR op_le (pe_ix ix_tup (L2.pv 2) pe_int (fun _ _ => rfl)) (pe_op op_mulW (pe_ix ix_tup (pe_ix ix_tup (L2.pv 0) pe_int (fun _ _ => rfl)) (pe_un un_neg pe_int) (fun _ _ => rfl)) (pe_ix ix_tup (L2.pv 2) pe_int (fun _ _ => rfl))) (nomark _)) (pss_one (ps_ret (pe_callF c_l_value hr rfl (pa_cons (pe_ix ix_tup (L2.pv 0) pe_int (fun _ _ => rfl)) (pa_cons (L2.pv 1) pa_nil))))) pss_nil)
    (pss_one (ps_ret (pe_callF c_l_value hr rfl (pa_cons (pe_ix ix_tup (L2.pv 0) pe_int (fun _ _ => rfl)) (pa_cons (L2.pv 1) pa_nil))))))))), ?_⟩
  cases t with
  | str ns a d0 =>
    obtain ⟨o, na, rfl, eo, ena⟩ := hT
    obtain ⟨l1, b1, ba, d1, bd⟩ := TO
    have W : RwOk ns pts.length := ⟨l1, fun w hw => (b1 w hw).mono (by decide)⟩
    have p0 := al_pos PO W
    have bb := (al_bd3 PO n3 W).2
    refine ⟨_, rfl, o, _, 0, _, rfl, rfl, SqT.of eo, rfl, rfl, _, rfl, iteB1 (decide_eq_true rfl) ?_⟩
    refine ⟨_, rfl, o, _, 1, _, rfl, rfl, SqT.of eo, rfl, _, rfl, na, pa, ns, pv, pts, rfl, .inr (SqL.of ena), hpa, hpt, PO, W, fun r1 H1 s1 e1 => ?_⟩
    have pl := lowB_pos (t := (alFold ns pts).1) (b := (alFold ns pts).2) (by omega)
    have bl := bd_lowB (t := (alFold ns pts).1) bb
    refine ⟨_, rfl, r1, _, 0, _, rfl, rfl, SqT.of e1, at0, _, rfl, o, _, 2, _, rfl, rfl, SqT.of (s1 _ _ eo), rfl, _, rfl, r1, _, 1, _, rfl, rfl, SqT.of e1, at1, _, _, rfl, rfl, ⟨ba.mono (by decide), bl.mono (by decide)⟩, _, _, rfl, rfl, _, rfl, r1, _, 1, _, rfl, rfl, SqT.of e1, at1, _, rfl, o, _, 3, _, rfl, rfl, SqT.of (s1 _ _ eo), rfl, _, _, rfl, rfl, ⟨bl.mono (by decide), bd.mono (by decide)⟩, _, _, rfl, Int.mul_pos pl d1, (bl.mul bd).mono (by decide), fun r H2 s2 e2 => ?_⟩
    refine q r H2 (s1.trans s2) (e2.trans ?_)
    rw [(low_add p0 d1).1, (low_add p0 d1).2]
    rfl
  | stp t1 lo hi =>
    obtain ⟨o, u, rfl, eo, hu⟩ := hT
    obtain ⟨v0, bv1, bv2⟩ := val_ok PO n3 TO.1
    refine ⟨_, rfl, o, _, 0, _, rfl, rfl, SqT.of eo, rfl, rfl, _, rfl, iteB0 sne1 ?_⟩
    refine ⟨_, rfl, o, _, 0, _, rfl, rfl, SqT.of eo, rfl, rfl, _, rfl, iteB1 (decide_eq_true rfl) ?_⟩
    refine ⟨_, rfl, o, _, 1, _, rfl, rfl, SqT.of eo, rfl, _, rfl, u, pa, pv, pts, t1, rfl, Nat.le_of_succ_le_succ dp, hu, TO.1, hpa, hpt, PO, n3, fun r1 H1 s1 e1 => ?_⟩
    refine ⟨_, rfl, r1, _, 0, _, rfl, rfl, SqT.of e1, at0, _, rfl, o, _, 2, _, rfl, rfl, SqT.of (s1 _ _ eo), rfl, _, rfl, r1, _, 1, _, rfl, rfl, SqT.of e1, at1, _, _, rfl, rfl, ⟨TO.2.1.mono (by decide), bv2.mono (by decide)⟩, _, _, rfl, rfl, _, rfl, ?_⟩
    refine ite2 (fun c => ?_) (fun c => ?_)
    · refine ⟨_, rfl, o, _, 2, _, rfl, rfl, SqT.of (s1 _ _ eo), rfl, (by show 2 ≤ sizeLine; decide), fun r2 hr2 => ?_⟩
      exact q r2 _ (s1.trans (same_new hr2 _)) (upd_same.trans (by rw [val_lo (of_decide_eq_true c)]))
    have c' : ¬ (valM pts t1).1 < lo * (valM pts t1).2 := fun z => c (decide_eq_true z)
    refine ⟨_, rfl, r1, _, 0, _, rfl, rfl, SqT.of e1, at0, _, rfl, o, _, 3, _, rfl, rfl, SqT.of (s1 _ _ eo), rfl, _, rfl, r1, _, 1, _, rfl, rfl, SqT.of e1, at1, _, _, rfl, rfl, ⟨TO.2.2.mono (by decide), bv2.mono (by decide)⟩, _, _, rfl, rfl, _, rfl, ?_⟩
    refine ite2 (fun k => ?_) (fun k => ?_)
    · refine ⟨_, rfl, o, _, 3, _, rfl, rfl, SqT.of (s1 _ _ eo), rfl, (by show 2 ≤ sizeLine; decide), fun r2 hr2 => ?_⟩
      exact q r2 _ (s1.trans (same_new hr2 _)) (upd_same.trans (by rw [val_hi c' (of_decide_eq_true k)]))
    · exact ⟨_, rfl, q r1 H1 s1 (e1.trans (by rw [val_in c' (fun z => k (decide_eq_true z))]))⟩
  | prt row x y =>
    obtain ⟨o, ra, u, w2, rfl, eo, era0, hu, hw⟩ := hT
    have W := TrOk.row TO.1
    have p0 := al_pos PO W.rw
    have bb := (al_bd3 PO n3 W.rw).2
    have era : H ra = some (.tup (rowV (row.take pts.length) (row.getD pts.length 0))) := era0.trans (by rw [rowV_split W.len])
    have ec : cutV (rowV (row.take pts.length) (row.getD pts.length 0)) none (some (-1)) = (row.take pts.length).map V.int := cut_last _ _
    have dp2 : max x.dep y.dep ≤ d := Nat.le_of_succ_le_succ dp
    refine ⟨_, rfl, o, _, 0, _, rfl, rfl, SqT.of eo, rfl, rfl, _, rfl, iteB0 sne2 ?_⟩
    refine ⟨_, rfl, o, _, 0, _, rfl, rfl, SqT.of eo, rfl, rfl, _, rfl, iteB0 sne3 ?_⟩
    refine ⟨_, rfl, o, _, 1, _, rfl, rfl, SqT.of eo, rfl, _, rfl, _, rfl, ra, _, rfl, SqT.of era, cut_last_no _ _, fun p hp => ?_⟩
    have z1 := same_new hp (HO.tup (cutV (rowV (row.take pts.length) (row.getD pts.length 0)) none (some (-1))))
    refine ⟨_, rfl, p, pa, row.take pts.length, pv, pts, rfl, .inl (SqT.of (upd_same.trans (by rw [ec]))), z1.seq hpa, hpt.same z1, PO, W.rw, fun r1 H1 s1 e1 => ?_⟩
    have s01 := z1.trans s1
    have eo2 := s01 _ _ eo
    have bl := bd_lowB (t := (alFold (row.take pts.length) pts).1) bb
    refine ⟨_, rfl, r1, _, 0, _, rfl, rfl, SqT.of e1, at0, _, rfl, o, _, 1, _, rfl, rfl, SqT.of eo2, rfl, _, rfl, ra, _, _, _, rfl, rfl, SqT.of (s01 _ _ era), atI_last _ _, _, rfl, r1, _, 1, _, rfl, rfl, SqT.of e1, at1, _, _, rfl, rfl, ⟨((W.at (Nat.le_refl _)).2).mono (by decide), bl.mono (by decide)⟩, _, _, rfl, rfl, _, rfl, ?_⟩
    refine ite2 (fun c => ?_) (fun c => ?_)
    · have hc : holdM (row.take pts.length) (row.getD pts.length 0) pts = true := decide_eq_true ((low_le p0).mp (of_decide_eq_true c))
      exact ⟨_, rfl, o, _, 2, _, rfl, rfl, SqT.of eo2, rfl, _, rfl, u, pa, pv, pts, x, rfl, (by omega), hu.same s01, TO.2.1, s01.seq hpa, hpt.same s01, PO, n3, fun r H' s e => q r H' (s01.trans s) (e.trans (by rw [val_yes hc]))⟩
    · have hc : ¬ holdM (row.take pts.length) (row.getD pts.length 0) pts = true := fun z => c (decide_eq_true ((low_le p0).mpr (of_decide_eq_true z)))
      exact ⟨_, rfl, o, _, 3, _, rfl, rfl, SqT.of eo2, rfl, _, rfl, w2, pa, pv, pts, y, rfl, (by omega), hw.same s01, TO.2.2, s01.seq hpa, hpt.same s01, PO, n3, fun r H' s e => q r H' (s01.trans s) (e.trans (by rw [val_no hc]))⟩
abbrev s_l_rows : Stmt := top 30
theorem sc_l_rows : FnScope ["_law_tree_here"] ["_law_tree_here"] (defScope s_l_rows) := ⟨rfl, rfl, rfl, by decide +kernel, rfl, by decide +kernel, by decide +kernel⟩
theorem ok_l_rows {k : Nat} {f : Addr} {fd : FuncData} {d : Nat} {aStraight aStopped aParted : Addr} (TStraight : ClsF K mg "Straight" aStraight) (AStraight : AtStraight K aStraight) (TStopped : ClsF K mg "Stopped" aStopped) (AStopped : AtStopped K aStopped) (TParted : ClsF K mg "Parted" aParted) (AParted : AtParted K aParted) (F : Fun K "_law_rows" "_law_rows" s_l_rows f fd) (B : Bl mg) (c_l_rows : Fn P w K mg base "_law_rows" ["_law_tree_here"] k (spRowsT d)) : FnOk P w K mg base CX0 (k + 1) f fd ["_law_tree_here"] (spRowsT (d + 1)) := by
  refine F.ok sc_l_rows (fun vs H Q E h => ?_) (fun cdv A outer s H vs Q E hr h => ?_)
  · obtain ⟨v, t, rfl, _⟩ := h
    rfl
  obtain ⟨v, t, rfl, dp, hT, lv9, q⟩ := h
  refine ⟨_, (pss_cons (ps_if (pt_cmpR op_eq (pe_ix ix_tup (L2.pv 0) pe_int (fun _ _ => rfl)) pe_str (nomark _)) (pss_one (ps_ret (pe_lst pa_nil))) pss_nil)
    (pss_cons (ps_if (pt_cmpR op_eq (pe_ix ix_tup (L2.pv 0) pe_int (fun _ _ => rfl)) pe_str (nomark _)) (pss_one (ps_ret (pe_callF c_l_rows hr rfl (pa_cons (pe_ix ix_tup (L2.pv 0) pe_int (fun _ _ => rfl)) pa_nil)))) pss_nil)
    (pss_one (ps_ret (pe_op op_cat (pe_op op_cat (pe_lst (pa_cons (pe_ix ix_tup (L2.pv 0) pe_int (fun _ _ => rfl)) pa_nil)) (pe_callF c_l_rows hr rfl (pa_cons (pe_ix ix_tup (L2.pv 0) pe_int (fun _ _ => rfl)) pa_nil))) (pe_callF c_l_rows hr rfl (pa_cons (pe_ix ix_tup (L2.pv 0) pe_int (fun _ _ => rfl)) pa_nil))))))), ?_⟩
  cases t with
  | str ns a d0 =>
    obtain ⟨o, na, rfl, eo, ena⟩ := hT
    refine ⟨_, rfl, o, _, 0, _, rfl, rfl, SqT.of eo, rfl, rfl, _, rfl, iteB1 (decide_eq_true rfl) ?_⟩
    exact ⟨(by show 0 ≤ sizeLine; decide), fun l hl => q l [] _ (same_new hl _) hl upd_same .nil⟩
  | stp t1 lo hi =>
    obtain ⟨o, u, rfl, eo, hu⟩ := hT
    refine ⟨_, rfl, o, _, 0, _, rfl, rfl, SqT.of eo, rfl, rfl, _, rfl, iteB0 sne1 ?_⟩
    refine ⟨_, rfl, o, _, 0, _, rfl, rfl, SqT.of eo, rfl, rfl, _, rfl, iteB1 (decide_eq_true rfl) ?_⟩
    exact ⟨_, rfl, o, _, 1, _, rfl, rfl, SqT.of eo, rfl, u, t1, rfl, Nat.le_of_succ_le_succ dp, hu, lv9, fun l lv H' s n e w => q l lv H' s n e w⟩
  | prt row x y =>
    obtain ⟨o, ra, u, w2, rfl, eo, era, hu, hw⟩ := hT
    have dp2 : max x.dep y.dep ≤ d := Nat.le_of_succ_le_succ dp
    have lvs : x.leaves + y.leaves ≤ 100 := lv9
    have rx := x.rows_len
    have ry := y.rows_len
    refine ⟨_, rfl, o, _, 0, _, rfl, rfl, SqT.of eo, rfl, rfl, _, rfl, iteB0 sne2 ?_⟩
    refine ⟨_, rfl, o, _, 0, _, rfl, rfl, SqT.of eo, rfl, rfl, _, rfl, iteB0 sne3 ?_⟩
    refine ⟨_, rfl, o, _, 1, _, rfl, rfl, SqT.of eo, rfl, (by show 1 ≤ sizeLine; decide), fun l0 hl0 => ?_⟩
    have z0 := same_new hl0 (HO.lst [V.ref ra])
    have e0 := upd_same (H := H) (a := l0) (o := HO.lst [V.ref ra])
    obtain ⟨H1, hH1⟩ : ∃ H1, H1 = upd H l0 (HO.lst [V.ref ra]) := ⟨_, rfl⟩
    rw [← hH1] at z0 e0 ⊢
    refine ⟨_, rfl, o, _, 2, _, rfl, rfl, SqT.of (z0 _ _ eo), rfl, u, x, rfl, (by omega), hu.same z0, (by omega), fun l1 lv1 H2 s2 n2 e2 w1 => ?_⟩
    have ll1 := Paired.length w1
    refine ⟨l0, l1, _, _, rfl, rfl, s2 _ _ e0, e2, Nat.le_of_lt (small1000 (by show 1 + lv1.length ≤ 1000; omega)), fun c hc => ?_⟩
    have z3 := same_new hc (HO.lst ([V.ref ra] ++ lv1))
    have e3 := upd_same (H := H2) (a := c) (o := HO.lst ([V.ref ra] ++ lv1))
    obtain ⟨H3, hH3⟩ : ∃ H3, H3 = upd H2 c (HO.lst ([V.ref ra] ++ lv1)) := ⟨_, rfl⟩
    rw [← hH3] at z3 e3 ⊢
    have s03 := z0.trans (s2.trans z3)
    refine ⟨_, rfl, o, _, 3, _, rfl, rfl, SqT.of (s03 _ _ eo), rfl, w2, y, rfl, (by omega), hw.same s03, (by omega), fun l4 lv4 H4 s4 n4 e4 w4 => ?_⟩
    have ll4 := Paired.length w4
    refine ⟨c, l4, _, _, rfl, rfl, s4 _ _ e3, e4, Nat.le_of_lt (small1000 (by rw [List.length_append]; show 1 + lv1.length + lv4.length ≤ 1000; omega)), fun p hp => ?_⟩
    have z5 := same_new hp (HO.lst ([V.ref ra] ++ lv1 ++ lv4))
    have s05 := s03.trans (s4.trans z5)
    refine q p _ _ s05 ((s03.trans s4).free hp) upd_same (paired_app (paired_app (xs := [V.ref ra]) (ys := [row]) (.cons ⟨ra, rfl, s05 _ _ era⟩ .nil) (WaysV.same (z3.trans (s4.trans z5)) w1)) (WaysV.same z5 w4))
end
section
variable {P : Program} {w : World} {K : PySem.W.Frag} {mg : Str → Option Value} {base : Heap}
abbrev s_l_point : Stmt := top 31
theorem sc_l_point : FnScope ["_law_cell", "_law_many", "_law_rows_here", "_law_xs", "_law_point_here", "_law_k", "_law_bottom", "_law_row", "_law_rest", "_law_top"] ["_law_cell", "_law_many", "_law_rows_here"] (defScope s_l_point) := ⟨rfl, rfl, rfl, by decide +kernel, rfl, by decide +kernel, by decide +kernel⟩
theorem ok_l_point {k : Nat} {f : Addr} {fd : FuncData} {aStraight aStopped aParted : Addr} (TStraight : ClsF K mg "Straight" aStraight) (AStraight : AtStraight K aStraight) (TStopped : ClsF K mg "Stopped" aStopped) (AStopped : AtStopped K aStopped) (TParted : ClsF K mg "Parted" aParted) (AParted : AtParted K aParted) (F : Fun K "_law_point" "_law_point" s_l_point f fd) (B : Bl mg) (c_l_stream : Fn P w K mg base "_law_stream" ["_law_cell", "_law_many"] k spStream) (c_l_fraction : Fn P w K mg base "_law_fraction" ["_law_top", "_law_bottom"] k spLowest) (c_l_number : Fn P w K mg base "_law_number" ["_law_number_here"] k spNum21) (c_l_sum : Fn P w K mg base "_law_sum" ["_law_numbers", "_law_point_here"] k (spSumL K)) : FnOk P w K mg base CX0 (k + 1) f fd ["_law_cell", "_law_many", "_law_rows_here"] spPointT := by
  refine F.ok sc_l_point (fun vs H Q E h => ?_) (fun cdv A outer s H vs Q E hr h => ?_)
  · obtain ⟨c, mm, ra, rv, rows, rfl, _⟩ := h
    rfl
  obtain ⟨c, mm, ra, rv, rows, rfl, m1, m3, hra, hrv, RO, few, q⟩ := h
  refine ⟨_, (pss_cons (ps_set (i := 3) sc_l_point.nd rfl (Or.inl rfl) (pe_callF c_l_stream hr rfl (pa_cons (L2.pv 0) (pa_cons pe_int pa_nil))))
    (pss_cons (ps_set (i := 4) sc_l_point.nd rfl (Or.inl rfl) (pe_lst pa_nil))
    (pss_cons (ps_for PassesOwn.never rfl (pi_range1 rfl B.range_ (pa_cons (L2.pv 1) pa_nil)) (pg_name (i := 5) sc_l_point.nd rfl (Or.inl rfl)) (pss_cons (ps_set (i := 6) sc_l_point.nd rfl (Or.inl rfl) (pe_ix ix_list (pe_lst (pa_cons pe_int (pa_cons (pe_op op_add pe_int (pe_op op_modN (pe_ix ix_list (L2.pv 3) (pe_op op_add pe_int (L2.pv 5)) (fun _ _ => rfl)) pe_int)) (pa_cons (pe_op op_add pe_int (pe_op op_modN (pe_ix ix_list (L2.pv 3) (pe_op op_add pe_int (L2.pv 5)) (fun _ _ => rfl)) (pe_op op_pow pe_int pe_int))) pa_nil)))) (pe_op op_modN (pe_ix ix_list (L2.pv 3) pe_int (fun _ _ => rfl)) pe_int) (fun _ _ => rfl)))
      (pss_one (ps_expr (pe_bm PySem.F.plainAttrs_list PySem.F.slot_list_append PySem.F.type_list_append mt_append (L2.pv 4) (pa_cons (pe_callF c_l_fraction hr rfl (pa_cons (pe_callF c_l_number hr rfl (pa_cons (pe_ix ix_list (L2.pv 3) (L2.pv 5) (fun _ _ => rfl)) pa_nil)) (pa_cons (L2.pv 6) pa_nil))) pa_nil))))))
    (pss_cons (ps_if (PW.pt (pw_and (pt_cmpR op_eq (pe_op op_modN (pe_op op_fdivW (pe_ix ix_list (L2.pv 3) pe_int (fun _ _ => rfl)) pe_int) pe_int) pe_int (nomark _)) (pw_and1 (pt_cmpR (op_neX hr.units) (L2.pv 2) (pe_lst pa_nil) (nomark _))))) (pss_cons (ps_set (i := 7) sc_l_point.nd rfl (Or.inl rfl) (pe_ix ix_list (L2.pv 2) (pe_op op_modN (pe_op op_fdivW (pe_ix ix_list (L2.pv 3) pe_int (fun _ _ => rfl)) pe_int) (pe_callB call_len_seq rfl B.len_ boot_len_ (pa_cons (L2.pv 2) pa_nil))) (fun _ _ => rfl)))
      (pss_one (ps_if (pt_cmpR op_ne (pe_ix ix_tup (L2.pv 7) pe_int (fun _ _ => rfl)) pe_int (nomark _)) (pss_cons (ps_set (i := 8) sc_l_point.nd rfl (Or.inl rfl) (pe_callF c_l_sum hr rfl (pa_cons (pe_slice sl_tup (L2.pv 7) (po_some pe_int) (po_some (pe_un un_neg pe_int))) (pa_cons (pe_slice sl_list (L2.pv 4) (po_some pe_int) po_none) pa_nil))))
        (pss_cons (ps_set (i := 6) sc_l_point.nd rfl (Or.inl rfl) (pe_op op_mulW (pe_ix ix_tup (L2.pv 7) pe_int (fun _ _ => rfl)) (pe_ix ix_tup (L2.pv 8) pe_int (fun _ _ => rfl))))
        (pss_cons (ps_set (i := 9) sc_l_point.nd rfl (Or.inl rfl) (pe_op op_sub (pe_op op_mulW (pe_ix ix_tup (L2.pv 7) (pe_un un_neg pe_int) (fun _ _ => rfl)) (pe_ix ix_tup (L2.pv 8) pe_int (fun _ _ => rfl))) (pe_ix ix_tup (L2.pv 8) pe_int (fun _ _ => rfl))))
        (pss_one (ps_asg (pe_callF c_l_fraction hr rfl (pa_cons (pe_op op_mulW (L2.pv 9) (pe_ix ix_list (pe_lst (pa_cons pe_int (pa_cons (pe_op op_sub pe_int pe_int) pa_nil))) (pe_callTy call_int1 rfl B.int_ boot_int_ (pa_cons (pe_cmpR op_lt (L2.pv 6) pe_int (nomark _)) pa_nil)) (fun _ _ => rfl))) (pa_cons (pe_callB call_abs rfl B.abs_ boot_abs_ (pa_cons (L2.pv 6) pa_nil)) pa_nil))) (pg_sub (L2.pv 4) pe_int set_list)))))) pss_nil))) pss_nil)
    (pss_one (ps_ret (L2.pv 4))))))), ?_⟩
  refine ⟨_, rfl, _, 7, rfl, (by decide), (by decide), fun xa H1 xs s1 xn ex lx bx => ?_⟩
  have lx7 : xs.length = 7 := lx
  have a6 : atI (xs.map V.int) (6 : Int) = some (.int (xs[6]'(by omega))) := at_ints (j := 6) _
  refine ⟨(by show 0 ≤ sizeLine; decide), fun l hl => ?_⟩
  have sA := same_new hl (HO.lst [])
  have lH := s1.free hl
  refine ⟨_, rfl, mm, rfl, (by omega), (by omega), for_range (lo := 0) (n := mm.toNat)
    (fun i σ H' => ∃ (pv : List V) (pts : List (Int × Int)) (k5 b6 : Option V), σ = [some (.int c), some (.int mm), some (.ref ra), some (.ref xa), some (.ref l), k5, b6, none, none, none] ∧ Same H1 H' ∧ H' l = some (.lst pv) ∧ PtV H' pv pts ∧ (∀ p ∈ pts, 0 < p.2 ∧ Bd 101 p.1 ∧ Bd 30 p.2) ∧ pts.length = i)
    ⟨[], [], none, none, rfl, sA, upd_same, .nil, (fun p hp => by cases hp), rfl⟩ ?_ ?_⟩
  · rintro i σ H' hi ⟨pv, pts, k5, b6, rfl, sm, el, hpt, PB, lp⟩
    have lpv : pv.length = pts.length := Paired.length hpt
    have ex' := sm _ _ ex
    have a3 : atI (xs.map V.int) (3 + ((0 : Int) + (i : Int))) = some (.int (xs[3 + i]'(by omega))) := by
      rw [show (3 : Int) + ((0 : Int) + (i : Int)) = ((3 + i : Nat) : Int) by omega]
      exact at_ints _
    have ai : atI (xs.map V.int) ((0 : Int) + (i : Int)) = some (.int (xs[i]'(by omega))) := by
      rw [Int.zero_add]
      exact at_ints _
    obtain ⟨X, hX⟩ : ∃ X, X = xs[3 + i]'(by omega) := ⟨_, rfl⟩
    rw [← hX] at a3
    have h1 := Int.fmod_nonneg_of_pos X (show (0 : Int) < 12 by decide)
    have h2 := Int.fmod_lt_of_pos X (show (0 : Int) < 12 by decide)
    have h3 := Int.fmod_nonneg_of_pos X (show (0 : Int) < 10 ^ (6 : Int).toNat by decide)
    have h4 := Int.fmod_lt_of_pos X (show (0 : Int) < 10 ^ (6 : Int).toNat by decide)
    have h5 : (10 : Int) ^ (6 : Int).toNat = 1000000 := by decide
    refine ⟨_, rfl, _, rfl, _, _, rfl, rfl, xa, _, _, _, rfl, rfl, SqL.of ex', a3, _, _, rfl, rfl, (show (12 : Int) ≠ 0 by decide), _, _, rfl, rfl, _, rfl, _, rfl, _, _, rfl, rfl, xa, _, _, _, rfl, rfl, SqL.of ex', a3, _, _, rfl, rfl, ⟨by decide, by decide, by decide⟩, _, _, rfl, rfl, (show (10 : Int) ^ (6 : Int).toNat ≠ 0 by decide), _, _, rfl, rfl, (by show 3 ≤ sizeLine; decide), fun l2 hl2 => ?_⟩
    have z2 := same_new hl2 (HO.lst [V.int 1, V.int (1 + X.fmod 12), V.int (1 + X.fmod (10 ^ (6 : Int).toNat))])
    have e2 := upd_same (H := H') (a := l2) (o := HO.lst [V.int 1, V.int (1 + X.fmod 12), V.int (1 + X.fmod (10 ^ (6 : Int).toNat))])
    obtain ⟨bb, eb, b0, b1⟩ := pos_pick3 (x := 1) (y := 1 + X.fmod 12) (z := 1 + X.fmod (10 ^ (6 : Int).toNat)) (m := 1000000) (Int.fmod_nonneg_of_pos (xs[6]'(by omega)) (show (0 : Int) < 3 by decide)) (Int.fmod_lt_of_pos (xs[6]'(by omega)) (show (0 : Int) < 3 by decide)) ⟨by decide, by decide⟩ ⟨by omega, by omega⟩ ⟨by omega, by omega⟩
    obtain ⟨H2, hH2⟩ : ∃ H2, H2 = upd H' l2 (HO.lst [V.int 1, V.int (1 + X.fmod 12), V.int (1 + X.fmod (10 ^ (6 : Int).toNat))]) := ⟨_, rfl⟩
    rw [← hH2] at z2 e2 ⊢
    refine ⟨_, rfl, xa, _, _, _, rfl, rfl, SqL.of (z2 _ _ ex'), a6, _, _, rfl, rfl, (show (3 : Int) ≠ 0 by decide), l2, _, _, .int bb, rfl, rfl, SqL.of e2, eb, ?_⟩
    have bbb : Bd 30 bb := by
      show bb.natAbs < 2 ^ 30
      omega
    refine ⟨_, rfl, .inl ⟨rfl, _, SqL.of (z2 _ _ el)⟩, _, rfl, _, rfl, xa, _, _, _, rfl, rfl, SqL.of (z2 _ _ ex'), ai, _, rfl, (bd45 (bx _ (List.getElem_mem _))).mono (by decide), fun y by' => ?_⟩
    refine ⟨_, rfl, _, _, rfl, b0, bbb.mono (by decide), fun r H3 s3 e3 => ?_⟩
    have sF := z2.trans s3
    refine ⟨l, pv, _, rfl, rfl, sF _ _ el, small1000 (by omega), ?_⟩
    refine ⟨pv ++ [V.ref r], pts ++ [(lowT y bb, lowB y bb)], _, _, rfl, ?_, upd_same, paired_snoc (R := FrV _) (FrV.upd (sF _ _ el) ⟨r, rfl, e3⟩) (PtV.upd (sF _ _ el) (hpt.same sF)), fun p hp => ?_, (by rw [List.length_append, lp]; rfl)⟩
    · intro b o hb
      rw [upd_ne (ne_of_none hb hl)]
      exact sF _ _ (sm _ _ hb)
    · rcases List.mem_append.mp hp with hp | hp
      · exact PB p hp
      · rw [List.mem_singleton.mp hp]
        exact ⟨lowB_pos (by omega), bd_lowT by', bd_lowB bbb⟩
  rintro σ H2 ⟨pv, pts, k5, b6, rfl, sm, el, hpt, PB, lp⟩
  have lpv : pv.length = pts.length := Paired.length hpt
  have ex2 := sm _ _ ex
  have s02 := s1.trans sm
  have PO : PtOk pts := ⟨by omega, fun p hp => let ⟨h1, h2, h3⟩ := PB p hp; ⟨h1, h2.mono (by decide), h3.mono (by decide)⟩⟩
  have hra2 := s02 _ _ hra
  have b3 : Bd 4 (3 : Int) := Bd.lit
  have b9 : Bd 4 (9 : Int) := Bd.lit
  refine ⟨_, rfl, xa, _, _, _, rfl, rfl, SqL.of ex2, a6, _, _, rfl, rfl, ⟨by decide, b3.mono (by decide)⟩, _, _, rfl, rfl, (show (3 : Int) ≠ 0 by decide), rfl, _, rfl, ?_⟩
  by_cases c1 : ((xs[6]'(by omega)).fdiv 3).fmod 3 = 1
  · refine iteB1 (dec_yes c1) ?_
    refine ⟨_, rfl, (by show 0 ≤ sizeLine; decide), fun e0 he0 => ?_⟩
    have y0 := same_new he0 (HO.lst [])
    have hrv3 := WaysV.same (s02.trans y0) hrv
    refine ⟨.list (rows.map rowT), .list [], .lst (SqL.of (y0 _ _ hra2)) (dp_ways hrv3), .lst (SqL.of upd_same) .nil, lay_rows _, rfl, dep_rows _, (by decide), _, rfl, ?_⟩
    rw [eqv_rows0]
    obtain ⟨H3, hH3⟩ : ∃ H3, H3 = upd H2 e0 (HO.lst []) := ⟨_, rfl⟩
    rw [← hH3] at y0 hrv3 ⊢
    have s03 := s02.trans y0
    have el3 := y0 _ _ el
    have hpt3 := hpt.same y0
    by_cases rn : rows = []
    · refine iteB0 (decide_eq_false fun z => z rn) ?_
      exact ⟨_, rfl, q l pv pts H3 s03 lH el3 hpt3 PO lp⟩
    refine iteB1 (decide_eq_true rn) ?_
    have lr : rv.length = rows.length := Paired.length hrv
    have r0 : 0 < rows.length := List.length_pos_iff.mpr rn
    have j0 := Int.fmod_nonneg_of_pos ((xs[6]'(by omega)).fdiv 9) (show (0 : Int) < (rv.length : Int) by omega)
    have j1 := Int.fmod_lt_of_pos ((xs[6]'(by omega)).fdiv 9) (show (0 : Int) < (rv.length : Int) by omega)
    obtain ⟨j, hj⟩ : ∃ j : Nat, ((xs[6]'(by omega)).fdiv 9).fmod (rv.length : Int) = (j : Int) := ⟨_, (Int.toNat_of_nonneg j0).symm⟩
    have jl : j < rv.length := by omega
    have hv : rv[j]? = some (rv[j]'jl) := List.getElem?_eq_getElem _
    obtain ⟨row, hrow, a, ea0, ea⟩ := paired_get hrv3 hv
    obtain ⟨lrow, brow⟩ := RO row (List.mem_of_getElem? hrow)
    have aX : atI rv (((xs[6]'(by omega)).fdiv 9).fmod (rv.length : Int)) = some (.ref a) := by
      rw [hj]
      exact atI_nat (hv.trans (by rw [ea0]))
    refine ⟨_, rfl, _, rfl, xa, _, _, _, rfl, rfl, SqL.of (y0 _ _ ex2), a6, _, _, rfl, rfl, ⟨by decide, b9.mono (by decide)⟩, _, rfl, ra, _, rfl, .inl (SqL.of (y0 _ _ hra2)), _, _, rfl, rfl, (by omega), ra, _, _, _, rfl, rfl, SqL.of (y0 _ _ hra2), aX, ?_⟩
    have ar0 : atI (row.map V.int) (0 : Int) = some (.int (row[0]'(by omega))) := at_ints (j := 0) _
    obtain ⟨W0, hW0⟩ : ∃ W0, W0 = row[0]'(by omega) := ⟨_, rfl⟩
    have bW0 : Bd 300 W0 := by rw [hW0]; exact brow _ (List.getElem_mem _)
    rw [← hW0] at ar0
    refine ⟨_, rfl, a, _, 0, _, rfl, rfl, SqT.of ea, ar0, rfl, _, rfl, ?_⟩
    by_cases w0 : W0 = 0
    · refine iteB0 (ndec_yes w0) ?_
      exact ⟨_, rfl, q l pv pts H3 s03 lH el3 hpt3 PO lp⟩
    refine iteB1 (ndec_no w0) ?_
    have er : row.map V.int = rowV (row.take mm.toNat) (row.getD mm.toNat 0) := (rowV_split lrow).symm
    have ea' : H3 a = some (.tup ((row.take mm.toNat).map V.int ++ [.int (row.getD mm.toNat 0)])) := ea.trans (by rw [er]; rfl)
    have lt1 : 1 ≤ ((row.take mm.toNat).map V.int).length := by rw [List.length_map, List.length_take]; omega
    obtain ⟨ec, en⟩ := cut_in ((row.take mm.toNat).map V.int) (.int (row.getD mm.toNat 0)) lt1
    refine ⟨_, rfl, _, rfl, _, rfl, _, rfl, a, _, rfl, SqT.of ea', en, fun p1 hp1 => ?_⟩
    rw [ec]
    have y1 := same_new hp1 (HO.tup (((row.take mm.toNat).map V.int).drop 1))
    have e1 := upd_same (H := H3) (a := p1) (o := HO.tup (((row.take mm.toNat).map V.int).drop 1))
    obtain ⟨H4, hH4⟩ : ∃ H4, H4 = upd H3 p1 (HO.tup (((row.take mm.toNat).map V.int).drop 1)) := ⟨_, rfl⟩
    rw [← hH4] at y1 e1 ⊢
    refine ⟨_, rfl, _, rfl, l, _, rfl, SqL.of (y1 _ _ el3), fun p2 hp2 => ?_⟩
    rw [cut_from1]
    have y2 := same_new hp2 (HO.lst (pv.drop 1))
    have e2 := upd_same (H := H4) (a := p2) (o := HO.lst (pv.drop 1))
    obtain ⟨H5, hH5⟩ : ∃ H5, H5 = upd H4 p2 (HO.lst (pv.drop 1)) := ⟨_, rfl⟩
    rw [← hH5] at y2 e2 ⊢
    have s35 := y1.trans y2
    have PO1 : PtOk (pts.drop 1) := ⟨by rw [List.length_drop]; omega, fun p hp => PO.ok p (List.mem_of_mem_drop hp)⟩
    have lws : ((row.take mm.toNat).drop 1).length = (pts.drop 1).length := by rw [List.length_drop, List.length_drop, List.length_take]; omega
    have WO1 : RwOk ((row.take mm.toNat).drop 1) (pts.drop 1).length := ⟨lws, fun w hw => (brow w (List.mem_of_mem_take (List.mem_of_mem_drop hw))).mono (by decide)⟩
    have e1' : H5 p1 = some (.tup (((row.take mm.toNat).drop 1).map V.int)) := (y2 _ _ e1).trans (by rw [List.map_drop])
    refine ⟨p1, p2, (row.take mm.toNat).drop 1, pv.drop 1, pts.drop 1, rfl, .inl (SqT.of e1'), SqL.of e2, pts_drop (hpt3.same s35), PO1, WO1, fun r1 H6 s6 er1 => ?_⟩
    obtain ⟨bT, bB⟩ := bd_al2 (((row.take mm.toNat).drop 1).zip (pts.drop 1)) (by rw [zip_len WO1, List.length_drop]; omega) (fun p hp => by
      have h1 := (List.of_mem_zip (a := p.1) (b := p.2) hp).1
      have h2 := (List.of_mem_zip (a := p.1) (b := p.2) hp).2
      obtain ⟨_, k2, k3⟩ := PB p.2 (List.mem_of_mem_drop h2)
      exact ⟨brow _ (List.mem_of_mem_take (List.mem_of_mem_drop h1)), k2, k3⟩)
    have pB := al_pos PO1 WO1
    obtain ⟨T1, hT1⟩ : ∃ T1, T1 = lowT (alFold ((row.take mm.toNat).drop 1) (pts.drop 1)).1 (alFold ((row.take mm.toNat).drop 1) (pts.drop 1)).2 := ⟨_, rfl⟩
    obtain ⟨B1, hB1⟩ : ∃ B1, B1 = lowB (alFold ((row.take mm.toNat).drop 1) (pts.drop 1)).1 (alFold ((row.take mm.toNat).drop 1) (pts.drop 1)).2 := ⟨_, rfl⟩
    have bT1 : Bd 440 T1 := by rw [hT1]; exact bd_lowT bT
    have bB1 : Bd 61 B1 := by rw [hB1]; exact bd_lowB bB
    have pB1 : 0 < B1 := by rw [hB1]; exact lowB_pos (by omega)
    rw [← hT1, ← hB1] at er1
    have s36 := s35.trans s6
    have ea6 := s36 _ _ ea'
    have ar06 : atI ((row.take mm.toNat).map V.int ++ [.int (row.getD mm.toNat 0)]) (0 : Int) = some (.int W0) := by
      have : (row.take mm.toNat).map V.int ++ [.int (row.getD mm.toNat 0)] = row.map V.int := er.symm
      rw [this]
      exact ar0
    refine ⟨_, rfl, a, _, 0, _, rfl, rfl, SqT.of ea6, ar06, _, rfl, r1, _, 1, _, rfl, rfl, SqT.of er1, at1, _, _, rfl, rfl, ⟨bW0.mono (by decide), bB1.mono (by decide)⟩, ?_⟩
    have bbot : Bd 361 (W0 * B1) := (bW0.mul bB1).mono (by decide)
    have nbot : W0 * B1 ≠ 0 := Int.mul_ne_zero w0 (by omega)
    have bL : Bd 300 (row.getD mm.toNat 0) := by
      rw [List.getD_eq_getElem?_getD, List.getElem?_eq_getElem (show mm.toNat < row.length by omega)]
      exact brow _ (List.getElem_mem _)
    refine ⟨_, rfl, _, rfl, a, _, _, _, rfl, rfl, SqT.of ea6, atI_last _ _, _, rfl, r1, _, 1, _, rfl, rfl, SqT.of er1, at1, _, _, rfl, rfl, ⟨bL.mono (by decide), bB1.mono (by decide)⟩, _, rfl, r1, _, 0, _, rfl, rfl, SqT.of er1, at0, _, _, rfl, rfl, ?_⟩
    have btp : Bd 450 (row.getD mm.toNat 0 * B1 - T1) := (((bL.mul bB1).mono (show 300 + 61 ≤ 440 by decide)).sub bT1).mono (by decide)
    obtain ⟨sg, esg, bsg⟩ : ∃ sg : Int, atI [V.int 1, V.int (0 - 1)] (if decide (W0 * B1 < 0) = true then 1 else 0) = some (.int sg) ∧ Bd 2 sg := by
      by_cases z : decide (W0 * B1 < 0) = true
      · rw [if_pos z]; exact ⟨_, rfl, Bd.lit⟩
      · rw [if_neg z]; exact ⟨_, rfl, Bd.lit⟩
    refine ⟨_, rfl, _, _, rfl, rfl, (by show 2 ≤ sizeLine; decide), fun l4 hl4 => ?_⟩
    have y7 := same_new hl4 (HO.lst [V.int 1, V.int (0 - 1)])
    refine ⟨_, rfl, _, _, rfl, rfl, .inr ⟨_, rfl, l4, _, _, .int sg, rfl, rfl, SqL.of upd_same, esg, _, _, rfl, rfl, ⟨btp.mono (by decide), bsg.mono (by decide)⟩, _, rfl, W0 * B1, rfl, _, _, rfl, ?_, ?_, fun r H8 s8 er8 => ?_⟩⟩
    · show 0 < (if W0 * B1 < 0 then -(W0 * B1) else W0 * B1)
      generalize W0 * B1 = bot at nbot
      split <;> omega
    · rw [abs_is]
      exact (Bd.of_le bbot (by rw [Int.natAbs_natCast]; exact Nat.le_refl _)).mono (by decide)
    have s38 := s36.trans (y7.trans s8)
    have el8 := s38 _ _ el3
    refine ⟨_, rfl, l, _, _, 0, rfl, rfl, el8, (show ixN _ ((0 : Nat) : Int) = some 0 from ixN_nat (by omega)), ?_⟩
    obtain ⟨ab, hab⟩ : ∃ ab : Int, ab = (if W0 * B1 < 0 then -(W0 * B1) else W0 * B1) := ⟨_, rfl⟩
    have ab0 : 0 < ab := by
      rw [hab]
      generalize W0 * B1 = bot at nbot
      split <;> omega
    have bab : Bd 361 ab := by
      rw [hab, abs_is]
      exact Bd.of_le bbot (by rw [Int.natAbs_natCast]; exact Nat.le_refl _)
    rw [← hab] at er8
    obtain ⟨tp, htp⟩ : ∃ tp, tp = row.getD mm.toNat 0 * B1 - T1 := ⟨_, rfl⟩
    rw [← htp] at btp er8
    refine ⟨_, rfl, q l (pv.set 0 (.ref r)) (pts.set 0 (lowT (tp * sg) ab, lowB (tp * sg) ab)) _ (same_upd (s03.trans s38) lH) lH upd_same (PtV.upd el8 (paired_set (R := FrV H8) (x := V.ref r) (y := (lowT (tp * sg) ab, lowB (tp * sg) ab)) ⟨r, rfl, er8⟩ 0 (hpt3.same s38))) ⟨by rw [List.length_set]; omega, fun p hp => ?_⟩ (by rw [List.length_set]; exact lp)⟩
    rcases List.mem_or_eq_of_mem_set hp with hp | hp
    · exact PO.ok p hp
    · rw [hp]
      exact ⟨lowB_pos (by omega), bd_lowT ((btp.mul bsg).mono (by decide)), bd_lowB (bab.mono (by decide))⟩
  · refine iteB0 (dec_no c1) (iteF ?_)
    exact ⟨_, rfl, q l pv pts H2 s02 lH el hpt PO lp⟩
abbrev s_law : Stmt := top 32
theorem sc_law : FnScope ["_law_script", "_law_many", "_law_tree_here", "_law_lists", "_law_rule_here", "_law_rows_here", "_law_cell", "_law_point_here", "_law_handed", "_law_found", "_law_numbers"] ["_law_script"] (defScope s_law) := ⟨rfl, rfl, rfl, by decide +kernel, rfl, by decide +kernel, by decide +kernel⟩
theorem ok_law {k : Nat} {f : Addr} {fd : FuncData} {aStraight aStopped aParted : Addr} (TStraight : ClsF K mg "Straight" aStraight) (AStraight : AtStraight K aStraight) (TStopped : ClsF K mg "Stopped" aStopped) (AStopped : AtStopped K aStopped) (TParted : ClsF K mg "Parted" aParted) (AParted : AtParted K aParted) (F : Fun K "law" "law" s_law f fd) (B : Bl mg) (c_l_cell_at : Fn P w K mg base "_law_cell_at" ["_law_script", "_law_k"] k (spCell K)) (c_l_tree : Fn P w K mg base "_law_tree" ["_law_cells", "_law_many"] k (spTree K)) (c_l_rule : Fn P w K mg base "_law_rule" ["_law_tree_here", "_law_lists"] k (spRuleL aStraight aStopped aParted 9)) (c_l_rows : Fn P w K mg base "_law_rows" ["_law_tree_here"] k (spRowsT 9)) (c_l_point : Fn P w K mg base "_law_point" ["_law_cell", "_law_many", "_law_rows_here"] k spPointT) (c_Straight_steering : FnM P w K mg base aStraight "steering" ["self", "point"] k (spSteer aStraight aStopped aParted K isStr 9)) (c_Stopped_steering : FnM P w K mg base aStopped "steering" ["self", "point"] k (spSteer aStraight aStopped aParted K isStp 9)) (c_Parted_steering : FnM P w K mg base aParted "steering" ["self", "point"] k (spSteer aStraight aStopped aParted K isPrt 9)) (c_l_value : Fn P w K mg base "_law_value" ["_law_tree_here", "_law_point_here"] k (spValue K 9)) : FnOk P w K mg base CX0 (k + 1) f fd ["_law_script"] (spLaw K) := by
  refine F.ok sc_law (fun vs H Q E h => ?_) (fun cdv A outer s H vs Q E hr h => ?_)
  · obtain ⟨a, ns, rfl, _⟩ := h
    rfl
  obtain ⟨sa, ns, rfl, hS, h63, qq⟩ := h
  have hrm := hr
  refine ⟨_, (pss_cons (ps_set (i := 1) sc_law.nd rfl (Or.inl rfl) (pe_op op_add pe_int (pe_op op_modN (pe_callF c_l_cell_at hr rfl (pa_cons (L2.pv 0) (pa_cons pe_int pa_nil))) pe_int)))
    (pss_cons (ps_set (i := 2) sc_law.nd rfl (Or.inl rfl) (pe_callF c_l_tree hr rfl (pa_cons (pe_slice sl_list (L2.pv 0) (po_some pe_int) (po_some (pe_op op_add pe_int (pe_op op_modN (pe_op op_fdivW (pe_callF c_l_cell_at hr rfl (pa_cons (L2.pv 0) (pa_cons pe_int pa_nil))) pe_int) pe_int)))) (pa_cons (L2.pv 1) pa_nil))))
    (pss_cons (ps_set (i := 3) sc_law.nd rfl (Or.inl rfl) (pe_lst pa_nil))
    (pss_cons (ps_set (i := 4) sc_law.nd rfl (Or.inl rfl) (pe_callF c_l_rule hr rfl (pa_cons (L2.pv 2) (pa_cons (L2.pv 3) pa_nil))))
    (pss_cons (ps_set (i := 5) sc_law.nd rfl (Or.inl rfl) (pe_callF c_l_rows hr rfl (pa_cons (L2.pv 2) pa_nil)))
    (pss_cons (ps_for PassesOwn.never rfl (pi_list (pe_op op_cat (pe_slice sl_list (L2.pv 0) (po_some pe_int) (po_some pe_int)) (pe_lst (pa_cons (pe_callF c_l_cell_at hr rfl (pa_cons (L2.pv 0) (pa_cons pe_int pa_nil))) (pa_cons pe_int pa_nil))))) (pg_name (i := 6) sc_law.nd rfl (Or.inl rfl)) (pss_cons (ps_set (i := 7) sc_law.nd rfl (Or.inl rfl) (pe_callF c_l_point hr rfl (pa_cons (L2.pv 6) (pa_cons (L2.pv 1) (pa_cons (L2.pv 5) pa_nil)))))
      (pss_cons (ps_set (i := 8) sc_law.nd rfl (Or.inl rfl) (pe_callTy call_list_of rfl B.list_ boot_list_ (pa_cons (L2.pv 7) pa_nil)))
      (pss_cons (ps_set (i := 9) sc_law.nd rfl (Or.inl rfl) (pe_alt (pe_methF c_Straight_steering TStraight hrm (L2.pv 4) (pa_cons (L2.pv 8) pa_nil)) (pe_alt (pe_methF c_Stopped_steering TStopped hrm (L2.pv 4) (pa_cons (L2.pv 8) pa_nil)) (pe_methF c_Parted_steering TParted hrm (L2.pv 4) (pa_cons (L2.pv 8) pa_nil)))))
      (pss_cons (ps_if (PW.pt (pw_or (pt_not (pt_val (pe_callB call_isinst rfl B.isinstance_ boot_isinstance_ (pa_cons (L2.pv 9) (pa_cons (pe_bltn (v := .ty "tuple") (u := .type "tuple") rfl B.tuple_ boot_tuple_ rfl) pa_nil))))) (pw_or (pt_cmpR (op_neD hr.units) (L2.pv 9) (pe_callF c_l_value hr rfl (pa_cons (L2.pv 2) (pa_cons (L2.pv 7) pa_nil))) (nomark _)) (pw_or1 (pt_cmpR (op_neD hr.units) (L2.pv 8) (L2.pv 7) (nomark _)))))) (pss_one (ps_ret pe_bl)) pss_nil)
      (pss_cons (ps_if (PW.pt (pw_or (pt_val (pe_callB call_isinst rfl B.isinstance_ boot_isinstance_ (pa_cons (pe_ix ix_tup (L2.pv 9) pe_int (fun _ _ => rfl)) (pa_cons (pe_bltn (v := .ty "bool") (u := .type "bool") rfl B.bool_ boot_bool_ rfl) pa_nil)))) (pw_or1 (pt_val (pe_callB call_isinst rfl B.isinstance_ boot_isinstance_ (pa_cons (pe_ix ix_tup (L2.pv 9) pe_int (fun _ _ => rfl)) (pa_cons (pe_bltn (v := .ty "bool") (u := .type "bool") rfl B.bool_ boot_bool_ rfl) pa_nil))))))) (pss_one (ps_ret pe_bl)) pss_nil)
      (pss_one (ps_for PassesOwn.never rfl (pi_list (L2.pv 3)) (pg_name (i := 10) sc_law.nd rfl (Or.inl rfl)) (pss_one (ps_asg (pe_op op_add (pe_ix ix_list (L2.pv 10) pe_int (fun _ _ => rfl)) pe_int) (pg_sub (L2.pv 10) pe_int set_list)))))))))))
    (pss_one (ps_ret pe_bl)))))))), ?_⟩
  have b3 : Bd 4 (3 : Int) := Bd.lit
  have m0 := Int.fmod_nonneg_of_pos (cellZ ns 0) (show (0 : Int) < 3 by decide)
  have m2 := Int.fmod_lt_of_pos (cellZ ns 0) (show (0 : Int) < 3 by decide)
  have g0 := Int.fmod_nonneg_of_pos ((cellZ ns 0).fdiv 3) (show (0 : Int) < 9 by decide)
  refine ⟨_, rfl, sa, ns, 0, rfl, hS, (by decide), _, _, rfl, rfl, (show (3 : Int) ≠ 0 by decide), _, _, rfl, rfl, ?_⟩
  refine ⟨_, rfl, _, rfl, _, rfl, sa, ns, 0, rfl, hS, (by decide), _, _, rfl, rfl, ⟨by decide, b3.mono (by decide)⟩, _, _, rfl, rfl, (show (9 : Int) ≠ 0 by decide), _, _, rfl, rfl, _, rfl, sa, _, rfl, hS, fun p hp => ?_⟩
  obtain ⟨cs, ecs, _⟩ := cut_any ns 1 (2 + ((cellZ ns 0).fdiv 3).fmod 9).toNat
  have ecs' : cutV (ns.map V.int) (some 1) (some (2 + ((cellZ ns 0).fdiv 3).fmod 9)) = cs.map V.int := by
    rw [show (((2 + ((cellZ ns 0).fdiv 3).fmod 9).toNat : Nat) : Int) = (2 + ((cellZ ns 0).fdiv 3).fmod 9) by omega] at ecs
    exact ecs
  have z0 := same_new hp (HO.lst (cutV (ns.map V.int) (some 1) (some (2 + ((cellZ ns 0).fdiv 3).fmod 9))))
  refine ⟨_, rfl, p, cs, (1 + (cellZ ns 0).fmod 3), rfl, SqL.of (upd_same.trans (congrArg (fun z => some (HO.lst z)) ecs')), (by omega), (by omega), fun v t H1 s1 tv tok dp lv => ?_⟩
  have s01 := z0.trans s1
  refine ⟨(by show 0 ≤ sizeLine; decide), fun la hla => ?_⟩
  have z2 := same_new hla (HO.lst [])
  have ela2 := upd_same (H := H1) (a := la) (o := HO.lst [])
  have tv2 : TreeV (hide [la] (upd H1 la (HO.lst []))) v t := tv.same (hide_fresh (fun x hx => by rw [List.mem_singleton.mp hx]; exact hla) z2)
  obtain ⟨H2, hH2⟩ : ∃ H2, H2 = upd H1 la (HO.lst []) := ⟨_, rfl⟩
  rw [← hH2] at z2 ela2 tv2 ⊢
  refine ⟨_, rfl, _, rfl, v, la, [], (1 + (cellZ ns 0).fmod 3).toNat, t, rfl, dp, tv2, tok, (by omega), (by omega), ela2, (by show 0 + t.leaves ≤ 100; omega), fun u as H3 of3 la3 fr3 nu3 R3 ln3 => ?_⟩
  have S13 : Same H1 (hide as H3) := fun b o e => by
    have e2 := z2 _ _ e
    rw [hide_at (fun z => by rw [fr3 b z] at e2; cases e2)]
    exact of3 _ _ e2 (fun z => by rw [List.mem_singleton.mp z, hla] at e; cases e)
  have tv3 := tv.same S13
  have nla : la ∉ as := fun z => by
    have := fr3 la z
    rw [ela2] at this
    cases this
  have nas : ∀ {c : Addr}, H3 c = none → c ∉ as := fun hc z => by
    obtain ⟨_, e, _⟩ := nu3 _ z
    rw [hc] at e
    cases e
  refine ⟨_, rfl, v, t, rfl, dp, tv3.same hide_sub, (by omega), fun ra rv H4 s4 rn era hrv => ?_⟩
  have nu4 : ∀ a ∈ as, NumsA H4 a := fun a ha => let ⟨ms, e, l⟩ := nu3 a ha; ⟨ms, s4 _ _ e, l⟩
  have S34 : Same (hide as H3) (hide as H4) := hide_same s4
  have S14 := S13.trans S34
  have s14 := S14.trans hide_sub
  have hS4 := (s01.trans s14).seq hS
  obtain ⟨zs, ezs, lzs⟩ := cut_any ns 10 18
  refine ⟨_, rfl, _, rfl, _, rfl, sa, _, rfl, hS4, fun p5 hp5 => ?_⟩
  have z5 := same_new hp5 (HO.lst (cutV (ns.map V.int) (some 10) (some 18)))
  have e5 : upd H4 p5 (HO.lst (cutV (ns.map V.int) (some 10) (some 18))) p5 = some (.lst (zs.map V.int)) := upd_same.trans (congrArg (fun z => some (HO.lst z)) ezs)
  obtain ⟨H5, hH5⟩ : ∃ H5, H5 = upd H4 p5 (HO.lst (cutV (ns.map V.int) (some 10) (some 18))) := ⟨_, rfl⟩
  rw [← hH5] at z5 e5 ⊢
  refine ⟨_, rfl, sa, ns, 0, rfl, z5.seq hS4, (by decide), (by show 2 ≤ sizeLine; decide), fun p6 hp6 => ?_⟩
  have z6 := same_new hp6 (HO.lst [V.int (cellZ ns 0), V.int 1])
  refine ⟨p5, p6, _, _, rfl, rfl, z6 _ _ e5, upd_same, (by rw [List.length_map]; exact Nat.le_of_lt (small1000 (by show zs.length + 2 ≤ 1000; omega))), fun cl hcl => ?_⟩
  have ez : zs.map V.int ++ [V.int (cellZ ns 0), V.int 1] = (zs ++ [cellZ ns 0, 1]).map V.int := by rw [List.map_append]; rfl
  rw [ez]
  have z7 := same_new hcl (HO.lst ((zs ++ [cellZ ns 0, 1]).map V.int))
  have s47 := z5.trans (z6.trans z7)
  have clA : cl ∉ as := nas (s4.free (z5.free (z6.free hcl)))
  have raA : ra ∉ as := nas rn
  have ecl := upd_same (H := upd H5 p6 (HO.lst [V.int (cellZ ns 0), V.int 1])) (a := cl) (o := HO.lst ((zs ++ [cellZ ns 0, 1]).map V.int))
  obtain ⟨H7, hH7⟩ : ∃ H7, H7 = upd (upd H5 p6 (HO.lst [V.int (cellZ ns 0), V.int 1])) cl (HO.lst ((zs ++ [cellZ ns 0, 1]).map V.int)) := ⟨_, rfl⟩
  rw [← hH7] at z7 s47 ecl ⊢
  have nu7 : ∀ a ∈ as, NumsA H7 a := fun a ha => let ⟨ms, e, l⟩ := nu4 a ha; ⟨ms, s47 _ _ e, l⟩
  have S47 : Same (hide as H4) (hide as H7) := hide_same s47
  have tv7 := tv3.same (S34.trans S47)
  have R7 : RuleV aStraight aStopped aParted (hide as H7) u t := R3.same (fun b o h => by
    have n := hide_mem h
    rw [hide_at n] at h
    have h3 := (mns_ex h).2
    rw [hide_at n]
    exact s47 _ _ (s4 _ _ h3))
  have hrv7 := WaysV.same S47 (ways_hideN nu4 hrv)
  have era7 := s47 _ _ era
  have RO := tok.rows
  have rl := t.rows_len
  have ela7 : H7 la = some (.lst (as.map V.ref)) := s47 _ _ (s4 _ _ la3)
  refine ⟨cl, rfl, ⟨_, SqL.of ecl⟩, for_list (K := K) (a := cl) (xs := (zs ++ [cellZ ns 0, 1]).map V.int)
    (fun i σ H' => ∃ o6 o7 o8 o9 o10, σ = [some (.ref sa), some (.int (1 + (cellZ ns 0).fmod 3)), some v, some (.ref la), some u, some (.ref ra), o6, o7, o8, o9, o10] ∧ off as H7 H' ∧ ∀ a ∈ as, NumsA H' a)
    ⟨none, none, none, none, none, rfl, off.refl _ _, nu7⟩ (fun i σ H' _ ⟨_, _, _, _, _, _, of, _⟩ => SqL.of (of _ _ ecl clA)) ?_ ?_⟩
  · rintro i x σ H8 hi ⟨o6, o7, o8, o9, o10, rfl, of8, nu8⟩
    obtain ⟨z, hz, rfl⟩ := ints_get hi
    have S78 := hide_off of8
    have S78' := S78.trans hide_sub
    refine ⟨_, rfl, _, rfl, _, rfl, z, (1 + (cellZ ns 0).fmod 3), ra, rv, t.rows, rfl, (by omega), (by omega), of8 _ _ era7 raA, WaysV.same S78' hrv7, RO, (by omega), fun l pv pts H9 s9 nl el hpt PO lp => ?_⟩
    have n3 : pts.length ≤ 3 := by omega
    have TO : TrOk pts.length t := by rw [lp]; exact tok
    have lA : l ∉ as := fun z => by
      obtain ⟨_, e, _⟩ := nu8 _ z
      rw [nl] at e
      cases e
    refine ⟨_, rfl, l, pv, rfl, .inl (SqL.of el), fun hd hhd => ?_⟩
    have zA := same_new hhd (HO.lst pv)
    have ehd := upd_same (H := H9) (a := hd) (o := HO.lst pv)
    obtain ⟨HA, hHA⟩ : ∃ HA, HA = upd H9 hd (HO.lst pv) := ⟨_, rfl⟩
    rw [← hHA] at zA ehd ⊢
    have s8A := s9.trans zA
    refine steer_alt (fun R h => ⟨_, rfl, h⟩) (fun R h => ⟨_, rfl, h⟩) (R7.same (S78'.trans s8A)) dp TO (SqL.of ehd) (hpt.same zA) PO n3 (fun r1 HB sB eB => ?_)
    have sAll := s8A.trans sB
    refine ⟨_, rfl, _, _, _, _, rfl, .tup eB, kit_tuple_tuple K, _, rfl, iteF ?_⟩
    refine ⟨_, rfl, _, rfl, _, rfl, v, l, pv, pts, t, rfl, dp, tv7.same (S78'.trans sAll), TO, SqL.of ((zA.trans sB) _ _ el), hpt.same (zA.trans sB), PO, n3, fun r2 HC sC eC => ?_⟩
    refine ⟨.tuple [.int (valM pts t).1, .int (valM pts t).2], .tup (SqT.of (sC _ _ eB)) (.cons (.int _) (.cons (.int _) .nil)), .tup (SqT.of eC) (.cons (.int _) (.cons (.int _) .nil)), rfl, (by show max 0 (max 0 0) + 1 ≤ 60; decide), _, rfl, iteF ?_⟩
    have sAC := sB.trans sC
    have s9C := zA.trans sAC
    refine ⟨_, rfl, _, rfl, .list (pts.map puT), .lst (SqL.of (sAC _ _ ehd)) (dp_pt (hpt.same s9C)), .lst (SqL.of (s9C _ _ el)) (dp_pt (hpt.same s9C)), lay_pt pts, dep_pts pts, _, rfl, iteF ?_⟩
    refine ⟨_, rfl, r1, _, 0, _, rfl, rfl, SqT.of (sC _ _ eB), at0, _, _, _, _, rfl, .int _, kit_int_bool _, _, rfl, iteF ?_⟩
    refine ⟨_, rfl, r1, _, 1, _, rfl, rfl, SqT.of (sC _ _ eB), at1, _, _, _, _, rfl, .int _, kit_int_bool _, _, rfl, iteF ?_⟩
    have s8C := s9.trans s9C
    have nuC : ∀ a ∈ as, NumsA HC a := fun a ha => let ⟨ms, e, l⟩ := nu8 a ha; ⟨ms, s8C _ _ e, l⟩
    have ofC : off as H7 HC := of8.same s8C
    have elaC := ofC _ _ ela7 nla
    refine ⟨_, rfl, la, rfl, ⟨_, SqL.of elaC⟩, for_list (K := K) (a := la) (xs := as.map V.ref)
      (fun j σ H' => ∃ o10, σ = [some (.ref sa), some (.int (1 + (cellZ ns 0).fmod 3)), some v, some (.ref la), some u, some (.ref ra), some (.int z), some (.ref l), some (.ref hd), some (.ref r1), o10] ∧ off as H7 H' ∧ ∀ a ∈ as, NumsA H' a)
      ⟨_, rfl, ofC, nuC⟩ (fun j σ H' _ ⟨_, _, of, _⟩ => SqL.of (of _ _ ela7 nla)) ?_ ?_⟩
    · rintro j y σ HD hj ⟨o, rfl, ofD, nuD⟩
      obtain ⟨b, hb, rfl⟩ := List.mem_map.mp (List.mem_of_getElem? hj)
      obtain ⟨ms, eb, l1⟩ := nuD b hb
      have ab : atI (ms.map V.int) (0 : Int) = some (.int (ms[0]'(by omega))) := at_ints (j := 0) _
      refine ⟨_, rfl, b, _, 0, _, rfl, rfl, SqL.of eb, ab, _, _, rfl, rfl, _, rfl, b, _, _, 0, rfl, rfl, eb, (show ixN _ ((0 : Nat) : Int) = some 0 from ixN_nat (by rw [List.length_map]; omega)), ?_⟩
      have es : (ms.map V.int).set 0 (.int ((ms[0]'(by omega)) + 1)) = (ms.set 0 ((ms[0]'(by omega)) + 1)).map V.int := by rw [List.map_set]
      rw [es]
      exact ⟨_, rfl, ofD.put _ hb, fun a ha => NumsA.put (by rw [List.length_set]; exact l1) (nuD a ha)⟩
    rintro σ HE ⟨o, rfl, ofE, nuE⟩
    exact ⟨_, _, _, _, _, rfl, ofE, nuE⟩
  rintro σ H8 ⟨o6, o7, o8, o9, o10, rfl, _, _⟩
  exact qq _
end

theorem all_mk {l : PySem.W.OpenLaw} {w : World} {K : PySem.W.Frag} {h : Heap} {mg : Str → Option Value} {fa f0 f1 f2 f3 f4 f5 f6 f7 f8 f9 f10 f11 f12 f13 f14 f15 f16 f17 f18 f19 f20 f21 f22 f23 f24 f25 f26 : Addr} (X : K.In h) (G : h.Ns mainGlobals mg) (hfa : mg "law" = some (.ref fa))
    {od0 an0 od1 an1 od2 an2 od3 an3 od4 an4 od5 an5 od6 an6 od7 an7 od8 an8 od9 an9 od10 an10 od11 an11 od12 an12 od13 an13 od14 an14 od15 an15 od16 an16 od17 an17 od18 an18 od19 an19 od20 an20 od21 an21 od22 an22 od23 an23 od24 an24 od25 an25 od26 an26 : Option Addr} {sl0 sl1 sl2 sl3 sl4 sl5 sl6 sl7 sl8 sl9 sl10 sl11 sl12 sl13 sl14 sl15 sl16 sl17 sl18 sl19 sl20 sl21 sl22 sl23 sl24 sl25 sl26 : Array (Option Value)} {oc0 kV0 dc0 pm0 cd0 ct0 oc1 kV1 dc1 pm1 cd1 ct1 oc2 kV2 dc2 pm2 cd2 ct2 oc3 kV3 dc3 pm3 cd3 ct3 oc4 kV4 dc4 pm4 cd4 ct4 oc5 kV5 dc5 pm5 cd5 ct5 oc6 kV6 dc6 pm6 cd6 ct6 oc7 kV7 dc7 pm7 cd7 ct7 oc8 kV8 dc8 pm8 cd8 ct8 oc9 kV9 dc9 pm9 cd9 ct9 oc10 kV10 dc10 pm10 cd10 ct10 oc11 kV11 dc11 pm11 cd11 ct11 oc12 kV12 dc12 pm12 cd12 ct12 oc13 kV13 dc13 pm13 cd13 ct13 oc14 kV14 dc14 pm14 cd14 ct14 oc15 kV15 dc15 pm15 cd15 ct15 oc16 kV16 dc16 pm16 cd16 ct16 oc17 kV17 dc17 pm17 cd17 ct17 oc18 kV18 dc18 pm18 cd18 ct18 oc19 kV19 dc19 pm19 cd19 ct19 oc20 kV20 dc20 pm20 cd20 ct20 oc21 kV21 dc21 pm21 cd21 ct21 oc22 kV22 dc22 pm22 cd22 ct22 oc23 kV23 dc23 pm23 cd23 ct23 oc24 kV24 dc24 pm24 cd24 ct24 oc25 kV25 dc25 pm25 cd25 ct25 oc26 kV26 dc26 pm26 cd26 ct26 : Value}
    {aStraight aStopped aParted : Addr}
    (nm_Straight : PySem.W.nsIn K mainGlobals "Straight" = some (some (.ref aStraight)))
    (pg_Straight : PySem.W.plainGet K aStraight Str.empty = true)
    (hd_Straight : PySem.W.hasDictIn K aStraight = true)
    (po_Straight : PySem.W.plainOver K aStraight = true)
    (sa_Straight : PySem.W.findIn K (.ref aStraight) "__setattr__" = some (some (.builtin "object.__setattr__")))
    (mk_Straight : PySem.W.makesIn K aStraight = true)
    (kc_Straight : PySem.W.keepIn K (.ref aStraight) = true)
    (ha_Straight : PySem.W.findIn K (.ref aStraight) "__class__" = some (some (.builtin "object.__class__")))
    (hn_Straight : PySem.W.specialIn K (.builtin "object.__class__") "__get__" = some (some (.builtin "getset_descriptor.__get__")))
    (tk_Straight : PySem.W.takesIn K (.builtin "object.__class__") = some true)
    (hm_Straight : PySem.W.mroIn K aStraight (.type "object") = some true)
    (n_numbers_Straight : PySem.W.findIn K (.ref aStraight) "numbers" = some none)
    (n_add_Straight : PySem.W.findIn K (.ref aStraight) "add" = some none)
    (n_divisor_Straight : PySem.W.findIn K (.ref aStraight) "divisor" = some none)
    (nm_Stopped : PySem.W.nsIn K mainGlobals "Stopped" = some (some (.ref aStopped)))
    (pg_Stopped : PySem.W.plainGet K aStopped Str.empty = true)
    (hd_Stopped : PySem.W.hasDictIn K aStopped = true)
    (po_Stopped : PySem.W.plainOver K aStopped = true)
    (sa_Stopped : PySem.W.findIn K (.ref aStopped) "__setattr__" = some (some (.builtin "object.__setattr__")))
    (mk_Stopped : PySem.W.makesIn K aStopped = true)
    (kc_Stopped : PySem.W.keepIn K (.ref aStopped) = true)
    (ha_Stopped : PySem.W.findIn K (.ref aStopped) "__class__" = some (some (.builtin "object.__class__")))
    (hn_Stopped : PySem.W.specialIn K (.builtin "object.__class__") "__get__" = some (some (.builtin "getset_descriptor.__get__")))
    (tk_Stopped : PySem.W.takesIn K (.builtin "object.__class__") = some true)
    (hm_Stopped : PySem.W.mroIn K aStopped (.type "object") = some true)
    (n_rule_Stopped : PySem.W.findIn K (.ref aStopped) "rule" = some none)
    (n_low_Stopped : PySem.W.findIn K (.ref aStopped) "low" = some none)
    (n_high_Stopped : PySem.W.findIn K (.ref aStopped) "high" = some none)
    (nm_Parted : PySem.W.nsIn K mainGlobals "Parted" = some (some (.ref aParted)))
    (pg_Parted : PySem.W.plainGet K aParted Str.empty = true)
    (hd_Parted : PySem.W.hasDictIn K aParted = true)
    (po_Parted : PySem.W.plainOver K aParted = true)
    (sa_Parted : PySem.W.findIn K (.ref aParted) "__setattr__" = some (some (.builtin "object.__setattr__")))
    (mk_Parted : PySem.W.makesIn K aParted = true)
    (kc_Parted : PySem.W.keepIn K (.ref aParted) = true)
    (ha_Parted : PySem.W.findIn K (.ref aParted) "__class__" = some (some (.builtin "object.__class__")))
    (hn_Parted : PySem.W.specialIn K (.builtin "object.__class__") "__get__" = some (some (.builtin "getset_descriptor.__get__")))
    (tk_Parted : PySem.W.takesIn K (.builtin "object.__class__") = some true)
    (hm_Parted : PySem.W.mroIn K aParted (.type "object") = some true)
    (n_row_Parted : PySem.W.findIn K (.ref aParted) "row" = some none)
    (n_rule_Parted : PySem.W.findIn K (.ref aParted) "rule" = some none)
    (n_other_Parted : PySem.W.findIn K (.ref aParted) "other" = some none)
    {T2 : Addr} {ocT2 : Value} {odT2 : Option Addr} {nT2 : Nat} {slT2 : Array (Option Value)} {tk2 : Tok}
    {T4 : Addr} {ocT4 : Value} {odT4 : Option Addr} {nT4 : Nat} {slT4 : Array (Option Value)} {tk4 : Tok}
    {T8 : Addr} {ocT8 : Value} {odT8 : Option Addr} {nT8 : Nat} {slT8 : Array (Option Value)} {tk8 : Tok}
    (a0 : PySem.W.nsIn K mainGlobals "is_whole" = some (some (.ref f0))) (l0 : K.lookup f0 = some ⟨oc0, od0, .func (PySem.W.fnOf "is_whole" "is_whole" (defArgs s_is_whole) (defBody s_is_whole) (defScope s_is_whole) .none kV0 dc0 pm0 an0 cd0 ct0), sl0⟩) (c0 : PySem.W.codeIn K cd0 "is_whole" = true) (k0 : PySem.W.keepIn K (.ref f0) = true)
    (a1 : PySem.W.nsIn K mainGlobals "common_divisor" = some (some (.ref f1))) (l1 : K.lookup f1 = some ⟨oc1, od1, .func (PySem.W.fnOf "common_divisor" "common_divisor" (defArgs s_common_divisor) (defBody s_common_divisor) (defScope s_common_divisor) .none kV1 dc1 pm1 an1 cd1 ct1), sl1⟩) (c1 : PySem.W.codeIn K cd1 "common_divisor" = true) (k1 : PySem.W.keepIn K (.ref f1) = true)
    (a2 : PySem.W.nsIn K mainGlobals "fraction" = some (some (.ref f2))) (l2 : K.lookup f2 = some ⟨oc2, od2, .func (PySem.W.fnOf "fraction" "fraction" (defArgs s_fraction) (defBody s_fraction) (defScope s_fraction) (.ref T2) kV2 dc2 pm2 an2 cd2 ct2), sl2⟩) (c2 : PySem.W.codeIn K cd2 "fraction" = true) (k2 : PySem.W.keepIn K (.ref f2) = true)
    (t2 : K.lookup T2 = some ⟨ocT2, odT2, .seq #[.int 1 tk2] nT2, slT2⟩)
    (a3 : PySem.W.nsIn K mainGlobals "under" = some (some (.ref f3))) (l3 : K.lookup f3 = some ⟨oc3, od3, .func (PySem.W.fnOf "under" "under" (defArgs s_under) (defBody s_under) (defScope s_under) .none kV3 dc3 pm3 an3 cd3 ct3), sl3⟩) (c3 : PySem.W.codeIn K cd3 "under" = true) (k3 : PySem.W.keepIn K (.ref f3) = true)
    (a4 : PySem.W.nsIn K mainGlobals "copied" = some (some (.ref f4))) (l4 : K.lookup f4 = some ⟨oc4, od4, .func (PySem.W.fnOf "copied" "copied" (defArgs s_copied) (defBody s_copied) (defScope s_copied) (.ref T4) kV4 dc4 pm4 an4 cd4 ct4), sl4⟩) (c4 : PySem.W.codeIn K cd4 "copied" = true) (k4 : PySem.W.keepIn K (.ref f4) = true)
    (t4 : K.lookup T4 = some ⟨ocT4, odT4, .seq #[.int 5 tk4] nT4, slT4⟩)
    (a5 : PySem.W.nsIn K mainGlobals "raw_sum" = some (some (.ref f5))) (l5 : K.lookup f5 = some ⟨oc5, od5, .func (PySem.W.fnOf "raw_sum" "raw_sum" (defArgs s_raw_sum) (defBody s_raw_sum) (defScope s_raw_sum) .none kV5 dc5 pm5 an5 cd5 ct5), sl5⟩) (c5 : PySem.W.codeIn K cd5 "raw_sum" = true) (k5 : PySem.W.keepIn K (.ref f5) = true)
    (a6 : PySem.W.nsIn K mainGlobals "divided_sum" = some (some (.ref f6))) (l6 : K.lookup f6 = some ⟨oc6, od6, .func (PySem.W.fnOf "divided_sum" "divided_sum" (defArgs s_divided_sum) (defBody s_divided_sum) (defScope s_divided_sum) .none kV6 dc6 pm6 an6 cd6 ct6), sl6⟩) (c6 : PySem.W.codeIn K cd6 "divided_sum" = true) (k6 : PySem.W.keepIn K (.ref f6) = true)
    (a7 : PySem.W.nsIn K mainGlobals "holds" = some (some (.ref f7))) (l7 : K.lookup f7 = some ⟨oc7, od7, .func (PySem.W.fnOf "holds" "holds" (defArgs s_holds) (defBody s_holds) (defScope s_holds) .none kV7 dc7 pm7 an7 cd7 ct7), sl7⟩) (c7 : PySem.W.codeIn K cd7 "holds" = true) (k7 : PySem.W.keepIn K (.ref f7) = true)
    (a8 : PySem.W.findIn K (.ref aStraight) "__init__" = some (some (.ref f8))) (i8 : PySem.W.isFn K (.ref f8) = true) (l8 : K.lookup f8 = some ⟨oc8, od8, .func (PySem.W.fnOf "__init__" "Straight.__init__" (defArgs s_Straight___init__) (defBody s_Straight___init__) (defScope s_Straight___init__) (.ref T8) kV8 dc8 pm8 an8 cd8 ct8), sl8⟩) (c8 : PySem.W.codeIn K cd8 "Straight.__init__" = true) (k8 : PySem.W.keepIn K (.ref f8) = true)
    (t8 : K.lookup T8 = some ⟨ocT8, odT8, .seq #[.int 1 tk8] nT8, slT8⟩)
    (a9 : PySem.W.findIn K (.ref aStopped) "__init__" = some (some (.ref f9))) (i9 : PySem.W.isFn K (.ref f9) = true) (l9 : K.lookup f9 = some ⟨oc9, od9, .func (PySem.W.fnOf "__init__" "Stopped.__init__" (defArgs s_Stopped___init__) (defBody s_Stopped___init__) (defScope s_Stopped___init__) .none kV9 dc9 pm9 an9 cd9 ct9), sl9⟩) (c9 : PySem.W.codeIn K cd9 "Stopped.__init__" = true) (k9 : PySem.W.keepIn K (.ref f9) = true)
    (a10 : PySem.W.findIn K (.ref aParted) "__init__" = some (some (.ref f10))) (i10 : PySem.W.isFn K (.ref f10) = true) (l10 : K.lookup f10 = some ⟨oc10, od10, .func (PySem.W.fnOf "__init__" "Parted.__init__" (defArgs s_Parted___init__) (defBody s_Parted___init__) (defScope s_Parted___init__) .none kV10 dc10 pm10 an10 cd10 ct10), sl10⟩) (c10 : PySem.W.codeIn K cd10 "Parted.__init__" = true) (k10 : PySem.W.keepIn K (.ref f10) = true)
    (a11 : PySem.W.findIn K (.ref aStraight) "steering" = some (some (.ref f11))) (i11 : PySem.W.isFn K (.ref f11) = true) (l11 : K.lookup f11 = some ⟨oc11, od11, .func (PySem.W.fnOf "steering" "Straight.steering" (defArgs s_Straight_steering) (defBody s_Straight_steering) (defScope s_Straight_steering) .none kV11 dc11 pm11 an11 cd11 ct11), sl11⟩) (c11 : PySem.W.codeIn K cd11 "Straight.steering" = true) (k11 : PySem.W.keepIn K (.ref f11) = true)
    (a12 : PySem.W.findIn K (.ref aStopped) "steering" = some (some (.ref f12))) (i12 : PySem.W.isFn K (.ref f12) = true) (l12 : K.lookup f12 = some ⟨oc12, od12, .func (PySem.W.fnOf "steering" "Stopped.steering" (defArgs s_Stopped_steering) (defBody s_Stopped_steering) (defScope s_Stopped_steering) .none kV12 dc12 pm12 an12 cd12 ct12), sl12⟩) (c12 : PySem.W.codeIn K cd12 "Stopped.steering" = true) (k12 : PySem.W.keepIn K (.ref f12) = true)
    (a13 : PySem.W.findIn K (.ref aParted) "steering" = some (some (.ref f13))) (i13 : PySem.W.isFn K (.ref f13) = true) (l13 : K.lookup f13 = some ⟨oc13, od13, .func (PySem.W.fnOf "steering" "Parted.steering" (defArgs s_Parted_steering) (defBody s_Parted_steering) (defScope s_Parted_steering) .none kV13 dc13 pm13 an13 cd13 ct13), sl13⟩) (c13 : PySem.W.codeIn K cd13 "Parted.steering" = true) (k13 : PySem.W.keepIn K (.ref f13) = true)
    (a14 : PySem.W.nsIn K mainGlobals "_law_cell_at" = some (some (.ref f14))) (l14 : K.lookup f14 = some ⟨oc14, od14, .func (PySem.W.fnOf "_law_cell_at" "_law_cell_at" (defArgs s_l_cell_at) (defBody s_l_cell_at) (defScope s_l_cell_at) .none kV14 dc14 pm14 an14 cd14 ct14), sl14⟩) (c14 : PySem.W.codeIn K cd14 "_law_cell_at" = true) (k14 : PySem.W.keepIn K (.ref f14) = true)
    (a15 : PySem.W.nsIn K mainGlobals "_law_stream" = some (some (.ref f15))) (l15 : K.lookup f15 = some ⟨oc15, od15, .func (PySem.W.fnOf "_law_stream" "_law_stream" (defArgs s_l_stream) (defBody s_l_stream) (defScope s_l_stream) .none kV15 dc15 pm15 an15 cd15 ct15), sl15⟩) (c15 : PySem.W.codeIn K cd15 "_law_stream" = true) (k15 : PySem.W.keepIn K (.ref f15) = true)
    (a16 : PySem.W.nsIn K mainGlobals "_law_number" = some (some (.ref f16))) (l16 : K.lookup f16 = some ⟨oc16, od16, .func (PySem.W.fnOf "_law_number" "_law_number" (defArgs s_l_number) (defBody s_l_number) (defScope s_l_number) .none kV16 dc16 pm16 an16 cd16 ct16), sl16⟩) (c16 : PySem.W.codeIn K cd16 "_law_number" = true) (k16 : PySem.W.keepIn K (.ref f16) = true)
    (a17 : PySem.W.nsIn K mainGlobals "_law_leaf" = some (some (.ref f17))) (l17 : K.lookup f17 = some ⟨oc17, od17, .func (PySem.W.fnOf "_law_leaf" "_law_leaf" (defArgs s_l_leaf) (defBody s_l_leaf) (defScope s_l_leaf) .none kV17 dc17 pm17 an17 cd17 ct17), sl17⟩) (c17 : PySem.W.codeIn K cd17 "_law_leaf" = true) (k17 : PySem.W.keepIn K (.ref f17) = true)
    (a18 : PySem.W.nsIn K mainGlobals "_law_tree" = some (some (.ref f18))) (l18 : K.lookup f18 = some ⟨oc18, od18, .func (PySem.W.fnOf "_law_tree" "_law_tree" (defArgs s_l_tree) (defBody s_l_tree) (defScope s_l_tree) .none kV18 dc18 pm18 an18 cd18 ct18), sl18⟩) (c18 : PySem.W.codeIn K cd18 "_law_tree" = true) (k18 : PySem.W.keepIn K (.ref f18) = true)
    (a19 : PySem.W.nsIn K mainGlobals "_law_rule" = some (some (.ref f19))) (l19 : K.lookup f19 = some ⟨oc19, od19, .func (PySem.W.fnOf "_law_rule" "_law_rule" (defArgs s_l_rule) (defBody s_l_rule) (defScope s_l_rule) .none kV19 dc19 pm19 an19 cd19 ct19), sl19⟩) (c19 : PySem.W.codeIn K cd19 "_law_rule" = true) (k19 : PySem.W.keepIn K (.ref f19) = true)
    (a20 : PySem.W.nsIn K mainGlobals "_law_divisor" = some (some (.ref f20))) (l20 : K.lookup f20 = some ⟨oc20, od20, .func (PySem.W.fnOf "_law_divisor" "_law_divisor" (defArgs s_l_divisor) (defBody s_l_divisor) (defScope s_l_divisor) .none kV20 dc20 pm20 an20 cd20 ct20), sl20⟩) (c20 : PySem.W.codeIn K cd20 "_law_divisor" = true) (k20 : PySem.W.keepIn K (.ref f20) = true)
    (a21 : PySem.W.nsIn K mainGlobals "_law_fraction" = some (some (.ref f21))) (l21 : K.lookup f21 = some ⟨oc21, od21, .func (PySem.W.fnOf "_law_fraction" "_law_fraction" (defArgs s_l_fraction) (defBody s_l_fraction) (defScope s_l_fraction) .none kV21 dc21 pm21 an21 cd21 ct21), sl21⟩) (c21 : PySem.W.codeIn K cd21 "_law_fraction" = true) (k21 : PySem.W.keepIn K (.ref f21) = true)
    (a22 : PySem.W.nsIn K mainGlobals "_law_sum" = some (some (.ref f22))) (l22 : K.lookup f22 = some ⟨oc22, od22, .func (PySem.W.fnOf "_law_sum" "_law_sum" (defArgs s_l_sum) (defBody s_l_sum) (defScope s_l_sum) .none kV22 dc22 pm22 an22 cd22 ct22), sl22⟩) (c22 : PySem.W.codeIn K cd22 "_law_sum" = true) (k22 : PySem.W.keepIn K (.ref f22) = true)
    (a23 : PySem.W.nsIn K mainGlobals "_law_value" = some (some (.ref f23))) (l23 : K.lookup f23 = some ⟨oc23, od23, .func (PySem.W.fnOf "_law_value" "_law_value" (defArgs s_l_value) (defBody s_l_value) (defScope s_l_value) .none kV23 dc23 pm23 an23 cd23 ct23), sl23⟩) (c23 : PySem.W.codeIn K cd23 "_law_value" = true) (k23 : PySem.W.keepIn K (.ref f23) = true)
    (a24 : PySem.W.nsIn K mainGlobals "_law_rows" = some (some (.ref f24))) (l24 : K.lookup f24 = some ⟨oc24, od24, .func (PySem.W.fnOf "_law_rows" "_law_rows" (defArgs s_l_rows) (defBody s_l_rows) (defScope s_l_rows) .none kV24 dc24 pm24 an24 cd24 ct24), sl24⟩) (c24 : PySem.W.codeIn K cd24 "_law_rows" = true) (k24 : PySem.W.keepIn K (.ref f24) = true)
    (a25 : PySem.W.nsIn K mainGlobals "_law_point" = some (some (.ref f25))) (l25 : K.lookup f25 = some ⟨oc25, od25, .func (PySem.W.fnOf "_law_point" "_law_point" (defArgs s_l_point) (defBody s_l_point) (defScope s_l_point) .none kV25 dc25 pm25 an25 cd25 ct25), sl25⟩) (c25 : PySem.W.codeIn K cd25 "_law_point" = true) (k25 : PySem.W.keepIn K (.ref f25) = true)
    (a26 : PySem.W.nsIn K mainGlobals "law" = some (some (.ref f26))) (l26 : K.lookup f26 = some ⟨oc26, od26, .func (PySem.W.fnOf "law" "law" (defArgs s_law) (defBody s_law) (defScope s_law) .none kV26 dc26 pm26 an26 cd26 ct26), sl26⟩) (c26 : PySem.W.codeIn K cd26 "law" = true) (k26 : PySem.W.keepIn K (.ref f26) = true)
    (z0 : PySem.W.nsIn K mainGlobals "isinstance" = some none)
    (z1 : PySem.W.nsIn K mainGlobals "int" = some none)
    (z2 : PySem.W.nsIn K mainGlobals "bool" = some none)
    (z3 : PySem.W.nsIn K mainGlobals "tuple" = some none)
    (z4 : PySem.W.nsIn K mainGlobals "len" = some none)
    (z5 : PySem.W.nsIn K mainGlobals "abs" = some none)
    (z6 : PySem.W.nsIn K mainGlobals "list" = some none)
    (z7 : PySem.W.nsIn K mainGlobals "range" = some none)
    (z8 : PySem.W.nsIn K mainGlobals "zip" = some none)
    : ∃ fd : FuncData, (∀ (s : Shared) (v : Value), BindsTo s fd ⟨[v], []⟩ [("_law_script", v)]) ∧ ∀ base : Heap, K.In base → base.Ns mainGlobals mg → FnOk l.prog w K mg base CX0 15 fa fd ["_law_script"] (spLaw K) := by
  have e := hfa.symm.trans (PySem.W.mg_of X G a26)
  cases e
  have B : Bl mg := ⟨PySem.W.mg_none_of X G z0, PySem.W.mg_none_of X G z1, PySem.W.mg_none_of X G z2, PySem.W.mg_none_of X G z3, PySem.W.mg_none_of X G z4, PySem.W.mg_none_of X G z5, PySem.W.mg_none_of X G z6, PySem.W.mg_none_of X G z7, PySem.W.mg_none_of X G z8⟩
  have TStraight : ClsF K mg "Straight" aStraight := ⟨⟨pg_Straight, hd_Straight, po_Straight, sa_Straight⟩, PySem.W.mg_of X G nm_Straight, ha_Straight, hn_Straight, tk_Straight, hm_Straight⟩
  have AStraight : AtStraight K aStraight := ⟨n_numbers_Straight, n_add_Straight, n_divisor_Straight⟩
  have TStopped : ClsF K mg "Stopped" aStopped := ⟨⟨pg_Stopped, hd_Stopped, po_Stopped, sa_Stopped⟩, PySem.W.mg_of X G nm_Stopped, ha_Stopped, hn_Stopped, tk_Stopped, hm_Stopped⟩
  have AStopped : AtStopped K aStopped := ⟨n_rule_Stopped, n_low_Stopped, n_high_Stopped⟩
  have TParted : ClsF K mg "Parted" aParted := ⟨⟨pg_Parted, hd_Parted, po_Parted, sa_Parted⟩, PySem.W.mg_of X G nm_Parted, ha_Parted, hn_Parted, tk_Parted, hm_Parted⟩
  have AParted : AtParted K aParted := ⟨n_row_Parted, n_rule_Parted, n_other_Parted⟩
  have F0 := fun_mk (st := s_is_whole) l0 c0 k0
  have b0 := F0.binds (ps := ["thing"]) fun _ _ _ _ _ _ us hl => match us, hl with | [_], _ => rfl
  have F1 := fun_mk (st := s_common_divisor) l1 c1 k1
  have b1 := F1.binds (ps := ["numbers"]) fun _ _ _ _ _ _ us hl => match us, hl with | [_], _ => rfl
  have F2 := fund_mk (st := s_fraction) l2 c2 k2 t2 rfl
  have b2 := F2.binds (ps := ["top", "bottom"]) fun _ _ _ _ _ _ _ us hl => match us, hl with | [_, _], _ => ⟨_, rfl, rfl⟩
  have bd2 := F2.binds1 (ps := ["top", "bottom"]) fun _ _ _ _ _ _ _ us hl => match us, hl with | [_], _ => ⟨_, rfl, rfl⟩
  have F3 := fun_mk (st := s_under) l3 c3 k3
  have b3 := F3.binds (ps := ["one", "other"]) fun _ _ _ _ _ _ us hl => match us, hl with | [_, _], _ => rfl
  have F4 := fund_mk (st := s_copied) l4 c4 k4 t4 rfl
  have b4 := F4.binds (ps := ["value", "depth"]) fun _ _ _ _ _ _ _ us hl => match us, hl with | [_, _], _ => ⟨_, rfl, rfl⟩
  have bd4 := F4.binds1 (ps := ["value", "depth"]) fun _ _ _ _ _ _ _ us hl => match us, hl with | [_], _ => ⟨_, rfl, rfl⟩
  have F5 := fun_mk (st := s_raw_sum) l5 c5 k5
  have b5 := F5.binds (ps := ["numbers", "point"]) fun _ _ _ _ _ _ us hl => match us, hl with | [_, _], _ => rfl
  have F6 := fun_mk (st := s_divided_sum) l6 c6 k6
  have b6 := F6.binds (ps := ["numbers", "point", "add", "divisor"]) fun _ _ _ _ _ _ us hl => match us, hl with | [_, _, _, _], _ => rfl
  have F7 := fun_mk (st := s_holds) l7 c7 k7
  have b7 := F7.binds (ps := ["row", "point"]) fun _ _ _ _ _ _ us hl => match us, hl with | [_, _], _ => rfl
  have F8 := fund_mk (st := s_Straight___init__) l8 c8 k8 t8 rfl
  have b8 := F8.binds (ps := ["self", "numbers", "add", "divisor"]) fun _ _ _ _ _ _ _ us hl => match us, hl with | [_, _, _, _], _ => ⟨_, rfl, rfl⟩
  have bd8 := F8.binds1 (ps := ["self", "numbers", "add", "divisor"]) fun _ _ _ _ _ _ _ us hl => match us, hl with | [_, _, _], _ => ⟨_, rfl, rfl⟩
  have F9 := fun_mk (st := s_Stopped___init__) l9 c9 k9
  have b9 := F9.binds (ps := ["self", "rule", "low", "high"]) fun _ _ _ _ _ _ us hl => match us, hl with | [_, _, _, _], _ => rfl
  have F10 := fun_mk (st := s_Parted___init__) l10 c10 k10
  have b10 := F10.binds (ps := ["self", "row", "rule", "other"]) fun _ _ _ _ _ _ us hl => match us, hl with | [_, _, _, _], _ => rfl
  have F11 := fun_mk (st := s_Straight_steering) l11 c11 k11
  have b11 := F11.binds (ps := ["self", "point"]) fun _ _ _ _ _ _ us hl => match us, hl with | [_, _], _ => rfl
  have F12 := fun_mk (st := s_Stopped_steering) l12 c12 k12
  have b12 := F12.binds (ps := ["self", "point"]) fun _ _ _ _ _ _ us hl => match us, hl with | [_, _], _ => rfl
  have F13 := fun_mk (st := s_Parted_steering) l13 c13 k13
  have b13 := F13.binds (ps := ["self", "point"]) fun _ _ _ _ _ _ us hl => match us, hl with | [_, _], _ => rfl
  have F14 := fun_mk (st := s_l_cell_at) l14 c14 k14
  have b14 := F14.binds (ps := ["_law_script", "_law_k"]) fun _ _ _ _ _ _ us hl => match us, hl with | [_, _], _ => rfl
  have F15 := fun_mk (st := s_l_stream) l15 c15 k15
  have b15 := F15.binds (ps := ["_law_cell", "_law_many"]) fun _ _ _ _ _ _ us hl => match us, hl with | [_, _], _ => rfl
  have F16 := fun_mk (st := s_l_number) l16 c16 k16
  have b16 := F16.binds (ps := ["_law_number_here"]) fun _ _ _ _ _ _ us hl => match us, hl with | [_], _ => rfl
  have F17 := fun_mk (st := s_l_leaf) l17 c17 k17
  have b17 := F17.binds (ps := ["_law_cell", "_law_many"]) fun _ _ _ _ _ _ us hl => match us, hl with | [_, _], _ => rfl
  have F18 := fun_mk (st := s_l_tree) l18 c18 k18
  have b18 := F18.binds (ps := ["_law_cells", "_law_many"]) fun _ _ _ _ _ _ us hl => match us, hl with | [_, _], _ => rfl
  have F19 := fun_mk (st := s_l_rule) l19 c19 k19
  have b19 := F19.binds (ps := ["_law_tree_here", "_law_lists"]) fun _ _ _ _ _ _ us hl => match us, hl with | [_, _], _ => rfl
  have F20 := fun_mk (st := s_l_divisor) l20 c20 k20
  have b20 := F20.binds (ps := ["_law_one", "_law_other"]) fun _ _ _ _ _ _ us hl => match us, hl with | [_, _], _ => rfl
  have F21 := fun_mk (st := s_l_fraction) l21 c21 k21
  have b21 := F21.binds (ps := ["_law_top", "_law_bottom"]) fun _ _ _ _ _ _ us hl => match us, hl with | [_, _], _ => rfl
  have F22 := fun_mk (st := s_l_sum) l22 c22 k22
  have b22 := F22.binds (ps := ["_law_numbers", "_law_point_here"]) fun _ _ _ _ _ _ us hl => match us, hl with | [_, _], _ => rfl
  have F23 := fun_mk (st := s_l_value) l23 c23 k23
  have b23 := F23.binds (ps := ["_law_tree_here", "_law_point_here"]) fun _ _ _ _ _ _ us hl => match us, hl with | [_, _], _ => rfl
  have F24 := fun_mk (st := s_l_rows) l24 c24 k24
  have b24 := F24.binds (ps := ["_law_tree_here"]) fun _ _ _ _ _ _ us hl => match us, hl with | [_], _ => rfl
  have F25 := fun_mk (st := s_l_point) l25 c25 k25
  have b25 := F25.binds (ps := ["_law_cell", "_law_many", "_law_rows_here"]) fun _ _ _ _ _ _ us hl => match us, hl with | [_, _, _], _ => rfl
  have F26 := fun_mk (st := s_law) l26 c26 k26
  have b26 := F26.binds (ps := ["_law_script"]) fun _ _ _ _ _ _ us hl => match us, hl with | [_], _ => rfl
  refine ⟨PySem.W.fnOf "law" "law" (defArgs s_law) (defBody s_law) (defScope s_law) .none kV26 dc26 pm26 an26 cd26 ct26, fun s v => .of_eq rfl, fun base _ _ => ?_⟩
  have N0 : Fn l.prog w K mg base "is_whole" ["thing"] 1 spIsWhole := ⟨_, _, ok_is_whole (k := 0) TStraight AStraight TStopped AStopped TParted AParted F0 B , PySem.W.mg_of X G a0, k0, b0⟩
  have N1 : Fn l.prog w K mg base "common_divisor" ["numbers"] 1 (spCommon K) := ⟨_, _, ok_common_divisor (k := 0) TStraight AStraight TStopped AStopped TParted AParted F1 B , PySem.W.mg_of X G a1, k1, b1⟩
  have N2 : FnD l.prog w K mg base "fraction" ["top", "bottom"] 2 spFraction (.int 1) := ⟨_, _, _, ok_fraction (k := 1) TStraight AStraight TStopped AStopped TParted AParted F2 B (N0.mono (by decide)) (N1.mono (by decide)), PySem.W.mg_of X G a2, k2, b2, bd2, ⟨_, rfl⟩⟩
  have N3 : Fn l.prog w K mg base "under" ["one", "other"] 1 spUnder := ⟨_, _, ok_under (k := 0) TStraight AStraight TStopped AStopped TParted AParted F3 B , PySem.W.mg_of X G a3, k3, b3⟩
  have N4_n : FnD l.prog w K mg base "copied" ["value", "depth"] 0 spNone (.int 5) := ⟨_, _, _, FnOk.none, PySem.W.mg_of X G a4, k4, b4, bd4, ⟨_, rfl⟩⟩
  have N4_0 : FnD l.prog w K mg base "copied" ["value", "depth"] 1 spC0 (.int 5) := ⟨_, _, _, ok_copied_0 (k := 0) TStraight AStraight TStopped AStopped TParted AParted F4 B N4_n, PySem.W.mg_of X G a4, k4, b4, bd4, ⟨_, rfl⟩⟩
  have N4_1 : FnD l.prog w K mg base "copied" ["value", "depth"] 2 spC1 (.int 5) := ⟨_, _, _, ok_copied_1 (k := 1) TStraight AStraight TStopped AStopped TParted AParted F4 B N4_0, PySem.W.mg_of X G a4, k4, b4, bd4, ⟨_, rfl⟩⟩
  have N4_2 : FnD l.prog w K mg base "copied" ["value", "depth"] 3 spC2 (.int 5) := ⟨_, _, _, ok_copied_2 (k := 2) TStraight AStraight TStopped AStopped TParted AParted F4 B N4_1, PySem.W.mg_of X G a4, k4, b4, bd4, ⟨_, rfl⟩⟩
  have N4 := N4_2
  have N5 : Fn l.prog w K mg base "raw_sum" ["numbers", "point"] 1 (spRawE K) := ⟨_, _, ok_raw_sum (k := 0) TStraight AStraight TStopped AStopped TParted AParted F5 B , PySem.W.mg_of X G a5, k5, b5⟩
  have N6 : Fn l.prog w K mg base "divided_sum" ["numbers", "point", "add", "divisor"] 3 (spDivided K) := ⟨_, _, ok_divided_sum (k := 2) TStraight AStraight TStopped AStopped TParted AParted F6 B (N5.mono (by decide)) (N2.mono (by decide)), PySem.W.mg_of X G a6, k6, b6⟩
  have N7 : Fn l.prog w K mg base "holds" ["row", "point"] 2 (spHolds K) := ⟨_, _, ok_holds (k := 1) TStraight AStraight TStopped AStopped TParted AParted F7 B (N5.mono (by decide)), PySem.W.mg_of X G a7, k7, b7⟩
  have N8 : FnCD l.prog w K mg base aStraight ["self", "numbers", "add", "divisor"] 4 (spStraightInit aStraight) (.int 1) := ⟨_, _, _, ok_Straight___init__ (k := 3) TStraight AStraight TStopped AStopped TParted AParted F8 B (N4.mono (by decide)), ⟨mk_Straight, a8, i8, kc_Straight⟩, b8, bd8, ⟨_, rfl⟩⟩
  have N9 : FnC l.prog w K mg base aStopped ["self", "rule", "low", "high"] 1 (spStoppedInit aStopped) := ⟨_, _, ok_Stopped___init__ (k := 0) TStraight AStraight TStopped AStopped TParted AParted F9 B , ⟨mk_Stopped, a9, i9, kc_Stopped⟩, b9⟩
  have N10 : FnC l.prog w K mg base aParted ["self", "row", "rule", "other"] 4 (spPartedInit aParted) := ⟨_, _, ok_Parted___init__ (k := 3) TStraight AStraight TStopped AStopped TParted AParted F10 B (N4.mono (by decide)), ⟨mk_Parted, a10, i10, kc_Parted⟩, b10⟩
  have N11 : ∀ d : Nat, FnM l.prog w K mg base aStraight "steering" ["self", "point"] 4 (spSteer aStraight aStopped aParted K isStr d) := fun d => ⟨_, _, ok_Straight_steering (k := 3) (d := d) TStraight AStraight TStopped AStopped TParted AParted F11 B (N6.mono (by decide)), ⟨a11, i11, k11⟩, b11⟩
  have N12_0 : FnM l.prog w K mg base aStopped "steering" ["self", "point"] 4 (spSteer aStraight aStopped aParted K isStp 0) := ⟨_, _, FnOk.no spSteer_no, ⟨a12, i12, k12⟩, b12⟩
  have N13_0 : FnM l.prog w K mg base aParted "steering" ["self", "point"] 4 (spSteer aStraight aStopped aParted K isPrt 0) := ⟨_, _, FnOk.no spSteer_no, ⟨a13, i13, k13⟩, b13⟩
  have N12_1 : FnM l.prog w K mg base aStopped "steering" ["self", "point"] 5 (spSteer aStraight aStopped aParted K isStp 1) := ⟨_, _, ok_Stopped_steering (k := 4) (d := 0) TStraight AStraight TStopped AStopped TParted AParted F12 B ((N11 0).mono (by decide)) (N12_0.mono (by decide)) (N13_0.mono (by decide)) (N3.mono (by decide)) (N2.mono (by decide)), ⟨a12, i12, k12⟩, b12⟩
  have N13_1 : FnM l.prog w K mg base aParted "steering" ["self", "point"] 5 (spSteer aStraight aStopped aParted K isPrt 1) := ⟨_, _, ok_Parted_steering (k := 4) (d := 0) TStraight AStraight TStopped AStopped TParted AParted F13 B (N7.mono (by decide)) ((N11 0).mono (by decide)) (N12_0.mono (by decide)) (N13_0.mono (by decide)), ⟨a13, i13, k13⟩, b13⟩
  have N12_2 : FnM l.prog w K mg base aStopped "steering" ["self", "point"] 6 (spSteer aStraight aStopped aParted K isStp 2) := ⟨_, _, ok_Stopped_steering (k := 5) (d := 1) TStraight AStraight TStopped AStopped TParted AParted F12 B ((N11 1).mono (by decide)) (N12_1.mono (by decide)) (N13_1.mono (by decide)) (N3.mono (by decide)) (N2.mono (by decide)), ⟨a12, i12, k12⟩, b12⟩
  have N13_2 : FnM l.prog w K mg base aParted "steering" ["self", "point"] 6 (spSteer aStraight aStopped aParted K isPrt 2) := ⟨_, _, ok_Parted_steering (k := 5) (d := 1) TStraight AStraight TStopped AStopped TParted AParted F13 B (N7.mono (by decide)) ((N11 1).mono (by decide)) (N12_1.mono (by decide)) (N13_1.mono (by decide)), ⟨a13, i13, k13⟩, b13⟩
  have N12_3 : FnM l.prog w K mg base aStopped "steering" ["self", "point"] 7 (spSteer aStraight aStopped aParted K isStp 3) := ⟨_, _, ok_Stopped_steering (k := 6) (d := 2) TStraight AStraight TStopped AStopped TParted AParted F12 B ((N11 2).mono (by decide)) (N12_2.mono (by decide)) (N13_2.mono (by decide)) (N3.mono (by decide)) (N2.mono (by decide)), ⟨a12, i12, k12⟩, b12⟩
  have N13_3 : FnM l.prog w K mg base aParted "steering" ["self", "point"] 7 (spSteer aStraight aStopped aParted K isPrt 3) := ⟨_, _, ok_Parted_steering (k := 6) (d := 2) TStraight AStraight TStopped AStopped TParted AParted F13 B (N7.mono (by decide)) ((N11 2).mono (by decide)) (N12_2.mono (by decide)) (N13_2.mono (by decide)), ⟨a13, i13, k13⟩, b13⟩
  have N12_4 : FnM l.prog w K mg base aStopped "steering" ["self", "point"] 8 (spSteer aStraight aStopped aParted K isStp 4) := ⟨_, _, ok_Stopped_steering (k := 7) (d := 3) TStraight AStraight TStopped AStopped TParted AParted F12 B ((N11 3).mono (by decide)) (N12_3.mono (by decide)) (N13_3.mono (by decide)) (N3.mono (by decide)) (N2.mono (by decide)), ⟨a12, i12, k12⟩, b12⟩
  have N13_4 : FnM l.prog w K mg base aParted "steering" ["self", "point"] 8 (spSteer aStraight aStopped aParted K isPrt 4) := ⟨_, _, ok_Parted_steering (k := 7) (d := 3) TStraight AStraight TStopped AStopped TParted AParted F13 B (N7.mono (by decide)) ((N11 3).mono (by decide)) (N12_3.mono (by decide)) (N13_3.mono (by decide)), ⟨a13, i13, k13⟩, b13⟩
  have N12_5 : FnM l.prog w K mg base aStopped "steering" ["self", "point"] 9 (spSteer aStraight aStopped aParted K isStp 5) := ⟨_, _, ok_Stopped_steering (k := 8) (d := 4) TStraight AStraight TStopped AStopped TParted AParted F12 B ((N11 4).mono (by decide)) (N12_4.mono (by decide)) (N13_4.mono (by decide)) (N3.mono (by decide)) (N2.mono (by decide)), ⟨a12, i12, k12⟩, b12⟩
  have N13_5 : FnM l.prog w K mg base aParted "steering" ["self", "point"] 9 (spSteer aStraight aStopped aParted K isPrt 5) := ⟨_, _, ok_Parted_steering (k := 8) (d := 4) TStraight AStraight TStopped AStopped TParted AParted F13 B (N7.mono (by decide)) ((N11 4).mono (by decide)) (N12_4.mono (by decide)) (N13_4.mono (by decide)), ⟨a13, i13, k13⟩, b13⟩
  have N12_6 : FnM l.prog w K mg base aStopped "steering" ["self", "point"] 10 (spSteer aStraight aStopped aParted K isStp 6) := ⟨_, _, ok_Stopped_steering (k := 9) (d := 5) TStraight AStraight TStopped AStopped TParted AParted F12 B ((N11 5).mono (by decide)) (N12_5.mono (by decide)) (N13_5.mono (by decide)) (N3.mono (by decide)) (N2.mono (by decide)), ⟨a12, i12, k12⟩, b12⟩
  have N13_6 : FnM l.prog w K mg base aParted "steering" ["self", "point"] 10 (spSteer aStraight aStopped aParted K isPrt 6) := ⟨_, _, ok_Parted_steering (k := 9) (d := 5) TStraight AStraight TStopped AStopped TParted AParted F13 B (N7.mono (by decide)) ((N11 5).mono (by decide)) (N12_5.mono (by decide)) (N13_5.mono (by decide)), ⟨a13, i13, k13⟩, b13⟩
  have N12_7 : FnM l.prog w K mg base aStopped "steering" ["self", "point"] 11 (spSteer aStraight aStopped aParted K isStp 7) := ⟨_, _, ok_Stopped_steering (k := 10) (d := 6) TStraight AStraight TStopped AStopped TParted AParted F12 B ((N11 6).mono (by decide)) (N12_6.mono (by decide)) (N13_6.mono (by decide)) (N3.mono (by decide)) (N2.mono (by decide)), ⟨a12, i12, k12⟩, b12⟩
  have N13_7 : FnM l.prog w K mg base aParted "steering" ["self", "point"] 11 (spSteer aStraight aStopped aParted K isPrt 7) := ⟨_, _, ok_Parted_steering (k := 10) (d := 6) TStraight AStraight TStopped AStopped TParted AParted F13 B (N7.mono (by decide)) ((N11 6).mono (by decide)) (N12_6.mono (by decide)) (N13_6.mono (by decide)), ⟨a13, i13, k13⟩, b13⟩
  have N12_8 : FnM l.prog w K mg base aStopped "steering" ["self", "point"] 12 (spSteer aStraight aStopped aParted K isStp 8) := ⟨_, _, ok_Stopped_steering (k := 11) (d := 7) TStraight AStraight TStopped AStopped TParted AParted F12 B ((N11 7).mono (by decide)) (N12_7.mono (by decide)) (N13_7.mono (by decide)) (N3.mono (by decide)) (N2.mono (by decide)), ⟨a12, i12, k12⟩, b12⟩
  have N13_8 : FnM l.prog w K mg base aParted "steering" ["self", "point"] 12 (spSteer aStraight aStopped aParted K isPrt 8) := ⟨_, _, ok_Parted_steering (k := 11) (d := 7) TStraight AStraight TStopped AStopped TParted AParted F13 B (N7.mono (by decide)) ((N11 7).mono (by decide)) (N12_7.mono (by decide)) (N13_7.mono (by decide)), ⟨a13, i13, k13⟩, b13⟩
  have N12_9 : FnM l.prog w K mg base aStopped "steering" ["self", "point"] 13 (spSteer aStraight aStopped aParted K isStp 9) := ⟨_, _, ok_Stopped_steering (k := 12) (d := 8) TStraight AStraight TStopped AStopped TParted AParted F12 B ((N11 8).mono (by decide)) (N12_8.mono (by decide)) (N13_8.mono (by decide)) (N3.mono (by decide)) (N2.mono (by decide)), ⟨a12, i12, k12⟩, b12⟩
  have N13_9 : FnM l.prog w K mg base aParted "steering" ["self", "point"] 13 (spSteer aStraight aStopped aParted K isPrt 9) := ⟨_, _, ok_Parted_steering (k := 12) (d := 8) TStraight AStraight TStopped AStopped TParted AParted F13 B (N7.mono (by decide)) ((N11 8).mono (by decide)) (N12_8.mono (by decide)) (N13_8.mono (by decide)), ⟨a13, i13, k13⟩, b13⟩
  have N12 := N12_9
  have N13 := N13_9
  have N14 : Fn l.prog w K mg base "_law_cell_at" ["_law_script", "_law_k"] 1 (spCell K) := ⟨_, _, ok_l_cell_at (k := 0) TStraight AStraight TStopped AStopped TParted AParted F14 B , PySem.W.mg_of X G a14, k14, b14⟩
  have N15 : Fn l.prog w K mg base "_law_stream" ["_law_cell", "_law_many"] 1 spStream := ⟨_, _, ok_l_stream (k := 0) TStraight AStraight TStopped AStopped TParted AParted F15 B , PySem.W.mg_of X G a15, k15, b15⟩
  have N16 : Fn l.prog w K mg base "_law_number" ["_law_number_here"] 1 spNum21 := ⟨_, _, ok_l_number (k := 0) TStraight AStraight TStopped AStopped TParted AParted F16 B , PySem.W.mg_of X G a16, k16, b16⟩
  have N17 : Fn l.prog w K mg base "_law_leaf" ["_law_cell", "_law_many"] 2 spLeaf := ⟨_, _, ok_l_leaf (k := 1) TStraight AStraight TStopped AStopped TParted AParted F17 B (N15.mono (by decide)) (N16.mono (by decide)), PySem.W.mg_of X G a17, k17, b17⟩
  have N18 : Fn l.prog w K mg base "_law_tree" ["_law_cells", "_law_many"] 3 (spTree K) := ⟨_, _, ok_l_tree (k := 2) TStraight AStraight TStopped AStopped TParted AParted F18 B (N17.mono (by decide)) (N14.mono (by decide)) (N15.mono (by decide)) (N16.mono (by decide)), PySem.W.mg_of X G a18, k18, b18⟩
  have N19_0 : Fn l.prog w K mg base "_law_rule" ["_law_tree_here", "_law_lists"] 5 (spRuleL aStraight aStopped aParted 0) := ⟨_, _, FnOk.no spRuleL_no, PySem.W.mg_of X G a19, k19, b19⟩
  have N19_1 : Fn l.prog w K mg base "_law_rule" ["_law_tree_here", "_law_lists"] 6 (spRuleL aStraight aStopped aParted 1) := ⟨_, _, ok_l_rule (k := 4) (d := 0) TStraight AStraight TStopped AStopped TParted AParted F19 B (N8.mono (by decide)) (N9.mono (by decide)) (N19_0.mono (by decide)) (N10.mono (by decide)), PySem.W.mg_of X G a19, k19, b19⟩
  have N19_2 : Fn l.prog w K mg base "_law_rule" ["_law_tree_here", "_law_lists"] 7 (spRuleL aStraight aStopped aParted 2) := ⟨_, _, ok_l_rule (k := 5) (d := 1) TStraight AStraight TStopped AStopped TParted AParted F19 B (N8.mono (by decide)) (N9.mono (by decide)) (N19_1.mono (by decide)) (N10.mono (by decide)), PySem.W.mg_of X G a19, k19, b19⟩
  have N19_3 : Fn l.prog w K mg base "_law_rule" ["_law_tree_here", "_law_lists"] 8 (spRuleL aStraight aStopped aParted 3) := ⟨_, _, ok_l_rule (k := 6) (d := 2) TStraight AStraight TStopped AStopped TParted AParted F19 B (N8.mono (by decide)) (N9.mono (by decide)) (N19_2.mono (by decide)) (N10.mono (by decide)), PySem.W.mg_of X G a19, k19, b19⟩
  have N19_4 : Fn l.prog w K mg base "_law_rule" ["_law_tree_here", "_law_lists"] 9 (spRuleL aStraight aStopped aParted 4) := ⟨_, _, ok_l_rule (k := 7) (d := 3) TStraight AStraight TStopped AStopped TParted AParted F19 B (N8.mono (by decide)) (N9.mono (by decide)) (N19_3.mono (by decide)) (N10.mono (by decide)), PySem.W.mg_of X G a19, k19, b19⟩
  have N19_5 : Fn l.prog w K mg base "_law_rule" ["_law_tree_here", "_law_lists"] 10 (spRuleL aStraight aStopped aParted 5) := ⟨_, _, ok_l_rule (k := 8) (d := 4) TStraight AStraight TStopped AStopped TParted AParted F19 B (N8.mono (by decide)) (N9.mono (by decide)) (N19_4.mono (by decide)) (N10.mono (by decide)), PySem.W.mg_of X G a19, k19, b19⟩
  have N19_6 : Fn l.prog w K mg base "_law_rule" ["_law_tree_here", "_law_lists"] 11 (spRuleL aStraight aStopped aParted 6) := ⟨_, _, ok_l_rule (k := 9) (d := 5) TStraight AStraight TStopped AStopped TParted AParted F19 B (N8.mono (by decide)) (N9.mono (by decide)) (N19_5.mono (by decide)) (N10.mono (by decide)), PySem.W.mg_of X G a19, k19, b19⟩
  have N19_7 : Fn l.prog w K mg base "_law_rule" ["_law_tree_here", "_law_lists"] 12 (spRuleL aStraight aStopped aParted 7) := ⟨_, _, ok_l_rule (k := 10) (d := 6) TStraight AStraight TStopped AStopped TParted AParted F19 B (N8.mono (by decide)) (N9.mono (by decide)) (N19_6.mono (by decide)) (N10.mono (by decide)), PySem.W.mg_of X G a19, k19, b19⟩
  have N19_8 : Fn l.prog w K mg base "_law_rule" ["_law_tree_here", "_law_lists"] 13 (spRuleL aStraight aStopped aParted 8) := ⟨_, _, ok_l_rule (k := 11) (d := 7) TStraight AStraight TStopped AStopped TParted AParted F19 B (N8.mono (by decide)) (N9.mono (by decide)) (N19_7.mono (by decide)) (N10.mono (by decide)), PySem.W.mg_of X G a19, k19, b19⟩
  have N19_9 : Fn l.prog w K mg base "_law_rule" ["_law_tree_here", "_law_lists"] 14 (spRuleL aStraight aStopped aParted 9) := ⟨_, _, ok_l_rule (k := 12) (d := 8) TStraight AStraight TStopped AStopped TParted AParted F19 B (N8.mono (by decide)) (N9.mono (by decide)) (N19_8.mono (by decide)) (N10.mono (by decide)), PySem.W.mg_of X G a19, k19, b19⟩
  have N19 := N19_9
  have N20 : Fn l.prog w K mg base "_law_divisor" ["_law_one", "_law_other"] 1 spShare := ⟨_, _, ok_l_divisor (k := 0) TStraight AStraight TStopped AStopped TParted AParted F20 B , PySem.W.mg_of X G a20, k20, b20⟩
  have N21 : Fn l.prog w K mg base "_law_fraction" ["_law_top", "_law_bottom"] 2 spLowest := ⟨_, _, ok_l_fraction (k := 1) TStraight AStraight TStopped AStopped TParted AParted F21 B (N20.mono (by decide)), PySem.W.mg_of X G a21, k21, b21⟩
  have N22 : Fn l.prog w K mg base "_law_sum" ["_law_numbers", "_law_point_here"] 3 (spSumL K) := ⟨_, _, ok_l_sum (k := 2) TStraight AStraight TStopped AStopped TParted AParted F22 B (N21.mono (by decide)), PySem.W.mg_of X G a22, k22, b22⟩
  have N23_0 : Fn l.prog w K mg base "_law_value" ["_law_tree_here", "_law_point_here"] 3 (spValue K 0) := ⟨_, _, FnOk.no spValue_no, PySem.W.mg_of X G a23, k23, b23⟩
  have N23_1 : Fn l.prog w K mg base "_law_value" ["_law_tree_here", "_law_point_here"] 4 (spValue K 1) := ⟨_, _, ok_l_value (k := 3) (d := 0) TStraight AStraight TStopped AStopped TParted AParted F23 B (N22.mono (by decide)) (N21.mono (by decide)) (N23_0.mono (by decide)), PySem.W.mg_of X G a23, k23, b23⟩
  have N23_2 : Fn l.prog w K mg base "_law_value" ["_law_tree_here", "_law_point_here"] 5 (spValue K 2) := ⟨_, _, ok_l_value (k := 4) (d := 1) TStraight AStraight TStopped AStopped TParted AParted F23 B (N22.mono (by decide)) (N21.mono (by decide)) (N23_1.mono (by decide)), PySem.W.mg_of X G a23, k23, b23⟩
  have N23_3 : Fn l.prog w K mg base "_law_value" ["_law_tree_here", "_law_point_here"] 6 (spValue K 3) := ⟨_, _, ok_l_value (k := 5) (d := 2) TStraight AStraight TStopped AStopped TParted AParted F23 B (N22.mono (by decide)) (N21.mono (by decide)) (N23_2.mono (by decide)), PySem.W.mg_of X G a23, k23, b23⟩
  have N23_4 : Fn l.prog w K mg base "_law_value" ["_law_tree_here", "_law_point_here"] 7 (spValue K 4) := ⟨_, _, ok_l_value (k := 6) (d := 3) TStraight AStraight TStopped AStopped TParted AParted F23 B (N22.mono (by decide)) (N21.mono (by decide)) (N23_3.mono (by decide)), PySem.W.mg_of X G a23, k23, b23⟩
  have N23_5 : Fn l.prog w K mg base "_law_value" ["_law_tree_here", "_law_point_here"] 8 (spValue K 5) := ⟨_, _, ok_l_value (k := 7) (d := 4) TStraight AStraight TStopped AStopped TParted AParted F23 B (N22.mono (by decide)) (N21.mono (by decide)) (N23_4.mono (by decide)), PySem.W.mg_of X G a23, k23, b23⟩
  have N23_6 : Fn l.prog w K mg base "_law_value" ["_law_tree_here", "_law_point_here"] 9 (spValue K 6) := ⟨_, _, ok_l_value (k := 8) (d := 5) TStraight AStraight TStopped AStopped TParted AParted F23 B (N22.mono (by decide)) (N21.mono (by decide)) (N23_5.mono (by decide)), PySem.W.mg_of X G a23, k23, b23⟩
  have N23_7 : Fn l.prog w K mg base "_law_value" ["_law_tree_here", "_law_point_here"] 10 (spValue K 7) := ⟨_, _, ok_l_value (k := 9) (d := 6) TStraight AStraight TStopped AStopped TParted AParted F23 B (N22.mono (by decide)) (N21.mono (by decide)) (N23_6.mono (by decide)), PySem.W.mg_of X G a23, k23, b23⟩
  have N23_8 : Fn l.prog w K mg base "_law_value" ["_law_tree_here", "_law_point_here"] 11 (spValue K 8) := ⟨_, _, ok_l_value (k := 10) (d := 7) TStraight AStraight TStopped AStopped TParted AParted F23 B (N22.mono (by decide)) (N21.mono (by decide)) (N23_7.mono (by decide)), PySem.W.mg_of X G a23, k23, b23⟩
  have N23_9 : Fn l.prog w K mg base "_law_value" ["_law_tree_here", "_law_point_here"] 12 (spValue K 9) := ⟨_, _, ok_l_value (k := 11) (d := 8) TStraight AStraight TStopped AStopped TParted AParted F23 B (N22.mono (by decide)) (N21.mono (by decide)) (N23_8.mono (by decide)), PySem.W.mg_of X G a23, k23, b23⟩
  have N23 := N23_9
  have N24_0 : Fn l.prog w K mg base "_law_rows" ["_law_tree_here"] 1 (spRowsT 0) := ⟨_, _, FnOk.no spRowsT_no, PySem.W.mg_of X G a24, k24, b24⟩
  have N24_1 : Fn l.prog w K mg base "_law_rows" ["_law_tree_here"] 2 (spRowsT 1) := ⟨_, _, ok_l_rows (k := 1) (d := 0) TStraight AStraight TStopped AStopped TParted AParted F24 B (N24_0.mono (by decide)), PySem.W.mg_of X G a24, k24, b24⟩
  have N24_2 : Fn l.prog w K mg base "_law_rows" ["_law_tree_here"] 3 (spRowsT 2) := ⟨_, _, ok_l_rows (k := 2) (d := 1) TStraight AStraight TStopped AStopped TParted AParted F24 B (N24_1.mono (by decide)), PySem.W.mg_of X G a24, k24, b24⟩
  have N24_3 : Fn l.prog w K mg base "_law_rows" ["_law_tree_here"] 4 (spRowsT 3) := ⟨_, _, ok_l_rows (k := 3) (d := 2) TStraight AStraight TStopped AStopped TParted AParted F24 B (N24_2.mono (by decide)), PySem.W.mg_of X G a24, k24, b24⟩
  have N24_4 : Fn l.prog w K mg base "_law_rows" ["_law_tree_here"] 5 (spRowsT 4) := ⟨_, _, ok_l_rows (k := 4) (d := 3) TStraight AStraight TStopped AStopped TParted AParted F24 B (N24_3.mono (by decide)), PySem.W.mg_of X G a24, k24, b24⟩
  have N24_5 : Fn l.prog w K mg base "_law_rows" ["_law_tree_here"] 6 (spRowsT 5) := ⟨_, _, ok_l_rows (k := 5) (d := 4) TStraight AStraight TStopped AStopped TParted AParted F24 B (N24_4.mono (by decide)), PySem.W.mg_of X G a24, k24, b24⟩
  have N24_6 : Fn l.prog w K mg base "_law_rows" ["_law_tree_here"] 7 (spRowsT 6) := ⟨_, _, ok_l_rows (k := 6) (d := 5) TStraight AStraight TStopped AStopped TParted AParted F24 B (N24_5.mono (by decide)), PySem.W.mg_of X G a24, k24, b24⟩
  have N24_7 : Fn l.prog w K mg base "_law_rows" ["_law_tree_here"] 8 (spRowsT 7) := ⟨_, _, ok_l_rows (k := 7) (d := 6) TStraight AStraight TStopped AStopped TParted AParted F24 B (N24_6.mono (by decide)), PySem.W.mg_of X G a24, k24, b24⟩
  have N24_8 : Fn l.prog w K mg base "_law_rows" ["_law_tree_here"] 9 (spRowsT 8) := ⟨_, _, ok_l_rows (k := 8) (d := 7) TStraight AStraight TStopped AStopped TParted AParted F24 B (N24_7.mono (by decide)), PySem.W.mg_of X G a24, k24, b24⟩
  have N24_9 : Fn l.prog w K mg base "_law_rows" ["_law_tree_here"] 10 (spRowsT 9) := ⟨_, _, ok_l_rows (k := 9) (d := 8) TStraight AStraight TStopped AStopped TParted AParted F24 B (N24_8.mono (by decide)), PySem.W.mg_of X G a24, k24, b24⟩
  have N24 := N24_9
  have N25 : Fn l.prog w K mg base "_law_point" ["_law_cell", "_law_many", "_law_rows_here"] 4 spPointT := ⟨_, _, ok_l_point (k := 3) TStraight AStraight TStopped AStopped TParted AParted F25 B (N15.mono (by decide)) (N21.mono (by decide)) (N16.mono (by decide)) (N22.mono (by decide)), PySem.W.mg_of X G a25, k25, b25⟩
  exact ok_law (k := 14) TStraight AStraight TStopped AStopped TParted AParted F26 B (N14.mono (by decide)) (N18.mono (by decide)) (N19.mono (by decide)) (N24.mono (by decide)) (N25.mono (by decide)) ((N11 9).mono (by decide)) (N12.mono (by decide)) (N13.mono (by decide)) (N23.mono (by decide))
theorem walk {l : PySem.W.OpenLaw} {q : Program} {loose : List Str} {XP : (Str → Option Value) → Heap → Prop} {YP : World → Heap → Prop} {d : DefRec} {K : Params → PySem.W.Frag} (hn : l.most = some 63) (hdf : d.params.defaults = [])
    (hY : ∀ (w : World) (h : Heap), YP w h → (K w.params).In h)
    (F : ∀ (w : World) (mg : Str → Option Value) (fa : Addr) (h : Heap), (K w.params).In h → h.Ns mainGlobals mg → mg d.name = some (.ref fa) →
      ∃ fd : FuncData, (∀ (s : Shared) (u : Value), BindsTo s fd ⟨[u], []⟩ [("_law_script", u)]) ∧ ∀ base : Heap, (K w.params).In base → base.Ns mainGlobals mg → FnOk l.prog w (K w.params) mg base CX0 15 fa fd ["_law_script"] (spLaw (K w.params))) :
    PySem.W.WalkO q loose XP YP l.row.toRowW d [] (fun f vs => PySem.call f vs) :=
  L2.walk_of (n := 63) (k := 15) (x := "_law_script") (CX := fun _ => CX0) (sp := fun w => spLaw (K w.params)) hn (by decide) hdf ⟨rfl, by decide, by decide⟩ hY F (fun _ _ a ns hl _ hS => ⟨a, ns, rfl, hS, hl, fun _ => rfl⟩) fun _ _ _ _ _ z => z
end K21
open PySem PySem.W PyProof.Rows
set_option maxRecDepth 100000 in
set_option maxHeartbeats 0 in
theorem PySem.Challenge.cw_steadyhand_k21_what_a_rule_tells_holds : PySem.Challenge.rw_steadyhand_k21_what_a_rule_tells.Holds := by
  w_on; o_law; k_head; (case hw => w_witness2)
  k_fill
  refine K21.walk (l := PySem.Challenge.rw_steadyhand_k21_what_a_rule_tells) rfl rfl (fun w h Y => PySem.W.kIn_of Y) ?F
  case F =>
    intro w mg fa h KX G hmg
    refine' K21.all_mk KX G hmg ?nm_Straight ?pg_Straight ?hd_Straight ?po_Straight ?sa_Straight ?mk_Straight ?kc_Straight ?ha_Straight ?hn_Straight ?tk_Straight ?hm_Straight ?n_numbers_Straight ?n_add_Straight ?n_divisor_Straight ?nm_Stopped ?pg_Stopped ?hd_Stopped ?po_Stopped ?sa_Stopped ?mk_Stopped ?kc_Stopped ?ha_Stopped ?hn_Stopped ?tk_Stopped ?hm_Stopped ?n_rule_Stopped ?n_low_Stopped ?n_high_Stopped ?nm_Parted ?pg_Parted ?hd_Parted ?po_Parted ?sa_Parted ?mk_Parted ?kc_Parted ?ha_Parted ?hn_Parted ?tk_Parted ?hm_Parted ?n_row_Parted ?n_rule_Parted ?n_other_Parted ?a0 ?l0 ?c0 ?k0 ?a1 ?l1 ?c1 ?k1 ?a2 ?l2 ?c2 ?k2 ?t2 ?a3 ?l3 ?c3 ?k3 ?a4 ?l4 ?c4 ?k4 ?t4 ?a5 ?l5 ?c5 ?k5 ?a6 ?l6 ?c6 ?k6 ?a7 ?l7 ?c7 ?k7 ?i8 ?a8 ?l8 ?c8 ?k8 ?t8 ?i9 ?a9 ?l9 ?c9 ?k9 ?i10 ?a10 ?l10 ?c10 ?k10 ?i11 ?a11 ?l11 ?c11 ?k11 ?i12 ?a12 ?l12 ?c12 ?k12 ?i13 ?a13 ?l13 ?c13 ?k13 ?a14 ?l14 ?c14 ?k14 ?a15 ?l15 ?c15 ?k15 ?a16 ?l16 ?c16 ?k16 ?a17 ?l17 ?c17 ?k17 ?a18 ?l18 ?c18 ?k18 ?a19 ?l19 ?c19 ?k19 ?a20 ?l20 ?c20 ?k20 ?a21 ?l21 ?c21 ?k21 ?a22 ?l22 ?c22 ?k22 ?a23 ?l23 ?c23 ?k23 ?a24 ?l24 ?c24 ?k24 ?a25 ?l25 ?c25 ?k25 ?a26 ?l26 ?c26 ?k26 ?z0 ?z1 ?z2 ?z3 ?z4 ?z5 ?z6 ?z7 ?z8
    (case nm_Straight => k_is)
    (case pg_Straight => k_is)
    (case hd_Straight => k_is)
    (case po_Straight => k_is)
    (case sa_Straight => k_is)
    (case mk_Straight => k_is)
    (case kc_Straight => k_is)
    (case ha_Straight => k_is)
    (case hn_Straight => k_is)
    (case tk_Straight => k_is)
    (case hm_Straight => k_is)
    (case n_numbers_Straight => k_is)
    (case n_add_Straight => k_is)
    (case n_divisor_Straight => k_is)
    (case nm_Stopped => k_is)
    (case pg_Stopped => k_is)
    (case hd_Stopped => k_is)
    (case po_Stopped => k_is)
    (case sa_Stopped => k_is)
    (case mk_Stopped => k_is)
    (case kc_Stopped => k_is)
    (case ha_Stopped => k_is)
    (case hn_Stopped => k_is)
    (case tk_Stopped => k_is)
    (case hm_Stopped => k_is)
    (case n_rule_Stopped => k_is)
    (case n_low_Stopped => k_is)
    (case n_high_Stopped => k_is)
    (case nm_Parted => k_is)
    (case pg_Parted => k_is)
    (case hd_Parted => k_is)
    (case po_Parted => k_is)
    (case sa_Parted => k_is)
    (case mk_Parted => k_is)
    (case kc_Parted => k_is)
    (case ha_Parted => k_is)
    (case hn_Parted => k_is)
    (case tk_Parted => k_is)
    (case hm_Parted => k_is)
    (case n_row_Parted => k_is)
    (case n_rule_Parted => k_is)
    (case n_other_Parted => k_is)
    (case a0 => k_is)
    (case l0 => k_is)
    (case c0 => k_is)
    (case k0 => k_is)
    (case a1 => k_is)
    (case l1 => k_is)
    (case c1 => k_is)
    (case k1 => k_is)
    (case a2 => k_is)
    (case l2 => k_is)
    (case c2 => k_is)
    (case k2 => k_is)
    (case t2 => k_is)
    (case a3 => k_is)
    (case l3 => k_is)
    (case c3 => k_is)
    (case k3 => k_is)
    (case a4 => k_is)
    (case l4 => k_is)
    (case c4 => k_is)
    (case k4 => k_is)
    (case t4 => k_is)
    (case a5 => k_is)
    (case l5 => k_is)
    (case c5 => k_is)
    (case k5 => k_is)
    (case a6 => k_is)
    (case l6 => k_is)
    (case c6 => k_is)
    (case k6 => k_is)
    (case a7 => k_is)
    (case l7 => k_is)
    (case c7 => k_is)
    (case k7 => k_is)
    (case i8 => k_is)
    (case a8 => k_is)
    (case l8 => k_is)
    (case c8 => k_is)
    (case k8 => k_is)
    (case t8 => k_is)
    (case i9 => k_is)
    (case a9 => k_is)
    (case l9 => k_is)
    (case c9 => k_is)
    (case k9 => k_is)
    (case i10 => k_is)
    (case a10 => k_is)
    (case l10 => k_is)
    (case c10 => k_is)
    (case k10 => k_is)
    (case i11 => k_is)
    (case a11 => k_is)
    (case l11 => k_is)
    (case c11 => k_is)
    (case k11 => k_is)
    (case i12 => k_is)
    (case a12 => k_is)
    (case l12 => k_is)
    (case c12 => k_is)
    (case k12 => k_is)
    (case i13 => k_is)
    (case a13 => k_is)
    (case l13 => k_is)
    (case c13 => k_is)
    (case k13 => k_is)
    (case a14 => k_is)
    (case l14 => k_is)
    (case c14 => k_is)
    (case k14 => k_is)
    (case a15 => k_is)
    (case l15 => k_is)
    (case c15 => k_is)
    (case k15 => k_is)
    (case a16 => k_is)
    (case l16 => k_is)
    (case c16 => k_is)
    (case k16 => k_is)
    (case a17 => k_is)
    (case l17 => k_is)
    (case c17 => k_is)
    (case k17 => k_is)
    (case a18 => k_is)
    (case l18 => k_is)
    (case c18 => k_is)
    (case k18 => k_is)
    (case a19 => k_is)
    (case l19 => k_is)
    (case c19 => k_is)
    (case k19 => k_is)
    (case a20 => k_is)
    (case l20 => k_is)
    (case c20 => k_is)
    (case k20 => k_is)
    (case a21 => k_is)
    (case l21 => k_is)
    (case c21 => k_is)
    (case k21 => k_is)
    (case a22 => k_is)
    (case l22 => k_is)
    (case c22 => k_is)
    (case k22 => k_is)
    (case a23 => k_is)
    (case l23 => k_is)
    (case c23 => k_is)
    (case k23 => k_is)
    (case a24 => k_is)
    (case l24 => k_is)
    (case c24 => k_is)
    (case k24 => k_is)
    (case a25 => k_is)
    (case l25 => k_is)
    (case c25 => k_is)
    (case k25 => k_is)
    (case a26 => k_is)
    (case l26 => k_is)
    (case c26 => k_is)
    (case k26 => k_is)
    (case z0 => k_is)
    (case z1 => k_is)
    (case z2 => k_is)
    (case z3 => k_is)
    (case z4 => k_is)
    (case z5 => k_is)
    (case z6 => k_is)
    (case z7 => k_is)
    (case z8 => k_is)
#print axioms PySem.Challenge.cw_steadyhand_k21_what_a_rule_tells_holds

