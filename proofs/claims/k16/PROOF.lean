import PyProof.Rows.All
import Wide.All
import OpenK.AllK
import Wide.FinOn
import Lean
import PyProof.EqAt
import PyProof.EqKinds
import PyProof.TupleCall
import PySem.Challenge.RW_dueworth_k16_plain_and_led_traces
-- CHANGE: your row's module here, as the last of these rows
set_option Elab.async false
set_option linter.all false
set_option maxRecDepth 100000
/-! THE HAND LAYER, for ints, bools, texts, own classes, LISTS and tuples (index, slices, in, append, pop ..), calls, loops. Paste it whole ahead of your own text; what your proof does not reach may be deleted. -/
namespace L2
open PySem PySem.Spec PyProof.Rows

/-- a key: an int or a str -/
abbrev Key := Sum Int Str
def keyIs : Key → Value → Bool
  | .inl k, v => Value.isInt k v
  | .inr x, v => Value.isStrOf x v
def keyH (w : World) : Key → Int
  | .inl k => hashInt k
  | .inr x => hashStr w x
theorem keyIs_shape : ∀ {k : Key} {v : Value}, keyIs k v = true → (∃ i t, k = Sum.inl i ∧ v = Value.int i t) ∨ (∃ x t, k = Sum.inr x ∧ v = Value.str x t)
  | .inl i, v, h => by
    obtain ⟨t, e⟩ := Value.isInt_shape (k := i) (v := v) h
    exact .inl ⟨i, t, rfl, e⟩
  | .inr x, v, h => by
    obtain ⟨t, e⟩ := Value.isStrOf_shape (x := x) (v := v) h
    exact .inr ⟨x, t, rfl, e⟩
theorem keyIs_int (i : Int) (t : Tok) : keyIs (.inl i) (.int i t) = true := by simp [keyIs, Value.isInt]
theorem keyIs_str (x : Str) (t : Tok) : keyIs (.inr x) (.str x t) = true := by simp [keyIs, Value.isStrOf]
theorem key_ll (a b : Int) : decide ((Sum.inl a : Key) = Sum.inl b) = (a == b) := by
  by_cases e : a = b
  · subst e; simp
  · have h : ¬ (Sum.inl a : Key) = Sum.inl b := fun q => e (Sum.inl.inj q)
    rw [decide_eq_false h]
    exact (beq_eq_false_iff_ne.mpr e).symm
theorem key_rr (a b : Str) : decide ((Sum.inr a : Key) = Sum.inr b) = decide (a = b) := by
  by_cases e : a = b
  · subst e; simp
  · have h : ¬ (Sum.inr a : Key) = Sum.inr b := fun q => e (Sum.inr.inj q)
    rw [decide_eq_false h, decide_eq_false e]
theorem key_lr (a : Int) (b : Str) : decide ((Sum.inl a : Key) = Sum.inr b) = false := decide_eq_false (fun q => nomatch q)
theorem key_rl (a : Str) (b : Int) : decide ((Sum.inr a : Key) = Sum.inl b) = false := decide_eq_false (fun q => nomatch q)

def mixKind (prog : Program) (w : World) : PySem.KeyKind prog w Key where
  is := keyIs
  hash := keyH w
  inj := fun v a b ha hb => by
    rcases keyIs_shape ha with ⟨i, t, rfl, rfl⟩ | ⟨x, t, rfl, rfl⟩
    · rcases keyIs_shape hb with ⟨j, u, rfl, e⟩ | ⟨y, u, rfl, e⟩
      · injection e with e1 _; rw [e1]
      · exact nomatch e
    · rcases keyIs_shape hb with ⟨j, u, rfl, e⟩ | ⟨y, u, rfl, e⟩
      · exact nomatch e
      · injection e with e1 _; rw [e1]
  byValue := fun k v h => by
    rcases keyIs_shape h with ⟨i, t, rfl, rfl⟩ | ⟨x, t, rfl, rfl⟩ <;> rfl
  pyHash := fun hv h => by
    rcases keyIs_shape hv with ⟨i, t, rfl, rfl⟩ | ⟨x, t, rfl, rfl⟩
    · exact wpAny_pyHash_int h
    · exact wpAny_pyHash_str h
  eqBool := fun hu hv h => by
    rcases keyIs_shape hu with ⟨i, t, rfl, rfl⟩ | ⟨x, t, rfl, rfl⟩
    · rcases keyIs_shape hv with ⟨j, u, rfl, rfl⟩ | ⟨y, u, rfl, rfl⟩
      · rw [key_ll] at h; exact wpAny_eqBool_int h
      · rw [key_lr] at h; exact SeqAt.EqAt.int_str i t y u _ _ _ _ h
    · rcases keyIs_shape hv with ⟨j, u, rfl, rfl⟩ | ⟨y, u, rfl, rfl⟩
      · rw [key_rl] at h; exact SeqAt.EqAt.str_int x t j u _ _ _ _ h
      · rw [key_rr] at h; exact wpAny_eqBool_str h
  «strs» := fun k x t v h => by
    rcases keyIs_shape h with ⟨i, u, rfl, e⟩ | ⟨y, u, rfl, e⟩
    · exact nomatch e
    · injection e with e1 _
      subst e1
      cases v <;> rfl

theorem mixKind_is (prog : Program) (w : World) (k : Key) (v : Value) : (mixKind prog w).is k v = keyIs k v := rfl
theorem mixKind_int (prog : Program) (w : World) (i : Int) (t : Tok) : (mixKind prog w).is (.inl i) (.int i t) = true := keyIs_int i t
theorem mixKind_str (prog : Program) (w : World) (x : Str) (t : Tok) : (mixKind prog w).is (.inr x) (.str x t) = true := keyIs_str x t
end L2

namespace L2
open PySem PySem.Spec PyProof.Rows

/-- a value, without the heap -/
inductive V where
  | non | bl (b : Bool) | int (i : Int) | str (x : Str) | byt (b : Array UInt8) | flt (b : UInt64) | ref (a : Addr) | ty (n : String)
  deriving DecidableEq

def RelV : V → Value → Prop
  | .non, u => u = Value.none
  | .bl b, u => u = Value.bool b
  | .int i, u => ∃ t, u = Value.int i t
  | .str x, u => ∃ t, u = Value.str x t
  | .byt b, u => ∃ t, u = Value.bytes b t
  | .flt b, u => ∃ t, u = Value.float b t
  | .ref a, u => u = Value.ref a
  | .ty n, u => u = Value.type n

abbrev Vals : List V → List Value → Prop := Paired RelV
theorem Vals.length {xs : List V} {us : List Value} (r : Vals xs us) : xs.length = us.length := Paired.length r
theorem Vals.get : ∀ {xs : List V} {us : List Value} {i : Nat} {x : V}, Vals xs us → xs[i]? = some x → ∃ u, us[i]? = some u ∧ RelV x u
  | _, _, _, _, .nil, e => by simp at e
  | _, _, 0, _, .cons r _, e => by simp at e; subst e; exact ⟨_, rfl, r⟩
  | _, _, i + 1, x, .cons _ t, e => by
    obtain ⟨u, h1, h2⟩ := Vals.get (i := i) (x := x) t (by simpa using e)
    exact ⟨u, by simpa using h1, h2⟩
theorem Vals.set {x : V} {u : Value} (r : RelV x u) : ∀ {xs : List V} {us : List Value} (i : Nat), Vals xs us → Vals (xs.set i x) (us.set i u)
  | _, _, _, .nil => .nil
  | _, _, 0, .cons _ t => .cons r t
  | _, _, i + 1, .cons q t => .cons q (Vals.set r i t)
theorem Vals.append : ∀ {xs ys : List V} {us ws : List Value}, Vals xs us → Vals ys ws → Vals (xs ++ ys) (us ++ ws)
  | _, _, _, _, .nil, s => s
  | _, _, _, _, .cons r t, s => .cons r (Vals.append t s)
theorem Vals.take : ∀ {xs : List V} {us : List Value} (n : Nat), Vals xs us → Vals (xs.take n) (us.take n)
  | _, _, 0, _ => .nil
  | _, _, _ + 1, .nil => .nil
  | _, _, n + 1, .cons r t => .cons r (Vals.take n t)
theorem Vals.drop : ∀ {xs : List V} {us : List Value} (n : Nat), Vals xs us → Vals (xs.drop n) (us.drop n)
  | _, _, 0, r => r
  | _, _, _ + 1, .nil => .nil
  | _, _, n + 1, .cons _ t => Vals.drop n t
theorem Vals.none_of : ∀ {xs : List V} {us : List Value} {i : Nat}, Vals xs us → xs[i]? = none → us[i]? = none := fun {xs us i} r e => by
  have h1 := r.length
  have h2 : xs.length ≤ i := List.getElem?_eq_none_iff.mp e
  exact List.getElem?_eq_none_iff.mpr (by omega)

def RelO : Option V → Option Value → Prop
  | some v, some u => RelV v u
  | none, none => True
  | _, _ => False
def KV {κ : Type} : List (κ × V) → List (κ × Value) → Prop := Paired fun (p : κ × V) (q : κ × Value) => p.1 = q.1 ∧ RelV p.2 q.2

/-- a key of a dict (00_mix): an int or a text -/
def kV : Key → V
  | .inl i => .int i
  | .inr x => .str x

/-- what stands at a tracked address -/
inductive HO where
  /-- a list -/
  | lst (xs : List V)
  /-- a tuple (never changes) -/
  | tup (xs : List V)
  /-- a dict whose keys are ints and texts; one whose keys are tuples of ints and texts (the empty one is both) -/
  | dK (kvs : List (Key × V)) | dT (kvs : List (List Key × V))
  /-- a set of ints: its members, its size -/
  | set (S : Int → Bool) (n : Nat)
  /-- an instance of the class at C, its dict at dx, its attributes -/
  | ins (C dx : Addr) (fs : List (Str × V))
  /-- the dict of the instance at x -/
  | own (x : Addr)
  /-- the dict of an exception -/
  | xd (fs : List (Str × V))
  /-- a bound method, f of x -/
  | met (f x : Addr)
  /-- a range object lo, lo + 1, .. below hi -/
  | rng (lo hi : Int)
  /-- a thing that is known to the object (the script; a dict while a loop walks it): read, never written while it is so -/
  | frz (o : Obj) (u : HO)
  /-- a code object's table -/
  | tbl (ps : Array Value)
  /-- any other thing, by what is true of its one object (a def of one's own: SetO a S n := HO.ext fun h => ..) -/
  | ext (φ : Heap → Prop)

abbrev Hp := Addr → Option HO
def upd (H : Hp) (a : Addr) (o : HO) : Hp := fun b => if b = a then some o else H b
theorem upd_same {H : Hp} {a : Addr} {o : HO} : upd H a o a = some o := by unfold upd; rw [if_pos rfl]
theorem upd_ne {H : Hp} {a b : Addr} {o : HO} (h : b ≠ a) : upd H a o b = H b := by unfold upd; rw [if_neg h]
theorem upd_upd {H : Hp} {a : Addr} {o u : HO} : upd (upd H a o) a u = upd H a u := by
  funext b; unfold upd; split <;> rfl
/-- two objects of different content stand apart -/
theorem ne_of {H : Hp} {a b : Addr} {o u : HO} (h : H a = some o) (h' : H b = some u) (d : o ≠ u) : a ≠ b := by
  intro e; subst e; rw [h] at h'; exact d (Option.some.inj h')
theorem ne_of_none {H : Hp} {a b : Addr} {o : HO} (h : H a = some o) (h' : H b = none) : a ≠ b := by
  intro e; subst e; rw [h] at h'; cases h'

section
variable (P : Program) (w : World)
def ObjOk (H : Hp) (h : Heap) (a : Addr) : HO → Prop
  | .lst xs => xs.length ≤ sizeLine ∧ ∃ (its : List Value) (n : Nat), Vals xs its ∧ h.get? a = some { cls := .type "list", data := .seq its.toArray n }
  | .tup xs => xs.length ≤ sizeLine ∧ ∃ its : List Value, Vals xs its ∧ IsTup h a its.toArray
  | .dK kvs => kvs.length ≤ sizeLine ∧ (a == sysModules) = false ∧ ∃ vs, KV kvs vs ∧ h.DictOf (mixKind P w) a vs
  | .dT kvs => kvs.length ≤ sizeLine ∧ (a == sysModules) = false ∧ ∃ xs : List (List Key × Addr × Value),
      Paired (fun (p : List Key × V) (q : List Key × Addr × Value) => p.1 = q.1 ∧ H q.2.1 = some (.tup (p.1.map kV)) ∧ RelV p.2 q.2.2) kvs xs ∧
      ∃ o es ep, h.get? a = some o ∧ o.ExactDict ∧ o.data = .dict es ep ∧ es.toList = xs.map (entryOfKey (tupleKind (mixKind P w))) ∧ (xs.map (·.1)).Nodup
  | .set S n => h.SetOf (intKind P w) a S n
  | .ins C dx fs => H dx = some (.own a) ∧ fs.length ≤ 1000 ∧ dx ≠ a ∧ h.get? a = some (PySem.W.instObj C dx) ∧
      ∃ mA, h.Ns1 dx mA ∧ (∀ f, RelO (fs.lookup f) (mA f)) ∧ PySem.Within mA (fs.map (·.1))
  | .own _ => ∃ o, h.get? a = some o
  | .xd fs => ∃ mA, h.Ns1 a mA ∧ ∀ f, RelO (fs.lookup f) (mA f)
  | .rng lo hi => ∃ t u v, h.get? a = some { cls := .type "range", data := .fields #[.int lo t, .int hi u, .int 1 v] }
  | .frz o u => h.get? a = some o ∧ ObjOk H h a u
  | .tbl ps => h.get? a = some { cls := .none, data := .fields ps }
  | .met f x => h.get? a = some (PySem.W.methodObj (.ref f) (.ref x))
  | .ext φ => φ h ∧ (∃ o, h.get? a = some o) ∧ ∀ h1 h2 : Heap, φ h1 → (∀ o, h1.get? a = some o → h2.get? a = some o) → φ h2
/-- the abstract heap is held -/
def HOk (H : Hp) (h : Heap) : Prop := ∀ a o, H a = some o → ObjOk P w H h a o
end

section
variable {P : Program} {w : World} {H H' : Hp} {h h' : Heap} {a : Addr} {o : HO}
theorem ObjOk.lt (x : ObjOk P w H h a o) : a < h.objs.size := by
  cases o with
  | lst xs => obtain ⟨_, _, _, _, e⟩ := x; exact Heap.lt_size e
  | tup xs => obtain ⟨_, _, _, p⟩ := x; exact p.lt
  | dK kvs => obtain ⟨_, _, _, _, o, _, _, e, _⟩ := x; exact Heap.lt_size e
  | dT kvs => obtain ⟨_, _, _, _, o, _, _, e, _⟩ := x; exact Heap.lt_size e
  | set S n => obtain ⟨o, _, _, _, e, _⟩ := x; exact Heap.lt_size e
  | ins C dx fs => obtain ⟨_, _, _, e, _⟩ := x; exact Heap.lt_size e
  | own y => obtain ⟨_, e⟩ := x; exact Heap.lt_size e
  | xd fs => obtain ⟨_, ⟨_, _, _, e, _⟩, _⟩ := x; exact Heap.lt_size e
  | rng lo hi => obtain ⟨_, _, _, e⟩ := x; exact Heap.lt_size e
  | frz ob u => obtain ⟨e, _⟩ := x; exact Heap.lt_size e
  | tbl ps => exact Heap.lt_size (show h.get? a = some _ from x)
  | met f y => exact Heap.lt_size (show h.get? a = some _ from x)
  | ext φ => obtain ⟨_, ⟨_, e⟩, _⟩ := x; exact Heap.lt_size e
theorem Paired.mapP {α β : Type} {F G : α → β → Prop} : ∀ {l₁ : List α} {l₂ : List β}, Paired F l₁ l₂ → (∀ a b, F a b → G a b) → Paired G l₁ l₂
  | _, _, .nil, _ => .nil
  | _, _, .cons r t, f => .cons (f _ _ r) (Paired.mapP t f)
theorem Paired.imp' {α β : Type} {F G : α → β → Prop} (f : ∀ a b, F a b → G a b) {l₁ : List α} {l₂ : List β} (r : Paired F l₁ l₂) : Paired G l₁ l₂ := Paired.mapP r f
/-- what an object's description leans on: its own object, its own dict, the tuples -/
theorem ObjOk.stay (x : ObjOk P w H h a o) (k : ∀ b u, (b = a ∨ H b = some (.own a)) → h.get? b = some u → h'.get? b = some u)
    (ho : ∀ b, H b = some (.own a) → H' b = some (.own a)) (ht : ∀ b xs, H b = some (.tup xs) → H' b = some (.tup xs)) : ObjOk P w H' h' a o := by
  induction o with
  | lst xs => obtain ⟨z, its, n, r, e⟩ := x; exact ⟨z, its, n, r, k _ _ (.inl rfl) e⟩
  | tup xs => obtain ⟨z, its, r, ob, e, c⟩ := x; exact ⟨z, its, r, ob, k _ _ (.inl rfl) e, c⟩
  | dK kvs => obtain ⟨z, y, vs, r, ob, es, ep, e, c⟩ := x; exact ⟨z, y, vs, r, ob, es, ep, k _ _ (.inl rfl) e, c⟩
  | dT kvs =>
    obtain ⟨z, y, xs, r, ob, es, ep, e, c⟩ := x
    exact ⟨z, y, xs, Paired.mapP r fun p q z => ⟨z.1, ht _ _ z.2.1, z.2.2⟩, ob, es, ep, k _ _ (.inl rfl) e, c⟩
  | set S n => obtain ⟨ob, es, ep, t, e, c⟩ := x; exact ⟨ob, es, ep, t, k _ _ (.inl rfl) e, c⟩
  | ins C dx fs =>
    obtain ⟨d, z, ne, e, mA, ⟨od, es, ep, e2, c⟩, r⟩ := x
    exact ⟨ho _ d, z, ne, k _ _ (.inl rfl) e, mA, ⟨od, es, ep, k _ _ (.inr d) e2, c⟩, r⟩
  | own y => obtain ⟨ob, e⟩ := x; exact ⟨ob, k _ _ (.inl rfl) e⟩
  | xd fs => obtain ⟨mA, ⟨od, es, ep, e, c⟩, r⟩ := x; exact ⟨mA, ⟨od, es, ep, k _ _ (.inl rfl) e, c⟩, r⟩
  | rng lo hi => obtain ⟨t, u, v, e⟩ := x; exact ⟨t, u, v, k _ _ (.inl rfl) e⟩
  | frz ob u ih => obtain ⟨e, q⟩ := x; exact ⟨k _ _ (.inl rfl) e, ih q⟩
  | tbl ps =>
    have e : h.get? a = some { cls := .none, data := .fields ps } := x
    show h'.get? a = some { cls := .none, data := .fields ps }
    exact k a _ (.inl rfl) e
  | met f y =>
    have e : h.get? a = some (PySem.W.methodObj (.ref f) (.ref y)) := x
    show h'.get? a = some (PySem.W.methodObj (.ref f) (.ref y))
    exact k a _ (.inl rfl) e
  | ext φ => obtain ⟨p, ⟨o, e⟩, st⟩ := x; exact ⟨st _ _ p fun o q => k _ _ (.inl rfl) q, ⟨o, k _ _ (.inl rfl) e⟩, st⟩
theorem HOk.lt (x : HOk P w H h) (e : H a = some o) : a < h.objs.size := (x a o e).lt
theorem HOk.fresh (x : HOk P w H h) (e : h.objs.size ≤ a) : H a = none := by
  cases q : H a with
  | none => rfl
  | some u => exact absurd (Nat.lt_of_lt_of_le (x.lt q) e) (Nat.lt_irrefl _)
/-- every object of the heap is kept -/
theorem HOk.kept (x : HOk P w H h) (k : ∀ b u, h.get? b = some u → h'.get? b = some u) : HOk P w H h' := fun a o e =>
  (x a o e).stay (fun b u _ q => k b u q) (fun _ q => q) fun _ _ q => q
/-- a new object is laid and tracked -/
theorem HOk.laid (x : HOk P w H h) (k : ∀ b u, h.get? b = some u → h'.get? b = some u) (hp : h.objs.size ≤ a) (new : ObjOk P w (upd H a o) h' a o) : HOk P w (upd H a o) h' := fun b u e => by
  have hn := x.fresh hp
  by_cases hb : b = a
  · subst hb; rw [upd_same] at e; cases e; exact new
  · rw [upd_ne hb] at e
    exact (x b u e).stay (fun c v _ q => k c v q) (fun c q => by rw [upd_ne (ne_of_none q hn)]; exact q) fun c xs q => by rw [upd_ne (ne_of_none q hn)]; exact q
end

/-- what may be read as u: it is u, or a known u -/
def Rd (H : Hp) (a : Addr) (u : HO) : Prop := H a = some u ∨ ∃ o, H a = some (.frz o u)
theorem Rd.of {H : Hp} {a : Addr} {u : HO} (h : H a = some u) : Rd H a u := .inl h
theorem Rd.ok {P : Program} {w : World} {H : Hp} {h : Heap} {a : Addr} {u : HO} (r : Rd H a u) (x : HOk P w H h) : ObjOk P w H h a u := by
  rcases r with r | ⟨o, r⟩
  · exact x a u r
  · obtain ⟨_, q⟩ := x a _ r
    exact q
/-- what may be written -/
def Mut : Option HO → Prop
  | some (.lst _) => True
  | some (.dK _) => True
  | some (.dT _) => True
  | some (.set _ _) => True
  | some (.ins _ _ _) => True
  | some (.ext _) => True
  | _ => False
section
variable {P : Program} {w : World} {H : Hp} {h h' : Heap} {x e : Addr} {o' : HO}
/-- the object at e is changed: x itself, or the dict of the instance x -/
theorem HOk.write (ok : HOk P w H h) (mu : Mut (H x)) (he : e = x ∨ H e = some (.own x)) (k : ∀ b u, b ≠ e → h.get? b = some u → h'.get? b = some u) (heo : ∃ u, h'.get? e = some u)
    (new : ObjOk P w (upd H x o') h' x o') : HOk P w (upd H x o') h' := fun b u q => by
  have nown : ∀ c y, H c = some (.own y) → c ≠ x := fun c y r z => by subst z; rw [r] at mu; exact mu
  have ntup : ∀ c xs, H c = some (.tup xs) → c ≠ x := fun c xs r z => by subst z; rw [r] at mu; exact mu
  by_cases hb : b = x
  · subst hb; rw [upd_same] at q; cases q; exact new
  · rw [upd_ne hb] at q
    by_cases hbe : b = e
    · have q' : H b = some (.own x) := by
        rcases he with z | z
        · exact absurd (hbe.trans z) hb
        · rw [hbe]; exact z
      rw [q] at q'; cases q'
      obtain ⟨v, hv⟩ := heo
      exact ⟨v, by rw [hbe]; exact hv⟩
    · refine (ok b u q).stay (fun c v hc r => k c v ?_ r) (fun c r => by rw [upd_ne (nown c b r)]; exact r) fun c xs r => by rw [upd_ne (ntup c xs r)]; exact r
      rcases hc with rfl | hc
      · exact hbe
      · rintro rfl
        rcases he with z | z
        · exact nown c b hc z
        · rw [hc] at z; cases z; exact hb rfl
end

/-! ### kept unless tracked; of the frames at fs (the callers') the slots may change (an exception that passes writes there); of the records at ex (iterators) nothing is said -/
structure Un (fs ex : List Addr) (H H' : Hp) (h h' : Heap) : Prop where
  keep : ∀ b o, h.get? b = some o → H b = none → b ∉ fs → b ∉ ex → h'.get? b = some o
  slot : ∀ b o, h.get? b = some o → H b = none → b ∈ fs → b ∉ ex → ∃ sl, h'.get? b = some { o with slots := sl }
  free : ∀ b o, h.get? b = some o → H b = none → b ∉ ex → H' b = none
  there : ∀ b o, h.get? b = some o → b ∉ ex → ∃ o', h'.get? b = some o'
  tups : ∀ b xs, H b = some (.tup xs) → H' b = some (.tup xs)
  frzs : ∀ b o u, H b = some (.frz o u) → H' b = some (.frz o u)
  tbls : ∀ b ps, H b = some (.tbl ps) → ∃ more, H' b = some (.tbl (ps ++ more))
section
variable {fs fs' ex ex' : List Addr} {H H1 H2 : Hp} {h h1 h2 h' : Heap} {a x e : Addr} {o : HO}
theorem Un.any (u : Un fs ex H H1 h h1) {b : Addr} {ob : Obj} (q : h.get? b = some ob) (n : H b = none) (hx : b ∉ ex) : ∃ sl, h1.get? b = some { ob with slots := sl } := by
  by_cases hb : b ∈ fs
  · exact u.slot b ob q n hb hx
  · exact ⟨ob.slots, u.keep b ob q n hb hx⟩
theorem Un.trans (a : Un fs ex H H1 h h1) (b : Un fs ex H1 H2 h1 h2) : Un fs ex H H2 h h2 where
  keep := fun c ob q n hc hx => b.keep c ob (a.keep c ob q n hc hx) (a.free c ob q n hx) hc hx
  slot := fun c ob q n hc hx => by
    obtain ⟨sl, e1⟩ := a.slot c ob q n hc hx
    obtain ⟨sl', e2⟩ := b.slot c _ e1 (a.free c ob q n hx) hc hx
    exact ⟨sl', e2⟩
  free := fun c ob q n hx => by
    obtain ⟨o', e1⟩ := a.there c ob q hx
    exact b.free c o' e1 (a.free c ob q n hx) hx
  there := fun c ob q hx => by
    obtain ⟨o', e1⟩ := a.there c ob q hx
    exact b.there c o' e1 hx
  tups := fun c xs q => b.tups c xs (a.tups c xs q)
  frzs := fun c ob xs q => b.frzs c ob xs (a.frzs c ob xs q)
  tbls := fun c ps q => by
    obtain ⟨m1, e1⟩ := a.tbls c ps q
    obtain ⟨m2, e2⟩ := b.tbls c _ e1
    exact ⟨m1 ++ m2, by rw [e2, Array.append_assoc]⟩
theorem Un.kept (k : ∀ b u, h.get? b = some u → h'.get? b = some u) : Un fs ex H H h h' :=
  ⟨fun b ob q _ _ _ => k b ob q, fun b ob q _ _ _ => ⟨ob.slots, k b ob q⟩, fun _ _ _ n _ => n, fun b ob q _ => ⟨ob, k b ob q⟩, fun _ _ q => q, fun _ _ _ q => q, fun _ ps q => ⟨#[], by rw [q]; simp⟩⟩
theorem Un.refl : Un fs ex H H h h := Un.kept fun _ _ q => q
theorem Un.laid (k : ∀ b u, h.get? b = some u → h'.get? b = some u) (hp : h.objs.size ≤ a) (hn : H a = none) : Un fs ex H (upd H a o) h h' where
  keep := fun b u q _ _ _ => k b u q
  slot := fun b u q _ _ _ => ⟨u.slots, k b u q⟩
  free := fun b u q n _ => by rw [upd_ne (Nat.ne_of_lt (Nat.lt_of_lt_of_le (Heap.lt_size q) hp))]; exact n
  there := fun b u q _ => ⟨u, k b u q⟩
  tups := fun b xs q => by rw [upd_ne (ne_of_none q hn)]; exact q
  frzs := fun b u xs q => by rw [upd_ne (ne_of_none q hn)]; exact q
  tbls := fun b ps q => ⟨#[], by rw [upd_ne (ne_of_none q hn), q]; simp⟩
theorem Un.write (mu : Mut (H x)) (he : e = x ∨ H e = some (.own x)) (k : ∀ b u, b ≠ e → h.get? b = some u → h'.get? b = some u) (heo : ∃ u, h'.get? e = some u) : Un fs ex H (upd H x o) h h' := by
  have hx : ∀ b, H b = none → b ≠ x := fun b n z => by subst z; rw [n] at mu; exact mu
  have hb : ∀ b, H b = none → b ≠ e := fun b n z => by
    subst z
    rcases he with r | r
    · exact hx b n r
    · rw [n] at r; cases r
  have hm : ∀ b u, H b = some u → ¬ Mut (some u) → b ≠ x := fun b u q nm z => by subst z; rw [q] at mu; exact nm mu
  refine ⟨fun b u q n _ _ => k b u (hb b n) q, fun b u q n _ _ => ⟨u.slots, k b u (hb b n) q⟩, fun b u q n _ => by rw [upd_ne (hx b n)]; exact n, fun b u q _ => ?_,
    fun b xs q => by rw [upd_ne (hm b _ q fun z => z)]; exact q, fun b u xs q => by rw [upd_ne (hm b _ q fun z => z)]; exact q, fun b ps q => ⟨#[], by rw [upd_ne (hm b _ q fun z => z), q]; simp⟩⟩
  by_cases hbe : b = e
  · subst hbe; exact heo
  · exact ⟨u, k b u hbe q⟩
theorem Un.mono (u : Un fs ex H H1 h h1) (hs : ∀ b ∈ fs, b ∈ fs') (hx : ∀ b ∈ ex, b ∈ ex') : Un fs' ex' H H1 h h1 :=
  ⟨fun b ob q n hb he => u.keep b ob q n (fun z => hb (hs b z)) fun z => he (hx b z), fun _ _ q n _ he => u.any q n fun z => he (hx _ z), fun b ob q n he => u.free b ob q n fun z => he (hx b z), fun b ob q he => u.there b ob q fun z => he (hx b z), u.tups, u.frzs, u.tbls⟩
end

/-! ### the heap without what is tracked -/
def trk (h : Heap) (H : Hp) : List Addr := (List.range h.objs.size).filter fun a => (H a).isSome
def hidT (h : Heap) (H : Hp) : Heap := PySem.W.hideAll h (trk h H)
theorem hidT_size (h : Heap) (H : Hp) : (hidT h H).objs.size = h.objs.size := PySem.W.hideAll_size _ _
theorem hidT_get {h : Heap} {H : Hp} {b : Addr} {o : Obj} (e : h.get? b = some o) (n : H b = none) : (hidT h H).get? b = some o :=
  PySem.W.hideAll_get _ e fun hm => by
    have q : (H b).isSome = true := (List.mem_filter.mp hm).2
    rw [n] at q; simp at q
theorem of_hidT {h : Heap} {H : Hp} {b : Addr} {o : Obj} (e : (hidT h H).get? b = some o) : h.get? b = some o ∧ H b = none := by
  have e' : h.get? b = some o := PySem.W.of_hideAll (trk h H) e
  refine ⟨e', ?_⟩
  cases q : H b with
  | none => rfl
  | some x =>
    have hm : b ∈ trk h H := List.mem_filter.mpr ⟨List.mem_range.mpr (Heap.lt_size e'), by simp [q]⟩
    have z : (hidT h H).get? b = none := PySem.W.hideAll_none (trk h H) hm
    rw [z] at e; cases e

/-! ### OpenK's ledger, filled with every new object but one -/
def allNews (g h : Heap) (L : Addr) : List (Addr × Obj) := (List.range h.objs.size).filterMap fun a => if a = L ∨ (g.get? a).isSome = true then none else (h.get? a).map fun o => (a, o)
theorem mem_allNews {g h : Heap} {L a : Addr} {o : Obj} (h1 : a ≠ L) (h2 : g.get? a = none) (h3 : h.get? a = some o) : (a, o) ∈ allNews g h L :=
  List.mem_filterMap.mpr ⟨a, List.mem_range.mpr (Heap.lt_size h3), by simp [h1, h2, h3]⟩
theorem of_mem_allNews {g h : Heap} {L : Addr} {p : Addr × Obj} (hp : p ∈ allNews g h L) : p.1 ≠ L ∧ g.get? p.1 = none ∧ h.get? p.1 = some p.2 := by
  obtain ⟨b, _, e⟩ := List.mem_filterMap.mp hp
  split at e
  · cases e
  · rename_i hn
    cases q : h.get? b with
    | none => rw [q] at e; simp at e
    | some u =>
      rw [q] at e
      simp only [Option.map_some, Option.some.injEq] at e
      subst e
      refine ⟨fun z => hn (.inl z), ?_, q⟩
      show g.get? b = none
      cases r : g.get? b with
      | none => rfl
      | some v => exact (hn (.inr (by simp [r]))).elim
def rest (g h : Heap) (L d : Addr) : List (Addr × Obj) := (allNews g h L).filter fun p => decide (p.1 ≠ d)
theorem rest_ne {g h : Heap} {L d : Addr} : ∀ p ∈ rest g h L d, p.1 ≠ d := fun p hp => of_decide_eq_true (List.mem_filter.mp hp).2
theorem mem_rest {g h : Heap} {L d a : Addr} {o : Obj} (h1 : a ≠ L) (h2 : g.get? a = none) (h3 : h.get? a = some o) (h4 : a ≠ d) : (a, o) ∈ rest g h L d :=
  List.mem_filter.mpr ⟨mem_allNews h1 h2 h3, decide_eq_true h4⟩
theorem news_all {g h : Heap} {L : Addr} : News g L h (allNews g h L) := fun p hp => let ⟨a, b, c⟩ := of_mem_allNews hp; ⟨c, a, b⟩
theorem news_at {g h : Heap} {L d : Addr} {o : Obj} (h1 : d ≠ L) (h2 : g.get? d = none) (h3 : h.get? d = some o) : News g L h ((d, o) :: rest g h L d) := fun p hp => by
  rcases List.mem_cons.mp hp with rfl | hp
  · exact ⟨h3, h1, h2⟩
  · exact news_all p (List.mem_filter.mp hp).1
/-- behind a rule that changed d alone: all else but the frame is kept -/
theorem kept_of_news {g h h' : Heap} {L d : Addr} {m : Str → Option Value} (k : ∀ b o, g.get? b = some o → h.get? b = some o) (F : Fr g L h' m) (N : News g L h' (rest g h L d)) :
    ∀ b o, b ≠ L → b ≠ d → h.get? b = some o → h'.get? b = some o := fun b o h1 h2 e => by
  cases q : g.get? b with
  | some u =>
    have := k b u q
    rw [e] at this; cases this
    exact F.keep b _ q
  | none => exact (N (b, o) (mem_rest h1 q e h2)).1
end L2

namespace L2
open PySem PySem.Spec PyProof.Rows

/-- the module's facts, over the base: the heap at the law's entry without what is tracked there -/
structure Mod (K : PySem.W.Frag) (mg : Str → Option Value) (base : Heap) : Prop where
  kin : K.In base
  glob : base.Ns mainGlobals mg
  blt : ∃ mb, base.Ns builtinsNs mb ∧ ∀ x : Str, x ≠ "__name__" → mb x = bootBuiltins x
  nolimit : base.NoLimit

/-- the context: a def's body (or a comprehension's block) running. base: fixed through the whole law; s₀, H₀: the entry; outer: the frames whose slots others may change (a def's callers); stack: all frames that run;
   ex: iterators that were made ahead of the entry and are walked here (a comprehension's); fn: the names whose cells were made at the entry (a def: all; a comprehension's block: its own); calm: not within an except suite; pn: pins that every state bears; xe: what is wanted of an exception that leaves the code -/
structure Cx where
  prog : Program
  w : World
  K : PySem.W.Frag
  mg : Str → Option Value
  base : Heap
  A : Around
  N : List Str
  s₀ : Shared
  H₀ : Hp
  env : Env
  outer : List Env
  stack : List Env
  ex : List Addr
  fn : Str → Bool
  calm : Bool
  pn : List (Addr × Obj)
  xe : Value → Shared → Prop
/-- the callers' frames -/
def frs (l : List Env) : List Addr := l.filterMap (·.frame)
abbrev Cx.fs (X : Cx) : List Addr := frs X.outer

def Vis (sc : Scope) (x : Str) : Prop := sc.names.lookup x = some .local ∨ sc.names.lookup x = some .cell ∨ sc.names.lookup x = some .free
def Loc (sc : Scope) (x : Str) : Prop := sc.names.lookup x = some .local ∨ sc.names.lookup x = some .cell
def Look (env : Env) (h : Heap) (m : Str → Option Value) (x : Str) (u : Value) : Prop :=
  (env.kindOf x = some .local ∧ m x = some u) ∨ ((env.kindOf x = some .cell ∨ env.kindOf x = some .free) ∧ ∃ c, env.cells.lookup x = some c ∧ h.IsCell c (some u))

structure Cx.Ok (X : Cx) : Prop where
  mod : Mod X.K X.mg X.base
  kind : X.env.scope.kind = .function
  glob : X.env.globals = mainGlobals
  blt : X.env.builtins = builtinsNs
  above : X.s₀.heap.objs.size ≤ X.env.locals
  inj : ∀ x y c, X.env.cells.lookup x = some c → X.env.cells.lookup y = some c → x = y
  has : ∀ x, (X.env.kindOf x = some .cell ∨ X.env.kindOf x = some .free) → ∃ c, X.env.cells.lookup x = some c
  cab : ∀ x c, X.fn x = true → X.env.cells.lookup x = some c → X.s₀.heap.objs.size ≤ c
  hd : X.calm = true → X.A.handled = none
  frames : X.A.frames = some X.stack
  stk : X.stack = X.outer ∨ (X.stack = X.env :: X.outer ∧ X.env.frame = some X.env.locals)
  exf : ∀ b ∈ X.ex, b ≠ X.env.locals ∧ ∀ x c, X.env.cells.lookup x = some c → c ≠ b
  bs : ∀ b o, X.base.get? b = some o → X.s₀.heap.get? b = some o ∧ X.H₀ b = none
  bsz : X.base.objs.size ≤ X.s₀.heap.objs.size
  noex : ∀ b o, X.base.get? b = some o → b ∉ X.ex
  exfs : ∀ b ∈ X.ex, b ∉ X.fs
  funs : X.s₀.heap.FunFrames X.base X.outer
  frf : ∀ b ∈ X.fs, X.H₀ b = none

structure Inv (X : Cx) (pins : List (Addr × Obj)) (σ : List (Option V)) (H : Hp) (s : Shared) : Prop where
  ok : X.Ok
  os : s.os = X.s₀.os
  bare : AllBare s.gens
  base : Un X.fs X.ex X.H₀ H X.s₀.heap s.heap
  loc : ∃ m, s.heap.Ns X.env.locals m ∧ ∀ (i : Nat) (x : Str) (v : V), X.N[i]? = some x → σ[i]? = some (some v) → Vis X.env.scope x → ∃ u, RelV v u ∧ Look X.env s.heap m x u
  cell : ∀ x c, X.env.cells.lookup x = some c → ∃ v, s.heap.IsCell c v
  free : H X.env.locals = none
  freeC : ∀ x c, X.env.cells.lookup x = some c → H c = none
  pin : ∀ p ∈ X.pn ++ pins, s.heap.get? p.1 = some p.2 ∧ H p.1 = none ∧ p.1 ≠ X.env.locals ∧ p.1 ∉ X.fs ∧ ∀ v, p.2.data ≠ .cell v
  hok : HOk X.prog X.w H s.heap
  len : σ.length = X.N.length

section
variable {X : Cx} {pins : List (Addr × Obj)} {σ : List (Option V)} {H H' : Hp} {s : Shared} {h' : Heap}

theorem Cx.Ok.nofr (ok : X.Ok) {b : Addr} {o : Obj} (e : X.base.get? b = some o) : b ∉ X.fs := fun hb => by
  have := (ok.funs.mem hb).1
  rw [e] at this; cases this
theorem Inv.bs (I : Inv X pins σ H s) : ∀ b o, X.base.get? b = some o → s.heap.get? b = some o ∧ H b = none := fun b o e =>
  ⟨I.base.keep b o (I.ok.bs b o e).1 (I.ok.bs b o e).2 (I.ok.nofr e) (I.ok.noex b o e), I.base.free b o (I.ok.bs b o e).1 (I.ok.bs b o e).2 (I.ok.noex b o e)⟩
theorem Inv.bk (I : Inv X pins σ H s) : ∀ b o, X.base.get? b = some o → s.heap.get? b = some o := fun b o e => (I.bs b o e).1
theorem Inv.mod (I : Inv X pins σ H s) : Mod X.K X.mg X.base := I.ok.mod
theorem Inv.kIn (I : Inv X pins σ H s) : X.K.In s.heap := I.ok.mod.kin.keeps I.bk
theorem Inv.nolimit (I : Inv X pins σ H s) : s.heap.NoLimit := I.ok.mod.nolimit.keeps I.bk
/-- the frame over the base: for OpenK's rules (K.In X.base is I.mod.kin) -/
theorem Inv.fr (I : Inv X pins σ H s) : ∃ m, Fr X.base X.env.locals s.heap m :=
  let ⟨m, hn, _⟩ := I.loc
  ⟨m, hn, I.bk, Nat.le_trans I.ok.bsz I.ok.above⟩
theorem Inv.lt (I : Inv X pins σ H s) : X.env.locals < s.heap.objs.size := let ⟨_, hn, _⟩ := I.loc; hn.lt
theorem Inv.sz (I : Inv X pins σ H s) : X.s₀.heap.objs.size ≤ s.heap.objs.size := Nat.le_trans I.ok.above (Nat.le_of_lt I.lt)
theorem Inv.nofs (I : Inv X pins σ H s) {a : Addr} (h : s.heap.objs.size ≤ a) : a ∉ X.fs := fun hb => by
  obtain ⟨_, o, ho, _⟩ := I.ok.funs.mem hb
  exact absurd (Nat.lt_of_lt_of_le (Heap.lt_size ho) (Nat.le_trans I.sz h)) (Nat.lt_irrefl _)
theorem Inv.cne (I : Inv X pins σ H s) : ∀ x c, X.env.cells.lookup x = some c → c ≠ X.env.locals := fun x c e z => by
  obtain ⟨v, o, ho, hd⟩ := I.cell x c e
  obtain ⟨m, ⟨o', es, ep, ho', hd', _⟩, _⟩ := I.loc
  rw [z, ho'] at ho; cases ho; rw [hd'] at hd; cases hd
theorem Inv.funs (I : Inv X pins σ H s) : s.heap.FunFrames X.base X.outer := by
  have all : ∀ (l : List Env), (∀ b ∈ frs l, b ∈ X.fs) → X.s₀.heap.FunFrames X.base l → s.heap.FunFrames X.base l := by
    intro l
    induction l with
    | nil => intro _ _; trivial
    | cons env r ih =>
      intro hs hl
      obtain ⟨hk, ⟨L, o, hf, hn, ho, hd⟩, hr⟩ := hl
      have hL : L ∈ X.fs := hs L (by unfold frs; rw [List.filterMap_cons, hf]; exact List.mem_cons_self)
      obtain ⟨sl, e⟩ := I.base.slot L o ho (I.ok.frf L hL) hL fun z => I.ok.exfs L z hL
      exact ⟨hk, ⟨L, _, hf, hn, e, hd⟩, ih (fun b hb => hs b (by unfold frs; rw [List.filterMap_cons, hf]; exact List.mem_cons_of_mem _ hb)) hr⟩
  exact all X.outer (fun _ hb => hb) I.ok.funs

/-- the frames that run, for a call -/
theorem Inv.stack (I : Inv X pins σ H s) : s.heap.FunFrames X.base X.stack := by
  rcases I.ok.stk with e | ⟨e, hf⟩
  · rw [e]; exact I.funs
  · rw [e]
    obtain ⟨m, hn, _⟩ := I.loc
    refine .cons (by rw [I.ok.kind]; decide) hf hn ?_ I.funs
    exact Heap.get?_none_of_le (Nat.le_trans I.ok.bsz I.ok.above)
theorem Inv.stkSub (I : Inv X pins σ H s) : ∀ b ∈ frs X.stack, b ∈ X.env.locals :: X.fs := fun b hb => by
  rcases I.ok.stk with e | ⟨e, hf⟩
  · rw [e] at hb; exact List.mem_cons_of_mem _ hb
  · rw [e] at hb
    unfold frs at hb
    rw [List.filterMap_cons, hf] at hb
    exact hb
theorem Inv.stkFree (I : Inv X pins σ H s) : ∀ b ∈ frs X.stack, H b = none := fun b hb => by
  rcases List.mem_cons.mp (I.stkSub b hb) with e | hb
  · rw [e]; exact I.free
  · obtain ⟨_, o, ho, _⟩ := I.ok.funs.mem hb
    exact I.base.free b o ho (I.ok.frf b hb) fun z => I.ok.exfs b z hb

/-- THE STEP: the untracked objects but the frame and the records at ch are kept (the callers' frames up to slots), the frame's map is kept, the new abstract heap is held -/
theorem Inv.step {g' : Array GenState} {t' : Nat} {d' : Drawn} {ch : List Addr} (I : Inv X pins σ H s)
    (hch : ∀ b ∈ ch, (b ∈ X.ex ∨ X.s₀.heap.objs.size ≤ b) ∧ b ≠ X.env.locals ∧ (∀ x c, X.env.cells.lookup x = some c → c ≠ b) ∧ ∀ p ∈ X.pn ++ pins, p.1 ≠ b)
    (keep : ∀ b o, b ≠ X.env.locals → b ∉ X.fs → b ∉ ch → s.heap.get? b = some o → H b = none → h'.get? b = some o)
    (slot : ∀ b o, b ≠ X.env.locals → b ∈ X.fs → b ∉ ch → s.heap.get? b = some o → H b = none → ∃ sl, h'.get? b = some { o with slots := sl }) (free : ∀ b o, b ∉ ch → s.heap.get? b = some o → H b = none → H' b = none)
    (there : ∀ b o, b ∉ ch → s.heap.get? b = some o → ∃ o', h'.get? b = some o')
    (tups : ∀ b xs, H b = some (.tup xs) → H' b = some (.tup xs)) (frzs : ∀ b o u, H b = some (.frz o u) → H' b = some (.frz o u)) (tbls : ∀ b ps, H b = some (.tbl ps) → ∃ more, H' b = some (.tbl (ps ++ more)))
    (ns : ∀ m, s.heap.Ns X.env.locals m → h'.Ns X.env.locals m) (hok : HOk X.prog X.w H' h') (hg : AllBare g') :
    Inv X pins σ H' { s with heap := h', gens := g', drawn := d', toks := t' } := by
  have neL : ∀ b o, X.s₀.heap.get? b = some o → b ≠ X.env.locals := fun b o e => Nat.ne_of_lt (Nat.lt_of_lt_of_le (Heap.lt_size e) I.ok.above)
  have neC : ∀ b o, X.s₀.heap.get? b = some o → b ∉ X.ex → b ∉ ch := fun b o e hx hb => by
    rcases (hch b hb).1 with z | z
    · exact hx z
    · exact absurd (Nat.lt_of_lt_of_le (Heap.lt_size e) z) (Nat.lt_irrefl _)
  have cellK : ∀ x c, X.env.cells.lookup x = some c → ∀ v, s.heap.IsCell c v → h'.IsCell c v := fun x c e v ⟨o, ho, hd⟩ => by
    have nch : c ∉ ch := fun z => (hch c z).2.2.1 x c e rfl
    by_cases hc : c ∈ X.fs
    · obtain ⟨sl, q⟩ := slot c o (I.cne x c e) hc nch ho (I.freeC x c e)
      exact ⟨_, q, hd⟩
    · exact ⟨o, keep c o (I.cne x c e) hc nch ho (I.freeC x c e), hd⟩
  refine ⟨I.ok, I.os, hg, ⟨fun b o e n hb hx => ?_, fun b o e n hb hx => ?_, fun b o e n hx => ?_, fun b o e hx => ?_, fun b xs e => tups b xs (I.base.tups b xs e), fun b o xs e => frzs b o xs (I.base.frzs b o xs e), fun b ps e => ?_⟩, ?_, fun x c e => ?_, ?_, fun x c e => ?_, fun p hp => ?_, hok, I.len⟩
  · exact keep b o (neL b o e) hb (neC b o e hx) (I.base.keep b o e n hb hx) (I.base.free b o e n hx)
  · obtain ⟨sl, e1⟩ := I.base.slot b o e n hb hx
    obtain ⟨sl', e2⟩ := slot b _ (neL b o e) hb (neC b o e hx) e1 (I.base.free b o e n hx)
    exact ⟨sl', e2⟩
  · obtain ⟨o', e1⟩ := I.base.there b o e hx
    exact free b o' (neC b o e hx) e1 (I.base.free b o e n hx)
  · obtain ⟨o', e1⟩ := I.base.there b o e hx
    exact there b o' (neC b o e hx) e1
  · obtain ⟨m1, e1⟩ := I.base.tbls b ps e
    obtain ⟨m2, e2⟩ := tbls b _ e1
    exact ⟨m1 ++ m2, by rw [e2, Array.append_assoc]⟩
  · obtain ⟨m, hn, hl⟩ := I.loc
    refine ⟨m, ns m hn, fun i x v e1 e2 e3 => ?_⟩
    obtain ⟨u, r, l⟩ := hl i x v e1 e2 e3
    refine ⟨u, r, ?_⟩
    rcases l with l | ⟨k, c, e, z⟩
    · exact .inl l
    · exact .inr ⟨k, c, e, cellK x c e _ z⟩
  · obtain ⟨v, z⟩ := I.cell x c e
    exact ⟨v, cellK x c e v z⟩
  · obtain ⟨m, ⟨o, _, _, ho, _⟩, _⟩ := I.loc
    exact free _ o (fun z => (hch _ z).2.1 rfl) ho I.free
  · obtain ⟨v, o, ho, hd⟩ := I.cell x c e
    exact free c o (fun z => (hch c z).2.2.1 x c e rfl) ho (I.freeC x c e)
  · obtain ⟨e, n, ne, nf, d⟩ := I.pin p hp
    have nch : p.1 ∉ ch := fun z => (hch p.1 z).2.2.2 p hp rfl
    exact ⟨keep p.1 p.2 ne nf nch e n, free p.1 p.2 nch e n, ne, nf, d⟩
/-- .. where the frame's own object is kept too -/
theorem Inv.un {t' : Nat} (I : Inv X pins σ H s) (u : Un X.fs [] H H' s.heap h') (hok : HOk X.prog X.w H' h') : Inv X pins σ H' { s with heap := h', toks := t' } := by
  obtain ⟨m, ⟨o, es, ep, ho, r⟩, _⟩ := id I.loc
  obtain ⟨sl, hL⟩ := u.any ho I.free (by simp)
  exact I.step (g' := s.gens) (d' := s.drawn) (ch := []) (fun _ z => nomatch z) (fun b o _ hb _ e n => u.keep b o e n hb (by simp)) (fun b o _ hb _ e n => u.slot b o e n hb (by simp)) (fun b o _ e n => u.free b o e n (by simp)) (fun b o _ e => u.there b o e (by simp)) u.tups u.frzs u.tbls (fun m' hm => by
    obtain ⟨o', es', ep', ho', r'⟩ := hm
    rw [ho] at ho'; cases ho'
    exact ⟨_, es', ep', hL, r'⟩) hok I.bare
/-- behind a call (or a comprehension's block): the slots of this frame may have changed too, the records at ch may have turned -/
theorem Inv.call {g' : Array GenState} {t' : Nat} {d' : Drawn} {ch : List Addr} (I : Inv X pins σ H s) (u : Un (frs X.stack) ch H H' s.heap h') (hok : HOk X.prog X.w H' h') (hg : AllBare g')
    (hch : ∀ b ∈ ch, (b ∈ X.ex ∨ X.s₀.heap.objs.size ≤ b) ∧ b ≠ X.env.locals ∧ (∀ x c, X.env.cells.lookup x = some c → c ≠ b) ∧ ∀ p ∈ X.pn ++ pins, p.1 ≠ b) :
    Inv X pins σ H' { s with heap := h', gens := g', drawn := d', toks := t' } := by
  obtain ⟨m, ⟨o, es, ep, ho, r⟩, _⟩ := id I.loc
  obtain ⟨sl, hL⟩ := u.any ho I.free fun z => (hch _ z).2.1 rfl
  exact I.step (ch := ch) hch (fun b o hL hb hc e n => u.keep b o e n (fun z => (List.mem_cons.mp (I.stkSub b z)).elim hL hb) hc) (fun b o _ _ hc e n => u.any e n hc) (fun b o hc e n => u.free b o e n hc) (fun b o hc e => u.there b o e hc) u.tups u.frzs u.tbls (fun m' hm => by
    obtain ⟨o', es', ep', ho', r'⟩ := hm
    rw [ho] at ho'; cases ho'
    exact ⟨_, es', ep', hL, r'⟩) hok hg
/-- an untracked record of ours (an iterator) has turned -/
theorem Inv.turned {t' : Nat} {it : Addr} (I : Inv X pins σ H s) (k : ∀ b o, b ≠ it → s.heap.get? b = some o → h'.get? b = some o) (hn : H it = none) (hL : it ≠ X.env.locals)
    (h1 : it ∈ X.ex ∨ X.s₀.heap.objs.size ≤ it) (h2 : ∀ x c, X.env.cells.lookup x = some c → c ≠ it) (h3 : ∀ p ∈ X.pn ++ pins, p.1 ≠ it) : Inv X pins σ H { s with heap := h', toks := t' } := by
  have nit : ∀ b u, H b = some u → b ≠ it := fun b u e z => by rw [z, hn] at e; cases e
  refine I.step (g' := s.gens) (d' := s.drawn) (ch := [it]) (fun b hb => ?_) (fun b o _ _ hc e _ => k b o (fun z => hc (by simp [z])) e) (fun b o _ _ hc e _ => ⟨o.slots, k b o (fun z => hc (by simp [z])) e⟩) (fun _ _ _ _ n => n)
    (fun b o hc e => ⟨o, k b o (fun z => hc (by simp [z])) e⟩) (fun _ _ e => e) (fun _ _ _ e => e) (fun b ps e => ⟨#[], by rw [e]; simp⟩) (fun m hm => ?_) (fun b u e => ?_) I.bare
  · have e : b = it := by simpa using hb
    subst e
    exact ⟨h1, hL, h2, h3⟩
  · obtain ⟨o, es, ep, ho, r⟩ := hm
    exact ⟨o, es, ep, k _ o (Ne.symm hL) ho, r⟩
  · refine (I.hok b u e).stay (fun c v hc q => k c v ?_ q) (fun _ q => q) fun _ _ q => q
    rcases hc with z | z
    · rw [z]; exact nit b u e
    · exact nit c _ z
theorem Inv.tok (I : Inv X pins σ H s) (t : Nat) : Inv X pins σ H { s with toks := t } := I.un (h' := s.heap) (t' := t) Un.refl I.hok
/-- all objects kept -/
theorem Inv.kept {t' : Nat} (I : Inv X pins σ H s) (k : ∀ b u, s.heap.get? b = some u → h'.get? b = some u) : Inv X pins σ H { s with heap := h', toks := t' } := I.un (Un.kept k) (I.hok.kept k)
/-- a new object laid and tracked -/
theorem Inv.laid {a : Addr} {o : HO} {t' : Nat} (I : Inv X pins σ H s) (k : ∀ b u, s.heap.get? b = some u → h'.get? b = some u) (hp : s.heap.objs.size ≤ a) (new : ObjOk X.prog X.w (upd H a o) h' a o) :
    Inv X pins σ (upd H a o) { s with heap := h', toks := t' } := I.un (Un.laid k hp (I.hok.fresh hp)) (I.hok.laid k hp new)
/-- an object written -/
theorem Inv.write {x e : Addr} {o : HO} {t' : Nat} (I : Inv X pins σ H s) (mu : Mut (H x)) (he : e = x ∨ H e = some (.own x)) (k : ∀ b u, b ≠ e → s.heap.get? b = some u → h'.get? b = some u) (heo : ∃ u, h'.get? e = some u)
    (new : ObjOk X.prog X.w (upd H x o) h' x o) : Inv X pins σ (upd H x o) { s with heap := h', toks := t' } := I.un (Un.write mu he k heo) (I.hok.write mu he k heo new)
/-- forgetting slots, pins -/
theorem Inv.weak {σ' : List (Option V)} (I : Inv X pins σ H s) (hl : σ'.length = σ.length) (w : ∀ (i : Nat) v, σ'[i]? = some (some v) → σ[i]? = some (some v)) : Inv X pins σ' H s :=
  ⟨I.ok, I.os, I.bare, I.base, let ⟨m, hn, hl'⟩ := I.loc; ⟨m, hn, fun i x v e1 e2 e3 => hl' i x v e1 (w i v e2) e3⟩, I.cell, I.free, I.freeC, I.pin, I.hok, hl.trans I.len⟩
theorem Inv.pins_of {pins' : List (Addr × Obj)} (I : Inv X pins σ H s) (h : ∀ p ∈ pins', s.heap.get? p.1 = some p.2 ∧ H p.1 = none ∧ p.1 ≠ X.env.locals ∧ p.1 ∉ X.fs ∧ ∀ v, p.2.data ≠ .cell v) : Inv X pins' σ H s :=
  ⟨I.ok, I.os, I.bare, I.base, I.loc, I.cell, I.free, I.freeC, fun p hp => (List.mem_append.mp hp).elim (fun z => I.pin p (List.mem_append_left _ z)) (h p), I.hok, I.len⟩

theorem nodup_ix {N : List Str} (hN : N.Nodup) {i j : Nat} {x : Str} (a : N[i]? = some x) (b : N[j]? = some x) : i = j := by
  obtain ⟨h1, e1⟩ := List.getElem?_eq_some_iff.mp a
  obtain ⟨h2, e2⟩ := List.getElem?_eq_some_iff.mp b
  exact (List.getElem_inj hN).mp (e1.trans e2.symm)

/-- a name is stored; what changed -/
theorem store_ok2 {M : Model} {A : Around} {E : Value → Shared → Prop} {i : Nat} {x : Str} {v : V} {u : Value} {Q : Unit → Shared → Prop} (I : Inv X pins σ H s) (hN : X.N.Nodup) (hi : X.N[i]? = some x) (hx : Loc X.env.scope x) (r : RelV v u)
    (h : ∀ s', Inv X pins (σ.set i (some v)) H s' → (∃ a, Heap.SameBut a s.heap s'.heap ∧ (a = X.env.locals ∨ X.env.cells.lookup x = some a)) → Q () s') (hf : X.fn x = true ∨ X.env.scope.names.lookup x = some .local := by first | exact .inl rfl | exact .inr rfl | assumption) : wpAny M A (storeName X.env x u) Q E s := by
  obtain ⟨m, hn, hl⟩ := id I.loc
  have hcls : (X.env.scope.kind == .class || (X.env.scope.kind == .module && X.env.locals != X.env.globals)) = false := by rw [I.ok.kind]; rfl
  have hiσ : i < σ.length := by rw [I.len]; exact (List.getElem?_eq_some_iff.mp hi).1
  have cne := I.cne
  have tracked : ∀ {a : Addr} {h' : Heap}, (∃ o, s.heap.get? a = some o ∧ H a = none) → Heap.SameBut a s.heap h' → HOk X.prog X.w H h' := fun {a h'} ha hs b ob e => by
    obtain ⟨_, _, hfree⟩ := ha
    refine (I.hok b ob e).stay (fun c w' hc q => (hs.2 c ?_).trans q) (fun _ q => q) fun _ _ q => q
    rintro rfl
    rcases hc with rfl | hc
    · rw [hfree] at e; cases e
    · rw [hfree] at hc; cases hc
  rcases hx with hk | hk
  · refine wpAny_storeName_local hk hn (fun h' hn' hs => ?_) hcls
    obtain ⟨oL, _, _, hoL, _⟩ := id hn
    refine h _ ⟨I.ok, I.os, I.bare, ⟨fun b o e n hb hx => ?_, fun b o e n hb hx => ?_, I.base.free, fun b o e hx => ?_, I.base.tups, I.base.frzs, I.base.tbls⟩, ⟨_, hn', fun j y v' e1 e2 e3 => ?_⟩, fun y c e => ?_, I.free, I.freeC, fun p hp => ?_, tracked ⟨oL, hoL, I.free⟩ hs, by simpa using I.len⟩ ⟨_, hs, .inl rfl⟩
    · exact (hs.2 b (Nat.ne_of_lt (Nat.lt_of_lt_of_le (Heap.lt_size e) I.ok.above))).trans (I.base.keep b o e n hb hx)
    · obtain ⟨sl, e1⟩ := I.base.slot b o e n hb hx
      exact ⟨sl, (hs.2 b (Nat.ne_of_lt (Nat.lt_of_lt_of_le (Heap.lt_size e) I.ok.above))).trans e1⟩
    · obtain ⟨o', e1⟩ := I.base.there b o e hx
      exact ⟨o', (hs.2 b (Nat.ne_of_lt (Nat.lt_of_lt_of_le (Heap.lt_size e) I.ok.above))).trans e1⟩
    · by_cases hj : j = i
      · subst hj
        rw [hi] at e1; cases e1
        rw [List.getElem?_set_self hiσ] at e2
        cases e2
        exact ⟨u, r, .inl ⟨hk, by simp⟩⟩
      · rw [List.getElem?_set_ne (Ne.symm hj)] at e2
        obtain ⟨u', r', q⟩ := hl j y v' e1 e2 e3
        refine ⟨u', r', ?_⟩
        rcases q with ⟨k, e⟩ | ⟨k, c, e, z⟩
        · refine .inl ⟨k, ?_⟩
          have : y ≠ x := fun e => hj (nodup_ix hN e1 (e ▸ hi))
          simp [this, e]
        · exact .inr ⟨k, c, e, z.sameBut hs (cne y c e)⟩
    · obtain ⟨w', z⟩ := I.cell y c e
      exact ⟨w', z.sameBut hs (cne y c e)⟩
    · obtain ⟨e, n, ne, nf, d⟩ := I.pin p hp
      exact ⟨(hs.2 p.1 ne).trans e, n, ne, nf, d⟩
  · have hfn : X.fn x = true := by
      rcases hf with z | z
      · exact z
      · rw [z] at hk; cases hk
    obtain ⟨c, hc⟩ := I.ok.has x (.inl hk)
    obtain ⟨w', z⟩ := I.cell x c hc
    refine wpAny_storeName_cell I.ok.kind hk hc z (fun h' hc' hs => ?_)
    obtain ⟨oc, hoc, hocd⟩ := id z
    refine h { s with heap := h' } ⟨I.ok, I.os, I.bare, ⟨fun b o e n hb hx => ?_, fun b o e n hb hx => ?_, I.base.free, fun b o e hx => ?_, I.base.tups, I.base.frzs, I.base.tbls⟩, ⟨m, hn.sameBut hs (Ne.symm (cne x c hc)), fun j y v' e1 e2 e3 => ?_⟩, fun y c' e => ?_, I.free, I.freeC, fun p hp => ?_, tracked ⟨oc, hoc, I.freeC x c hc⟩ hs, by simpa using I.len⟩ ⟨c, hs, .inr hc⟩
    · exact (hs.2 b (Nat.ne_of_lt (Nat.lt_of_lt_of_le (Heap.lt_size e) (I.ok.cab x c hfn hc)))).trans (I.base.keep b o e n hb hx)
    · obtain ⟨sl, e1⟩ := I.base.slot b o e n hb hx
      exact ⟨sl, (hs.2 b (Nat.ne_of_lt (Nat.lt_of_lt_of_le (Heap.lt_size e) (I.ok.cab x c hfn hc)))).trans e1⟩
    · obtain ⟨o', e1⟩ := I.base.there b o e hx
      exact ⟨o', (hs.2 b (Nat.ne_of_lt (Nat.lt_of_lt_of_le (Heap.lt_size e) (I.ok.cab x c hfn hc)))).trans e1⟩
    · by_cases hj : j = i
      · subst hj
        rw [hi] at e1; cases e1
        rw [List.getElem?_set_self hiσ] at e2
        cases e2
        exact ⟨u, r, .inr ⟨.inl hk, c, hc, hc'⟩⟩
      · rw [List.getElem?_set_ne (Ne.symm hj)] at e2
        obtain ⟨u', r', q⟩ := hl j y v' e1 e2 e3
        refine ⟨u', r', ?_⟩
        rcases q with q | ⟨k, c', e, z'⟩
        · exact .inl q
        · refine .inr ⟨k, c', e, z'.sameBut hs ?_⟩
          rintro rfl
          exact hj (nodup_ix hN e1 (I.ok.inj _ _ _ e hc ▸ hi))
    · by_cases hcc : c' = c
      · subst hcc; exact ⟨_, hc'⟩
      · obtain ⟨w2, z2⟩ := I.cell y c' e
        exact ⟨w2, z2.sameBut hs hcc⟩
    · obtain ⟨e, n, ne, nf, d⟩ := I.pin p hp
      refine ⟨(hs.2 p.1 ?_).trans e, n, ne, nf, d⟩
      intro q
      rw [q, hoc] at e
      have q' : oc = p.2 := Option.some.inj e
      exact d w' (by rw [← q']; exact hocd)
theorem store_ok {M : Model} {A : Around} {E : Value → Shared → Prop} {i : Nat} {x : Str} {v : V} {u : Value} {Q : Unit → Shared → Prop} (I : Inv X pins σ H s) (hN : X.N.Nodup) (hi : X.N[i]? = some x) (hx : Loc X.env.scope x) (r : RelV v u)
    (h : ∀ s', Inv X pins (σ.set i (some v)) H s' → Q () s') (hf : X.fn x = true ∨ X.env.scope.names.lookup x = some .local := by first | exact .inl rfl | exact .inr rfl | assumption) : wpAny M A (storeName X.env x u) Q E s :=
  store_ok2 I hN hi hx r (fun s' I' _ => h s' I') hf
/-- behind a call or a block, the state as it is -/
theorem Inv.call' {s' : Shared} {ch : List Addr} (I : Inv X pins σ H s) (ho : s'.os = s.os) (u : Un (frs X.stack) ch H H' s.heap s'.heap) (hok : HOk X.prog X.w H' s'.heap) (hg : AllBare s'.gens)
    (hch : ∀ b ∈ ch, (b ∈ X.ex ∨ X.s₀.heap.objs.size ≤ b) ∧ b ≠ X.env.locals ∧ (∀ x c, X.env.cells.lookup x = some c → c ≠ b) ∧ ∀ p ∈ X.pn ++ pins, p.1 ≠ b) : Inv X pins σ H' s' := by
  obtain ⟨h', g', d', t', o'⟩ := s'
  have e : o' = s.os := ho
  subst e
  exact I.call (g' := g') (t' := t') (d' := d') u hok hg hch
end

/-! ### the judgements -/
/-- an exception: its class, its own dict's address (where it has one), the abstract heap behind it -/
abbrev XK := Value → Option Addr → Hp → Prop
abbrev St := List (Option V)
abbrev VK := V → Hp → Prop
/-- an expression's reading; a test's; an argument list's -/
abbrev TE := St → Hp → VK → Prop
abbrev TT := St → Hp → (Bool → Hp → Prop) → Prop
abbrev TA := St → Hp → (List V → Hp → Prop) → Prop
/-- what is wanted behind a statement -/
structure Ends where
  nx : St → Hp → Prop
  rt : VK
  bk : St → Hp → Prop := fun _ _ => False
  ct : St → Hp → Prop := fun _ _ => False
abbrev TS := Ends → St → Hp → Prop

def EP (X : Cx) (pins : List (Addr × Obj)) (σ : St) (Q : VK) (u : Value) (s' : Shared) : Prop := ∃ v H', Inv X pins σ H' s' ∧ RelV v u ∧ Q v H'
def TP (X : Cx) (pins : List (Addr × Obj)) (σ : St) (Q : Bool → Hp → Prop) (b : Bool) (s' : Shared) : Prop := ∃ H', Inv X pins σ H' s' ∧ Q b H'
def AP (X : Cx) (pins : List (Addr × Obj)) (σ : St) (Q : List V → Hp → Prop) (us : List Value) (s' : Shared) : Prop := ∃ vs H', Inv X pins σ H' s' ∧ Vals vs us ∧ Q vs H'
def SP (X : Cx) (pins : List (Addr × Obj)) (D : Ends) (f : Flow) (s' : Shared) : Prop :=
  match f with
  | .next => ∃ σ' H', Inv X pins σ' H' s' ∧ D.nx σ' H'
  | .brk => ∃ σ' H', Inv X pins σ' H' s' ∧ D.bk σ' H'
  | .cont => ∃ σ' H', Inv X pins σ' H' s' ∧ D.ct σ' H'
  | .ret u => ∃ v σ' H', Inv X pins σ' H' s' ∧ RelV v u ∧ D.rt v H'

def PE (X : Cx) (e : Expr) (t : TE) : Prop :=
  ∀ (pins : List (Addr × Obj)) (s : Shared) (σ : St) (H : Hp) (Q : VK), Inv X pins σ H s → t σ H Q → wpAny (model X.prog X.w) X.A (eval e X.env) (EP X pins σ Q) X.xe s
def PT (X : Cx) (e : Expr) (t : TT) : Prop :=
  ∀ (pins : List (Addr × Obj)) (s : Shared) (σ : St) (H : Hp) (Q : Bool → Hp → Prop), Inv X pins σ H s → t σ H Q → wpAny (model X.prog X.w) X.A (isTrue e X.env (eval e X.env)) (TP X pins σ Q) X.xe s
/-- a test whatever its 'whole' is (and, or) -/
def PW (X : Cx) (e : Expr) (t : TT) : Prop :=
  ∀ (whole : Sem Value) (pins : List (Addr × Obj)) (s : Shared) (σ : St) (H : Hp) (Q : Bool → Hp → Prop), Inv X pins σ H s → t σ H Q → wpAny (model X.prog X.w) X.A (isTrue e X.env whole) (TP X pins σ Q) X.xe s
theorem PW.pt {X : Cx} {e : Expr} {t : TT} (h : PW X e t) : PT X e t := h _
/-- an argument list (no star), from the left -/
def PA (X : Cx) (es : List Expr) (t : TA) : Prop :=
  ∀ (pos : Pos) (pins : List (Addr × Obj)) (s : Shared) (σ : St) (H : Hp) (Q : List V → Hp → Prop), Inv X pins σ H s → t σ H Q → wpAny (model X.prog X.w) X.A (spliced (backTo pos (starEach es X.env))) (AP X pins σ Q) X.xe s
def PS (X : Cx) (st : Stmt) (t : TS) : Prop :=
  ∀ (pins : List (Addr × Obj)) (s : Shared) (σ : St) (H : Hp) (D : Ends), Inv X pins σ H s → t D σ H → wpAny (model X.prog X.w) X.A (exec st X.env) (SP X pins D) X.xe s
def PSs (X : Cx) (st : List Stmt) (t : TS) : Prop :=
  ∀ (pins : List (Addr × Obj)) (s : Shared) (σ : St) (H : Hp) (D : Ends), Inv X pins σ H s → t D σ H → wpAny (model X.prog X.w) X.A (execs st X.env) (SP X pins D) X.xe s
/-- weaken the end -/
theorem thn {α : Type} {t : Sem α} {Q Q' : α → Shared → Prop} {M : Model} {A : Around} {E : Value → Shared → Prop} {s : Shared} (h : wpAny M A t Q E s) (hQ : ∀ a s, Q a s → Q' a s) : wpAny M A t Q' E s := wpAny_mono h hQ fun _ _ x => x
end L2

namespace L2
open PySem PySem.Spec PyProof.Rows
section
variable {X : Cx}

/-- two expressions in a row -/
theorem bin {a b : Expr} {ta tb : TE} (ha : PE X a ta) (hb : PE X b tb) {pins : List (Addr × Obj)} {s : Shared} {σ : St} {H : Hp} {R : V → V → Hp → Prop} (I : Inv X pins σ H s) (h : ta σ H fun x H1 => tb σ H1 fun y H2 => R x y H2)
    {α : Type} {Q : α → Shared → Prop} {f : Value → Value → Sem α}
    (hf : ∀ v u s2 x y H2, Inv X pins σ H2 s2 → RelV x v → RelV y u → R x y H2 → wpAny (model X.prog X.w) X.A (f v u) Q X.xe s2) :
    wpAny (model X.prog X.w) X.A (eval a X.env) (fun v s₁ => wpAny (model X.prog X.w) X.A (eval b X.env) (fun u s₂ => wpAny (model X.prog X.w) X.A (f v u) Q X.xe s₂) X.xe s₁) X.xe s := by
  refine thn (ha pins s σ H _ I h) fun v s1 ⟨x, H1, I1, r1, q1⟩ => ?_
  refine thn (hb pins s1 σ H1 _ I1 q1) fun u s2 ⟨y, H2, I2, r2, q2⟩ => ?_
  exact hf v u s2 x y H2 I2 r1 r2 q2

/-! ### names and constants -/
def tVar (i : Nat) : TE := fun σ H Q => ∃ v, σ[i]? = some (some v) ∧ Q v H
def tC (v : V) : TE := fun _ H Q => Q v H
theorem pe_var {i : Nat} {x : Str} {pos : Pos} (hN : X.N[i]? = some x) (hv : Vis X.env.scope x) (hd : (x == ("__debug__" : Str)) = false := by decide) (hcd : (x == ("__classdict__" : Str)) = false := by decide) : PE X (.Name x pos) (tVar i) := by
  intro pins s σ H Q I h
  obtain ⟨v, e, h⟩ := h
  obtain ⟨m, hn, hl⟩ := I.loc
  obtain ⟨u, r, l⟩ := hl i x v hN e hv
  have fin : EP X pins σ Q u s := ⟨v, H, I, r, h⟩
  rcases l with ⟨hk, hm⟩ | ⟨hk, c, hc, hcell⟩
  · exact wpAny_Name (wpAny_loadName_local I.ok.kind hk hn hm fin) hd
  · rcases hk with hk | hk
    · exact wpAny_Name (wpAny_loadName_cell I.ok.kind hk hc hcell fin) hd
    · exact wpAny_Name (wpAny_loadName_free I.ok.kind hk hc hcell fin hcd) hd
theorem pe_int {i j pos} : PE X (.Constant (.int i) j pos) (tC (.int i)) := fun _ _ _ H _ I h => wpAny_Constant_int ⟨.int i, H, I.tok _, ⟨_, rfl⟩, h⟩
theorem pe_bl {b j pos} : PE X (.Constant (.bool b) j pos) (tC (.bl b)) := fun _ _ _ H _ I h => Constant_bool ⟨.bl b, H, I, rfl, h⟩
theorem pe_non {j pos} : PE X (.Constant .none j pos) (tC .non) := fun _ _ _ H _ I h => Constant_none ⟨.non, H, I, rfl, h⟩
theorem pe_str {x j pos} : PE X (.Constant (.str x) j pos) (tC (.str x)) := fun _ _ _ H _ I h => Calls.Constant_str ⟨.str x, H, I.tok _, ⟨_, rfl⟩, h⟩

/-- a global name of the def -/
def Gl (X : Cx) (x : Str) : Prop := X.env.kindOf x = some .globalImplicit
theorem ld_glob {E : Value → Shared → Prop} {pins : List (Addr × Obj)} {s : Shared} {σ : St} {H : Hp} {x : Str} {u : Value} {pos : Pos} {Q : Value → Shared → Prop} (I : Inv X pins σ H s) (hg : Gl X x) (hm : X.mg x = some u) (h : Q u s)
    (hd : (x == ("__debug__" : Str)) = false := by decide) : wpAny (model X.prog X.w) X.A (eval (.Name x pos) X.env) Q E s :=
  Calls.Name_function_global I.ok.kind hg (Calls.loadGlobal_global (by rw [I.ok.glob]; exact I.mod.glob.keeps I.bk) hm h) hd
theorem ld_blt {E : Value → Shared → Prop} {pins : List (Addr × Obj)} {s : Shared} {σ : St} {H : Hp} {x : Str} {u : Value} {pos : Pos} {Q : Value → Shared → Prop} (I : Inv X pins σ H s) (hg : Gl X x) (hm : X.mg x = none) (hv : bootBuiltins x = some u) (h : Q u s)
    (hn : x ≠ "__name__" := by decide) (hd : (x == ("__debug__" : Str)) = false := by decide) : wpAny (model X.prog X.w) X.A (eval (.Name x pos) X.env) Q E s := by
  obtain ⟨mb, h1, h2⟩ := I.mod.blt
  exact Calls.Name_function_global I.ok.kind hg (Calls.loadGlobal_builtin (by rw [I.ok.glob]; exact I.mod.glob.keeps I.bk) hm (by rw [I.ok.blt]; exact h1.keeps I.bk) ((h2 x hn).trans hv) h) hd
/-- a module's constant, a class, a function, as a value -/
theorem pe_glob {x : Str} {v : V} {u : Value} {pos : Pos} (hg : Gl X x) (hm : X.mg x = some u) (r : RelV v u) (hd : (x == ("__debug__" : Str)) = false := by decide) : PE X (.Name x pos) (tC v) :=
  fun _ _ _ H _ I h => ld_glob I hg hm ⟨v, H, I, r, h⟩ hd
theorem pe_bltn {x : Str} {v : V} {u : Value} {pos : Pos} (hg : Gl X x) (hm : X.mg x = none) (hv : bootBuiltins x = some u) (r : RelV v u) (hn : x ≠ "__name__" := by decide) (hd : (x == ("__debug__" : Str)) = false := by decide) : PE X (.Name x pos) (tC v) :=
  fun _ _ _ H _ I h => ld_blt I hg hm hv ⟨v, H, I, r, h⟩ hn hd

/-! ### arithmetic -/
/-- two ints -/
def t2I (ta tb : TE) (k : Int → Int → Hp → Prop) : St → Hp → Prop := fun σ H => ta σ H fun x H1 => tb σ H1 fun y H2 => ∃ i j, x = .int i ∧ y = .int j ∧ k i j H2
def tAdd (ta tb : TE) : TE := fun σ H Q => t2I ta tb (fun i j H2 => Q (.int (i + j)) H2) σ H
def tSub (ta tb : TE) : TE := fun σ H Q => t2I ta tb (fun i j H2 => Q (.int (i - j)) H2) σ H
/-- the left factor below 2^64 -/
def tMul (ta tb : TE) : TE := fun σ H Q => t2I ta tb (fun i j H2 => (-(2 ^ 64) < i ∧ i < 2 ^ 64) ∧ Q (.int (i * j)) H2) σ H
variable {a b : Expr} {ta tb : TE} {pos : Pos}
theorem pe_add (ha : PE X a ta) (hb : PE X b tb) : PE X (.BinOp a .Add b pos) (tAdd ta tb) := by
  intro pins s σ H Q I h
  refine wpAny_BinOp (bin ha hb I h fun v u s2 x y H2 I2 rx ry q => ?_)
  obtain ⟨i, j, rfl, rfl, q⟩ := q
  obtain ⟨t, rfl⟩ := rx
  obtain ⟨t', rfl⟩ := ry
  exact add_int ⟨.int _, H2, I2.tok _, ⟨_, rfl⟩, q⟩
theorem pe_sub (ha : PE X a ta) (hb : PE X b tb) : PE X (.BinOp a .Sub b pos) (tSub ta tb) := by
  intro pins s σ H Q I h
  refine wpAny_BinOp (bin ha hb I h fun v u s2 x y H2 I2 rx ry q => ?_)
  obtain ⟨i, j, rfl, rfl, q⟩ := q
  obtain ⟨t, rfl⟩ := rx
  obtain ⟨t', rfl⟩ := ry
  exact sub_int ⟨.int _, H2, I2.tok _, ⟨_, rfl⟩, q⟩
theorem pe_mul (ha : PE X a ta) (hb : PE X b tb) : PE X (.BinOp a .Mult b pos) (tMul ta tb) := by
  intro pins s σ H Q I h
  refine wpAny_BinOp (bin ha hb I h fun v u s2 x y H2 I2 rx ry q => ?_)
  obtain ⟨i, j, rfl, rfl, ⟨q1, q2⟩, q⟩ := q
  obtain ⟨t, rfl⟩ := rx
  obtain ⟨t', rfl⟩ := ry
  exact mul_int ⟨.int _, H2, I2.tok _, ⟨_, rfl⟩, q⟩ (.of_left (intBits_le_64 q1 q2))

/-! ### comparisons -/
def PC (X : Cx) (op : CmpOp) (a b : Expr) (t : TE) : Prop :=
  ∀ (pins : List (Addr × Obj)) (s : Shared) (σ : St) (H : Hp) (Q : VK), Inv X pins σ H s → t σ H Q →
    wpAny (model X.prog X.w) X.A (eval a X.env) (fun v s₁ => wpAny (model X.prog X.w) X.A (eval b X.env) (fun u s₂ => wpAny (model X.prog X.w) X.A (compareOp op v u) (EP X pins σ Q) X.xe s₂) X.xe s₁) X.xe s
theorem nobehind (b : Expr) {op : CmpOp} (h : op ≠ .In) (h2 : op ≠ .NotIn) : behindInMarks op b = false := by
  have e1 : (op == CmpOp.In) = false := by cases op <;> first | rfl | exact absurd rfl h
  have e2 : (op == CmpOp.NotIn) = false := by cases op <;> first | rfl | exact absurd rfl h2
  cases b <;> simp [behindInMarks, e1, e2]
def tCmp (p : Int → Int → Bool) (ta tb : TE) : TE := fun σ H Q => t2I ta tb (fun i j H2 => Q (.bl (p i j)) H2) σ H
abbrev tLt : TE → TE → TE := tCmp fun i j => decide (i < j)
abbrev tLe : TE → TE → TE := tCmp fun i j => decide (i ≤ j)
abbrev tGt : TE → TE → TE := tCmp fun i j => decide (j < i)
abbrev tGe : TE → TE → TE := tCmp fun i j => decide (j ≤ i)
abbrev tEqI : TE → TE → TE := tCmp fun i j => decide (i = j)
abbrev tNeI : TE → TE → TE := tCmp fun i j => !decide (i = j)
/-- a comparison of two ints, by its rule -/
theorem pc_int {op : CmpOp} {p : Int → Int → Bool} (ha : PE X a ta) (hb : PE X b tb)
    (rule : ∀ (i j : Int) (t u : Tok) (Q : Value → Shared → Prop) (s : Shared), Q (.bool (p i j)) s → wpAny (model X.prog X.w) X.A (compareOp op (.int i t) (.int j u)) Q X.xe s) : PC X op a b (tCmp p ta tb) := by
  intro pins s σ H Q I h
  refine bin ha hb I h fun v u s2 x y H2 I2 rx ry q => ?_
  obtain ⟨i, j, rfl, rfl, q⟩ := q
  obtain ⟨t, rfl⟩ := rx
  obtain ⟨t', rfl⟩ := ry
  exact rule i j t t' _ s2 ⟨.bl _, H2, I2, rfl, q⟩
theorem pc_lt (ha : PE X a ta) (hb : PE X b tb) : PC X .Lt a b (tLt ta tb) := pc_int ha hb fun _ _ _ _ _ _ h => lt_int h
theorem pc_le (ha : PE X a ta) (hb : PE X b tb) : PC X .LtE a b (tLe ta tb) := pc_int ha hb fun _ _ _ _ _ _ h => le_int h
theorem pc_gt (ha : PE X a ta) (hb : PE X b tb) : PC X .Gt a b (tGt ta tb) := pc_int ha hb fun _ _ _ _ _ _ h => gt_int h
theorem pc_ge (ha : PE X a ta) (hb : PE X b tb) : PC X .GtE a b (tGe ta tb) := pc_int ha hb fun _ _ _ _ _ _ h => ge_int h
theorem pc_eqI (ha : PE X a ta) (hb : PE X b tb) : PC X .Eq a b (tEqI ta tb) := pc_int ha hb fun _ _ _ _ _ _ h => eq_int (by rw [Bool.beq_eq_decide_eq]; exact h)
theorem pc_neI (ha : PE X a ta) (hb : PE X b tb) : PC X .NotEq a b (tNeI ta tb) := pc_int ha hb fun _ _ _ _ _ _ h => ne_int (by rw [bne, Bool.beq_eq_decide_eq]; exact h)
/-- is None -/
def tIsN (ta : TE) : TE := fun σ H Q => ta σ H fun x H1 => Q (.bl (decide (x = .non))) H1
def tNotN (ta : TE) : TE := fun σ H Q => ta σ H fun x H1 => Q (.bl (!decide (x = .non))) H1
theorem RelV.none_iff {x : V} {v : Value} (r : RelV x v) : (v == Value.none) = decide (x = .non) := by
  cases x with
  | non => cases r; rfl
  | bl _ => cases r; rfl
  | int _ => obtain ⟨t, rfl⟩ := r; rfl
  | str _ => obtain ⟨t, rfl⟩ := r; rfl
  | byt _ => obtain ⟨t, rfl⟩ := r; rfl
  | flt _ => obtain ⟨t, rfl⟩ := r; rfl
  | ref _ => cases r; rfl
  | ty _ => cases r; rfl
theorem pc_isN {j pos'} (ha : PE X a ta) : PC X .Is a (.Constant .none j pos') (tIsN ta) := by
  intro pins s σ H Q I h
  refine thn (ha pins s σ H _ I h) fun v s1 ⟨x, H1, I1, r1, q1⟩ => ?_
  exact Constant_none (is_none_gen ⟨.bl _, H1, I1, by rw [r1.none_iff]; rfl, q1⟩)
theorem pc_notN {j pos'} (ha : PE X a ta) : PC X .IsNot a (.Constant .none j pos') (tNotN ta) := by
  intro pins s σ H Q I h
  refine thn (ha pins s σ H _ I h) fun v s1 ⟨x, H1, I1, r1, q1⟩ => ?_
  exact Constant_none (isnot_none_gen ⟨.bl _, H1, I1, by rw [r1.none_iff]; rfl, q1⟩)
/-- a comparison as a value, as a test -/
def tB (t : TE) : TT := fun σ H Q => t σ H fun x H1 => ∃ c, x = .bl c ∧ Q c H1
theorem pe_cmp {op : CmpOp} {t : TE} (h : PC X op a b t) (h1 : behindInMarks op b = false := by first | exact nobehind _ (by decide) (by decide) | rfl) : PE X (.Compare a [op] [b] pos) t := fun pins s σ H Q I hw => wpAny_Compare1 (h pins s σ H Q I hw) h1
theorem pt_cmp {op : CmpOp} {t : TE} (h : PC X op a b t) (h1 : behindInMarks op b = false := by first | exact nobehind _ (by decide) (by decide) | rfl) : PT X (.Compare a [op] [b] pos) (tB t) := by
  intro pins s σ H Q I hw
  refine wpAny_isTrue_Compare1 (thn (h pins s σ H _ I hw) fun v s1 h1 => thn h1 fun u s2 h2 => thn h2 fun c s3 ⟨x, H1, I1, r1, q1⟩ => ?_) h1
  obtain ⟨d, rfl, q⟩ := q1
  cases r1
  exact wpAny_truthy_bool ⟨H1, I1, q⟩
/-- an expression whose value is a bool, as a test -/
theorem pt_val {e : Expr} {t : TE} (h : PE X e t) (he : ∀ whole, isTrue e X.env whole = (do let v ← whole; standAt e.pos; holding [v] (truthy v)) := by intro _; rfl) : PT X e (tB t) := by
  intro pins s σ H Q I hw
  refine isTrue_plain (thn (h pins s σ H _ I hw) fun v s1 ⟨x, H1, I1, r1, q1⟩ => ?_) (he _)
  obtain ⟨d, rfl, q⟩ := q1
  cases r1
  exact wpAny_truthy_bool ⟨H1, I1, q⟩

/-! ### and, or, not -/
variable {tA tB' : TT} {rest : List Expr}
def tAnd (t u : TT) : TT := fun σ H Q => t σ H fun c H1 => if c = true then u σ H1 Q else Q false H1
def tOr (t u : TT) : TT := fun σ H Q => t σ H fun c H1 => if c = true then Q true H1 else u σ H1 Q
def tNot (t : TT) : TT := fun σ H Q => t σ H fun c H1 => Q (!c) H1
theorem pw_and1 (ha : PT X a tA) : PW X (.BoolOp .And [a] pos) tA := by
  intro wh pins s σ H Q I h
  refine isTrue_and (thn (ha pins s σ H Q I h) fun c s1 e => ?_)
  cases c with
  | true => exact isTrue_and_nil e
  | false => exact e
theorem pw_or1 (ha : PT X a tA) : PW X (.BoolOp .Or [a] pos) tA := by
  intro wh pins s σ H Q I h
  refine isTrue_or (thn (ha pins s σ H Q I h) fun c s1 e => ?_)
  cases c with
  | false => exact isTrue_or_nil e
  | true => exact e
theorem pw_and (ha : PT X a tA) (hb : PW X (.BoolOp .And (b :: rest) pos) tB') : PW X (.BoolOp .And (a :: b :: rest) pos) (tAnd tA tB') := by
  intro wh pins s σ H Q I h
  refine isTrue_and (thn (ha pins s σ H _ I h) fun c s1 ⟨H1, I1, q1⟩ => ?_)
  cases c with
  | true => exact hb wh pins s1 σ H1 Q I1 q1
  | false => exact ⟨H1, I1, q1⟩
theorem pw_or (ha : PT X a tA) (hb : PW X (.BoolOp .Or (b :: rest) pos) tB') : PW X (.BoolOp .Or (a :: b :: rest) pos) (tOr tA tB') := by
  intro wh pins s σ H Q I h
  refine isTrue_or (thn (ha pins s σ H _ I h) fun c s1 ⟨H1, I1, q1⟩ => ?_)
  cases c with
  | true => exact ⟨H1, I1, q1⟩
  | false => exact hb wh pins s1 σ H1 Q I1 q1
theorem pt_not (ha : PT X a tA) : PT X (.UnaryOp .Not a pos) (tNot tA) := by
  intro pins s σ H Q I h
  exact isTrue_not (ha pins s σ H (fun c H1 => Q (!c) H1) I h)
/-- .. as values (bools) -/
def tAndV (ta tb : TE) : TE := fun σ H Q => ta σ H fun x H1 => ∃ c, x = .bl c ∧ if c = true then tb σ H1 Q else Q (.bl false) H1
def tOrV (ta tb : TE) : TE := fun σ H Q => ta σ H fun x H1 => ∃ c, x = .bl c ∧ if c = true then Q (.bl true) H1 else tb σ H1 Q
def tNotV (ta : TE) : TE := fun σ H Q => ta σ H fun x H1 => ∃ c, x = .bl c ∧ Q (.bl (!c)) H1
theorem pe_one {op} {t : TE} (h : PE X a t) : PE X (.BoolOp op [a] pos) t := fun pins s σ H Q I hw => BoolOp_one (h pins s σ H Q I hw)
theorem pe_and (ha : PE X a ta) (hb : PE X (.BoolOp .And (b :: rest) pos) tb) : PE X (.BoolOp .And (a :: b :: rest) pos) (tAndV ta tb) := by
  intro pins s σ H Q I h
  refine BoolOp_and (thn (ha pins s σ H _ I h) fun v s1 ⟨x, H1, I1, r1, q1⟩ => ?_)
  obtain ⟨c, rfl, q1⟩ := q1
  cases r1
  refine wpAny_truthy_bool ?_
  cases c with
  | true => exact hb pins s1 σ H1 Q I1 q1
  | false => exact ⟨.bl false, H1, I1, rfl, q1⟩
theorem pe_or (ha : PE X a ta) (hb : PE X (.BoolOp .Or (b :: rest) pos) tb) : PE X (.BoolOp .Or (a :: b :: rest) pos) (tOrV ta tb) := by
  intro pins s σ H Q I h
  refine BoolOp_or (thn (ha pins s σ H _ I h) fun v s1 ⟨x, H1, I1, r1, q1⟩ => ?_)
  obtain ⟨c, rfl, q1⟩ := q1
  cases r1
  refine wpAny_truthy_bool ?_
  cases c with
  | false => exact hb pins s1 σ H1 Q I1 q1
  | true => exact ⟨.bl true, H1, I1, rfl, q1⟩
theorem pe_not (ha : PE X a ta) : PE X (.UnaryOp .Not a pos) (tNotV ta) := by
  intro pins s σ H Q I h
  refine UnaryOp_ (thn (ha pins s σ H _ I h) fun v s1 ⟨x, H1, I1, r1, q1⟩ => ?_)
  obtain ⟨c, rfl, q1⟩ := q1
  cases r1
  exact not_of (wpAny_truthy_bool ⟨.bl (!c), H1, I1, rfl, q1⟩)
/-- a if t else b -/
def tIf (t : TT) (ta tb : TE) : TE := fun σ H Q => t σ H fun c H1 => if c = true then ta σ H1 Q else tb σ H1 Q
theorem pe_ifExp {c : Expr} (hc : PT X c tA) (ha : PE X a ta) (hb : PE X b tb) : PE X (.IfExp c a b pos) (tIf tA ta tb) := by
  intro pins s σ H Q I h
  refine wpAny_IfExp (thn (hc pins s σ H _ I h) fun d s1 ⟨H1, I1, q1⟩ => ?_)
  cases d with
  | true => exact ha pins s1 σ H1 Q I1 q1
  | false => exact hb pins s1 σ H1 Q I1 q1
end
end L2

namespace L2
open PySem PySem.Spec PyProof.Rows

/-! ### a list, a tuple that is read: tracked, frozen, or an object of the module -/
def SqL (K : PySem.W.Frag) (H : Hp) (a : Addr) (xs : List V) : Prop :=
  Rd H a (.lst xs) ∨
    ∃ (o : Obj) (its : Array Value) (n : Nat), K.lookup a = some o ∧ o.cls = .type "list" ∧ o.dict = none ∧ o.data = .seq its n ∧ its.size ≤ sizeLine ∧ Vals xs its.toList
def SqT (K : PySem.W.Frag) (H : Hp) (a : Addr) (xs : List V) : Prop :=
  Rd H a (.tup xs) ∨
    ∃ (o : Obj) (its : Array Value) (n : Nat), K.lookup a = some o ∧ o.cls = .type "tuple" ∧ o.data = .seq its n ∧ its.size ≤ sizeLine ∧ Vals xs its.toList
def absV : Value → Option V
  | .none => some .non
  | .bool b => some (.bl b)
  | .int i _ => some (.int i)
  | .str x _ => some (.str x)
  | .bytes b _ => some (.byt b)
  | .float b _ => some (.flt b)
  | .ref a => some (.ref a)
  | .type n => some (.ty n)
  | _ => none
theorem RelV.abs {x : V} {u : Value} (r : RelV x u) : absV u = some x := by
  cases x with
  | non => cases r; rfl
  | bl _ => cases r; rfl
  | int _ => obtain ⟨t, rfl⟩ := r; rfl
  | str _ => obtain ⟨t, rfl⟩ := r; rfl
  | byt _ => obtain ⟨t, rfl⟩ := r; rfl
  | flt _ => obtain ⟨t, rfl⟩ := r; rfl
  | ref _ => cases r; rfl
  | ty _ => cases r; rfl
theorem RelV.inj {x y : V} {u : Value} (r : RelV x u) (q : RelV y u) : x = y := Option.some.inj (r.abs.symm.trans q.abs)
theorem Vals.inj : ∀ {xs ys : List V} {us : List Value}, Vals xs us → Vals ys us → xs = ys
  | _, _, _, .nil, .nil => rfl
  | _, _, _, .cons r t, .cons r' t' => by rw [r.inj r', Vals.inj t t']
section
variable {X : Cx} {pins : List (Addr × Obj)} {σ : St} {H : Hp} {s : Shared} {a : Addr} {xs ys : List V}
theorem SqL.of {K : PySem.W.Frag} (h : H a = some (.lst xs)) : SqL K H a xs := .inl (.inl h)
theorem SqT.of {K : PySem.W.Frag} (h : H a = some (.tup xs)) : SqT K H a xs := .inl (.inl h)
theorem Inv.list (I : Inv X pins σ H s) (h : SqL X.K H a xs) : ∃ its : List Value, Vals xs its ∧ PlainL s.heap a its.toArray ∧ xs.length ≤ sizeLine := by
  rcases h with h | ⟨o, its, n, hk, hc, hd, hs, hz, r⟩
  · obtain ⟨z, its, n, r, e⟩ := h.ok I.hok
    exact ⟨its, r, ⟨_, n, e, rfl, rfl, rfl⟩, z⟩
  · refine ⟨its.toList, r, ⟨o, n, I.kIn a o hk, hc, hd, by simpa using hs⟩, ?_⟩
    have e := r.length
    simp only [Array.length_toList] at e
    omega
theorem Inv.tuple (I : Inv X pins σ H s) (h : SqT X.K H a xs) : ∃ its : List Value, Vals xs its ∧ IsTup s.heap a its.toArray ∧ xs.length ≤ sizeLine := by
  rcases h with h | ⟨o, its, n, hk, hc, hs, hz, r⟩
  · obtain ⟨z, its, r, p⟩ := h.ok I.hok
    exact ⟨its, r, p, z⟩
  · refine ⟨its.toList, r, ⟨o, I.kIn a o hk, hc, n, by simpa using hs⟩, ?_⟩
    have e := r.length
    simp only [Array.length_toList] at e
    omega
theorem Inv.list_inj (I : Inv X pins σ H s) (h : SqL X.K H a xs) (h' : SqL X.K H a ys) : xs = ys := by
  obtain ⟨its, r, ⟨o, n, e, _, _, d⟩, _⟩ := I.list h
  obtain ⟨its', r', ⟨o', n', e', _, _, d'⟩, _⟩ := I.list h'
  rw [e] at e'; cases e'
  rw [d] at d'
  injection d' with d1 _
  have : its = its' := by simpa using congrArg Array.toList d1
  subst this
  exact r.inj r'
theorem Inv.tuple_inj (I : Inv X pins σ H s) (h : SqT X.K H a xs) (h' : SqT X.K H a ys) : xs = ys := by
  obtain ⟨its, r, ⟨o, e, _, n, d⟩, _⟩ := I.tuple h
  obtain ⟨its', r', ⟨o', e', _, n', d'⟩, _⟩ := I.tuple h'
  rw [e] at e'; cases e'
  rw [d] at d'
  injection d' with d1 _
  have : its = its' := by simpa using congrArg Array.toList d1
  subst this
  exact r.inj r'
end

/-! ### another wish about exceptions -/
abbrev Cx.wish (X : Cx) (E : Value → Shared → Prop) : Cx := { X with xe := E }
/-- no exception leaves -/
abbrev Cx.nox (X : Cx) : Cx := X.wish fun _ _ => False
theorem Cx.Ok.wish {X : Cx} (ok : X.Ok) (E : Value → Shared → Prop) : (X.wish E).Ok :=
  ⟨ok.mod, ok.kind, ok.glob, ok.blt, ok.above, ok.inj, ok.has, ok.cab, ok.hd, ok.frames, ok.stk, ok.exf, ok.bs, ok.bsz, ok.noex, ok.exfs, ok.funs, ok.frf⟩
theorem Cx.Ok.unwish {X : Cx} {E : Value → Shared → Prop} (ok : (X.wish E).Ok) : X.Ok :=
  ⟨ok.mod, ok.kind, ok.glob, ok.blt, ok.above, ok.inj, ok.has, ok.cab, ok.hd, ok.frames, ok.stk, ok.exf, ok.bs, ok.bsz, ok.noex, ok.exfs, ok.funs, ok.frf⟩
section
variable {X : Cx} {pins : List (Addr × Obj)} {σ : St} {H : Hp} {s : Shared} {E : Value → Shared → Prop}
theorem Inv.wish (I : Inv X pins σ H s) (E : Value → Shared → Prop) : Inv (X.wish E) pins σ H s := ⟨I.ok.wish E, I.os, I.bare, I.base, I.loc, I.cell, I.free, I.freeC, I.pin, I.hok, I.len⟩
theorem Inv.unwish (I : Inv (X.wish E) pins σ H s) : Inv X pins σ H s := ⟨I.ok.unwish, I.os, I.bare, I.base, I.loc, I.cell, I.free, I.freeC, I.pin, I.hok, I.len⟩
theorem SP.unwish {D : Ends} {f : Flow} {s' : Shared} (h : SP (X.wish E) pins D f s') : SP X pins D f s' := by
  cases f with
  | next => obtain ⟨σ', H', I, q⟩ := h; exact ⟨σ', H', I.unwish, q⟩
  | brk => obtain ⟨σ', H', I, q⟩ := h; exact ⟨σ', H', I.unwish, q⟩
  | cont => obtain ⟨σ', H', I, q⟩ := h; exact ⟨σ', H', I.unwish, q⟩
  | ret u => obtain ⟨v, σ', H', I, r, q⟩ := h; exact ⟨v, σ', H', I.unwish, r, q⟩
theorem PE.nox {e : Expr} {t : TE} (h : PE X.nox e t) : PE X e t := fun pins s σ H Q I hw =>
  wpAny_mono (h pins s σ H Q (I.wish _) hw) (fun _ _ ⟨v, H', I', r, q⟩ => ⟨v, H', I'.unwish, r, q⟩) fun _ _ z => False.elim z
theorem PT.nox {e : Expr} {t : TT} (h : PT X.nox e t) : PT X e t := fun pins s σ H Q I hw =>
  wpAny_mono (h pins s σ H Q (I.wish _) hw) (fun _ _ ⟨H', I', q⟩ => ⟨H', I'.unwish, q⟩) fun _ _ z => False.elim z
theorem PSs.nox {st : List Stmt} {t : TS} (h : PSs X.nox st t) : PSs X st t := fun pins s σ H D I hw =>
  wpAny_mono (h pins s σ H D (I.wish _) hw) (fun _ _ q => q.unwish) fun _ _ z => False.elim z
end

/-! ### blocks and small statements -/
section
variable {X : Cx} {st : Stmt} {rest : List Stmt} {t u : TS} {e : Expr} {te : TE} {pos : Pos}
def tNext : TS := fun D σ H => D.nx σ H
def tSeq (t u : TS) : TS := fun D σ H => t { D with nx := u D } σ H
theorem pss_nil : PSs X [] tNext := fun _ _ σ H _ I h => wpAny_execs_nil ⟨σ, H, I, h⟩
theorem pss_cons (h1 : PS X st t) (h2 : PSs X rest u) : PSs X (st :: rest) (tSeq t u) := by
  intro pins s σ H D I h
  refine wpAny_execs_cons (thn (h1 pins s σ H { D with nx := u D } I h) fun f s1 q => ?_)
  cases f with
  | next =>
    obtain ⟨σ', H', I', q⟩ := q
    exact h2 pins s1 σ' H' D I' q
  | ret v => exact q
  | brk => exact q
  | cont => exact q
theorem pss_one (h1 : PS X st t) : PSs X [st] t := by
  intro pins s σ H D I h
  refine wpAny_execs_cons (thn (h1 pins s σ H D I h) fun f s1 q => ?_)
  cases f with
  | next => exact wpAny_execs_nil q
  | ret v => exact q
  | brk => exact q
  | cont => exact q
def tBreak : TS := fun D σ H => D.bk σ H
def tCont : TS := fun D σ H => D.ct σ H
theorem ps_pass : PS X (.Pass pos) tNext := fun _ _ σ H _ I h => wpAny_Pass ⟨σ, H, I, h⟩
theorem ps_break : PS X (.Break pos) tBreak := fun _ _ σ H _ I h => wpAny_Break ⟨σ, H, I, h⟩
theorem ps_continue : PS X (.Continue pos) tCont := fun _ _ σ H _ I h => wpAny_Continue ⟨σ, H, I, h⟩
/-- in a def's body nothing is shown -/
theorem Inv.quiet {pins : List (Addr × Obj)} {σ : St} {H : Hp} {s : Shared} (I : Inv X pins σ H s) : interactive X.env = false := by simp [interactive, I.ok.kind]
/-- a docstring -/
theorem ps_doc {x j pos pos'} : PS X (.Expr (.Constant (.str x) j pos) pos') tNext := fun _ s σ H _ I h => wpAny_Expr (Calls.Constant_str (show SP X _ _ .next { s with toks := s.toks + 1 } from ⟨σ, H, I.tok _, h⟩)) I.quiet
/-- an expression whose value is dropped -/
def tDrop (te : TE) : TS := fun D σ H => te σ H fun _ H1 => D.nx σ H1
theorem ps_expr (he : PE X e te) (hs : swapsWith e none pos.line X.env = pure false := by rfl) : PS X (.Expr e pos) (tDrop te) := by
  intro pins s σ H D I h
  exact wpAny_Expr_any (thn (he pins s σ H _ I h) fun v s1 ⟨x, H1, I1, r1, q1⟩ => ⟨σ, H1, I1, q1⟩) I.quiet hs
def tRet (te : TE) : TS := fun D σ H => te σ H D.rt
theorem ps_ret (he : PE X e te) : PS X (.Return (some e) pos) (tRet te) := by
  intro pins s σ H D I h
  exact wpAny_Return_some (thn (he pins s σ H _ I h) fun v s1 ⟨x, H1, I1, r1, q1⟩ => ⟨x, σ, H1, I1, r1, q1⟩)
def tRetN : TS := fun D _ H => D.rt .non H
theorem ps_retN : PS X (.Return none pos) tRetN := fun _ _ σ H _ I h => wpAny_Return_none ⟨.non, σ, H, I, rfl, h⟩
def tIfS (c : TT) (t u : TS) : TS := fun D σ H => c σ H fun b H1 => if b = true then t D σ H1 else u D σ H1
theorem ps_if {c : Expr} {a b : List Stmt} {tc : TT} (hc : PT X c tc) (ha : PSs X a t) (hb : PSs X b u) : PS X (.If c a b pos) (tIfS tc t u) := by
  intro pins s σ H D I h
  refine wpAny_If (thn (hc pins s σ H _ I h) fun d s1 ⟨H1, I1, q1⟩ => ?_)
  cases d with
  | true => exact ha pins s1 σ H1 D I1 q1
  | false => exact hb pins s1 σ H1 D I1 q1
/-- code that the proof never comes to -/
def tNever : TS := fun _ _ _ => False
theorem ps_never : PS X st tNever := fun _ _ _ _ _ _ h => h.elim
theorem pss_never {sts : List Stmt} : PSs X sts tNever := fun _ _ _ _ _ _ h => h.elim
end

/-! ### targets -/
abbrev TG := V → St → Hp → (St → Hp → Prop) → Prop
abbrev TGs := List V → St → Hp → (St → Hp → Prop) → Prop
def PG (X : Cx) (target : Expr) (t : TG) : Prop :=
  ∀ (pins : List (Addr × Obj)) (s : Shared) (σ : St) (H : Hp) (v : V) (u : Value) (Q : St → Hp → Prop), Inv X pins σ H s → RelV v u → t v σ H Q →
    wpAny (model X.prog X.w) X.A (assign target X.env u) (fun _ s' => ∃ σ' H', Inv X pins σ' H' s' ∧ Q σ' H') X.xe s
/-- several targets, one after another -/
def PGs (X : Cx) (ts : List Expr) (t : TGs) : Prop :=
  ∀ (pins : List (Addr × Obj)) (s : Shared) (σ : St) (H : Hp) (vs : List V) (us : List Value) (Q : St → Hp → Prop), Inv X pins σ H s → Vals vs us → t vs σ H Q →
    wpAny (model X.prog X.w) X.A (assignInOrder ((assignEach ts X.env).map (·.2)) us) (fun _ s' => ∃ σ' H', Inv X pins σ' H' s' ∧ Q σ' H') X.xe s
/-- o[i] = v, by values -/
abbrev TSet := V → V → V → Hp → (Hp → Prop) → Prop
def PSet (X : Cx) (t : TSet) : Prop :=
  ∀ (pins : List (Addr × Obj)) (s : Shared) (σ : St) (H : Hp) (o i v : V) (ov iv u : Value) (Q : Hp → Prop), Inv X pins σ H s → RelV o ov → RelV i iv → RelV v u → t o i v H Q →
    wpAny (model X.prog X.w) X.A (setItem ov iv u) (fun _ s' => ∃ H', Inv X pins σ H' s' ∧ Q H') X.xe s
/-- a op= b, by values -/
abbrev TIp := V → V → Hp → VK → Prop
def PIp (X : Cx) (op : Operator) (t : TIp) : Prop :=
  ∀ (pins : List (Addr × Obj)) (s : Shared) (σ : St) (H : Hp) (x y : V) (v u : Value) (Q : VK), Inv X pins σ H s → RelV x v → RelV y u → t x y H Q →
    wpAny (model X.prog X.w) X.A (inplaceOp op v u) (EP X pins σ Q) X.xe s
section
variable {X : Cx} {pos : Pos}
def gName (i : Nat) : TG := fun v σ H Q => Q (σ.set i (some v)) H
theorem pg_name {i : Nat} {x : Str} (hN : X.N.Nodup) (hi : X.N[i]? = some x) (hx : Loc X.env.scope x) (hf : X.fn x = true ∨ X.env.scope.names.lookup x = some .local := by first | exact .inl rfl | exact .inr rfl | assumption) : PG X (.Name x pos) (gName i) := by
  intro pins s σ H v u Q I r h
  exact wpAny_assign_Name (store_ok I hN hi hx r (fun s' I' => ⟨_, H, I', h⟩) hf)
def gNil : TGs := fun vs σ H Q => vs = [] ∧ Q σ H
def gCons (t : TG) (u : TGs) : TGs := fun vs σ H Q => ∃ v r, vs = v :: r ∧ t v σ H fun σ' H' => u r σ' H' Q
theorem pgs_nil : PGs X [] gNil := by
  intro pins s σ H vs us Q I r h
  obtain ⟨e, h⟩ := h
  subst e
  cases r
  exact assignInOrder_nil ⟨σ, H, I, h⟩
theorem pgs_cons {e : Expr} {es : List Expr} {t : TG} {u : TGs} (h1 : PG X e t) (h2 : PGs X es u)
    (hs : (assignEach (e :: es) X.env).map (·.2) = assign e X.env :: (assignEach es X.env).map (·.2) := by rfl) : PGs X (e :: es) (gCons t u) := by
  intro pins s σ H vs us Q I r h
  obtain ⟨v, vr, e1, h⟩ := h
  subst e1
  cases r with
  | cons r rr =>
    rw [hs]
    refine assignInOrder_cons (thn (h1 pins s σ H _ _ _ I r h) fun _ s1 ⟨σ1, H1, I1, q1⟩ => ?_)
    exact h2 pins s1 σ1 H1 _ _ Q I1 rr q1
/-- (a, b, ..) = a tuple of that length -/
def gTup (K : PySem.W.Frag) (n : Nat) (t : TGs) : TG := fun v σ H Q => ∃ a xs, v = .ref a ∧ SqT K H a xs ∧ xs.length = n ∧ t xs σ H Q
theorem pg_tup {es : List Expr} {k : Nat} {t : TGs} {n : Nat} (hc : X.calm = true) (h : PGs X es t)
    (hn : (assignEach es X.env).length = n := by rfl) (hst : (assignEach es X.env).findIdx? (·.1) = none := by rfl) : PG X (.Tuple es k pos) (gTup X.K n t) := by
  intro pins s σ H v u Q I r hw
  obtain ⟨a, xs, e1, hq, hl, hw⟩ := hw
  subst e1
  cases r
  obtain ⟨its, rv, ht, hz⟩ := I.tuple hq
  refine assign_Tuple_tuple (I.ok.hd hc) ht (by simp [hn, ← hl, rv.length]) hst fun h' hx => ?_
  have I1 : Inv X pins σ H { s with heap := h' } := I.kept (t' := s.toks) fun b o e => hx b o (Nat.ne_of_lt (Heap.lt_size e)) e
  exact h pins _ σ H xs _ Q I1 (by simpa using rv) hw
/-- o[i] = .. -/
def gSub (to ti : TE) (t : TSet) : TG := fun v σ H Q => to σ H fun o H1 => ti σ H1 fun i H2 => t o i v H2 fun H3 => Q σ H3
theorem pg_sub {o i : Expr} {to ti : TE} {t : TSet} (ho : PE X o to) (hi : PE X i ti) (hs : PSet X t)
    (ha : ∀ v, assign (.Subscript o i pos) X.env v = (do
      let ov ← holding [v] (eval o X.env)
      let iv ← holding [v, ov] (eval i X.env)
      standAt pos
      holding [v, ov, iv] (setItem ov iv v)
      release [v, ov, iv] []) := by intro _; rfl) : PG X (.Subscript o i pos) (gSub to ti t) := by
  intro pins s σ H v u Q I r h
  rw [ha]
  refine wpAny_bind (wpAny_holding (thn (ho pins s σ H _ I h) fun ov s1 ⟨x, H1, I1, r1, q1⟩ => ?_))
  refine wpAny_bind (wpAny_holding (thn (hi pins s1 σ H1 _ I1 q1) fun iv s2 ⟨y, H2, I2, r2, q2⟩ => ?_))
  refine wpAny_bind (wpAny_standAt (wpAny_bind (wpAny_holding (thn (hs pins s2 σ H2 x y v ov iv u _ I2 r1 r2 r q2) fun _ s3 ⟨H3, I3, q3⟩ => ?_))))
  exact wpAny_release ⟨σ, H3, I3, q3⟩
/-- target = value -/
def tAsg (te : TE) (g : TG) : TS := fun D σ H => te σ H fun x H1 => g x σ H1 D.nx
theorem ps_asg {tg e : Expr} {te : TE} {g : TG} (he : PE X e te) (hg : PG X tg g) (hs : swapsWithSole [tg] e pos.line X.env = pure false := by rfl) (hw : swappedStores [tg] e X.env = pure none := by rfl)
    (h1 : (assignEach [tg] X.env).map (·.2) = [assign tg X.env] := by rfl) : PS X (.Assign [tg] e pos) (tAsg te g) := by
  intro pins s σ H D I h
  refine wpAny_Assign_stores (thn (he pins s σ H _ I h) fun v s1 ⟨x, H1, I1, r1, q1⟩ => ?_) hs hw
  rw [h1]
  exact thn (hg pins s1 σ H1 x v _ I1 r1 q1) fun _ s2 q => q
/-- name = value -/
theorem ps_set {i : Nat} {x : Str} {e : Expr} {te : TE} {pos' : Pos} (hN : X.N.Nodup) (hi : X.N[i]? = some x) (hx : Loc X.env.scope x) (he : PE X e te) (hs : swapsWith e (some (.Name x pos')) pos.line X.env = pure false := by rfl) (hf : X.fn x = true ∨ X.env.scope.names.lookup x = some .local := by first | exact .inl rfl | exact .inr rfl | assumption) :
    PS X (.Assign [.Name x pos'] e pos) (tAsg te (gName i)) := by
  intro pins s σ H D I h
  refine wpAny_Assign_Name (thn (he pins s σ H _ I h) fun v s1 ⟨y, H1, I1, r1, q1⟩ => ?_) hs
  exact store_ok I1 hN hi hx r1 (fun s2 I2 => ⟨_, H1, I2, q1⟩) hf
/-- a, b = x, y with plain local names: stored from the right; the pair itself is not tracked (the opening rows as in PyProof/Rows/TupAssign.lean:23) -/
def tPar (i j : Nat) (ta : TA) : TS := fun D σ H => ta σ H fun vs H1 => ∃ v w, vs = [v, w] ∧ D.nx ((σ.set i (some v)).set j (some w)) H1
theorem ps_par {i j : Nat} {x y : Str} {a b : Expr} {ta : TA} {px py pt : Pos} {kt k2 pt2} (hc : X.calm = true) (hN : X.N.Nodup) (hi : X.N[i]? = some x) (hj : X.N[j]? = some y) (hij : i ≠ j)
    (hx : X.env.scope.names.lookup x = some .local) (hy : X.env.scope.names.lookup y = some .local) (ha : PA X [a, b] ta)
    (hw : swappedStores [.Tuple [.Name x px, .Name y py] kt pt] (.Tuple [a, b] k2 pt2) X.env = pure (some [x, y]))
    (hs : swapsWithSole [.Tuple [.Name x px, .Name y py] kt pt] (.Tuple [a, b] k2 pt2) pos.line X.env = pure false := by rfl) :
    PS X (.Assign [.Tuple [.Name x px, .Name y py] kt pt] (.Tuple [a, b] k2 pt2) pos) (tPar i j ta) := by
  intro pins s σ H D I h
  rw [exec_Assign_arm]
  refine wpAny_bind (wpAny_standAt ?_)
  rw [hs]
  refine wpAny_bind (wpAny_pure ?_)
  rw [if_neg (by decide)]
  refine wpAny_bind (Tuple_ (thn (ha _ pins s σ H _ I h) fun us s1 ⟨vs, H1, I1, r1, q1⟩ => ?_))
  obtain ⟨v, w, e1, q1⟩ := q1
  subst e1
  obtain ⟨u1, u2, rfl, rv, rw'⟩ : ∃ u1 u2, us = [u1, u2] ∧ RelV v u1 ∧ RelV w u2 := by
    cases r1 with
    | cons p q =>
      cases q with
      | cons p' q' =>
        cases q'
        exact ⟨_, _, rfl, p, p'⟩
  refine wpAny_newObj_type ?_ (by show 2 ≤ sizeLine; decide)
  have I2 : Inv X pins σ H1 { s1 with heap := s1.heap.push { cls := .type "tuple", data := .seq [u1, u2].toArray } } := I1.kept (t' := s1.toks) fun b o e => Heap.get?_push_of_some _ e
  rw [hw]
  refine wpAny_bind (wpAny_pure ?_)
  show wpAny (model X.prog X.w) X.A (do rule "assign.swapped-stores"; let items ← unpackItems (.ref s1.heap.objs.size) 2 none; assignInOrder [fun v => bindName X.env y v, fun v => bindName X.env x v] items.reverse; pure Flow.next) _ _ _
  refine wpAny_bind (wpAny_rule (wpAny_bind (unpackItems_tuple (items := #[u1, u2]) (I.ok.hd hc) (IsTup.new s1.heap _) fun h' hx' => ?_)))
  have I3 := I2.kept (h' := h') (t' := s1.toks) fun b o e => hx' b o (Nat.ne_of_lt (Heap.lt_size e)) e
  show wpAny _ _ (assignInOrder [fun v => bindName X.env y v, fun v => bindName X.env x v] [u2, u1] >>= fun _ => pure Flow.next) _ _ _
  refine wpAny_bind (assignInOrder_cons (wpAny_bindName (store_ok I3 hN hj (.inl hy) rw' (fun s2 I4 => ?_) (.inr hy))))
  refine assignInOrder_cons (wpAny_bindName (store_ok I4 hN hi (.inl hx) rv (fun s3 I5 => assignInOrder_nil (wpAny_pure ?_)) (.inr hx)))
  rw [List.set_comm _ _ (Ne.symm hij)] at I5
  exact ⟨_, H1, I5, q1⟩
/-- name op= e -/
def tAug (i : Nat) (te : TE) (ti : TIp) : TS := fun D σ H => ∃ x, σ[i]? = some (some x) ∧ te σ H fun y H1 => ti x y H1 fun z H2 => D.nx (σ.set i (some z)) H2
theorem ps_aug {i : Nat} {x : Str} {e : Expr} {te : TE} {op : Operator} {ti : TIp} {pos' : Pos} (hN : X.N.Nodup) (hi : X.N[i]? = some x) (hx : Loc X.env.scope x) (he : PE X e te) (ho : PIp X op ti) (hf : X.fn x = true ∨ X.env.scope.names.lookup x = some .local := by first | exact .inl rfl | exact .inr rfl | assumption) :
    PS X (.AugAssign (.Name x pos') op e pos) (tAug i te ti) := by
  intro pins s σ H D I h
  obtain ⟨v, e1, h⟩ := h
  obtain ⟨m, hn, hl⟩ := I.loc
  have vis : Vis X.env.scope x := by rcases hx with k | k; exact .inl k; exact .inr (.inl k)
  obtain ⟨u, r, l⟩ := hl i x v hi e1 vis
  refine wpAny_AugAssign_Name ?_
  have go : wpAny (model X.prog X.w) X.A (eval e X.env) (fun w s₂ => wpAny (model X.prog X.w) X.A (inplaceOp op u w) (fun r s₃ => wpAny (model X.prog X.w) X.A (storeName X.env x r) (fun _ => SP X pins D .next) X.xe s₃) X.xe s₂) X.xe s := by
    refine thn (he pins s σ H _ I h) fun w s1 ⟨y, H1, I1, r1, q1⟩ => ?_
    refine thn (ho pins s1 σ H1 v y u w _ I1 r r1 q1) fun z s2 ⟨zv, H2, I2, r2, q2⟩ => ?_
    exact store_ok I2 hN hi hx r2 (fun s3 I3 => ⟨_, H2, I3, q2⟩) hf
  rcases l with ⟨hk, hm⟩ | ⟨hk, c, hc, hcell⟩
  · exact wpAny_loadName_local I.ok.kind hk hn hm go
  · rcases hk with hk | hk
    · exact wpAny_loadName_cell I.ok.kind hk hc hcell go
    · rcases hx with k | k
      · have : X.env.scope.names.lookup x = some .free := hk
        rw [k] at this; cases this
      · have : X.env.scope.names.lookup x = some .free := hk
        rw [k] at this; cases this
/-- o[i] op= e -/
def tAugS (to ti te : TE) (tget : V → V → Hp → VK → Prop) (tip : TIp) (tset : TSet) : TS := fun D σ H => to σ H fun o H1 => ti σ H1 fun i H2 => tget o i H2 fun x H3 => te σ H3 fun y H4 => tip x y H4 fun z H5 => tset o i z H5 fun H6 => D.nx σ H6
/-- o[i], by values -/
def PGet (X : Cx) (t : V → V → Hp → VK → Prop) : Prop :=
  ∀ (pins : List (Addr × Obj)) (s : Shared) (σ : St) (H : Hp) (o i : V) (ov iv : Value) (Q : VK), Inv X pins σ H s → RelV o ov → RelV i iv → t o i H Q →
    wpAny (model X.prog X.w) X.A (getItem ov iv) (EP X pins σ Q) X.xe s
theorem ps_augS {o i e : Expr} {to ti te : TE} {tget : V → V → Hp → VK → Prop} {tip : TIp} {tset : TSet} {op : Operator} {tpos : Pos} (ho : PE X o to) (hi : PE X i ti) (hg : PGet X tget) (he : PE X e te) (hp : PIp X op tip) (hs : PSet X tset)
    (ha : ∀ ov iv new, augStore i ov iv new = (do holding [new, ov, iv] (setItem ov iv new); release [new, ov, iv] []; pure .next) := by intros; rfl) : PS X (.AugAssign (.Subscript o i tpos) op e pos) (tAugS to ti te tget tip tset) := by
  intro pins s σ H D I h
  refine wpAny_AugAssign_SubscriptAny (thn (ho pins s σ H _ I h) fun ov s1 ⟨x1, H1, I1, r1, q1⟩ => ?_) ha
  refine thn (hi pins s1 σ H1 _ I1 q1) fun iv s2 ⟨x2, H2, I2, r2, q2⟩ => ?_
  refine thn (hg pins s2 σ H2 x1 x2 ov iv _ I2 r1 r2 q2) fun old s3 ⟨x3, H3, I3, r3, q3⟩ => ?_
  refine thn (he pins s3 σ H3 _ I3 q3) fun v s4 ⟨x4, H4, I4, r4, q4⟩ => ?_
  refine thn (hp pins s4 σ H4 x3 x4 old v _ I4 r3 r4 q4) fun new s5 ⟨x5, H5, I5, r5, q5⟩ => ?_
  exact thn (hs pins s5 σ H5 x1 x2 x5 ov iv new _ I5 r1 r2 r5 q5) fun _ s6 ⟨H6, I6, q6⟩ => ⟨σ, H6, I6, q6⟩
/-- ints -/
def ipI (f : Int → Int → Int) : TIp := fun x y H Q => ∃ i j, x = .int i ∧ y = .int j ∧ Q (.int (f i j)) H
theorem ip_add : PIp X .Add (ipI fun i j => i + j) := by
  intro pins s σ H x y v u Q I r1 r2 h
  obtain ⟨i, j, e1, e2, q⟩ := h
  subst e1; subst e2
  obtain ⟨t, rfl⟩ := r1
  obtain ⟨t', rfl⟩ := r2
  exact iadd_int ⟨.int _, H, I.tok _, ⟨_, rfl⟩, q⟩
theorem ip_sub : PIp X .Sub (ipI fun i j => i - j) := by
  intro pins s σ H x y v u Q I r1 r2 h
  obtain ⟨i, j, e1, e2, q⟩ := h
  subst e1; subst e2
  obtain ⟨t, rfl⟩ := r1
  obtain ⟨t', rfl⟩ := r2
  exact isub_int ⟨.int _, H, I.tok _, ⟨_, rfl⟩, q⟩
end

/-! ### while -/
section
variable {X : Cx} {pos : Pos}
/-- the invariant W with its measure -/
def tWhile (c : TT) (tb : TS) : TS := fun D σ H => ∃ W : Nat → St → Hp → Prop, (∃ m, W m σ H) ∧ ∀ m σ H, W m σ H →
  c σ H fun b H1 => if b = true then ∃ N : St → Hp → Prop, (∀ σ' H', N σ' H' → ∃ m', m' < m ∧ W m' σ' H') ∧ tb { D with nx := N, ct := N, bk := D.nx } σ H1 else D.nx σ H1
theorem ps_while {c : Expr} {body : List Stmt} {tc : TT} {tb : TS} (hp : PassesOwn (model X.prog X.w) X.A X.env X.xe) (hc : PT X c tc) (hb : PSs X body tb) : PS X (.While c body [] pos) (tWhile tc tb) := by
  intro pins s σ H D I h
  obtain ⟨W, ⟨m0, w0⟩, turn⟩ := h
  refine wpAny_While (codeAny_whileLoop (fun n s' => ∃ σ' H', Inv X pins σ' H' s' ∧ W n σ' H') ?_ m0 ⟨σ, H, I, w0⟩)
  rintro n s1 ⟨σ1, H1, I1, w1⟩
  refine wpAny_passesOwn hp (thn (hc pins s1 σ1 H1 _ I1 (turn n σ1 H1 w1)) fun b s2 ⟨H2, I2, q2⟩ => ?_)
  cases b with
  | true =>
    obtain ⟨N, hN, q2⟩ := q2
    rw [if_pos rfl]
    refine wpAny_passesOwn hp (thn (hb pins s2 σ1 H2 _ I2 q2) fun f s3 q3 => ?_)
    cases f with
    | next =>
      obtain ⟨σ3, H3, I3, n3⟩ := q3
      obtain ⟨m', hm, w3⟩ := hN σ3 H3 n3
      exact ⟨m', hm, σ3, H3, I3, w3⟩
    | cont =>
      obtain ⟨σ3, H3, I3, n3⟩ := q3
      obtain ⟨m', hm, w3⟩ := hN σ3 H3 n3
      exact ⟨m', hm, σ3, H3, I3, w3⟩
    | brk => exact q3
    | ret v => exact q3
  | false =>
    rw [if_neg Bool.false_ne_true]
    exact wpAny_execs_nil ⟨σ1, H2, I2, q2⟩
end

/-! ### what a loop or a comprehension walks -/
/-- at turn i: it yields x (the heap may grow), or it stops -/
structure It where
  go : Nat → Hp → Prop
  yld : Nat → Hp → V → Hp → Prop
  stop : Nat → Hp → Prop
/-- the iterator's own objects may turn: they are not the frame's, not pinned, younger than the entry (or a comprehension's own) -/
def FpOk (X : Cx) (pins : List (Addr × Obj)) (H : Hp) (b : Addr) : Prop :=
  H b = none ∧ b ≠ X.env.locals ∧ b ∉ X.fs ∧ (b ∈ X.ex ∨ X.s₀.heap.objs.size ≤ b) ∧ (∀ x c, X.env.cells.lookup x = some c → c ≠ b) ∧ ∀ p ∈ X.pn ++ pins, p.1 ≠ b
theorem Inv.fpOk {X : Cx} {pins : List (Addr × Obj)} {σ : St} {H H' : Hp} {s : Shared} {b : Addr} (I : Inv X pins σ H s) (hb : s.heap.objs.size ≤ b) (hn : H' b = none) : FpOk X pins H' b := by
  refine ⟨hn, Nat.ne_of_gt (Nat.lt_of_lt_of_le I.lt hb), I.nofs hb, .inr (Nat.le_trans I.sz hb), fun x c e z => ?_, fun p hp z => ?_⟩
  · obtain ⟨v, q⟩ := I.cell x c e
    exact absurd (Nat.lt_of_lt_of_le q.lt (by rw [z]; exact hb)) (Nat.lt_irrefl _)
  · exact absurd (Nat.lt_of_lt_of_le (Heap.lt_size (I.pin p hp).1) (by rw [z]; exact hb)) (Nat.lt_irrefl _)
structure Turn (P : Program) (w : World) (K : PySem.W.Frag) (tg : Expr) (J : It) (fp : List Addr) (it : Addr) (tn : Nat → Heap → Prop) : Prop where
  mem : it ∈ fp
  obj : ∀ i h, tn i h → ∀ b ∈ fp, ∃ o, h.get? b = some o ∧ ∀ v, o.data ≠ .cell v
  keep : ∀ i h h', tn i h → (∀ b ∈ fp, ∀ o, h.get? b = some o → h'.get? b = some o) → tn i h'
  item : ∀ (X : Cx), X.prog = P → X.w = w → X.K = K → X.calm = true → ∀ (i : Nat) (pins : List (Addr × Obj)) (s : Shared) (σ : St) (H : Hp) (E : Value → Shared → Prop), Inv X pins σ H s → (∀ b ∈ fp, FpOk X pins H b) → tn i s.heap → J.go i H →
    wpAny (model P w) X.A (pyNext (.ref it)) (fun r s1 => ∃ u, r = some u ∧
      wpAny (model P w) X.A (letOwnedTupleGo tg (.ref it) u) (fun _ s2 => ∃ x H', Inv X pins σ H' s2 ∧ RelV x u ∧ J.yld i H x H' ∧ tn (i + 1) s2.heap ∧ ∀ b ∈ fp, H' b = none) E s1) E s
  done : ∀ (X : Cx), X.prog = P → X.w = w → X.K = K → X.calm = true → ∀ (i : Nat) (pins : List (Addr × Obj)) (s : Shared) (σ : St) (H : Hp) (E : Value → Shared → Prop), Inv X pins σ H s → (∀ b ∈ fp, FpOk X pins H b) → tn i s.heap → J.stop i H →
    wpAny (model P w) X.A (pyNext (.ref it)) (fun r s1 => r = none ∧ Inv X pins σ H s1) E s
  self : ∀ (A : Around) (i : Nat) (s : Shared) (Q : Value → Shared → Prop) (E : Value → Shared → Prop), tn i s.heap → Q (.ref it) s → wpAny (model P w) A (pyIter (.ref it)) Q E s
abbrev TI := St → Hp → (It → Hp → Prop) → Prop
/-- an iterator has come -/
def PIE (X : Cx) (pins : List (Addr × Obj)) (σ : St) (tg : Expr) (R : It → Hp → Prop) (itv : Value) (s2 : Shared) : Prop :=
  ∃ (it : Addr) (fp : List Addr) (tn : Nat → Heap → Prop) (J : It) (H' : Hp), itv = .ref it ∧ Inv X pins σ H' s2 ∧ Turn X.prog X.w X.K tg J fp it tn ∧ tn 0 s2.heap ∧ (∀ b ∈ fp, FpOk X pins H' b) ∧ R J H'
def PI (X : Cx) (tg iter : Expr) (wi : TI) : Prop :=
  ∀ (pins : List (Addr × Obj)) (s : Shared) (σ : St) (H : Hp) (R : It → Hp → Prop), Inv X pins σ H s → wi σ H R →
    wpAny (model X.prog X.w) X.A (eval iter X.env) (fun v s1 => wpAny (model X.prog X.w) X.A (pyIter v) (PIE X pins σ tg R) X.xe s1) X.xe s

/-- the step ahead of the store is nothing for an iterator that keeps no tuple -/
theorem go_of {M : Model} {A : Around} {E : Value → Shared → Prop} {s : Shared} {tg : Expr} {it : Addr} {u : Value} {o : Obj} {n : String} {vs : Array Value} {Q : Unit → Shared → Prop} (ho : s.heap.get? it = some o) (hc : o.cls = .type n) (hd : o.data = .fields vs)
    (hn : ["enumerate", "zip", "dict_itemiterator", "dict_reverseitemiterator", "odict_iterator", "itertools.zip_longest", "itertools.pairwise"].contains n = false) (hQ : Q () s) : wpAny M A (letOwnedTupleGo tg (.ref it) u) Q E s := by
  unfold letOwnedTupleGo
  cases tg <;> first
    | exact wpAny_pure hQ
    | (cases u <;> first
        | exact wpAny_pure hQ
        | (refine wpAny_bind (wpAny_load ho ?_)
           rw [hc, hd]
           show wpAny M A (if (["enumerate", "zip", "dict_itemiterator", "dict_reverseitemiterator", "odict_iterator", "itertools.zip_longest", "itertools.pairwise"].contains n && vs[0]? == some (rawInt _)) = true then _ else _) Q E s
           rw [if_neg (by intro h; rw [hn, Bool.false_and] at h; cases h)]
           exact wpAny_pure hQ))

/-- the list at a, as it stands at each turn (a loop may append to it) -/
def Itl (K : PySem.W.Frag) (a : Addr) : It :=
  ⟨fun i H => ∃ xs x, SqL K H a xs ∧ xs[i]? = some x, fun i H x H' => H' = H ∧ ∀ xs, SqL K H a xs → xs[i]? = some x, fun i H => ∃ xs, SqL K H a xs ∧ xs.length ≤ i⟩
def Itt (K : PySem.W.Frag) (a : Addr) : It :=
  ⟨fun i H => ∃ xs x, SqT K H a xs ∧ xs[i]? = some x, fun i H x H' => H' = H ∧ ∀ xs, SqT K H a xs → xs[i]? = some x, fun i H => ∃ xs, SqT K H a xs ∧ xs.length ≤ i⟩
/-- lo, lo + 1, .. (n of them) -/
def Itr (lo : Int) (n : Nat) : It := ⟨fun i _ => i < n, fun i H x H' => H' = H ∧ x = .int (lo + i), fun i _ => n ≤ i⟩
theorem turn_list {P : Program} {w : World} {K : PySem.W.Frag} {tg : Expr} (a it : Addr) : Turn P w K tg (Itl K a) [it] it (fun i h => h.IsListIter it a i) where
  mem := by simp
  obj := fun i h st b hb => by
    have e : b = it := by simpa using hb
    subst e
    obtain ⟨o, e, c, d⟩ := st
    exact ⟨o, e, fun v z => by rw [d] at z; cases z⟩
  keep := fun i h h' st k => st.at fun o e => k it (by simp) o e
  item := by
    intro X hP hw hK hc i pins s σ H E I hf st hg
    subst hP hw hK
    obtain ⟨xs, x, hq, hx⟩ := hg
    obtain ⟨its, rv, p, hz⟩ := I.list hq
    obtain ⟨u, hu, ru⟩ := rv.get hx
    obtain ⟨f0, f1, f2, f3, f4, f5⟩ := hf it (by simp)
    refine wpAny_pyNext_list_item st p.isList (x := u) (by simpa using hu) fun h' st' sb => ?_
    have I1 : Inv X pins σ H { s with heap := h' } := I.turned (t' := s.toks) (fun b o hb e => (sb.2 b hb).trans e) f0 f1 f3 f4 f5
    obtain ⟨o, e, c, d⟩ := id st'
    exact ⟨u, rfl, go_of (s := { s with heap := h' }) e c d (by decide) ⟨x, H, I1, ru, ⟨rfl, fun ys hy => by rw [I.list_inj hy hq]; exact hx⟩, st', fun b hb => (hf b hb).1⟩⟩
  done := by
    intro X hP hw hK hc i pins s σ H E I hf st hg
    subst hP hw hK
    obtain ⟨xs, hq, hx⟩ := hg
    obtain ⟨its, rv, p, hz⟩ := I.list hq
    obtain ⟨f0, f1, f2, f3, f4, f5⟩ := hf it (by simp)
    have hl := rv.length
    exact wpAny_pyNext_list_end (I.ok.hd hc) st p.isList (by simp; omega) fun h' eb => ⟨rfl, I.turned (t' := s.toks) (fun b o hb e => eb b o hb e) f0 f1 f3 f4 f5⟩
  self := fun _ _ _ _ _ st h => wpAny_pyIter_listiter st h
theorem turn_tuple {P : Program} {w : World} {K : PySem.W.Frag} {tg : Expr} (a it : Addr) : Turn P w K tg (Itt K a) [it] it (fun i h => h.IsTupleIter it a i) where
  mem := by simp
  obj := fun i h st b hb => by
    have e : b = it := by simpa using hb
    subst e
    obtain ⟨o, e, c, d⟩ := st
    exact ⟨o, e, fun v z => by rw [d] at z; cases z⟩
  keep := fun i h h' st k => st.at fun o e => k it (by simp) o e
  item := by
    intro X hP hw hK hc i pins s σ H E I hf st hg
    subst hP hw hK
    obtain ⟨xs, x, hq, hx⟩ := hg
    obtain ⟨its, rv, p, hz⟩ := I.tuple hq
    obtain ⟨u, hu, ru⟩ := rv.get hx
    obtain ⟨f0, f1, f2, f3, f4, f5⟩ := hf it (by simp)
    refine wpAny_pyNext_tuple_item st (show s.heap.IsTuple a its.toArray from p) (x := u) (by simpa using hu) fun h' st' sb => ?_
    have I1 : Inv X pins σ H { s with heap := h' } := I.turned (t' := s.toks) (fun b o hb e => (sb.2 b hb).trans e) f0 f1 f3 f4 f5
    obtain ⟨o, e, c, d⟩ := id st'
    exact ⟨u, rfl, go_of (s := { s with heap := h' }) e c d (by decide) ⟨x, H, I1, ru, ⟨rfl, fun ys hy => by rw [I.tuple_inj hy hq]; exact hx⟩, st', fun b hb => (hf b hb).1⟩⟩
  done := by
    intro X hP hw hK hc i pins s σ H E I hf st hg
    subst hP hw hK
    obtain ⟨xs, hq, hx⟩ := hg
    obtain ⟨its, rv, p, hz⟩ := I.tuple hq
    obtain ⟨f0, f1, f2, f3, f4, f5⟩ := hf it (by simp)
    have hl := rv.length
    exact wpAny_pyNext_tuple_end (I.ok.hd hc) st (show s.heap.IsTuple a its.toArray from p) (by simp; omega) fun h' eb => ⟨rfl, I.turned (t' := s.toks) (fun b o hb e => eb b o hb e) f0 f1 f3 f4 f5⟩
  self := fun _ _ _ _ _ st h => wpAny_pyIter_tupleiter st h
theorem turn_range {P : Program} {w : World} {K : PySem.W.Frag} {tg : Expr} (it : Addr) (lo : Int) (n : Nat) : Turn P w K tg (Itr lo n) [it] it (fun i h => IsRangeIter h it (lo + (i : Nat) * 1) ((n : Int) - (i : Nat)) 1) where
  mem := by simp
  obj := fun i h st b hb => by
    have e : b = it := by simpa using hb
    subst e
    exact ⟨_, st, fun v z => by
      have z' : Data.fields _ = Data.cell v := z
      cases z'⟩
  keep := fun i h h' st k => k it (by simp) _ st
  item := by
    intro X hP hw hK hc i pins s σ H E I hf st hg
    subst hP hw hK
    obtain ⟨f0, f1, f2, f3, f4, f5⟩ := hf it (by simp)
    have W := Walks.range (prog := X.prog) (w := X.w) (I.ok.hd hc) it lo 1 n
    refine W.item i s _ _ hg st fun v h' tk hv st' kk => ?_
    obtain ⟨t, rfl⟩ := hv
    have I1 : Inv X pins σ H { s with heap := h', toks := tk } := I.turned (fun b o hb e => kk b o (by simpa using hb) e) f0 f1 f3 f4 f5
    refine ⟨_, rfl, go_of (s := { s with heap := h', toks := tk }) (n := "range_iterator") st' rfl rfl (by decide) ⟨.int (lo + i), H, I1, ⟨t, ?_⟩, ⟨rfl, rfl⟩, st', fun b hb => (hf b hb).1⟩⟩
    rw [Int.mul_one]
  done := by
    intro X hP hw hK hc i pins s σ H E I hf st hg
    subst hP hw hK
    obtain ⟨f0, f1, f2, f3, f4, f5⟩ := hf it (by simp)
    exact wpAny_pyNext_range_end (I.ok.hd hc) st (by have : n ≤ i := hg; omega) fun h' eb => ⟨rfl, I.turned (t' := s.toks) (fun b o hb e => eb b o hb e) f0 f1 f3 f4 f5⟩
  self := fun _ _ _ _ _ st h => wpAny_pyIter_rangeiter st h
end L2

namespace L2
open PySem PySem.Spec PyProof.Rows
section
variable {X : Cx} {tg : Expr}
def iList (K : PySem.W.Frag) (tl : TE) : TI := fun σ H R => tl σ H fun x H1 => ∃ a, x = .ref a ∧ (∃ xs, SqL K H1 a xs) ∧ R (Itl K a) H1
def iTup (K : PySem.W.Frag) (tl : TE) : TI := fun σ H R => tl σ H fun x H1 => ∃ a, x = .ref a ∧ (∃ xs, SqT K H1 a xs) ∧ R (Itt K a) H1
theorem pi_list {l : Expr} {tl : TE} (hl : PE X l tl) : PI X tg l (iList X.K tl) := by
  intro pins s σ H R I h
  refine thn (hl pins s σ H _ I h) fun v s1 ⟨x, H1, I1, r1, q1⟩ => ?_
  obtain ⟨a, e, ⟨xs, hq⟩, q⟩ := q1
  subst e
  cases r1
  obtain ⟨its, rv, p, hz⟩ := I1.list hq
  refine wpAny_pyIter_list p.isList ?_
  refine ⟨s1.heap.objs.size, [s1.heap.objs.size], _, _, H1, rfl, I1.kept (t' := s1.toks) fun b o e => Heap.get?_push_of_some _ e, turn_list a _, ⟨_, Heap.get?_push_size _ rfl, rfl, rfl⟩, fun b hb => ?_, q⟩
  have e : b = s1.heap.objs.size := by simpa using hb
  subst e
  exact I1.fpOk (Nat.le_refl _) (I1.hok.fresh (Nat.le_refl _))
theorem pi_tup {l : Expr} {tl : TE} (hl : PE X l tl) : PI X tg l (iTup X.K tl) := by
  intro pins s σ H R I h
  refine thn (hl pins s σ H _ I h) fun v s1 ⟨x, H1, I1, r1, q1⟩ => ?_
  obtain ⟨a, e, ⟨xs, hq⟩, q⟩ := q1
  subst e
  cases r1
  obtain ⟨its, rv, p, hz⟩ := I1.tuple hq
  refine wpAny_pyIter_tuple (show s1.heap.IsTuple a its.toArray from p) ?_
  refine ⟨s1.heap.objs.size, [s1.heap.objs.size], _, _, H1, rfl, I1.kept (t' := s1.toks) fun b o e => Heap.get?_push_of_some _ e, turn_tuple a _, ⟨_, Heap.get?_push_size _ rfl, rfl, rfl⟩, fun b hb => ?_, q⟩
  have e : b = s1.heap.objs.size := by simpa using hb
  subst e
  exact I1.fpOk (Nat.le_refl _) (I1.hok.fresh (Nat.le_refl _))
/-- a range object just made, walked -/
theorem range_it {pins : List (Addr × Obj)} {σ : St} {H : Hp} {s : Shared} {R : It → Hp → Prop} {E : Value → Shared → Prop} {lo hi : Int} {t u v : Tok} {tk : Nat} (I : Inv X pins σ H s) (h1 : -(2 ^ 62) ≤ lo) (h2 : lo < 2 ^ 62) (h3 : -(2 ^ 62) ≤ hi) (h4 : hi < 2 ^ 62)
    (q : R (Itr lo (hi - lo).toNat) H) : wpAny (model X.prog X.w) X.A (pyIter (.ref s.heap.objs.size)) (PIE X pins σ tg R) E { s with heap := s.heap.push { cls := .type "range", data := .fields #[.int lo t, .int hi u, .int 1 v] }, toks := tk } := by
  refine wpAny_pyIter_range (IsRange.new ..) (small_one h1 h2 h3 h4) ?_
  have I1 : Inv X pins σ H { s with heap := s.heap.push { cls := .type "range", data := .fields #[.int lo t, .int hi u, .int 1 v] }, toks := tk } := I.kept fun b o e => Heap.get?_push_of_some _ e
  refine ⟨(s.heap.push { cls := .type "range", data := .fields #[.int lo t, .int hi u, .int 1 v] }).objs.size, [(s.heap.push { cls := .type "range", data := .fields #[.int lo t, .int hi u, .int 1 v] }).objs.size], _, _, H, rfl,
    I1.kept (t' := tk) fun b o e => Heap.get?_push_of_some _ e, turn_range _ lo (hi - lo).toNat, ?_, fun b hb => ?_, q⟩
  · have e1 : lo + ((0 : Nat) : Int) * 1 = lo := by simp
    have e2 : (((hi - lo).toNat : Nat) : Int) - ((0 : Nat) : Int) = Builtin.Range.rangeSize lo hi 1 := by rw [rangeSize_one]; split <;> omega
    show IsRangeIter _ _ (lo + ((0 : Nat) : Int) * 1) ((((hi - lo).toNat : Nat) : Int) - ((0 : Nat) : Int)) 1
    rw [e1, e2]
    exact Heap.get?_push_size _ rfl
  · have e : b = (s.heap.push { cls := .type "range", data := .fields #[.int lo t, .int hi u, .int 1 v] }).objs.size := by simpa using hb
    subst e
    exact I1.fpOk (Nat.le_refl _) (I1.hok.fresh (Nat.le_refl _))
def iRng1 (ta : TA) : TI := fun σ H R => ta σ H fun vs H1 => ∃ j : Int, vs = [.int j] ∧ -(2 ^ 62) ≤ j ∧ j < 2 ^ 62 ∧ R (Itr 0 j.toNat) H1
def iRng2 (ta : TA) : TI := fun σ H R => ta σ H fun vs H1 => ∃ i j : Int, vs = [.int i, .int j] ∧ (-(2 ^ 62) ≤ i ∧ i < 2 ^ 62 ∧ -(2 ^ 62) ≤ j ∧ j < 2 ^ 62) ∧ R (Itr i (j - i).toNat) H1
theorem pi_range1 {a : Expr} {ta : TA} {p pos : Pos} (hg : Gl X "range") (hm : X.mg "range" = none) (ha : PA X [a] ta) (hs : starEach [a] X.env = [(false, eval a X.env)] := by rfl) : PI X tg (.Call (.Name "range" p) [a] [] pos) (iRng1 ta) := by
  intro pins s σ H R I h
  refine Call_ (ld_blt I hg hm boot_range (PyProof.Rows.callWith_type1 (thn (ha pos pins s σ H _ I h) fun us s1 ⟨vs, H1, I1, r1, q1⟩ => ?_) hs rfl))
  obtain ⟨j, e, q1, q2, q⟩ := q1
  subst e
  cases r1 with
  | cons r rr =>
    cases rr
    obtain ⟨t, rfl⟩ := r
    exact call_range_1 (range_it I1 (by omega) (by omega) q1 q2 (by simpa using q))
theorem pi_range2 {a b : Expr} {ta : TA} {p pos : Pos} (hg : Gl X "range") (hm : X.mg "range" = none) (ha : PA X [a, b] ta) (hs : starEach [a, b] X.env = [(false, eval a X.env), (false, eval b X.env)] := by rfl) (hs2 : starEach [b] X.env = [(false, eval b X.env)] := by rfl) :
    PI X tg (.Call (.Name "range" p) [a, b] [] pos) (iRng2 ta) := by
  intro pins s σ H R I h
  refine Call_ (ld_blt I hg hm boot_range (PyProof.Rows.callWith_type1 (thn (ha pos pins s σ H _ I h) fun us s1 ⟨vs, H1, I1, r1, q1⟩ => ?_) (by rw [hs, hs2]) (by rw [hs2]; rfl)))
  obtain ⟨i, j, e, ⟨q1, q2, q3, q4⟩, q⟩ := q1
  subst e
  cases r1 with
  | cons r rr =>
    cases rr with
    | cons r' rr =>
      cases rr
      obtain ⟨t, rfl⟩ := r
      obtain ⟨t', rfl⟩ := r'
      exact call_range_2 (range_it I1 q1 q2 q3 q4 q)

/-! ### for -/
/-- W: the invariant by the turn and a measure; N: what the body is to reach -/
def tFor (wi : TI) (g : TG) (tb : TS) : TS := fun D σ H => wi σ H fun J H1 => ∃ W : Nat → Nat → St → Hp → Prop, (∃ m, W 0 m σ H1) ∧ ∀ i m σ H, W i m σ H →
  (J.stop i H ∧ D.nx σ H) ∨ (J.go i H ∧ ∃ N : St → Hp → Prop, (∀ σ' H', N σ' H' → ∃ m', m' < m ∧ W (i + 1) m' σ' H') ∧ ∀ x H', J.yld i H x H' → g x σ H' fun σ2 H2 => tb { D with nx := N, ct := N, bk := D.nx } σ2 H2)
/-- the records at fp as they stand -/
def pinsAt (fp : List Addr) (h : Heap) : List (Addr × Obj) := fp.filterMap fun b => (h.get? b).map fun o => (b, o)
theorem mem_pinsAt {fp : List Addr} {h : Heap} {b : Addr} {o : Obj} (hb : b ∈ fp) (e : h.get? b = some o) : (b, o) ∈ pinsAt fp h := List.mem_filterMap.mpr ⟨b, hb, by rw [e]; rfl⟩
theorem of_pinsAt {fp : List Addr} {h : Heap} {p : Addr × Obj} (hp : p ∈ pinsAt fp h) : p.1 ∈ fp ∧ h.get? p.1 = some p.2 := by
  obtain ⟨b, hb, e⟩ := List.mem_filterMap.mp hp
  cases q : h.get? b with
  | none => rw [q] at e; cases e
  | some o =>
    rw [q] at e
    have e' : (b, o) = p := Option.some.inj e
    subst e'
    exact ⟨hb, q⟩
theorem Inv.pinned {pins : List (Addr × Obj)} {σ : St} {H : Hp} {s : Shared} {fp : List Addr} (I : Inv X pins σ H s) (hf : ∀ b ∈ fp, FpOk X pins H b) (ho : ∀ b ∈ fp, ∃ o, s.heap.get? b = some o ∧ ∀ v, o.data ≠ .cell v) : Inv X (pins ++ pinsAt fp s.heap) σ H s :=
  I.pins_of fun p hp => (List.mem_append.mp hp).elim (fun z => I.pin p (List.mem_append_right _ z)) fun z => by
    obtain ⟨hb, e⟩ := of_pinsAt z
    obtain ⟨f0, f1, f2, _⟩ := hf p.1 hb
    obtain ⟨o, e', d⟩ := ho p.1 hb
    rw [e] at e'; cases e'
    exact ⟨e, f0, f1, f2, d⟩
theorem Inv.unpinned {pins pl : List (Addr × Obj)} {σ : St} {H : Hp} {s : Shared} (I : Inv X (pins ++ pl) σ H s) : Inv X pins σ H s := I.pins_of fun p hp => I.pin p (List.mem_append_right _ (List.mem_append_left _ hp))
theorem ps_for {iter : Expr} {body : List Stmt} {wi : TI} {g : TG} {tb : TS} {pos : Pos} (hp : PassesOwn (model X.prog X.w) X.A X.env X.xe) (hc : X.calm = true) (hi : PI X tg iter wi) (hg : PG X tg g) (hb : PSs X body tb)
    (hs : ∀ x, foldedSetIterable iter X.env x = pure x := by intro _; rfl) : PS X (.For tg iter body [] pos) (tFor wi g tb) := by
  intro pins s σ H D I h
  refine wpAny_For (thn (hi pins s σ H _ I h) fun v s1 h1 => thn h1 fun itv s2 h2 => ?_) hs
  obtain ⟨it, fp, tn, J, H2, e, I2, T, st2, f2, W, ⟨m0, w0⟩, turn⟩ := h2
  subst e
  -- what stays true of the iterator's objects through the loop
  have stat : ∀ {H' : Hp}, (∀ b ∈ fp, H' b = none) → ∀ b ∈ fp, FpOk X pins H' b := fun hn b hb => ⟨hn b hb, (f2 b hb).2⟩
  refine codeAny_forLoop_any (fun n s' => ∃ i σ' H', Inv X pins σ' H' s' ∧ tn i s'.heap ∧ (∀ b ∈ fp, H' b = none) ∧ W i n σ' H') ?_ m0 ⟨0, σ, H2, I2, st2, fun b hb => (f2 b hb).1, w0⟩
  rintro n s3 ⟨i, σ3, H3, I3, st3, fr3, w3⟩
  rcases turn i n σ3 H3 w3 with ⟨stop, qn⟩ | ⟨go, N, hN, step⟩
  · refine wpAny_passesOwn hp (thn (T.done X rfl rfl rfl hc i pins s3 σ3 H3 X.xe I3 (stat fr3) st3 stop) fun r s4 ⟨hr, I4⟩ => ?_)
    subst hr
    exact wpAny_execs_nil ⟨σ3, H3, I4, qn⟩
  · refine wpAny_passesOwn hp (thn (T.item X rfl rfl rfl hc i pins s3 σ3 H3 X.xe I3 (stat fr3) st3 go) fun r s4 ⟨u, hr, h4⟩ => ?_)
    subst hr
    refine wpAny_passesOwn hp (thn h4 fun _ s5 ⟨x, H5, I5, r5, y5, st5, fr5⟩ => ?_)
    have I5' := I5.pinned (stat fr5) (T.obj _ _ st5)
    refine wpAny_passesOwn hp (thn (hg _ s5 σ3 H5 x u _ I5' r5 (step x H5 y5)) fun _ s6 ⟨σ6, H6, I6, q6⟩ => ?_)
    refine wpAny_passesOwn hp (thn (hb _ s6 σ6 H6 _ I6 q6) fun f s7 q7 => ?_)
    have again : ∀ {σ7 : St} {H7 : Hp}, Inv X (pins ++ pinsAt fp s5.heap) σ7 H7 s7 → N σ7 H7 → ∃ m, m < n ∧ ∃ i σ' H', Inv X pins σ' H' s7 ∧ tn i s7.heap ∧ (∀ b ∈ fp, H' b = none) ∧ W i m σ' H' := fun {σ7 H7} I7 n7 => by
      obtain ⟨m', hm, w7⟩ := hN σ7 H7 n7
      refine ⟨m', hm, i + 1, σ7, H7, I7.unpinned, T.keep _ _ _ st5 fun b hb o e => (I7.pin (b, o) (List.mem_append_right _ (List.mem_append_right _ (mem_pinsAt hb e)))).1, fun b hb => ?_, w7⟩
      obtain ⟨o, e, d⟩ := T.obj _ _ st5 b hb
      exact (I7.pin (b, o) (List.mem_append_right _ (List.mem_append_right _ (mem_pinsAt hb e)))).2.1
    cases f with
    | next => obtain ⟨σ7, H7, I7, n7⟩ := q7; exact again I7 n7
    | cont => obtain ⟨σ7, H7, I7, n7⟩ := q7; exact again I7 n7
    | brk => obtain ⟨σ7, H7, I7, q7⟩ := q7; exact ⟨σ7, H7, I7.unpinned, q7⟩
    | ret v => obtain ⟨x7, σ7, H7, I7, r7, q7⟩ := q7; exact ⟨x7, σ7, H7, I7.unpinned, r7, q7⟩
end

/-! ### the forms one uses -/
/-- over a list that the body leaves as it is -/
theorem for_list {K : PySem.W.Frag} {a : Addr} {xs : List V} {g : TG} {tb : TS} {D : Ends} {σ : St} {H : Hp} (Pv : Nat → St → Hp → Prop) (h0 : Pv 0 σ H) (hl : ∀ i σ H, i ≤ xs.length → Pv i σ H → SqL K H a xs)
    (hs : ∀ i x σ H, xs[i]? = some x → Pv i σ H → g x σ H fun σ2 H2 => tb { D with nx := Pv (i + 1), ct := Pv (i + 1), bk := D.nx } σ2 H2) (hd : ∀ σ H, Pv xs.length σ H → D.nx σ H) :
    ∃ W : Nat → Nat → St → Hp → Prop, (∃ m, W 0 m σ H) ∧ ∀ i m σ H, W i m σ H →
      ((Itl K a).stop i H ∧ D.nx σ H) ∨ ((Itl K a).go i H ∧ ∃ N : St → Hp → Prop, (∀ σ' H', N σ' H' → ∃ m', m' < m ∧ W (i + 1) m' σ' H') ∧ ∀ x H', (Itl K a).yld i H x H' → g x σ H' fun σ2 H2 => tb { D with nx := N, ct := N, bk := D.nx } σ2 H2) := by
  refine ⟨fun i m σ H => m = xs.length - i ∧ i ≤ xs.length ∧ Pv i σ H, ⟨xs.length, by simp, Nat.zero_le _, h0⟩, ?_⟩
  rintro i m σ H ⟨rfl, hi, p⟩
  have q := hl i σ H hi p
  by_cases hlt : i < xs.length
  · refine .inr ⟨⟨xs, xs[i], q, by simp [hlt]⟩, Pv (i + 1), fun σ' H' p' => ⟨xs.length - (i + 1), by omega, rfl, hlt, p'⟩, fun x H' y => ?_⟩
    obtain ⟨e, y⟩ := y
    subst e
    exact hs i x σ _ (y xs q) p
  · have e : i = xs.length := by omega
    subst e
    exact .inl ⟨⟨xs, q, Nat.le_refl _⟩, hd σ H p⟩
theorem for_tup {K : PySem.W.Frag} {a : Addr} {xs : List V} {g : TG} {tb : TS} {D : Ends} {σ : St} {H : Hp} (Pv : Nat → St → Hp → Prop) (h0 : Pv 0 σ H) (hl : ∀ i σ H, i ≤ xs.length → Pv i σ H → SqT K H a xs)
    (hs : ∀ i x σ H, xs[i]? = some x → Pv i σ H → g x σ H fun σ2 H2 => tb { D with nx := Pv (i + 1), ct := Pv (i + 1), bk := D.nx } σ2 H2) (hd : ∀ σ H, Pv xs.length σ H → D.nx σ H) :
    ∃ W : Nat → Nat → St → Hp → Prop, (∃ m, W 0 m σ H) ∧ ∀ i m σ H, W i m σ H →
      ((Itt K a).stop i H ∧ D.nx σ H) ∨ ((Itt K a).go i H ∧ ∃ N : St → Hp → Prop, (∀ σ' H', N σ' H' → ∃ m', m' < m ∧ W (i + 1) m' σ' H') ∧ ∀ x H', (Itt K a).yld i H x H' → g x σ H' fun σ2 H2 => tb { D with nx := N, ct := N, bk := D.nx } σ2 H2) := by
  refine ⟨fun i m σ H => m = xs.length - i ∧ i ≤ xs.length ∧ Pv i σ H, ⟨xs.length, by simp, Nat.zero_le _, h0⟩, ?_⟩
  rintro i m σ H ⟨rfl, hi, p⟩
  have q := hl i σ H hi p
  by_cases hlt : i < xs.length
  · refine .inr ⟨⟨xs, xs[i], q, by simp [hlt]⟩, Pv (i + 1), fun σ' H' p' => ⟨xs.length - (i + 1), by omega, rfl, hlt, p'⟩, fun x H' y => ?_⟩
    obtain ⟨e, y⟩ := y
    subst e
    exact hs i x σ _ (y xs q) p
  · have e : i = xs.length := by omega
    subst e
    exact .inl ⟨⟨xs, q, Nat.le_refl _⟩, hd σ H p⟩
theorem for_range {lo : Int} {n : Nat} {g : TG} {tb : TS} {D : Ends} {σ : St} {H : Hp} (Pv : Nat → St → Hp → Prop) (h0 : Pv 0 σ H)
    (hs : ∀ i σ H, i < n → Pv i σ H → g (.int (lo + i)) σ H fun σ2 H2 => tb { D with nx := Pv (i + 1), ct := Pv (i + 1), bk := D.nx } σ2 H2) (hd : ∀ σ H, Pv n σ H → D.nx σ H) :
    ∃ W : Nat → Nat → St → Hp → Prop, (∃ m, W 0 m σ H) ∧ ∀ i m σ H, W i m σ H →
      ((Itr lo n).stop i H ∧ D.nx σ H) ∨ ((Itr lo n).go i H ∧ ∃ N : St → Hp → Prop, (∀ σ' H', N σ' H' → ∃ m', m' < m ∧ W (i + 1) m' σ' H') ∧ ∀ x H', (Itr lo n).yld i H x H' → g x σ H' fun σ2 H2 => tb { D with nx := N, ct := N, bk := D.nx } σ2 H2) := by
  refine ⟨fun i m σ H => m = n - i ∧ i ≤ n ∧ Pv i σ H, ⟨n, by simp, Nat.zero_le _, h0⟩, ?_⟩
  rintro i m σ H ⟨rfl, hi, p⟩
  by_cases hlt : i < n
  · refine .inr ⟨hlt, Pv (i + 1), fun σ' H' p' => ⟨n - (i + 1), by omega, rfl, hlt, p'⟩, fun x H' y => ?_⟩
    obtain ⟨e, y⟩ := y
    subst e y
    exact hs i σ _ hlt p
  · have e : i = n := by omega
    subst e
    exact .inl ⟨Nat.le_refl _, hd σ H p⟩
/-- while, by a word and a measure of the state -/
theorem while_by {c : TT} {tb : TS} {D : Ends} {σ : St} {H : Hp} (Pv : St → Hp → Prop) (μ : St → Hp → Nat) (h0 : Pv σ H)
    (hs : ∀ σ H, Pv σ H → c σ H fun b H1 => if b = true then tb { D with nx := fun σ' H' => Pv σ' H' ∧ μ σ' H' < μ σ H, ct := fun σ' H' => Pv σ' H' ∧ μ σ' H' < μ σ H, bk := D.nx } σ H1 else D.nx σ H1)
    (mono : ∀ σ H Q Q', (∀ b H1, Q b H1 → Q' b H1) → c σ H Q → c σ H Q') : tWhile c tb D σ H := by
  refine ⟨fun m σ H => m = μ σ H ∧ Pv σ H, ⟨_, rfl, h0⟩, ?_⟩
  rintro m σ H ⟨rfl, p⟩
  refine mono σ H _ _ (fun b H1 q => ?_) (hs σ H p)
  cases b with
  | true => exact ⟨_, fun σ' H' ⟨p', l⟩ => ⟨_, l, rfl, p'⟩, q⟩
  | false => exact q
end L2

namespace L2
open PySem PySem.Spec PyProof.Rows

abbrev R2 := V → V → Hp → VK → Prop
/-- a two-place operation on values: f is binaryOp op, inplaceOp op or compareOp op -/
def OpR (X : Cx) (f : Value → Value → Sem Value) (r : R2) : Prop :=
  ∀ (pins : List (Addr × Obj)) (s : Shared) (σ : St) (H : Hp) (x y : V) (v u : Value) (Q : VK), Inv X pins σ H s → RelV x v → RelV y u → r x y H Q →
    wpAny (model X.prog X.w) X.A (f v u) (EP X pins σ Q) X.xe s
/-- a one-place operation -/
def UnR (X : Cx) (f : Value → Sem Value) (r : V → Hp → VK → Prop) : Prop :=
  ∀ (pins : List (Addr × Obj)) (s : Shared) (σ : St) (H : Hp) (x : V) (v : Value) (Q : VK), Inv X pins σ H s → RelV x v → r x H Q →
    wpAny (model X.prog X.w) X.A (f v) (EP X pins σ Q) X.xe s
/-- a call of a value that is known (a builtin, a type) with values -/
def CallR (X : Cx) (f : Value) (r : List V → Hp → VK → Prop) : Prop :=
  ∀ (pins : List (Addr × Obj)) (s : Shared) (σ : St) (H : Hp) (xs : List V) (us : List Value) (Q : VK), Inv X pins σ H s → Vals xs us → r xs H Q →
    wpAny (model X.prog X.w) X.A (call f us) (EP X pins σ Q) X.xe s
/-- a value's truth -/
def TruR (X : Cx) (r : V → Hp → (Bool → Hp → Prop) → Prop) : Prop :=
  ∀ (pins : List (Addr × Obj)) (s : Shared) (σ : St) (H : Hp) (x : V) (v : Value) (Q : Bool → Hp → Prop), Inv X pins σ H s → RelV x v → r x H Q →
    wpAny (model X.prog X.w) X.A (truthy v) (TP X pins σ Q) X.xe s

def tOp (r : R2) (ta tb : TE) : TE := fun σ H Q => ta σ H fun x H1 => tb σ H1 fun y H2 => r x y H2 Q
def tUn (r : V → Hp → VK → Prop) (ta : TE) : TE := fun σ H Q => ta σ H fun x H1 => r x H1 Q
/-- ints in, under C, and a value out -/
def rI (C : Int → Int → Prop) (g : Int → Int → V) : R2 := fun x y H Q => ∃ i j, x = .int i ∧ y = .int j ∧ C i j ∧ Q (g i j) H
def rI0 (g : Int → Int → V) : R2 := fun x y H Q => ∃ i j, x = .int i ∧ y = .int j ∧ Q (g i j) H
def rU (g : Int → V) : V → Hp → VK → Prop := fun x H Q => ∃ i, x = .int i ∧ Q (g i) H

section
variable {X : Cx} {a b c : Expr} {ta tb tc : TE} {pos : Pos}

theorem binT (ha : PE X a ta) (hb : PE X b tb) {pins : List (Addr × Obj)} {s : Shared} {σ : St} {H : Hp} {R : V → V → Hp → Prop} (I : Inv X pins σ H s)
    (h : ta σ H fun x H1 => tb σ H1 fun y H2 => R x y H2) {Q : Value → Shared → Prop} {f : Value → Value → Sem Value}
    (hf : ∀ v u s2 x y H2, Inv X pins σ H2 s2 → RelV x v → RelV y u → R x y H2 → wpAny (model X.prog X.w) X.A (f v u) Q X.xe s2) :
    wpAny (model X.prog X.w) X.A (eval a X.env) (fun v s₁ => wpAny (model X.prog X.w) X.A (eval b X.env) (fun u s₂ => wpAny (model X.prog X.w) X.A (f v u) Q X.xe s₂) X.xe s₁) X.xe s := by
  refine thn (ha pins s σ H _ I h) fun v s1 ⟨x, H1, I1, r1, q1⟩ => ?_
  refine thn (hb pins s1 σ H1 _ I1 q1) fun u s2 ⟨y, H2, I2, r2, q2⟩ => ?_
  exact hf v u s2 x y H2 I2 r1 r2 q2

theorem pe_op {op : Operator} {r : R2} (ho : OpR X (binaryOp op) r) (ha : PE X a ta) (hb : PE X b tb) : PE X (.BinOp a op b pos) (tOp r ta tb) := by
  intro pins s σ H Q I h
  exact wpAny_BinOp (binT ha hb I h fun v u s2 x y H2 I2 rx ry q => ho pins s2 σ H2 x y v u Q I2 rx ry q)
theorem pe_un {op : UnaryOp} {r : V → Hp → VK → Prop} (ho : UnR X (unaryOp op) r) (ha : PE X a ta) : PE X (.UnaryOp op a pos) (tUn r ta) := by
  intro pins s σ H Q I h
  exact UnaryOp_ (thn (ha pins s σ H _ I h) fun v s1 ⟨x, H1, I1, r1, q1⟩ => ho pins s1 σ H1 x v Q I1 r1 q1)
/-- a op= e at a name: the name's slot i -/
theorem augR {op : Operator} {r : R2} (ho : OpR X (inplaceOp op) r) {pins : List (Addr × Obj)} {s : Shared} {σ : St} {H : Hp} {x y : V} {v u : Value} {Q : VK} (I : Inv X pins σ H s)
    (rx : RelV x v) (ry : RelV y u) (q : r x y H Q) : wpAny (model X.prog X.w) X.A (inplaceOp op v u) (EP X pins σ Q) X.xe s := ho pins s σ H x y v u Q I rx ry q

/-! ### ints -/
theorem opI {f : Value → Value → Sem Value} {C : Int → Int → Prop} {g : Int → Int → Int}
    (rule : ∀ (i j : Int) (t u : Tok) (s : Shared) (Q : Value → Shared → Prop) (E : Value → Shared → Prop), C i j → Q (.int (g i j) s.toks) { s with toks := s.toks + 1 } → wpAny (model X.prog X.w) X.A (f (.int i t) (.int j u)) Q E s) :
    OpR X f (rI C fun i j => .int (g i j)) := by
  intro pins s σ H x y v u Q I rx ry h
  obtain ⟨i, j, rfl, rfl, hc, q⟩ := h
  obtain ⟨t, rfl⟩ := rx
  obtain ⟨t', rfl⟩ := ry
  exact rule i j t t' s _ _ hc ⟨.int (g i j), H, I.tok _, ⟨_, rfl⟩, q⟩
theorem opI0 {f : Value → Value → Sem Value} {g : Int → Int → Int}
    (rule : ∀ (i j : Int) (t u : Tok) (s : Shared) (Q : Value → Shared → Prop) (E : Value → Shared → Prop), Q (.int (g i j) s.toks) { s with toks := s.toks + 1 } → wpAny (model X.prog X.w) X.A (f (.int i t) (.int j u)) Q E s) :
    OpR X f (rI0 fun i j => .int (g i j)) := by
  intro pins s σ H x y v u Q I rx ry h
  obtain ⟨i, j, rfl, rfl, q⟩ := h
  obtain ⟨t, rfl⟩ := rx
  obtain ⟨t', rfl⟩ := ry
  exact rule i j t t' s _ _ ⟨.int (g i j), H, I.tok _, ⟨_, rfl⟩, q⟩
theorem opB0 {f : Value → Value → Sem Value} {g : Int → Int → Bool}
    (rule : ∀ (i j : Int) (t u : Tok) (s : Shared) (Q : Value → Shared → Prop) (E : Value → Shared → Prop), Q (.bool (g i j)) s → wpAny (model X.prog X.w) X.A (f (.int i t) (.int j u)) Q E s) :
    OpR X f (rI0 fun i j => .bl (g i j)) := by
  intro pins s σ H x y v u Q I rx ry h
  obtain ⟨i, j, rfl, rfl, q⟩ := h
  obtain ⟨t, rfl⟩ := rx
  obtain ⟨t', rfl⟩ := ry
  exact rule i j t t' s _ _ ⟨.bl (g i j), H, I, rfl, q⟩

def CDiv (i j : Int) : Prop := 0 < j ∧ j < 1073741824
def CDivN (i j : Int) : Prop := j ≠ 0 ∧ j.natAbs < 1073741824
def CPow (i j : Int) : Prop := 0 ≤ j ∧ j ≤ 1000000 ∧ i.natAbs < 2 ^ 64
def CMul (i j : Int) : Prop := (-(2 ^ 64) < i ∧ i < 2 ^ 64) ∨ (-(2 ^ 64) < j ∧ j < 2 ^ 64)
theorem CMul.ok {i j : Int} (h : CMul i j) : IntMulOk i j := by
  rcases h with ⟨h1, h2⟩ | ⟨h1, h2⟩
  · exact .of_left (intBits_le_64 h1 h2)
  · exact .of_right (intBits_le_64 h1 h2)
theorem two_pow_nn (k : Nat) : (0 : Int) ≤ 2 ^ k := by
  rw [two_pow_cast]
  exact Int.natCast_nonneg _

theorem op_add : OpR X (binaryOp .Add) (rI0 fun i j => .int (i + j)) := opI0 fun _ _ _ _ _ _ _ q => add_int q
theorem op_sub : OpR X (binaryOp .Sub) (rI0 fun i j => .int (i - j)) := opI0 fun _ _ _ _ _ _ _ q => sub_int q
theorem op_mul : OpR X (binaryOp .Mult) (rI CMul fun i j => .int (i * j)) := opI fun _ _ _ _ _ _ _ hc q => mul_int q hc.ok
/-- // by a positive divisor -/
theorem op_fdiv : OpR X (binaryOp .FloorDiv) (rI CDiv fun i j => .int (i / j)) := opI fun i j _ _ _ _ _ hc q => by
  have h1 : (0 : Int) < j := hc.1
  have h2 : j < 1073741824 := hc.2
  exact floordiv_int (by omega) (by rw [Int.fdiv_eq_ediv_of_nonneg i (by omega)]; exact q) (.inl (PyProof.noPylong_small (by omega)))
theorem op_fdivN : OpR X (binaryOp .FloorDiv) (rI CDivN fun i j => .int (i.fdiv j)) := opI fun _ _ _ _ _ _ _ hc q => floordiv_int hc.1 q (.inl (PyProof.noPylong_small hc.2))
/-- % by a positive divisor of any size -/
theorem op_mod : OpR X (binaryOp .Mod) (rI (fun _ j => 0 < j) fun i j => .int (i % j)) := opI fun i j _ _ _ _ _ hc q => by
  have h1 : (0 : Int) < j := hc
  exact mod_int' (by omega) (by rw [Int.fmod_eq_emod_of_nonneg i (by omega)]; exact q)
theorem op_modN : OpR X (binaryOp .Mod) (rI (fun _ j => j ≠ 0) fun i j => .int (i.fmod j)) := opI fun _ _ _ _ _ _ _ hc q => mod_int' hc q
theorem op_pow : OpR X (binaryOp .Pow) (rI CPow fun i j => .int (i ^ j.toNat)) := opI fun _ _ _ _ _ _ _ hc q => pow_int_small hc.1 hc.2.1 hc.2.2 q
theorem op_shl : OpR X (binaryOp .LShift) (rI CPow fun i j => .int (i * 2 ^ j.toNat)) := opI fun _ _ _ _ _ _ _ hc q => lshift_int_small hc.1 hc.2.1 hc.2.2 q
theorem op_shr : OpR X (binaryOp .RShift) (rI (fun _ j => 0 ≤ j) fun i j => .int (i / 2 ^ j.toNat)) := opI fun i j _ _ _ _ _ hc q =>
  rshift_int hc (by rw [Int.fdiv_eq_ediv_of_nonneg i (two_pow_nn _)]; exact q)
theorem op_and : OpR X (binaryOp .BitAnd) (rI0 fun i j => .int (Builtin.bitAnd i j)) := opI0 fun _ _ _ _ _ _ _ q => and_int q
theorem op_or : OpR X (binaryOp .BitOr) (rI0 fun i j => .int (Builtin.bitOr i j)) := opI0 fun _ _ _ _ _ _ _ q => or_int q
theorem op_xor : OpR X (binaryOp .BitXor) (rI0 fun i j => .int (Builtin.bitXor i j)) := opI0 fun _ _ _ _ _ _ _ q => xor_int q

theorem iop_add : OpR X (inplaceOp .Add) (rI0 fun i j => .int (i + j)) := opI0 fun _ _ _ _ _ _ _ q => iadd_int q
theorem iop_sub : OpR X (inplaceOp .Sub) (rI0 fun i j => .int (i - j)) := opI0 fun _ _ _ _ _ _ _ q => isub_int q
theorem iop_mul : OpR X (inplaceOp .Mult) (rI CMul fun i j => .int (i * j)) := opI fun _ _ _ _ _ _ _ hc q => imul_int q hc.ok
theorem iop_fdiv : OpR X (inplaceOp .FloorDiv) (rI CDiv fun i j => .int (i / j)) := opI fun i j _ _ _ _ _ hc q => by
  have h1 : (0 : Int) < j := hc.1
  have h2 : j < 1073741824 := hc.2
  exact ifloordiv_int (by omega) (by rw [Int.fdiv_eq_ediv_of_nonneg i (by omega)]; exact q) (.inl (PyProof.noPylong_small (by omega)))
theorem iop_mod : OpR X (inplaceOp .Mod) (rI (fun _ j => 0 < j) fun i j => .int (i % j)) := opI fun i j _ _ _ _ _ hc q => by
  have h1 : (0 : Int) < j := hc
  exact imod_int (by omega) (by rw [Int.fmod_eq_emod_of_nonneg i (by omega)]; exact q)
theorem iop_shl : OpR X (inplaceOp .LShift) (rI CPow fun i j => .int (i * 2 ^ j.toNat)) := opI fun _ _ _ _ _ _ _ hc q => ilshift_int_small hc.1 hc.2.1 hc.2.2 q
theorem iop_shr : OpR X (inplaceOp .RShift) (rI (fun _ j => 0 ≤ j) fun i j => .int (i / 2 ^ j.toNat)) := opI fun i j _ _ _ _ _ hc q =>
  irshift_int hc (by rw [Int.fdiv_eq_ediv_of_nonneg i (two_pow_nn _)]; exact q)
theorem iop_and : OpR X (inplaceOp .BitAnd) (rI0 fun i j => .int (Builtin.bitAnd i j)) := opI0 fun _ _ _ _ _ _ _ q => iand_int q
theorem iop_or : OpR X (inplaceOp .BitOr) (rI0 fun i j => .int (Builtin.bitOr i j)) := opI0 fun _ _ _ _ _ _ _ q => ior_int q
theorem iop_xor : OpR X (inplaceOp .BitXor) (rI0 fun i j => .int (Builtin.bitXor i j)) := opI0 fun _ _ _ _ _ _ _ q => ixor_int q

theorem unI {f : Value → Sem Value} {g : Int → Int}
    (rule : ∀ (i : Int) (t : Tok) (s : Shared) (Q : Value → Shared → Prop) (E : Value → Shared → Prop), Q (.int (g i) s.toks) { s with toks := s.toks + 1 } → wpAny (model X.prog X.w) X.A (f (.int i t)) Q E s) :
    UnR X f (rU fun i => .int (g i)) := by
  intro pins s σ H x v Q I rx h
  obtain ⟨i, rfl, q⟩ := h
  obtain ⟨t, rfl⟩ := rx
  exact rule i t s _ _ ⟨.int (g i), H, I.tok _, ⟨_, rfl⟩, q⟩
theorem un_neg : UnR X (unaryOp .USub) (rU fun i => .int (-i)) := unI fun _ _ _ _ _ q => neg_int q
theorem un_inv : UnR X (unaryOp .Invert) (rU fun i => .int (Builtin.bitNot i)) := unI fun _ _ _ _ _ q => invert_int q

/-! ### bools among ints: n += (a < b) -/
theorem op_add_ib : OpR X (binaryOp .Add) (fun x y H Q => ∃ i k, x = .int i ∧ y = .bl k ∧ Q (.int (i + b2i k)) H) := by
  intro pins s σ H x y v u Q I rx ry h
  obtain ⟨i, k, rfl, rfl, q⟩ := h
  obtain ⟨t, rfl⟩ := rx
  cases ry
  exact add_int_bool ⟨.int (i + b2i k), H, I.tok _, ⟨_, rfl⟩, q⟩
end

/-! ### comparisons -/
/-- the scalars that == tells apart as data does -/
def scal : V → V → Bool
  | .non, .non => true | .non, .int _ => true | .int _, .non => true | .non, .bl _ => true | .bl _, .non => true | .non, .str _ => true | .str _, .non => true
  | .int _, .int _ => true | .bl _, .bl _ => true | .str _, .str _ => true | .byt _, .byt _ => true
  | .int _, .str _ => true | .str _, .int _ => true | .bl _, .str _ => true | .str _, .bl _ => true
  | _, _ => false
def rEq : R2 := fun x y H Q => scal x y = true ∧ Q (.bl (decide (x = y))) H
def rNe : R2 := fun x y H Q => scal x y = true ∧ Q (.bl (!decide (x = y))) H

theorem dec_int {i j : Int} : decide (V.int i = V.int j) = (i == j) := by
  rw [Bool.eq_iff_iff]
  simp
theorem dec_bl {i j : Bool} : decide (V.bl i = V.bl j) = (i == j) := by
  rw [Bool.eq_iff_iff]
  simp
theorem dec_str {i j : Str} : decide (V.str i = V.str j) = (i == j) := by
  rw [Bool.eq_iff_iff]
  simp
theorem dec_byt {i j : Array UInt8} : decide (V.byt i = V.byt j) = (i.toList == j.toList) := by
  rw [Bool.eq_iff_iff]
  cases i
  cases j
  simp

section
variable {X : Cx} {a b c : Expr} {ta tb tc : TE} {pos : Pos}
theorem fin_bl {pins : List (Addr × Obj)} {σ : St} {H : Hp} {s : Shared} {Q : VK} {k k' : Bool} (I : Inv X pins σ H s) (q : Q (.bl k) H) (e : k = k') : EP X pins σ Q (.bool k') s := by
  subst e
  exact ⟨.bl k, H, I, rfl, q⟩
theorem op_eq : OpR X (compareOp .Eq) rEq := by
  intro pins s σ H x y v u Q I rx ry h
  obtain ⟨hs, q⟩ := h
  cases x with
  | non =>
    cases rx
    cases y with
    | non => cases ry; exact PySem.EqNone.eq_none_none (fin_bl I q (by simp))
    | bl j => cases ry; exact PySem.EqNone.eq_none_bool (fin_bl I q (by simp))
    | int j => obtain ⟨t', rfl⟩ := ry; exact PySem.EqNone.eq_none_int (fin_bl I q (by simp))
    | str j => obtain ⟨t', rfl⟩ := ry; exact PySem.EqNone.eq_none_str (fin_bl I q (by simp))
    | _ => exact absurd (show false = true from hs) Bool.false_ne_true
  | bl i =>
    cases rx
    cases y with
    | non => cases ry; exact PySem.EqNone.eq_bool_none (fin_bl I q (by simp))
    | bl j => cases ry; exact eq_bool (fin_bl I q dec_bl)
    | str j => obtain ⟨t', rfl⟩ := ry; exact PySem.EqMixed.eq_bool_str (fin_bl I q (by simp))
    | _ => exact absurd (show false = true from hs) Bool.false_ne_true
  | int i =>
    obtain ⟨t, rfl⟩ := rx
    cases y with
    | non => cases ry; exact PySem.EqNone.eq_int_none (fin_bl I q (by simp))
    | int j => obtain ⟨t', rfl⟩ := ry; exact eq_int (fin_bl I q dec_int)
    | str j => obtain ⟨t', rfl⟩ := ry; exact PySem.EqMixed.eq_int_str (fin_bl I q (by simp))
    | _ => exact absurd (show false = true from hs) Bool.false_ne_true
  | str i =>
    obtain ⟨t, rfl⟩ := rx
    cases y with
    | non => cases ry; exact PySem.EqNone.eq_str_none (fin_bl I q (by simp))
    | bl j => cases ry; exact PySem.EqMixed.eq_str_bool (fin_bl I q (by simp))
    | int j => obtain ⟨t', rfl⟩ := ry; exact PySem.EqMixed.eq_str_int (fin_bl I q (by simp))
    | str j => obtain ⟨t', rfl⟩ := ry; exact eq_str (fin_bl I q dec_str)
    | _ => exact absurd (show false = true from hs) Bool.false_ne_true
  | byt i =>
    obtain ⟨t, rfl⟩ := rx
    cases y with
    | byt j => obtain ⟨t', rfl⟩ := ry; exact PySem.W.eq_bytes (fin_bl I q dec_byt)
    | _ => exact absurd (show false = true from hs) Bool.false_ne_true
  | _ => cases y <;> exact absurd (show false = true from hs) Bool.false_ne_true
theorem op_ne : OpR X (compareOp .NotEq) rNe := by
  intro pins s σ H x y v u Q I rx ry h
  obtain ⟨hs, q⟩ := h
  cases x with
  | non =>
    cases rx
    cases y with
    | non => cases ry; exact PySem.EqNone.ne_none_none (fin_bl I q (by simp))
    | bl j => cases ry; exact PySem.EqNone.ne_none_bool (fin_bl I q (by simp))
    | int j => obtain ⟨t', rfl⟩ := ry; exact PySem.EqNone.ne_none_int (fin_bl I q (by simp))
    | str j => obtain ⟨t', rfl⟩ := ry; exact PySem.EqNone.ne_none_str (fin_bl I q (by simp))
    | _ => exact absurd (show false = true from hs) Bool.false_ne_true
  | bl i =>
    cases rx
    cases y with
    | non => cases ry; exact PySem.EqNone.ne_bool_none (fin_bl I q (by simp))
    | bl j => cases ry; exact ne_bool (fin_bl I q (congrArg not dec_bl))
    | str j => obtain ⟨t', rfl⟩ := ry; exact PySem.EqMixed.ne_bool_str (fin_bl I q (by simp))
    | _ => exact absurd (show false = true from hs) Bool.false_ne_true
  | int i =>
    obtain ⟨t, rfl⟩ := rx
    cases y with
    | non => cases ry; exact PySem.EqNone.ne_int_none (fin_bl I q (by simp))
    | int j => obtain ⟨t', rfl⟩ := ry; exact ne_int (fin_bl I q (congrArg not dec_int))
    | str j => obtain ⟨t', rfl⟩ := ry; exact PySem.EqMixed.ne_int_str (fin_bl I q (by simp))
    | _ => exact absurd (show false = true from hs) Bool.false_ne_true
  | str i =>
    obtain ⟨t, rfl⟩ := rx
    cases y with
    | non => cases ry; exact PySem.EqNone.ne_str_none (fin_bl I q (by simp))
    | bl j => cases ry; exact PySem.EqMixed.ne_str_bool (fin_bl I q (by simp))
    | int j => obtain ⟨t', rfl⟩ := ry; exact PySem.EqMixed.ne_str_int (fin_bl I q (by simp))
    | str j => obtain ⟨t', rfl⟩ := ry; exact ne_str (fin_bl I q (congrArg not dec_str))
    | _ => exact absurd (show false = true from hs) Bool.false_ne_true
  | byt i =>
    obtain ⟨t, rfl⟩ := rx
    cases y with
    | byt j => obtain ⟨t', rfl⟩ := ry; exact PySem.W.ne_bytes (fin_bl I q (congrArg not dec_byt))
    | _ => exact absurd (show false = true from hs) Bool.false_ne_true
  | _ => cases y <;> exact absurd (show false = true from hs) Bool.false_ne_true

theorem op_lt : OpR X (compareOp .Lt) (rI0 fun i j => .bl (decide (i < j))) := opB0 fun _ _ _ _ _ _ _ q => lt_int q
theorem op_le : OpR X (compareOp .LtE) (rI0 fun i j => .bl (decide (i ≤ j))) := opB0 fun _ _ _ _ _ _ _ q => le_int q
theorem op_gt : OpR X (compareOp .Gt) (rI0 fun i j => .bl (decide (j < i))) := opB0 fun _ _ _ _ _ _ _ q => gt_int q
theorem op_ge : OpR X (compareOp .GtE) (rI0 fun i j => .bl (decide (j ≤ i))) := opB0 fun _ _ _ _ _ _ _ q => ge_int q
theorem op_lt_str : OpR X (compareOp .Lt) (fun x y H Q => ∃ i j, x = .str i ∧ y = .str j ∧ Q (.bl (decide (i.cps.toList < j.cps.toList))) H) := by
  intro pins s σ H x y v u Q I rx ry h
  obtain ⟨i, j, rfl, rfl, q⟩ := h
  obtain ⟨t, rfl⟩ := rx
  obtain ⟨t', rfl⟩ := ry
  exact lt_str (fin_bl I q rfl)
/-- the one string within the other -/
theorem op_in_str : OpR X (compareOp .In) (fun x y H Q => ∃ i j, x = .str i ∧ y = .str j ∧ Q (.bl (!(Builtin.Str.occurrences j i 0 j.length 1).isEmpty)) H) := by
  intro pins s σ H x y v u Q I rx ry h
  obtain ⟨i, j, rfl, rfl, q⟩ := h
  obtain ⟨t, rfl⟩ := rx
  obtain ⟨t', rfl⟩ := ry
  exact in_str (fin_bl I q rfl)

/-- is None, is not None: the right side a value none -/
theorem op_isN : OpR X (compareOp .Is) (fun x y H Q => y = .non ∧ Q (.bl (decide (x = .non))) H) := by
  intro pins s σ H x y v u Q I rx ry h
  obtain ⟨rfl, q⟩ := h
  cases ry
  refine is_none_gen (fin_bl I q ?_)
  cases x <;> first
    | (cases rx; rfl)
    | (obtain ⟨t, rfl⟩ := rx; rfl)
theorem op_notN : OpR X (compareOp .IsNot) (fun x y H Q => y = .non ∧ Q (.bl (!decide (x = .non))) H) := by
  intro pins s σ H x y v u Q I rx ry h
  obtain ⟨rfl, q⟩ := h
  cases ry
  refine isnot_none_gen (fin_bl I q ?_)
  cases x <;> first
    | (cases rx; rfl)
    | (obtain ⟨t, rfl⟩ := rx; rfl)

theorem op_notin_str : OpR X (compareOp .NotIn) (fun x y H Q => ∃ i j, x = .str i ∧ y = .str j ∧ Q (.bl (!(!(Builtin.Str.occurrences j i 0 j.length 1).isEmpty))) H) := by
  intro pins s σ H x y v u Q I rx ry h
  obtain ⟨i, j, rfl, rfl, q⟩ := h
  obtain ⟨t, rfl⟩ := rx
  obtain ⟨t', rfl⟩ := ry
  exact notIn_str (fin_bl I q rfl)
/-- is, is not of two objects that are tracked lists or instances -/
def isObj : HO → Bool
  | .lst _ => true
  | .ins _ _ _ => true
  | _ => false
theorem obj_there {pins : List (Addr × Obj)} {s : Shared} {σ : St} {H : Hp} {a : Addr} {o : HO} (I : Inv X pins σ H s) (h : H a = some o) (p : isObj o = true) : ∃ ob, s.heap.get? a = some ob ∧ ob.cls ≠ .type "tuple" := by
  cases o with
  | lst xs =>
    obtain ⟨_, its, n, _, e⟩ : xs.length ≤ sizeLine ∧ ∃ (its : List Value) (n : Nat), Vals xs its ∧ s.heap.get? a = some { cls := .type "list", data := .seq its.toArray n } := I.hok a _ h
    exact ⟨_, e, (by show Value.type "list" ≠ .type "tuple"; decide +kernel)⟩
  | ins C dx fs =>
    have x := I.hok a _ h
    obtain ⟨_, _, _, e, _⟩ := x
    exact ⟨_, e, (by show Value.ref C ≠ .type "tuple"; exact fun z => by cases z)⟩
  | _ => exact absurd (show false = true from p) Bool.false_ne_true
theorem op_is_ref : OpR X (compareOp .Is) (fun x y H Q => ∃ a b oa ob, x = .ref a ∧ y = .ref b ∧ H a = some oa ∧ isObj oa = true ∧ H b = some ob ∧ isObj ob = true ∧ Q (.bl (decide (a = b))) H) := by
  intro pins s σ H x y v u Q I rx ry h
  obtain ⟨a, b, oa, ob, rfl, rfl, ha, pa, hb, pb, q⟩ := h
  cases rx
  cases ry
  obtain ⟨o1, e1, n1⟩ := obj_there I ha pa
  obtain ⟨o2, e2, _⟩ := obj_there I hb pb
  by_cases z : a = b
  · subst z
    exact wpAny_is_ref_self (fin_bl I q (by simp))
  · exact wpAny_is_ref_other z e1 e2 n1 (fin_bl I q (by simp [z]))
theorem op_isnot_ref : OpR X (compareOp .IsNot) (fun x y H Q => ∃ a b oa ob, x = .ref a ∧ y = .ref b ∧ H a = some oa ∧ isObj oa = true ∧ H b = some ob ∧ isObj ob = true ∧ Q (.bl (!decide (a = b))) H) := by
  intro pins s σ H x y v u Q I rx ry h
  obtain ⟨a, b, oa, ob, rfl, rfl, ha, pa, hb, pb, q⟩ := h
  cases rx
  cases ry
  obtain ⟨o1, e1, n1⟩ := obj_there I ha pa
  obtain ⟨o2, e2, _⟩ := obj_there I hb pb
  by_cases z : a = b
  · subst z
    exact wpAny_isNot_ref_self (fin_bl I q (by simp))
  · exact wpAny_isNot_ref_other z e1 e2 n1 (fin_bl I q (by simp [z]))

/-- two rules for one operation: by cases -/
theorem OpR.or {f : Value → Value → Sem Value} {r r' : R2} (h : OpR X f r) (h' : OpR X f r') : OpR X f (fun x y H Q => r x y H Q ∨ r' x y H Q) := by
  intro pins s σ H x y v u Q I rx ry q
  rcases q with q | q
  · exact h pins s σ H x y v u Q I rx ry q
  · exact h' pins s σ H x y v u Q I rx ry q

theorem nomark (b : Expr) {op : CmpOp} (h : op ≠ .In := by decide) (h2 : op ≠ .NotIn := by decide) : behindInMarks op b = false := by
  have e1 : (op == CmpOp.In) = false := by cases op <;> first | rfl | exact absurd rfl h
  have e2 : (op == CmpOp.NotIn) = false := by cases op <;> first | rfl | exact absurd rfl h2
  cases b <;> simp [behindInMarks, e1, e2]
/-- a comparison as a value; hm: nomark b, or (for in, not in) by with_unfolding_all rfl -/
theorem pe_cmpR {op : CmpOp} {r : R2} (ho : OpR X (compareOp op) r) (ha : PE X a ta) (hb : PE X b tb) (hm : behindInMarks op b = false) : PE X (.Compare a [op] [b] pos) (tOp r ta tb) := by
  intro pins s σ H Q I h
  exact wpAny_Compare1 (binT ha hb I h fun v u s2 x y H2 I2 rx ry q => ho pins s2 σ H2 x y v u Q I2 rx ry q) hm
/-- a reading of a value as a test -/
def tTest (t : TE) : TT := fun σ H Q => t σ H fun x H' => ∃ k, x = .bl k ∧ Q k H'
theorem pt_cmpR {op : CmpOp} {r : R2} (ho : OpR X (compareOp op) r) (ha : PE X a ta) (hb : PE X b tb) (hm : behindInMarks op b = false) : PT X (.Compare a [op] [b] pos) (tTest (tOp r ta tb)) := by
  intro pins s σ H Q I h
  refine wpAny_isTrue_Compare1 (thn (ha pins s σ H _ I h) fun v s1 ⟨x, H1, I1, r1, q1⟩ => thn (hb pins s1 σ H1 _ I1 q1) fun u s2 ⟨y, H2, I2, r2, q2⟩ =>
    thn (ho pins s2 σ H2 x y v u _ I2 r1 r2 q2) fun c s3 ⟨z, H3, I3, r3, k, e, q3⟩ => ?_) hm
  subst e
  cases r3
  exact wpAny_truthy_bool ⟨H3, I3, q3⟩
/-- a op1 b op2 c -/
def tChain (r r' : R2) (ta tb tc : TE) : TE := fun σ H Q => ta σ H fun x H1 => tb σ H1 fun y H2 => r x y H2 fun z H3 => ∃ k, z = .bl k ∧
  (if k = true then tc σ H3 fun w' H4 => r' y w' H4 Q else Q (.bl false) H3)
theorem pe_chain {op op' : CmpOp} {r r' : R2} (ho : OpR X (compareOp op) r) (ho' : OpR X (compareOp op') r') (ha : PE X a ta) (hb : PE X b tb) (hc : PE X c tc)
    (hm : lastMarks [op, op'] [b, c] = false := by with_unfolding_all rfl) : PE X (.Compare a [op, op'] [b, c] pos) (tChain r r' ta tb tc) := by
  intro pins s σ H Q I h
  refine Compare_chain (thn (ha pins s σ H _ I h) fun v s1 ⟨x, H1, I1, r1, q1⟩ => chain_link (thn (hb pins s1 σ H1 _ I1 q1) fun u s2 ⟨y, H2, I2, r2, q2⟩ =>
    thn (ho pins s2 σ H2 x y v u _ I2 r1 r2 q2) fun d s3 ⟨z, H3, I3, r3, k, e, q3⟩ => ?_)) hm
  subst e
  cases r3
  refine wpAny_truthy_bool ?_
  cases k with
  | false => exact ite_ff ⟨.bl false, H3, I3, rfl, q3⟩
  | true => exact ite_tt (chain_last (thn (hc pins s3 σ H3 _ I3 q3) fun w' s4 ⟨z', H4, I4, r4, q4⟩ => ho' pins s4 σ H4 y z' u w' Q I4 r2 r4 q4))
theorem pt_chain {op op' : CmpOp} {r r' : R2} (ho : OpR X (compareOp op) r) (ho' : OpR X (compareOp op') r') (ha : PE X a ta) (hb : PE X b tb) (hc : PE X c tc)
    (hm : lastMarks [op, op'] [b, c] = false := by with_unfolding_all rfl) : PT X (.Compare a [op, op'] [b, c] pos) (tTest (tChain r r' ta tb tc)) := by
  intro pins s σ H Q I h
  refine isTrue_chain (thn (ha pins s σ H _ I h) fun v s1 ⟨x, H1, I1, r1, q1⟩ => test_link (thn (hb pins s1 σ H1 _ I1 q1) fun u s2 ⟨y, H2, I2, r2, q2⟩ =>
    thn (ho pins s2 σ H2 x y v u _ I2 r1 r2 q2) fun d s3 ⟨z, H3, I3, r3, k, e, q3⟩ => ?_)) hm
  subst e
  cases r3
  refine wpAny_truthy_bool ?_
  cases k with
  | false =>
    obtain ⟨k', e', q'⟩ := q3
    cases e'
    exact ite_ff ⟨H3, I3, q'⟩
  | true =>
    refine ite_tt (test_last (thn (hc pins s3 σ H3 _ I3 q3) fun w' s4 ⟨z', H4, I4, r4, q4⟩ => thn (ho' pins s4 σ H4 y z' u w' _ I4 r2 r4 q4) fun d' s5 ⟨z2, H5, I5, r5, k2, e2, q5⟩ => ?_))
    subst e2
    cases r5
    exact wpAny_truthy_bool ⟨H5, I5, q5⟩

/-! ### truth -/
/-- a value's truth by the abstract heap -/
def TruV (K : PySem.W.Frag) (x : V) (H : Hp) (k : Bool) : Prop :=
  match x with
  | .non => k = false
  | .bl b => k = b
  | .int i => k = (i != 0)
  | .str y => y.length ≤ sizeLine ∧ k = ((y.length : Int) != 0)
  | .byt y => y.size ≤ sizeLine ∧ k = ((y.size : Int) != 0)
  | .ref p => (∃ xs, SqL K H p xs ∧ k = !xs.isEmpty) ∨ (∃ xs, SqT K H p xs ∧ k = !xs.isEmpty) ∨ ∃ kvs, H p = some (.dK kvs) ∧ k = !kvs.isEmpty
  | _ => False
theorem isEmpty_kv {κ : Type} {kvs : List (κ × V)} {vs : List (κ × Value)} (r : KV kvs vs) : (!vs.isEmpty) = !kvs.isEmpty := by
  cases r <;> rfl
theorem isEmpty_of {xs : List V} {its : List Value} (r : Vals xs its) : (!its.toArray.isEmpty) = !xs.isEmpty := by
  cases r <;> simp
theorem line63 : (sizeLine : Nat) < 2 ^ 63 := by rw [sizeLine_eq]; decide
theorem tru_ok : TruR X (fun x H Q => ∃ k, TruV X.K x H k ∧ Q k H) := by
  intro pins s σ H x v Q I rx h
  obtain ⟨k, e, q⟩ := h
  have hl := line63
  have hs : sizeLine = 16777216 := sizeLine_eq
  cases x with
  | non =>
    cases rx
    have e' : k = false := e
    subst e'
    exact truthy_none ⟨H, I, q⟩
  | bl b =>
    cases rx
    have e' : k = b := e
    subst e'
    exact wpAny_truthy_bool ⟨H, I, q⟩
  | int i =>
    obtain ⟨t, rfl⟩ := rx
    have e' : k = (i != 0) := e
    subst e'
    exact PySem.P.truthy_int ⟨H, I, q⟩
  | str y =>
    obtain ⟨t, rfl⟩ := rx
    obtain ⟨hy, e'⟩ : y.length ≤ sizeLine ∧ k = ((y.length : Int) != 0) := e
    subst e'
    exact PySem.P.truthy_str (by omega) ⟨H, I.tok _, q⟩
  | byt y =>
    obtain ⟨t, rfl⟩ := rx
    obtain ⟨hy, e'⟩ : y.size ≤ sizeLine ∧ k = ((y.size : Int) != 0) := e
    subst e'
    exact PySem.W.truthy_bytes (by omega) ⟨H, I.tok _, q⟩
  | ref p =>
    cases rx
    have e' : (∃ xs, SqL X.K H p xs ∧ k = !xs.isEmpty) ∨ (∃ xs, SqT X.K H p xs ∧ k = !xs.isEmpty) ∨ ∃ kvs, H p = some (.dK kvs) ∧ k = !kvs.isEmpty := e
    rcases e' with ⟨xs, hx, e'⟩ | ⟨xs, hx, e'⟩ | ⟨kvs, hx, e'⟩
    · subst e'
      obtain ⟨its, r, pl, hz⟩ := I.list hx
      have hlen := r.length
      exact wpAny_truthy_list pl.isList (by simp only [List.size_toArray]; omega) ⟨H, I.tok _, by rw [isEmpty_of r]; exact q⟩
    · subst e'
      obtain ⟨its, r, pl, hz⟩ := I.tuple hx
      have hlen := r.length
      exact truthy_tuple pl (by simp only [List.size_toArray]; omega) ⟨H, I.tok _, by rw [isEmpty_of r]; exact q⟩
    · subst e'
      obtain ⟨hz, hS, vs, r, m⟩ : kvs.length ≤ sizeLine ∧ (p == sysModules) = false ∧ ∃ vs, KV kvs vs ∧ s.heap.DictOf (mixKind X.prog X.w) p vs := I.hok p _ hx
      have hlen : kvs.length = vs.length := Paired.length r
      exact wpAny_truthy_dict hS m (by omega) ⟨H, I.tok _, by rw [isEmpty_kv r]; exact q⟩
  | _ => exact (show False from e).elim
/-- any expression whose test is its value's truth (a name, a call, a subscript, a field ..: he by fun _ => rfl) -/
theorem pt_truth (ha : PE X a ta) (he : ∀ whole, isTrue a X.env whole = (do let v ← whole; standAt a.pos; holding [v] (truthy v))) :
    PT X a (fun σ H Q => ta σ H fun x H' => ∃ k, TruV X.K x H' k ∧ Q k H') := by
  intro pins s σ H Q I h
  exact isTrue_plain (thn (ha pins s σ H _ I h) fun v s1 ⟨x, H1, I1, r1, q1⟩ => tru_ok pins s1 σ H1 x v Q I1 r1 q1) (he _)

/-! ### strs and bytes -/
theorem pe_byt {x : List UInt8} {k : Nat} : PE X (.Constant (.bytes x) k pos) (fun _ H Q => Q (.byt x.toArray) H) := fun _ _ _ H _ I h => PySem.W.Constant_bytes ⟨.byt x.toArray, H, I.tok _, ⟨_, rfl⟩, h⟩
theorem op_add_str : OpR X (binaryOp .Add) (fun x y H Q => ∃ i j, x = .str i ∧ y = .str j ∧ i.length + j.length ≤ sizeLine ∧ Q (.str (i ++ j)) H) := by
  intro pins s σ H x y v u Q I rx ry h
  obtain ⟨i, j, rfl, rfl, hz, q⟩ := h
  obtain ⟨t, rfl⟩ := rx
  obtain ⟨t', rfl⟩ := ry
  exact add_str (fun t' tk => ⟨.str (i ++ j), H, I.tok _, ⟨_, rfl⟩, q⟩) hz
theorem iop_add_str : OpR X (inplaceOp .Add) (fun x y H Q => ∃ i j, x = .str i ∧ y = .str j ∧ i.length + j.length ≤ sizeLine ∧ Q (.str (i ++ j)) H) := by
  intro pins s σ H x y v u Q I rx ry h
  obtain ⟨i, j, rfl, rfl, hz, q⟩ := h
  obtain ⟨t, rfl⟩ := rx
  obtain ⟨t', rfl⟩ := ry
  exact iadd_str (fun t' tk => ⟨.str (i ++ j), H, I.tok _, ⟨_, rfl⟩, q⟩) hz
theorem op_add_byt : OpR X (binaryOp .Add) (fun x y H Q => ∃ i j, x = .byt i ∧ y = .byt j ∧ i.size + j.size ≤ 16777216 ∧ Q (.byt (i ++ j)) H) := by
  intro pins s σ H x y v u Q I rx ry h
  obtain ⟨i, j, rfl, rfl, hz, q⟩ := h
  obtain ⟨t, rfl⟩ := rx
  obtain ⟨t', rfl⟩ := ry
  exact PySem.W.KBy.add_bytes hz (fun t' tk => ⟨.byt (i ++ j), H, I.tok _, ⟨_, rfl⟩, q⟩)

def PlainIxT (b : Expr) : Prop := ∀ o i, subscripted b false o i = operate [o, i] (getItem o i)
/-- s[i], 0 ≤ i < len -/
theorem pe_item_str (ha : PE X a ta) (hb : PE X b tb) (hs : PlainIxT b) :
    PE X (.Subscript a b pos) (tOp (fun x y H Q => ∃ z i c, x = .str z ∧ y = .int i ∧ 0 ≤ i ∧ i < 2 ^ 63 ∧ i < z.length ∧ z.cps[i.toNat]? = some c ∧ Q (.str ⟨#[c]⟩) H) ta tb) := by
  intro pins s σ H Q I h
  refine Subscript_ (binT ha hb I h fun v u s2 x y H2 I2 rx ry q => ?_)
  obtain ⟨z, i, c, rfl, rfl, h0, h63, h1, hc, q⟩ := q
  obtain ⟨t, rfl⟩ := rx
  obtain ⟨t', rfl⟩ := ry
  have e : seqIndex? i z.length = some i.toNat := PySem.StrLaws.seqIndex_nonneg h0 h1
  exact tail_any (typeIs_str s2 z t) slot_str_getitem.lookup (getItem_str (c := c) (by
    have e1 : decide (i < -(2 ^ 63 : Int)) = false := decide_eq_false (by omega)
    have e2 : decide (i ≥ 2 ^ 63) = false := decide_eq_false (by omega)
    rw [e1, e2] <;> rfl) (by rw [e]; exact hc) ⟨.str ⟨#[c]⟩, H2, I2.tok _, ⟨_, rfl⟩, q⟩) (hs _ _)
/-- b[i], 0 ≤ i < len -/
theorem pe_item_byt (ha : PE X a ta) (hb : PE X b tb) (hs : PlainIxT b) :
    PE X (.Subscript a b pos) (tOp (fun x y H Q => ∃ (z : List UInt8) (i : Int), x = .byt z.toArray ∧ y = .int i ∧ z.length ≤ sizeLine ∧ 0 ≤ i ∧ i < z.length ∧ Q (.int ((z.getD i.toNat 0).toNat : Nat)) H) ta tb) := by
  intro pins s σ H Q I h
  refine Subscript_ (binT ha hb I h fun v u s2 x y H2 I2 rx ry q => ?_)
  obtain ⟨z, i, rfl, rfl, hz, h0, h1, q⟩ := q
  obtain ⟨t, rfl⟩ := rx
  obtain ⟨t', rfl⟩ := ry
  have hl : sizeLine = 16777216 := sizeLine_eq
  exact tail_any (PySem.W.typeIs_bytes s2 z.toArray t) PySem.W.FB.slot_bytes_getitem.lookup (PySem.W.getItem_bytes (by omega) h0 h1 ⟨.int ((z.getD i.toNat 0).toNat : Nat), H2, I2.tok _, ⟨_, rfl⟩, q⟩) (hs _ _)

/-! ### scalar builtins, by CallR -/
theorem vals1 {x : V} {us : List Value} (r : Vals [x] us) : ∃ u, us = [u] ∧ RelV x u := by
  cases r with
  | cons r1 r2 => cases r2; exact ⟨_, rfl, r1⟩
theorem vals2 {x y : V} {us : List Value} (r : Vals [x, y] us) : ∃ u w', us = [u, w'] ∧ RelV x u ∧ RelV y w' := by
  cases r with
  | cons r1 r2 =>
    cases r2 with
    | cons r3 r4 => cases r4; exact ⟨_, _, rfl, r1, r3⟩
theorem call_abs : CallR X (.builtin "abs") (fun xs H Q => ∃ i, xs = [.int i] ∧ Q (.int (if i < 0 then -i else i)) H) := by
  intro pins s σ H xs us Q I r h
  obtain ⟨i, rfl, q⟩ := h
  obtain ⟨u, rfl, t, rfl⟩ := vals1 r
  exact call_abs_int fun u tk => ⟨.int (if i < 0 then -i else i), H, I.tok _, ⟨_, rfl⟩, q⟩
theorem call_max2 (hc : X.calm = true) : CallR X (.builtin "max") (fun xs H Q => ∃ i j, xs = [.int i, .int j] ∧ Q (.int (if j > i then j else i)) H) := by
  intro pins s σ H xs us Q I r h
  obtain ⟨i, j, rfl, q⟩ := h
  obtain ⟨u, w', rfl, ⟨t, rfl⟩, ⟨t', rfl⟩⟩ := vals2 r
  refine max_two_ints (I.ok.hd hc) fun h' tk k => ⟨_, H, I.kept k, ?_, q⟩
  by_cases hj : j > i
  · rw [if_pos hj, if_pos hj]; exact ⟨_, rfl⟩
  · rw [if_neg hj, if_neg hj]; exact ⟨_, rfl⟩
theorem call_min2 (hc : X.calm = true) : CallR X (.builtin "min") (fun xs H Q => ∃ i j, xs = [.int i, .int j] ∧ Q (.int (if j < i then j else i)) H) := by
  intro pins s σ H xs us Q I r h
  obtain ⟨i, j, rfl, q⟩ := h
  obtain ⟨u, w', rfl, ⟨t, rfl⟩, ⟨t', rfl⟩⟩ := vals2 r
  refine min_two_ints (I.ok.hd hc) fun h' tk k => ⟨_, H, I.kept k, ?_, q⟩
  by_cases hj : j < i
  · rw [if_pos hj, if_pos hj]; exact ⟨_, rfl⟩
  · rw [if_neg hj, if_neg hj]; exact ⟨_, rfl⟩
theorem call_int1 : CallR X (.type "int") (fun xs H Q => (∃ i, xs = [.int i] ∧ Q (.int i) H) ∨ ∃ k, xs = [.bl k] ∧ Q (.int (if k then 1 else 0)) H) := by
  intro pins s σ H xs us Q I r h
  rcases h with ⟨i, rfl, q⟩ | ⟨k, rfl, q⟩
  · obtain ⟨u, rfl, t, rfl⟩ := vals1 r
    exact call_int_int ⟨.int i, H, I, ⟨_, rfl⟩, q⟩
  · obtain ⟨u, rfl, r1⟩ := vals1 r
    cases r1
    exact call_int_bool ⟨.int (if k then 1 else 0), H, I.tok _, ⟨_, rfl⟩, q⟩
theorem call_bool1 : CallR X (.type "bool") (fun xs H Q => (∃ i, xs = [.int i] ∧ Q (.bl (i != 0)) H) ∨ ∃ k, xs = [.bl k] ∧ Q (.bl k) H) := by
  intro pins s σ H xs us Q I r h
  rcases h with ⟨i, rfl, q⟩ | ⟨k, rfl, q⟩
  · obtain ⟨u, rfl, t, rfl⟩ := vals1 r
    exact call_bool_int ⟨.bl (i != 0), H, I, rfl, q⟩
  · obtain ⟨u, rfl, r1⟩ := vals1 r
    cases r1
    exact call_bool_bool ⟨.bl k, H, I, rfl, q⟩
theorem call_str_int : CallR X (.type "str") (fun xs H Q => ∃ i, xs = [.int i] ∧ i.natAbs.log2 < 1920 ∧ Q (.str (toString i)) H) := by
  intro pins s σ H xs us Q I r h
  obtain ⟨i, rfl, hz, q⟩ := h
  obtain ⟨u, rfl, t, rfl⟩ := vals1 r
  exact PySem.P.str_of_int hz ⟨.str _, H, I.tok _, ⟨_, rfl⟩, q⟩
theorem call_ord : CallR X (.builtin "ord") (fun xs H Q => ∃ x, xs = [.str x] ∧ x.length = 1 ∧ Q (.int (x.cps.getD 0 0 : Nat)) H) := by
  intro pins s σ H xs us Q I r h
  obtain ⟨x, rfl, hz, q⟩ := h
  obtain ⟨u, rfl, t, rfl⟩ := vals1 r
  exact ord_of_one hz ⟨.int _, H, I.tok _, ⟨_, rfl⟩, q⟩
theorem call_chr : CallR X (.builtin "chr") (fun xs H Q => ∃ i, xs = [.int i] ∧ 0 ≤ i ∧ i ≤ 1114111 ∧ Q (.str ⟨#[i.toNat]⟩) H) := by
  intro pins s σ H xs us Q I r h
  obtain ⟨i, rfl, h0, h1, q⟩ := h
  obtain ⟨u, rfl, t, rfl⟩ := vals1 r
  exact chr_of_range h0 h1 ⟨.str _, H, I.tok _, ⟨_, rfl⟩, q⟩
/-- len of a str, a bytes, a list, a tuple -/
def LenV (K : PySem.W.Frag) (x : V) (H : Hp) (n : Nat) : Prop :=
  match x with
  | .str y => y.length ≤ sizeLine ∧ n = y.length
  | .byt y => y.size ≤ sizeLine ∧ n = y.size
  | .ref p => (∃ xs, SqL K H p xs ∧ n = xs.length) ∨ ∃ xs, SqT K H p xs ∧ n = xs.length
  | _ => False
theorem call_len : CallR X (.builtin "len") (fun xs H Q => ∃ x n, xs = [x] ∧ LenV X.K x H n ∧ Q (.int n) H) := by
  intro pins s σ H xs us Q I r h
  obtain ⟨x, n, rfl, e, q⟩ := h
  obtain ⟨u, rfl, rx⟩ := vals1 r
  have hl := line63
  have hs : sizeLine = 16777216 := sizeLine_eq
  cases x with
  | str y =>
    obtain ⟨t, rfl⟩ := rx
    obtain ⟨hy, e'⟩ : y.length ≤ sizeLine ∧ n = y.length := e
    subst e'
    exact len_str (by omega) ⟨.int _, H, I.tok _, ⟨_, rfl⟩, q⟩
  | byt y =>
    obtain ⟨t, rfl⟩ := rx
    obtain ⟨hy, e'⟩ : y.size ≤ sizeLine ∧ n = y.size := e
    subst e'
    exact PySem.W.len_bytes (by omega) ⟨.int _, H, I.tok _, ⟨_, rfl⟩, q⟩
  | ref p =>
    cases rx
    have e' : (∃ xs, SqL X.K H p xs ∧ n = xs.length) ∨ ∃ xs, SqT X.K H p xs ∧ n = xs.length := e
    rcases e' with ⟨xs, hx, e'⟩ | ⟨xs, hx, e'⟩
    · subst e'
      obtain ⟨its, r', pl, hz⟩ := I.list hx
      have hlen := r'.length
      exact Calls.call_len_list pl.isList (by simp only [List.size_toArray]; omega) ⟨.int xs.length, H, I.tok _, ⟨_, by simp only [List.size_toArray]; rw [hlen]⟩, q⟩
    · subst e'
      obtain ⟨its, r', pl, hz⟩ := I.tuple hx
      have hlen := r'.length
      exact len_tuple pl (by simp only [List.size_toArray]; omega) ⟨.int xs.length, H, I.tok _, ⟨_, by simp only [List.size_toArray]; rw [hlen]⟩, q⟩
  | _ => exact (show False from e).elim
/-- divmod: a new tuple -/
theorem call_divmod : CallR X (.builtin "divmod") (fun xs H Q => ∃ i j, xs = [.int i, .int j] ∧ CDiv i j ∧ ∀ p, H p = none → Q (.ref p) (upd H p (.tup [.int (i / j), .int (i % j)]))) := by
  intro pins s σ H xs us Q I r h
  obtain ⟨i, j, rfl, ⟨h1, h2⟩, q⟩ := h
  obtain ⟨u, w', rfl, ⟨t, rfl⟩, ⟨t', rfl⟩⟩ := vals2 r
  refine divmod_int (by omega) ?_ (.inl (PyProof.noPylong_small (by omega)))
  rw [Int.fdiv_eq_ediv_of_nonneg i (by omega), Int.fmod_eq_emod_of_nonneg i (by omega)]
  have hn : H s.heap.objs.size = none := I.hok.fresh (Nat.le_refl _)
  refine ⟨.ref s.heap.objs.size, _, ?_, rfl, q _ hn⟩
  refine I.laid (fun b o e => Heap.get?_push_of_some _ e) (Nat.le_refl _) ⟨by simp only [List.length_cons, List.length_nil]; rw [sizeLine_eq]; decide, [.int (i / j) s.toks, .int (i % j) (s.toks + 1)], .cons ⟨_, rfl⟩ (.cons ⟨_, rfl⟩ .nil), ?_⟩
  exact ⟨_, Heap.get?_push_size s.heap rfl, rfl, 0, rfl⟩
end
end L2

namespace L2
open PySem PySem.Spec PyProof.Rows

/-! ### an instance, its attributes a map -/
structure ObjM (h : Heap) (x dx C : Addr) (mA : Str → Option Value) : Prop where
  obj : h.get? x = some (PySem.W.instObj C dx)
  ns : h.Ns1 dx mA
  ne : dx ≠ x

theorem lookIn_ns {h : Heap} {dx : Addr} {mA : Str → Option Value} (n : h.Ns1 dx mA) : ∃ od, h.get? dx = some od ∧ ∀ name, PySem.W.lookIn name od = some (mA name) := by
  obtain ⟨o, es, ep, ho, hd, hk, _, hm⟩ := n
  refine ⟨o, ho, fun name => ?_⟩
  have e := hm name
  unfold nsFind findBy at e
  rw [← Array.find?_toList] at e
  unfold PySem.W.lookIn
  rw [hd]
  dsimp only
  split
  · rename_i y q
    rw [q] at e
    exact congrArg some e
  · rename_i q
    rw [q] at e
    have a : es.toList.any (·.refKey) = false := by
      rw [List.any_eq_false]
      intro y hy
      obtain ⟨z, t, hkey⟩ := hk y (Array.mem_toList_iff.mp hy)
      simp [DictEntry.refKey, hkey]
    have a' : ¬ es.toList.any (·.refKey) = true := by rw [a]; exact Bool.false_ne_true
    rw [if_neg a']
    exact congrArg some e

theorem ObjM.look {h : Heap} {x dx C : Addr} {mA : Str → Option Value} (I : ObjM h x dx C mA) : ∃ od, PySem.W.InstAt h x (PySem.W.instObj C dx) C (some od) ∧ ∀ name, PySem.W.lookIn name od = some (mA name) :=
  let ⟨od, ho, hl⟩ := lookIn_ns I.ns
  ⟨od, ⟨I.obj, rfl, rfl, ho⟩, hl⟩

section
variable {prog : Program} {w : World} {A : Around} {E : Value → Shared → Prop} {s : Shared} {K : PySem.W.Frag} {x dx C f : Addr} {mA : Str → Option Value} {name : Str} {v : Value}

theorem get_map {expr : Bool} {Q : Value → Shared → Prop} (X : K.In s.heap) (I : ObjM s.heap x dx C mA) (hg : PySem.W.plainGet K C name = true) (hh : PySem.W.hasDictIn K C = true)
    (ha : PySem.W.findIn K (.ref C) name = some none) (hv : mA name = some v) (hv' : PySem.W.handedIn v = true) (h : Q v { s with toks := s.toks + 1 }) :
    wpAny (model prog w) A (getAttr (.ref x) name expr) Q E s := by
  obtain ⟨od, J, hl⟩ := I.look
  exact PySem.W.get_value X J (PySem.W.plainGet_of hg).1 (PySem.W.findObj_own hh ha rfl (by rw [hl, hv])) hv' h

theorem get_const {expr : Bool} {a : Value} {Q : Value → Shared → Prop} (X : K.In s.heap) (I : ObjM s.heap x dx C mA) (hg : PySem.W.plainGet K C name = true) (hh : PySem.W.hasDictIn K C = true)
    (ha : PySem.W.findIn K (.ref C) name = some (some a)) (hn : PySem.W.specialIn K a "__get__" = some none) (hc : PySem.W.copiedNames.contains name = false) (hv : mA name = none) (hv' : PySem.W.handedIn a = true)
    (h : Q a { s with toks := s.toks + 1 }) : wpAny (model prog w) A (getAttr (.ref x) name expr) Q E s := by
  obtain ⟨od, J, hl⟩ := I.look
  exact PySem.W.get_value X J (PySem.W.plainGet_of hg).1 (PySem.W.findObj_cls hh ha hn hv' hc (by rw [hl, hv])) hv' h

theorem get_meth {pl : Sem Bool} {Q : Value × List Value → Shared → Prop} (X : K.In s.heap) (I : ObjM s.heap x dx C mA) (hg : PySem.W.plainGet K C name = true)
    (hf : PySem.W.findIn K (.ref C) name = some (some (.ref f))) (ht : PySem.W.isFn K (.ref f) = true) (hv : mA name = none) (h : Q (.ref f, [.ref x]) s) :
    wpAny (model prog w) A (getMethod (.ref x) name pl) Q E s := by
  obtain ⟨od, J, hl⟩ := I.look
  exact PySem.W.method_fn X J (PySem.W.plainGet_of hg).1 (PySem.W.plainGet_of hg).2 hf (beq_iff_eq.mp ht) (by show (PySem.W.lookIn name od).map (·.isSome) = some false; rw [hl, hv]; rfl) h

theorem set_map {ns : List Str} {Q : Unit → Shared → Prop} (X : K.In s.heap) (I : ObjM s.heap x dx C mA)
    (hs : PySem.W.findIn K (.ref C) "__setattr__" = some (some (.builtin "object.__setattr__"))) (hp : PySem.W.plainOver K C = true) (ht : PySem.W.takerIn K C name = some none) (hh : PySem.W.hasDictIn K C = true)
    (hw : PySem.Within mA ns) (hsz : ns.length ≤ sizeLine)
    (h : ∀ h', ObjM h' x dx C (fun y => if y = name then some v else mA y) → Heap.SameBut dx s.heap h' → Q () { s with heap := h', toks := s.toks + 2 }) :
    wpAny (model prog w) A (setAttr (.ref x) name v) Q E s := by
  obtain ⟨od, J, hl⟩ := I.look
  refine PySem.W.set_plain X J hs (PySem.W.osa_open (s := { s with toks := s.toks + 1 }) (r := none) X J hp ht fun b => ?_)
  obtain ⟨cd, hc, hd'⟩ := PySem.W.any_some hh
  have hx : s.heap.get? x = some ⟨.ref C, some dx, .plain, #[]⟩ := I.obj
  refine wpAny_bind (wpAny_pure (wpAny_bind (wpAny_bind (wpAny_loadPart hx (wpAny_bind (PySem.W.Looks.here (s := { s with toks := s.toks + 1 }) (PySem.W.looks_clsIn X hc) ?_))))))
  rw [hd']
  refine wpAny_pure (a := some dx) (wpAny_bind (wpAny_pure (wpAny_bind ?_)))
  refine wpAny_nsSet1 (s := { s with toks := s.toks + 1 }) I.ns fun h' hn2 hs2 => ?_
  obtain ⟨oD, esD, epD, hoD, hdD, hcD⟩ := hn2.count (PySem.Within.cons name v hw)
  refine wpAny_bind (wpAny_lookBehind hoD (by rw [hdD]; exact pastItsLine_dict (Nat.le_trans hcD (by rw [List.length_cons]; omega))) ?_)
  exact wpAny_pure (h _ ⟨(hs2.2 _ (Ne.symm I.ne)).trans I.obj, hn2, I.ne⟩ hs2)

/-- C(..): the dict at the heap's end, the instance behind it; then its __init__ -/
theorem make_map {R : Result → Shared → Prop} {vs : List Value} {kw : List (Str × Value)} (X : K.In s.heap) (hm : PySem.W.makesIn K C = true)
    (hi : PySem.W.findIn K (.ref C) "__init__" = some (some (.ref f))) (hf : PySem.W.typeIn K (.ref f) = some (.type "function"))
    (h : codeAny (model prog w) (A.under (.builtin "type.__call__" ⟨.ref C :: vs, kw⟩)) (.call (.ref f) ⟨.ref (s.heap.objs.size + 1) :: vs, kw⟩) (PySem.W.InitBack (s.heap.objs.size + 1) R)
      { s with heap := (s.heap.push PySem.W.emptyDict).push (PySem.W.instObj C s.heap.objs.size) }) :
    codeAny (model prog w) A (.call (.ref C) ⟨vs, kw⟩) R s := by
  obtain ⟨hh, g, d, t, os⟩ := s
  exact PySem.W.make_core (PySem.W.makes_of X hm) (PySem.W.looks_findIn X hi) (fun self => PySem.W.bind_fn X self hf) (.inl rfl) h
/-- C() where there is no __init__ but object's -/
theorem make_map0 {R : Result → Shared → Prop} (X : K.In s.heap) (hm : PySem.W.makesIn K C = true)
    (hi : PySem.W.findIn K (.ref C) "__init__" = some (some (.builtin "object.__init__")))
    (hb : ∀ self, PySem.W.Looks (model prog w) s.heap (bindSpecial (.builtin "object.__init__") self) (.builtin "object.__init__", [self]))
    (h : codeAny (model prog w) (A.under (.builtin "type.__call__" ⟨[.ref C], []⟩)) (.call (.builtin "object.__init__") ⟨[.ref (s.heap.objs.size + 1)], []⟩) (PySem.W.InitBack (s.heap.objs.size + 1) R)
      { s with heap := (s.heap.push PySem.W.emptyDict).push (PySem.W.instObj C s.heap.objs.size) }) :
    codeAny (model prog w) A (.call (.ref C) ⟨[], []⟩) R s := by
  obtain ⟨hh, g, d, t, os⟩ := s
  exact PySem.W.make_core (PySem.W.makes_of X hm) (PySem.W.looks_findIn X hi) hb (.inr ⟨rfl, rfl⟩) h
end

/-! ### the attributes as a list of pairs -/
def putF (f : Str) (v : V) : List (Str × V) → List (Str × V)
  | [] => [(f, v)]
  | (g, x) :: r => if g = f then (g, v) :: r else (g, x) :: putF f v r
theorem lookup_putF (f g : Str) (v : V) : ∀ fs : List (Str × V), (putF f v fs).lookup g = if g = f then some v else fs.lookup g
  | [] => by
    show List.lookup g [(f, v)] = _
    by_cases h : g = f
    · have hb : (g == f) = true := beq_iff_eq.mpr h
      simp only [List.lookup, hb, if_pos h]
    · have hb : (g == f) = false := beq_eq_false_iff_ne.mpr h
      simp only [List.lookup, hb, if_neg h]
  | (k, x) :: r => by
    have ih := lookup_putF f g v r
    rw [show putF f v ((k, x) :: r) = (if k = f then (k, v) :: r else (k, x) :: putF f v r) from rfl]
    by_cases hk : k = f
    · rw [if_pos hk]
      by_cases h : g = k
      · have hb : (g == k) = true := beq_iff_eq.mpr h
        simp only [List.lookup, hb, if_pos (h.trans hk)]
      · have hb : (g == k) = false := beq_eq_false_iff_ne.mpr h
        simp only [List.lookup, hb, if_neg (fun e : g = f => h (e.trans hk.symm))]
    · rw [if_neg hk]
      by_cases h : g = k
      · have hb : (g == k) = true := beq_iff_eq.mpr h
        simp only [List.lookup, hb, if_neg (fun e : g = f => hk (h.symm.trans e))]
      · have hb : (g == k) = false := beq_eq_false_iff_ne.mpr h
        simp only [List.lookup, hb]
        exact ih
theorem keys_putF (f : Str) (v : V) : ∀ fs : List (Str × V), f ∈ (putF f v fs).map (·.1) ∧ ∀ g, g ∈ fs.map (·.1) → g ∈ (putF f v fs).map (·.1)
  | [] => ⟨by simp [putF], fun g h => by simp at h⟩
  | (k, x) :: r => by
    obtain ⟨i1, i2⟩ := keys_putF f v r
    rw [show putF f v ((k, x) :: r) = (if k = f then (k, v) :: r else (k, x) :: putF f v r) from rfl]
    by_cases hk : k = f
    · rw [if_pos hk]
      subst hk
      exact ⟨by simp, fun g h => by simpa using h⟩
    · rw [if_neg hk]
      refine ⟨?_, fun g h => ?_⟩
      · rw [List.map_cons]
        exact List.mem_cons_of_mem _ i1
      · rw [List.map_cons] at h ⊢
        rcases List.mem_cons.mp h with e | e
        · exact List.mem_cons.mpr (.inl e)
        · exact List.mem_cons_of_mem _ (i2 g e)
theorem length_putF (f : Str) (v : V) : ∀ fs : List (Str × V), (putF f v fs).length ≤ fs.length + 1
  | [] => by simp [putF]
  | (k, x) :: r => by
    have ih := length_putF f v r
    rw [show putF f v ((k, x) :: r) = (if k = f then (k, v) :: r else (k, x) :: putF f v r) from rfl]
    by_cases hk : k = f
    · rw [if_pos hk, List.length_cons, List.length_cons]; omega
    · rw [if_neg hk, List.length_cons, List.length_cons]; omega

theorem RelO.some_of {v : V} {o : Option Value} (r : RelO (some v) o) : ∃ u, o = some u ∧ RelV v u := by
  cases o with
  | none => exact (show False from r).elim
  | some u => exact ⟨u, rfl, r⟩
theorem RelO.none_of {o : Option Value} (r : RelO none o) : o = none := by
  cases o with
  | none => rfl
  | some u => exact (show False from r).elim
theorem handed_of {v : V} {u : Value} (r : RelV v u) : PySem.W.handedIn u = true := by
  cases v with
  | non => cases (show u = Value.none from r); rfl
  | bl b => cases (show u = Value.bool b from r); rfl
  | int i => obtain ⟨t, e⟩ := (show ∃ t, u = Value.int i t from r); cases e; rfl
  | str x => obtain ⟨t, e⟩ := (show ∃ t, u = Value.str x t from r); cases e; rfl
  | byt b => obtain ⟨t, e⟩ := (show ∃ t, u = Value.bytes b t from r); cases e; rfl
  | flt b => obtain ⟨t, e⟩ := (show ∃ t, u = Value.float b t from r); cases e; rfl
  | ref a => cases (show u = Value.ref a from r); rfl
  | ty n => cases (show u = Value.type n from r); rfl

section
variable {P : Program} {w : World} {H H' : Hp} {h h' : Heap} {a C dx : Addr} {fs fs' : List (Str × V)}
theorem ins_get (hok : HOk P w H h) (e : H a = some (.ins C dx fs)) : ∃ mA, ObjM h a dx C mA ∧ (∀ f, RelO (fs.lookup f) (mA f)) ∧ PySem.Within mA (fs.map (·.1)) ∧ fs.length ≤ 1000 ∧ H dx = some (.own a) := by
  obtain ⟨d, z, ne, ob, mA, n, r, q⟩ := (show ObjOk P w H h a (.ins C dx fs) from hok a _ e)
  exact ⟨mA, ⟨ob, n, ne⟩, r, q, z, d⟩
end

/-! ### what of the text a class must have -/
structure Cls (K : PySem.W.Frag) (C : Addr) : Prop where
  pg : PySem.W.plainGet K C Str.empty = true
  hd : PySem.W.hasDictIn K C = true
  po : PySem.W.plainOver K C = true
  sa : PySem.W.findIn K (.ref C) "__setattr__" = some (some (.builtin "object.__setattr__"))
theorem Cls.get {K : PySem.W.Frag} {C : Addr} (c : Cls K C) (f : Str) : PySem.W.plainGet K C f = true := c.pg
/-- no class of it has the name -/
def NoAttr (K : PySem.W.Frag) (C : Addr) (f : Str) : Prop := PySem.W.findIn K (.ref C) f = some none
theorem NoAttr.taker {K : PySem.W.Frag} {C : Addr} {f : Str} (n : NoAttr K C f) : PySem.W.takerIn K C f = some none := by
  unfold PySem.W.takerIn
  rw [show PySem.W.findIn K (.ref C) f = some none from n]
  rfl
/-- a constant of the class -/
structure Con (K : PySem.W.Frag) (C : Addr) (f : Str) (v : V) (u : Value) : Prop where
  at_ : PySem.W.findIn K (.ref C) f = some (some u)
  rel : RelV v u
  get : PySem.W.specialIn K u "__get__" = some none
  cp : PySem.W.copiedNames.contains f = false
/-- a method: a plain def of the class or of one above it -/
structure Meth (K : PySem.W.Frag) (C : Addr) (m : Str) (f : Addr) : Prop where
  at_ : PySem.W.findIn K (.ref C) m = some (some (.ref f))
  fn : PySem.W.isFn K (.ref f) = true
  kp : PySem.W.keepIn K (.ref f) = true

section
variable {X : Cx} {pins : List (Addr × Obj)} {σ : St} {H : Hp} {s : Shared} {a C dx : Addr} {fs : List (Str × V)} {f : Str} {v : V} {A : Around} {E : Value → Shared → Prop}

theorem getattr_ok {b : Bool} {Q : Value → Shared → Prop} (I : Inv X pins σ H s) (e : H a = some (.ins C dx fs)) (c : Cls X.K C) (n : NoAttr X.K C f) (l : fs.lookup f = some v)
    (h : ∀ u s', Inv X pins σ H s' → RelV v u → Q u s') : wpAny (model X.prog X.w) A (getAttr (.ref a) f b) Q E s := by
  obtain ⟨mA, O, r, _, _, _⟩ := ins_get I.hok e
  obtain ⟨u, hu, ru⟩ := RelO.some_of (v := v) (o := mA f) (by rw [← l]; exact r f)
  exact get_map I.kIn O (c.get f) c.hd n hu (handed_of ru) (h u _ (I.tok _) ru)

theorem getcon_ok {b : Bool} {u : Value} {Q : Value → Shared → Prop} (I : Inv X pins σ H s) (e : H a = some (.ins C dx fs)) (c : Cls X.K C) (k : Con X.K C f v u) (l : fs.lookup f = none)
    (h : ∀ s', Inv X pins σ H s' → Q u s') : wpAny (model X.prog X.w) A (getAttr (.ref a) f b) Q E s := by
  obtain ⟨mA, O, r, _, _, _⟩ := ins_get I.hok e
  have hn : mA f = none := RelO.none_of (by rw [← l]; exact r f)
  exact get_const I.kIn O (c.get f) c.hd k.at_ k.get k.cp hn (handed_of k.rel) (h _ (I.tok _))

theorem getmeth_ok {m : Str} {g : Addr} {pl : Sem Bool} {Q : Value × List Value → Shared → Prop} (I : Inv X pins σ H s) (e : H a = some (.ins C dx fs)) (c : Cls X.K C) (k : Meth X.K C m g) (l : fs.lookup m = none)
    (h : Q (.ref g, [.ref a]) s) : wpAny (model X.prog X.w) A (getMethod (.ref a) m pl) Q E s := by
  obtain ⟨mA, O, r, _, _, _⟩ := ins_get I.hok e
  have hn : mA m = none := RelO.none_of (by rw [← l]; exact r m)
  exact get_meth I.kIn O (c.get m) k.at_ k.fn hn h

theorem setattr_ok {y : V} {u : Value} {Q : Unit → Shared → Prop} (I : Inv X pins σ H s) (e : H a = some (.ins C dx fs)) (c : Cls X.K C) (n : NoAttr X.K C f) (hl : fs.length < 1000) (ry : RelV y u)
    (h : ∀ s', Inv X pins σ (upd H a (.ins C dx (putF f y fs))) s' → Q () s') : wpAny (model X.prog X.w) A (setAttr (.ref a) f u) Q E s := by
  obtain ⟨mA, O, r, wi, _, ho⟩ := ins_get I.hok e
  have hz : (fs.map (·.1)).length ≤ sizeLine := by rw [List.length_map, sizeLine_eq]; omega
  refine set_map I.kIn O c.sa c.po n.taker c.hd wi hz fun h' O' sb => h _ ?_
  have hd : ∃ o, h'.get? dx = some o := let ⟨o, _, _, e', _⟩ := O'.ns; ⟨o, e'⟩
  refine I.write (x := a) (e := dx) (by rw [e]; exact True.intro) (.inr ho) (fun b q hb z => (sb.2 b hb).trans z) hd ?_
  refine ⟨by rw [upd_ne O.ne]; exact ho, ?_, O.ne, O'.obj, _, O'.ns, fun g => ?_, fun g hg => ?_⟩
  · have := length_putF f y fs; omega
  · show RelO ((putF f y fs).lookup g) (if g = f then some u else mA g)
    rw [lookup_putF]
    by_cases q : g = f
    · rw [if_pos q, if_pos q]; exact ry
    · rw [if_neg q, if_neg q]; exact r g
  · by_cases q : g = f
    · rw [q]; exact (keys_putF f y fs).1
    · refine (keys_putF f y fs).2 g (wi g fun z => hg ?_)
      show (if g = f then some u else mA g) = none
      rw [if_neg q]; exact z

/-- a new instance, tracked, without attributes -/
theorem Inv.made (I : Inv X pins σ H s) : Inv X pins σ (upd (upd H s.heap.objs.size (.own (s.heap.objs.size + 1))) (s.heap.objs.size + 1) (.ins C s.heap.objs.size []))
    { s with heap := (s.heap.push PySem.W.emptyDict).push (PySem.W.instObj C s.heap.objs.size) } := by
  have e1 : (s.heap.push PySem.W.emptyDict).get? s.heap.objs.size = some PySem.W.emptyDict := Heap.get?_push_size s.heap rfl
  have e2 : ((s.heap.push PySem.W.emptyDict).push (PySem.W.instObj C s.heap.objs.size)).get? (s.heap.objs.size + 1) = some (PySem.W.instObj C s.heap.objs.size) := by
    have := Heap.get?_push_size (s.heap.push PySem.W.emptyDict) (o := PySem.W.instObj C s.heap.objs.size) rfl
    rwa [Heap.size_push] at this
  have e3 : (s.heap.push PySem.W.emptyDict).Ns s.heap.objs.size (fun _ => none) := ⟨PySem.W.emptyDict, #[], _, e1, rfl, (fun e he => absurd he (by simp)), fun _ => rfl⟩
  have I1 := I.laid (a := s.heap.objs.size) (o := .own (s.heap.objs.size + 1)) (h' := s.heap.push PySem.W.emptyDict) (t' := s.toks) (fun b u q => Heap.get?_push_of_some _ q) (Nat.le_refl _) ⟨_, e1⟩
  refine I1.laid (a := s.heap.objs.size + 1) (o := .ins C s.heap.objs.size []) (t' := s.toks) (fun b u q => Heap.get?_push_of_some _ q) (Nat.le_of_eq (Heap.size_push _ _)) ?_
  have ne : s.heap.objs.size ≠ s.heap.objs.size + 1 := Nat.ne_of_lt (Nat.lt_succ_self _)
  refine ⟨by rw [upd_ne ne, upd_same], Nat.zero_le _, ne, e2, fun _ => none, (Heap.Ns1.of_empty e3).at fun o q => Heap.get?_push_of_some _ q, fun _ => True.intro, fun y hy => absurd rfl hy⟩

/-- e.f where nothing but the object is asked: through attributeBase (super) and the last hold -/
theorem attr_of {prog : Program} {w : World} {env : Env} {e : Expr} {f : Str} {pos : Pos} {s : Shared} {Q : Value → Shared → Prop} (hb : attributeBase e f env (eval e env) = eval e env)
    (h : wpAny (model prog w) A (eval e env) (fun o s₁ => wpAny (model prog w) A (getAttr o f true) Q E s₁) E s) : wpAny (model prog w) A (eval (.Attribute e f pos) env) Q E s :=
  Attribute_any_ h (by rw [arm_eval_Attribute, hb])
end

/-! ### readings and rules -/
/-- e.f, an attribute of the instance -/
def tFld (K : PySem.W.Frag) (ta : TE) (f : Str) : TE := fun σ H Q => ta σ H fun x H1 => ∃ a C dx fs v, x = .ref a ∧ H1 a = some (.ins C dx fs) ∧ Cls K C ∧ NoAttr K C f ∧ fs.lookup f = some v ∧ Q v H1
/-- e.f, a constant of the class -/
def tCon (K : PySem.W.Frag) (ta : TE) (f : Str) : TE := fun σ H Q => ta σ H fun x H1 => ∃ a C dx fs v u, x = .ref a ∧ H1 a = some (.ins C dx fs) ∧ Cls K C ∧ Con K C f v u ∧ fs.lookup f = none ∧ Q v H1
/-- e.f = value -/
def sFld (K : PySem.W.Frag) (ta tv : TE) (f : Str) : TS := fun D σ H => tv σ H fun y H1 => ta σ H1 fun x H2 => ∃ a C dx fs, x = .ref a ∧ H2 a = some (.ins C dx fs) ∧ Cls K C ∧ NoAttr K C f ∧ fs.length < 1000 ∧
  D.nx σ (upd H2 a (.ins C dx (putF f y fs)))
/-- an augmented operator on two values -/
def InOp (X : Cx) (op : Operator) (rd : V → V → Hp → VK → Prop) : Prop :=
  ∀ (pins : List (Addr × Obj)) (s : Shared) (σ : St) (H : Hp) (x y : V) (u v : Value) (Q : VK), Inv X pins σ H s → RelV x u → RelV y v → rd x y H Q → wpAny (model X.prog X.w) X.A (inplaceOp op u v) (EP X pins σ Q) X.xe s
/-- e.f op= value -/
def sFldAug (K : PySem.W.Frag) (ta tv : TE) (rd : V → V → Hp → VK → Prop) (f : Str) : TS := fun D σ H => ta σ H fun x H1 => ∃ a C dx fs v, x = .ref a ∧ H1 a = some (.ins C dx fs) ∧ Cls K C ∧ NoAttr K C f ∧ fs.lookup f = some v ∧
  tv σ H1 fun y H2 => rd v y H2 fun z H3 => ∃ dx' fs', H3 a = some (.ins C dx' fs') ∧ fs'.length < 1000 ∧ D.nx σ (upd H3 a (.ins C dx' (putF f z fs')))

section
variable {X : Cx} {o e value : Expr} {f : Str} {pos pos' tpos : Pos} {ta tv : TE}
theorem pe_fld (he : PE X e ta) (hb : attributeBase e f X.env (eval e X.env) = eval e X.env) : PE X (.Attribute e f pos) (tFld X.K ta f) := by
  intro pins s σ H Q I h
  refine attr_of hb (thn (he pins s σ H _ I h) fun u s1 ⟨x, H1, I1, rx, a, C, dx, fs, v, ex, ea, c, n, l, q⟩ => ?_)
  subst ex
  obtain rfl : u = Value.ref a := rx
  exact getattr_ok I1 ea c n l fun u' s2 I2 ru => ⟨v, H1, I2, ru, q⟩
theorem pe_con (he : PE X e ta) (hb : attributeBase e f X.env (eval e X.env) = eval e X.env) : PE X (.Attribute e f pos) (tCon X.K ta f) := by
  intro pins s σ H Q I h
  refine attr_of hb (thn (he pins s σ H _ I h) fun u s1 ⟨x, H1, I1, rx, a, C, dx, fs, v, u0, ex, ea, c, k, l, q⟩ => ?_)
  subst ex
  obtain rfl : u = Value.ref a := rx
  exact getcon_ok I1 ea c k l fun s2 I2 => ⟨v, H1, I2, k.rel, q⟩
theorem ps_fld (ha : PE X o ta) (hv : PE X value tv) (hs : swapsWith value (some (.Attribute o f pos')) pos.line X.env = pure false) : PS X (.Assign [.Attribute o f pos'] value pos) (sFld X.K ta tv f) := by
  intro pins s σ H D I h
  refine plainObj_wpAny_Assign_Attribute (thn (hv pins s σ H _ I h) fun u s1 ⟨y, H1, I1, ry, q⟩ => thn (ha pins s1 σ H1 _ I1 q) fun ov s2 ⟨x, H2, I2, rx, a, C, dx, fs, ex, ea, c, n, l, q2⟩ => ?_) hs
  subst ex
  obtain rfl : ov = Value.ref a := rx
  exact setattr_ok I2 ea c n l ry fun s3 I3 => ⟨σ, _, I3, q2⟩
theorem ps_fldaug {op : Operator} {rd : V → V → Hp → VK → Prop} (ha : PE X o ta) (hv : PE X value tv) (hop : InOp X op rd) : PS X (.AugAssign (.Attribute o f tpos) op value pos) (sFldAug X.K ta tv rd f) := by
  intro pins s σ H D I h
  refine wpAny_AugAssign_AttributeAny (thn (ha pins s σ H _ I h) fun ov s1 ⟨x, H1, I1, rx, a, C, dx, fs, v, ex, ea, c, n, l, q⟩ => ?_)
  subst ex
  obtain rfl : ov = Value.ref a := rx
  refine getattr_ok I1 ea c n l fun u s2 I2 ru => thn (hv pins s2 σ H1 _ I2 q) fun w3 s3 ⟨y, H2, I3, ry, q3⟩ => thn (hop pins s3 σ H2 v y u w3 _ I3 ru ry q3) fun w4 s4 ⟨z, H3, I4, rz, dx', fs', ea', l', q4⟩ => ?_
  exact setattr_ok I4 ea' c n l' rz fun s5 I5 => ⟨σ, _, I5, q4⟩
def rAdd : V → V → Hp → VK → Prop := fun x y H Q => ∃ i j, x = .int i ∧ y = .int j ∧ Q (.int (i + j)) H
def rSub : V → V → Hp → VK → Prop := fun x y H Q => ∃ i j, x = .int i ∧ y = .int j ∧ Q (.int (i - j)) H
theorem in_add : InOp X .Add rAdd := by
  rintro pins s σ H x y u v Q I rx ry ⟨i, j, rfl, rfl, q⟩
  obtain ⟨t, rfl⟩ := (show ∃ t, u = Value.int i t from rx)
  obtain ⟨t', rfl⟩ := (show ∃ t', v = Value.int j t' from ry)
  exact PyProof.Rows.iadd_int ⟨.int (i + j), H, I.tok _, ⟨_, rfl⟩, q⟩
theorem in_sub : InOp X .Sub rSub := by
  rintro pins s σ H x y u v Q I rx ry ⟨i, j, rfl, rfl, q⟩
  obtain ⟨t, rfl⟩ := (show ∃ t, u = Value.int i t from rx)
  obtain ⟨t', rfl⟩ := (show ∃ t', v = Value.int j t' from ry)
  exact PyProof.Rows.isub_int ⟨.int (i - j), H, I.tok _, ⟨_, rfl⟩, q⟩

/-- what is between an instance and its method: the tree of a method call -/
theorem methcall_of {pl : Sem Bool} {m : Str} {apos : Pos} {args : List Expr} {pins : List (Addr × Obj)} {s : Shared} {σ : St} {H : Hp} {Q : Value → Shared → Prop} {te : TE} (he : PE X e te) (I : Inv X pins σ H s)
    (h : te σ H fun x H1 => ∃ a C dx fs g, x = .ref a ∧ H1 a = some (.ins C dx fs) ∧ Cls X.K C ∧ Meth X.K C m g ∧ fs.lookup m = none ∧
      ∀ s1, Inv X pins σ H1 s1 → wpAny (model X.prog X.w) X.A (callWith pos (.ref g) [.ref a] (backTo pos (starEach args X.env)) (backToKw pos (keywordEach [] X.env))) Q X.xe s1)
    (ht : eval (.Call (.Attribute e m apos) args [] pos) X.env = (do
      let ov ← eval e X.env
      standAt apos.atName
      let (f, first) ← holding [ov] (getMethod ov m pl)
      callWith pos f first (backTo pos (starEach args X.env)) (backToKw pos (keywordEach [] X.env)))) :
    wpAny (model X.prog X.w) X.A (eval (.Call (.Attribute e m apos) args [] pos) X.env) Q X.xe s := by
  refine PySem.W.methodCall_KW (pl := pl) (thn (he pins s σ H _ I h) fun u s1 ⟨x, H1, I1, rx, a, C, dx, fs, g, ex, ea, c, k, l, q⟩ => ?_) ht
  subst ex
  obtain rfl : u = Value.ref a := rx
  exact getmeth_ok I1 ea c k l (q s1 I1)
end

/-! ### isinstance -/
section
variable {X : Cx} {pins : List (Addr × Obj)} {σ : St} {H : Hp} {s : Shared} {A : Around} {E : Value → Shared → Prop} {Q : Value → Shared → Prop} {c : Value} {b : Bool}
/-- the type of a value, as the fragment's deciders take it; for an instance its class -/
inductive TyOf (K : PySem.W.Frag) (H : Hp) : V → Value → Prop where
  | non : TyOf K H .non (.type "NoneType")
  | bl (x : Bool) : TyOf K H (.bl x) (.type "bool")
  | int (i : Int) : TyOf K H (.int i) (.type "int")
  | str (x : Str) : TyOf K H (.str x) (.type "str")
  | flt (x : UInt64) : TyOf K H (.flt x) (.type "float")
  | lst {a : Addr} {xs : List V} (e : H a = some (.lst xs)) : TyOf K H (.ref a) (.type "list")
  | frz {a : Addr} {o : Obj} {xs : List V} (e : H a = some (.frz o (.lst xs))) : TyOf K H (.ref a) (.type "list")
  | tup {a : Addr} {xs : List V} (e : H a = some (.tup xs)) : TyOf K H (.ref a) (.type "tuple")
  | dK {a : Addr} {kvs : List (Key × V)} (e : H a = some (.dK kvs)) : TyOf K H (.ref a) (.type "dict")
  | dT {a : Addr} {kvs : List (List Key × V)} (e : H a = some (.dT kvs)) : TyOf K H (.ref a) (.type "dict")
  | ins {a C dx : Addr} {fs : List (Str × V)} (e : H a = some (.ins C dx fs)) (cl : Cls K C) (ha : PySem.W.findIn K (.ref C) "__class__" = some (some (.builtin "object.__class__")))
      (hn : PySem.W.specialIn K (.builtin "object.__class__") "__get__" = some (some (.builtin "getset_descriptor.__get__"))) (htk : PySem.W.takesIn K (.builtin "object.__class__") = some true)
      (hm : PySem.W.mroIn K C (.type "object") = some true) : TyOf K H (.ref a) (.ref C)
/-- isinstance(x, c) for one class c, a built-in or an own one: kitOne's answer -/
theorem isinst_ok {x : V} {u t : Value} (I : Inv X pins σ H s) (rx : RelV x u) (ty : TyOf X.K H x t) (e : PySem.W.kitOne X.K t c = some b) (h : ∀ tk, Q (.bool b) { s with toks := tk }) :
    wpAny (model X.prog X.w) A (call (.builtin "isinstance") [u, c]) Q E s := by
  cases ty with
  | non => cases (show u = Value.none from rx); exact PySem.W.kia_one PySem.W.kitx_none I.kIn True.intro e (fun z => nomatch z) h
  | bl y => cases (show u = Value.bool y from rx); exact PySem.W.kia_one PySem.W.kitx_bool I.kIn True.intro e (fun z => nomatch z) h
  | int i => obtain ⟨t, q⟩ := (show ∃ t, u = Value.int i t from rx); cases q; exact PySem.W.kia_one PySem.W.kitx_int I.kIn True.intro e (fun z => nomatch z) h
  | str y => obtain ⟨t, q⟩ := (show ∃ t, u = Value.str y t from rx); cases q; exact PySem.W.kia_one PySem.W.kitx_str I.kIn True.intro e (fun z => nomatch z) h
  | flt y => obtain ⟨t, q⟩ := (show ∃ t, u = Value.float y t from rx); cases q; exact PySem.W.kia_one PySem.W.kitx_float I.kIn True.intro e (fun z => nomatch z) h
  | @lst a xs ea =>
    cases (show u = Value.ref a from rx)
    obtain ⟨_, _, n, _, h1⟩ := (show ObjOk X.prog X.w H s.heap a (.lst xs) from I.hok a _ ea)
    exact PySem.W.kia_one PySem.W.kitx_list I.kIn ⟨_, h1, rfl⟩ e (fun z => nomatch z) h
  | @frz a ob xs ea =>
    cases (show u = Value.ref a from rx)
    obtain ⟨_, _, _, n, _, h1⟩ := (show ObjOk X.prog X.w H s.heap a (.frz ob (.lst xs)) from I.hok a _ ea)
    exact PySem.W.kia_one PySem.W.kitx_list I.kIn ⟨_, h1, rfl⟩ e (fun z => nomatch z) h
  | @tup a xs ea =>
    cases (show u = Value.ref a from rx)
    obtain ⟨_, _, _, p⟩ := (show ObjOk X.prog X.w H s.heap a (.tup xs) from I.hok a _ ea)
    obtain ⟨o, h1, h2, _⟩ := p
    exact PySem.W.kia_one PySem.W.kitx_tuple I.kIn ⟨o, h1, h2⟩ e (fun z => nomatch z) h
  | @dK a kvs ea =>
    cases (show u = Value.ref a from rx)
    obtain ⟨_, _, vs, _, p⟩ := (show ObjOk X.prog X.w H s.heap a (.dK kvs) from I.hok a _ ea)
    obtain ⟨o, es, ep, h1, h2, _⟩ := p
    exact PySem.W.kia_one PySem.W.kitx_dict I.kIn ⟨o, h1, h2.1⟩ e (fun z => nomatch z) h
  | @dT a kvs ea =>
    cases (show u = Value.ref a from rx)
    obtain ⟨_, _, xs, _, o, es, ep, h1, h2, _⟩ := (show ObjOk X.prog X.w H s.heap a (.dT kvs) from I.hok a _ ea)
    exact PySem.W.kia_one PySem.W.kitx_dict I.kIn ⟨o, h1, h2.1⟩ e (fun z => nomatch z) h
  | @ins a C dx fs ea cl ha hn htk hm =>
    cases (show u = Value.ref a from rx)
    obtain ⟨mA, O, _⟩ := ins_get I.hok ea
    obtain ⟨od, J, _⟩ := O.look
    exact PySem.W.kia_one (PySem.W.kitx_own (cl.get _) cl.hd ha hn htk hm) I.kIn J e (fun z => nomatch z) h
end
end L2

namespace L2
open PySem PySem.Spec PyProof.Rows

/-! ### room -/
structure Room (k : Nat) (A : Around) : Prop where
  hd : A.handled = none
  dp : A.depth + 3 * k + 5 < recursionLimit
  un : A.units + 16 * k + 200 < cLine
  gd : A.guards = some []
theorem Room.mono {j k : Nat} {A : Around} (r : Room k A) (h : j ≤ k) : Room j A := ⟨r.hd, by have := r.dp; omega, by have := r.un; omega, r.gd⟩
theorem Room.deeper {k : Nat} {A : Around} (r : Room (k + 1) A) (env : Env) : Room k (A.deeper env) :=
  ⟨r.hd, by have := r.dp; show A.depth + 1 + 3 * k + 5 < _; omega, by have := r.un; show A.units + 3 + 16 * k + 200 < _; omega, r.gd⟩
theorem Room.in1 {k : Nat} {A : Around} (r : Room (k + 1) A) : Room k A.in1 :=
  ⟨r.hd, by have := r.dp; show A.depth + 3 * k + 5 < _; omega, by have := r.un; show A.units + 1 + 16 * k + 200 < _; omega, r.gd⟩
theorem make_depth {A : Around} {C : Addr} {us : List Value} {kw : List (Str × Value)} : (A.under (.builtin "type.__call__" ⟨.ref C :: us, kw⟩)).depth = A.depth + 1 := by
  first | rfl | simp [Around.under, Code.weight, Code.isCreation, Code.isGuard, Code.isCaller, Code.frames, Code.isFrame, guardIds]
theorem make_units {A : Around} {C : Addr} {us : List Value} {kw : List (Str × Value)} : (A.under (.builtin "type.__call__" ⟨.ref C :: us, kw⟩)).units = A.units + 1 := by
  first | rfl | simp [Around.under, Code.cUnits, Code.frames, Code.isFrame]
theorem make_guards {A : Around} {C : Addr} {us : List Value} {kw : List (Str × Value)} : (A.under (.builtin "type.__call__" ⟨.ref C :: us, kw⟩)).guards = A.guards := by
  first | rfl | (cases h : A.guards <;> simp [Around.under, Code.guards, Code.isGuard, guardIds, pushGuards, h])
theorem Room.make {k : Nat} {A : Around} (r : Room (k + 1) A) (C : Addr) (us : List Value) (kw : List (Str × Value)) : Room k (A.under (.builtin "type.__call__" ⟨.ref C :: us, kw⟩)) :=
  ⟨r.hd, by have := r.dp; rw [make_depth]; omega, by have := r.un; rw [make_units]; omega, by rw [make_guards]; exact r.gd⟩
theorem Room.depth {k : Nat} {A : Around} (r : Room k A) : A.depth < recursionLimit := by have := r.dp; omega
theorem Room.units {k : Nat} {A : Around} (r : Room k A) : A.units + 64 < cLine := by have := r.un; omega
theorem Room.units0 {k : Nat} {A : Around} (r : Room k A) : A.units < cLine := by have := r.un; omega

/-! ### argument lists and displays -/
def tNil : TA := fun _ H Q => Q [] H
def tCons (ta : TE) (tr : TA) : TA := fun σ H Q => ta σ H fun x H1 => tr σ H1 fun xs H2 => Q (x :: xs) H2
section
variable {X : Cx} {e : Expr} {es : List Expr} {te : TE} {t : TA} {pos : Pos}
theorem pa_nil : PA X [] tNil := fun _ _ _ _ H Q I h => Calls.spliced_nil ⟨[], H, I, .nil, h⟩
theorem pa_cons (ha : PE X e te) (hr : PA X es t) (hs : starEach (e :: es) X.env = (false, eval e X.env) :: starEach es X.env := by rfl) : PA X (e :: es) (tCons te t) := by
  intro pos pins s σ H Q I h
  rw [hs]
  show wpAny _ _ (spliced ((false, eval e X.env) :: backTo pos (starEach es X.env))) _ _ s
  refine Calls.spliced_cons (thn (ha pins s σ H _ I h) fun u s1 ⟨x, H1, I1, r1, q1⟩ => ?_)
  exact thn (hr pos pins s1 σ H1 _ I1 q1) fun us s2 ⟨xs, H2, I2, r2, q2⟩ => ⟨x :: xs, H2, I2, .cons r1 r2, q2⟩

/-- a tuple, a list of written items -/
def tTup (t : TA) : TE := fun σ H Q => t σ H fun xs H1 => xs.length ≤ sizeLine ∧ ∀ p, H1 p = none → Q (.ref p) (upd H1 p (.tup xs))
def tLst (t : TA) : TE := fun σ H Q => t σ H fun xs H1 => xs.length ≤ sizeLine ∧ ∀ p, H1 p = none → Q (.ref p) (upd H1 p (.lst xs))
theorem pe_tup {x1} (h : PA X es t) : PE X (.Tuple es x1 pos) (tTup t) := by
  intro pins s σ H Q I hq
  refine wpAny_Tuple_spliced (thn (h pos pins s σ H _ I hq) fun us s1 ⟨xs, H1, I1, r, z, q⟩ => ⟨by rw [← r.length]; exact z, ?_⟩)
  have hf : H1 s1.heap.objs.size = none := I1.hok.fresh (Nat.le_refl _)
  refine ⟨.ref s1.heap.objs.size, upd H1 s1.heap.objs.size (.tup xs), I1.laid (t' := s1.toks) (fun b u e => Heap.get?_push_of_some _ e) (Nat.le_refl _) ?_, rfl, q _ hf⟩
  exact ⟨z, us, r, ⟨_, Heap.get?_push_size _ rfl, rfl, _, rfl⟩⟩
theorem pe_lst (h : PA X es t) : PE X (.List es pos) (tLst t) := by
  intro pins s σ H Q I hq
  refine wpAny_List_spliced (thn (h pos pins s σ H _ I hq) fun us s1 ⟨xs, H1, I1, r, z, q⟩ => ⟨by rw [← r.length]; exact z, ?_⟩)
  have hf : H1 s1.heap.objs.size = none := I1.hok.fresh (Nat.le_refl _)
  refine ⟨.ref s1.heap.objs.size, upd H1 s1.heap.objs.size (.lst xs), I1.laid (t' := s1.toks) (fun b u e => Heap.get?_push_of_some _ e) (Nat.le_refl _) ?_, rfl, q _ hf⟩
  exact ⟨z, us, 0, r, Heap.get?_push_size _ rfl⟩
end

/-! ### what a def promises -/
/-- a def's promise: the bound arguments in the parameters' order, the heap, the wanted end, the wanted exception -/
abbrev Sp := List V → Hp → VK → XK → Prop
/-- how an exception lies behind a call (file 08 gives it): the callers' frames, abstract heap and state ahead of the call, the wish, the exception, the state -/
abbrev CXT := List Env → Hp → Shared → XK → Value → Shared → Prop

/-- the state at a call -/
structure Env0 (P : Program) (w : World) (K : PySem.W.Frag) (mg : Str → Option Value) (base : Heap) (A : Around) (outer : List Env) (s : Shared) (H : Hp) : Prop where
  frames : A.frames = some outer
  mod : Mod K mg base
  bs : ∀ b o, base.get? b = some o → s.heap.get? b = some o ∧ H b = none
  bsz : base.objs.size ≤ s.heap.objs.size
  funs : s.heap.FunFrames base outer
  frf : ∀ b ∈ frs outer, H b = none
  hok : HOk P w H s.heap
  bare : AllBare s.gens
/-- a call's end -/
def CE (outer : List Env) (P : Program) (w : World) (H : Hp) (s : Shared) (Q : VK) (u : Value) (s' : Shared) : Prop :=
  ∃ v H', s'.os = s.os ∧ AllBare s'.gens ∧ Un (frs outer) [] H H' s.heap s'.heap ∧ HOk P w H' s'.heap ∧ RelV v u ∧ Q v H'
def CR (CX : CXT) (outer : List Env) (P : Program) (w : World) (H : Hp) (s : Shared) (Q : VK) (E : XK) (r : Result) (s' : Shared) : Prop :=
  match r with
  | .ok (.ret u) => CE outer P w H s Q u s'
  | .ok _ => False
  | .error e => CX outer H s E e s'
structure FnOk (P : Program) (w : World) (K : PySem.W.Frag) (mg : Str → Option Value) (base : Heap) (CX : CXT) (k : Nat) (f : Addr) (fd : FuncData) (ps : List Str) (sp : Sp) : Prop where
  len : ∀ vs H Q E, sp vs H Q E → vs.length = ps.length
  run : ∀ (A : Around) (outer : List Env) (s : Shared) (H : Hp) (args : Args) (us : List Value) (vs : List V) (Q : VK) (E : XK), Room k A → Env0 P w K mg base A outer s H → BindsTo s fd args (ps.zip us) → Vals vs us → sp vs H Q E →
    codeAny (model P w) A (.call (.ref f) args) (CR CX outer P w H s Q E) s
theorem FnOk.mono {P : Program} {w : World} {K : PySem.W.Frag} {mg : Str → Option Value} {base : Heap} {CX : CXT} {j k : Nat} {f : Addr} {fd : FuncData} {ps : List Str} {sp : Sp} (F : FnOk P w K mg base CX j f fd ps sp) (h : j ≤ k) :
    FnOk P w K mg base CX k f fd ps sp := ⟨F.len, fun A outer s H args us vs Q E hr => F.run A outer s H args us vs Q E (hr.mono h)⟩
/-- a weaker promise -/
theorem FnOk.imp {P : Program} {w : World} {K : PySem.W.Frag} {mg : Str → Option Value} {base : Heap} {CX : CXT} {k : Nat} {f : Addr} {fd : FuncData} {ps : List Str} {sp sp' : Sp} (F : FnOk P w K mg base CX k f fd ps sp)
    (h : ∀ vs H Q E, sp' vs H Q E → sp vs H Q E) : FnOk P w K mg base CX k f fd ps sp' :=
  ⟨fun vs H Q E q => F.len vs H Q E (h _ _ _ _ q), fun A outer s H args us vs Q E hr he hb hv hs => F.run A outer s H args us vs Q E hr he hb hv (h _ _ _ _ hs)⟩

theorem Env0.make {P : Program} {w : World} {K : PySem.W.Frag} {mg : Str → Option Value} {base : Heap} {A : Around} {outer : List Env} {s : Shared} {H : Hp} (e : Env0 P w K mg base A outer s H) (C : Addr) (us : List Value) (kw : List (Str × Value)) :
    Env0 P w K mg base (A.under (.builtin "type.__call__" ⟨.ref C :: us, kw⟩)) outer s H := ⟨by first | exact e.frames | (simpa [Around.under, Code.envs, Code.isFrame, pushEnvs] using e.frames), e.mod, e.bs, e.bsz, e.funs, e.frf, e.hok, e.bare⟩
theorem Env0.in1 {P : Program} {w : World} {K : PySem.W.Frag} {mg : Str → Option Value} {base : Heap} {A : Around} {outer : List Env} {s : Shared} {H : Hp} (e : Env0 P w K mg base A outer s H) :
    Env0 P w K mg base A.in1 outer s H := ⟨e.frames, e.mod, e.bs, e.bsz, e.funs, e.frf, e.hok, e.bare⟩

section
variable {X : Cx} {pins : List (Addr × Obj)} {σ : St} {H : Hp} {s s' : Shared}
/-- from a body: what a callee wants -/
theorem Inv.env0 (I : Inv X pins σ H s) : Env0 X.prog X.w X.K X.mg X.base X.A X.stack s H :=
  ⟨I.ok.frames, I.ok.mod, I.bs, Nat.le_trans I.ok.bsz I.sz, I.stack, I.stkFree, I.hok, I.bare⟩
/-- behind a call -/
theorem Inv.after {Q : VK} {u : Value} (I : Inv X pins σ H s) (h : CE X.stack X.prog X.w H s Q u s') : EP X pins σ Q u s' := by
  obtain ⟨v, H', os, bare, un, hok, r, q⟩ := h
  obtain ⟨hh, g, d, t, os'⟩ := s'
  obtain rfl : os' = s.os := os
  exact ⟨v, H', I.call (h' := hh) (g' := g) (d' := d) (t' := t) (ch := []) un hok bare (fun b z => absurd z (by simp)), r, q⟩
end

/-! ### calls -/
/-- f(..): the written arguments, then the defaults dvs; E: what is wanted of an exception -/
def tCall (sp : Sp) (dvs : List V) (E : XK) (t : TA) : TE := fun σ H Q => t σ H fun vs H1 => sp (vs ++ dvs) H1 Q E
/-- o.m(..) of an instance of the class at C -/
def tMeth (C : Addr) (m : Str) (sp : Sp) (dvs : List V) (E : XK) (ta : TE) (t : TA) : TE := fun σ H Q => ta σ H fun x H1 => ∃ a dx fs, x = .ref a ∧ H1 a = some (.ins C dx fs) ∧ fs.lookup m = none ∧
  t σ H1 fun vs H2 => sp (x :: (vs ++ dvs)) H2 Q E
/-- C(..): a new instance and its dict, then __init__ -/
def tMake (C : Addr) (sp : Sp) (dvs : List V) (E : XK) (t : TA) : TE := fun σ H Q => t σ H fun vs H1 => ∀ x dx, H1 x = none → H1 dx = none → dx ≠ x →
  sp (.ref x :: (vs ++ dvs)) (upd (upd H1 dx (.own x)) x (.ins C dx [])) (fun v H2 => v = .non ∧ Q (.ref x) H2) E

/-- how the parameters are bound: us the positional arguments, kw the keywords' values by name, ds the defaults that fill up -/
def Binds (K : PySem.W.Frag) (fd : FuncData) (ps : List Str) (ds : List Value) : Prop :=
  ∀ (s : Shared) (us : List Value), K.In s.heap → (us ++ ds).length = ps.length → BindsTo s fd ⟨us, []⟩ (ps.zip (us ++ ds))
/-- every parameter is given -/
theorem Binds.all {K : PySem.W.Frag} {fd : FuncData} {ps : List Str} (h : ∀ us : List Value, us.length = ps.length → bindArgs fd ⟨us, []⟩ = pure (ps.zip us)) : Binds K fd ps [] := fun s us _ hl => by
  rw [List.append_nil] at hl ⊢
  exact .of_eq (h us hl)

/-- an exception of a callee reaches what this body wants of exceptions -/
def Passes (CX : CXT) (X : Cx) (E : XK) : Prop := ∀ (pins : List (Addr × Obj)) (σ : St) (H : Hp) (s : Shared) (e : Value) (s' : Shared), Inv X pins σ H s → CX X.stack H s E e s' → X.xe e s'

section
variable {X : Cx} {CX : CXT} {k : Nat} {f C : Addr} {fd : FuncData} {ps : List Str} {sp : Sp} {dvs : List V} {ds : List Value} {E : XK} {x m : Str} {p pos apos : Pos} {e o : Expr} {es : List Expr} {ta : TE} {t : TA}

/-- the callee runs -/
theorem run_fn {pins : List (Addr × Obj)} {σ : St} {H : Hp} {s : Shared} {Q : VK} {us : List Value} {vs : List V} (F : FnOk X.prog X.w X.K X.mg X.base CX k f fd ps sp) (hr : Room k X.A) (hb : Binds X.K fd ps ds) (hd : Vals dvs ds) (hx : Passes CX X E)
    (I : Inv X pins σ H s) (r : Vals vs us) (h : sp (vs ++ dvs) H Q E) : wpAny (model X.prog X.w) X.A (call (.ref f) us) (EP X pins σ Q) X.xe s := by
  have r2 : Vals (vs ++ dvs) (us ++ ds) := r.append hd
  have hl : (us ++ ds).length = ps.length := by rw [← r2.length]; exact F.len _ _ _ _ h
  refine wpAny_call (codeAny_mono (F.run X.A X.stack s H ⟨us, []⟩ (us ++ ds) (vs ++ dvs) Q E hr I.env0 (hb s us I.kIn hl) r2 h) fun r s' hq => ?_)
  cases r with
  | error e => exact hx pins σ H s e s' I hq
  | ok fl =>
    cases fl with
    | ret u => exact I.after hq
    | next => exact False.elim hq
    | brk => exact False.elim hq
    | cont => exact False.elim hq

theorem pe_call (F : FnOk X.prog X.w X.K X.mg X.base CX k f fd ps sp) (hr : Room k X.A) (hg : Gl X x) (hm : X.mg x = some (.ref f)) (hk : PySem.W.keepIn X.K (.ref f) = true) (hb : Binds X.K fd ps ds) (hd : Vals dvs ds) (hx : Passes CX X E)
    (ha : PA X (e :: es) t) (hdb : (x == ("__debug__" : Str)) = false := by decide) (he : starEach (e :: es) X.env = (false, eval e X.env) :: starEach es X.env := by rfl) (hpl : (backTo pos (starEach es X.env)).any (·.1) = false := by rfl) :
    PE X (.Call (.Name x p) (e :: es) [] pos) (tCall sp dvs E t) := by
  intro pins s σ H Q I h
  refine wpAny_Call_Name_kw (ld_glob I hg hm ?_ hdb)
  refine PySem.W.callWith_K (h₀ := X.base) I.ok.mod.kin hk (thn (ha pos pins s σ H _ I h) fun us s1 ⟨vs, H1, I1, r, q⟩ => ⟨I1.kIn, ?_⟩) he hpl
  exact run_fn F hr hb hd hx I1 r q
theorem pe_call0 (F : FnOk X.prog X.w X.K X.mg X.base CX k f fd ps sp) (hr : Room k X.A) (hg : Gl X x) (hm : X.mg x = some (.ref f)) (hk : PySem.W.keepIn X.K (.ref f) = true) (hb : Binds X.K fd ps ds) (hd : Vals dvs ds) (hx : Passes CX X E)
    (hdb : (x == ("__debug__" : Str)) = false := by decide) : PE X (.Call (.Name x p) [] [] pos) (tCall sp dvs E tNil) := by
  intro pins s σ H Q I h
  refine wpAny_Call_Name_kw (ld_glob I hg hm ?_ hdb)
  exact PySem.W.callWith_K0 I.kIn hk (run_fn (us := []) F hr hb hd hx I .nil h)

/-- o.m(e, ..) -/
theorem pe_meth {pl : Sem Bool} (he : PE X o ta) (c : Cls X.K C) (hm : Meth X.K C m f) (F : FnOk X.prog X.w X.K X.mg X.base CX k f fd ps sp) (hr : Room k X.A) (hb : Binds X.K fd ps ds) (hd : Vals dvs ds) (hx : Passes CX X E) (ha : PA X (e :: es) t)
    (hst : starEach (e :: es) X.env = (false, eval e X.env) :: starEach es X.env := by rfl) (hpl : (backTo pos (starEach es X.env)).any (·.1) = false := by rfl)
    (ht : eval (.Call (.Attribute o m apos) (e :: es) [] pos) X.env = (do
      let ov ← eval o X.env
      standAt apos.atName
      let (f, first) ← holding [ov] (getMethod ov m pl)
      callWith pos f first (backTo pos (starEach (e :: es) X.env)) (backToKw pos (keywordEach [] X.env))) := by rfl) :
    PE X (.Call (.Attribute o m apos) (e :: es) [] pos) (tMeth C m sp dvs E ta t) := by
  intro pins s σ H Q I h
  refine PySem.W.methodCall_KW (pl := pl) (thn (he pins s σ H _ I h) fun u s1 ⟨x, H1, I1, rx, a, dx, fs, ex, ea, l, q⟩ => ?_) ht
  subst ex
  obtain rfl : u = Value.ref a := rx
  refine getmeth_ok I1 ea c hm l ?_
  refine PySem.W.callWith_K (first := [.ref a]) (h₀ := X.base) I.ok.mod.kin hm.kp (thn (ha pos pins s1 σ H1 _ I1 q) fun us s2 ⟨vs, H2, I2, r, q2⟩ => ⟨I2.kIn, ?_⟩) hst hpl
  exact run_fn (us := .ref a :: us) (vs := .ref a :: vs) F hr hb hd hx I2 (.cons rfl r) q2
/-- o.m() -/
theorem pe_meth0 {pl : Sem Bool} (he : PE X o ta) (c : Cls X.K C) (hm : Meth X.K C m f) (F : FnOk X.prog X.w X.K X.mg X.base CX k f fd ps sp) (hr : Room k X.A) (hb : Binds X.K fd ps ds) (hd : Vals dvs ds) (hx : Passes CX X E)
    (ht : eval (.Call (.Attribute o m apos) [] [] pos) X.env = (do
      let ov ← eval o X.env
      standAt apos.atName
      let (f, first) ← holding [ov] (getMethod ov m pl)
      callWith pos f first (backTo pos (starEach [] X.env)) (backToKw pos (keywordEach [] X.env))) := by rfl) :
    PE X (.Call (.Attribute o m apos) [] [] pos) (tMeth C m sp dvs E ta tNil) := by
  intro pins s σ H Q I h
  refine PySem.W.methodCall_KW (pl := pl) (thn (he pins s σ H _ I h) fun u s1 ⟨x, H1, I1, rx, a, dx, fs, ex, ea, l, q⟩ => ?_) ht
  subst ex
  obtain rfl : u = Value.ref a := rx
  refine getmeth_ok I1 ea c hm l ?_
  exact PySem.W.callWith_K0 (first := [.ref a]) I1.kIn hm.kp (run_fn (us := [.ref a]) (vs := [.ref a]) F hr hb hd hx I1 (.cons rfl .nil) q)

/-- what a class must have to be made -/
structure Mk (K : PySem.W.Frag) (C f : Addr) : Prop where
  makes : PySem.W.makesIn K C = true
  init : PySem.W.findIn K (.ref C) "__init__" = some (some (.ref f))
  fn : PySem.W.isFn K (.ref f) = true
  kp : PySem.W.keepIn K (.ref C) = true

theorem run_make {pins : List (Addr × Obj)} {σ : St} {H : Hp} {s : Shared} {Q : VK} {us : List Value} {vs : List V} (M : Mk X.K C f) (F : FnOk X.prog X.w X.K X.mg X.base CX k f fd ps sp) (hr : Room (k + 1) X.A) (hb : Binds X.K fd ps ds) (hd : Vals dvs ds)
    (hx : Passes CX X E) (I : Inv X pins σ H s) (r : Vals vs us)
    (h : ∀ x dx, H x = none → H dx = none → dx ≠ x → sp (.ref x :: (vs ++ dvs)) (upd (upd H dx (.own x)) x (.ins C dx [])) (fun v H2 => v = .non ∧ Q (.ref x) H2) E) :
    wpAny (model X.prog X.w) X.A (call (.ref C) us) (EP X pins σ Q) X.xe s := by
  have hq := h (s.heap.objs.size + 1) s.heap.objs.size (I.hok.fresh (Nat.le_succ _)) (I.hok.fresh (Nat.le_refl _)) (Nat.ne_of_lt (Nat.lt_succ_self _))
  have I2 := Inv.made (C := C) I
  have r2 : Vals (V.ref (s.heap.objs.size + 1) :: (vs ++ dvs)) (Value.ref (s.heap.objs.size + 1) :: (us ++ ds)) := .cons rfl (r.append hd)
  have hl : (Value.ref (s.heap.objs.size + 1) :: us ++ ds).length = ps.length := by
    have e := r2.length
    rw [F.len _ _ _ _ hq] at e
    exact e.symm
  refine wpAny_call (make_map (f := f) I.kIn M.makes M.init (beq_iff_eq.mp M.fn) (codeAny_mono (F.run _ X.stack _ _ ⟨Value.ref (s.heap.objs.size + 1) :: us, []⟩ (Value.ref (s.heap.objs.size + 1) :: (us ++ ds)) _ _ E (hr.make C us [])
    (I2.env0.make C us []) (hb _ (Value.ref (s.heap.objs.size + 1) :: us) I2.kIn hl) r2 hq) fun r s' hq' => ?_))
  cases r with
  | error e => exact hx pins σ _ _ e s' I2 hq'
  | ok fl =>
    cases fl with
    | ret u =>
      obtain ⟨v, H', I3, rv, ev, q3⟩ := I2.after hq'
      subst ev
      exact ⟨rv, ⟨V.ref (s.heap.objs.size + 1), H', I3, rfl, q3⟩⟩
    | next => exact False.elim hq'
    | brk => exact False.elim hq'
    | cont => exact False.elim hq'
theorem pe_make (M : Mk X.K C f) (F : FnOk X.prog X.w X.K X.mg X.base CX k f fd ps sp) (hr : Room (k + 1) X.A) (hg : Gl X x) (hm : X.mg x = some (.ref C)) (hb : Binds X.K fd ps ds) (hd : Vals dvs ds) (hx : Passes CX X E)
    (ha : PA X (e :: es) t) (hdb : (x == ("__debug__" : Str)) = false := by decide) (he : starEach (e :: es) X.env = (false, eval e X.env) :: starEach es X.env := by rfl) (hpl : (backTo pos (starEach es X.env)).any (·.1) = false := by rfl) :
    PE X (.Call (.Name x p) (e :: es) [] pos) (tMake C sp dvs E t) := by
  intro pins s σ H Q I h
  refine wpAny_Call_Name_kw (ld_glob I hg hm ?_ hdb)
  refine PySem.W.callWith_K (h₀ := X.base) I.ok.mod.kin M.kp (thn (ha pos pins s σ H _ I h) fun us s1 ⟨vs, H1, I1, r, q⟩ => ⟨I1.kIn, ?_⟩) he hpl
  exact run_make M F hr hb hd hx I1 r q
theorem pe_make0 (M : Mk X.K C f) (F : FnOk X.prog X.w X.K X.mg X.base CX k f fd ps sp) (hr : Room (k + 1) X.A) (hg : Gl X x) (hm : X.mg x = some (.ref C)) (hb : Binds X.K fd ps ds) (hd : Vals dvs ds) (hx : Passes CX X E)
    (hdb : (x == ("__debug__" : Str)) = false := by decide) : PE X (.Call (.Name x p) [] [] pos) (tMake C sp dvs E tNil) := by
  intro pins s σ H Q I h
  refine wpAny_Call_Name_kw (ld_glob I hg hm ?_ hdb)
  exact PySem.W.callWith_K0 I.kIn M.kp (run_make (us := []) M F hr hb hd hx I .nil h)
end

/-! ### keywords -/
/-- the values of the keywords, from the left -/
def PK (X : Cx) (kws : List Keyword) (t : TA) : Prop :=
  ∀ (pos : Pos) (pins : List (Addr × Obj)) (s : Shared) (σ : St) (H : Hp) (Q : List V → Hp → Prop), Inv X pins σ H s → t σ H Q → wpAny (model X.prog X.w) X.A (evalAll ((backToKw pos (keywordEach kws X.env)).map (·.2))) (AP X pins σ Q) X.xe s
section
variable {X : Cx} {CX : CXT} {k : Nat} {f C : Addr} {fd : FuncData} {ps ks : List Str} {sp : Sp} {E : XK} {x m : Str} {p pos apos kpos : Pos} {e o : Expr} {es : List Expr} {kws : List Keyword} {te ta : TE} {t tk : TA} {nm : Option Str}
theorem pk_nil : PK X [] tNil := fun _ _ _ _ H Q I h => wpAny_evalAll_nil ⟨[], H, I, .nil, h⟩
theorem pk_cons (ha : PE X e te) (hr : PK X kws t) : PK X (⟨nm, e, kpos⟩ :: kws) (tCons te t) := by
  intro pos pins s σ H Q I h
  show wpAny _ _ (evalAll ((do let v ← eval e X.env; standAt pos; pure v) :: (backToKw pos (keywordEach kws X.env)).map (·.2))) _ _ s
  refine wpAny_evalAll_cons (wpAny_bind (thn (ha pins s σ H _ I h) fun u s1 ⟨x, H1, I1, r1, q1⟩ => wpAny_bind (wpAny_standAt (wpAny_pure ?_))))
  exact thn (hr pos pins s1 σ H1 _ I1 q1) fun us s2 ⟨xs, H2, I2, r2, q2⟩ => ⟨x :: xs, H2, I2, .cons r1 r2, q2⟩

/-- how a call with keywords binds: g puts the positional values us and the keywords' values ws (names ks) in the parameters' order, defaults among them -/
structure KBinds (K : PySem.W.Frag) (fd : FuncData) (ps ks : List Str) (g : List Value → List Value → List Value) (gV : List V → List V → List V) : Prop where
  to : ∀ (s : Shared) (us ws : List Value), K.In s.heap → (g us ws).length = ps.length → BindsTo s fd ⟨us, ks.zip ws⟩ (ps.zip (g us ws))
  rel : ∀ {vs : List V} {us : List Value} {zs : List V} {ws : List Value}, Vals vs us → Vals zs ws → Vals (gV vs zs) (g us ws)
def tCallK (sp : Sp) (gV : List V → List V → List V) (E : XK) (t tk : TA) : TE := fun σ H Q => t σ H fun vs H1 => tk σ H1 fun zs H2 => sp (gV vs zs) H2 Q E
variable {g : List Value → List Value → List Value} {gV : List V → List V → List V}
theorem run_fnk {pins : List (Addr × Obj)} {σ : St} {H : Hp} {s : Shared} {Q : VK} {us ws : List Value} {vs zs : List V} (F : FnOk X.prog X.w X.K X.mg X.base CX k f fd ps sp) (hr : Room k X.A) (hb : KBinds X.K fd ps ks g gV) (hx : Passes CX X E)
    (I : Inv X pins σ H s) (r : Vals vs us) (rz : Vals zs ws) (h : sp (gV vs zs) H Q E) : wpAny (model X.prog X.w) X.A (call (.ref f) us (ks.zip ws)) (EP X pins σ Q) X.xe s := by
  have r2 := hb.rel r rz
  have hl : (g us ws).length = ps.length := by rw [← r2.length]; exact F.len _ _ _ _ h
  refine wpAny_call (codeAny_mono (F.run X.A X.stack s H ⟨us, ks.zip ws⟩ (g us ws) (gV vs zs) Q E hr I.env0 (hb.to s us ws I.kIn hl) r2 h) fun r s' hq => ?_)
  cases r with
  | error e => exact hx pins σ H s e s' I hq
  | ok fl =>
    cases fl with
    | ret u => exact I.after hq
    | next => exact False.elim hq
    | brk => exact False.elim hq
    | cont => exact False.elim hq
/-- f(e, .., k = v, ..) -/
theorem pe_callK (F : FnOk X.prog X.w X.K X.mg X.base CX k f fd ps sp) (hr : Room k X.A) (hg : Gl X x) (hm : X.mg x = some (.ref f)) (hk : PySem.W.keepIn X.K (.ref f) = true) (hb : KBinds X.K fd ps ks g gV) (hx : Passes CX X E)
    (ha : PA X (e :: es) t) (hkw : PK X kws tk) (hall : (backToKw pos (keywordEach kws X.env)).all (·.1.isSome) = true := by rfl) (hks : (backToKw pos (keywordEach kws X.env)).filterMap (·.1) = ks := by rfl)
    (hdb : (x == ("__debug__" : Str)) = false := by decide) (he : starEach (e :: es) X.env = (false, eval e X.env) :: starEach es X.env := by rfl)
    (hpl : ((backTo pos (starEach (e :: es) X.env)).any (·.1) || (backToKw pos (keywordEach kws X.env)).any (·.1.isNone)) = false := by rfl) :
    PE X (.Call (.Name x p) (e :: es) kws pos) (tCallK sp gV E t tk) := by
  intro pins s σ H Q I h
  refine wpAny_Call_Name_kw (ld_glob I hg hm ?_ hdb)
  refine PySem.W.callWith_KW (h₀ := X.base) I.ok.mod.kin hk hall (thn (ha pos pins s σ H _ I h) fun us s1 ⟨vs, H1, I1, r, q⟩ => ?_) hpl he
  refine thn (hkw pos pins s1 σ H1 _ I1 q) fun ws s2 ⟨zs, H2, I2, rz, q2⟩ => ⟨I2.kIn, ?_⟩
  rw [hks]
  exact run_fnk F hr hb hx I2 r rz q2
end

/-! ### a def's body keeps its promise -/
/-- names: the parameters first -/
structure FnScope (N P : List Str) (sc : Scope) : Prop where
  kind : sc.kind = .function
  co : sc.isCoroutine = false
  gen : sc.isGenerator = false
  nd : N.Nodup
  pre : N.take P.length = P
  par : ∀ x ∈ P, sc.names.lookup x = some .local ∨ sc.names.lookup x = some .cell
  nofree : ∀ y ∈ sc.names, y.2 ≠ .free

theorem bindL_out {kindOf : Str → Option NameKind} {x : Str} : ∀ {binds : List (Str × Value)} {m : Str → Option Value}, (∀ v, (x, v) ∉ binds) → bindL kindOf binds m x = m x
  | [], _, _ => rfl
  | (n, v) :: r, m, h => by
    unfold bindL
    rw [bindL_out fun w hw => h w (List.mem_cons_of_mem _ hw)]
    split
    · have : x ≠ n := by rintro rfl; exact h v List.mem_cons_self
      simp [this]
    · rfl
theorem bindC_out {kindOf : Str → Option NameKind} {x : Str} : ∀ {binds : List (Str × Value)} {m : Str → Option Value}, (∀ v, (x, v) ∉ binds) → bindC kindOf binds m x = m x
  | [], _, _ => rfl
  | (n, v) :: r, m, h => by
    unfold bindC
    rw [bindC_out fun w hw => h w (List.mem_cons_of_mem _ hw)]
    split
    · rfl
    · have : x ≠ n := by rintro rfl; exact h v List.mem_cons_self
      simp [this]
theorem bindL_get {kindOf : Str → Option NameKind} {x : Str} {v : Value} : ∀ {P : List Str} {vs : List Value} {i : Nat} {m : Str → Option Value}, P.Nodup → P[i]? = some x → vs[i]? = some v → kindOf x = some .local →
    bindL kindOf (P.zip vs) m x = some v
  | [], _, _, _, _, h, _, _ => by simp at h
  | _ :: _, [], _, _, _, _, h, _ => by simp at h
  | p :: P, w :: vs, 0, m, nd, h1, h2, hk => by
    simp at h1 h2; subst h1; subst h2
    show bindL kindOf ((p, w) :: P.zip vs) m p = _
    unfold bindL
    rw [bindL_out fun v hv => (List.nodup_cons.mp nd).1 (List.of_mem_zip hv).1, if_pos hk]
    simp
  | p :: P, w :: vs, i + 1, m, nd, h1, h2, hk => by
    show bindL kindOf ((p, w) :: P.zip vs) m x = _
    unfold bindL
    exact bindL_get (i := i) (List.nodup_cons.mp nd).2 (by simpa using h1) (by simpa using h2) hk
theorem bindC_get {kindOf : Str → Option NameKind} {x : Str} {v : Value} : ∀ {P : List Str} {vs : List Value} {i : Nat} {m : Str → Option Value}, P.Nodup → P[i]? = some x → vs[i]? = some v → kindOf x ≠ some .local →
    bindC kindOf (P.zip vs) m x = some v
  | [], _, _, _, _, h, _, _ => by simp at h
  | _ :: _, [], _, _, _, _, h, _ => by simp at h
  | p :: P, w :: vs, 0, m, nd, h1, h2, hk => by
    simp at h1 h2; subst h1; subst h2
    show bindC kindOf ((p, w) :: P.zip vs) m p = _
    unfold bindC
    rw [bindC_out fun v hv => (List.nodup_cons.mp nd).1 (List.of_mem_zip hv).1, if_neg hk]
    simp
  | p :: P, w :: vs, i + 1, m, nd, h1, h2, hk => by
    show bindC kindOf ((p, w) :: P.zip vs) m x = _
    unfold bindC
    exact bindC_get (i := i) (List.nodup_cons.mp nd).2 (by simpa using h1) (by simpa using h2) hk

/-- the names' values at the entry -/
def start (N : List Str) (vs : List V) : St := vs.map some ++ List.replicate (N.length - vs.length) none

/-- the context of a def's body, at its entry; an exception leaves the frame, then lies as CX says -/
def cxOf (CX : CXT) (P : Program) (w : World) (K : PySem.W.Frag) (mg : Str → Option Value) (base : Heap) (N : List Str) (qual : Str) (scope : Scope) (f : Addr) (cd : Value) (A : Around) (outer : List Env) (s : Shared) (H : Hp) (E : XK) : Cx where
  prog := P
  w := w
  K := K
  mg := mg
  base := base
  A := A.deeper (envOfC qual scope s.heap.objs.size f cd)
  N := N
  s₀ := s
  H₀ := H
  env := envOfC qual scope s.heap.objs.size f cd
  outer := outer
  stack := envOfC qual scope s.heap.objs.size f cd :: outer
  ex := []
  calm := true
  fn := fun _ => true
  pn := []
  xe := fun e s' => wpAny (model P w) (A.deeper (envOfC qual scope s.heap.objs.size f cd)) (leaving (envOfC qual scope s.heap.objs.size f cd) e) (fun _ s'' => CX outer H s E e s'') (fun e' s'' => CX outer H s E e' s'') s'

theorem cell_has {sc : Scope} {n : Nat} {x : Str} (h : sc.names.lookup x = some .cell) : ∃ c, (cellsFrom n sc.names []).lookup x = some c := by
  have q := PySem.W.cellsFrom_some sc.names n [] (.inl h)
  exact Option.isSome_iff_exists.mp q

theorem inv_start {CX : CXT} {P : Program} {w : World} {K : PySem.W.Frag} {mg : Str → Option Value} {base : Heap} {N ps : List Str} {qual : Str} {scope : Scope} {f : Addr} {cd : Value} {A : Around} {outer : List Env} {s s1 : Shared} {H : Hp} {E : XK} {us : List Value} {vs : List V}
    (S : FnScope N ps scope) (hd : A.handled = none) (e0 : Env0 P w K mg base A outer s H) (hl : vs.length = ps.length) (r : Vals vs us)
    (x : InCallC s s.heap.objs.size (bindL (envOfC qual scope s.heap.objs.size f cd).kindOf (ps.zip us) fun _ => none) (cellsFrom (s.heap.objs.size + 1) scope.names []) (bindC (envOfC qual scope s.heap.objs.size f cd).kindOf (ps.zip us) fun _ => none) s1) :
    Inv (cxOf CX P w K mg base N qual scope f cd A outer s H E) [] (start N vs) H s1 := by
  have hpl : ps.length ≤ N.length := by have := congrArg List.length S.pre; rw [List.length_take] at this; omega
  obtain ⟨h1, tk, rfl, hk⟩ := x.done
  have noA : ∀ b : Addr, b ∉ (cxOf CX P w K mg base N qual scope f cd A outer s H E).ex := fun b z => absurd (show b ∈ ([] : List Addr) from z) (by simp)
  refine ⟨⟨e0.mod, S.kind, rfl, rfl, Nat.le_refl _, fun y z c h1 h2 => ?_, fun y hy => ?_, fun y c _ h => ?_, fun _ => hd, Around.frames_deeper e0.frames, .inr ⟨rfl, rfl⟩, fun b z => absurd z (noA b), e0.bs, e0.bsz, fun b _ _ => noA b, fun b z => absurd z (noA b), e0.funs, e0.frf⟩,
    rfl, e0.bare, Un.kept hk, ⟨_, x.toInCall.ns, fun i y v h1 h2 h3 => ?_⟩, fun y c h => ⟨_, x.cell y c h⟩, e0.hok.fresh (Nat.le_refl _), fun y c h => ?_, fun p hp => absurd (show p ∈ ([] : List (Addr × Obj)) from hp) (by simp), e0.hok.kept hk, ?_⟩
  · exact name_of_addr x.apart (PySem.mem_of_lookup h1) (PySem.mem_of_lookup h2)
  · have hy : scope.names.lookup y = some .cell ∨ scope.names.lookup y = some .free := hy
    rcases hy with hy | hy
    · exact cell_has hy
    · exact absurd rfl (S.nofree _ (PySem.mem_of_lookup hy))
  · exact Nat.le_of_lt (x.above y c (PySem.mem_of_lookup h))
  · have hi : i < vs.length := by
      unfold start at h2
      by_cases hi : i < vs.length
      · exact hi
      · rw [List.getElem?_append_right (by simpa using hi)] at h2
        rw [List.getElem?_replicate] at h2
        split at h2 <;> cases h2
    have ha : vs[i]? = some v := by
      unfold start at h2
      rw [List.getElem?_append_left (by simpa using hi), List.getElem?_map] at h2
      cases e : vs[i]? with
      | none => rw [e] at h2; cases h2
      | some a => rw [e] at h2; cases h2; rfl
    obtain ⟨u, hu, rv⟩ := r.get ha
    have hp : ps[i]? = some y := by
      rw [← S.pre, List.getElem?_take_of_lt (by omega)]; exact h1
    have ndP : ps.Nodup := by rw [← S.pre]; exact S.nd.sublist (List.take_sublist _ _)
    refine ⟨u, rv, ?_⟩
    rcases S.par y (List.mem_of_getElem? hp) with k | k
    · exact .inl ⟨k, bindL_get ndP hp hu k⟩
    · obtain ⟨c, e⟩ := cell_has (n := s.heap.objs.size + 1) k
      refine .inr ⟨.inl k, c, e, ?_⟩
      have q := x.cell y c e
      rw [bindC_get ndP hp hu (by show scope.names.lookup y ≠ _; rw [k]; decide)] at q
      exact q
  · exact e0.hok.fresh (Nat.le_of_lt (x.above y c (PySem.mem_of_lookup h)))
  · unfold start
    show _ = N.length
    rw [List.length_append, List.length_map, List.length_replicate]
    omega

/-- THE RULE: a def (or a method) of the text, by its body. The body's reading t is chosen for each entry; it is run at the parameters' values -/
theorem fn_of {CX : CXT} {P : Program} {w : World} {K : PySem.W.Frag} {mg : Str → Option Value} {base : Heap} {k : Nat} {f : Addr} {name qual : Str} {params : Arguments} {body : List Stmt} {scope : Scope} {dV kV doc pm cdv ct oc : Value} {an od : Option Addr}
    {osl : Array (Option Value)} {N ps : List Str} {sp : Sp} (lk : K.lookup f = some ⟨oc, od, .func (PySem.W.fnOf name qual params body scope dV kV doc pm an cdv ct), osl⟩) (hcd : PySem.W.codeIn K cdv qual = true) (S : FnScope N ps scope)
    (len : ∀ vs H Q E, sp vs H Q E → vs.length = ps.length)
    (hbody : ∀ (A : Around) (outer : List Env) (s : Shared) (H : Hp) (vs : List V) (Q : VK) (E : XK), Room k (A.deeper (envOfC qual scope s.heap.objs.size f cdv)) → sp vs H Q E →
      ∃ t, PSs (cxOf CX P w K mg base N qual scope f cdv A outer s H E) body t ∧ t { nx := fun _ H' => Q .non H', rt := Q } (start N vs) H) :
    FnOk P w K mg base CX (k + 1) f (PySem.W.fnOf name qual params body scope dV kV doc pm an cdv ct) ps sp := by
  refine ⟨len, fun A outer s H args us vs Q E hr e0 hb r hsp => ?_⟩
  have hl := len _ _ _ _ hsp
  have KX : K.In s.heap := e0.mod.kin.keeps fun b o e => (e0.bs b o e).1
  have lim : s.heap.NoLimit := e0.mod.nolimit.keeps fun b o e => (e0.bs b o e).1
  have hkind : ∀ y ∈ ps.zip us, scope.names.lookup y.1 = some .local ∨ (scope.names.lookup y.1 = some .cell ∧ ((cellsFrom (s.heap.objs.size + 1) scope.names []).lookup y.1).isSome = true) := fun ⟨n, v⟩ hy => by
    rcases S.par n (List.of_mem_zip hy).1 with q | q
    · exact .inl q
    · exact .inr ⟨q, PySem.W.cellsFrom_some _ _ _ (.inl q)⟩
  refine codeAny_call_function hr.depth (KX _ _ lk) rfl S.co S.gen rfl (PySem.W.codeRec_of KX hcd) (hb _ _ _ _ ?_)
  refine wpAny_newFunctionEnv_cells S.kind hkind fun env he s1 x => ?_
  subst he
  refine ⟨lim.keeps x.toInCall.keep, codeAny_func ?_⟩
  obtain ⟨t, ht, hq⟩ := hbody A outer s H vs Q E (hr.deeper _) hsp
  have I : Inv (cxOf CX P w K mg base N qual scope f cdv A outer s H E) [] (start N vs) H s1 := inv_start S hr.hd e0 hl r x
  refine wpAny_mono (ht [] s1 (start N vs) H _ I hq) (fun fl s' hs => ?_) fun e s' hs => hs
  have fin : ∀ {σ' : St} {H' : Hp} {v : V} {u : Value}, Inv (cxOf CX P w K mg base N qual scope f cdv A outer s H E) [] σ' H' s' → RelV v u → Q v H' → CE outer P w H s Q u s' :=
    fun {σ' H' v u} J rv q => ⟨v, H', J.os, J.bare, J.base, J.hok, rv, q⟩
  cases fl with
  | ret u =>
    obtain ⟨v, σ', H', J, rv, q⟩ := hs
    exact fin J rv q
  | next =>
    obtain ⟨σ', H', J, q⟩ := hs
    exact fin (v := V.non) (u := Value.none) J rfl q
  | brk =>
    obtain ⟨_, _, _, q⟩ := hs
    exact False.elim q
  | cont =>
    obtain ⟨_, _, _, q⟩ := hs
    exact False.elim q
end L2

namespace L2
open PySem PySem.Spec PyProof.Rows
section
variable {X : Cx} {x : Str} {p pos : Pos} {e : Expr} {es : List Expr} {t : TA} {id T : String} {r : List V → Hp → VK → Prop}

def tCB (r : List V → Hp → VK → Prop) (t : TA) : TE := fun σ H Q => t σ H fun vs H1 => r vs H1 Q
/-- f(e, ..), f a built-in function -/
theorem pe_callB (hc : CallR X (.builtin id) r) (hg : Gl X x) (hm : X.mg x = none) (hv : bootBuiltins x = some (.builtin id)) (ha : PA X (e :: es) t) (hn : x ≠ "__name__" := by decide) (hdb : (x == ("__debug__" : Str)) = false := by decide)
    (he : starEach (e :: es) X.env = (false, eval e X.env) :: starEach es X.env := by rfl) (hpl : (backTo pos (starEach es X.env)).any (·.1) = false := by rfl) : PE X (.Call (.Name x p) (e :: es) [] pos) (tCB r t) := by
  intro pins s σ H Q I h
  refine wpAny_Call_Name_kw (ld_blt I hg hm hv ?_ hn hdb)
  exact PyProof.Rows.callWith_builtin1 (thn (ha pos pins s σ H _ I h) fun us s1 ⟨vs, H1, I1, r1, q1⟩ => hc pins s1 σ H1 vs us Q I1 r1 q1) he hpl
/-- T(e, ..), T a built-in type -/
theorem pe_callTy (hc : CallR X (.type T) r) (hg : Gl X x) (hm : X.mg x = none) (hv : bootBuiltins x = some (.type T)) (ha : PA X (e :: es) t) (hn : x ≠ "__name__" := by decide) (hdb : (x == ("__debug__" : Str)) = false := by decide)
    (he : starEach (e :: es) X.env = (false, eval e X.env) :: starEach es X.env := by rfl) (hpl : (backTo pos (starEach es X.env)).any (·.1) = false := by rfl) : PE X (.Call (.Name x p) (e :: es) [] pos) (tCB r t) := by
  intro pins s σ H Q I h
  refine wpAny_Call_Name_kw (ld_blt I hg hm hv ?_ hn hdb)
  exact PyProof.Rows.callWith_type1 (thn (ha pos pins s σ H _ I h) fun us s1 ⟨vs, H1, I1, r1, q1⟩ => hc pins s1 σ H1 vs us Q I1 r1 q1) he hpl
/-- T() -/
theorem pe_callTy0 (hc : CallR X (.type T) r) (hg : Gl X x) (hm : X.mg x = none) (hv : bootBuiltins x = some (.type T)) (hn : x ≠ "__name__" := by decide) (hdb : (x == ("__debug__" : Str)) = false := by decide) :
    PE X (.Call (.Name x p) [] [] pos) (tCB r tNil) := by
  intro pins s σ H Q I h
  refine wpAny_Call_Name_kw (ld_blt I hg hm hv ?_ hn hdb)
  exact PyProof.Rows.callWith_type0 (hc pins s σ H [] [] Q I .nil h)
end
end L2

namespace HT
open PySem PyProof.Rows

/-- t < u of tuples of ints -/
def lexLt : List Int → List Int → Bool
  | [], [] => false
  | [], _ :: _ => true
  | _ :: _, [] => false
  | x :: xs, y :: ys => if x = y then lexLt xs ys else decide (x < y)
theorem lexLt_cons (x y : Int) (xs ys : List Int) : lexLt (x :: xs) (y :: ys) = if x = y then lexLt xs ys else decide (x < y) := rfl
theorem lexLt_nil_nil : lexLt [] [] = false := rfl
theorem lexLt_nil_cons (y : Int) (ys : List Int) : lexLt [] (y :: ys) = true := rfl
theorem lexLt_cons_nil (x : Int) (xs : List Int) : lexLt (x :: xs) [] = false := rfl

theorem eqAt_int (A : Around) (s : Shared) (a : Int) (t : Tok) (c : Int) (u : Tok) : ∃ e, SeqAt.EqAt A s (.int a t) (.int c u) e ∧ (e = true ↔ a = c) :=
  ⟨(a == c), SeqAt.EqAt.int_int a t c u, by simp⟩
theorem rcLt_int (A : Around) (s : Shared) (a : Int) (t : Tok) (c : Int) (u : Tok) (prog : Program) (w : World) (E : Value → Shared → Prop) (Q : Value → Shared → Prop) (h : Q (.bool (decide (a < c))) s) :
    wpAny (model prog w) A (richCompare .Lt (.int a t) (.int c u)) Q E s :=
  (PyProof.Rows.lt_int h : wpAny (model prog w) A (compareOp .Lt (.int a t) (.int c u)) Q E s)

section
open PySem.SeqAt
open PySem.AutoSeq1 (wpAny_loadPart')
open PySem.MeetsSeq PySem.MeetsSeq2 PySem.MeetsSeq3

theorem tuple_lt_ints (l b : Addr) (items items2 : Array Value) (n n2 : Nat) (dd dd2 : Option Addr) (sl sl2 : Array (Option Value)) (ns ms : List Int) (hi : IntsAre items.toList ns) (hj : IntsAre items2.toList ms) :
    Meets (Builtin.«tuple.__lt__» ⟨[.ref l, .ref b], []⟩)
      (fun _ R s => s.heap.get? l = some { cls := .type "tuple", dict := dd, data := .seq items n, slots := sl } ∧ s.heap.get? b = some { cls := .type "tuple", dict := dd2, data := .seq items2 n2, slots := sl2 } ∧
        R (.ok (.ret (.bool (lexLt ns ms)))) s) :=
  .of_wp fun prog w A R s h => by
    obtain ⟨hp, g, d, tk, os⟩ := s; obtain ⟨hl, hb, h⟩ := h
    have f2 := AutoSeq1.sub_tuple_tuple
    have z1 : items.size = ns.length := by rw [← hi.length]; simp
    have z2 : items2.size = ms.length := by rw [← hj.length]; simp
    wp_walk using wpAny_loadPart' hl, wpAny_loadPart' hb, wpAny_forIn_list _ (fun rest b s' => b.1 = none ∧ s' = ⟨hp, g, d, tk, os⟩ ∧ ∃ (vs ws : List Value) (ns' ms' : List Int), rest = vs.zip ws ∧
      IntsAre vs ns' ∧ IntsAre ws ms' ∧ ns'.length + items2.size = ms'.length + items.size ∧ R (.ok (.ret (.bool (lexLt ns' ms')))) ⟨hp, g, d, tk, os⟩) _
    case turn =>
      rintro ⟨y, x⟩ rest b s' ⟨hb', rfl, vs, ws, ns', ms', hz, hvi, hwi, hlen, hR⟩
      cases hvi with
      | nil => rw [List.zip_nil_left] at hz; cases hz
      | cons a t hvi' =>
        cases hwi with
        | nil => rw [List.zip_nil_right] at hz; cases hz
        | cons c u hwi' =>
          rw [List.zip_cons_cons] at hz
          injection hz with hyx hrest
          injection hyx with hy hx
          subst hy hx
          rw [lexLt_cons] at hR
          simp only [List.length_cons] at hlen
          obtain ⟨e, he, hiff⟩ := eqAt_int A.in1 ⟨hp, g, d, tk, os⟩ a t c u
          refine wpAny_bind (he prog w _ _ ?_)
          cases e with
          | true =>
            rw [if_pos (hiff.mp rfl)] at hR
            wp_walk
            exact ⟨rfl, rfl, _, _, _, _, hrest, hvi', hwi', by omega, hR⟩
          | false =>
            rw [if_neg (fun q => absurd (hiff.mpr q) Bool.false_ne_true)] at hR
            have hri := rcLt_int A.in1 ⟨hp, g, d, tk, os⟩ a t c u prog w
            wp_walk using hri
            exact ⟨_, rfl, by simpa using hR⟩
    case fin =>
      rintro ⟨b1, b2⟩ s' ⟨hb', rfl, vs, ws, ns', ms', hz, hvi, hwi, hlen, hR⟩
      simp only at hb'
      subst hb'
      have hv : lexLt ns' ms' = decide (items.size < items2.size) := by
        cases hvi with
        | nil =>
          cases hwi with
          | nil =>
            simp only [List.length_nil] at hlen
            rw [lexLt_nil_nil]
            exact (decide_eq_false (by omega)).symm
          | cons c u hw =>
            simp only [List.length_nil, List.length_cons] at hlen
            rw [lexLt_nil_cons]
            exact (decide_eq_true (by omega)).symm
        | cons a t hv =>
          cases hwi with
          | nil =>
            simp only [List.length_nil, List.length_cons] at hlen
            rw [lexLt_cons_nil]
            exact (decide_eq_false (by omega)).symm
          | cons c u hw =>
            rw [List.zip_cons_cons] at hz
            cases hz
      rw [hv] at hR
      wp_walk
      exact ⟨_, rfl, by simpa [Builtin.Tuple.tupleCompareSizes] using hR⟩
    case h =>
      exact ⟨rfl, rfl, items.toList, items2.toList, ns, ms, rfl, hi, hj, by omega, h⟩
end

section
variable {prog : Program} {w : World} {A : Around} {E : Value → Shared → Prop} {s : Shared}

theorem lt_tupInts {l b : Addr} {items items2 : Array Value} {ns ms : List Int} {Q : Value → Shared → Prop} (hl : IsTup s.heap l items) (hb : IsTup s.heap b items2) (hi : IntsAre items.toList ns) (hj : IntsAre items2.toList ms)
    (hu : A.units < cLine) (h : Q (.bool (lexLt ns ms)) s) : wpAny (model prog w) A (compareOp .Lt (.ref l) (.ref b)) Q E s := by
  obtain ⟨⟨cls, dd, data, sl⟩, ho, hc, n, hd⟩ := id hl
  obtain ⟨⟨cls2, dd2, data2, sl2⟩, ho2, hc2, n2, hd2⟩ := id hb
  simp only at hc hd hc2 hd2
  subst hc hd hc2 hd2
  exact richCompare_meets_room (op := .Lt) ⟨_, ho, rfl⟩ ⟨_, ho2, rfl⟩ PySem.F.slot_tuple_lt PySem.F.entry_tuple_lt (PySem.F.args_tuple_lt_2 _ _) (tuple_lt_ints l b items items2 n n2 dd dd2 sl sl2 ns ms hi hj)
    ⟨ho, ho2, show Value.bool (lexLt ns ms) ≠ Value.notImplemented ∧ Q (.bool (lexLt ns ms)) s from ⟨(fun x => nomatch x), h⟩⟩ hu

/-- t + u, t not empty -/
theorem cat_tup {t b : Addr} {vs ws : List Value} {Q : Value → Shared → Prop} (ht : IsTup s.heap t vs.toArray) (hb : IsTup s.heap b ws.toArray) (hv : vs ≠ [])
    (h1 : ws = [] → Q (.ref t) s) (h2 : ws ≠ [] → Q (.ref s.heap.objs.size) { s with heap := s.heap.push { cls := .type "tuple", data := .seq (vs ++ ws).toArray } })
    (hsz : vs.length + ws.length ≤ sizeLine) : wpAny (model prog w) A (binaryOp .Add (.ref t) (.ref b)) Q E s := by
  obtain ⟨⟨cls, dd, data, sl⟩, ho, hc, n, hd⟩ := id ht
  obtain ⟨⟨cls2, dd2, data2, sl2⟩, ho2, hc2, n2, hd2⟩ := id hb
  simp only at hc hd hc2 hd2
  subst hc hd hc2 hd2
  have e : vs.toArray ++ ws.toArray = (vs ++ ws).toArray := by simp
  by_cases hw : ws = []
  · exact concat_meets ⟨_, ho, rfl⟩ ⟨_, ho2, rfl⟩ noFill_tuple_add seq_tuple_add PySem.F.slot_tuple_add PySem.F.entry_tuple_add (PySem.F.args_tuple_add_2 _ _)
      (tuple_addW1 t b vs.toArray ws.toArray n n2 dd dd2 sl sl2 (by simpa using hv) (by simp [hw])) ⟨ho, ho2, h1 hw⟩
  · refine concat_meets ⟨_, ho, rfl⟩ ⟨_, ho2, rfl⟩ noFill_tuple_add seq_tuple_add PySem.F.slot_tuple_add PySem.F.entry_tuple_add (PySem.F.args_tuple_add_2 _ _)
      (tuple_addW2 t b vs.toArray ws.toArray n n2 dd dd2 sl sl2 (by simpa using hv) (by simpa using hw) (by rw [List.size_toArray, List.size_toArray]; exact hsz)) ⟨ho, ho2, ?_⟩
    rw [e]
    exact h2 hw

/-! ### t[a:b], not the whole -/
/-- a slice's bound as a place among n (d where it is left out) -/
def sIx (n d : Nat) : Option Int → Nat
  | none => d
  | some v => if v < 0 then (v + (n : Int)).toNat else min v.toNat n
theorem sIx_none (n d : Nat) : sIx n d none = d := rfl
theorem sIx_nat (n d k : Nat) : sIx n d (some (k : Int)) = min k n := by
  show (if (k : Int) < 0 then ((k : Int) + (n : Int)).toNat else min (k : Int).toNat n) = min k n
  rw [if_neg (by omega), Int.toNat_natCast]
theorem sIx_le (n d : Nat) (hd : d ≤ n) (o : Option Int) : sIx n d o ≤ n := by
  cases o with
  | none => exact hd
  | some v =>
    show (if v < 0 then (v + (n : Int)).toNat else min v.toNat n) ≤ n
    by_cases hv : v < 0
    · rw [if_pos hv]; omega
    · rw [if_neg hv]; exact Nat.min_le_right _ _
theorem clip_eq (v : Int) (n d : Nat) : (if v < 0 then max (v + (n : Int)) 0 else min v (n : Int)) = ((sIx n d (some v) : Nat) : Int) := by
  show (if v < 0 then max (v + (n : Int)) 0 else min v (n : Int)) = (((if v < 0 then (v + (n : Int)).toNat else min v.toNat n) : Nat) : Int)
  by_cases hv : v < 0
  · simp only [if_pos hv]; omega
  · simp only [if_neg hv]; omega
theorem adjust_gen (lo hi : Option Int) (n : Nat) : Builtin.Slice.sliceAdjust lo hi 1 (n : Int) = (((sIx n 0 lo : Nat) : Int), ((sIx n n hi : Nat) : Int)) := by
  have h1 : ¬ ((1 : Int) < 0) := by omega
  unfold Builtin.Slice.sliceAdjust
  simp only [h1, if_false]
  refine Prod.ext ?_ ?_
  · cases lo with
    | none => rfl
    | some v => exact clip_eq v n 0
  · cases hi with
    | none => rfl
    | some v => exact clip_eq v n n
theorem places_gen (i j : Nat) : Builtin.Slice.slicePlaces (i : Int) (j : Int) 1 = j - i := by
  unfold Builtin.Slice.slicePlaces
  have h1 : (1 : Int) > 0 := by omega
  simp only [h1, if_true, Int.ediv_one]
  split <;> omega
theorem slicePart_ {v : Value} {o : Option Int} {Q : Option Int → Shared → Prop} (p : IsPart v o) (h : Q o s) : wpAny (model prog w) A (Builtin.Slice.slicePartIndex v) Q E s := by
  cases p with
  | none => exact slicePart_none h
  | int i t => exact slicePart_int h
theorem sliceApplied_gen {sl : Addr} {vl vu : Value} {lo hi : Option Int} {n : Nat} {Q : Int × Int × Nat → Shared → Prop} (hs : s.heap.IsSliceOf sl vl vu .none) (pl : IsPart vl lo) (pu : IsPart vu hi)
    (h : Q (((sIx n 0 lo : Nat) : Int), 1, sIx n n hi - sIx n 0 lo) s) : wpAny (model prog w) A (Builtin.Slice.sliceApplied (.ref sl) (pure (n : Int))) Q E s := by
  obtain ⟨os, hos, hcs, hds⟩ := id hs
  unfold Builtin.Slice.sliceApplied Builtin.Slice.sliceFields
  refine wpAny_bind (wpAny_bind (wpAny_field hos hds (x := vl) rfl (wpAny_bind (wpAny_field hos hds (x := vu) rfl (wpAny_bind (wpAny_field hos hds (x := .none) rfl (wpAny_pure ?_)))))))
  refine wpAny_bind (slicePart_none ?_)
  show wpAny _ _ (if ((1 : Int) == 0) = true then _ else _) _ _ s
  rw [if_neg (by decide)]
  refine wpAny_bind (slicePart_ pl (wpAny_bind (slicePart_ pu (wpAny_bind (wpAny_pure ?_)))))
  show wpAny _ _ (match Builtin.Slice.sliceAdjust lo hi 1 (n : Int) with | (lo, hi) => pure (lo, (1 : Int), Builtin.Slice.slicePlaces lo hi 1)) _ _ s
  rw [adjust_gen lo hi n]
  show wpAny _ _ (pure (((sIx n 0 lo : Nat) : Int), (1 : Int), Builtin.Slice.slicePlaces ((sIx n 0 lo : Nat) : Int) ((sIx n n hi : Nat) : Int) 1)) _ _ s
  rw [places_gen]
  exact wpAny_pure h
theorem pick_gen (xs : Array Value) (i k : Nat) : ((List.range k).filterMap fun (m : Nat) => xs[((i : Int) + (m : Int) * 1).toNat]?).toArray = ((xs.toList.drop i).take k).toArray := by
  have e : (fun (m : Nat) => xs[((i : Int) + (m : Int) * 1).toNat]?) = fun m => xs[i + m]? := by
    funext m
    have : ((i : Int) + (m : Int) * 1).toNat = i + m := by omega
    rw [this]
  rw [e]
  have := pick_run xs i k
  rw [List.filterMap_map] at this
  have e2 : ((fun x => xs[x]?) ∘ fun x => i + x) = fun m => xs[i + m]? := rfl
  rw [e2] at this
  rw [this]

theorem getItem_tuple_cut {t sl : Addr} {items : Array Value} {vl vu : Value} {lo hi : Option Int} {Q : Value → Shared → Prop} (ht : IsTup s.heap t items) (hs : s.heap.IsSliceOf sl vl vu .none) (pl : IsPart vl lo) (pu : IsPart vu hi)
    (hw : ¬ (sIx items.size 0 lo = 0 ∧ sIx items.size items.size hi = items.size))
    (h : Q (.ref s.heap.objs.size) { s with heap := s.heap.push { cls := .type "tuple", data := .seq ((items.toList.drop (sIx items.size 0 lo)).take (sIx items.size items.size hi - sIx items.size 0 lo)).toArray } })
    (hsz : items.size ≤ sizeLine) : wpAny (model prog w) A (getItem (.ref t) (.ref sl)) Q E s := by
  have htake : sizeOk (.seq ((items.toList.drop (sIx items.size 0 lo)).take (sIx items.size items.size hi - sIx items.size 0 lo)).toArray) := by
    show ((items.toList.drop (sIx items.size 0 lo)).take (sIx items.size items.size hi - sIx items.size 0 lo)).toArray.size ≤ sizeLine
    rw [List.size_toArray, List.length_take, List.length_drop, Array.length_toList]
    omega
  have hj : sIx items.size items.size hi ≤ items.size := sIx_le _ _ (Nat.le_refl _) hi
  obtain ⟨os, hos, hcs, hds⟩ := id hs
  have hTs : s.TypeIs (.ref sl) "slice" := ⟨os, hos, hcs⟩
  unfold getItem
  try with_reducible refine wpAny_holding ?_
  first | refine wpAny_bind (wpAny_pure ?_) | skip
  refine wpAny_bind (wpAny_sequenceKey ht.typeIs (by decide) ?_)
  refine wpAny_bind (wpAny_callSpecial?_slot (name := Str.ofString "__getitem__") ht.typeIs PyProof.Rows.slot_tuple_getitem
    (wpAny_call_entry PyProof.Rows.slot_tuple_getitem ht.typeIs entry_tuple_getitem ?_ (args_tuple_getitem _ _)))
  show wpAny _ _ (Builtin.Tuple.tupleItemsOf (.ref t) >>= _) _ _ s
  refine wpAny_bind (tupleItemsOf_ ht ?_)
  refine wpAny_bind (wpAny_typeOf hTs ?_)
  rw [if_pos (by decide)]
  refine wpAny_bind (sliceApplied_gen hs pl pu ?_)
  have hno : ¬ ((((sIx items.size 0 lo : Nat) : Int) == 0 && (1 : Int) == 1 && (sIx items.size items.size hi - sIx items.size 0 lo) == items.size) = true) := by
    intro q
    rw [Bool.and_eq_true, Bool.and_eq_true] at q
    have q1 : ((sIx items.size 0 lo : Nat) : Int) = 0 := eq_of_beq q.1.1
    have q2 : sIx items.size items.size hi - sIx items.size 0 lo = items.size := eq_of_beq q.2
    exact hw ⟨by omega, by omega⟩
  show wpAny _ _ (if (((sIx items.size 0 lo : Nat) : Int) == 0 && (1 : Int) == 1 && (sIx items.size items.size hi - sIx items.size 0 lo) == items.size) = true then _ else _) _ _ s
  rw [if_neg hno, pick_gen]
  first
    | exact wpAny_bind (m := Builtin.Tuple.tupleExact _) (wpAny_newObj_type (wpAny_pure ⟨_, rfl, wpAny_pure h⟩) htake)
    | exact wpAny_bind (m := Builtin.Tuple.tupleExact _) (wpAny_newObj_type (wpAny_bind (wpAny_pure (wpAny_pure ⟨_, rfl, wpAny_pure h⟩))) htake)
    | exact wpAny_bind (wpAny_bind (m := Builtin.Tuple.tupleExact _) (wpAny_newObj_type (wpAny_pure (wpAny_pure ⟨_, rfl, wpAny_pure h⟩)) htake))
    | exact wpAny_bind (wpAny_bind (m := Builtin.Tuple.tupleExact _) (wpAny_newObj_type (wpAny_pure ⟨_, rfl, wpAny_pure h⟩) htake))
end
end HT

namespace L2
open PySem PySem.Spec PyProof.Rows

/-! ### the parts of a slice -/
abbrev TO := St → Hp → (Option Int → Hp → Prop) → Prop
/-- a slice's part (left out, or an int) -/
def PO (X : Cx) (e : Option Expr) (t : TO) : Prop :=
  ∀ (pins : List (Addr × Obj)) (s : Shared) (σ : St) (H : Hp) (Q : Option Int → Hp → Prop), Inv X pins σ H s → t σ H Q →
    wpAny (model X.prog X.w) X.A (evalPart e X.env) (fun u s' => ∃ o H', Inv X pins σ H' s' ∧ IsPart u o ∧ Q o H') X.xe s
def tNoPart : TO := fun _ H Q => Q none H
def tPart (t : TE) : TO := fun σ H Q => t σ H fun x H1 => ∃ i, x = .int i ∧ Q (some i) H1

theorem intsAre_of {ns : List Int} : ∀ {us : List Value}, Vals (ns.map V.int) us → IntsAre us ns := by
  induction ns with
  | nil => intro us r; rw [List.map_nil] at r; cases r; exact .nil
  | cons n ns ih =>
    intro us r
    rw [List.map_cons] at r
    cases r with
    | cons r1 r2 =>
      obtain ⟨t, e⟩ := r1
      subst e
      exact .cons n t (ih r2)

section
variable {X : Cx} {e : Expr} {te : TE} {lo hi : Option Expr} {tl th : TO} {pos p2 : Pos}

theorem po_none : PO X none tNoPart := by
  intro pins s σ H Q I h
  rw [evalPart_none]
  exact wpAny_pure ⟨none, H, I, .none, h⟩
theorem po_some (h : PE X e te) : PO X (some e) (tPart te) := by
  intro pins s σ H Q I hw
  rw [evalPart_some]
  refine thn (h pins s σ H _ I hw) fun u s1 ⟨x, H1, I1, r1, q1⟩ => ?_
  obtain ⟨i, rfl, q⟩ := q1
  obtain ⟨t, rfl⟩ := r1
  exact ⟨some i, H1, I1, .int i t, q⟩

/-- what a slice of a value is, by values: the slice object stands at sl -/
def SlR (X : Cx) (r : V → Option Int → Option Int → Hp → VK → Prop) : Prop :=
  ∀ (pins : List (Addr × Obj)) (s : Shared) (σ : St) (H : Hp) (x : V) (v vl vu : Value) (lo hi : Option Int) (sl : Addr) (Q : VK), Inv X pins σ H s → RelV x v → s.heap.IsSliceOf sl vl vu .none → IsPart vl lo → IsPart vu hi → r x lo hi H Q →
    ∃ T id, typeLookup (.type T) "__getitem__" = pure (some (.builtin id)) ∧ s.TypeIs v T ∧ wpAny (model X.prog X.w) X.A (getItem v (.ref sl)) (EP X pins σ Q) X.xe s
theorem SlR.or {r r' : V → Option Int → Option Int → Hp → VK → Prop} (h : SlR X r) (h' : SlR X r') : SlR X (fun x lo hi H Q => r x lo hi H Q ∨ r' x lo hi H Q) := by
  intro pins s σ H x v vl vu lo hi sl Q I rx hs pl pu q
  rcases q with q | q
  · exact h pins s σ H x v vl vu lo hi sl Q I rx hs pl pu q
  · exact h' pins s σ H x v vl vu lo hi sl Q I rx hs pl pu q
def tSl (r : V → Option Int → Option Int → Hp → VK → Prop) (te : TE) (tl th : TO) : TE := fun σ H Q => te σ H fun x H1 => tl σ H1 fun l H2 => th σ H2 fun u H3 => r x l u H3 Q
/-- a[lo:hi], any a -/
theorem pe_slice {r : V → Option Int → Option Int → Hp → VK → Prop} (hr : SlR X r) (he : PE X e te) (hl : PO X lo tl) (hu : PO X hi th) : PE X (.Subscript e (.Slice lo hi none p2) pos) (tSl r te tl th) := by
  intro pins s σ H Q I h
  refine Subscript_ (thn (he pins s σ H _ I h) fun v s1 ⟨x, H1, I1, r1, q1⟩ => ?_)
  refine wpAny_Slice (thn (hl pins s1 σ H1 _ I1 q1) fun vl s2 ⟨l, H2, I2, pl, q2⟩ => thn (hu pins s2 σ H2 _ I2 q2) fun vu s3 ⟨u, H3, I3, pu, q3⟩ => ?_)
  rw [evalPart_none]
  refine wpAny_pure ?_
  have I4 : Inv X pins σ H3 { s3 with heap := s3.heap.push { cls := .type "slice", data := .fields #[vl, vu, .none] } } := I3.kept (t' := s3.toks) fun b ob q => Heap.get?_push_of_some _ q
  obtain ⟨T, id, hT, ht, hg⟩ := hr pins { s3 with heap := s3.heap.push { cls := .type "slice", data := .fields #[vl, vu, .none] } } σ H3 x v vl vu l u s3.heap.objs.size Q I4 r1 (Heap.IsSliceOf.new ..) pl pu q3
  show wpAny (model X.prog X.w) X.A (subscriptTail e (.Slice lo hi none p2) v (.ref s3.heap.objs.size)) (EP X pins σ Q) X.xe { s3 with heap := s3.heap.push { cls := .type "slice", data := .fields #[vl, vu, .none] } }
  exact tail_any (ops := [.ref s3.heap.objs.size, v]) ht hT hg (by with_unfolding_all rfl)

/-- the items of xs[lo:hi] -/
def cutV (xs : List V) (lo hi : Option Int) : List V := (xs.drop (HT.sIx xs.length 0 lo)).take (HT.sIx xs.length xs.length hi - HT.sIx xs.length 0 lo)
theorem cutV_length (xs : List V) (lo hi : Option Int) : (cutV xs lo hi).length ≤ xs.length := by
  unfold cutV
  rw [List.length_take, List.length_drop]
  omega
/-- t[lo:hi], not the whole of it (the whole would be t itself) -/
def rSlT (K : PySem.W.Frag) : V → Option Int → Option Int → Hp → VK → Prop := fun x lo hi H Q => ∃ a xs, x = .ref a ∧ SqT K H a xs ∧
  ¬ (HT.sIx xs.length 0 lo = 0 ∧ HT.sIx xs.length xs.length hi = xs.length) ∧ ∀ p, H p = none → Q (.ref p) (upd H p (.tup (cutV xs lo hi)))
theorem sl_tup : SlR X (rSlT X.K) := by
  intro pins s σ H x v vl vu lo hi sl Q I rx hs pl pu h
  obtain ⟨a, xs, rfl, hx, hw, q⟩ := h
  cases rx
  obtain ⟨its, r, ht, hz⟩ := I.tuple hx
  have hlen : its.toArray.size = xs.length := by rw [List.size_toArray]; exact r.length.symm
  refine ⟨"tuple", _, PyProof.Rows.slot_tuple_getitem.lookup, ht.typeIs, ?_⟩
  refine HT.getItem_tuple_cut ht hs pl pu (by rw [hlen]; exact hw) ?_ (by rw [hlen]; exact hz)
  rw [hlen]
  refine ⟨.ref s.heap.objs.size, _, I.laid (t' := s.toks) (o := .tup (cutV xs lo hi)) (fun b ob q => Heap.get?_push_of_some _ q) (Nat.le_refl _) ?_, rfl, q _ (I.hok.fresh (Nat.le_refl _))⟩
  exact ⟨Nat.le_trans (cutV_length xs lo hi) hz, _, (r.drop (HT.sIx xs.length 0 lo)).take (HT.sIx xs.length xs.length hi - HT.sIx xs.length 0 lo), IsTup.new _ _⟩

/-! ### t < u, t + u -/
def rLtT (K : PySem.W.Frag) : R2 := fun x y H Q => ∃ a b ns ms, x = .ref a ∧ y = .ref b ∧ SqT K H a (ns.map V.int) ∧ SqT K H b (ms.map V.int) ∧ Q (.bl (HT.lexLt ns ms)) H
theorem op_ltT (hu : X.A.units < cLine) : OpR X (compareOp .Lt) (rLtT X.K) := by
  intro pins s σ H x y v u Q I rx ry h
  obtain ⟨a, b, ns, ms, rfl, rfl, ha, hb, q⟩ := h
  cases rx
  cases ry
  obtain ⟨its, r1, p1, _⟩ := I.tuple ha
  obtain ⟨its2, r2, p2, _⟩ := I.tuple hb
  have i1 : IntsAre its.toArray.toList ns := intsAre_of r1
  have i2 : IntsAre its2.toArray.toList ms := intsAre_of r2
  exact HT.lt_tupInts p1 p2 i1 i2 hu ⟨.bl (HT.lexLt ns ms), H, I, rfl, q⟩
/-- t + u, t not empty: u empty gives t itself -/
def rCatT (K : PySem.W.Frag) : R2 := fun x y H Q => ∃ a b xs ys, x = .ref a ∧ y = .ref b ∧ SqT K H a xs ∧ SqT K H b ys ∧ xs ≠ [] ∧ xs.length + ys.length ≤ sizeLine ∧
  (ys = [] → Q (.ref a) H) ∧ (ys ≠ [] → ∀ p, H p = none → Q (.ref p) (upd H p (.tup (xs ++ ys))))
theorem Vals.nil_iff {xs : List V} {us : List Value} (r : Vals xs us) : us = [] ↔ xs = [] := by
  cases r with
  | nil => simp
  | cons _ _ => simp
theorem op_catT : OpR X (binaryOp .Add) (rCatT X.K) := by
  intro pins s σ H x y v u Q I rx ry h
  obtain ⟨a, b, xs, ys, rfl, rfl, ha, hb, hx, hz, q1, q2⟩ := h
  cases rx
  cases ry
  obtain ⟨its, r1, p1, _⟩ := I.tuple ha
  obtain ⟨its2, r2, p2, _⟩ := I.tuple hb
  refine HT.cat_tup p1 p2 (fun z => hx (r1.nil_iff.mp z)) (fun z => ⟨.ref a, H, I, rfl, q1 (r2.nil_iff.mp z)⟩) (fun z => ?_) (by rw [← r1.length, ← r2.length]; exact hz)
  refine ⟨.ref s.heap.objs.size, _, I.laid (t' := s.toks) (o := .tup (xs ++ ys)) (fun b ob q => Heap.get?_push_of_some _ q) (Nat.le_refl _) ?_, rfl, q2 (fun w => z (r2.nil_iff.mpr w)) _ (I.hok.fresh (Nat.le_refl _))⟩
  exact ⟨by rw [List.length_append]; exact hz, _, r1.append r2, IsTup.new _ _⟩
/-- tuple(t) -/
theorem call_tupleT : CallR X (.type "tuple") (fun xs H Q => ∃ a ys, xs = [.ref a] ∧ SqT X.K H a ys ∧ Q (.ref a) H) := by
  intro pins s σ H xs us Q I r h
  obtain ⟨a, ys, rfl, ha, q⟩ := h
  obtain ⟨u, rfl, ru⟩ := vals1 r
  cases ru
  obtain ⟨its, _, p1, _⟩ := I.tuple ha
  exact call_tuple_same (items := its.toArray) p1 ⟨.ref a, H, I, rfl, q⟩
end
end L2

namespace L2
open PySem PySem.Spec PyProof.Rows

/-! ### places -/
/-- the place that an index of any sign means -/
def ixN (n : Nat) (i : Int) : Option Nat := if 0 ≤ i then (if i < n then some i.toNat else none) else if -(n : Int) ≤ i then some (i + n).toNat else none
def atI {α : Type} (xs : List α) (i : Int) : Option α := (ixN xs.length i).bind fun j => xs[j]?
theorem ixN_seq {n : Nat} {i : Int} {j : Nat} (h : ixN n i = some j) : seqIndex? i n = some j ∧ j < n ∧ -(n : Int) ≤ i ∧ i < n := by
  unfold ixN at h
  by_cases h0 : 0 ≤ i
  · rw [if_pos h0] at h
    by_cases h1 : i < n
    · rw [if_pos h1] at h
      have e : i.toNat = j := Option.some.inj h
      exact ⟨by rw [seqIndex_of h0 h1, e], by omega, by omega, h1⟩
    · rw [if_neg h1] at h; cases h
  · rw [if_neg h0] at h
    by_cases h1 : -(n : Int) ≤ i
    · rw [if_pos h1] at h
      have e : (i + n).toNat = j := Option.some.inj h
      exact ⟨by rw [seqIndex_neg (by omega) h1, e], by omega, h1, by omega⟩
    · rw [if_neg h1] at h; cases h
theorem atI_get {α : Type} {xs : List α} {i : Int} {v : α} (h : atI xs i = some v) : ∃ j, seqIndex? i xs.length = some j ∧ xs[j]? = some v ∧ j < xs.length ∧ -(xs.length : Int) ≤ i ∧ i < xs.length := by
  unfold atI at h
  cases e : ixN xs.length i with
  | none => rw [e] at h; cases h
  | some j =>
    rw [e] at h
    obtain ⟨h1, h2, h3, h4⟩ := ixN_seq e
    exact ⟨j, h1, h, h2, h3, h4⟩
theorem atI_nat {α : Type} {xs : List α} {j : Nat} {v : α} (h : xs[j]? = some v) : atI xs (j : Int) = some v := by
  have hj : j < xs.length := (List.getElem?_eq_some_iff.mp h).1
  have e : ixN xs.length (j : Int) = some j := by
    unfold ixN
    rw [if_pos (by omega), if_pos (by omega)]; simp
  unfold atI; rw [e]; exact h
theorem atI_last {α : Type} (xs : List α) (v : α) : atI (xs ++ [v]) (-1) = some v := by
  have hl : (xs ++ [v]).length = xs.length + 1 := by simp
  have e : ixN (xs ++ [v]).length (-1) = some xs.length := by
    unfold ixN
    rw [hl, if_neg (by decide), if_pos (by omega)]
    congr 1
    omega
  unfold atI
  rw [e]
  show (xs ++ [v])[xs.length]? = some v
  simp

/-! ### what may be subscripted -/
/-- what stands as an index of a plain subscript -/
def PlainIx (b : Expr) : Prop := ∀ o i, subscripted b false o i = operate [o, i] (getItem o i)
/-- a subscript by values -/
def IxR (X : Cx) (r : R2) : Prop :=
  ∀ (value slice : Expr) (pins : List (Addr × Obj)) (s : Shared) (σ : St) (H : Hp) (x y : V) (v u : Value) (Q : VK), Inv X pins σ H s → RelV x v → RelV y u → r x y H Q →
    subscripted slice false v u = operate [v, u] (getItem v u) → wpAny (model X.prog X.w) X.A (subscriptTail value slice v u) (EP X pins σ Q) X.xe s
/-- a call of a builtin's method by values: the receiver, the arguments -/
def MtR (X : Cx) (id : String) (r : V → List V → Hp → VK → Prop) : Prop :=
  ∀ (pins : List (Addr × Obj)) (s : Shared) (σ : St) (H : Hp) (x : V) (xs : List V) (v : Value) (us : List Value) (Q : VK), Inv X pins σ H s → RelV x v → Vals xs us → r x xs H Q →
    wpAny (model X.prog X.w) X.A (call (.builtin id) (v :: us)) (EP X pins σ Q) X.xe s
section
variable {X : Cx} {a b : Expr} {ta tb : TE} {pos : Pos}
theorem IxR.or {r r' : R2} (h : IxR X r) (h' : IxR X r') : IxR X (fun x y H Q => r x y H Q ∨ r' x y H Q) := by
  intro value slice pins s σ H x y v u Q I rx ry q hs
  rcases q with q | q
  · exact h value slice pins s σ H x y v u Q I rx ry q hs
  · exact h' value slice pins s σ H x y v u Q I rx ry q hs
theorem MtR.or {id : String} {r r' : V → List V → Hp → VK → Prop} (h : MtR X id r) (h' : MtR X id r') : MtR X id (fun x xs H Q => r x xs H Q ∨ r' x xs H Q) := by
  intro pins s σ H x xs v us Q I rx rs q
  rcases q with q | q
  · exact h pins s σ H x xs v us Q I rx rs q
  · exact h' pins s σ H x xs v us Q I rx rs q
/-- a[b] -/
theorem pe_ix {r : R2} (hr : IxR X r) (ha : PE X a ta) (hb : PE X b tb) (hs : PlainIx b) : PE X (.Subscript a b pos) (tOp r ta tb) := by
  intro pins s σ H Q I h
  exact Subscript_ (binT ha hb I h fun v u s2 x y H2 I2 rx ry q => hr a b pins s2 σ H2 x y v u Q I2 rx ry q (hs _ _))

def rIxL (K : PySem.W.Frag) : R2 := fun x y H Q => ∃ p xs i v, x = .ref p ∧ y = .int i ∧ SqL K H p xs ∧ atI xs i = some v ∧ Q v H
def rIxT (K : PySem.W.Frag) : R2 := fun x y H Q => ∃ p xs i v, x = .ref p ∧ y = .int i ∧ SqT K H p xs ∧ atI xs i = some v ∧ Q v H
def rIxS : R2 := fun x y H Q => ∃ z i c, x = .str z ∧ y = .int i ∧ z.length ≤ sizeLine ∧ atI z.cps.toList i = some c ∧ Q (.str ⟨#[c]⟩) H
theorem ix_list : IxR X (rIxL X.K) := by
  intro value slice pins s σ H x y v u Q I rx ry h hs
  obtain ⟨p, xs, i, z, rfl, rfl, hq, he, q⟩ := h
  cases rx
  obtain ⟨t, rfl⟩ := ry
  obtain ⟨its, r, pl, hz⟩ := I.list hq
  obtain ⟨j, h1, h2, h3, h4, h5⟩ := atI_get he
  obtain ⟨w, ew, rw'⟩ := r.get h2
  have hl := r.length
  have hn := line63
  have fin : EP X pins σ Q w s := ⟨z, H, I, rw', q⟩
  by_cases h0 : 0 ≤ i
  · have hj : i.toNat = j := by
      rw [seqIndex_of h0 h5] at h1
      exact Option.some.inj h1
    exact item_listR pl.isList h0 (by omega) (by rw [hj]; simpa using ew) fin hs
  · have hj : (i + (its.toArray.size : Int)).toNat = j := by
      rw [seqIndex_neg (by omega) h4] at h1
      rw [List.size_toArray, ← hl]
      exact Option.some.inj h1
    exact subscriptTail_builtinR (x := w) pl.isList.typeIs slot_list_getitem.lookup
      (wpAny_getItem_list_neg (Q := fun r s' => r = w ∧ EP X pins σ Q r s') pl.isList (by omega) (by rw [List.size_toArray] <;> omega) (by omega) (by rw [hj]; simpa using ew) ⟨rfl, fin⟩) hs
theorem ix_tup : IxR X (rIxT X.K) := by
  intro value slice pins s σ H x y v u Q I rx ry h hs
  obtain ⟨p, xs, i, z, rfl, rfl, hq, he, q⟩ := h
  cases rx
  obtain ⟨t, rfl⟩ := ry
  obtain ⟨its, r, pl, hz⟩ := I.tuple hq
  obtain ⟨j, h1, h2, h3, h4, h5⟩ := atI_get he
  obtain ⟨w, ew, rw'⟩ := r.get h2
  have hl := r.length
  have hn := line63
  have fin : EP X pins σ Q w s := ⟨z, H, I, rw', q⟩
  exact subscriptTail_builtinR (x := w) pl.typeIs slot_tuple_getitem.lookup
    (getItem_tuple (j := j) (Q := fun r s' => r = w ∧ EP X pins σ Q r s') pl (by omega) (by omega) (by rw [List.size_toArray, ← hl]; exact h1) (by simpa using ew) ⟨rfl, fin⟩) hs
theorem ix_str : IxR X rIxS := by
  intro value slice pins s σ H x y v u Q I rx ry h hs
  obtain ⟨z, i, c, rfl, rfl, hz, he, q⟩ := h
  obtain ⟨t, rfl⟩ := rx
  obtain ⟨t', rfl⟩ := ry
  obtain ⟨j, h1, h2, h3, h4, h5⟩ := atI_get he
  have hl : z.cps.toList.length = z.length := by simp [Str.length]
  rw [hl] at h1 h4 h5
  have hn := line63
  exact tail_any (typeIs_str s z t) slot_str_getitem.lookup (getItem_str (c := c) (by
    have e1 : decide (i < -(2 ^ 63 : Int)) = false := decide_eq_false (by omega)
    have e2 : decide (i ≥ 2 ^ 63) = false := decide_eq_false (by omega)
    rw [e1, e2, Bool.or_false]) (by rw [h1]; simpa using h2) ⟨.str ⟨#[c]⟩, H, I.tok _, ⟨_, rfl⟩, q⟩) hs
/-- list, tuple or str -/
def rIx (K : PySem.W.Frag) : R2 := fun x y H Q => rIxL K x y H Q ∨ rIxT K x y H Q ∨ rIxS x y H Q
theorem ix_seq : IxR X (rIx X.K) := ix_list.or (ix_tup.or ix_str)

/-! ### xs[i] = v, any sign -/
/-- the list's object behind a store -/
theorem mapSeq_set (its : List Value) (n j : Nat) (u : Value) : Obj.mapSeq (·.setIfInBounds j u) { cls := .type "list", data := .seq its.toArray n } = { cls := .type "list", data := .seq (its.set j u).toArray n } := by
  simp [Obj.mapSeq]
theorem Inv.lst {pins : List (Addr × Obj)} {σ : St} {H : Hp} {s : Shared} {p : Addr} {xs : List V} (I : Inv X pins σ H s) (h : H p = some (.lst xs)) :
    ∃ (its : List Value) (n : Nat), Vals xs its ∧ s.heap.get? p = some { cls := .type "list", data := .seq its.toArray n } ∧ xs.length ≤ sizeLine := by
  obtain ⟨z, its, n, r, e⟩ := I.hok p _ h
  exact ⟨its, n, r, e, z⟩
/-- the list at p is written by an update of its object -/
theorem Inv.lstUpd {pins : List (Addr × Obj)} {σ : St} {H : Hp} {s : Shared} {p : Addr} {xs ys : List V} {its its' : List Value} {n n' : Nat} {f : Obj → Obj} (I : Inv X pins σ H s) (h : H p = some (.lst xs))
    (ho : s.heap.get? p = some { cls := .type "list", data := .seq its.toArray n }) (hf : f { cls := .type "list", data := .seq its.toArray n } = { cls := .type "list", data := .seq its'.toArray n' }) (r : Vals ys its') (hz : ys.length ≤ sizeLine) (t : Nat) :
    Inv X pins σ (upd H p (.lst ys)) { s with heap := s.heap.update p f, toks := t } := by
  have e : (s.heap.update p f).get? p = some { cls := .type "list", data := .seq its'.toArray n' } := by
    rw [Heap.get?_update_self f ho (by rw [hf] <;> rfl), hf]
  refine I.write (x := p) (e := p) (by rw [h]; trivial) (.inl rfl) (fun b u hb q => (Heap.get?_update_other _ _ (Ne.symm hb)).trans q) ⟨_, e⟩ ?_
  exact ⟨hz, its', n', r, e⟩
def rSetL : V → V → V → Hp → (Hp → Prop) → Prop := fun o i v H Q => ∃ p xs k j, o = .ref p ∧ i = .int k ∧ H p = some (.lst xs) ∧ ixN xs.length k = some j ∧ Q (upd H p (.lst (xs.set j v)))
theorem set_list : PSet X rSetL := by
  intro pins s σ H o i v ov iv u Q I ro ri rv h
  obtain ⟨p, xs, k, j, rfl, rfl, hp, hj, q⟩ := h
  cases ro
  obtain ⟨t, rfl⟩ := ri
  obtain ⟨its, n, r, ho, hz⟩ := I.lst hp
  obtain ⟨h1, h2, h3, h4⟩ := ixN_seq hj
  have hl := r.length
  have hn := line63
  have I' : Inv X pins σ (upd H p (.lst (xs.set j v))) { s with heap := s.heap.update p (Obj.mapSeq (·.setIfInBounds j u)) } :=
    I.lstUpd hp ho (mapSeq_set its n j u) (r.set rv j) (by rw [List.length_set]; exact hz) s.toks
  by_cases h0 : 0 ≤ k
  · have hk : k.toNat = j := by
      rw [seqIndex_of h0 h4] at h1
      exact Option.some.inj h1
    exact PySem.W.ki_setAt ho h0 (by omega) (by rw [List.size_toArray, ← hl]; exact h4) (by rw [hk]; exact ⟨_, I', q⟩)
  · have hk : (k + (its.toArray.size : Int)).toNat = j := by
      rw [seqIndex_neg (by omega) h3] at h1
      rw [List.size_toArray, ← hl]
      exact Option.some.inj h1
    exact PySem.W.ki_setBack ho (by omega) (by rw [List.size_toArray, ← hl]; exact h3) (by omega) (by rw [hk]; exact ⟨_, I', q⟩)

/-! ### slices -/
theorem slice_bounds (lo hi : Option Int) (n : Nat) : (sliceBounds lo hi none n).1 = ((HT.sIx n 0 lo : Nat) : Int) ∧ (sliceBounds lo hi none n).2.1 = ((HT.sIx n n hi : Nat) : Int) ∧ (sliceBounds lo hi none n).2.2 = 1 := by
  refine ⟨?_, ?_, rfl⟩
  · cases lo with
    | none => simp [sliceBounds, HT.sIx]
    | some i =>
      simp only [sliceBounds, HT.sIx, Option.getD_none, show (1 : Int) > 0 by decide, if_true]
      by_cases h : i < 0
      · simp only [h, if_true] <;> omega
      · simp only [h, if_false] <;> omega
  · cases hi with
    | none => simp [sliceBounds, HT.sIx]
    | some i =>
      simp only [sliceBounds, HT.sIx, Option.getD_none, show (1 : Int) > 0 by decide, if_true]
      by_cases h : i < 0
      · simp only [h, if_true] <;> omega
      · simp only [h, if_false] <;> omega
theorem slicePick_cut (its : List Value) (lo hi : Option Int) : slicePick its.toArray lo hi none = ((its.drop (HT.sIx its.length 0 lo)).take (HT.sIx its.length its.length hi - HT.sIx its.length 0 lo)).toArray := by
  obtain ⟨h1, h2, h3⟩ := slice_bounds lo hi its.toArray.size
  unfold slicePick
  rw [h1, h2, h3]
  simp only [sliceRange_one, pick_run, List.size_toArray] <;> rfl
/-- xs[lo:hi] of a list: a new list -/
def rSlL (K : PySem.W.Frag) : V → Option Int → Option Int → Hp → VK → Prop := fun x lo hi H Q => ∃ a xs, x = .ref a ∧ SqL K H a xs ∧ ∀ p, H p = none → Q (.ref p) (upd H p (.lst (cutV xs lo hi)))
theorem sl_list : SlR X (rSlL X.K) := by
  intro pins s σ H x v vl vu lo hi sl Q I rx hs pl pu h
  obtain ⟨a, xs, rfl, hx, q⟩ := h
  cases rx
  obtain ⟨its, r, ht, hz⟩ := I.list hx
  have hlen := r.length
  refine ⟨"list", _, slot_list_getitem.lookup, ht.isList.typeIs, ?_⟩
  refine wpAny_getItem_list_slice ht.isList hs pl pu .none (by simp) ?_ (by rw [List.size_toArray] <;> omega)
  rw [slicePick_cut, ← hlen]
  refine ⟨.ref s.heap.objs.size, _, I.laid (t' := s.toks) (o := .lst (cutV xs lo hi)) (fun b ob q => Heap.get?_push_of_some _ q) (Nat.le_refl _) ?_, rfl, q _ (I.hok.fresh (Nat.le_refl _))⟩
  exact ⟨Nat.le_trans (cutV_length xs lo hi) hz, _, 0, (r.drop (HT.sIx xs.length 0 lo)).take (HT.sIx xs.length xs.length hi - HT.sIx xs.length 0 lo), Heap.get?_push_size _ rfl⟩

/-! ### in, not in: flat items -/
def flatV : V → Bool
  | .non => true
  | .bl _ => true
  | .int _ => true
  | .str _ => true
  | _ => false
/-- == of flat values -/
def eqV : V → V → Bool
  | .non, .non => true
  | .bl a, .bl b => a == b
  | .bl a, .int b => (if a then 1 else 0) == b
  | .int a, .bl b => a == (if b then 1 else 0)
  | .int a, .int b => a == b
  | .str a, .str b => a == b
  | _, _ => false
theorem eqAt_V {A : Around} {s : Shared} {y x : V} {u v : Value} (ry : RelV y u) (rx : RelV x v) (fy : flatV y = true) (fx : flatV x = true) : SeqAt.EqAt A s u v (eqV y x) := by
  cases y with
  | non =>
    cases ry
    cases x with
    | non => cases rx; exact SeqAt.EqAt.same _
    | bl b => cases rx; exact SeqAt.EqAt.none_bool b
    | int b => obtain ⟨t, rfl⟩ := rx; exact SeqAt.EqAt.none_int b t
    | str b => obtain ⟨t, rfl⟩ := rx; exact SeqAt.EqAt.none_str b t
    | _ => exact absurd (show false = true from fx) Bool.false_ne_true
  | bl a =>
    cases ry
    cases x with
    | non => cases rx; exact SeqAt.EqAt.bool_none a
    | bl b => cases rx; exact SeqAt.EqAt.bool_bool a b
    | int b => obtain ⟨t, rfl⟩ := rx; exact SeqAt.EqAt.bool_int a b t
    | str b => obtain ⟨t, rfl⟩ := rx; exact SeqAt.EqAt.bool_str a b t
    | _ => exact absurd (show false = true from fx) Bool.false_ne_true
  | int a =>
    obtain ⟨t', rfl⟩ := ry
    cases x with
    | non => cases rx; exact SeqAt.EqAt.int_none a t'
    | bl b => cases rx; exact SeqAt.EqAt.int_bool a t' b
    | int b => obtain ⟨t, rfl⟩ := rx; exact SeqAt.EqAt.int_int a t' b t
    | str b => obtain ⟨t, rfl⟩ := rx; exact SeqAt.EqAt.int_str a t' b t
    | _ => exact absurd (show false = true from fx) Bool.false_ne_true
  | str a =>
    obtain ⟨t', rfl⟩ := ry
    cases x with
    | non => cases rx; exact SeqAt.EqAt.str_none a t'
    | bl b => cases rx; exact SeqAt.EqAt.str_bool a t' b
    | int b => obtain ⟨t, rfl⟩ := rx; exact SeqAt.EqAt.str_int a t' b t
    | str b => obtain ⟨t, rfl⟩ := rx; exact SeqAt.EqAt.str_str a t' b t
    | _ => exact absurd (show false = true from fx) Bool.false_ne_true
  | _ => exact absurd (show false = true from fy) Bool.false_ne_true
/-- the items' answers, read off the values (a value's own answer does not lean on its token) -/
def eqU (x : V) (u : Value) : Bool := match u with
  | .none => eqV .non x
  | .bool b => eqV (.bl b) x
  | .int i _ => eqV (.int i) x
  | .str z _ => eqV (.str z) x
  | _ => false
theorem eqU_of {x y : V} {u : Value} (r : RelV y u) (f : flatV y = true) : eqU x u = eqV y x := by
  cases y with
  | non => cases r; rfl
  | bl b => cases r; rfl
  | int i => obtain ⟨t, rfl⟩ := r; rfl
  | str z => obtain ⟨t, rfl⟩ := r; rfl
  | _ => exact absurd (show false = true from f) Bool.false_ne_true
theorem any_eqU {x : V} : ∀ {xs : List V} {us : List Value}, Vals xs us → xs.all flatV = true → us.any (eqU x) = xs.any fun y => eqV y x
  | _, _, .nil, _ => rfl
  | y :: xs, u :: us, .cons r t, f => by
    rw [List.all_cons, Bool.and_eq_true] at f
    rw [List.any_cons, List.any_cons, eqU_of r f.1, any_eqU t f.2]
theorem mem_eqAt {A : Around} {s : Shared} {x : V} {v : Value} (rx : RelV x v) (fx : flatV x = true) : ∀ {xs : List V} {us : List Value}, Vals xs us → xs.all flatV = true → ∀ u ∈ us, SeqAt.EqAt A s u v (eqU x u)
  | _, _, .nil, _ => fun u hu => by cases hu
  | y :: xs, u :: us, .cons r t, f => fun u' hu => by
    rw [List.all_cons, Bool.and_eq_true] at f
    rcases List.mem_cons.mp hu with rfl | hu
    · rw [eqU_of r f.1]; exact eqAt_V r rx f.1 fx
    · exact mem_eqAt rx fx t f.2 u' hu
def inV (x : V) (xs : List V) : Bool := xs.any fun y => eqV y x
/-- x in a list or tuple of flat items -/
def rIn (K : PySem.W.Frag) (neg : Bool) : R2 := fun x y H Q => ∃ p xs, y = .ref p ∧ (SqL K H p xs ∨ SqT K H p xs) ∧ flatV x = true ∧ xs.all flatV = true ∧ Q (.bl (if neg then !inV x xs else inV x xs)) H
theorem op_in_seq : OpR X (compareOp .In) (rIn X.K false) := by
  intro pins s σ H x y v u Q I rx ry h
  obtain ⟨p, xs, rfl, hq, fx, fs, q⟩ := h
  cases ry
  rcases hq with hq | hq
  · obtain ⟨its, r, pl, hz⟩ := I.list hq
    refine SeqAt.in_listAt (eqU x) pl.isList (fun w hw => mem_eqAt rx fx r fs w (by simpa using hw)) ⟨.bl _, H, I, rfl, ?_⟩
    rw [show its.toArray.any (eqU x) = its.any (eqU x) by simp, any_eqU r fs]
    exact q
  · obtain ⟨its, r, pl, hz⟩ := I.tuple hq
    refine SeqAt.in_tupleAt (eqU x) pl (fun w hw => mem_eqAt rx fx r fs w (by simpa using hw)) ⟨.bl _, H, I, rfl, ?_⟩
    rw [show its.toArray.any (eqU x) = its.any (eqU x) by simp, any_eqU r fs]
    exact q
theorem op_notIn_seq : OpR X (compareOp .NotIn) (rIn X.K true) := by
  intro pins s σ H x y v u Q I rx ry h
  obtain ⟨p, xs, rfl, hq, fx, fs, q⟩ := h
  cases ry
  rcases hq with hq | hq
  · obtain ⟨its, r, pl, hz⟩ := I.list hq
    refine SeqAt.notIn_listAt (eqU x) pl.isList (fun w hw => mem_eqAt rx fx r fs w (by simpa using hw)) ⟨.bl _, H, I, rfl, ?_⟩
    rw [show its.toArray.any (eqU x) = its.any (eqU x) by simp, any_eqU r fs]
    exact q
  · obtain ⟨its, r, pl, hz⟩ := I.tuple hq
    refine SeqAt.notIn_tupleAt (eqU x) pl (fun w hw => mem_eqAt rx fx r fs w (by simpa using hw)) ⟨.bl _, H, I, rfl, ?_⟩
    rw [show its.toArray.any (eqU x) = its.any (eqU x) by simp, any_eqU r fs]
    exact q
theorem op_notIn_str : OpR X (compareOp .NotIn) (fun x y H Q => ∃ i j, x = .str i ∧ y = .str j ∧ Q (.bl (!(!(Builtin.Str.occurrences j i 0 j.length 1).isEmpty))) H) := by
  intro pins s σ H x y v u Q I rx ry h
  obtain ⟨i, j, rfl, rfl, q⟩ := h
  obtain ⟨t, rfl⟩ := rx
  obtain ⟨t', rfl⟩ := ry
  exact notIn_str ⟨.bl _, H, I, rfl, q⟩

/-! ### len, list(x), tuple(x) of any list or tuple that is read -/
theorem call_len_seq : CallR X (.builtin "len") (fun xs H Q => ∃ p ys, xs = [.ref p] ∧ (SqL X.K H p ys ∨ SqT X.K H p ys) ∧ Q (.int ys.length) H) := by
  intro pins s σ H xs us Q I r h
  obtain ⟨p, ys, rfl, hq, q⟩ := h
  obtain ⟨u, rfl, rx⟩ := vals1 r
  cases rx
  have hn := line63
  rcases hq with hq | hq
  · obtain ⟨its, r', pl, hz⟩ := I.list hq
    have hlen := r'.length
    exact Calls.call_len_list pl.isList (by simp only [List.size_toArray] <;> omega) ⟨.int ys.length, H, I.tok _, ⟨s.toks + 1, by rw [List.size_toArray, hlen]⟩, q⟩
  · obtain ⟨its, r', pl, hz⟩ := I.tuple hq
    have hlen := r'.length
    exact len_tuple pl (by simp only [List.size_toArray] <;> omega) ⟨.int ys.length, H, I.tok _, ⟨s.toks + 1, by rw [List.size_toArray, hlen]⟩, q⟩
theorem call_len_str : CallR X (.builtin "len") (fun xs H Q => ∃ z, xs = [.str z] ∧ z.length ≤ sizeLine ∧ Q (.int z.length) H) := by
  intro pins s σ H xs us Q I r h
  obtain ⟨z, rfl, hz, q⟩ := h
  obtain ⟨u, rfl, t, rfl⟩ := vals1 r
  have hn := line63
  exact len_str (by omega) ⟨.int z.length, H, I.tok _, ⟨_, rfl⟩, q⟩
theorem CallR.or {f : Value} {r r' : List V → Hp → VK → Prop} (h : CallR X f r) (h' : CallR X f r') : CallR X f (fun xs H Q => r xs H Q ∨ r' xs H Q) := by
  intro pins s σ H xs us Q I rs q
  rcases q with q | q
  · exact h pins s σ H xs us Q I rs q
  · exact h' pins s σ H xs us Q I rs q
theorem call_list_of : CallR X (.type "list") (fun xs H Q => ∃ p ys, xs = [.ref p] ∧ (SqL X.K H p ys ∨ SqT X.K H p ys) ∧ ∀ l, H l = none → Q (.ref l) (upd H l (.lst ys))) := by
  intro pins s σ H xs us Q I r h
  obtain ⟨p, ys, rfl, hq, q⟩ := h
  obtain ⟨u, rfl, rx⟩ := vals1 r
  cases rx
  have fin : ∀ (its : List Value), Vals ys its → ys.length ≤ sizeLine → ∀ (h' : Heap) (c' : Nat), (∀ b o', s.heap.get? b = some o' → h'.get? b = some o') →
      h'.get? s.heap.objs.size = some { cls := .type "list", dict := none, data := .seq its.toArray c', slots := #[] } → EP X pins σ Q (.ref s.heap.objs.size) { s with heap := h' } := fun its r' hz h' c' kp e =>
    ⟨.ref s.heap.objs.size, _, I.laid (t' := s.toks) kp (Nat.le_refl _) (show ObjOk X.prog X.w _ h' _ (.lst ys) from ⟨hz, its, c', r', e⟩), rfl, q _ (I.hok.fresh (Nat.le_refl _))⟩
  rcases hq with hq | hq
  · obtain ⟨its, r', pl, hz⟩ := I.list hq
    have hlen := r'.length
    obtain ⟨o, ho, hc, n, hd⟩ := pl.isList
    exact call_list_seq p (.inl rfl) ho hc hd (fun h' c' kp e => fin its r' hz h' c' kp e) (by simp only [List.size_toArray] <;> omega)
  · obtain ⟨its, r', pl, hz⟩ := I.tuple hq
    have hlen := r'.length
    obtain ⟨o, ho, hc, n, hd⟩ := pl
    exact call_list_seq p (.inr rfl) ho hc hd (fun h' c' kp e => fin its r' hz h' c' kp e) (by simp only [List.size_toArray] <;> omega)
theorem call_tuple_of : CallR X (.type "tuple") (fun xs H Q => ∃ p ys, xs = [.ref p] ∧ ((SqL X.K H p ys ∧ ∀ l, H l = none → Q (.ref l) (upd H l (.tup ys))) ∨ (SqT X.K H p ys ∧ Q (.ref p) H))) := by
  intro pins s σ H xs us Q I r h
  obtain ⟨p, ys, rfl, h⟩ := h
  obtain ⟨u, rfl, rx⟩ := vals1 r
  cases rx
  rcases h with ⟨hq, q⟩ | ⟨hq, q⟩
  · obtain ⟨its, r', pl, hz⟩ := I.list hq
    have hlen := r'.length
    refine call_tuple_list pl.isList (fun h' kp => ?_) (by simp only [List.size_toArray] <;> omega)
    have I1 : Inv X pins σ H { s with heap := h' } := I.kept (t' := s.toks) kp
    have I2 : Inv X pins σ (upd H h'.objs.size (.tup ys)) { s with heap := h'.push { cls := .type "tuple", data := .seq its.toArray } } :=
      I1.laid (t' := s.toks) (fun b o e => Heap.get?_push_of_some _ e) (Nat.le_refl _) (show ObjOk X.prog X.w _ _ _ (.tup ys) from ⟨hz, its, r', IsTup.new _ _⟩)
    exact ⟨.ref h'.objs.size, _, I2, rfl, q _ (I1.hok.fresh (Nat.le_refl _))⟩
  · obtain ⟨its, r', pl, hz⟩ := I.tuple hq
    exact call_tuple_same pl ⟨.ref p, H, I, rfl, q⟩

/-! ### the call of a builtin's method: o.m(..) -/
/-- the value is of that builtin type -/
def tyV (K : PySem.W.Frag) (T : String) (x : V) (H : Hp) : Prop := match x with
  | .str _ => T = "str"
  | .int _ => T = "int"
  | .ref p => (T = "list" ∧ ∃ xs, SqL K H p xs) ∨ (T = "tuple" ∧ ∃ o, K.lookup p = some o ∧ o.cls = .type "tuple" ∧ o.dict = none) ∨
      (T = "dict" ∧ ((∃ kvs, H p = some (.dK kvs)) ∨ ∃ kvs, H p = some (.dT kvs))) ∨ (T = "set" ∧ ∃ S n, H p = some (.set S n))
  | _ => False
theorem tyV_is {pins : List (Addr × Obj)} {σ : St} {H : Hp} {s : Shared} {T : String} {x : V} {v : Value} (I : Inv X pins σ H s) (r : RelV x v) (ty : tyV X.K T x H) :
    s.TypeIs v T ∧ ∀ a, v = .ref a → ∃ ob, s.heap.get? a = some ob ∧ ob.dict = none := by
  cases x with
  | str z =>
    obtain ⟨t, rfl⟩ := r
    cases (show T = "str" from ty)
    exact ⟨typeIs_str s z t, fun _ e => nomatch e⟩
  | int i =>
    obtain ⟨t, rfl⟩ := r
    cases (show T = "int" from ty)
    exact ⟨typeIs_int s i t, fun _ e => nomatch e⟩
  | ref p =>
    cases r
    rcases ty with ⟨rfl, xs, hq⟩ | ⟨rfl, o, hk, hc, hd⟩ | ⟨rfl, hk⟩ | ⟨rfl, S, n, hk⟩
    · obtain ⟨its, _, pl, _⟩ := I.list hq
      refine ⟨pl.isList.typeIs, fun a e => ?_⟩
      cases e
      obtain ⟨o, n, e, c, hd, _⟩ := pl
      exact ⟨o, e, hd⟩
    · refine ⟨⟨o, I.kIn p o hk, hc⟩, fun a e => ?_⟩
      cases e
      exact ⟨o, I.kIn _ o hk, hd⟩
    · have z : ∃ o, s.heap.get? p = some o ∧ o.ExactDict := by
        rcases hk with ⟨kvs, hk⟩ | ⟨kvs, hk⟩
        · obtain ⟨_, _, _, _, o, _, _, e, ex, _⟩ := I.hok p _ hk
          exact ⟨o, e, ex⟩
        · obtain ⟨_, _, _, _, o, _, _, e, ex, _⟩ := I.hok p _ hk
          exact ⟨o, e, ex⟩
      obtain ⟨o, e, ex⟩ := z
      refine ⟨⟨o, e, ex.1⟩, fun a e2 => ?_⟩
      cases e2
      exact ⟨o, e, ex.2.1⟩
    · obtain ⟨o, _, _, _, e, ex, _⟩ := I.hok p _ hk
      refine ⟨⟨o, e, ex.1⟩, fun a e2 => ?_⟩
      cases e2
      exact ⟨o, e, ex.2.1⟩
  | _ => exact False.elim ty
def tBM0 (K : PySem.W.Frag) (T : String) (r : V → List V → Hp → VK → Prop) (to : TE) : TE := fun σ H Q => to σ H fun x H1 => tyV K T x H1 ∧ r x [] H1 Q
def tBM (K : PySem.W.Frag) (T : String) (r : V → List V → Hp → VK → Prop) (to : TE) (t : TA) : TE := fun σ H Q => to σ H fun x H1 => tyV K T x H1 ∧ t σ H1 fun xs H2 => r x xs H2 Q
variable {o e : Expr} {es : List Expr} {to : TE} {t : TA} {name : Str} {apos cpos : Pos} {T id : String} {r : V → List V → Hp → VK → Prop}
theorem pe_bm0 (pa : PlainAttrs T) (slot : Slot T name id) (hty : typeOf (.builtin id) = pure (.type "method_descriptor")) (hm : MtR X id r) (ho : PE X o to)
    (hbase : attributeBase o name X.env (eval o X.env) = eval o X.env := by rfl) (hline : (apos.endLine == cpos.line) = true := by rfl) : PE X (.Call (.Attribute o name apos) [] [] cpos) (tBM0 X.K T r to) := by
  intro pins s σ H Q I h
  refine wpAny_Call_method0_late hbase hline (thn (ho pins s σ H _ I h) fun v s1 ⟨x, H1, I1, r1, ty, q1⟩ => ?_)
  obtain ⟨h1, h2⟩ := tyV_is I1 r1 ty
  exact ⟨T, id, pa, slot, hty, h1, h2, Calls.callWith_builtin rfl (PySem.evalArgs_none (hm pins s1 σ H1 x [] v [] Q I1 r1 .nil q1))⟩
theorem pe_bm (pa : PlainAttrs T) (slot : Slot T name id) (hty : typeOf (.builtin id) = pure (.type "method_descriptor")) (hm : MtR X id r) (ho : PE X o to) (ha : PA X (e :: es) t)
    (hbase : attributeBase o name X.env (eval o X.env) = eval o X.env := by rfl)
    (hfew : ((backTo cpos (starEach (e :: es) X.env)).all (fun x => !x.1) && (backToKw cpos (keywordEach [] X.env)).all (fun x => x.1.isSome)
      && decide ((e :: es).length + ([] : List Keyword).length + (if ([] : List Keyword).isEmpty then 0 else 1) < 30)) = true := by rfl)
    (hline : (apos.endLine == cpos.line) = true := by rfl) (hs : starEach (e :: es) X.env = (false, eval e X.env) :: starEach es X.env := by rfl) (hplain : (backTo cpos (starEach es X.env)).any (·.1) = false := by rfl) :
    PE X (.Call (.Attribute o name apos) (e :: es) [] cpos) (tBM X.K T r to t) := by
  intro pins s σ H Q I h
  refine wpAny_Call_method_late hbase hfew hline rfl (thn (ho pins s σ H _ I h) fun v s1 ⟨x, H1, I1, r1, ty, q1⟩ => ?_)
  obtain ⟨h1, h2⟩ := tyV_is I1 r1 ty
  refine ⟨T, id, pa, slot, hty, h1, h2, ?_⟩
  have hA := ha cpos pins s1 σ H1 _ I1 q1
  rw [hs] at hA ⊢
  refine Calls.callWith_builtin (by show (false || (backTo cpos (starEach es X.env)).any (·.1)) = false; rw [hplain] <;> rfl) (Calls.evalArgs_plain ?_)
  exact thn hA fun us s2 ⟨vs, H2, I2, r2, q2⟩ => hm pins s2 σ H2 x vs v us Q I2 r1 r2 q2
/- xs.append(e), list.index on a module's tuple .. are MtR facts of 06m -/
end
end L2

namespace L2
open PySem PySem.Spec PyProof.Rows

def MtM (X : Cx) (id : String) (r : V → List V → Hp → VK → Prop) : Prop :=
  ∀ (pins : List (Addr × Obj)) (s : Shared) (σ : St) (H : Hp) (x : V) (xs : List V) (v : Value) (us : List Value) (Q : VK), Inv X pins σ H s → RelV x v → Vals xs us → r x xs H Q →
    wpAny (model X.prog X.w) X.A (call (.builtin id) (v :: us)) (EP X pins σ Q) X.xe s

/-! ### lists of values -/
theorem Vals.one : ∀ {x : V} {us : List Value}, Vals [x] us → ∃ u, us = [u] ∧ RelV x u
  | _, _, .cons r .nil => ⟨_, rfl, r⟩
theorem Vals.two : ∀ {x y : V} {us : List Value}, Vals [x, y] us → ∃ u v, us = [u, v] ∧ RelV x u ∧ RelV y v
  | _, _, _, .cons r (.cons q .nil) => ⟨_, _, rfl, r, q⟩
theorem Vals.zero : ∀ {us : List Value}, Vals [] us → us = []
  | _, .nil => rfl
theorem Vals.dropLast {xs : List V} {us : List Value} (h : Vals xs us) : Vals xs.dropLast us.dropLast := by
  induction h with
  | nil => exact .nil
  | cons r t ih =>
    cases t with
    | nil => exact .nil
    | cons q t' => exact .cons r ih
theorem Vals.eraseIdx : ∀ {xs : List V} {us : List Value} (i : Nat), Vals xs us → Vals (xs.eraseIdx i) (us.eraseIdx i)
  | _, _, _, .nil => .nil
  | _, _, 0, .cons _ t => t
  | _, _, i + 1, .cons r t => .cons r (Vals.eraseIdx i t)
theorem Vals.reverse {xs : List V} {us : List Value} (h : Vals xs us) : Vals xs.reverse us.reverse := by
  induction h with
  | nil => exact .nil
  | cons r t ih => rw [List.reverse_cons, List.reverse_cons]; exact Vals.append ih (.cons r .nil)
theorem Vals.rep {xs : List V} {us : List Value} (h : Vals xs us) : ∀ k : Nat, Vals (List.replicate k xs).flatten (List.replicate k us).flatten
  | 0 => .nil
  | k + 1 => by
    rw [List.replicate_succ, List.replicate_succ, List.flatten_cons, List.flatten_cons]
    exact Vals.append h (Vals.rep h k)
theorem erase_last {α : Type} (l : List α) : l.eraseIdx (l.length - 1) = l.dropLast := by
  induction l with
  | nil => rfl
  | cons a r ih =>
    cases r with
    | nil => rfl
    | cons b r =>
      have e : (a :: b :: r).length - 1 = ((b :: r).length - 1) + 1 := by
        have h1 : (a :: b :: r).length = r.length + 2 := rfl
        have h2 : (b :: r).length = r.length + 1 := rfl
        omega
      rw [e, List.eraseIdx_cons_succ, ih]
      all_goals rfl
theorem len_erase {α : Type} : ∀ (l : List α) (i : Nat), (l.eraseIdx i).length ≤ l.length
  | [], _ => Nat.le_refl _
  | _ :: _, 0 => Nat.le_succ _
  | _ :: r, i + 1 => Nat.succ_le_succ (len_erase r i)
theorem foldl_rep (its : List Value) : ∀ (k : Nat) (acc : List Value),
    List.foldl (fun x1 x2 => x1 ++ x2) acc.toArray (List.replicate k its.toArray) = (acc ++ (List.replicate k its).flatten).toArray
  | 0, acc => by simp
  | k + 1, acc => by
    have e : acc.toArray ++ its.toArray = (acc ++ its).toArray := by simp
    have e2 : (acc ++ its) ++ (List.replicate k its).flatten = acc ++ (List.replicate (k + 1) its).flatten := by
      rw [List.replicate_succ, List.flatten_cons, List.append_assoc]
    rw [← e2, ← foldl_rep its k (acc ++ its), ← e, List.replicate_succ, List.foldl_cons]

section
variable {X : Cx} {pins : List (Addr × Obj)} {σ : St} {H : Hp} {s : Shared} {l b : Addr} {xs ys zs : List V}

/-! ### the two steps: a tracked list is rewritten, a new list is laid -/
theorem Inv.lset {its its' : List Value} {n : Nat} {f : Array Value → Array Value} {t' : Nat} (I : Inv X pins σ H s) (hH : H l = some (.lst xs))
    (e : s.heap.get? l = some { cls := .type "list", data := .seq its.toArray n }) (hf : f its.toArray = its'.toArray) (hv : Vals ys its') (hz : ys.length ≤ sizeLine) :
    Inv X pins σ (upd H l (.lst ys)) { s with heap := s.heap.update l (Obj.mapSeq f), toks := t' } := by
  have q := PySem.IsL.update e f
  rw [hf] at q
  refine I.write (x := l) (e := l) (by rw [hH]; exact trivial) (.inl rfl) (fun b' u hb hu => (Heap.get?_update_other s.heap (Obj.mapSeq f) (Ne.symm hb)).trans hu) ⟨_, q⟩ ?_
  exact ⟨hz, its', _, hv, q⟩
theorem Inv.lnew {its : List Value} {t' : Nat} (I : Inv X pins σ H s) (hv : Vals ys its) (hz : ys.length ≤ sizeLine) :
    Inv X pins σ (upd H s.heap.objs.size (.lst ys)) { s with heap := s.heap.push { cls := .type "list", data := .seq its.toArray }, toks := t' } :=
  I.laid (fun _ _ q => Heap.get?_push_of_some _ q) (Nat.le_refl _) ⟨hz, its, 0, hv, Heap.get?_push_size _ rfl⟩
theorem Inv.fresh (I : Inv X pins σ H s) : H s.heap.objs.size = none := I.hok.fresh (Nat.le_refl _)
theorem Inv.lstM (I : Inv X pins σ H s) (hH : H l = some (.lst xs)) : xs.length ≤ sizeLine ∧ ∃ (its : List Value) (n : Nat), Vals xs its ∧ xs.length = its.length ∧ s.heap.get? l = some { cls := .type "list", data := .seq its.toArray n } := by
  obtain ⟨z, its, n, r, e⟩ := I.hok l _ hH
  exact ⟨z, its, n, r, r.length, e⟩

theorem notLongL {n : Nat} (h : n ≤ sizeLine) : Builtin.List.listTooLong n = false := by
  unfold Builtin.List.listTooLong
  exact decide_eq_false (by omega)
end

section
variable {X : Cx}

/-! ### methods -/
def rAppend : V → List V → Hp → VK → Prop := fun x vs H Q => ∃ l xs y, x = .ref l ∧ vs = [y] ∧ H l = some (.lst xs) ∧ xs.length < sizeLine ∧ Q .non (upd H l (.lst (xs ++ [y])))
theorem mt_append : MtM X "list.append" rAppend := by
  intro pins s σ H x vs v us Q I rx rv h
  obtain ⟨l, xs, y, rfl, rfl, hH, hz, q⟩ := h
  cases rx
  obtain ⟨u, rfl, ru⟩ := rv.one
  obtain ⟨z, its, n, r, hl, e⟩ := I.lstM hH
  refine call_meets F.slot_list_append ⟨_, e, rfl⟩ F.entry_list_append (F.args_list_append_2 _ _) (PySem.list_append l its.toArray n u (by rw [List.size_toArray]; omega)) ⟨e, ?_⟩
  refine ⟨.non, _, I.lset (its' := its ++ [u]) hH e (by simp) (r.append (.cons ru .nil)) ?_, rfl, q⟩
  rw [List.length_append, List.length_singleton]
  omega

def rExtend : V → List V → Hp → VK → Prop := fun x vs H Q => ∃ l b xs zs, x = .ref l ∧ vs = [.ref b] ∧ H l = some (.lst xs) ∧ H b = some (.lst zs) ∧ xs.length + zs.length ≤ sizeLine ∧ Q .non (upd H l (.lst (xs ++ zs)))
theorem mt_extend : MtM X "list.extend" rExtend := by
  intro pins s σ H x vs v us Q I rx rv h
  obtain ⟨l, b, xs, zs, rfl, rfl, hH, hB, hz, q⟩ := h
  cases rx
  obtain ⟨u, rfl, ru⟩ := rv.one
  cases ru
  obtain ⟨z, its, n, r, hl, e⟩ := I.lstM hH
  obtain ⟨z2, its2, n2, r2, hl2, e2⟩ := I.lstM hB
  have hsz : its.toArray.size + its2.toArray.size ≤ sizeLine := by rw [List.size_toArray, List.size_toArray]; omega
  have hlong : ¬ (!its.toArray.isEmpty && Builtin.List.listTooLong (its.toArray.size + its2.toArray.size)) = true := by
    rw [notLongL hsz, Bool.and_false]
    exact Bool.false_ne_true
  refine call_meets F.slot_list_extend ⟨_, e, rfl⟩ F.entry_list_extend (F.args_list_extend_2 _ _)
    (AutoSeq1.list_extend_list_list_0 l its.toArray n b its2.toArray n2 hlong (by rw [List.size_toArray]; omega) (by omega)) ⟨e, e2, ?_⟩
  refine ⟨.non, _, I.lset (its' := its ++ its2) hH e (by simp) (r.append r2) ?_, rfl, q⟩
  rw [List.length_append]
  omega

def rPop : V → List V → Hp → VK → Prop := fun x vs H Q => ∃ l xs y, x = .ref l ∧ vs = [] ∧ H l = some (.lst xs) ∧ xs[xs.length - 1]? = some y ∧ Q y (upd H l (.lst xs.dropLast))
theorem mt_pop : MtM X "list.pop" rPop := by
  intro pins s σ H x vs v us Q I rx rv h
  obtain ⟨l, xs, y, rfl, rfl, hH, hy, q⟩ := h
  cases rx
  have hus := rv.zero
  subst hus
  obtain ⟨z, its, n, r, hl, e⟩ := I.lstM hH
  obtain ⟨u, hu, ru⟩ := r.get hy
  have hy' : its.toArray[its.toArray.size - 1]? = some u := by
    show its.toArray[its.length - 1]? = some u
    rw [← Array.getElem?_toList, ← hl]
    exact hu
  refine call_meets F.slot_list_pop ⟨_, e, rfl⟩ F.entry_list_pop (F.args_list_pop_1 _) (MeetsSeq.list_pop_last l its.toArray n u hy' (by rw [List.size_toArray]; omega)) ⟨e, ?_⟩
  refine ⟨y, _, I.lset (its' := its.dropLast) hH e ?_ r.dropLast ?_, ru, q⟩
  · show its.toArray.eraseIdxIfInBounds (its.toArray.size - 1) = its.dropLast.toArray
    rw [List.size_toArray, List.eraseIdxIfInBounds_toArray, erase_last]
  · rw [List.length_dropLast]
    omega

def rPopAt : V → List V → Hp → VK → Prop := fun x vs H Q => ∃ l xs i k y, x = .ref l ∧ vs = [.int i] ∧ H l = some (.lst xs) ∧ -(2 ^ 63) ≤ i ∧ i < 2 ^ 63 ∧ seqIndex? i xs.length = some k ∧ xs[k]? = some y ∧ Q y (upd H l (.lst (xs.eraseIdx k)))
theorem mt_popAt : MtM X "list.pop" rPopAt := by
  intro pins s σ H x vs v us Q I rx rv h
  obtain ⟨l, xs, i, k, y, rfl, rfl, hH, h1, h2, hk, hy, q⟩ := h
  cases rx
  obtain ⟨u, rfl, ru⟩ := rv.one
  obtain ⟨t, rfl⟩ := ru
  obtain ⟨z, its, n, r, hl, e⟩ := I.lstM hH
  obtain ⟨w, hw, rw'⟩ := r.get hy
  refine call_meets F.slot_list_pop ⟨_, e, rfl⟩ F.entry_list_pop (F.args_list_pop_2 _ _)
    (MeetsSeq.list_pop_at l its.toArray n i t k w (fitsIndex_both h1 h2) (by rw [List.size_toArray, ← hl]; exact hk) (by rw [← Array.getElem?_toList]; exact hw) (by rw [List.size_toArray]; omega)) ⟨e, ?_⟩
  refine ⟨y, _, I.lset (its' := its.eraseIdx k) hH e ?_ (r.eraseIdx k) ?_, rw', q⟩
  · show its.toArray.eraseIdxIfInBounds k = (its.eraseIdx k).toArray
    rw [List.eraseIdxIfInBounds_toArray]
  · have := len_erase xs k
    omega

def rReverse : V → List V → Hp → VK → Prop := fun x vs H Q => ∃ l xs, x = .ref l ∧ vs = [] ∧ H l = some (.lst xs) ∧ Q .non (upd H l (.lst xs.reverse))
theorem mt_reverse : MtM X "list.reverse" rReverse := by
  intro pins s σ H x vs v us Q I rx rv h
  obtain ⟨l, xs, rfl, rfl, hH, q⟩ := h
  cases rx
  have hus := rv.zero
  subst hus
  obtain ⟨z, its, n, r, hl, e⟩ := I.lstM hH
  refine call_meets F.slot_list_reverse ⟨_, e, rfl⟩ F.entry_list_reverse (F.args_list_reverse_1 _) (AutoSeq1.list_reverse_list_0 l its.toArray n (by rw [List.size_toArray]; omega)) ⟨e, ?_⟩
  refine ⟨.non, _, I.lset (its' := its.reverse) hH e (by simp) r.reverse ?_, rfl, q⟩
  rw [List.length_reverse]
  omega

def rClear : V → List V → Hp → VK → Prop := fun x vs H Q => ∃ l xs, x = .ref l ∧ vs = [] ∧ H l = some (.lst xs) ∧ Q .non (upd H l (.lst []))
theorem mt_clear : MtM X "list.clear" rClear := by
  intro pins s σ H x vs v us Q I rx rv h
  obtain ⟨l, xs, rfl, rfl, hH, q⟩ := h
  cases rx
  have hus := rv.zero
  subst hus
  obtain ⟨z, its, n, r, hl, e⟩ := I.lstM hH
  refine call_meets F.slot_list_clear ⟨_, e, rfl⟩ F.entry_list_clear (F.args_list_clear_1 _) (AutoSeq1.list_clear_list_0 l its.toArray n (by rw [List.size_toArray]; omega)) ⟨e, ?_⟩
  exact ⟨.non, _, I.lset (its' := []) (ys := []) hH e rfl .nil (Nat.zero_le _), rfl, q⟩

/-! ### list + list, list += list, list * int -/
def rCat : R2 := fun x y H Q => ∃ l b xs zs, x = .ref l ∧ y = .ref b ∧ H l = some (.lst xs) ∧ H b = some (.lst zs) ∧ xs.length + zs.length ≤ sizeLine ∧ ∀ p, H p = none → Q (.ref p) (upd H p (.lst (xs ++ zs)))
theorem op_cat : OpR X (binaryOp .Add) rCat := by
  intro pins s σ H x y v u Q I rx ry h
  obtain ⟨l, b, xs, zs, rfl, rfl, hH, hB, hz, q⟩ := h
  cases rx
  cases ry
  obtain ⟨z, its, n, r, hl, e⟩ := I.lstM hH
  obtain ⟨z2, its2, n2, r2, hl2, e2⟩ := I.lstM hB
  refine PySem.P.add_list e e2 ?_ (by rw [List.size_toArray, List.size_toArray]; omega)
  have ea : its.toArray ++ its2.toArray = (its ++ its2).toArray := by simp
  rw [ea]
  exact ⟨.ref _, _, I.lnew (t' := s.toks) (r.append r2) (by rw [List.length_append]; omega), rfl, q _ I.fresh⟩
/-- a list times an int (a negative one is nothing) -/
def rRep : R2 := fun x y H Q => ∃ l k xs, x = .ref l ∧ y = .int k ∧ H l = some (.lst xs) ∧ -(2 ^ 63) ≤ k ∧ k < 2 ^ 63 ∧ xs.length * k.toNat ≤ sizeLine ∧
  ∀ p, H p = none → Q (.ref p) (upd H p (.lst (List.replicate k.toNat xs).flatten))
theorem len_rep {α : Type} (xs : List α) (k : Nat) : (List.replicate k xs).flatten.length = k * xs.length := by
  induction k with
  | zero => simp
  | succ k ih => rw [List.replicate_succ, List.flatten_cons, List.length_append, ih, Nat.succ_mul, Nat.add_comm]
theorem op_rep : OpR X (binaryOp .Mult) rRep := by
  intro pins s σ H x y v u Q I rx ry h
  obtain ⟨l, k, xs, rfl, rfl, hH, h1, h2, hz, q⟩ := h
  cases rx
  obtain ⟨t, rfl⟩ := ry
  obtain ⟨z, its, n, r, hl, e⟩ := I.lstM hH
  have hlen : its.toArray.size * k.toNat ≤ sizeLine := by rw [List.size_toArray, ← hl]; exact hz
  have hcap : ¬ its.toArray.size * k.toNat > (2 ^ 63 - 1) / 8 := by
    have : (sizeLine : Nat) ≤ (2 ^ 63 - 1) / 8 := by decide
    omega
  have hfit : ¬ (!Builtin.List.listFitsIndex k) = true := by
    rw [fitsIndex_both h1 h2]
    exact Bool.false_ne_true
  have hlong : ¬ Builtin.List.listTooLong (its.toArray.size * k.toNat) = true := by
    rw [notLongL hlen]
    exact Bool.false_ne_true
  have hnew : List.foldl (fun x1 x2 => x1 ++ x2) #[] (List.replicate (if its.toArray.isEmpty = true then 0 else k.toNat) its.toArray) = (List.replicate k.toNat its).flatten.toArray := by
    have f0 : ∀ m : Nat, List.foldl (fun x1 x2 => x1 ++ x2) #[] (List.replicate m its.toArray) = (List.replicate m its).flatten.toArray := fun m => by
      have := foldl_rep its m []
      rw [List.nil_append] at this
      exact this
    rw [f0]
    cases its with
    | nil => simp
    | cons a r' => rw [if_neg (by simp)]
  refine wpAny_binaryOp_repeat_ref (T := "list") (U := "int") (by decide) ⟨_, e, rfl⟩ (fun s' => typeIs_int s' k t) noFill_list_mul F.fills_int_mul F.slot_int_rmul repeat_list F.slot_int_index.lookup
    (call_meets F.slot_int_rmul (typeIs_int s k t) F.entry_int_rmul (F.args_int_rmul_2 _ _) (int___rmul___int_list k t l its.toArray n)
      ⟨e, rfl, ⟨_, e, rfl⟩, call_meets F.slot_list_mul ⟨_, e, rfl⟩ F.entry_list_mul (F.args_list_mul_2 _ _) (AutoListH.list___mul___list_int_3 l its.toArray n k t hfit hcap hlong) ⟨e, ?_⟩⟩)
  rw [hnew]
  exact ⟨.ref _, _, I.lnew (t' := s.toks) (r.rep k.toNat) (by rw [len_rep, Nat.mul_comm]; exact hz), rfl, q _ I.fresh⟩

/-! ### del xs[i] -/
theorem del_list {pins : List (Addr × Obj)} {s : Shared} {σ : St} {H : Hp} {l : Addr} {xs : List V} {i : Int} {t : Tok} {k : Nat} {Q : Unit → Shared → Prop} (I : Inv X pins σ H s) (hH : H l = some (.lst xs))
    (h1 : -(2 ^ 63) ≤ i) (h2 : i < 2 ^ 63) (hk : seqIndex? i xs.length = some k) (h : ∀ s', Inv X pins σ (upd H l (.lst (xs.eraseIdx k))) s' → Q () s') :
    wpAny (model X.prog X.w) X.A (delItem (.ref l) (.int i t)) Q X.xe s := by
  obtain ⟨z, its, n, r, hl, e⟩ := I.lstM hH
  refine PySem.P.delItem_list (k := k) e (fitsIndex_both h1 h2) (by rw [List.size_toArray, ← hl]; exact hk) (h _ ?_) (by rw [List.size_toArray]; omega)
  refine I.lset (its' := its.eraseIdx k) (t' := s.toks) hH e ?_ (r.eraseIdx k) ?_
  · show its.toArray.eraseIdxIfInBounds k = (its.eraseIdx k).toArray
    rw [List.eraseIdxIfInBounds_toArray]
  · have := len_erase xs k
    omega
end

/-! ### xs[a:b] = ys -/
section
variable {prog : Program} {w : World} {A : Around} {E : Value → Shared → Prop} {s : Shared}
theorem splice_eq (its its2 : List Value) (a c : Nat) : its.toArray.extract 0 a ++ its2.toArray ++ its.toArray.extract c its.toArray.size = (its.take a ++ its2 ++ its.drop c).toArray := by
  apply Array.toList_inj.mp
  first
    | (simp
       exact List.take_of_length_le (by simp))
    | simp [List.take_of_length_le]
    | simp
theorem bounds_run {a c n : Nat} (hac : a ≤ c) (hc : c ≤ n) : sliceBounds (some (a : Int)) (some (c : Int)) none n = ((a : Int), (c : Int), 1) := by
  simp only [sliceBounds, Option.getD_none]
  have h1 : ¬ ((a : Int) < 0) := by omega
  have h2 : ¬ ((c : Int) < 0) := by omega
  simp only [h1, h2, if_false, show (1 : Int) > 0 by decide, if_true]
  congr 1
  · omega
  · congr 1; omega
set_option maxRecDepth 100000 in
/-- list.__setitem__ with a slice of step one and another list -/
theorem setItem_slice {l b sl : Addr} {items new : Array Value} {n n2 : Nat} {vl vu : Value} {a c : Nat} {Q : Unit → Shared → Prop}
    (e : s.heap.get? l = some { cls := .type "list", data := .seq items n }) (e2 : s.heap.get? b = some { cls := .type "list", data := .seq new n2 }) (hne : l ≠ b)
    (hs : s.heap.IsSliceOf sl vl vu .none) (pl : IsPart vl (some (a : Int))) (pu : IsPart vu (some (c : Int))) (hac : a ≤ c) (hc : c ≤ items.size)
    (hsz : items.size + new.size ≤ sizeLine) (h : Q () { s with heap := s.heap.update l (Obj.mapSeq fun xs => xs.extract 0 a ++ new ++ xs.extract c xs.size) }) :
    wpAny (model prog w) A (setItem (.ref l) (.ref sl) (.ref b)) Q E s := by
  have hl : s.heap.IsList l items := PySem.IsL.isList e
  have hb : s.heap.IsList b new := PySem.IsL.isList e2
  obtain ⟨os, hos, hcs, hds⟩ := id hs
  have hTs : s.TypeIs (.ref sl) "slice" := ⟨os, hos, hcs⟩
  have hstep : ¬ ((rawPart none == rawInt 0) = true) := Bool.false_ne_true
  have hsame : Builtin.List.listSameRef (.ref l) (.ref b) = false := by
    unfold Builtin.List.listSameRef
    exact beq_eq_false_iff_ne.mpr hne
  have hmax : (max (a : Int) (c : Int)).toNat = c := by omega
  have hz' : ((fun xs : Array Value => xs.extract 0 a ++ new ++ xs.extract c xs.size) items).size ≤ sizeLine + 1 := by
    simp only [Array.size_append, Array.size_extract]
    omega
  unfold setItem
  try with_reducible refine wpAny_holding ?_
  first | refine wpAny_bind (wpAny_pure ?_) | skip
  refine wpAny_bind (wpAny_sequenceKey hl.typeIs (by decide) ?_)
  refine wpAny_bind (wpAny_callSpecial?_slot (name := Str.ofString "__setitem__") hl.typeIs slot_list_setitem
    (wpAny_call_entry slot_list_setitem hl.typeIs entry_list_setitem ?_ (args_list_setitem _ _ _)))
  show wpAny _ _ (Builtin.List.listSubscript? (.ref sl) >>= _) _ _ s
  refine wpAny_bind ?_
  unfold Builtin.List.listSubscript?
  refine wpAny_bind (wpAny_specialOf hTs slice_no_index ?_)
  simp only [Option.isNone_none, if_true]
  refine wpAny_pure ?_
  show wpAny _ _ (typeOf (.ref sl) >>= _) _ _ s
  refine wpAny_bind (wpAny_typeOf hTs ?_)
  first
    | rw [if_neg (by decide)]
    | refine PySem.W.KFB.if_not (by decide) ?_
  rw [listSliceParts_eq]
  refine wpAny_bind (wpAny_bind (wpAny_field hos hds (x := .none) rfl (wpAny_bind (wpAny_listPart .none ?_))))
  rw [if_neg hstep]
  refine wpAny_bind (wpAny_field hos hds (x := vl) rfl (wpAny_bind (wpAny_listPart pl ?_)))
  refine wpAny_bind (wpAny_field hos hds (x := vu) rfl (wpAny_bind (wpAny_listPart pu (wpAny_pure ?_))))
  first
    | simp only [hsame, Bool.false_eq_true, if_false]
    | refine PySem.W.KFB.if_not hsame ?_
    | (dsimp only
       rw [if_neg (by rw [hsame]; exact Bool.false_ne_true)])
  refine wpAny_bind (m := Builtin.List.listAllItems (.ref b) "must assign iterable to extended slice") ?_
  unfold Builtin.List.listAllItems
  refine wpAny_bind (wpAny_typeOf hb.typeIs ?_)
  first
    | refine PySem.W.KFB.if_so (by decide) ?_
    | rw [if_pos (by decide)]
    | simp only [beq_self_eq_true, Bool.true_or, if_true]
  unfold Builtin.List.listItems
  refine wpAny_bind (wpAny_seqItems e2 rfl (wpAny_pure ?_))
  refine wpAny_bind (wpAny_bind (wpAny_seqItems e rfl (wpAny_pure ?_)))
  refine wpAny_bind (wpAny_of_eq ((sliceIndices_raw (some (a : Int)) (some (c : Int)) none items.size (by simp)).trans (congrArg (pure : Int × Int × Int → Sem (Int × Int × Int)) (bounds_run hac hc))) ?_)
  show wpAny _ _ (if ((1 : Int) == 1) = true then _ else _) _ _ s
  rw [if_pos (by decide)]
  refine wpAny_bind (wpAny_rule ?_)
  first
    | simp only [notLongL hsz, Bool.false_eq_true, if_false]
    | refine PySem.W.KFB.if_not (notLongL hsz) ?_
  first | refine wpAny_bind (wpAny_pure ?_) | skip
  show wpAny _ _ (updateSeq l (fun xs => xs.extract 0 ((a : Int)).toNat ++ new ++ xs.extract (max (a : Int) (c : Int)).toNat xs.size) >>= _) _ _ s
  rw [hmax, Int.toNat_natCast]
  refine wpAny_bind (wpAny_updateSeq (hz := Nat.le_trans (Nat.le_add_right _ _) hsz) (_hz' := hz') e rfl ?_)
  refine wpAny_bind (wpAny_letGo ?_)
  first
    | exact wpAny_bind (wpAny_pure (wpAny_pure ⟨.none, rfl, wpAny_pure h⟩))
    | exact wpAny_pure ⟨.none, rfl, wpAny_pure h⟩
end

section
variable {X : Cx}
/-- xs[a:c] = ys of another list, at the value level: sl is the slice object that was just made -/
theorem set_slice {pins : List (Addr × Obj)} {s : Shared} {σ : St} {H : Hp} {l b sl : Addr} {xs ys : List V} {a c : Int} {vl vu : Value} {Q : Unit → Shared → Prop} (I : Inv X pins σ H s)
    (hH : H l = some (.lst xs)) (hB : H b = some (.lst ys)) (hne : l ≠ b) (hs : s.heap.IsSliceOf sl vl vu .none) (ra : RelV (.int a) vl) (rc : RelV (.int c) vu) (h0 : 0 ≤ a) (hac : a ≤ c) (hc : c ≤ xs.length)
    (hz : xs.length + ys.length ≤ sizeLine) (h : ∀ s', Inv X pins σ (upd H l (.lst (xs.take a.toNat ++ ys ++ xs.drop c.toNat))) s' → Q () s') :
    wpAny (model X.prog X.w) X.A (setItem (.ref l) (.ref sl) (.ref b)) Q X.xe s := by
  obtain ⟨ta, rfl⟩ := ra
  obtain ⟨tc, rfl⟩ := rc
  obtain ⟨z, its, n, r, hl, e⟩ := I.lstM hH
  obtain ⟨z2, its2, n2, r2, hl2, e2⟩ := I.lstM hB
  obtain ⟨a', rfl⟩ := Int.eq_ofNat_of_zero_le h0
  obtain ⟨c', rfl⟩ := Int.eq_ofNat_of_zero_le (Int.le_trans h0 hac)
  simp only [Int.toNat_natCast] at h
  refine setItem_slice (a := a') (c := c') e e2 hne hs (.int _ _) (.int _ _) (by omega) (by rw [List.size_toArray]; omega) (by rw [List.size_toArray, List.size_toArray]; omega) (h _ ?_)
  refine I.lset (its' := its.take a' ++ its2 ++ its.drop c') (t' := s.toks) hH e ?_ (Vals.append (Vals.append (r.take _) r2) (r.drop _)) ?_
  · exact splice_eq its its2 a' c'
  · rw [List.length_append, List.length_append, List.length_take, List.length_drop]
    omega
end
end L2

namespace L2
open PySem PySem.Spec PyProof.Rows

/-! ### lists of pairs as tables -/
section
variable {κ : Type} [DecidableEq κ]
def valV (kvs : List (κ × V)) (k : κ) : Option V := (kvs.find? fun kv => decide (kv.1 = k)).map (·.2)
/-- in its place, or at the end -/
def putK (kvs : List (κ × V)) (k : κ) (v : V) : List (κ × V) :=
  if (kvs.any fun kv => decide (kv.1 = k)) = true then kvs.map (fun kv => if kv.1 = k then (kv.1, v) else kv) else kvs ++ [(k, v)]
def dropK (kvs : List (κ × V)) (k : κ) : List (κ × V) := kvs.filter fun kv => decide (kv.1 ≠ k)

theorem valV_nil {k : κ} : valV ([] : List (κ × V)) k = none := rfl
theorem valV_pos {p : κ × V} {r : List (κ × V)} {k : κ} (e : p.1 = k) : valV (p :: r) k = some p.2 := by simp [valV, List.find?_cons, e]
theorem valV_neg {p : κ × V} {r : List (κ × V)} {k : κ} (e : ¬ p.1 = k) : valV (p :: r) k = valV r k := by simp [valV, List.find?_cons, e]
theorem valV_any (k : κ) : ∀ kvs : List (κ × V), (kvs.any fun kv => decide (kv.1 = k)) = (valV kvs k).isSome
  | [] => rfl
  | p :: r => by
    rw [List.any_cons]
    by_cases e : p.1 = k
    · simp only [valV_pos e, decide_eq_true e, Bool.true_or, Option.isSome_some]
    · rw [valV_neg e, decide_eq_false e, Bool.false_or]; exact valV_any k r
theorem valV_map (k j : κ) (y : V) : ∀ kvs : List (κ × V), valV (kvs.map fun kv => if kv.1 = k then (kv.1, y) else kv) j = (valV kvs j).map fun x => if j = k then y else x
  | [] => rfl
  | p :: r => by
    have ih := valV_map k j y r
    rw [List.map_cons]
    by_cases h : p.1 = k
    · rw [if_pos h]
      by_cases e : p.1 = j
      · rw [valV_pos (p := (p.1, y)) e, valV_pos e, Option.map_some, if_pos (e.symm.trans h)]
      · rw [valV_neg (p := (p.1, y)) e, valV_neg e, ih]
    · rw [if_neg h]
      by_cases e : p.1 = j
      · rw [valV_pos (p := p) e, valV_pos e, Option.map_some, if_neg (fun z => h (e.trans z))]
      · rw [valV_neg (p := p) e, valV_neg e, ih]
theorem valV_snoc (k j : κ) (y : V) : ∀ kvs : List (κ × V), valV kvs k = none → valV (kvs ++ [(k, y)]) j = if j = k then some y else valV kvs j
  | [], _ => by
    by_cases e : k = j
    · rw [if_pos e.symm]; exact valV_pos (p := (k, y)) e
    · rw [if_neg (fun z => e z.symm)]; exact valV_neg (p := (k, y)) e
  | p :: r, hn => by
    rw [List.cons_append]
    have hk : ¬ p.1 = k := fun z => by rw [valV_pos z] at hn; cases hn
    rw [valV_neg hk] at hn
    have ih := valV_snoc k j y r hn
    by_cases e : p.1 = j
    · rw [valV_pos e, valV_pos e, if_neg (fun z => hk (e.trans z))]
    · rw [valV_neg e, valV_neg e, ih]
theorem valV_put (kvs : List (κ × V)) (k j : κ) (y : V) : valV (putK kvs k y) j = if j = k then some y else valV kvs j := by
  unfold putK
  by_cases a : (kvs.any fun kv => decide (kv.1 = k)) = true
  · rw [if_pos a, valV_map]
    rw [valV_any] at a
    by_cases e : j = k
    · obtain ⟨x, hx⟩ := Option.isSome_iff_exists.mp a
      rw [if_pos e, e, hx, Option.map_some, if_pos rfl]
    · rw [if_neg e]
      cases valV kvs j with
      | none => rfl
      | some x => rw [Option.map_some, if_neg e]
  · rw [if_neg a]
    refine valV_snoc k j y kvs ?_
    rw [valV_any] at a
    cases q : valV kvs k with
    | none => rfl
    | some x => rw [q] at a; exact (a rfl).elim
theorem length_putK (kvs : List (κ × V)) (k : κ) (v : V) : (putK kvs k v).length ≤ kvs.length + 1 := by
  unfold putK
  split
  · rw [List.length_map]; omega
  · rw [List.length_append, List.length_cons, List.length_nil]; omega
theorem putK_new {kvs : List (κ × V)} {k : κ} (v : V) (h : valV kvs k = none) : putK kvs k v = kvs ++ [(k, v)] := by
  unfold putK
  rw [valV_any, h]
  exact if_neg (by decide)

theorem RelO.isSome_eq {o : Option V} {u : Option Value} (r : RelO o u) : o.isSome = u.isSome := by
  cases o with
  | none => cases u with
    | none => rfl
    | some _ => exact (show False from r).elim
  | some _ => cases u with
    | none => exact (show False from r).elim
    | some _ => rfl
theorem RelO.getD {o : Option V} {u : Option Value} {d : V} {d' : Value} (r : RelO o u) (rd : RelV d d') : RelV (o.getD d) (u.getD d') := by
  cases o with
  | none => cases u with
    | none => exact rd
    | some _ => exact (show False from r).elim
  | some _ => cases u with
    | none => exact (show False from r).elim
    | some _ => exact r

/-- raw tables of the same keys -/
theorem KV.val {kvs : List (κ × V)} {vs : List (κ × Value)} (r : KV kvs vs) (k : κ) : RelO (valV kvs k) (valueAt vs k) := by
  unfold KV at r
  induction r with
  | nil => exact True.intro
  | @cons p q ps qs h t ih =>
    obtain ⟨h1, h2⟩ := h
    by_cases e : p.1 = k
    · have e' : q.1 = k := h1.symm.trans e
      have b : valueAt (q :: qs) k = some q.2 := by simp [valueAt, List.find?_cons, e']
      rw [valV_pos e, b]; exact h2
    · have e' : ¬ q.1 = k := fun z => e (h1.trans z)
      have b : valueAt (q :: qs) k = valueAt qs k := by simp [valueAt, List.find?_cons, e']
      rw [valV_neg e, b]; exact ih
theorem KV.any {kvs : List (κ × V)} {vs : List (κ × Value)} (r : KV kvs vs) (k : κ) : (kvs.any fun kv => decide (kv.1 = k)) = vs.any fun kv => decide (kv.1 = k) := by
  unfold KV at r
  induction r with
  | nil => rfl
  | cons h t ih => rw [List.any_cons, List.any_cons, ih, h.1]
theorem KV.repl {kvs : List (κ × V)} {vs : List (κ × Value)} (r : KV kvs vs) (k : κ) {y : V} {u : Value} (ry : RelV y u) :
    KV (kvs.map fun kv => if kv.1 = k then (kv.1, y) else kv) (vs.map fun kv => if kv.1 = k then (kv.1, u) else kv) := by
  unfold KV at r ⊢
  induction r with
  | nil => exact .nil
  | @cons p q ps qs h t ih =>
    rw [List.map_cons, List.map_cons]
    refine .cons ?_ ih
    obtain ⟨h1, h2⟩ := h
    by_cases e : p.1 = k
    · rw [if_pos e, if_pos (h1.symm.trans e)]; exact ⟨h1, ry⟩
    · rw [if_neg e, if_neg (fun z => e (h1.trans z))]; exact ⟨h1, h2⟩
theorem KV.put {kvs : List (κ × V)} {vs : List (κ × Value)} (r : KV kvs vs) (k : κ) {y : V} {u : Value} (ry : RelV y u) : KV (putK kvs k y) (stored vs k u) := by
  unfold putK stored
  rw [r.any k]
  by_cases e : (vs.any fun kv => decide (kv.1 = k)) = true
  · rw [if_pos e, if_pos e]; exact r.repl k ry
  · rw [if_neg e, if_neg e]; exact Paired.snoc r ⟨rfl, ry⟩
theorem KV.drop {kvs : List (κ × V)} {vs : List (κ × Value)} (r : KV kvs vs) (k : κ) : KV (dropK kvs k) (without vs k) := by
  unfold KV at r ⊢
  unfold dropK without
  induction r with
  | nil => exact .nil
  | @cons p q ps qs h t ih =>
    obtain ⟨h1, h2⟩ := h
    rw [List.filter_cons, List.filter_cons]
    by_cases e : p.1 = k
    · have a : ¬ decide (p.1 ≠ k) = true := by simp [e]
      have b : ¬ decide (q.1 ≠ k) = true := by simp [h1.symm.trans e]
      rw [if_neg a, if_neg b]; exact ih
    · have e' : ¬ q.1 = k := fun z => e (h1.trans z)
      have a : decide (p.1 ≠ k) = true := by simp [e]
      have b : decide (q.1 ≠ k) = true := by simp [e']
      rw [if_pos a, if_pos b]; exact .cons ⟨h1, h2⟩ ih
theorem KV.keys {kvs : List (κ × V)} {vs : List (κ × Value)} (r : KV kvs vs) : kvs.map (·.1) = vs.map (·.1) := by
  unfold KV at r
  induction r with
  | nil => rfl
  | cons h t ih => rw [List.map_cons, List.map_cons, ih, h.1]
theorem KV.length {kvs : List (κ × V)} {vs : List (κ × Value)} (r : KV kvs vs) : kvs.length = vs.length := Paired.length r
theorem dropK_le (kvs : List (κ × V)) (k : κ) : (dropK kvs k).length ≤ kvs.length := List.length_filter_le _ _
end


/-! ### a tracked dict, its keys ints and texts or tuples of these -/
theorem kV_is {P : Program} {w : World} {k : Key} {u : Value} (r : RelV (kV k) u) : (mixKind P w).is k u = true := by
  cases k with
  | inl i => obtain ⟨t, e⟩ := (show ∃ t, u = Value.int i t from r); subst e; exact mixKind_int P w i t
  | inr x => obtain ⟨t, e⟩ := (show ∃ t, u = Value.str x t from r); subst e; exact mixKind_str P w x t
theorem kV_inj {a b : Key} (e : kV a = kV b) : a = b := by
  cases a with
  | inl i => cases b with
    | inl j => have e' : V.int i = V.int j := e; injection e' with e'; rw [e']
    | inr y => exact nomatch (show V.int i = V.str y from e)
  | inr x => cases b with
    | inl j => exact nomatch (show V.str x = V.int j from e)
    | inr y => have e' : V.str x = V.str y := e; injection e' with e'; rw [e']
theorem kVs_inj : ∀ {a b : List Key}, a.map kV = b.map kV → a = b
  | [], [], _ => rfl
  | [], _ :: _, e => by simp at e
  | _ :: _, [], e => by simp at e
  | x :: xs, y :: ys, e => by
    rw [List.map_cons, List.map_cons] at e
    injection e with e1 e2
    rw [kV_inj e1, kVs_inj e2]
theorem items_are {P : Program} {w : World} : ∀ {ks : List Key} {us : List Value}, Vals (ks.map kV) us → ItemsAre (mixKind P w) ks us
  | [], _, r => by rw [List.map_nil] at r; cases r; exact .nil
  | k :: ks, _, r => by
    rw [List.map_cons] at r
    cases r with
    | cons h t => exact .cons (kV_is h) (items_are t)

/-- raw entries of a dict with tuple keys -/
abbrev KT (H : Hp) : List (List Key × V) → List (List Key × Addr × Value) → Prop := Paired fun p q => p.1 = q.1 ∧ H q.2.1 = some (.tup (p.1.map kV)) ∧ RelV p.2 q.2.2
theorem KT.val {H : Hp} {kvs : List (List Key × V)} {xs : List (List Key × Addr × Value)} (r : KT H kvs xs) (k : List Key) : RelO (valV kvs k) ((atKey xs k).map (·.2)) := by
  induction r with
  | nil => exact True.intro
  | @cons p q ps qs h t ih =>
    obtain ⟨h1, _, h2⟩ := h
    by_cases e : p.1 = k
    · have e' : q.1 = k := h1.symm.trans e
      have b : atKey (q :: qs) k = some q.2 := by simp [atKey, List.find?_cons, e']
      rw [valV_pos e, b]; exact h2
    · have e' : ¬ q.1 = k := fun z => e (h1.trans z)
      have b : atKey (q :: qs) k = atKey qs k := by simp [atKey, List.find?_cons, e']
      rw [valV_neg e, b]; exact ih
theorem KT.repl {H : Hp} {kvs : List (List Key × V)} {xs : List (List Key × Addr × Value)} (r : KT H kvs xs) (k : List Key) {y : V} {u : Value} (ry : RelV y u) :
    KT H (kvs.map fun kv => if kv.1 = k then (kv.1, y) else kv) (xs.map (putAt k u)) := by
  induction r with
  | nil => exact .nil
  | @cons p q ps qs h t ih =>
    rw [List.map_cons, List.map_cons]
    refine .cons ?_ ih
    obtain ⟨h1, h2, h3⟩ := h
    unfold putAt
    by_cases e : p.1 = k
    · rw [if_pos e, if_pos (h1.symm.trans e)]; exact ⟨h1, h2, ry⟩
    · rw [if_neg e, if_neg (fun z => e (h1.trans z))]; exact ⟨h1, h2, h3⟩
theorem KT.put {H : Hp} {kvs : List (List Key × V)} {xs : List (List Key × Addr × Value)} (r : KT H kvs xs) (k : List Key) {b : Addr} {y : V} {u : Value} (hb : H b = some (.tup (k.map kV))) (ry : RelV y u) :
    KT H (putK kvs k y) (storedH xs k b u) := by
  have e : (kvs.any fun kv => decide (kv.1 = k)) = (atKey xs k).isSome := by
    rw [valV_any, (r.val k).isSome_eq, Option.isSome_map]
  unfold putK storedH
  rw [e]
  by_cases q : (atKey xs k).isSome = true
  · rw [if_pos q, if_pos q]; exact r.repl k ry
  · rw [if_neg q, if_neg q]; exact Paired.snoc r ⟨rfl, hb, ry⟩
theorem KT.keeps {H H' : Hp} {kvs : List (List Key × V)} {xs : List (List Key × Addr × Value)} (r : KT H kvs xs) (ht : ∀ b ys, H b = some (.tup ys) → H' b = some (.tup ys)) : KT H' kvs xs :=
  Paired.mapP r fun _ _ z => ⟨z.1, ht _ _ z.2.1, z.2.2⟩

section
variable {P : Program} {w : World} {H : Hp} {h : Heap} {a : Addr}
theorem rd_of {u : HO} (ok : HOk P w H h) (e : Rd H a u) : ObjOk P w H h a u := e.ok ok
theorem dk_rd {kvs : List (Key × V)} (ok : HOk P w H h) (e : Rd H a (.dK kvs)) : kvs.length ≤ sizeLine ∧ (a == sysModules) = false ∧ ∃ vs, KV kvs vs ∧ h.DictOf (mixKind P w) a vs :=
  show ObjOk P w H h a (.dK kvs) from rd_of ok e
theorem dk_of {kvs : List (Key × V)} (ok : HOk P w H h) (e : H a = some (.dK kvs)) : kvs.length ≤ sizeLine ∧ (a == sysModules) = false ∧ ∃ vs, KV kvs vs ∧ h.DictOf (mixKind P w) a vs := dk_rd ok (.inl e)
/-- a tracked tuple of ints and texts is a key -/
theorem key_of {ks : List Key} (ok : HOk P w H h) (e : H a = some (.tup (ks.map kV))) : (tupleKind (mixKind P w)).is h ks a := by
  obtain ⟨_, its, r, o, h1, h2, n, h3⟩ := (show ObjOk P w H h a (.tup (ks.map kV)) from ok a _ e)
  exact ⟨o, its.toArray, n, h1, h2, h3, by simpa using items_are r⟩
theorem dt_rd {kvs : List (List Key × V)} (ok : HOk P w H h) (e : Rd H a (.dT kvs)) : kvs.length ≤ sizeLine ∧ (a == sysModules) = false ∧
    ∃ xs, KT H kvs xs ∧ h.DictOfH (tupleKind (mixKind P w)) a xs := by
  obtain ⟨z, y, xs, r, o, es, ep, h1, h2, h3, h4, h5⟩ := (show ObjOk P w H h a (.dT kvs) from rd_of ok e)
  refine ⟨z, y, xs, r, o, es, ep, h1, h2, h3, h4, fun x hx => ?_, h5⟩
  have all : ∀ {l : List (List Key × V)} {m : List (List Key × Addr × Value)}, KT H l m → ∀ x ∈ m, (tupleKind (mixKind P w)).is h x.1 x.2.1 := by
    intro l m q
    induction q with
    | nil => intro x hx; exact nomatch hx
    | @cons p q ps qs hq t ih =>
      intro x hx
      rcases List.mem_cons.mp hx with e | hx
      · subst e
        exact key_of ok (by rw [← hq.1]; exact hq.2.1)
      · exact ih x hx
  exact all r x hx
theorem dt_of {kvs : List (List Key × V)} (ok : HOk P w H h) (e : H a = some (.dT kvs)) : kvs.length ≤ sizeLine ∧ (a == sysModules) = false ∧
    ∃ xs, KT H kvs xs ∧ h.DictOfH (tupleKind (mixKind P w)) a xs := dt_rd ok (.inl e)
end

/-- what the dict at a holds at the key y -/
def DGet (H : Hp) (a : Addr) (y : V) (r : Option V) : Prop :=
  (∃ kvs k, Rd H a (.dK kvs) ∧ y = kV k ∧ r = valV kvs k) ∨ ∃ kvs k b, Rd H a (.dT kvs) ∧ y = .ref b ∧ H b = some (.tup (k.map kV)) ∧ r = valV kvs k
/-- the heap behind a[y] = v -/
def DPut (H : Hp) (a : Addr) (y v : V) (H' : Hp) : Prop :=
  (∃ kvs k, H a = some (.dK kvs) ∧ y = kV k ∧ kvs.length < sizeLine ∧ H' = upd H a (.dK (putK kvs k v))) ∨
  ∃ kvs k b, H a = some (.dT kvs) ∧ y = .ref b ∧ H b = some (.tup (k.map kV)) ∧ kvs.length < sizeLine ∧ H' = upd H a (.dT (putK kvs k v))
theorem DGet.k {H : Hp} {a : Addr} {kvs : List (Key × V)} {k : Key} (e : H a = some (.dK kvs)) : DGet H a (kV k) (valV kvs k) := .inl ⟨kvs, k, .inl e, rfl, rfl⟩
theorem DGet.t {H : Hp} {a b : Addr} {kvs : List (List Key × V)} {k : List Key} (e : H a = some (.dT kvs)) (eb : H b = some (.tup (k.map kV))) : DGet H a (.ref b) (valV kvs k) := .inr ⟨kvs, k, b, .inl e, rfl, eb, rfl⟩
theorem DPut.k {H : Hp} {a : Addr} {kvs : List (Key × V)} {k : Key} {v : V} (e : H a = some (.dK kvs)) (hl : kvs.length < sizeLine) : DPut H a (kV k) v (upd H a (.dK (putK kvs k v))) := .inl ⟨kvs, k, e, rfl, hl, rfl⟩
theorem DPut.t {H : Hp} {a b : Addr} {kvs : List (List Key × V)} {k : List Key} {v : V} (e : H a = some (.dT kvs)) (eb : H b = some (.tup (k.map kV))) (hl : kvs.length < sizeLine) :
    DPut H a (.ref b) v (upd H a (.dT (putK kvs k v))) := .inr ⟨kvs, k, b, e, rfl, eb, hl, rfl⟩


section
variable {X : Cx} {pins : List (Addr × Obj)} {σ : St} {H : Hp} {s : Shared} {a : Addr} {y v : V} {u r : Value} {o : Option V} {A : Around} {E : Value → Shared → Prop}

theorem Inv.big (I : Inv X pins σ H s) : sysModules < s.heap.objs.size := by
  have h : mainGlobals < s.heap.objs.size := (I.mod.glob.keeps I.bk).lt
  exact Nat.lt_trans (by decide) h

/-- d[y], there -/
theorem d_getItem {Q : Value → Shared → Prop} (hu : A.units + 1 < cLine) (I : Inv X pins σ H s) (g : DGet H a y (some v)) (ry : RelV y u) (h : ∀ w' s', Inv X pins σ H s' → RelV v w' → Q w' s') :
    wpAny (model X.prog X.w) A (getItem (.ref a) u) Q E s := by
  rcases g with ⟨kvs, k, e, ey, l⟩ | ⟨kvs, k, b, e, ey, eb, l⟩
  · subst ey
    obtain ⟨z, hd, vs, rel, dd⟩ := dk_rd I.hok e
    obtain ⟨w', hw, rw'⟩ := RelO.some_of (v := v) (o := valueAt vs k) (by rw [l]; exact rel.val k)
    exact wpAny_getItem_of (kV_is ry) dd.mapOf hw (h w' _ (I.tok _) rw')
  · subst ey
    cases (show u = Value.ref b from ry)
    obtain ⟨z, hd, xs, rel, dd⟩ := dt_rd I.hok e
    obtain ⟨w', hw, rw'⟩ := RelO.some_of (v := v) (o := (atKey xs k).map (·.2)) (by rw [l]; exact rel.val k)
    obtain ⟨p, hp, hp2⟩ := Option.map_eq_some_iff.mp hw
    refine wpAny_getItem_heap (tupleKind_room_in1 hu) (key_of I.hok eb) dd hp ?_
    rw [hp2]
    exact h w' _ (I.tok _) rw'
/-- y in d -/
theorem d_in {Q : Value → Shared → Prop} (hu : A.units + 1 < cLine) (I : Inv X pins σ H s) (g : DGet H a y o) (ry : RelV y u) (h : ∀ s', Inv X pins σ H s' → Q (.bool o.isSome) s') :
    wpAny (model X.prog X.w) A (compareOp .In u (.ref a)) Q E s := by
  rcases g with ⟨kvs, k, e, ey, l⟩ | ⟨kvs, k, b, e, ey, eb, l⟩
  · subst ey
    obtain ⟨z, hd, vs, rel, dd⟩ := dk_rd I.hok e
    refine wpAny_in_of (kV_is ry) hd dd.mapOf ?_
    rw [← (rel.val k).isSome_eq, ← l]
    exact h _ (I.tok _)
  · subst ey
    cases (show u = Value.ref b from ry)
    obtain ⟨z, hd, xs, rel, dd⟩ := dt_rd I.hok e
    refine wpAny_in_heap (tupleKind_room_in1 hu) (key_of I.hok eb) hd dd ?_
    have q := (rel.val k).isSome_eq
    rw [Option.isSome_map] at q
    rw [← q, ← l]
    exact h _ (I.tok _)
theorem d_notIn {Q : Value → Shared → Prop} (hu : A.units + 1 < cLine) (I : Inv X pins σ H s) (g : DGet H a y o) (ry : RelV y u) (h : ∀ s', Inv X pins σ H s' → Q (.bool (!o.isSome)) s') :
    wpAny (model X.prog X.w) A (compareOp .NotIn u (.ref a)) Q E s := by
  rcases g with ⟨kvs, k, e, ey, l⟩ | ⟨kvs, k, b, e, ey, eb, l⟩
  · subst ey
    obtain ⟨z, hd, vs, rel, dd⟩ := dk_rd I.hok e
    refine wpAny_notIn_of (kV_is ry) hd dd.mapOf ?_
    rw [← (rel.val k).isSome_eq, ← l]
    exact h _ (I.tok _)
  · subst ey
    cases (show u = Value.ref b from ry)
    obtain ⟨z, hd, xs, rel, dd⟩ := dt_rd I.hok e
    refine wpAny_notIn_heap (tupleKind_room_in1 hu) (key_of I.hok eb) hd dd ?_
    have q := (rel.val k).isSome_eq
    rw [Option.isSome_map] at q
    rw [← q, ← l]
    exact h _ (I.tok _)
/-- a dict's object is replaced -/
theorem d_write {h' : Heap} {t' : Nat} {ob : HO} (I : Inv X pins σ H s) (mu : Mut (H a)) (hs : Heap.SameBut a s.heap h') (he : ∃ q, h'.get? a = some q) (new : ObjOk X.prog X.w (upd H a ob) h' a ob) :
    Inv X pins σ (upd H a ob) { s with heap := h', toks := t' } :=
  I.write (x := a) (e := a) mu (.inl rfl) (fun b q hb z => (hs.2 b hb).trans z) he new
theorem dk_new {P : Program} {w : World} {H' : Hp} {h' : Heap} {kvs : List (Key × V)} {vs : List (Key × Value)} (z : kvs.length ≤ sizeLine) (hd : (a == sysModules) = false) (rel : KV kvs vs) (dd : h'.DictOf (mixKind P w) a vs) :
    ObjOk P w H' h' a (.dK kvs) := ⟨z, hd, vs, rel, dd⟩
/-- d[y] = v -/
theorem d_setItem {H' : Hp} {Q : Unit → Shared → Prop} (hu : A.units + 1 < cLine) (I : Inv X pins σ H s) (g : DPut H a y v H') (ry : RelV y u) (rv : RelV v r) (h : ∀ s', Inv X pins σ H' s' → Q () s') :
    wpAny (model X.prog X.w) A (setItem (.ref a) u r) Q E s := by
  rcases g with ⟨kvs, k, e, ey, l, eH⟩ | ⟨kvs, k, b, e, ey, eb, l, eH⟩
  · subst ey eH
    obtain ⟨z, hd, vs, rel, dd⟩ := dk_of I.hok e
    have hz : vs.length ≤ sizeLine := by rw [← rel.length]; exact z
    have hl : (putK kvs k v).length ≤ sizeLine := by have := length_putK kvs k v; omega
    refine wpAny_setItem_pairs (hsz := hz) (kV_is ry) dd fun h' dd' hs => h _ ?_
    have he : ∃ q, h'.get? a = some q := let ⟨q, _, _, hq, _⟩ := dd'; ⟨q, hq⟩
    exact d_write I (by rw [e]; exact True.intro) hs he (dk_new hl hd (rel.put k rv) dd')
  · subst ey eH
    cases (show u = Value.ref b from ry)
    obtain ⟨z, hd, xs, rel, dd⟩ := dt_of I.hok e
    have hz : xs.length ≤ sizeLine := by rw [← Paired.length rel]; exact z
    have hl : (putK kvs k v).length ≤ sizeLine := by have := length_putK kvs k v; omega
    refine wpAny_setItem_heap (hsz := hz) (tupleKind_room_in1 hu) (key_of I.hok eb) dd fun h' dd' hs => h _ ?_
    obtain ⟨q, es, ep, hq, h2, h3, h4, _, h5⟩ := dd'
    refine d_write I (by rw [e]; exact True.intro) hs ⟨q, hq⟩ ⟨hl, hd, _, (rel.put k eb rv).keeps fun c ys ec => ?_, q, es, ep, hq, h2, h3, h4, h5⟩
    rw [upd_ne (ne_of ec e (fun z => nomatch z))]
    exact ec
end

section
variable {X : Cx} {pins : List (Addr × Obj)} {σ : St} {H : Hp} {s : Shared} {a : Addr} {kvs : List (Key × V)} {k : Key} {u : Value} {A : Around} {E : Value → Shared → Prop}
/-- del d[k] -/
theorem d_delItem {Q : Unit → Shared → Prop} (I : Inv X pins σ H s) (e : H a = some (.dK kvs)) (ry : RelV (kV k) u) (l : (valV kvs k).isSome = true) (h : ∀ s', Inv X pins σ (upd H a (.dK (dropK kvs k))) s' → Q () s') :
    wpAny (model X.prog X.w) A (delItem (.ref a) u) Q E s := by
  obtain ⟨z, hd, vs, rel, dd⟩ := dk_of I.hok e
  refine wpAny_delItem_slot dd.typeIs (by decide) PySem.F.slot_dict_delitem
    (call_meetsIn PySem.F.slot_dict_delitem dd.typeIs PySem.F.entry_dict_delitem (PySem.F.args_dict_delitem_2 _ _) (meets_dict_delitem_pairs (mixKind X.prog X.w) a (kV_is ry)) ⟨vs, dd, by rw [← rel.length]; exact z, by rw [← (rel.val k).isSome_eq]; exact l, fun h' dd' hs => h _ ?_⟩)
  have he : ∃ q, h'.get? a = some q := let ⟨q, _, _, hq, _⟩ := dd'; ⟨q, hq⟩
  exact d_write I (by rw [e]; exact True.intro) hs he (dk_new (Nat.le_trans (dropK_le kvs k) z) hd (rel.drop k) dd')
/-- d.pop(k[, x]), there -/
theorem d_pop {v : V} {more : List Value} {Q : Value → Shared → Prop} (I : Inv X pins σ H s) (e : H a = some (.dK kvs)) (ry : RelV (kV k) u) (l : valV kvs k = some v) (hm : more = [] ∨ ∃ x, more = [x])
    (h : ∀ w' s', Inv X pins σ (upd H a (.dK (dropK kvs k))) s' → RelV v w' → Q w' s') : wpAny (model X.prog X.w) A (call (.builtin "dict.pop") (.ref a :: u :: more)) Q E s := by
  obtain ⟨z, hd, vs, rel, dd⟩ := dk_of I.hok e
  obtain ⟨w', hw, rw'⟩ := RelO.some_of (v := v) (o := valueAt vs k) (by rw [← l]; exact rel.val k)
  have hp : (keyPart u).isSome = true := by
    cases k with
    | inl i => obtain ⟨t, q⟩ := (show ∃ t, u = Value.int i t from ry); subst q; rfl
    | inr x => obtain ⟨t, q⟩ := (show ∃ t, u = Value.str x t from ry); subst q; rfl
  have ha : argsOk "dict.pop" ⟨.ref a :: u :: more, []⟩ := by
    rcases hm with q | ⟨x, q⟩
    · subst q; exact PySem.F.args_dict_pop_2 _ _
    · subst q; exact PySem.F.args_dict_pop_3 _ _ _
  refine call_meetsIn PySem.F.slot_dict_pop dd.typeIs PySem.F.entry_dict_pop ha (meets_dict_pop_there (mixKind X.prog X.w) a (kV_is ry) more hm hp)
    ⟨vs, w', dd, by rw [← rel.length]; exact z, hw, fun h' dd' hs => h w' _ ?_ rw'⟩
  have he : ∃ q, h'.get? a = some q := let ⟨q, _, _, hq, _⟩ := dd'; ⟨q, hq⟩
  exact d_write I (by rw [e]; exact True.intro) hs he (dk_new (Nat.le_trans (dropK_le kvs k) z) hd (rel.drop k) dd')
/-- d.pop(k, x), not there -/
theorem d_popD {r : Value} {Q : Value → Shared → Prop} (I : Inv X pins σ H s) (e : H a = some (.dK kvs)) (ry : RelV (kV k) u) (l : valV kvs k = none) (h : ∀ s', Inv X pins σ H s' → Q r s') :
    wpAny (model X.prog X.w) A (call (.builtin "dict.pop") [.ref a, u, r]) Q E s := by
  obtain ⟨z, hd, vs, rel, dd⟩ := dk_of I.hok e
  have hn : valueAt vs k = none := RelO.none_of (by rw [← l]; exact rel.val k)
  have hp : (keyPart u).isSome = true := by
    cases k with
    | inl i => obtain ⟨t, q⟩ := (show ∃ t, u = Value.int i t from ry); subst q; rfl
    | inr x => obtain ⟨t, q⟩ := (show ∃ t, u = Value.str x t from ry); subst q; rfl
  exact call_meetsIn PySem.F.slot_dict_pop dd.typeIs PySem.F.entry_dict_pop (PySem.F.args_dict_pop_3 _ _ _) (meets_dict_pop_default (mixKind X.prog X.w) a (kV_is ry) hd hp r) ⟨vs, dd, hn, h _ (I.tok _)⟩
/-- d.clear() -/
theorem d_clear {Q : Value → Shared → Prop} (I : Inv X pins σ H s) (e : H a = some (.dK kvs)) (h : ∀ s', Inv X pins σ (upd H a (.dK [])) s' → Q .none s') : wpAny (model X.prog X.w) A (call (.builtin "dict.clear") [.ref a]) Q E s := by
  obtain ⟨z, hd, vs, rel, dd⟩ := dk_of I.hok e
  refine call_meetsIn PySem.F.slot_dict_clear dd.typeIs PySem.F.entry_dict_clear (PySem.F.args_dict_clear_1 _) (meets_dict_clear (mixKind X.prog X.w) a) ⟨vs, dd, by rw [← rel.length]; exact z, fun h' dd' hs => h _ ?_⟩
  have he : ∃ q, h'.get? a = some q := let ⟨q, _, _, hq, _⟩ := dd'; ⟨q, hq⟩
  exact d_write (t' := s.toks) I (by rw [e]; exact True.intro) hs he (dk_new (Nat.zero_le _) hd .nil dd')
/-- len(d) -/
theorem d_len {Q : Value → Shared → Prop} (I : Inv X pins σ H s) (e : Rd H a (.dK kvs)) (h : ∀ t s', Inv X pins σ H s' → Q (.int kvs.length t) s') : wpAny (model X.prog X.w) A (call (.builtin "len") [.ref a]) Q E s := by
  obtain ⟨z, hd, vs, rel, dd⟩ := dk_rd I.hok e
  refine call_len_dict hd dd (by rw [← rel.length]; rw [sizeLine_eq] at z; omega) ?_
  rw [← rel.length]
  exact h _ _ (I.tok _)
/-- if d -/
theorem d_truth {Q : Bool → Shared → Prop} (I : Inv X pins σ H s) (e : Rd H a (.dK kvs)) (h : ∀ s', Inv X pins σ H s' → Q (!kvs.isEmpty) s') : wpAny (model X.prog X.w) A (truthy (.ref a)) Q E s := by
  obtain ⟨z, hd, vs, rel, dd⟩ := dk_rd I.hok e
  refine wpAny_truthy_dict hd dd (by rw [← rel.length]; rw [sizeLine_eq] at z; omega) ?_
  have q : kvs.isEmpty = vs.isEmpty := by cases rel <;> rfl
  rw [← q]
  exact h _ (I.tok _)
end


/-! ### readings and rules -/
/-- the element of a subscription, not a slice -/
def NoSl (i : Expr) : Prop := ∀ ov iv, subscripted i false ov iv = operate [ov, iv] (getItem ov iv)
theorem subD_of {prog : Program} {w : World} {A : Around} {E : Value → Shared → Prop} {s : Shared} {env : Env} {value slice : Expr} {pos : Pos} {T id : String} {Q : Value → Shared → Prop}
    (hl : typeLookup (.type T) "__getitem__" = pure (some (.builtin id))) (hs : NoSl slice)
    (h : wpAny (model prog w) A (eval value env) (fun o s₁ => wpAny (model prog w) A (eval slice env) (fun i s₂ => s₂.TypeIs o T ∧ wpAny (model prog w) A (getItem o i) Q E s₂) E s₁) E s) :
    wpAny (model prog w) A (eval (.Subscript value slice pos) env) Q E s := by
  refine Subscript_ (wpAny_mono h (fun o s₁ h₁ => wpAny_mono h₁ (fun i s₂ h₂ => ?_) fun _ _ x => x) fun _ _ x => x)
  obtain ⟨hT, h₂⟩ := h₂
  unfold subscriptTail
  refine wpAny_bind ?_
  rw [getitemInPython_of_ne hT.not_modules]
  refine wpAny_bind (wpAny_specialOf hT hl ?_)
  have fin : wpAny (model prog w) A (subscripted slice false o i) (fun r s₃ => wpAny (model prog w) A (letTemporaryGo value o r >>= fun _ => pure r) Q E s₃) E s₂ := by
    rw [hs o i]
    exact wpAny_operating (wpAny_mono h₂ (fun r s₃ h₃ => wpAny_bind (wpAny_letTemporaryGo (wpAny_pure h₃))) fun _ _ x => x)
  first
    | exact wpAny_pure (wpAny_bind fin)
    | exact wpAny_bind (wpAny_pure (wpAny_bind fin))
    | exact wpAny_bind fin

theorem dict_typeIs {X : Cx} {pins : List (Addr × Obj)} {σ : St} {H : Hp} {s : Shared} {a : Addr} {y : V} {o : Option V} (I : Inv X pins σ H s) (g : DGet H a y o) : s.TypeIs (.ref a) "dict" := by
  rcases g with ⟨kvs, k, e, _, _⟩ | ⟨kvs, k, b, e, _, _, _⟩
  · obtain ⟨_, _, vs, _, dd⟩ := dk_rd I.hok e
    exact dd.typeIs
  · obtain ⟨_, _, xs, _, dd⟩ := dt_rd I.hok e
    exact dd.typeIs
theorem dict_noDict {X : Cx} {pins : List (Addr × Obj)} {σ : St} {H : Hp} {s : Shared} {a : Addr} {y : V} {o : Option V} (I : Inv X pins σ H s) (g : DGet H a y o) :
    ∀ b, Value.ref a = .ref b → ∃ ob, s.heap.get? b = some ob ∧ ob.dict = none := fun b q => by
  cases q
  rcases g with ⟨kvs, k, e, _, _⟩ | ⟨kvs, k, b, e, _, _, _⟩
  · obtain ⟨_, _, vs, _, ob, _, _, h1, h2, _⟩ := dk_rd I.hok e
    exact ⟨ob, h1, h2.2.1⟩
  · obtain ⟨_, _, xs, _, ob, _, _, h1, h2, _⟩ := dt_rd I.hok e
    exact ⟨ob, h1, h2.2.1⟩

/-- d[y] -/
def tDGet (td ty : TE) : TE := fun σ H Q => td σ H fun x H1 => ty σ H1 fun y H2 => ∃ a v, x = .ref a ∧ DGet H2 a y (some v) ∧ Q v H2
/-- y in d, y not in d -/
def tDIn (ty td : TE) : TE := fun σ H Q => ty σ H fun y H1 => td σ H1 fun x H2 => ∃ a o, x = .ref a ∧ DGet H2 a y o ∧ Q (.bl o.isSome) H2
def tDNotIn (ty td : TE) : TE := fun σ H Q => ty σ H fun y H1 => td σ H1 fun x H2 => ∃ a o, x = .ref a ∧ DGet H2 a y o ∧ Q (.bl (!o.isSome)) H2
/-- d[y] = v -/
def sDPut (td ty tv : TE) : TS := fun D σ H => tv σ H fun v H1 => td σ H1 fun x H2 => ty σ H2 fun y H3 => ∃ a H4, x = .ref a ∧ DPut H3 a y v H4 ∧ D.nx σ H4
/-- d[y] op= v -/
def sDAug (td ty tv : TE) (rd : V → V → Hp → VK → Prop) : TS := fun D σ H => td σ H fun x H1 => ty σ H1 fun y H2 => ∃ a v, x = .ref a ∧ DGet H2 a y (some v) ∧
  tv σ H2 fun y2 H3 => rd v y2 H3 fun z H4 => ∃ H5, DPut H4 a y z H5 ∧ D.nx σ H5
/-- del d[y] -/
def sDDel (td ty : TE) : TS := fun D σ H => td σ H fun x H1 => ty σ H1 fun y H2 => ∃ a kvs k, x = .ref a ∧ H2 a = some (.dK kvs) ∧ y = kV k ∧ (valV kvs k).isSome = true ∧ D.nx σ (upd H2 a (.dK (dropK kvs k)))

section
variable {X : Cx} {o i e value : Expr} {pos pos' tpos : Pos} {td ty tv : TE}
theorem pe_dget (hu : X.A.units + 1 < cLine) (ho : PE X o td) (hi : PE X i ty) (hs : NoSl i) : PE X (.Subscript o i pos) (tDGet td ty) := by
  intro pins s σ H Q I h
  refine subD_of PySem.F.slot_dict_getitem.lookup hs (thn (ho pins s σ H _ I h) fun u s1 ⟨x, H1, I1, rx, q1⟩ => thn (hi pins s1 σ H1 _ I1 q1) fun iv s2 ⟨y, H2, I2, ry, a, v, ex, g, q2⟩ => ?_)
  subst ex
  obtain rfl : u = Value.ref a := rx
  exact ⟨dict_typeIs I2 g, d_getItem hu I2 g ry fun w' s3 I3 rw' => ⟨v, H2, I3, rw', q2⟩⟩
theorem pc_din (hu : X.A.units + 1 < cLine) (hi : PE X i ty) (ho : PE X o td) : PC X .In i o (tDIn ty td) := by
  intro pins s σ H Q I h
  refine thn (hi pins s σ H _ I h) fun iv s1 ⟨y, H1, I1, ry, q1⟩ => thn (ho pins s1 σ H1 _ I1 q1) fun u s2 ⟨x, H2, I2, rx, a, ov, ex, g, q2⟩ => ?_
  subst ex
  obtain rfl : u = Value.ref a := rx
  exact d_in hu I2 g ry fun s3 I3 => ⟨.bl ov.isSome, H2, I3, rfl, q2⟩
theorem pc_dnotin (hu : X.A.units + 1 < cLine) (hi : PE X i ty) (ho : PE X o td) : PC X .NotIn i o (tDNotIn ty td) := by
  intro pins s σ H Q I h
  refine thn (hi pins s σ H _ I h) fun iv s1 ⟨y, H1, I1, ry, q1⟩ => thn (ho pins s1 σ H1 _ I1 q1) fun u s2 ⟨x, H2, I2, rx, a, ov, ex, g, q2⟩ => ?_
  subst ex
  obtain rfl : u = Value.ref a := rx
  exact d_notIn hu I2 g ry fun s3 I3 => ⟨.bl (!ov.isSome), H2, I3, rfl, q2⟩
theorem ps_dput (hu : X.A.units + 1 < cLine) (ho : PE X o td) (hi : PE X i ty) (hv : PE X value tv) (hs : swapsWith value (some (.Subscript o i pos')) pos.line X.env = pure false) :
    PS X (.Assign [.Subscript o i pos'] value pos) (sDPut td ty tv) := by
  intro pins s σ H D I h
  refine wpAny_Assign_Subscript (thn (hv pins s σ H _ I h) fun r s1 ⟨v, H1, I1, rv, q1⟩ => thn (ho pins s1 σ H1 _ I1 q1) fun u s2 ⟨x, H2, I2, rx, q2⟩ => thn (hi pins s2 σ H2 _ I2 q2) fun iv s3 ⟨y, H3, I3, ry, a, H4, ex, g, q3⟩ => ?_) hs
  subst ex
  obtain rfl : u = Value.ref a := rx
  exact d_setItem hu I3 g ry rv fun s4 I4 => ⟨σ, H4, I4, q3⟩
theorem ps_daug {op : Operator} {rd : V → V → Hp → VK → Prop} (hu : X.A.units + 1 < cLine) (ho : PE X o td) (hi : PE X i ty) (hv : PE X value tv) (hop : InOp X op rd)
    (ha : ∀ ov iv new, augStore i ov iv new = (do holding [new, ov, iv] (setItem ov iv new); release [new, ov, iv] []; pure .next)) : PS X (.AugAssign (.Subscript o i tpos) op value pos) (sDAug td ty tv rd) := by
  intro pins s σ H D I h
  refine wpAny_AugAssign_SubscriptAny (thn (ho pins s σ H _ I h) fun u s1 ⟨x, H1, I1, rx, q1⟩ => thn (hi pins s1 σ H1 _ I1 q1) fun iv s2 ⟨y, H2, I2, ry, a, v, ex, g, q2⟩ => ?_) ha
  subst ex
  obtain rfl : u = Value.ref a := rx
  refine d_getItem hu I2 g ry fun w' s3 I3 rw' => thn (hv pins s3 σ H2 _ I3 q2) fun w2 s4 ⟨y2, H3, I4, ry2, q3⟩ => thn (hop pins s4 σ H3 v y2 w' w2 _ I4 rw' ry2 q3) fun w3 s5 ⟨z, H4, I5, rz, H5, g5, q4⟩ => ?_
  exact d_setItem hu I5 g5 ry rz fun s6 I6 => ⟨σ, H5, I6, q4⟩
theorem ps_ddel (ho : PE X o td) (hi : PE X i ty) : PS X (.Delete [.Subscript o i tpos] pos) (sDDel td ty) := by
  intro pins s σ H D I h
  refine wpAny_Delete (wpAny_deleteEach_cons (wpAny_delete_Subscript (thn (ho pins s σ H _ I h) fun u s1 ⟨x, H1, I1, rx, q1⟩ => thn (hi pins s1 σ H1 _ I1 q1) fun iv s2 ⟨y, H2, I2, ry, a, kvs, k, ex, e, ey, l, q2⟩ => ?_)))
  subst ex ey
  obtain rfl : u = Value.ref a := rx
  exact d_delItem I2 e ry l fun s3 I3 => wpAny_deleteEach_nil ⟨σ, _, I3, q2⟩
end


/-! ### displays -/
theorem dk_empty {P : Program} {w : World} {H : Hp} (h : Heap) (hb : sysModules < h.objs.size) : ObjOk P w H (h.push { cls := .type "dict", data := .dict #[] }) h.objs.size (.dK []) :=
  ⟨Nat.zero_le _, beq_eq_false_iff_ne.mpr (Ne.symm (Nat.ne_of_lt hb)), [], .nil, Heap.DictOf.new h⟩
theorem dt_empty {P : Program} {w : World} {H : Hp} (h : Heap) (hb : sysModules < h.objs.size) : ObjOk P w H (h.push { cls := .type "dict", data := .dict #[] }) h.objs.size (.dT []) :=
  ⟨Nat.zero_le _, beq_eq_false_iff_ne.mpr (Ne.symm (Nat.ne_of_lt hb)), [], .nil, _, #[], 0, Heap.get?_push_size _ rfl, ⟨rfl, rfl, rfl⟩, rfl, rfl, List.nodup_nil⟩
/-- {}, to be a dict of the kind that is wanted -/
def tDNewK : TE := fun _ H Q => ∀ p, H p = none → Q (.ref p) (upd H p (.dK []))
def tDNewT : TE := fun _ H Q => ∀ p, H p = none → Q (.ref p) (upd H p (.dT []))
section
variable {X : Cx} {pos : Pos}
theorem pe_dnewK : PE X (.Dict [] [] pos) tDNewK := fun pins s σ H Q I h =>
  wpAny_Dict_empty ⟨.ref s.heap.objs.size, _, I.laid (a := s.heap.objs.size) (o := .dK []) (t' := s.toks) (fun _ _ q => Heap.get?_push_of_some _ q) (Nat.le_refl _) (dk_empty s.heap I.big), rfl, h _ (I.hok.fresh (Nat.le_refl _))⟩
theorem pe_dnewT : PE X (.Dict [] [] pos) tDNewT := fun pins s σ H Q I h =>
  wpAny_Dict_empty ⟨.ref s.heap.objs.size, _, I.laid (a := s.heap.objs.size) (o := .dT []) (t' := s.toks) (fun _ _ q => Heap.get?_push_of_some _ q) (Nat.le_refl _) (dt_empty s.heap I.big), rfl, h _ (I.hok.fresh (Nat.le_refl _))⟩
end

/-- the pairs of a display, from the left -/
def tPairs : List (TE × TE) → St → Hp → (List (V × V) → Hp → Prop) → Prop
  | [], _, H, Q => Q [] H
  | (tk, tv) :: r, σ, H, Q => tk σ H fun x H1 => tv σ H1 fun y H2 => tPairs r σ H2 fun ps H3 => Q ((x, y) :: ps) H3
abbrev VV : List (V × V) → List (Value × Value) → Prop := Paired fun p q => RelV p.1 q.1 ∧ RelV p.2 q.2
def PPs (X : Cx) (pos : Pos) (keys : List (Option Expr)) (values : List Expr) (trs : List (TE × TE)) : Prop :=
  ∀ (pins : List (Addr × Obj)) (s : Shared) (σ : St) (H : Hp) (Q : List (V × V) → Hp → Prop), Inv X pins σ H s → tPairs trs σ H Q →
    wpAny (model X.prog X.w) X.A (evalPairs (pairTrees keys values X.env pos)) (fun vs s' => ∃ ps H', Inv X pins σ H' s' ∧ VV ps vs ∧ Q ps H') X.xe s
theorem pps_nil {X : Cx} {pos : Pos} : PPs X pos [] [] [] := fun pins s σ H Q I h => pairTrees_nil_walk ⟨[], H, I, .nil, h⟩
theorem pps_cons {X : Cx} {pos : Pos} {k v : Expr} {ks : List (Option Expr)} {vs : List Expr} {tk tv : TE} {trs : List (TE × TE)} (hk : PE X k tk) (hv : PE X v tv) (hr : PPs X pos ks vs trs) :
    PPs X pos (some k :: ks) (v :: vs) ((tk, tv) :: trs) := fun pins s σ H Q I h =>
  pairTrees_cons_walk (thn (hk pins s σ H _ I h) fun u s1 ⟨x, H1, I1, rx, q1⟩ => thn (hv pins s1 σ H1 _ I1 q1) fun w2 s2 ⟨y, H2, I2, ry, q2⟩ =>
    thn (hr pins s2 σ H2 _ I2 q2) fun ws s3 ⟨ps, H3, I3, rel, q3⟩ => ⟨(x, y) :: ps, H3, I3, .cons ⟨rx, ry⟩ rel, q3⟩)

def mergeK (kvs more : List (Key × V)) : List (Key × V) := more.foldl (fun acc kv => putK acc kv.1 kv.2) kvs
theorem KV.merge : ∀ {more : List (Key × V)} {rs : List (Key × Value)} {kvs : List (Key × V)} {vs : List (Key × Value)}, KV more rs → KV kvs vs → KV (mergeK kvs more) (merged vs rs) := by
  intro more rs kvs vs r
  unfold KV at r
  induction r generalizing kvs vs with
  | nil => intro q; exact q
  | @cons p q ps qs h t ih =>
    intro r0
    have e : KV (putK kvs p.1 p.2) (stored vs q.1 q.2) := by
      have := r0.put p.1 h.2
      rw [← h.1]; exact this
    exact ih e
theorem length_mergeK : ∀ (more kvs : List (Key × V)), (mergeK kvs more).length ≤ kvs.length + more.length
  | [], kvs => by show kvs.length ≤ kvs.length + 0; omega
  | p :: r, kvs => by
    have h1 := length_mergeK r (putK kvs p.1 p.2)
    have h2 := length_putK kvs p.1 p.2
    show (mergeK (putK kvs p.1 p.2) r).length ≤ _
    rw [List.length_cons]; omega
theorem carries_of {P : Program} {w : World} : ∀ {kvs : List (Key × V)} {ws : List (Value × Value)}, VV (kvs.map fun kv => (kV kv.1, kv.2)) ws → ∃ rs, Carries (mixKind P w) ws rs ∧ KV kvs rs
  | [], _, r => by rw [List.map_nil] at r; cases r; exact ⟨[], True.intro, .nil⟩
  | p :: kvs, _, r => by
    rw [List.map_cons] at r
    cases r with
    | @cons a b as bs h t =>
      obtain ⟨rs, c, q⟩ := carries_of (P := P) (w := w) t
      obtain ⟨b1, b2⟩ := b
      exact ⟨(p.1, b2) :: rs, ⟨kV_is h.1, rfl, c⟩, .cons ⟨rfl, h.2⟩ q⟩
/-- {k: v, ..} with keys ints and texts; the new dict stands empty while the pairs are made -/
def tDisp (trs : List (TE × TE)) : TE := fun σ H Q => ∀ p, H p = none → tPairs trs σ (upd H p (.dK [])) fun ps H2 => H2 p = some (.dK []) ∧ ∃ kvs : List (Key × V), ps = kvs.map (fun kv => (kV kv.1, kv.2)) ∧ kvs.length ≤ 15 ∧ Q (.ref p) (upd H2 p (.dK (mergeK [] kvs)))
theorem pe_disp {X : Cx} {pos : Pos} {keys : List (Option Expr)} {values : List Expr} {trs : List (TE × TE)} (h : PPs X pos keys values trs) (hall : keys.all (·.isSome) = true) (hl : keys.length = values.length) (h0 : keys ≠ [])
    (h15 : keys.length ≤ 15) : PE X (.Dict keys values pos) (tDisp trs) := by
  intro pins s σ H Q I q
  have hn := I.hok.fresh (Nat.le_refl s.heap.objs.size)
  have I1 := I.laid (a := s.heap.objs.size) (o := .dK []) (h' := s.heap.push { cls := .type "dict", data := .dict #[] }) (t' := s.toks) (fun _ _ q => Heap.get?_push_of_some _ q) (Nat.le_refl _) (dk_empty s.heap I.big)
  refine wpAny_Dict_walk (knd := mixKind X.prog X.w) hall hl h0 h15 (thn (h pins _ σ _ _ I1 (q _ hn)) fun ws s2 ⟨ps, H2, I2, rel, e, kvs, ep, lk, q2⟩ => ?_)
  subst ep
  obtain ⟨rs, c, rk⟩ := carries_of (P := X.prog) (w := X.w) rel
  obtain ⟨z, hd, vs0, r0, dd⟩ := dk_of I2.hok e
  cases r0
  refine ⟨rs, c, dd, fun h' dd' hs => ⟨.ref s.heap.objs.size, _, ?_, rfl, q2⟩⟩
  have hz : (mergeK [] kvs).length ≤ sizeLine := by
    have h1 := length_mergeK kvs []
    rw [List.length_nil] at h1
    rw [sizeLine_eq]; omega
  have he : ∃ q, h'.get? s.heap.objs.size = some q := let ⟨q, _, _, hq, _⟩ := dd'; ⟨q, hq⟩
  exact d_write I2 (by rw [e]; exact True.intro) hs he (dk_new hz hd (rk.merge .nil) dd')


/-! ### methods -/
/-- a method call o.m(e) of a built-in, with one argument: what must be seen of the text -/
structure M1 (X : Cx) (o : Expr) (m : Str) (apos : Pos) (e : Expr) (cpos : Pos) : Prop where
  base : attributeBase o m X.env (eval o X.env) = eval o X.env
  few : ((backTo cpos (starEach [e] X.env)).all (fun x => !x.1) && (backToKw cpos (keywordEach [] X.env)).all (fun x => x.1.isSome)
    && decide (([e] : List Expr).length + ([] : List Keyword).length + (if ([] : List Keyword).isEmpty then 0 else 1) < 30)) = true
  line : (apos.endLine == cpos.line) = true
  trees : backTo cpos (starEach [e] X.env) = [(false, eval e X.env)]
structure M2 (X : Cx) (o : Expr) (m : Str) (apos : Pos) (e f : Expr) (cpos : Pos) : Prop where
  base : attributeBase o m X.env (eval o X.env) = eval o X.env
  few : ((backTo cpos (starEach [e, f] X.env)).all (fun x => !x.1) && (backToKw cpos (keywordEach [] X.env)).all (fun x => x.1.isSome)
    && decide (([e, f] : List Expr).length + ([] : List Keyword).length + (if ([] : List Keyword).isEmpty then 0 else 1) < 30)) = true
  line : (apos.endLine == cpos.line) = true
  trees : backTo cpos (starEach [e, f] X.env) = [(false, eval e X.env), (false, eval f X.env)]

/-- a is a dict, whatever its keys -/
def IsD (H : Hp) (a : Addr) : Prop := (∃ kvs, Rd H a (.dK kvs)) ∨ ∃ kvs, Rd H a (.dT kvs)
theorem isD_at {X : Cx} {pins : List (Addr × Obj)} {σ : St} {H : Hp} {s : Shared} {a : Addr} (I : Inv X pins σ H s) (d : IsD H a) :
    s.TypeIs (.ref a) "dict" ∧ (∀ b, Value.ref a = .ref b → ∃ ob, s.heap.get? b = some ob ∧ ob.dict = none) ∧ (a == sysModules) = false := by
  rcases d with ⟨kvs, e⟩ | ⟨kvs, e⟩
  · obtain ⟨_, hd, vs, _, dd⟩ := dk_rd I.hok e
    refine ⟨dd.typeIs, fun b q => ?_, hd⟩
    cases q
    obtain ⟨ob, _, _, h1, h2, _⟩ := dd
    exact ⟨ob, h1, h2.2.1⟩
  · obtain ⟨_, hd, xs, _, dd⟩ := dt_rd I.hok e
    refine ⟨dd.typeIs, fun b q => ?_, hd⟩
    cases q
    obtain ⟨ob, _, _, h1, h2, _⟩ := dd
    exact ⟨ob, h1, h2.2.1⟩

section
variable {X : Cx} {pins : List (Addr × Obj)} {σ : St} {H : Hp} {s : Shared} {a : Addr} {y d : V} {u r : Value} {o : Option V} {A : Around} {E : Value → Shared → Prop}
/-- d.get(y) -/
theorem d_get1 {Q : Value → Shared → Prop} (hu : A.units + 1 < cLine) (I : Inv X pins σ H s) (g : DGet H a y o) (ry : RelV y u) (h : ∀ w' s', Inv X pins σ H s' → RelV (o.getD .non) w' → Q w' s') :
    wpAny (model X.prog X.w) A (call (.builtin "dict.get") [.ref a, u]) Q E s := by
  rcases g with ⟨kvs, k, e, ey, l⟩ | ⟨kvs, k, b, e, ey, eb, l⟩
  · subst ey
    obtain ⟨z, hd, vs, rel, dd⟩ := dk_rd I.hok e
    refine call_meetsIn PySem.F.slot_dict_get dd.typeIs PySem.F.entry_dict_get (PySem.F.args_dict_get_2 _ _) (meets_dict_get (mixKind X.prog X.w) a (kV_is ry) hd) ⟨_, dd.mapOf, h _ _ (I.tok _) ?_⟩
    rw [l]
    exact (rel.val k).getD rfl
  · subst ey
    cases (show u = Value.ref b from ry)
    obtain ⟨z, hd, xs, rel, dd⟩ := dt_rd I.hok e
    refine call_meetsIn PySem.F.slot_dict_get dd.typeIs PySem.F.entry_dict_get (PySem.F.args_dict_get_2 _ _) (meetsH_dict_get (tupleKind (mixKind X.prog X.w)) a b hd) ⟨tupleKind_room_in1 hu, k, xs, key_of I.hok eb, dd, h _ _ (I.tok _) ?_⟩
    rw [l]
    exact (rel.val k).getD rfl
/-- d.get(y, x) -/
theorem d_get2 {Q : Value → Shared → Prop} (hu : A.units + 1 < cLine) (I : Inv X pins σ H s) (g : DGet H a y o) (ry : RelV y u) (rd : RelV d r) (h : ∀ w' s', Inv X pins σ H s' → RelV (o.getD d) w' → Q w' s') :
    wpAny (model X.prog X.w) A (call (.builtin "dict.get") [.ref a, u, r]) Q E s := by
  rcases g with ⟨kvs, k, e, ey, l⟩ | ⟨kvs, k, b, e, ey, eb, l⟩
  · subst ey
    obtain ⟨z, hd, vs, rel, dd⟩ := dk_rd I.hok e
    refine call_meetsIn PySem.F.slot_dict_get dd.typeIs PySem.F.entry_dict_get (PySem.F.args_dict_get_3 _ _ _) (meets_dict_get_default (mixKind X.prog X.w) a (kV_is ry) hd r) ⟨_, dd.mapOf, h _ _ (I.tok _) ?_⟩
    rw [l]
    exact (rel.val k).getD rd
  · subst ey
    cases (show u = Value.ref b from ry)
    obtain ⟨z, hd, xs, rel, dd⟩ := dt_rd I.hok e
    refine call_meetsIn PySem.F.slot_dict_get dd.typeIs PySem.F.entry_dict_get (PySem.F.args_dict_get_3 _ _ _) (meetsH_dict_get_default (tupleKind (mixKind X.prog X.w)) a b hd r) ⟨tupleKind_room_in1 hu, k, xs, key_of I.hok eb, dd, h _ _ (I.tok _) ?_⟩
    rw [l]
    exact (rel.val k).getD rd
end

def tDGet1 (td ty : TE) : TE := fun σ H Q => td σ H fun x H1 => ∃ a, x = .ref a ∧ IsD H1 a ∧ ty σ H1 fun y H2 => ∃ o, DGet H2 a y o ∧ Q (o.getD .non) H2
def tDGet2 (td ty tx : TE) : TE := fun σ H Q => td σ H fun x H1 => ∃ a, x = .ref a ∧ IsD H1 a ∧ ty σ H1 fun y H2 => tx σ H2 fun z H3 => ∃ o, DGet H3 a y o ∧ Q (o.getD z) H3
/-- d.pop(k): there; d.pop(k, x): there or not -/
def tDPop1 (td ty : TE) : TE := fun σ H Q => td σ H fun x H1 => ∃ a, x = .ref a ∧ IsD H1 a ∧ ty σ H1 fun y H2 => ∃ kvs k v, H2 a = some (.dK kvs) ∧ y = kV k ∧ valV kvs k = some v ∧ Q v (upd H2 a (.dK (dropK kvs k)))
def tDPop2 (td ty tx : TE) : TE := fun σ H Q => td σ H fun x H1 => ∃ a, x = .ref a ∧ IsD H1 a ∧ ty σ H1 fun y H2 => tx σ H2 fun z H3 => ∃ kvs k, H3 a = some (.dK kvs) ∧ y = kV k ∧
  (∀ v, valV kvs k = some v → Q v (upd H3 a (.dK (dropK kvs k)))) ∧ (valV kvs k = none → Q z H3)
section
variable {X : Cx} {o e f : Expr} {apos cpos : Pos} {td ty tx : TE}
theorem pe_dget1 (hu : X.A.units + 1 < cLine) (ho : PE X o td) (he : PE X e ty) (m : M1 X o "get" apos e cpos) : PE X (.Call (.Attribute o "get" apos) [e] [] cpos) (tDGet1 td ty) := by
  intro pins s σ H Q I h
  refine wpAny_Call_method m.base m.few m.line PySem.F.plainAttrs_dict PySem.F.slot_dict_get PySem.F.type_dict_get (thn (ho pins s σ H _ I h) fun u s1 ⟨x, H1, I1, rx, a, ex, d, q1⟩ => ?_)
  subst ex
  obtain rfl : u = Value.ref a := rx
  obtain ⟨t1, t2, _⟩ := isD_at I1 d
  refine ⟨t1, t2, ?_⟩
  rw [m.trees]
  refine Calls.callWith_builtin rfl (Calls.evalArgs_plain (Calls.spliced_cons (thn (he pins s1 σ H1 _ I1 q1) fun iv s2 ⟨y, H2, I2, ry, ov, g, q2⟩ => Calls.spliced_nil ?_)))
  exact d_get1 hu I2 g ry fun w' s3 I3 rw' => ⟨_, H2, I3, rw', q2⟩
theorem pe_dget2 (hu : X.A.units + 1 < cLine) (ho : PE X o td) (he : PE X e ty) (hf : PE X f tx) (m : M2 X o "get" apos e f cpos) : PE X (.Call (.Attribute o "get" apos) [e, f] [] cpos) (tDGet2 td ty tx) := by
  intro pins s σ H Q I h
  refine wpAny_Call_method m.base m.few m.line PySem.F.plainAttrs_dict PySem.F.slot_dict_get PySem.F.type_dict_get (thn (ho pins s σ H _ I h) fun u s1 ⟨x, H1, I1, rx, a, ex, d, q1⟩ => ?_)
  subst ex
  obtain rfl : u = Value.ref a := rx
  obtain ⟨t1, t2, _⟩ := isD_at I1 d
  refine ⟨t1, t2, ?_⟩
  rw [m.trees]
  refine Calls.callWith_builtin rfl (Calls.evalArgs_plain (Calls.spliced_cons (thn (he pins s1 σ H1 _ I1 q1) fun iv s2 ⟨y, H2, I2, ry, q2⟩ =>
    Calls.spliced_cons (thn (hf pins s2 σ H2 _ I2 q2) fun fv s3 ⟨z, H3, I3, rz, ov, g, q3⟩ => Calls.spliced_nil ?_))))
  exact d_get2 hu I3 g ry rz fun w' s4 I4 rw' => ⟨_, H3, I4, rw', q3⟩
theorem pe_dpop1 (ho : PE X o td) (he : PE X e ty) (m : M1 X o "pop" apos e cpos) : PE X (.Call (.Attribute o "pop" apos) [e] [] cpos) (tDPop1 td ty) := by
  intro pins s σ H Q I h
  refine wpAny_Call_method m.base m.few m.line PySem.F.plainAttrs_dict PySem.F.slot_dict_pop PySem.F.type_dict_pop (thn (ho pins s σ H _ I h) fun u s1 ⟨x, H1, I1, rx, a, ex, d, q1⟩ => ?_)
  subst ex
  obtain rfl : u = Value.ref a := rx
  obtain ⟨t1, t2, _⟩ := isD_at I1 d
  refine ⟨t1, t2, ?_⟩
  rw [m.trees]
  refine Calls.callWith_builtin rfl (Calls.evalArgs_plain (Calls.spliced_cons (thn (he pins s1 σ H1 _ I1 q1) fun iv s2 ⟨y, H2, I2, ry, kvs, k, v, ea, ey, l, q2⟩ => Calls.spliced_nil ?_)))
  subst ey
  exact d_pop I2 ea ry l (.inl rfl) fun w' s3 I3 rw' => ⟨v, _, I3, rw', q2⟩
theorem pe_dpop2 (ho : PE X o td) (he : PE X e ty) (hf : PE X f tx) (m : M2 X o "pop" apos e f cpos) : PE X (.Call (.Attribute o "pop" apos) [e, f] [] cpos) (tDPop2 td ty tx) := by
  intro pins s σ H Q I h
  refine wpAny_Call_method m.base m.few m.line PySem.F.plainAttrs_dict PySem.F.slot_dict_pop PySem.F.type_dict_pop (thn (ho pins s σ H _ I h) fun u s1 ⟨x, H1, I1, rx, a, ex, d, q1⟩ => ?_)
  subst ex
  obtain rfl : u = Value.ref a := rx
  obtain ⟨t1, t2, _⟩ := isD_at I1 d
  refine ⟨t1, t2, ?_⟩
  rw [m.trees]
  refine Calls.callWith_builtin rfl (Calls.evalArgs_plain (Calls.spliced_cons (thn (he pins s1 σ H1 _ I1 q1) fun iv s2 ⟨y, H2, I2, ry, q2⟩ =>
    Calls.spliced_cons (thn (hf pins s2 σ H2 _ I2 q2) fun fv s3 ⟨z, H3, I3, rz, kvs, k, ea, ey, q3, q4⟩ => Calls.spliced_nil ?_))))
  subst ey
  cases l : valV kvs k with
  | some v => exact d_pop I3 ea ry l (.inr ⟨fv, rfl⟩) fun w' s4 I4 rw' => ⟨v, _, I4, rw', q3 v l⟩
  | none => exact d_popD I3 ea ry l fun s4 I4 => ⟨z, H3, I4, rz, q4 l⟩
end

/-! ### dict(d): a copy -/
section
variable {X : Cx} {pins : List (Addr × Obj)} {σ : St} {H : Hp} {s : Shared} {a : Addr} {kvs : List (Key × V)} {A : Around} {E : Value → Shared → Prop}
theorem d_copyOf {Q : Value → Shared → Prop} (I : Inv X pins σ H s) (e : Rd H a (.dK kvs)) (h : ∀ p s', H p = none → Inv X pins σ (upd H p (.dK kvs)) s' → Q (.ref p) s') : wpAny (model X.prog X.w) A (call (.type "dict") [.ref a]) Q E s := by
  obtain ⟨z, hd, vs, rel, dd⟩ := dk_rd I.hok e
  refine kt_call_dict hd dd (by rw [← rel.length]; exact z) fun h' dd' hs => ?_
  refine h _ _ (I.hok.fresh (Nat.le_refl _)) (I.laid (a := s.heap.objs.size) (o := .dK kvs) (t' := s.toks) (fun b q hq => ?_) (Nat.le_refl _) (dk_new z (beq_eq_false_iff_ne.mpr (Ne.symm (Nat.ne_of_lt I.big))) rel dd'))
  exact (hs.2 b (Nat.ne_of_lt (Heap.lt_size hq))).trans (Heap.get?_push_of_some _ hq)
end


section
variable {X : Cx} {pins : List (Addr × Obj)} {σ : St} {H : Hp} {s : Shared} {a : Addr} {y : V} {u : Value} {A : Around} {E : Value → Shared → Prop}
/-- d[y], not there: a KeyError -/
theorem d_missing {Q : Value → Shared → Prop} (hu : A.units + 1 < cLine) (hh : A.handled = none) (I : Inv X pins σ H s) (g : DGet H a y none) (ry : RelV y u)
    (h : ∀ h' e t', Heap.NewExc s.heap h' e "KeyError" → E (.ref e) { s with heap := h', toks := t' }) : wpAny (model X.prog X.w) A (getItem (.ref a) u) Q E s := by
  rcases g with ⟨kvs, k, e, ey, l⟩ | ⟨kvs, k, b, e, ey, eb, l⟩
  · subst ey
    obtain ⟨z, hd, vs, rel, dd⟩ := dk_rd I.hok e
    have hn : valueAt vs k = none := RelO.none_of (by rw [l]; exact rel.val k)
    exact wpAny_getItem_missing_of (kV_is ry) hd hh dd.mapOf hn fun h' ex ne => h h' ex _ ne
  · subst ey
    cases (show u = Value.ref b from ry)
    obtain ⟨z, hd, xs, rel, dd⟩ := dt_rd I.hok e
    have hn : (atKey xs k).map (·.2) = none := RelO.none_of (by rw [l]; exact rel.val k)
    exact wpAny_getItem_missing_heap (tupleKind_room_in1 hu) (key_of I.hok eb) hd hh dd (Option.map_eq_none_iff.mp hn) fun h' ex ne => h h' ex _ ne
end
end L2

namespace Att
open PySem PySem.W PySem.Calls PyProof.Rows

/-! ### the script -/
theorem ints_of_wellAll {P : Params} {h : Heap} : ∀ (ns : List Int) (vs : List Value), WellAll P h vs (ns.map WData.int) → IntsAre vs ns := by
  intro ns
  induction ns with
  | nil =>
    intro vs w
    rw [List.map_nil] at w
    cases w
    exact .nil
  | cons n ns ih =>
    intro vs w
    rw [List.map_cons] at w
    cases w with
    | cons a b =>
      cases a
      exact .cons _ _ (ih _ b)

theorem script_of {l : OpenLaw} {n : Nat} (hn : l.most = some n) {P : Params} {h : Heap} {args : List WData} {vals : List Value}
    (hpre : l.row.toRowW.claim.pre args = true) (hwl : WellAll P h vals args) :
    ∃ a vs ns, vals = [Value.ref a] ∧ args = [WData.list (ns.map WData.int)] ∧ h.get? a = some { cls := .type "list", data := .seq vs.toArray } ∧ IntsAre vs ns ∧ ns.length ≤ n := by
  have hsh : WShape.hasAll [] args [.list .int] = true := (pre_splitW hpre).1
  have hc : l.pre.holds [] { args := args } = true := (pre_splitW hpre).2
  obtain ⟨d, r, rfl, h1, h2⟩ := hasAllW_cons hsh
  obtain rfl := hasAllW_nil h2
  obtain ⟨xs, rfl, h3⟩ := hasW_list h1
  obtain ⟨ns, rfl⟩ := items_int h3
  have hlen : ns.length ≤ n := by
    unfold OpenLaw.pre at hc
    have h4 : (WTm.not (.lt (.lit (.int (n : Int))) (.len (.arg 0)))).holds [] { args := [.list (ns.map .int)] } = true := by
      have h4 := (holds_andW hc).1
      rw [hn] at h4
      exact h4
    have h5 := condW_of h4 (w_not (w_lt w_lit (w_len_list (w_arg rfl))))
    rw [List.length_map] at h5
    refine Nat.le_of_not_lt fun q => ?_
    have q' : (n : Int) < ((ns.length : Nat) : Int) := by omega
    first
      | (rw [decide_eq_true q'] at h5; exact absurd h5 (by decide))
      | (simp at h5; omega)
  cases hwl with
  | cons w1 w2 =>
    cases w2
    cases w1 with
    | list ho hall => exact ⟨_, _, ns, rfl, rfl, ho, ints_of_wellAll ns _ hall, hlen⟩

theorem post_true (l : OpenLaw) (args : List WData) : l.row.toRowW.claim.post args (.bool true) args = true :=
  postW_of (r := l.row.toRowW) (X := (true == true))
    (show WShape.has [] (.bool true) .bool = true by first | rfl | decide | simp [WShape.has, WShape.arms, WShape.armsAll])
    (show (WTm.eq .res (.lit (.bool true))).value [] { args := args, res := some (.bool true), after := args } = some (.bool (true == true)) from w_eq_bool (w_res rfl) w_lit) rfl

/-! ### the attachment: holds_open's last premise (the goal 'hc' behind k_head) from a wpAny of the law's body -/
theorem attach {l : OpenLaw} {n : Nat} {q : Program} {loose : List Str} {XP : (Str → Option Value) → Heap → Prop} {YP : World → Heap → Prop} {d : DefRec} {x : Str}
    (hn : l.most = some n) (hdf : d.params.defaults = [])
    (hbind : ∀ pm cd doc v : Value, bindArgs (docDef d.name d.params d.body d.scope pm cd doc) ⟨[v], []⟩ = pure [(x, v)])
    (hx : d.scope.names.lookup x = some .local ∨ d.scope.names.lookup x = some .cell)
    (hk : d.scope.kind = .function) (hco : d.scope.isCoroutine = false) (hgen : d.scope.isGenerator = false)
    (body : ∀ (w : World) (s₀ s₁ s : Shared) (mg mb : Str → Option Value) (fa : Addr) (o : Obj) (pm cd doc : Value) (a : Addr) (vs : List Value) (ns : List Int),
      Ground q loose [] XP w s₀ mg mb s₁.heap → YP w s₁.heap →
      s₁.heap.get? fa = some o → o.data = .func (docDef d.name d.params d.body d.scope pm cd doc) → s₁.heap.CodeRec cd d.name → mg d.name = some (.ref fa) →
      s₁.heap.get? a = some { cls := .type "list", data := .seq vs.toArray } → IntsAre vs ns → ns.length ≤ n →
      s.gens = #[] → s.os = s₁.os →
      Fr s₁.heap s₁.heap.objs.size s.heap (bindL (envOfC d.name d.scope s₁.heap.objs.size fa cd).kindOf [(x, .ref a)] fun _ => none) →
      Cl s₁.heap.objs.size (cellsFrom (s₁.heap.objs.size + 1) d.scope.names []) s.heap (bindC (envOfC d.name d.scope s₁.heap.objs.size fa cd).kindOf [(x, .ref a)] fun _ => none) →
      wpAny (model l.prog w) (callerA.deeper (envOfC d.name d.scope s₁.heap.objs.size fa cd)) (execs d.body (envOfC d.name d.scope s₁.heap.objs.size fa cd))
        (fun f s' => f = .ret (.bool true) ∧ OldK s₁.heap s'.heap ∧ s'.os = s₁.os ∧ AllBare s'.gens) (fun _ _ => False) s) :
    WalkO q loose XP YP l.row.toRowW d [] (fun f vs => PySem.call f vs) := by
  intro w s₀ s₁ mg mb G Y fa o pm cd doc dV kV ho hd hcd hD hmg hg args vals as hpre hlay hrd hwl hlo
  obtain rfl : dV = .none := Dflts.none hD hdf
  obtain rfl : kV = .none := Dflts.noKw hD
  obtain ⟨a, vs, ns, rfl, rfl, hobj, hints, hlen⟩ := script_of hn hpre hwl
  refine enter_call ?_
  refine call_cells_ret (o := o) (by rw [depth_caller]; decide) ho (fd_plain hd) G.T.nolimit hcd (hbind pm cd doc (.ref a)) (fun y hy => ?_) (fun h₁ tk F X => ?_) hco hgen hk
  · obtain rfl : y = (x, Value.ref a) := List.mem_singleton.mp hy
    rcases hx with e | e
    · exact .inl e
    · exact .inr ⟨e, cellsFrom_some _ _ _ (.inl e)⟩
  · refine wpAny_mono (body w s₀ s₁ { s₁ with heap := h₁, toks := tk } mg mb fa o pm cd doc a vs ns G Y ho (fd_plain hd) hcd hmg hobj hints hlen hg rfl F X) (fun f s' hq => ?_) (fun _ _ hq => hq)
    obtain ⟨rfl, h2, h3, h4⟩ := hq
    exact ⟨.inl ⟨.bool true, .bool true, [], rfl, fun _ => rfl, .bool true, post_true l _, fun _ => ⟨List.Pairwise.nil, fun _ hm => (nomatch hm)⟩⟩, h2, h3, h4⟩

/-- the same from a codeAny of the CALL (for a layer whose function contracts speak of calls) -/
theorem attach_call {l : OpenLaw} {n : Nat} {q : Program} {loose : List Str} {XP : (Str → Option Value) → Heap → Prop} {YP : World → Heap → Prop} {d : DefRec}
    (hn : l.most = some n) (hdf : d.params.defaults = [])
    (call : ∀ (w : World) (s₀ s₁ : Shared) (mg mb : Str → Option Value) (fa : Addr) (o : Obj) (pm cd doc : Value) (a : Addr) (vs : List Value) (ns : List Int),
      Ground q loose [] XP w s₀ mg mb s₁.heap → YP w s₁.heap →
      s₁.heap.get? fa = some o → o.data = .func (docDef d.name d.params d.body d.scope pm cd doc) → s₁.heap.CodeRec cd d.name → mg d.name = some (.ref fa) →
      s₁.heap.get? a = some { cls := .type "list", data := .seq vs.toArray } → IntsAre vs ns → ns.length ≤ n → s₁.gens = #[] →
      codeAny (model l.prog w) callerA (.call (.ref fa) ⟨[.ref a], []⟩) (fun r s' => r = .ok (.ret (.bool true)) ∧ OldK s₁.heap s'.heap ∧ s'.os = s₁.os ∧ AllBare s'.gens) s₁) :
    WalkO q loose XP YP l.row.toRowW d [] (fun f vs => PySem.call f vs) := by
  intro w s₀ s₁ mg mb G Y fa o pm cd doc dV kV ho hd hcd hD hmg hg args vals as hpre hlay hrd hwl hlo
  obtain rfl : dV = .none := Dflts.none hD hdf
  obtain rfl : kV = .none := Dflts.noKw hD
  obtain ⟨a, vs, ns, rfl, rfl, hobj, hints, hlen⟩ := script_of hn hpre hwl
  refine enter_call (codeAny_mono (call w s₀ s₁ mg mb fa o pm cd doc a vs ns G Y ho (fd_plain hd) hcd hmg hobj hints hlen hg) fun r s' hq => ?_)
  obtain ⟨rfl, h2, h3, h4⟩ := hq
  exact ⟨.inl ⟨.bool true, .bool true, [], rfl, fun _ => rfl, .bool true, post_true l _, fun _ => ⟨List.Pairwise.nil, fun _ hm => (nomatch hm)⟩⟩, h2, h3, h4⟩

/-- the same where the top left finished generators (o_head chose holds_openN): nothing may have changed at all and no generator may be left -/
theorem attachN {l : OpenLaw} {n : Nat} {q : Program} {loose : List Str} {XP : (Str → Option Value) → Heap → Prop} {YP : World → Heap → Prop} {d : DefRec} {x : Str}
    (hn : l.most = some n) (hdf : d.params.defaults = [])
    (hbind : ∀ pm cd doc v : Value, bindArgs (docDef d.name d.params d.body d.scope pm cd doc) ⟨[v], []⟩ = pure [(x, v)])
    (hx : d.scope.names.lookup x = some .local ∨ d.scope.names.lookup x = some .cell)
    (hk : d.scope.kind = .function) (hco : d.scope.isCoroutine = false) (hgen : d.scope.isGenerator = false)
    (body : ∀ (w : World) (s₀ s₁ s : Shared) (mg mb : Str → Option Value) (fa : Addr) (o : Obj) (pm cd doc : Value) (a : Addr) (vs : List Value) (ns : List Int),
      Ground q loose [] XP w s₀ mg mb s₁.heap → YP w s₁.heap →
      s₁.heap.get? fa = some o → o.data = .func (docDef d.name d.params d.body d.scope pm cd doc) → s₁.heap.CodeRec cd d.name → mg d.name = some (.ref fa) →
      s₁.heap.get? a = some { cls := .type "list", data := .seq vs.toArray } → IntsAre vs ns → ns.length ≤ n →
      s.gens = #[] → s.os = s₁.os →
      Fr s₁.heap s₁.heap.objs.size s.heap (bindL (envOfC d.name d.scope s₁.heap.objs.size fa cd).kindOf [(x, .ref a)] fun _ => none) →
      Cl s₁.heap.objs.size (cellsFrom (s₁.heap.objs.size + 1) d.scope.names []) s.heap (bindC (envOfC d.name d.scope s₁.heap.objs.size fa cd).kindOf [(x, .ref a)] fun _ => none) →
      wpAny (model l.prog w) (callerA.deeper (envOfC d.name d.scope s₁.heap.objs.size fa cd)) (execs d.body (envOfC d.name d.scope s₁.heap.objs.size fa cd))
        (fun f s' => f = .ret (.bool true) ∧ (∀ b o, s₁.heap.get? b = some o → s'.heap.get? b = some o) ∧ s'.os = s₁.os ∧ s'.gens = #[]) (fun _ _ => False) s) :
    WalkN q loose XP YP l.row.toRowW d [] (fun f vs => PySem.call f vs) := by
  intro w s₀ s₁ mg mb G Y fa o pm cd doc dV kV ho hd hcd hD hmg hg args vals as hpre hlay hrd hwl hlo
  obtain rfl : dV = .none := Dflts.none hD hdf
  obtain rfl : kV = .none := Dflts.noKw hD
  obtain ⟨a, vs, ns, rfl, rfl, hobj, hints, hlen⟩ := script_of hn hpre hwl
  refine enter_callW ?_
  refine call_cells_ret (o := o) (by rw [depth_caller]; decide) ho (fd_plain hd) G.T.nolimit hcd (hbind pm cd doc (.ref a)) (fun y hy => ?_) (fun h₁ tk F X => ?_) hco hgen hk
  · obtain rfl : y = (x, Value.ref a) := List.mem_singleton.mp hy
    rcases hx with e | e
    · exact .inl e
    · exact .inr ⟨e, cellsFrom_some _ _ _ (.inl e)⟩
  · refine wpAny_mono (body w s₀ s₁ { s₁ with heap := h₁, toks := tk } mg mb fa o pm cd doc a vs ns G Y ho (fd_plain hd) hcd hmg hobj hints hlen hg rfl F X) (fun f s' hq => ?_) (fun _ _ hq => hq)
    obtain ⟨rfl, h2, h3, h4⟩ := hq
    exact ⟨.inl ⟨.bool true, .bool true, [], rfl, fun _ => rfl, .bool true, post_true l _, fun _ => ⟨List.Pairwise.nil, fun _ hm => (nomatch hm)⟩⟩, h2, h3, h4⟩

/-! ### rules over ANY heap (no ledger) from facts about the written part K: the library's own take a ledger (News) for what they write -/
section
variable {prog : Program} {w : World} {A : Around} {E : Value → Shared → Prop} {s : Shared} {K : Frag}

/-- a def of the module, or a method (qual 'C.m'), entered: the frame is the next address; cells behind it -/
theorem call_fn {R : Result → Shared → Prop} {name qual : Str} {params : Arguments} {body : List Stmt} {scope : Scope} {dV kV doc pm cdv ct oc : Value} {an od : Option Addr} {osl : Array (Option Value)} {f : Addr} {args : Args} {binds : List (Str × Value)}
    (X : K.In s.heap) (hlim : s.heap.NoLimit) (ho : K.lookup f = some ⟨oc, od, .func (fnOf name qual params body scope dV kV doc pm an cdv ct), osl⟩) (hcd : codeIn K cdv qual = true) (hroom : A.depth < recursionLimit)
    (hbind : BindsTo s (fnOf name qual params body scope dV kV doc pm an cdv ct) args binds)
    (hkind : (binds.all fun y => scope.names.lookup y.1 == some .local || scope.names.lookup y.1 == some .cell) = true)
    (h : ∀ s₁, InCallC s s.heap.objs.size (bindL (envOfC qual scope s.heap.objs.size f cdv).kindOf binds fun _ => none) (cellsFrom (s.heap.objs.size + 1) scope.names [])
        (bindC (envOfC qual scope s.heap.objs.size f cdv).kindOf binds fun _ => none) s₁ →
      wpAny (model prog w) (A.deeper (envOfC qual scope s.heap.objs.size f cdv)) (execs body (envOfC qual scope s.heap.objs.size f cdv))
        (fun fl s' => R (.ok (.ret (match fl with | .ret v => v | _ => .none))) s')
        (fun e s' => wpAny (model prog w) (A.deeper (envOfC qual scope s.heap.objs.size f cdv)) (leaving (envOfC qual scope s.heap.objs.size f cdv) e) (fun _ s'' => R (.error e) s'') (fun e' s'' => R (.error e') s'') s') s₁)
    (hco : scope.isCoroutine = false) (hgen : scope.isGenerator = false) (hk : scope.kind = .function) : codeAny (model prog w) A (.call (.ref f) args) R s := by
  refine codeAny_call_function hroom (X _ _ ho) rfl hco hgen rfl (codeRec_of X hcd) (hbind _ _ _ _ ?_)
  refine wpAny_newFunctionEnv_cells hk (kindsX hkind _) fun env he s₁ x => ?_
  subst he
  exact ⟨hlim.keeps x.toInCall.keep, codeAny_func (h s₁ x)⟩

/-- C(..): dict at size, instance at size + 1, then __init__ -/
theorem make_obj {R : Result → Shared → Prop} {C fI : Addr} {rest : List Value} {kw : List (Str × Value)}
    (X : K.In s.heap) (hm : makesIn K C = true) (hi : findIn K (.ref C) "__init__" = some (some (.ref fI))) (hf : isFn K (.ref fI) = true)
    (h : codeAny (model prog w) (A.under (.builtin "type.__call__" ⟨.ref C :: rest, kw⟩)) (.call (.ref fI) ⟨.ref (s.heap.objs.size + 1) :: rest, kw⟩) (InitBack (s.heap.objs.size + 1) R)
      { s with heap := (s.heap.push emptyDict).push (instObj C s.heap.objs.size) }) : codeAny (model prog w) A (.call (.ref C) ⟨rest, kw⟩) R s := by
  obtain ⟨hh, g, d, t, os⟩ := s
  exact make_core (makes_of X hm) (looks_findIn X hi) (fun self => bind_fn X self (beq_iff_eq.mp hf)) (.inl rfl) h

/-- x.name where the instance's dict holds the name and the class does not -/
theorem get_field {x C : Addr} {ox : Obj} {es : List DictEntry} {n : Nat} {name : Str} {expr : Bool} {v : Value} {Q : Value → Shared → Prop}
    (X : K.In s.heap) (I : PySem.W.InstAt s.heap x ox C (some (dictOf es n))) (hg : plainGet K C name = true) (hh : hasDictIn K C = true) (ha : findIn K (.ref C) name = some none)
    (hl : getL name es = some (some v)) (hv : handedIn v = true) (h : Q v { s with toks := s.toks + 1 }) : wpAny (model prog w) A (getAttr (.ref x) name expr) Q E s :=
  get_value X I (plainGet_of hg).1 (findObj_own hh ha rfl hl) hv h

/-- x.m(..): the method found in the class -/
theorem get_method {x C f : Addr} {ox : Obj} {es : List DictEntry} {n : Nat} {name : Str} {pl : Sem Bool} {Q : Value × List Value → Shared → Prop}
    (X : K.In s.heap) (I : PySem.W.InstAt s.heap x ox C (some (dictOf es n))) (hg : plainGet K C name = true) (hf : findIn K (.ref C) name = some (some (.ref f))) (ht : isFn K (.ref f) = true)
    (hl : getL name es = some none) (h : Q (.ref f, [.ref x]) s) : wpAny (model prog w) A (getMethod (.ref x) name pl) Q E s :=
  method_fn X I (plainGet_of hg).1 (plainGet_of hg).2 hf (beq_iff_eq.mp ht) (by show (lookIn name (dictOf es n)).map _ = _; rw [lookIn_dict, hl]; rfl) h

/-! the whole heap as the ledger: makes every rule that writes through a ledger a rule over any heap -/
def noObjs (h : Heap) : Heap := { h with objs := #[] }
theorem noObjs_get (h : Heap) (b : Addr) : (noObjs h).get? b = none := by
  cases e : (noObjs h).get? b with
  | none => rfl
  | some o => exact absurd (Heap.lt_size e) (Nat.not_lt_zero _)
def ledger (h : Heap) (L d : Addr) : List (Addr × Obj) := (List.range h.objs.size).filterMap fun a => if a = L ∨ a = d then none else (h.get? a).map fun o => (a, o)
theorem mem_ledger {h : Heap} {L d a : Addr} {o : Obj} : (a, o) ∈ ledger h L d ↔ a ≠ L ∧ a ≠ d ∧ h.get? a = some o := by
  unfold ledger
  rw [List.mem_filterMap]
  constructor
  · rintro ⟨b, _, e⟩
    split at e
    · cases e
    · rename_i hb
      obtain ⟨o', ho, e'⟩ := Option.map_eq_some_iff.mp e
      cases e'
      exact ⟨fun q => hb (.inl q), fun q => hb (.inr q), ho⟩
  · rintro ⟨n1, n2, ho⟩
    refine ⟨a, List.mem_range.mpr (Heap.lt_size ho), ?_⟩
    rw [if_neg (show ¬ (a = L ∨ a = d) from fun q => q.elim n1 n2), ho] <;> rfl
theorem news_ledger {h : Heap} {L d : Addr} {od : Obj} (hne : d ≠ L) (ho : h.get? d = some od) : News (noObjs h) L h ([] ++ (d, od) :: ledger h L d) := by
  rintro ⟨a, o⟩ hp
  rcases List.mem_cons.mp hp with e | hp
  · cases e
    exact ⟨ho, hne, noObjs_get _ _⟩
  · obtain ⟨n1, n2, e⟩ := mem_ledger.mp hp
    exact ⟨e, n1, noObjs_get _ _⟩
theorem fr_all {h : Heap} {L : Addr} {m : Str → Option Value} (n : h.Ns L m) : Fr (noObjs h) L h m :=
  ⟨n, fun b o e => (by rw [noObjs_get] at e; cases e), Nat.zero_le _⟩
/-- Upd of the head entry (for append_K, setItem_K ..) -/
theorem upd_ledger {h : Heap} {L d : Addr} {o o' : Obj} : Upd d o o' ((d, o) :: ledger h L d) ((d, o') :: ledger h L d) :=
  .head fun ⟨_, _⟩ hp => (mem_ledger.mp hp).2.1

/-- x.name = v over any heap: L is any namespace of the heap (the frame's, say): its map stays, its object is not told; all else but the dict stays -/
theorem set_field {x C dx L : Addr} {ox : Obj} {m : Str → Option Value} {es es' : List DictEntry} {n n' : Nat} {name : Str} {v : Value} {Q : Unit → Shared → Prop}
    (X : K.In s.heap) (I : PySem.W.InstAt s.heap x ox C (some (dictOf es n))) (hd : ox.dict = some dx) (hL : s.heap.Ns L m) (hne : dx ≠ L)
    (hs : findIn K (.ref C) "__setattr__" = some (some (.builtin "object.__setattr__"))) (hp : plainOver K C = true) (ht : takerIn K C name = some none) (hh : hasDictIn K C = true) (hl : (getL name es).isSome = true)
    (e : (putL name (PyData.keyHash w.params name) (.str name (s.toks + 1)) v es, putN name es n) = (es', n')) (hz : es'.length ≤ 1000)
    (h : ∀ h' : Heap, h'.Ns L m → h'.get? dx = some (dictOf es' n') → (∀ b o, b ≠ dx → b ≠ L → s.heap.get? b = some o → h'.get? b = some o) → Q () { s with heap := h', toks := s.toks + 2 }) :
    wpAny (model prog w) A (setAttr (.ref x) name v) Q E s := by
  obtain ⟨e1, e2⟩ := Prod.mk.inj e
  have hdx : s.heap.get? dx = some (dictOf es n) := by
    have := I.dict
    rw [hd] at this
    exact this
  refine set_plain X I hs (osa_dict (s := { s with toks := s.toks + 1 }) (h₀ := noObjs s.heap) (L := L) (m := m) (od := dictOf es n) (od' := dictOf es' n') (es := es') (n := n') (pre := []) (post := ledger s.heap L dx)
    (fr_all hL) (news_ledger hne hdx) X I hd hp ht hh hl (fun _ q => nomatch q) (fun ⟨_, _⟩ q => (mem_ledger.mp q).2.1) (by rw [putName_dict, e1, e2]) rfl hz fun h' F' N' => ?_)
  exact h h' F'.ns (N'.get (List.Mem.head _)) fun b o n1 n2 ho => N'.get (List.Mem.tail _ (mem_ledger.mpr ⟨n2, n1, ho⟩))
end
end Att

namespace L2
open PySem PySem.Spec PyProof.Rows

theorem vals_ints : ∀ {vs : List Value} {ns : List Int}, IntsAre vs ns → Vals (ns.map V.int) vs
  | _, _, .nil => .nil
  | _, _, .cons n t h => .cons ⟨t, rfl⟩ (vals_ints h)

/-- nothing is tracked but the script, known to the object (or it is an object of the module) -/
def Only (H : Hp) : Prop := ∀ b, H b = none ∨ ∃ o xs, H b = some (.frz o (.lst xs))

/-- THE HEAD: the law's promise, at the heap behind the top. F, the promise of the law's def, may use that base is part of the heap (so K.In base, base.Ns mainGlobals mg stand in Mod) -/
theorem law_call {P : Program} {w : World} {K : PySem.W.Frag} {mg mb : Str → Option Value} {CX : CXT} {k : Nat} {fa a : Addr} {fd : FuncData} {x : Str} {sp : Sp} {s₁ : Shared} {vs : List Value} {ns : List Int}
    (KX : K.In s₁.heap) (hns : s₁.heap.Ns mainGlobals mg) (hb : s₁.heap.Ns builtinsNs mb) (hbb : ∀ x : Str, x ≠ "__name__" → mb x = bootBuiltins x) (hlim : s₁.heap.NoLimit) (hg : s₁.gens = #[])
    (ha : s₁.heap.get? a = some { cls := .type "list", data := .seq vs.toArray }) (hi : IntsAre vs ns) (hl : ns.length ≤ sizeLine) (hr : Room k callerA)
    (F : ∀ base : Heap, K.In base → base.Ns mainGlobals mg → FnOk P w K mg base CX k fa fd [x] sp) (hbind : ∀ (s : Shared) (u : Value), BindsTo s fd ⟨[u], []⟩ [(x, u)])
    (hsp : ∀ H : Hp, Only H → SqL K H a (ns.map V.int) → sp [.ref a] H (fun v _ => v = .bl true) fun _ _ _ => False)
    (hCX : ∀ H e s', CX [] H s₁ (fun _ _ _ => False) e s' → False) :
    codeAny (model P w) callerA (.call (.ref fa) ⟨[.ref a], []⟩) (fun r s' => r = .ok (.ret (.bool true)) ∧ OldK s₁.heap s'.heap ∧ s'.os = s₁.os ∧ AllBare s'.gens) s₁ := by
  have rv := vals_ints hi
  have lenV := hi.length
  -- from an abstract heap in which nothing but the script may be tracked
  have core : ∀ H : Hp, Only H → SqL K H a (ns.map V.int) → HOk P w H s₁.heap → (∀ b, H b ≠ none → b = a) → (H a ≠ none → K.lookup a = none) →
      codeAny (model P w) callerA (.call (.ref fa) ⟨[.ref a], []⟩) (fun r s' => r = .ok (.ret (.bool true)) ∧ OldK s₁.heap s'.heap ∧ s'.os = s₁.os ∧ AllBare s'.gens) s₁ := by
    intro H hO hS hok hA hK
    have base_of : ∀ {b : Addr} {o : Obj}, s₁.heap.get? b = some o → H b = none → (hidT s₁.heap H).get? b = some o := fun e n => hidT_get e n
    have noA : ∀ {b : Addr} {o : Obj} {es : Array DictEntry} {ep : Nat}, s₁.heap.get? b = some o → o.data = .dict es ep → H b = none := fun {b o es ep} e d => by
      cases q : H b with
      | none => rfl
      | some u =>
        have e' : b = a := hA b (by rw [q]; simp)
        subst e'
        rw [ha] at e; cases e
        have d' : Data.seq vs.toArray _ = Data.dict es ep := d
        cases d'
    have nsK : ∀ {b : Addr} {m : Str → Option Value}, s₁.heap.Ns b m → (hidT s₁.heap H).Ns b m := fun {b m} ⟨o, es, ep, e, d, r⟩ => ⟨o, es, ep, base_of e (noA e d), d, r⟩
    have hKb : K.In (hidT s₁.heap H) := fun b o e => base_of (KX b o e) (by
      cases q : H b with
      | none => rfl
      | some u =>
        have e' : b = a := hA b (by rw [q]; simp)
        subst e'
        rw [hK (by rw [q]; simp)] at e; cases e)
    have hM : Mod K mg (hidT s₁.heap H) := ⟨hKb, nsK hns, ⟨mb, nsK hb, hbb⟩, let ⟨mc, h1, h2⟩ := hlim; ⟨mc, nsK h1, h2⟩⟩
    have e0 : Env0 P w K mg (hidT s₁.heap H) callerA [] s₁ H := ⟨rfl, hM, fun b o e => of_hidT e, Nat.le_of_eq (hidT_size _ _), trivial, fun b hb => absurd (show b ∈ ([] : List Addr) from hb) (by simp), hok, .of_eq hg⟩
    refine codeAny_mono ((F _ hKb (nsK hns)).run callerA [] s₁ H ⟨[.ref a], []⟩ [.ref a] [.ref a] _ _ hr e0 (hbind s₁ (.ref a)) (.cons rfl .nil) (hsp H hO hS)) fun r s' h => ?_
    cases r with
    | error e => exact (hCX H e s' h).elim
    | ok fl =>
      cases fl with
      | next => exact False.elim h
      | brk => exact False.elim h
      | cont => exact False.elim h
      | ret u =>
        obtain ⟨v, H', os, bare, un, hok', r', q⟩ := h
        have q' : v = .bl true := q
        subst q'
        obtain rfl : u = Value.bool true := r'
        refine ⟨rfl, OldK.of_keep fun b o e => ?_, os, bare⟩
        cases q : H b with
        | none => exact un.keep b o e q (by intro z; exact absurd (show b ∈ ([] : List Addr) from z) (by simp)) (by simp)
        | some u =>
          rcases hO b with z | ⟨ob, xs, z⟩
          · rw [q] at z; cases z
          · have z2 := un.frzs b ob _ z
            obtain ⟨e1, _⟩ := hok b _ z
            obtain ⟨e2, _⟩ := hok' b _ z2
            rw [e] at e1; cases e1
            exact e2
  cases hk : K.lookup a with
  | some o =>
    -- the script is one of the module's own objects
    have e := KX a o hk
    rw [ha] at e
    cases e
    refine core (fun _ => none) (fun _ => .inl rfl) (.inr ⟨_, vs.toArray, _, hk, rfl, rfl, rfl, by rw [List.size_toArray, lenV]; exact hl, by simpa using rv⟩) (fun b u z => by have z' : (none : Option HO) = some u := z; cases z') (fun b z => absurd rfl z) fun z => absurd rfl z
  | none =>
    refine core (fun b => if b = a then some (.frz { cls := .type "list", data := .seq vs.toArray } (.lst (ns.map V.int))) else none) (fun b => ?_) (.inl (.inr ⟨{ cls := .type "list", data := .seq vs.toArray }, if_pos rfl⟩)) (fun b u z => ?_) (fun b z => ?_) fun _ => hk
    · by_cases hb : b = a
      · exact .inr ⟨_, _, if_pos hb⟩
      · exact .inl (if_neg hb)
    · by_cases hb : b = a
      · have z' := (if_pos hb).symm.trans z
        cases z'
        subst hb
        exact ⟨ha, by rw [List.length_map]; exact hl, vs, _, rv, ha⟩
      · have z' := (if_neg hb).symm.trans z
        cases z'
    · by_cases hb : b = a
      · exact hb
      · exact absurd (if_neg hb) z
end L2

namespace L2
open PySem PySem.Spec PyProof.Rows

abbrev KOf {K : PySem.W.Frag} {h : Heap} (_ : K.In h) : PySem.W.Frag := K

/-- the goal that k_head leaves (case hc), from the law's promise. F gives the function object fd (K's own) once, then the promise over every base -/
theorem walk_of {l : PySem.W.OpenLaw} {n k : Nat} {q : Program} {loose : List Str} {XP : (Str → Option Value) → Heap → Prop} {YP : World → Heap → Prop} {d : DefRec} {K : Params → PySem.W.Frag} {CX : World → CXT} {sp : World → Sp} {x : Str}
    (hn : l.most = some n) (hn2 : n ≤ sizeLine) (hdf : d.params.defaults = []) (hr : Room k callerA)
    (hY : ∀ (w : World) (h : Heap), YP w h → (K w.params).In h)
    (F : ∀ (w : World) (mg : Str → Option Value) (fa : Addr) (h : Heap), (K w.params).In h → h.Ns mainGlobals mg → mg d.name = some (.ref fa) →
      ∃ fd : FuncData, (∀ (s : Shared) (u : Value), BindsTo s fd ⟨[u], []⟩ [(x, u)]) ∧
        ∀ base : Heap, (K w.params).In base → base.Ns mainGlobals mg → FnOk l.prog w (K w.params) mg base (CX w) k fa fd [x] (sp w))
    (hsp : ∀ (w : World) (H : Hp) (a : Addr) (ns : List Int), ns.length ≤ n → Only H → SqL (K w.params) H a (ns.map V.int) → sp w [.ref a] H (fun v _ => v = .bl true) fun _ _ _ => False)
    (hCX : ∀ (w : World) (H : Hp) (s : Shared) (e : Value) (s' : Shared), CX w [] H s (fun _ _ _ => False) e s' → False) :
    PySem.W.WalkO q loose XP YP l.row.toRowW d [] (fun f vs => PySem.call f vs) := by
  refine Att.attach_call hn hdf fun w s₀ s₁ mg mb fa o pm cd doc a vs ns G Y ho hd hcd hmg hobj hints hlen hg => ?_
  have KX := hY w _ Y
  obtain ⟨fd, hb, hF⟩ := F w mg fa _ KX G.T.g hmg
  exact law_call KX G.T.g G.T.b G.T.builtins G.T.nolimit hg hobj hints (Nat.le_trans hlen hn2) hr hF hb (fun H hO hS => hsp w H a ns hlen hO hS) fun H e s' => hCX w H s₁ e s'
/-- the same where the promise hangs on the written part alone: (sp := My.sp_law), no hole under a binder -/
theorem walk_ofK {l : PySem.W.OpenLaw} {n k : Nat} {q : Program} {loose : List Str} {XP : (Str → Option Value) → Heap → Prop} {YP : World → Heap → Prop} {d : DefRec} {K : Params → PySem.W.Frag} {CX : CXT} {sp : PySem.W.Frag → Sp} {x : Str}
    (hn : l.most = some n) (hn2 : n ≤ sizeLine) (hdf : d.params.defaults = []) (hr : Room k callerA)
    (hY : ∀ (w : World) (h : Heap), YP w h → (K w.params).In h)
    (F : ∀ (w : World) (mg : Str → Option Value) (fa : Addr) (h : Heap), (K w.params).In h → h.Ns mainGlobals mg → mg d.name = some (.ref fa) →
      ∃ fd : FuncData, (∀ (s : Shared) (u : Value), BindsTo s fd ⟨[u], []⟩ [(x, u)]) ∧
        ∀ base : Heap, (K w.params).In base → base.Ns mainGlobals mg → FnOk l.prog w (K w.params) mg base CX k fa fd [x] (sp (K w.params)))
    (hsp : ∀ (K : PySem.W.Frag) (H : Hp) (a : Addr) (ns : List Int), ns.length ≤ n → Only H → SqL K H a (ns.map V.int) → sp K [.ref a] H (fun v _ => v = .bl true) fun _ _ _ => False)
    (hCX : ∀ (H : Hp) (s : Shared) (e : Value) (s' : Shared), CX [] H s (fun _ _ _ => False) e s' → False) :
    PySem.W.WalkO q loose XP YP l.row.toRowW d [] (fun f vs => PySem.call f vs) :=
  walk_of (K := K) (CX := fun _ => CX) (sp := fun w => sp (K w.params)) hn hn2 hdf hr hY F (fun w H a ns h1 h2 h3 => hsp (K w.params) H a ns h1 h2 h3) fun _ H s e s' => hCX H s e s'
end L2

/- THE LAST THEOREM (shape; LID, My.* are yours):
   My.Adr: a structure of the addresses that your layer names (classes, functions); My.Txt K t: a structure (Prop) of the equations over K;
   My.txt_mk : {K} {implicit addresses ..} (e1 : nsIn K mainGlobals "law" = some (some (.ref f))) (e2 : K.lookup f = some ⟨oc, od, .func (fnOf "law" "law" params body scope dV kV doc pm an cdv ct), sl⟩) (e3 : codeIn K cdv "law" = true) .. : ∃ t, My.Txt K t

set_option maxRecDepth 100000 in
set_option maxHeartbeats 0 in
theorem PySem.Challenge.cw_LID_holds : PySem.Challenge.rw_LID.Holds := by
  w_on; o_law; k_head; (case hw => w_witness2)
  k_fill
  refine L2.walk_of (l := PySem.Challenge.rw_LID) (n := 63) (k := 40) (x := "script") (CX := fun w => ..) (sp := fun _ => My.sp_law) rfl (by decide) rfl ⟨rfl, by decide, by decide⟩ (fun w h Y => PySem.W.kIn_of Y) ?F ?S ?C
  case F =>
    intro w mg fa h KX G hmg
    have T : ∃ t, My.Txt (L2.KOf KX) t := by
      dsimp only [L2.KOf]                          -- K must stand as «<heap const> w.params» for k_is
      refine' My.txt_mk ?e1 ?e2 ?e3 ..
      (case e1 => PySem.W.k_is)                    -- in the order: a name -> its address -> its object -> its parts
      (case e2 => PySem.W.k_is)
      ..
    obtain ⟨t, T⟩ := T
    have e0 := hmg.symm.trans (PySem.W.mg_of KX G T.law)
    cases e0                                       -- fa is the law's own address
    exact ⟨_, fun s u => .of_eq rfl, fun base kb nb => My.law_fn T kb nb⟩     -- if «.of_eq rfl» comes too early: refine' ⟨_, ?b, fun base kb nb => My.law_fn T kb nb⟩; exact fun s u => .of_eq rfl
  case S => exact fun w H a ns hl hO hS => ..
  case C => exact ..
(the tactic k_is has no namespace: write k_is) -/

/-! SHORT WORDS over the layer: a def of the text, its body, what a loop and a test want. -/
namespace L2
open PySem PySem.Spec PyProof.Rows

/-! ### the text by places -/
/-- the j-th statement of a class's body -/
def inClass (s : Stmt) (j : Nat) : Stmt := match s with
  | .ClassDef _ _ _ body _ _ _ _ _ _ _ => body.getD j (.Pass ⟨0, 0, 0, 0⟩)
  | _ => .Pass ⟨0, 0, 0, 0⟩
def defArgs (s : Stmt) : Arguments := match s with
  | .FunctionDef _ a _ _ _ _ _ _ _ _ => a
  | _ => { posonlyargs := [], args := [], vararg := none, kwonlyargs := [], kw_defaults := [], kwarg := none, defaults := [] }
def defBody (s : Stmt) : List Stmt := match s with
  | .FunctionDef _ _ b _ _ _ _ _ _ _ => b
  | _ => []
def defScope (s : Stmt) : Scope := match s with
  | .FunctionDef _ _ _ _ _ _ sc _ _ _ => sc
  | _ => { kind := .function, names := [], isGenerator := false, isCoroutine := false }

/-! ### no exception leaves a def -/
abbrev CX0 : CXT := fun _ _ _ _ _ _ => False
abbrev E0 : XK := fun _ _ _ => False
theorem pass0 {X : Cx} : Passes CX0 X E0 := fun _ _ _ _ _ _ _ h => h.elim

/-! ### a def (or method) of the text as it stands behind the top -/
structure Fun (K : PySem.W.Frag) (x qual : Str) (st : Stmt) (f : Addr) (fd : FuncData) : Prop where
  ex : ∃ (oc : Value) (od : Option Addr) (kV doc pm : Value) (an : Option Addr) (cdv ct : Value) (osl : Array (Option Value)),
    fd = PySem.W.fnOf x qual (defArgs st) (defBody st) (defScope st) .none kV doc pm an cdv ct ∧ K.lookup f = some ⟨oc, od, .func fd, osl⟩ ∧ PySem.W.codeIn K cdv qual = true
  kp : PySem.W.keepIn K (.ref f) = true
section
variable {P : Program} {w : World} {K : PySem.W.Frag} {mg : Str → Option Value} {base : Heap}
/-- THE RULE for a def: its body as a term of rules, and the reading of that term -/
theorem Fun.ok {x qual : Str} {st : Stmt} {f : Addr} {fd : FuncData} {N ps : List Str} {k : Nat} {sp : Sp} (F : Fun K x qual st f fd) (S : FnScope N ps (defScope st)) (len : ∀ vs H Q E, sp vs H Q E → vs.length = ps.length)
    (hbody : ∀ (cdv : Value) (A : Around) (outer : List Env) (s : Shared) (H : Hp) (vs : List V) (Q : VK) (E : XK), Room k (A.deeper (envOfC qual (defScope st) s.heap.objs.size f cdv)) → sp vs H Q E →
      ∃ t, PSs (cxOf CX0 P w K mg base N qual (defScope st) f cdv A outer s H E).nox (defBody st) t ∧ t { nx := fun _ H' => Q .non H', rt := Q } (start N vs) H) : FnOk P w K mg base CX0 (k + 1) f fd ps sp := by
  obtain ⟨oc, od, kV, doc, pm, an, cdv, ct, osl, rfl, lk, hcd⟩ := F.ex
  refine fn_of lk hcd S len fun A outer s H vs Q E hr hsp => ?_
  obtain ⟨t, h, q⟩ := hbody cdv A outer s H vs Q E hr hsp
  exact ⟨t, h.nox, q⟩
/-- how its arguments bind (no defaults): h is «fun _ _ _ _ _ _ us hl => match us, hl with | [_, _], _ => rfl», one _ a parameter -/
theorem Fun.binds {x qual : Str} {st : Stmt} {f : Addr} {fd : FuncData} {ps : List Str} (F : Fun K x qual st f fd)
    (h : ∀ (kV doc pm : Value) (an : Option Addr) (cdv ct : Value) (us : List Value), us.length = ps.length → bindArgs (PySem.W.fnOf x qual (defArgs st) (defBody st) (defScope st) .none kV doc pm an cdv ct) ⟨us, []⟩ = pure (ps.zip us)) : Binds K fd ps [] := by
  obtain ⟨oc, od, kV, doc, pm, an, cdv, ct, osl, rfl, lk, hcd⟩ := F.ex
  exact .all (h kV doc pm an cdv ct)
theorem fun_mk {x qual : Str} {st : Stmt} {f : Addr} {oc : Value} {od an : Option Addr} {osl : Array (Option Value)} {kV doc pm cdv ct : Value} (l : K.lookup f = some ⟨oc, od, .func (PySem.W.fnOf x qual (defArgs st) (defBody st) (defScope st) .none kV doc pm an cdv ct), osl⟩)
    (c : PySem.W.codeIn K cdv qual = true) (k : PySem.W.keepIn K (.ref f) = true) : Fun K x qual st f (PySem.W.fnOf x qual (defArgs st) (defBody st) (defScope st) .none kV doc pm an cdv ct) := ⟨⟨oc, od, kV, doc, pm, an, cdv, ct, osl, rfl, l, c⟩, k⟩
end
theorem hu_of {A : Around} {k : Nat} (hr : Room k A) : A.units + 1 < cLine := Nat.lt_of_le_of_lt (Nat.add_le_add_left (by decide : 1 ≤ 64) _) hr.units
theorem small1000 {n : Nat} (h : n ≤ 1000) : n < sizeLine := Nat.lt_of_le_of_lt h (by decide)

/-! ### expressions in short: the name that stands in the i-th slot -/
section
variable {X : Cx}
theorem pv (i : Nat) {x : Str} {pos : Pos} (hN : X.N[i]? = some x := by rfl) (hv : Vis X.env.scope x := by first | exact Or.inl rfl | exact Or.inr (Or.inl rfl) | exact Or.inr (Or.inr rfl)) (hd : (x == ("__debug__" : Str)) = false := by decide)
    (hcd : (x == ("__classdict__" : Str)) = false := by decide) : PE X (.Name x pos) (tVar i) := pe_var hN hv hd hcd
/-- len of a dict -/
theorem call_lenD : CallR X (.builtin "len") (fun xs H Q => ∃ a kvs, xs = [V.ref a] ∧ H a = some (.dK kvs) ∧ Q (.int kvs.length) H) := by
  intro pins s σ H xs us Q I r h
  obtain ⟨a, kvs, rfl, ha, q⟩ := h
  obtain ⟨u, rfl, ru⟩ := vals1 r
  cases ru
  exact d_len I (.inl ha) fun t s' I' => ⟨.int kvs.length, H, I', ⟨t, rfl⟩, q⟩
end

/-! ### tests -/
theorem iteF {A B : Prop} (h : B) : if false = true then A else B := by
  rw [if_neg Bool.false_ne_true]
  exact h
theorem iteT {A B : Prop} (h : A) : if true = true then A else B := by
  rw [if_pos rfl]
  exact h
theorem ite2 {c A B : Prop} [Decidable c] (h1 : c → A) (h2 : ¬ c → B) : if c then A else B := by
  by_cases h : c
  · rw [if_pos h]
    exact h1 h
  · rw [if_neg h]
    exact h2 h
theorem iteNS {c A B : Prop} [Decidable c] (hc : c) (h : B) : if (!decide c) = true then A else B := by
  rw [decide_eq_true hc]
  exact iteF h

/-! ### heaps -/
/-- all that was tracked is as it was -/
def Same (H H' : Hp) : Prop := ∀ b o, H b = some o → H' b = some o
theorem Same.refl (H : Hp) : Same H H := fun _ _ h => h
theorem Same.trans {H H1 H2 : Hp} (a : Same H H1) (b : Same H1 H2) : Same H H2 := fun c o h => b c o (a c o h)
theorem Same.free {H H' : Hp} (e : Same H H') {l : Addr} (h : H' l = Option.none) : H l = Option.none := by
  cases q : H l with
  | none => rfl
  | some o =>
    rw [e l o q] at h
    cases h
theorem Same.seq {K : PySem.W.Frag} {H H' : Hp} {a : Addr} {xs : List V} (e : Same H H') (h : SqL K H a xs) : SqL K H' a xs := by
  rcases h with (h | ⟨o, h⟩) | h
  · exact .inl (.inl (e _ _ h))
  · exact .inl (.inr ⟨o, e _ _ h⟩)
  · exact .inr h

/-! ### a dict's pairs: keys that differ -/
section
variable {κ : Type} [DecidableEq κ]
theorem valV_not {kvs : List (κ × V)} {k : κ} (h : valV kvs k = none) : ¬ k ∈ kvs.map (·.1) := by
  intro m
  obtain ⟨p, hp, e⟩ := List.mem_map.mp m
  have q : (kvs.any fun kv => decide (kv.1 = k)) = true := List.any_eq_true.mpr ⟨p, hp, decide_eq_true e⟩
  rw [valV_any, h] at q
  exact absurd q (by simp)
theorem valV_in {kvs : List (κ × V)} {k : κ} {v : V} (h : valV kvs k = some v) : k ∈ kvs.map (·.1) := by
  have q : (kvs.any fun kv => decide (kv.1 = k)) = true := by
    rw [valV_any, h]
    all_goals rfl
  obtain ⟨p, hp, e⟩ := List.any_eq_true.mp q
  exact List.mem_map.mpr ⟨p, hp, of_decide_eq_true e⟩
theorem nd_snoc : ∀ {l : List κ} {k : κ}, l.Nodup → ¬ k ∈ l → (l ++ [k]).Nodup
  | [], k, _, _ => by simp
  | a :: r, k, h, hk => by
    obtain ⟨h1, h2⟩ := List.nodup_cons.mp h
    show (a :: (r ++ [k])).Nodup
    refine List.nodup_cons.mpr ⟨fun m => ?_, nd_snoc h2 fun m => hk (List.mem_cons.mpr (Or.inr m))⟩
    rcases List.mem_append.mp m with q | q
    · exact h1 q
    · exact hk (List.mem_cons.mpr (Or.inl (List.mem_singleton.mp q).symm))
theorem nd_putK {kvs : List (κ × V)} {k : κ} (v : V) (hn : (kvs.map (·.1)).Nodup) (h : valV kvs k = none) : ((putK kvs k v).map (·.1)).Nodup := by
  rw [putK_new v h, List.map_append]
  exact nd_snoc hn (valV_not h)
theorem dropK_pos {p : κ × V} {r : List (κ × V)} {k : κ} (e : p.1 = k) : dropK (p :: r) k = dropK r k := by
  unfold dropK
  rw [List.filter_cons, if_neg (by simp [e])]
theorem dropK_neg {p : κ × V} {r : List (κ × V)} {k : κ} (e : ¬ p.1 = k) : dropK (p :: r) k = p :: dropK r k := by
  unfold dropK
  rw [List.filter_cons, if_pos (by simp [e])]
theorem dropK_no : ∀ {kvs : List (κ × V)} {k : κ}, ¬ k ∈ kvs.map (·.1) → dropK kvs k = kvs
  | [], _, _ => rfl
  | p :: r, k, h => by
    have h' : ¬ k ∈ r.map (·.1) := fun m => by
      obtain ⟨q, hq, e⟩ := List.mem_map.mp m
      exact h (List.mem_map.mpr ⟨q, List.mem_cons.mpr (Or.inr hq), e⟩)
    rw [dropK_neg fun e => h (List.mem_map.mpr ⟨p, List.mem_cons.mpr (Or.inl rfl), e⟩), dropK_no h']
theorem dropK_mem {kvs : List (κ × V)} {k : κ} {p : κ × V} (h : p ∈ dropK kvs k) : p ∈ kvs := (List.mem_filter.mp h).1
theorem nd_dropK : ∀ {kvs : List (κ × V)} {k : κ}, (kvs.map (·.1)).Nodup → ((dropK kvs k).map (·.1)).Nodup
  | [], _, _ => List.nodup_nil
  | p :: r, k, h => by
    have h : (p.1 :: r.map (·.1)).Nodup := h
    obtain ⟨h1, h2⟩ := List.nodup_cons.mp h
    by_cases e : p.1 = k
    · rw [dropK_pos e]
      exact nd_dropK h2
    · rw [dropK_neg e]
      show (p.1 :: (dropK r k).map (·.1)).Nodup
      refine List.nodup_cons.mpr ⟨fun m => h1 ?_, nd_dropK h2⟩
      obtain ⟨q, hq, eq⟩ := List.mem_map.mp m
      exact List.mem_map.mpr ⟨q, dropK_mem hq, eq⟩
theorem dropK_len : ∀ {kvs : List (κ × V)} {k : κ}, (kvs.map (·.1)).Nodup → k ∈ kvs.map (·.1) → (dropK kvs k).length + 1 = kvs.length
  | [], _, _, m => by simp at m
  | p :: r, k, h, m => by
    have h : (p.1 :: r.map (·.1)).Nodup := h
    have m : k = p.1 ∨ k ∈ r.map (·.1) := List.mem_cons.mp m
    obtain ⟨h1, h2⟩ := List.nodup_cons.mp h
    by_cases e : p.1 = k
    · subst e
      rw [dropK_pos rfl, dropK_no h1]
      all_goals rfl
    · have m' : k ∈ r.map (·.1) := m.resolve_left fun z => e z.symm
      have q := dropK_len h2 m'
      rw [dropK_neg e, List.length_cons, List.length_cons]
      omega
end
end L2


set_option Elab.async false
set_option linter.all false
set_option maxRecDepth 100000
set_option maxHeartbeats 4000000
/-! ### comprehensions over the hand layer -/
namespace L2
open PySem PySem.Spec PyProof.Rows

theorem compLoop_any {prog : Program} {w : World} {A : Around} {R : Result → Shared → Prop} {s : Shared} {elt target iter : Expr} {ifs : List Expr} {scope : Scope} {pos : Pos} {it acc : Value} {env : Env} (I : Nat → Shared → Prop)
    (turn : ∀ n s, I n s → wpAny (model prog w) A (pyNext it) (fun r s₁ => match r with
      | none => R (.ok .next) s₁
      | some v => wpAny (model prog w) A (letOwnedTupleGo target it v) (fun _ s₁' => wpAny (model prog w) A (assign target env v) (fun _ s₂ =>
          wpAny (model prog w) A (forIn ifs true fun c r => if r = true then do let ok ← isTrue c env (eval c env); pure (ForInStep.yield ok) else pure (ForInStep.yield r)) (fun ok s₃ =>
            if ok = true then wpAny (model prog w) A (eval elt env) (fun x s₄ =>
              wpAny (model prog w) A (call (.builtin "list.append") [acc, x]) (fun _ s₅ => ∃ m, m < n ∧ I m s₅) (fun _ _ => False) s₄) (fun _ _ => False) s₃
            else ∃ m, m < n ∧ I m s₃) (fun _ _ => False) s₂) (fun _ _ => False) s₁') (fun _ _ => False) s₁) (fun _ _ => False) s)
    (n : Nat) (h : I n s) :
    codeAny (model prog w) A (.compLoop (.ListComp elt [⟨target, iter, ifs, 0⟩] scope pos) 0 it acc env) R s := by
  refine codeAny_loop rfl I (fun n s hI => ?_) n h
  show wpAny _ A ((compTurn (.ListComp elt [⟨target, iter, ifs, 0⟩] scope pos) 0 it acc env).onRaise (fun x => do noteFrame x env; theTreesLotGoes x)) _ _ s
  refine wpAny_noted ?_
  rw [compTurn_list]
  refine wpAny_bind (wpAny_standAt (wpAny_bind (wpAny_mono (turn n s hI) (fun r s₁ h₁ => ?_) fun _ _ h' => h'.elim)))
  cases r with
  | none => exact wpAny_pure h₁
  | some v =>
    refine wpAny_bind (wpAny_mono h₁ (fun _ s₁' h₁' => ?_) fun _ _ h' => h'.elim)
    refine wpAny_bind (wpAny_mono h₁' (fun _ s₂ h₂ => wpAny_bind (wpAny_mono h₂ (fun ok s₃ h₃ => ?_) fun _ _ h' => h'.elim)) fun _ _ h' => h'.elim)
    cases ok with
    | false => exact wpAny_pure ⟨rfl, h₃⟩
    | true =>
      exact wpAny_bind (wpAny_bind (wpAny_mono h₃ (fun x s₄ h₄ => wpAny_bind (wpAny_mono h₄ (fun _ s₅ h₅ => wpAny_pure (wpAny_pure ⟨rfl, h₅⟩)) fun _ _ h' => h'.elim)) fun _ _ h' => h'.elim))

/-- where a block runs -/
structure Bk where
  C : Addr
  s : Shared
  H : Hp
  fp : List Addr
  pn : List (Addr × Obj)
def clOf (env : Env) (fs : List Str) : List (Str × Addr) := fs.map fun x => (x, (env.cells.lookup x).getD 0)
/-- the context of a comprehension's block: N its names (its own, then the ones it closes over: fs as the closure has them) -/
abbrev Cx.blk (X : Cx) (N : List Str) (scope : Scope) (fs : List Str) (B : Bk) : Cx :=
  { X with N := N, s₀ := B.s, H₀ := B.H, env := compEnvC scope (clOf X.env fs) B.C X.env, outer := X.stack, ex := B.fp, fn := fun _ => false, pn := B.pn, xe := fun _ _ => False }
def CellsOk (env : Env) : List Str → Prop
  | [] => True
  | x :: r => (∃ c, env.cells.lookup x = some c) ∧ CellsOk env r
theorem cl_of {env : Env} : ∀ {fs : List Str}, CellsOk env fs → ∀ {x : Str} {c : Addr}, (clOf env fs).lookup x = some c → env.cells.lookup x = some c
  | [], _, x, c, h => by cases h
  | y :: r, k, x, c, h => by
    obtain ⟨⟨d, hd⟩, k⟩ := k
    have h' : List.lookup x ((y, (env.cells.lookup y).getD 0) :: clOf env r) = some c := h
    rw [List.lookup_cons] at h'
    cases e : x == y with
    | true =>
      rw [e] at h'
      have e' : x = y := by simpa using e
      subst e'
      rw [hd] at h'
      rw [hd]
      exact h'
    | false =>
      rw [e] at h'
      exact cl_of k h'
def hasB (names : List (Str × NameKind)) (cl : List (Str × Addr)) : Bool := names.all fun y => (y.2 != .cell && y.2 != .free) || (cl.lookup y.1).isSome
theorem has_of {names : List (Str × NameKind)} {cl : List (Str × Addr)} {x : Str} {k : NameKind} (h : hasB names cl = true) (e : names.lookup x = some k) (hk : k = .cell ∨ k = .free) : ∃ c, cl.lookup x = some c := by
  have hm : (x, k) ∈ names := PySem.mem_of_lookup e
  have q := List.all_eq_true.mp h _ hm
  have z : (cl.lookup x).isSome = true := by
    rcases hk with rfl | rfl
    · simpa using q
    · simpa using q
  exact Option.isSome_iff_exists.mp z
def FreeOk (env : Env) (scope : Scope) (cl : List (Str × Addr)) : List Str → Prop
  | [] => True
  | x :: r => ((env.scope.names.lookup x = some .cell ∨ env.scope.names.lookup x = some .free) ∧ ((relabel scope env).names.lookup x = some .cell ∨ (relabel scope env).names.lookup x = some .free) ∧ cl.lookup x = env.cells.lookup x) ∧ FreeOk env scope cl r
theorem FreeOk.mem {env : Env} {scope : Scope} {cl : List (Str × Addr)} : ∀ {l : List Str}, FreeOk env scope cl l → ∀ x ∈ l,
    (env.scope.names.lookup x = some .cell ∨ env.scope.names.lookup x = some .free) ∧ ((relabel scope env).names.lookup x = some .cell ∨ (relabel scope env).names.lookup x = some .free) ∧ cl.lookup x = env.cells.lookup x
  | [], _, x, h => nomatch h
  | y :: r, k, x, h => by
    rcases List.mem_cons.mp h with rfl | h
    · exact k.1
    · exact FreeOk.mem k.2 x h
def blkSt (own : Nat) (fr : List Nat) (σ : St) : St := List.replicate own none ++ fr.map fun j => (σ[j]?).getD none
abbrev lstO (us : List Value) : Obj := { cls := .type "list", data := .seq us.toArray us.length }
theorem lstO_snoc (us : List Value) (u : Value) : ({ cls := .type "list", data := .seq (us.toArray.push u) (us.length + 1) } : Obj) = lstO (us ++ [u]) := by
  show ({ cls := .type "list", data := .seq (us.toArray.push u) (us.length + 1) } : Obj) = { cls := .type "list", data := .seq (us ++ [u]).toArray (us ++ [u]).length }
  rw [List.length_append, List.length_singleton, List.push_toArray]

section
variable {X : Cx} {pins : List (Addr × Obj)} {σ : St} {H : Hp} {s : Shared}
/-- an untracked list of ours is tracked from here on -/
theorem Inv.track {D : Addr} {us : List Value} {n : Nat} {ys : List V} (I : Inv X pins σ H s) (f : FpOk X pins H D) (e : s.heap.get? D = some { cls := .type "list", data := .seq us.toArray n }) (r : Vals ys us) (hz : ys.length ≤ sizeLine) :
    Inv X pins σ (upd H D (.lst ys)) s := by
  obtain ⟨f0, f1, f2, f3, f4, f5⟩ := f
  have nD : ∀ b u, H b = some u → b ≠ D := fun b u q => ne_of_none q f0
  have hok : HOk X.prog X.w (upd H D (.lst ys)) s.heap := fun b u q => by
    by_cases hb : b = D
    · subst hb
      rw [upd_same] at q
      cases q
      exact ⟨hz, us, n, r, e⟩
    · rw [upd_ne hb] at q
      exact (I.hok b u q).stay (fun _ _ _ z => z) (fun c z => by rw [upd_ne (nD c _ z)]; exact z) fun c xs z => by rw [upd_ne (nD c _ z)]; exact z
  exact I.step (H' := upd H D (.lst ys)) (h' := s.heap) (g' := s.gens) (t' := s.toks) (d' := s.drawn) (ch := [D])
    (fun b hb => by
      have z : b = D := by simpa using hb
      subst z
      exact ⟨f3, f1, f4, f5⟩)
    (fun _ _ _ _ _ q _ => q) (fun _ o _ _ _ q _ => ⟨o.slots, q⟩)
    (fun b o hb _ n => by rw [upd_ne (fun z => hb (by simp [z]))]; exact n)
    (fun _ o _ q => ⟨o, q⟩) (fun b xs q => by rw [upd_ne (nD b _ q)]; exact q) (fun b o u q => by rw [upd_ne (nD b _ q)]; exact q)
    (fun b ps q => ⟨#[], by rw [upd_ne (nD b _ q), q]; simp⟩) (fun _ q => q) hok I.bare

theorem blk_ok {N : List Str} {scope : Scope} {fs : List Str} {C : Addr} {fp : List Addr} (I : Inv X pins σ H s) (hkind : scope.kind = .function) (hC : s.heap.objs.size ≤ C) (hcl : CellsOk X.env fs)
    (hhas : hasB (relabel scope X.env).names (clOf X.env fs) = true) (hf : ∀ b ∈ fp, FpOk X pins H b) (hlt : ∀ b ∈ fp, b < s.heap.objs.size) : (X.blk N scope fs ⟨C, s, H, fp, X.pn ++ pins⟩).Ok where
  mod := I.ok.mod
  kind := hkind
  glob := I.ok.glob
  blt := I.ok.blt
  above := hC
  inj := fun x y c h1 h2 => I.ok.inj x y c (cl_of hcl h1) (cl_of hcl h2)
  has := fun x hx => by
    rcases hx with e | e
    · exact has_of hhas e (.inl rfl)
    · exact has_of hhas e (.inr rfl)
  cab := fun x c h => by cases h
  hd := I.ok.hd
  frames := I.ok.frames
  stk := .inl rfl
  exf := fun b hb => ⟨Nat.ne_of_lt (Nat.lt_of_lt_of_le (hlt b hb) hC), fun x c e => (hf b hb).2.2.2.2.1 x c (cl_of hcl e)⟩
  bs := I.bs
  bsz := Nat.le_trans I.ok.bsz I.sz
  noex := fun b o e hb => (hf b hb).2.2.2.1.elim (fun z => I.ok.noex b o e z) fun z => absurd (Nat.lt_of_lt_of_le (Heap.lt_size e) (Nat.le_trans I.ok.bsz z)) (Nat.lt_irrefl _)
  exfs := fun b hb z => (List.mem_cons.mp (I.stkSub b z)).elim (hf b hb).2.1 (hf b hb).2.2.1
  funs := I.stack
  frf := I.stkFree

theorem blk_inv {N : List Str} {scope : Scope} {fs : List Str} {C D : Addr} {fp : List Addr} {own : Nat} {fr : List Nat} {h₁ : Heap} {m0 : Str → Option Value} {t' : Nat} (I : Inv X pins σ H s)
    (ok : (X.blk N scope fs ⟨C, s, H, fp, X.pn ++ pins⟩).Ok) (hC : s.heap.objs.size ≤ C) (hD : s.heap.objs.size ≤ D) (hDC : D ≠ C) (hcl : CellsOk X.env fs)
    (old : ∀ b o, s.heap.get? b = some o → h₁.get? b = some o) (hns : h₁.Ns C m0) (hacc : h₁.get? D = some (lstO [])) (hlen : N.length = own + fr.length) (hN : (N.drop own).map some = fr.map fun j => X.N[j]?)
    (hF : FreeOk X.env scope (clOf X.env fs) (N.drop own)) :
    Inv (X.blk N scope fs ⟨C, s, H, fp, X.pn ++ pins⟩) [(D, lstO [])] (blkSt own fr σ) H { s with heap := h₁, toks := t' } := by
  refine ⟨ok, rfl, I.bare, Un.kept old, ⟨m0, hns, fun i x v e1 e2 e3 => ?_⟩, fun x c e => ?_, I.hok.fresh hC, fun x c e => I.freeC x c (cl_of hcl e), fun p hp => ?_, I.hok.kept old, ?_⟩
  · have e1 : N[i]? = some x := e1
    by_cases hi : i < own
    · unfold blkSt at e2
      rw [List.getElem?_append_left (by rw [List.length_replicate]; exact hi), List.getElem?_replicate, if_pos hi] at e2
      cases e2
    · obtain ⟨k, rfl⟩ : ∃ k, i = own + k := ⟨i - own, by omega⟩
      have e1' : (N.drop own)[k]? = some x := by rw [List.getElem?_drop]; exact e1
      have q := congrArg (fun l => l[k]?) hN
      simp only [List.getElem?_map, e1', Option.map_some] at q
      unfold blkSt at e2
      rw [List.getElem?_append_right (by rw [List.length_replicate]; omega), List.length_replicate, Nat.add_sub_cancel_left, List.getElem?_map] at e2
      cases hj : fr[k]? with
      | none => rw [hj] at e2; cases e2
      | some j =>
        rw [hj] at e2 q
        simp only [Option.map_some, Option.some.injEq] at e2 q
        have hσ : σ[j]? = some (some v) := by
          cases z : σ[j]? with
          | none => rw [z] at e2; cases e2
          | some w => rw [z] at e2; simp only [Option.getD_some] at e2; rw [e2]
        obtain ⟨k1, k2, k3⟩ := hF.mem x (List.mem_of_getElem? e1')
        obtain ⟨m, hn, hl⟩ := I.loc
        have vis : Vis X.env.scope x := by
          rcases k1 with z | z
          · exact .inr (.inl z)
          · exact .inr (.inr z)
        obtain ⟨u, ru, l⟩ := hl j x v q.symm hσ vis
        rcases l with ⟨hk, _⟩ | ⟨_, c, hc, o, ho, hd⟩
        · have hk' : X.env.scope.names.lookup x = some .local := hk
          rcases k1 with z | z
          · rw [z] at hk'; cases hk'
          · rw [z] at hk'; cases hk'
        · exact ⟨u, ru, .inr ⟨k2, c, k3.trans hc, o, old _ _ ho, hd⟩⟩
  · obtain ⟨v, o, ho, hd⟩ := I.cell x c (cl_of hcl e)
    exact ⟨v, o, old _ _ ho, hd⟩
  · rcases List.mem_append.mp hp with z | z
    · obtain ⟨e, n, ne, nf, d⟩ := I.pin p z
      exact ⟨old _ _ e, n, Nat.ne_of_lt (Nat.lt_of_lt_of_le (Heap.lt_size e) hC), fun q => (List.mem_cons.mp (I.stkSub _ q)).elim ne nf, d⟩
    · have z' : p = (D, lstO []) := by simpa using z
      subst z'
      exact ⟨hacc, I.hok.fresh hD, hDC, fun q => (List.mem_cons.mp (I.stkSub _ q)).elim (fun e => absurd e (Nat.ne_of_gt (Nat.lt_of_lt_of_le I.lt hD))) (I.nofs hD), fun v z => by cases z⟩
  · show (blkSt own fr σ).length = N.length
    unfold blkSt
    rw [List.length_append, List.length_replicate, List.length_map, hlen]
end

/-- the tests of a clause -/
def PF (X : Cx) (ifs : List Expr) (t : TT) : Prop :=
  ∀ (pins : List (Addr × Obj)) (s : Shared) (σ : St) (H : Hp) (Q : Bool → Hp → Prop), Inv X pins σ H s → t σ H Q →
    wpAny (model X.prog X.w) X.A (forIn ifs true fun c r => if r = true then do let ok ← isTrue c X.env (eval c X.env); pure (ForInStep.yield ok) else pure (ForInStep.yield r)) (TP X pins σ Q) X.xe s
def tYes : TT := fun _ H Q => Q true H
theorem pf_nil {X : Cx} : PF X [] tYes := fun _ _ _ H _ I h => wpAny_tests_nil ⟨H, I, h⟩
theorem pf_one {X : Cx} {c : Expr} {t : TT} (h : PT X c t) : PF X [c] t := fun pins s σ H Q I q => wpAny_tests_one (h pins s σ H Q I q)

/-- what a comprehension's walk wants: W by the turn, a measure, the items so far -/
def CompW (J : It) (g : TG) (tc : TT) (te : TE) (own : Nat) (σ' : St) (fin : List V → Hp → Prop) (H1 : Hp) : Prop :=
  ∃ W : Nat → Nat → List V → Hp → Prop, (∃ m, W 0 m [] H1) ∧ ∀ i m ys H, W i m ys H →
    (J.stop i H ∧ ys.length ≤ sizeLine ∧ fin ys H) ∨
    (J.go i H ∧ ys.length ≤ sizeLine ∧ ∃ Nx : List V → Hp → Prop, (∀ ys' H', Nx ys' H' → ∃ m', m' < m ∧ W (i + 1) m' ys' H') ∧ ∀ x H', J.yld i H x H' → g x σ' H' fun σ2 H2 => σ2.drop own = σ'.drop own ∧ tc σ2 H2 fun b H3 =>
      if b = true then te σ2 H3 fun y H4 => Nx (ys ++ [y]) H4 else Nx ys H3)

section
variable {X : Cx} {pins : List (Addr × Obj)} {σ : St} {H : Hp} {s : Shared}
variable {elt iter tg : Expr} {ifs : List Expr} {scope : Scope} {pos : Pos} {N : List Str} {own : Nat} {fr : List Nat} {fs : List Str} {g : TG} {tc : TT} {te : TE}
theorem comp_block {J : It} {fp : List Addr} {it : Addr} {tn : Nat → Heap → Prop} {fin : List V → Hp → Prop} {E : Value → Shared → Prop} {RR : Value → Addr → Result → Shared → Prop}
    (hc : X.calm = true) (hcell : ∀ y ∈ scope.names, y.2 ≠ .cell) (hkind : scope.kind = .function) (hcl : CellsOk X.env fs) (hhas : hasB (relabel scope X.env).names (clOf X.env fs) = true)
    (hlen : N.length = own + fr.length) (hN : (N.drop own).map some = fr.map fun j => X.N[j]?) (hF : FreeOk X.env scope (clOf X.env fs) (N.drop own))
    (hg : ∀ B, PG (X.blk N scope fs B) tg g) (hf : ∀ B, PF (X.blk N scope fs B) ifs tc) (he : ∀ B, PE (X.blk N scope fs B) elt te)
    (I : Inv X pins σ H s) (T : Turn X.prog X.w X.K tg J fp it tn) (st : tn 0 s.heap) (f : ∀ b ∈ fp, FpOk X pins H b) (W : CompW J g tc te own (blkSt own fr σ) fin H)
    (hRR : ∀ D C s' ys H' m', Inv X pins σ (upd H' D (.lst ys)) s' → H' D = none → s'.heap.Ns C m' → FpOk X pins (upd H' D (.lst ys)) C → fin ys H' → RR (.ref D) C (.ok .next) s') :
    wpAny (model X.prog X.w) X.A (newList []) (fun acc s₃ => wpAny (model X.prog X.w) X.A (newFunctionEnv scope X.env.globals (clOf X.env fs) [] X.env.qual none .none (some X.env)) (fun cenv s₄ =>
      codeAny (model X.prog X.w) X.A (.compStart (.ListComp elt [⟨tg, iter, ifs, 0⟩] scope pos) 0 (.ref it) acc { cenv with scope := relabel scope X.env }) (RR acc cenv.locals) s₄) E s₃) E s := by
  refine wpAny_newObj_type (wpAny_newFunctionEnv hcell (by intro y hy; simp at hy) (fun h₁ hns₁ hsb₁ => ?_) hkind)
  dsimp only at hns₁ hsb₁ ⊢
  generalize hH2 : s.heap.push { cls := .type "list", dict := none, data := .seq ([] : List Value).toArray } = H2 at hns₁ hsb₁ ⊢
  have hC : H2.objs.size = s.heap.objs.size + 1 := by rw [← hH2, Heap.size_push]
  have hCle : s.heap.objs.size ≤ H2.objs.size := by rw [hC]; exact Nat.le_succ _
  have hDC : s.heap.objs.size ≠ H2.objs.size := by rw [hC]; exact Nat.ne_of_lt (Nat.lt_succ_self _)
  have below : ∀ b, b < s.heap.objs.size → b ≠ H2.objs.size ∧ b ≠ s.heap.objs.size := fun b hb => ⟨by rw [hC]; exact Nat.ne_of_lt (Nat.lt_succ_of_lt hb), Nat.ne_of_lt hb⟩
  have old : ∀ b o, s.heap.get? b = some o → h₁.get? b = some o := fun b o e => hsb₁.extBut b o (below b (Heap.lt_size e)).1 (Heap.get?_push_of_some _ (hH2 ▸ Heap.get?_push_of_some _ e))
  have hacc : h₁.get? s.heap.objs.size = some (lstO []) := hsb₁.extBut _ _ hDC (Heap.get?_push_of_some _ (hH2 ▸ Heap.get?_push_size _ rfl))
  have hlt : ∀ b ∈ fp, b < s.heap.objs.size := fun b hb => by
    obtain ⟨o, e, _⟩ := T.obj 0 _ st b hb
    exact Heap.lt_size e
  obtain ⟨Wv, ⟨m0, w0⟩, turn⟩ := W
  have ok := blk_ok (N := N) I hkind hCle hcl hhas f hlt
  have loop : ∀ s₃ : Shared, s₃ = { s with heap := h₁, toks := s.toks + ([] : List (Str × Value)).length } →
      codeAny (model X.prog X.w) X.A (.compLoop (.ListComp elt [⟨tg, iter, ifs, 0⟩] scope pos) 0 (.ref it) (.ref s.heap.objs.size) (compEnvC scope (clOf X.env fs) H2.objs.size X.env))
        (RR (.ref s.heap.objs.size) H2.objs.size) s₃ := by
    rintro s₃ rfl
    have I0 := blk_inv (own := own) (fr := fr) (t' := s.toks + ([] : List (Str × Value)).length) I ok hCle (Nat.le_refl _) hDC hcl old hns₁ hacc hlen hN hF
    have st0 : tn 0 h₁ := T.keep 0 _ _ st fun b _ o e => old b o e
    have stat : ∀ {us : List Value} {H' : Hp}, (∀ b ∈ fp, H' b = none) → ∀ b ∈ fp, FpOk (X.blk N scope fs ⟨H2.objs.size, s, H, fp, X.pn ++ pins⟩) [(s.heap.objs.size, lstO us)] H' b := fun {us H'} hn b hb => by
      obtain ⟨f0, f1, f2, f3, f4, f5⟩ := f b hb
      refine ⟨hn b hb, (below b (hlt b hb)).1, fun z => (List.mem_cons.mp (I.stkSub b z)).elim f1 f2, .inl hb, fun x c e => f4 x c (cl_of hcl e), fun p hp => ?_⟩
      rcases List.mem_append.mp hp with z | z
      · exact f5 p z
      · have z' : p = (s.heap.objs.size, lstO us) := by simpa using z
        subst z'
        exact Ne.symm (below b (hlt b hb)).2
    have pnlt : ∀ p ∈ X.pn ++ pins, p.1 < s.heap.objs.size := fun p hp => Heap.lt_size (I.pin p hp).1
    refine compLoop_any (fun k s' => ∃ i ys us H', Inv (X.blk N scope fs ⟨H2.objs.size, s, H, fp, X.pn ++ pins⟩) [(s.heap.objs.size, lstO us)] (blkSt own fr σ) H' s' ∧ Vals ys us ∧ tn i s'.heap ∧ (∀ b ∈ fp, H' b = none) ∧ Wv i k ys H') ?_ m0
      ⟨0, [], [], H, I0, .nil, st0, fun b hb => (f b hb).1, w0⟩
    rintro n s' ⟨i, ys, us, H', I', rv, st', fr', w'⟩
    rcases turn i n ys H' w' with ⟨stop, hz, hfin⟩ | ⟨go, hz, Nx, hNx, step⟩
    · refine thn (T.done (X.blk N scope fs ⟨H2.objs.size, s, H, fp, X.pn ++ pins⟩) rfl rfl rfl hc i _ s' _ H' (fun _ _ => False) I' (stat fr') st' stop) (fun r s1 ⟨hr, I1⟩ => ?_)
      subst hr
      show RR _ _ (.ok .next) s1
      have IX : Inv X pins σ H' s1 := I.call' I1.os I1.base I1.hok I1.bare fun b hb => by
        obtain ⟨f0, f1, f2, f3, f4, f5⟩ := f b hb
        exact ⟨f3, f1, f4, f5⟩
      obtain ⟨eD, nD, _⟩ := I1.pin (s.heap.objs.size, lstO us) (by simp)
      have IT := IX.track (I.fpOk (H' := H') (Nat.le_refl _) nD) eD rv hz
      obtain ⟨m', hn', _⟩ := I1.loc
      exact hRR _ _ s1 ys H' m' IT nD hn' (I.fpOk hCle (by rw [upd_ne (Ne.symm hDC)]; exact I1.free)) hfin
    · refine thn (T.item (X.blk N scope fs ⟨H2.objs.size, s, H, fp, X.pn ++ pins⟩) rfl rfl rfl hc i _ s' _ H' (fun _ _ => False) I' (stat fr') st' go) (fun r s1 ⟨u, hr, h1⟩ => ?_)
      subst hr
      show wpAny _ _ (letOwnedTupleGo tg (.ref it) u) _ _ s1
      refine thn h1 (fun _ s5 ⟨x, H5, I5, r5, y5, st5, fr5⟩ => ?_)
      have I5' := I5.pinned (stat fr5) (T.obj _ _ st5)
      refine thn (hg _ _ s5 _ H5 x u _ I5' r5 (step x H5 y5)) (fun _ s6 ⟨σ6, H6, I6, dr6, q6⟩ => ?_)
      refine thn (hf _ _ s6 σ6 H6 _ I6 q6) (fun b s7 ⟨H7, I7, q7⟩ => ?_)
      -- forgetting the turn's own names
      have forget : ∀ {H8 : Hp} {s8 : Shared} {pl : List (Addr × Obj)}, Inv (X.blk N scope fs ⟨H2.objs.size, s, H, fp, X.pn ++ pins⟩) pl σ6 H8 s8 → Inv (X.blk N scope fs ⟨H2.objs.size, s, H, fp, X.pn ++ pins⟩) pl (blkSt own fr σ) H8 s8 := fun {H8 s8 pl} I8 => by
        refine I8.weak (I0.len.trans I8.len.symm) fun j v e => ?_
        by_cases hj : j < own
        · unfold blkSt at e
          rw [List.getElem?_append_left (by rw [List.length_replicate]; exact hj), List.getElem?_replicate, if_pos hj] at e
          cases e
        · obtain ⟨k, rfl⟩ : ∃ k, j = own + k := ⟨j - own, by omega⟩
          rw [← List.getElem?_drop] at e ⊢
          rw [dr6]
          exact e
      have fpk : ∀ {H8 : Hp} {s8 : Shared}, Inv (X.blk N scope fs ⟨H2.objs.size, s, H, fp, X.pn ++ pins⟩) ([(s.heap.objs.size, lstO us)] ++ pinsAt fp s5.heap) σ6 H8 s8 → ∀ b ∈ fp, ∀ o, s5.heap.get? b = some o → s8.heap.get? b = some o ∧ H8 b = none := fun I8 b hb o e =>
        let z := I8.pin (b, o) (List.mem_append_right _ (List.mem_append_right _ (mem_pinsAt hb e)))
        ⟨z.1, z.2.1⟩
      cases b with
      | false =>
        show ∃ m, m < n ∧ _
        obtain ⟨m', hm, w7⟩ := hNx _ _ (show Nx ys H7 from q7)
        refine ⟨m', hm, i + 1, ys, us, H7, (forget I7).unpinned, rv, T.keep _ _ _ st5 fun b hb o e => (fpk I7 b hb o e).1, fun b hb => ?_, w7⟩
        obtain ⟨o, e, _⟩ := T.obj _ _ st5 b hb
        exact (fpk I7 b hb o e).2
      | true =>
        show wpAny _ _ (eval elt _) _ _ s7
        have q7' : te σ6 H7 fun y H4 => Nx (ys ++ [y]) H4 := q7
        refine thn (he _ _ s7 σ6 H7 _ I7 q7') (fun v s8 ⟨y, H8, I8, r8, n8⟩ => ?_)
        obtain ⟨m', hm, w8⟩ := hNx _ _ n8
        obtain ⟨eD, nD, neD, nfD, _⟩ := I8.pin (s.heap.objs.size, lstO us) (List.mem_append_right _ (List.mem_append_left _ (by simp)))
        refine append_at (hsz := by show us.toArray.size ≤ sizeLine; rw [List.size_toArray, ← rv.length]; exact hz) eD fun h9 hs9 hD9 => ?_
        have J0 : Inv (X.blk N scope fs ⟨H2.objs.size, s, H, fp, X.pn ++ pins⟩) [] σ6 H8 s8 := I8.pins_of fun p hp => nomatch hp
        have J1 : Inv (X.blk N scope fs ⟨H2.objs.size, s, H, fp, X.pn ++ pins⟩) [] σ6 H8 { s8 with heap := h9 } := J0.turned (t' := s8.toks) (it := s.heap.objs.size) (fun b o hb e => (hs9.2 b hb).trans e) nD neD (.inr (Nat.le_refl _))
          (fun x c e z => by
            obtain ⟨v', q⟩ := I.cell x c (cl_of hcl e)
            exact absurd (Nat.lt_of_lt_of_le q.lt (by rw [z]; exact Nat.le_refl _)) (Nat.lt_irrefl _))
          (fun p hp => by
            rw [List.append_nil] at hp
            exact Nat.ne_of_lt (pnlt p hp))
        have J2 : Inv (X.blk N scope fs ⟨H2.objs.size, s, H, fp, X.pn ++ pins⟩) [(s.heap.objs.size, lstO (us ++ [v]))] σ6 H8 { s8 with heap := h9 } := J1.pins_of fun p hp => by
          have z' : p = (s.heap.objs.size, lstO (us ++ [v])) := by simpa using hp
          subst z'
          exact ⟨hD9.trans (congrArg some (lstO_snoc us v)), nD, neD, nfD, fun v z => by cases z⟩
        refine ⟨m', hm, i + 1, ys ++ [y], us ++ [v], H8, forget J2, Vals.append rv (.cons r8 .nil), T.keep _ _ _ st5 fun b hb o e => (hs9.2 b (below b (hlt b hb)).2).trans (fpk I8 b hb o e).1, fun b hb => ?_, w8⟩
        obtain ⟨o, e, _⟩ := T.obj _ _ st5 b hb
        exact (fpk I8 b hb o e).2
  exact codeAny_compStart_list (loop _ rfl) (T.self _ 0 _ _ _ (T.keep 0 _ _ st fun b _ o e => old b o e) (loop _ rfl))

/-- over a list that stays as it is -/
theorem comp_list {K : PySem.W.Frag} {a : Addr} {xs : List V} {σ' : St} {fin : List V → Hp → Prop} (Pv : Nat → List V → Hp → Prop) (h0 : Pv 0 [] H) (hl : ∀ i ys H, i ≤ xs.length → Pv i ys H → SqL K H a xs ∧ ys.length ≤ sizeLine)
    (hs : ∀ i x ys H, xs[i]? = some x → Pv i ys H → g x σ' H fun σ2 H2 => σ2.drop own = σ'.drop own ∧ tc σ2 H2 fun b H3 => if b = true then te σ2 H3 fun y H4 => Pv (i + 1) (ys ++ [y]) H4 else Pv (i + 1) ys H3)
    (hd : ∀ ys H, Pv xs.length ys H → fin ys H) : CompW (Itl K a) g tc te own σ' fin H := by
  refine ⟨fun i m ys H => m = xs.length - i ∧ i ≤ xs.length ∧ Pv i ys H, ⟨xs.length, by simp, Nat.zero_le _, h0⟩, ?_⟩
  rintro i m ys H ⟨rfl, hi, p⟩
  have q := hl i ys H hi p
  by_cases hlt : i < xs.length
  · refine .inr ⟨⟨xs, xs[i], q.1, by simp [hlt]⟩, q.2, Pv (i + 1), fun ys' H' p' => ⟨xs.length - (i + 1), by omega, rfl, hlt, p'⟩, fun x H' y => ?_⟩
    obtain ⟨e, y⟩ := y
    subst e
    exact hs i x ys _ (y xs q.1) p
  · have e : i = xs.length := by omega
    subst e
    exact .inl ⟨⟨xs, q.1, Nat.le_refl _⟩, q.2, hd ys H p⟩
theorem comp_range {lo : Int} {n : Nat} {σ' : St} {fin : List V → Hp → Prop} (Pv : Nat → List V → Hp → Prop) (h0 : Pv 0 [] H) (hl : ∀ i ys H, i ≤ n → Pv i ys H → ys.length ≤ sizeLine)
    (hs : ∀ i ys H, i < n → Pv i ys H → g (.int (lo + i)) σ' H fun σ2 H2 => σ2.drop own = σ'.drop own ∧ tc σ2 H2 fun b H3 => if b = true then te σ2 H3 fun y H4 => Pv (i + 1) (ys ++ [y]) H4 else Pv (i + 1) ys H3)
    (hd : ∀ ys H, Pv n ys H → fin ys H) : CompW (Itr lo n) g tc te own σ' fin H := by
  refine ⟨fun i m ys H => m = n - i ∧ i ≤ n ∧ Pv i ys H, ⟨n, by simp, Nat.zero_le _, h0⟩, ?_⟩
  rintro i m ys H ⟨rfl, hi, p⟩
  have q := hl i ys H hi p
  by_cases hlt : i < n
  · refine .inr ⟨hlt, q, Pv (i + 1), fun ys' H' p' => ⟨n - (i + 1), by omega, rfl, hlt, p'⟩, fun x H' y => ?_⟩
    obtain ⟨e, y⟩ := y
    subst e y
    exact hs i ys _ hlt p
  · have e : i = n := by omega
    subst e
    exact .inl ⟨Nat.le_refl _, q, hd ys H p⟩
/-- [elt for tg in iter if ..] -/
def tComp (wi : TI) (g : TG) (tc : TT) (te : TE) (own : Nat) (fr : List Nat) : TE := fun σ H Q => wi σ H fun J H1 =>
  CompW J g tc te own (blkSt own fr σ) (fun ys H2 => ∀ D, H2 D = none → Q (.ref D) (upd H2 D (.lst ys))) H1
theorem pe_comp (fs : List Str) (own : Nat) (fr : List Nat) (N : List Str) {wi : TI} (hc : X.calm = true) (hclos : closureFor scope X.env = pure (clOf X.env fs)) (hcell : ∀ y ∈ scope.names, y.2 ≠ .cell) (hkind : scope.kind = .function)
    (hnames : ∀ x ∈ scope.names, x.2 = .local → scope.names.lookup x.1 = some .local) (hcl : CellsOk X.env fs) (hhas : hasB (relabel scope X.env).names (clOf X.env fs) = true)
    (hlen : N.length = own + fr.length) (hN : (N.drop own).map some = fr.map fun j => X.N[j]?) (hF : FreeOk X.env scope (clOf X.env fs) (N.drop own))
    (hi : PI X tg iter wi) (hg : ∀ B, PG (X.blk N scope fs B) tg g) (hf : ∀ B, PF (X.blk N scope fs B) ifs tc) (he : ∀ B, PE (X.blk N scope fs B) elt te)
    (hs : ∀ x, foldedSetIterable iter X.env x = pure x := by intro _; rfl) : PE X (.ListComp elt [⟨tg, iter, ifs, 0⟩] scope pos) (tComp wi g tc te own fr) := by
  intro pins s σ H Q I h
  rw [eval_ListComp]
  refine wpAny_comprehension_free (use := none) (g := ⟨tg, iter, ifs, 0⟩) (gs := []) rfl hs hclos hkind hnames (thn (hi pins s σ H _ I h) fun v s1 h1 => thn h1 fun itv s2 h2 => ?_)
  obtain ⟨it, fp, tn, J, H2, e, I2, T, st2, f2, W⟩ := h2
  subst e
  refine comp_block (RR := fun acc C => compPost (model X.prog X.w) X.A X.xe none (EP X pins σ Q) acc C) hc hcell hkind hcl hhas hlen hN hF hg hf he I2 T st2 f2 W ?_
  intro D C s' ys H' m' I' nD hn fC fin
  exact ⟨m', hn, fun h' hs' => ⟨.ref D, _, I'.turned (t' := s'.toks) (fun b o hb e => (hs'.2 b hb).trans e) fC.1 fC.2.1 fC.2.2.2.1 fC.2.2.2.2.1 fC.2.2.2.2.2, rfl, fin D nD⟩⟩
/-- y = [elt for ..], on one line, y a plain local -/
theorem ps_comp (fs : List Str) (own : Nat) (fr : List Nat) (N : List Str) {wi : TI} {i : Nat} {y : Str} {py spos : Pos} (hX : X.N.Nodup) (hix : X.N[i]? = some y) (hy : X.env.scope.names.lookup y = some .local)
    (hsw : swapsWith (.ListComp elt [⟨tg, iter, ifs, 0⟩] scope pos) (some (.Name y py)) spos.line X.env = pure true)
    (hc : X.calm = true) (hclos : closureFor scope X.env = pure (clOf X.env fs)) (hcell : ∀ y ∈ scope.names, y.2 ≠ .cell) (hkind : scope.kind = .function)
    (hnames : ∀ x ∈ scope.names, x.2 = .local → scope.names.lookup x.1 = some .local) (hcl : CellsOk X.env fs) (hhas : hasB (relabel scope X.env).names (clOf X.env fs) = true)
    (hlen : N.length = own + fr.length) (hN : (N.drop own).map some = fr.map fun j => X.N[j]?) (hF : FreeOk X.env scope (clOf X.env fs) (N.drop own))
    (hi : PI X tg iter wi) (hg : ∀ B, PG (X.blk N scope fs B) tg g) (hf : ∀ B, PF (X.blk N scope fs B) ifs tc) (he : ∀ B, PE (X.blk N scope fs B) elt te)
    (hs : ∀ x, foldedSetIterable iter X.env x = pure x := by intro _; rfl) : PS X (.Assign [.Name y py] (.ListComp elt [⟨tg, iter, ifs, 0⟩] scope pos) spos) (tAsg (tComp wi g tc te own fr) (gName i)) := by
  intro pins s σ H D I h
  rw [exec_Assign_Name_used _ _ _ _ hsw]
  refine wpAny_bind (wpAny_standAt (wpAny_bind ?_))
  show wpAny _ X.A (do let _ ← comprehension (.ListComp elt [⟨tg, iter, ifs, 0⟩] scope pos) scope X.env _ (newList []) false (eval iter X.env) (some (assign (.Name y py) X.env))) _ _ s
  refine wpAny_bind (wpAny_mono (wpAny_comprehension_free (use := some (assign (.Name y py) X.env)) (Q := fun _ s' => SP X pins D .next s') (g := ⟨tg, iter, ifs, 0⟩) (gs := []) rfl hs hclos hkind hnames
    (thn (hi pins s σ H _ I h) fun v s1 h1 => thn h1 fun itv s2 h2 => ?_)) (fun _ s' hq => wpAny_pure (wpAny_pure hq)) fun _ _ e => e)
  obtain ⟨it, fp, tn, J, H2, e, I2, T, st2, f2, W⟩ := h2
  subst e
  refine comp_block (RR := fun acc C => compPost (model X.prog X.w) X.A X.xe (some (assign (.Name y py) X.env)) (fun _ s' => SP X pins D .next s') acc C) hc hcell hkind hcl hhas hlen hN hF hg hf he I2 T st2 f2 W ?_
  intro Da C s' ys H' m' I' nD hn fC fin
  show wpAny _ X.A (assign (.Name y py) X.env (.ref Da)) _ _ s'
  refine wpAny_assign_Name (store_ok2 (v := .ref Da) I' hX hix (.inl hy) rfl (fun s2 I3 ⟨a, sb, ha⟩ => ?_) (.inr hy))
  have ca : C ≠ a := by
    rcases ha with z | z
    · rw [z]; exact fC.2.1
    · exact Ne.symm (fC.2.2.2.2.1 _ _ z)
  exact ⟨m', hn.sameBut sb ca, fun h' hs' => ⟨_, _, I3.turned (t' := s2.toks) (fun b o hb e => (hs'.2 b hb).trans e) fC.1 fC.2.1 fC.2.2.2.1 fC.2.2.2.2.1 fC.2.2.2.2.2, fin Da nD⟩⟩
end
end L2

set_option Elab.async false
set_option linter.all false
set_option maxRecDepth 100000
set_option maxHeartbeats 4000000
namespace PySem
open Sem (wp)
namespace F
theorem nolen_lri : typeLookup (.type "list_reverseiterator") "__len__" = pure none := by rw [typeLookup_type, builtinLookup_eq_fast]; kernel_rfl
theorem hint_lri : typeLookup (.type "list_reverseiterator") "__length_hint__" = pure (some (.builtin "list_reverseiterator.__length_hint__")) := by rw [typeLookup_type, builtinLookup_eq_fast]; kernel_rfl
end F
section
variable {prog : Program} {w : World} {A : Around} {s : Shared} {R : Result → Shared → Prop}
variable {I : Addr} {fp wr : List Addr} {G : Array GenState → Array GenState → Prop} {n : Nat} {P : Nat → Value → Prop} {St : Nat → Shared → Prop}
theorem extend_lri (W : WalksS prog w A.in1 I fp wr G n P St) (hT : ∀ i s, St i s → s.TypeIs (.ref I) "list_reverseiterator") (S : Addr) (res : Value) (c₀ : Nat) (hst : St 0 s) (hSf : S ∉ fp) (hI : I ∈ fp)
    (hS : s.heap.get? S = some { cls := .type "list", data := .seq #[] c₀ })
    (hR : ∀ s' acc' c', Moved (S :: wr) G s s' → s'.heap.get? S = some { cls := .type "list", dict := none, data := .seq acc' c', slots := #[] } → ItemsOf P acc' n → R (.ok (.ret res)) s') (hn : n ≤ sizeLine) :
    wpAny (model prog w) A.in1 (Builtin.List.listExtendWith (.ref S) (.ref I) res)
      (fun fin s' => match fin with | .done f => R (.ok f) s' | .again c' => c'.quiet = true ∧ codeAny (model prog w) A c' R s') (fun e s' => R (.error e) s') s := by
  have hSI : S ≠ I := fun e => hSf (e ▸ hI)
  have h1 : Builtin.List.listSameRef (.ref S) (.ref I) = false := by simp [Builtin.List.listSameRef, hSI]
  unfold Builtin.List.listExtendWith
  refine wpAny_bind (wpAny_typeOf (hT 0 _ hst) ?_)
  rw [if_neg (by rw [h1]; decide)]
  refine wpAny_bind (W.self 0 _ _ _ hst ?_)
  refine wpAny_bind (wpAny_holding ?_)
  unfold Builtin.List.listLengthHint
  refine wpAny_bind (wpAny_specialOf (hT 0 _ hst) F.nolen_lri ?_)
  show wpAny _ A.in1 (specialOf (Value.ref I) (Str.ofString "__length_hint__") >>= _) _ _ _
  refine wpAny_bind (wpAny_specialOf (hT 0 _ hst) F.hint_lri ?_)
  (generalize hid : ("list_reverseiterator.__length_hint__" : String) = id0; wp_delta; rw [show splitId id0 = some ("list_reverseiterator", "__length_hint__") from by subst hid; decide +kernel]; subst hid)
  refine wpAny_bind (wpAny_isInstance (b := true) (hT 0 _ hst) (by rw [isSubtype_type]; kernel_rfl) ?_)
  refine wpAny_pure ?_
  rw [if_neg (by decide)]
  exact wpAny_pure ⟨plainId_quiet F.plain_extend_loop _, codeAny_extend_loopS W hn _ hSf _ n 0 _ _ _ rfl (Nat.zero_le _) hst hS (ItemsOf.nil P) fun s' acc' c' hm hS' hacc => hR s' acc' c' hm hS' hacc⟩
theorem list_init_lri (W : WalksS prog w A.in1 I fp wr G n P St) (hT : ∀ i s, St i s → s.TypeIs (.ref I) "list_reverseiterator") (S : Addr) (hst : St 0 s) (hSf : S ∉ fp) (hI : I ∈ fp)
    (hS : s.heap.get? S = some { cls := .type "list", data := .seq #[] })
    (hR : ∀ s' acc' c', Moved (S :: wr) G s s' → s'.heap.get? S = some { cls := .type "list", dict := none, data := .seq acc' c', slots := #[] } → ItemsOf P acc' n → R (.ok (.ret .none)) s') (hn : n ≤ sizeLine) :
    wpAny (model prog w) A.in1 (Builtin.«list.__init__» ⟨[.ref S, .ref I], []⟩)
      (fun fin s' => match fin with | .done f => R (.ok f) s' | .again c' => c'.quiet = true ∧ codeAny (model prog w) A c' R s') (fun e s' => R (.error e) s') s := by
  show wpAny _ A.in1 (do let old ← Builtin.List.listItems (.ref S); Builtin.List.listUpdate (.ref S) (fun _ => #[]); letGo old.toList.reverse; Builtin.List.listExtendWith (.ref S) (.ref I) .none) _ _ s
  refine wpAny_bind ?_
  unfold Builtin.List.listItems
  refine wpAny_bind (wpAny_seqItems hS rfl (wpAny_pure ?_))
  show wpAny _ A.in1 (updateSeq S (fun _ => #[]) >>= fun _ => letGo (#[] : Array Value).toList.reverse >>= fun _ => Builtin.List.listExtendWith (.ref S) (.ref I) .none) _ _ s
  refine wpAny_bind (wpAny_updateSeq hS rfl ?_)
  have hS₂ := Heap.get?_update_self (Obj.mapSeq (fun _ => (#[] : Array Value))) hS rfl
  have oth : ∀ b o, b ≠ S → s.heap.get? b = some o → (s.heap.update S (Obj.mapSeq (fun _ => (#[] : Array Value)))).get? b = some o :=
    fun b o hb e => (Heap.get?_update_other _ _ (Ne.symm hb)).trans e
  refine wpAny_bind (wpAny_letGo ?_)
  refine extend_lri (hn := hn) W hT S .none _ (W.frame 0 s _ s.toks hst (Nat.le_refl _) fun b hb o e => oth b o (fun h => hSf (h ▸ hb)) e) hSf hI hS₂ fun s' acc' c' hm hS' hacc => ?_
  exact hR s' acc' c' (Moved.trans W.gtrans ((Moved.refl W.grefl).then_heap (Nat.le_refl _) fun b o hb e => oth b o (fun h => hb (h ▸ List.mem_cons_self)) e) hm) hS' hacc
end
section
variable {prog : Program} {w : World} {A : Around} {E : Value → Shared → Prop} {s : Shared}
theorem call_list_lri {I l : Addr} {items : Array Value} {Q : Value → Shared → Prop} (hh : A.handled = none) (hl : s.heap.IsList l items) (hit : s.heap.IsRevIter I l ((items.size : Int) - 1)) (hne : l ≠ I) (hn : items.size ≤ sizeLine)
    (hQ : ∀ h' tk acc' c', (∀ b o, b ≠ I → s.heap.get? b = some o → h'.get? b = some o) → h'.get? s.heap.objs.size = some { cls := .type "list", dict := none, data := .seq acc' c', slots := #[] } →
      acc'.toList = items.toList.reverse → Q (.ref s.heap.objs.size) { s with heap := h', toks := tk }) :
    wpAny (model prog w) A (call (.type "list") [.ref I]) Q E s := by
  have W := (Walks.listRev (prog := prog) (w := w) (A := A.in1.in1) hh I l hne items).toS
  have hIlt : I < s.heap.objs.size := by obtain ⟨o, ho, _⟩ := hit; exact Heap.lt_size ho
  have hllt : l < s.heap.objs.size := by obtain ⟨o, ho, _⟩ := hl; exact Heap.lt_size ho
  have hfp : ∀ b ∈ [I, l], b < s.heap.objs.size := fun b hb => by
    rcases List.mem_cons.mp hb with rfl | hb
    · exact hIlt
    · rw [List.mem_singleton.mp hb]; exact hllt
  have hSf : s.heap.objs.size ∉ [I, l] := fun hm => Nat.lt_irrefl _ (hfp _ hm)
  have hst : (fun i (s : Shared) => i ≤ items.size ∧ s.heap.IsRevIter I l ((items.size : Int) - 1 - (i : Int)) ∧ s.heap.IsList l items) 0 s := ⟨Nat.zero_le _, by simpa using hit, hl⟩
  refine callType_codes (Q₁ := fun obj s₁ => obj = .ref s.heap.objs.size ∧ s₁ = { s with heap := s.heap.push { cls := .type "list", data := .seq #[] } }) F.called_list (F.typeCall_list_1 _) F.entry_list_init
    (code_list_new _ ⟨rfl, rfl⟩) fun obj s₁ h₁ => ?_
  obtain ⟨rfl, rfl⟩ := h₁
  have hS : (s.heap.push { cls := .type "list", data := .seq #[] }).get? s.heap.objs.size = some { cls := .type "list", data := .seq #[] } := Heap.get?_push_size _ rfl
  refine ⟨⟨_, hS, rfl⟩, F.args_list_init_2 _ _, list_init_lri (hn := hn) W (fun i s st => st.2.1.typeIs) _ (W.frame 0 s _ s.toks hst (Nat.le_refl _) fun b _ o e => Heap.get?_push_of_some _ e) hSf (List.mem_cons_self ..) hS fun s' acc' c' hm hS' hacc => ?_⟩
  refine ⟨rfl, ?_⟩
  rw [hm.eq_with]
  refine hQ s'.heap s'.toks acc' c' (fun b o hb e => hm.heap b o (fun z => ?_) (Heap.get?_push_of_some _ e)) hS' ?_
  · rcases List.mem_cons.mp z with z | z
    · exact absurd (Heap.lt_size e) (by rw [z]; exact Nat.lt_irrefl _)
    · exact hb (List.mem_singleton.mp z)
  · obtain ⟨hsz, hP⟩ := hacc
    apply List.ext_getElem?
    intro j
    by_cases hj : j < items.size
    · have hj' : j < acc'.size := by rw [hsz]; exact hj
      have q := hP j acc'[j] (by simp [hj'])
      have e1 : acc'.toList[j]? = some acc'[j] := by simp [hj']
      rw [e1, List.getElem?_reverse (by simpa using hj)]
      simpa using q.symm
    · rw [List.getElem?_eq_none (by simpa [hsz] using hj), List.getElem?_eq_none (by simpa using hj)]
end
end PySem

namespace L2
open PySem PySem.Spec PyProof.Rows
section
variable {X : Cx}
/-! ### list(reversed(xs)) -/
def tListRev (K : PySem.W.Frag) (te : TE) : TE := fun σ H Q => te σ H fun x H1 => ∃ a xs, x = .ref a ∧ SqL K H1 a xs ∧ ∀ q, H1 q = none → Q (.ref q) (upd H1 q (.lst xs.reverse))
theorem pe_listRev {e : Expr} {te : TE} {p1 p2 q1 q2 : Pos} (hc : X.calm = true) (he : PE X e te) (hg1 : Gl X "list") (hm1 : X.mg "list" = none) (hg2 : Gl X "reversed") (hm2 : X.mg "reversed" = none)
    (hs : starEach [e] X.env = [(false, eval e X.env)] := by rfl) (hs2 : starEach [.Call (.Name "reversed" p2) [e] [] q2] X.env = [(false, eval (.Call (.Name "reversed" p2) [e] [] q2) X.env)] := by rfl) :
    PE X (.Call (.Name "list" p1) [.Call (.Name "reversed" p2) [e] [] q2] [] q1) (tListRev X.K te) := by
  intro pins s σ H Q I h
  refine wpAny_Call_Name_kw (ld_blt I hg1 hm1 (u := .type "list") (by decide +kernel) ?_)
  refine PyProof.Rows.callWith_type1 ?_ hs2 rfl
  rw [hs2]
  show wpAny _ _ (spliced ((false, eval (.Call (.Name "reversed" p2) [e] [] q2) X.env) :: backTo q1 [])) _ _ s
  refine Calls.spliced_cons ?_
  refine wpAny_Call_Name_kw (ld_blt I hg2 hm2 (u := .type "reversed") boot_reversed ?_)
  refine PyProof.Rows.callWith_type1 ?_ hs rfl
  rw [hs]
  show wpAny _ _ (spliced ((false, eval e X.env) :: backTo q2 [])) _ _ s
  refine Calls.spliced_cons (thn (he pins s σ H _ I h) fun u s1 ⟨x, H1, I1, r1, a, xs, ex, hx, q⟩ => ?_)
  subst ex
  cases r1
  obtain ⟨its, rv, p, hz⟩ := I1.list hx
  have hl := rv.length
  have hal : a < s1.heap.objs.size := by obtain ⟨o, ho, _⟩ := p.isList; exact Heap.lt_size ho
  refine Calls.spliced_nil (call_reversed_list p.isList ?_)
  refine Calls.spliced_nil ?_
  refine call_list_lri (I.ok.hd hc) (p.isList.push _) ⟨_, Heap.get?_push_size _ rfl, rfl, rfl⟩ (Nat.ne_of_lt hal) (by rw [List.size_toArray, ← hl]; exact hz) fun h' tk acc c hk hS ha => ?_
  have hsz : (s1.heap.push (revObj a ((its.toArray.size : Int) - 1))).objs.size = s1.heap.objs.size + 1 := Heap.size_push _ _
  have hle : s1.heap.objs.size ≤ (s1.heap.push (revObj a ((its.toArray.size : Int) - 1))).objs.size := by rw [hsz]; exact Nat.le_succ _
  refine ⟨.ref _, _, I1.laid (a := (s1.heap.push (revObj a ((its.toArray.size : Int) - 1))).objs.size) (o := .lst xs.reverse) (h' := h') (t' := tk) (fun b u e => hk b u (Nat.ne_of_lt (Heap.lt_size e)) (Heap.get?_push_of_some _ e)) hle ?_, rfl, q _ (I1.hok.fresh hle)⟩
  refine ⟨by rw [List.length_reverse]; exact hz, its.reverse, c, Vals.reverse rv, ?_⟩
  rw [hS]
  have e : acc = its.reverse.toArray := by
    apply Array.toList_inj.mp
    rw [ha]
  rw [e]
/-! ### isinstance(x, T), T a built-in type -/
theorem call_isinst : CallR X (.builtin "isinstance") (fun xs H Q => ∃ x t c b, xs = [x, .ty c] ∧ TyOf X.K H x t ∧ PySem.W.kitOne X.K t (.type c) = some b ∧ Q (.bl b) H) := by
  intro pins s σ H xs us Q I r h
  obtain ⟨x, t, c, b, rfl, ty, e, q⟩ := h
  cases r with
  | cons rx rr =>
    cases rr with
    | cons ry rr =>
      cases rr
      cases (show _ = Value.type c from ry)
      exact isinst_ok I rx ty e fun tk => ⟨.bl b, H, I.tok tk, rfl, q⟩
theorem kit_int_bool {K : PySem.W.Frag} : PySem.W.kitOne K (.type "int") (.type "bool") = some false := by
  unfold PySem.W.kitOne
  rw [if_neg (by decide)]
  show (if PySem.W.kitMeta "bool" = true then (PySem.fastBuiltinMro "int").map (·.contains (Value.type "bool")) else none) = some false
  decide +kernel
theorem kit_bool_bool {K : PySem.W.Frag} : PySem.W.kitOne K (.type "bool") (.type "bool") = some true := by
  unfold PySem.W.kitOne
  rw [if_pos (by decide)]
/-! ### == of tuples of flat values -/
def eqL : List V → List V → Bool
  | [], [] => true
  | x :: xs, y :: ys => eqV x y && eqL xs ys
  | _, _ => false
theorem all_eqL : ∀ (xs ys : List V), (((List.range (min xs.length ys.length)).all fun j => eqV (xs[j]?.getD .non) (ys[j]?.getD .non)) && (xs.length == ys.length)) = eqL xs ys
  | [], [] => rfl
  | [], _ :: _ => by simp [eqL]
  | _ :: _, [] => by simp [eqL]
  | x :: xs, y :: ys => by
    have ih := all_eqL xs ys
    have e : min (x :: xs).length (y :: ys).length = min xs.length ys.length + 1 := by simp only [List.length_cons]; omega
    rw [e, List.range_succ_eq_map, List.all_cons, List.all_map]
    show _ = (eqV x y && eqL xs ys)
    rw [← ih]
    have e1 : ((x :: xs).length == (y :: ys).length) = (xs.length == ys.length) := by
      rw [List.length_cons, List.length_cons, Bool.eq_iff_iff]
      simp
    have e2 : ((fun j => eqV ((x :: xs)[j]?.getD V.non) ((y :: ys)[j]?.getD V.non)) ∘ Nat.succ) = fun j => eqV (xs[j]?.getD V.non) (ys[j]?.getD V.non) := by
      funext j
      simp
    rw [e1, e2, Bool.and_assoc]
    rfl
def rEqT (K : PySem.W.Frag) : R2 := fun x y H Q => ∃ p q xs ys, x = .ref p ∧ y = .ref q ∧ SqT K H p xs ∧ SqT K H q ys ∧ xs.all flatV = true ∧ ys.all flatV = true ∧ Q (.bl (eqL xs ys)) H
theorem op_eqT (hu : X.A.units < cLine) : OpR X (compareOp .Eq) (rEqT X.K) := by
  intro pins s σ H x y v u Q I rx ry h
  obtain ⟨p, q, xs, ys, rfl, rfl, hp, hq, fx, fy, hQ⟩ := h
  cases rx
  cases ry
  obtain ⟨its, rv, tp, hz⟩ := I.tuple hp
  obtain ⟨its2, rv2, tq, hz2⟩ := I.tuple hq
  have l1 := rv.length
  have l2 := rv2.length
  refine SeqAt.eq_tupleAt (e := fun j => eqV (xs[j]?.getD .non) (ys[j]?.getD .non)) tp tq hu (fun j h1 h2 => ?_) ?_
  · have h1' : j < its.length := by simpa using h1
    have h2' : j < its2.length := by simpa using h2
    have j1 : j < xs.length := by omega
    have j2 : j < ys.length := by omega
    obtain ⟨u1, e1, r1⟩ := rv.get (i := j) (x := xs[j]) (by simp [j1])
    obtain ⟨u2, e2, r2⟩ := rv2.get (i := j) (x := ys[j]) (by simp [j2])
    have g1 : its.toArray[j] = u1 := by
      rw [List.getElem?_eq_getElem h1'] at e1
      simpa using e1
    have g2 : its2.toArray[j] = u2 := by
      rw [List.getElem?_eq_getElem h2'] at e2
      simpa using e2
    rw [g1, g2]
    simp only [List.getElem?_eq_getElem j1, List.getElem?_eq_getElem j2, Option.getD_some]
    exact eqAt_V r1 r2 (List.all_eq_true.mp fx _ (List.getElem_mem j1)) (List.all_eq_true.mp fy _ (List.getElem_mem j2))
  · refine ⟨.bl (eqL xs ys), H, I, ?_, hQ⟩
    show Value.bool _ = Value.bool _
    rw [List.size_toArray, List.size_toArray, ← l1, ← l2, all_eqL]
end
end L2

set_option Elab.async false
set_option linter.all false
set_option maxRecDepth 100000
set_option maxHeartbeats 4000000
namespace L2
open PySem PySem.Spec PyProof.Rows
section
variable {X : Cx}
def CDivB (i j : Int) : Prop := j ≠ 0 ∧ j.natAbs < 2 ^ 64
theorem log_small {n : Nat} (h : n < 2 ^ 200) : n.log2 < 200 := by
  by_cases z : n = 0
  · rw [z]; decide
  · exact (Nat.log2_lt z).mpr h
theorem pow_lt_pow {n : Nat} {a b : Nat} (h : n < 2 ^ a) (hab : a ≤ b) : n < 2 ^ b := Nat.lt_of_lt_of_le h (Nat.pow_le_pow_right (by decide) hab)
/-- // by a divisor of either sign, below 2^64 -/
theorem op_fdivB : OpR X (binaryOp .FloorDiv) (rI CDivB fun i j => .int (i.fdiv j)) := opI fun _ _ _ _ _ _ _ hc q =>
  floordiv_int hc.1 q (.inl (PyProof.noPylong_of_log2 (Nat.lt_trans (log_small (pow_lt_pow hc.2 (by decide))) (by decide))))
/-- repr of a pair of ints -/
def reprP (i j : Int) : Str := (PyData.tuple [PyData.int i, PyData.int j]).shown
theorem show_int {i : Int} (h : i.natAbs < 2 ^ 128) : i.natAbs.log2 < 1920 := Nat.lt_trans (log_small (pow_lt_pow h (by decide))) (by decide)
theorem reprP_len {i j : Int} (hi : i.natAbs < 2 ^ 128) (hj : j.natAbs < 2 ^ 128) : (reprP i j).length ≤ sizeLine := by
  have h1 := int_text_len_1921 (show_int hi)
  have h2 := int_text_len_1921 (show_int hj)
  have e : reprP i j = ((Str.ofString "(" : Str) ++ Str.join (Str.ofString ", ") [Str.ofString (toString i), Str.ofString (toString j)]) ++ Str.ofString ")" := rfl
  have e2 : (Str.join (Str.ofString ", ") [Str.ofString (toString i), Str.ofString (toString j)]).length + 2 = piled [Str.ofString (toString i), Str.ofString (toString j)] := join_length_add _ (by simp)
  have e3 : (Str.ofString "(" : Str).length = 1 := by decide
  have e4 : (Str.ofString ")" : Str).length = 1 := by decide
  rw [e, Str.length_append, Str.length_append, e3, e4]
  generalize Str.ofString (toString i) = x at h1 e2 ⊢
  generalize Str.ofString (toString j) = y at h2 e2 ⊢
  simp [piled] at e2
  have : 5000 ≤ sizeLine := by decide
  omega
theorem call_reprP (hu : X.A.units + 8 < cLine) (hg : X.A.guards = some []) : CallR X (.builtin "repr") (fun xs H Q => ∃ p i j, xs = [.ref p] ∧ SqT X.K H p [.int i, .int j] ∧ i.natAbs < 2 ^ 128 ∧ j.natAbs < 2 ^ 128 ∧ Q (.str (reprP i j)) H) := by
  intro pins s σ H xs us Q I r h
  obtain ⟨p, i, j, rfl, hp, hi, hj, q⟩ := h
  obtain ⟨u, rfl, rx⟩ := vals1 r
  cases rx
  obtain ⟨its, rv, ⟨o, ho, hc, n, hd⟩, hz⟩ := I.tuple hp
  obtain ⟨t1, t2, rfl⟩ : ∃ t1 t2, its = [.int i t1, .int j t2] := by
    cases rv with
    | cons r1 rr =>
      cases rr with
      | cons r2 rr =>
        cases rr
        obtain ⟨t1, rfl⟩ := r1
        obtain ⟨t2, rfl⟩ := r2
        exact ⟨t1, t2, rfl⟩
  have R : Reads s.heap (.ref p) (PyData.tuple [PyData.int i, PyData.int j]) ([] ++ ([] ++ [])) := Reads.tuple ho hc hd (.cons (.int i t1) (.cons (.int j t2) .nil))
  refine repr_of_reads' R ?_ (PyData.noDict_hsm rfl) hg ?_ (fun _ _ e => e) (fun h' u tk hk => ⟨.str (reprP i j), H, I.kept hk, ⟨u, rfl⟩, q⟩) (reprP_len hi hj)
  · show (decide (i.natAbs.log2 < 1920) && (decide (j.natAbs.log2 < 1920) && true)) = true
    rw [decide_eq_true (show_int hi), decide_eq_true (show_int hj)]
    rfl
  · have e : (PyData.tuple [PyData.int i, PyData.int j]).depth ≤ 6 := by
      first
        | (show 1 ≤ 6; decide)
        | (show 2 ≤ 6; decide)
        | (simp [PyData.depth]; done)
    omega
end
end L2

set_option Elab.async false
set_option linter.all false
set_option maxRecDepth 100000
set_option maxHeartbeats 4000000
namespace L2
open PySem PySem.Spec PyProof.Rows
section
variable {X : Cx}
/-- a sign as a text -/
abbrev sgn (c : Nat) : Str := ⟨#[c]⟩
/-! ### the signs of a text, walked -/
def Its (z : Str) : It := ⟨fun i _ => i < z.cps.size, fun i H x H' => H' = H ∧ ∃ c, z.cps[i]? = some c ∧ x = .str (sgn c), fun i _ => z.cps.size ≤ i⟩
theorem turn_str {P : Program} {w : World} {K : PySem.W.Frag} {tg : Expr} {ty : String} (hty : ty = "str_ascii_iterator" ∨ ty = "str_iterator") (it : Addr) (z : Str) (t : Tok) : Turn P w K tg (Its z) [it] it (fun i h => i ≤ z.cps.size ∧ h.IsStrIter it ty z t i) := by
  have W : ∀ A' : Around, A'.handled = none → Walks P w A' it [it] [it] z.cps.size (SignAt z) (fun i h => h.IsStrIter it ty z t i) := fun A' hA => by
    rcases hty with rfl | rfl
    · exact Walks.strAscii hA it z t
    · exact Walks.strWide hA it z t
  have nt : (["enumerate", "zip", "dict_itemiterator", "dict_reverseitemiterator", "odict_iterator", "itertools.zip_longest", "itertools.pairwise"].contains ty) = false := by
    rcases hty with rfl | rfl <;> decide
  refine ⟨by simp, fun i h st b hb => ?_, fun i h h' st k => ?_, ?_, ?_, ?_⟩
  · have e : b = it := by simpa using hb
    subst e
    obtain ⟨_, o, e, c, d⟩ := st
    exact ⟨o, e, fun v q => by rw [d] at q; cases q⟩
  · obtain ⟨hi, o, e, r⟩ := st
    exact ⟨hi, o, k it (by simp) o e, r⟩
  · intro X hP hw hK hc i pins s σ H E I hf st hg
    subst hP hw hK
    obtain ⟨f0, f1, f2, f3, f4, f5⟩ := hf it (by simp)
    refine (W X.A (I.ok.hd hc)).item i s _ _ hg st.2 fun v h' tk hv st' kk => ?_
    obtain ⟨c, u, hcp, rfl⟩ := hv
    have I1 : Inv X pins σ H { s with heap := h', toks := tk } := I.turned (fun b o hb e => kk b o (by simpa using hb) e) f0 f1 f3 f4 f5
    obtain ⟨o, e, co, d⟩ := id st'
    exact ⟨_, rfl, go_of (s := { s with heap := h', toks := tk }) e co d nt ⟨.str (sgn c), H, I1, ⟨u, rfl⟩, ⟨rfl, c, hcp, rfl⟩, ⟨hg, st'⟩, fun b hb => (hf b hb).1⟩⟩
  · intro X hP hw hK hc i pins s σ H E I hf st hg
    subst hP hw hK
    obtain ⟨f0, f1, f2, f3, f4, f5⟩ := hf it (by simp)
    have e : i = z.cps.size := Nat.le_antisymm st.1 hg
    subst e
    exact (W X.A (I.ok.hd hc)).done s _ _ st.2 fun h' tk kk => ⟨rfl, I.turned (fun b o hb e => kk b o (by simpa using hb) e) f0 f1 f3 f4 f5⟩
  · intro A i s Q E st h
    rcases hty with rfl | rfl
    · exact wpAny_pyIter_striter_ascii st.2 h
    · exact wpAny_pyIter_striter_wide st.2 h
def iStr (te : TE) : TI := fun σ H R => te σ H fun x H1 => ∃ z, x = .str z ∧ R (Its z) H1
theorem pi_str {e tg : Expr} {te : TE} (he : PE X e te) : PI X tg e (iStr te) := by
  intro pins s σ H R I h
  refine thn (he pins s σ H _ I h) fun v s1 ⟨x, H1, I1, r1, q1⟩ => ?_
  obtain ⟨z, e, q⟩ := q1
  subst e
  obtain ⟨t, rfl⟩ := r1
  have fin : ∀ ty, (ty = "str_ascii_iterator" ∨ ty = "str_iterator") → PIE X pins σ tg R (.ref s1.heap.objs.size) { s1 with heap := s1.heap.push { cls := .type ty, data := .fields #[.str z t, .int 0 0] } } := fun ty hty => by
    refine ⟨s1.heap.objs.size, [s1.heap.objs.size], _, _, H1, rfl, I1.kept (t' := s1.toks) fun b o e => Heap.get?_push_of_some _ e, turn_str hty _ z t, ⟨Nat.zero_le _, _, Heap.get?_push_size _ rfl, rfl, rfl⟩, fun b hb => ?_, q⟩
    have e : b = s1.heap.objs.size := by simpa using hb
    subst e
    exact I1.fpOk (Nat.le_refl _) (I1.hok.fresh (Nat.le_refl _))
  cases ha : z.cps.all (· < 128)
  · exact wpAny_pyIter_wide ha (fin _ (.inr rfl))
  · exact wpAny_pyIter_ascii ha (fin _ (.inl rfl))
theorem comp_str {z : Str} {H : Hp} {g : TG} {tc : TT} {te : TE} {own : Nat} {σ' : St} {fin : List V → Hp → Prop} (Pv : Nat → List V → Hp → Prop) (h0 : Pv 0 [] H) (hl : ∀ i ys H, i ≤ z.cps.size → Pv i ys H → ys.length ≤ sizeLine)
    (hs : ∀ i c ys H, z.cps[i]? = some c → Pv i ys H → g (.str (sgn c)) σ' H fun σ2 H2 => σ2.drop own = σ'.drop own ∧ tc σ2 H2 fun b H3 => if b = true then te σ2 H3 fun y H4 => Pv (i + 1) (ys ++ [y]) H4 else Pv (i + 1) ys H3)
    (hd : ∀ ys H, Pv z.cps.size ys H → fin ys H) : CompW (Its z) g tc te own σ' fin H := by
  refine ⟨fun i m ys H => m = z.cps.size - i ∧ i ≤ z.cps.size ∧ Pv i ys H, ⟨z.cps.size, by simp, Nat.zero_le _, h0⟩, ?_⟩
  rintro i m ys H ⟨rfl, hi, p⟩
  have q := hl i ys H hi p
  by_cases hlt : i < z.cps.size
  · refine .inr ⟨hlt, q, Pv (i + 1), fun ys' H' p' => ⟨z.cps.size - (i + 1), by omega, rfl, hlt, p'⟩, fun x H' y => ?_⟩
    obtain ⟨e, c, hc, y⟩ := y
    subst e y
    exact hs i c ys _ hc p
  · have e : i = z.cps.size := by omega
    subst e
    exact .inl ⟨Nat.le_refl _, q, hd ys H p⟩
/-! ### sep.join(xs), list(text), all(xs), xs == [] -/
theorem strs_of {ys : List Str} : ∀ {us : List Value}, Vals (ys.map V.str) us → StrsAre us ys := by
  induction ys with
  | nil => intro us r; rw [List.map_nil] at r; cases r; exact .nil
  | cons n ns ih =>
    intro us r
    rw [List.map_cons] at r
    cases r with
    | cons r1 r2 =>
      obtain ⟨t, e⟩ := r1
      subst e
      exact .cons n t (ih r2)
def rJoin (K : PySem.W.Frag) : V → List V → Hp → VK → Prop := fun x vs H Q => ∃ sep p ys, x = .str sep ∧ vs = [.ref p] ∧ SqL K H p (ys.map V.str) ∧ (ys.map (·.length)).sum + ys.length * sep.length ≤ 1000000 ∧ Q (.str (Txt.join sep ys)) H
theorem mt_join : MtR X "str.join" (rJoin X.K) := by
  intro pins s σ H x vs v us Q I rx rv h
  obtain ⟨sep, p, ys, rfl, rfl, hp, hz, q⟩ := h
  obtain ⟨t, rfl⟩ := rx
  obtain ⟨u, rfl, ru⟩ := vals1 rv
  cases ru
  obtain ⟨its, r, pl, _⟩ := I.list hp
  exact join_list pl.isList (by simpa using strs_of r) (by omega) fun t' k => ⟨.str _, H, I.tok k, ⟨t', rfl⟩, q⟩
theorem join_len {sep : Str} {ys : List Str} (h : (ys.map (·.length)).sum + ys.length * sep.length ≤ 1000000) : (Txt.join sep ys).length ≤ sizeLine := by
  have q := joinOk_of (sep := sep) (ys := ys) (by omega)
  unfold JoinOk at q
  rw [Bool.not_eq_true'] at q
  exact joinFit_length q
theorem signs_vals {z : Str} {acc : Array Value} (h : ItemsOf (SignAt z) acc z.cps.size) : Vals (z.cps.toList.map fun c => V.str (sgn c)) acc.toList := by
  obtain ⟨hs, hP⟩ := h
  have key : ∀ (cs : List Nat) (us : List Value), us.length = cs.length → (∀ (j : Nat) (v : Value), us[j]? = some v → ∃ c u, cs[j]? = some c ∧ v = .str (sgn c) u) → Vals (cs.map fun c => V.str (sgn c)) us := by
    intro cs
    induction cs with
    | nil =>
      intro us hl _
      cases us with
      | nil => exact .nil
      | cons u us => cases hl
    | cons c cs ih =>
      intro us hl hu
      cases us with
      | nil => cases hl
      | cons u us =>
        obtain ⟨c', t, e1, e2⟩ := hu 0 u rfl
        have e1' : c = c' := by simpa using e1
        subst e1'
        refine .cons ⟨t, e2⟩ (ih us (by simpa using hl) fun j v e => ?_)
        exact hu (j + 1) v (by simpa using e)
  refine key z.cps.toList acc.toList (by simp [hs]) fun j v e => ?_
  obtain ⟨c, u, e1, e2⟩ := hP j v (by simpa using e)
  exact ⟨c, u, by simpa using e1, e2⟩
theorem call_list_of_str (hc : X.calm = true) : CallR X (.type "list") (fun xs H Q => ∃ z, xs = [.str z] ∧ z.length ≤ sizeLine ∧ ∀ l, H l = none → Q (.ref l) (upd H l (.lst (z.cps.toList.map fun c => V.str (sgn c))))) := by
  intro pins s σ H xs us Q I r h
  obtain ⟨z, rfl, hz, q⟩ := h
  obtain ⟨u, rfl, t, rfl⟩ := vals1 r
  refine call_list_str (I.ok.hd hc) z t (fun h' tk acc c hk hS ha => ?_) hz
  refine ⟨.ref _, _, I.laid (a := s.heap.objs.size) (o := .lst (z.cps.toList.map fun c => V.str (sgn c))) (h' := h') (t' := tk) hk (Nat.le_refl _) ?_, rfl, q _ (I.hok.fresh (Nat.le_refl _))⟩
  exact ⟨by rw [List.length_map, Array.length_toList]; exact hz, acc.toList, c, signs_vals ha, by rw [hS]⟩
theorem call_allB (hc : X.calm = true) : CallR X (.builtin "all") (fun xs H Q => ∃ (p : Addr) (bs : List Bool), xs = [.ref p] ∧ SqL X.K H p (bs.map V.bl) ∧ Q (.bl (bs.all id)) H) := by
  intro pins s σ H xs us Q I r h
  obtain ⟨p, bs, rfl, hp, q⟩ := h
  obtain ⟨u, rfl, rx⟩ := vals1 r
  cases rx
  obtain ⟨its, rv, pl, hz⟩ := I.list hp
  have hl := rv.length
  rw [List.length_map] at hl
  have hlt : p < s.heap.objs.size := by obtain ⟨o, ho, _⟩ := pl.isList; exact Heap.lt_size ho
  refine call_all_walk (wpAny_pyIter_list pl.isList ?_)
  have up : ∀ b o, s.heap.get? b = some o → (s.heap.push { cls := .type "list_iterator", data := .fields #[.ref p, .int 0 0] }).get? b = some o := fun b o e => Heap.get?_push_of_some _ e
  refine ⟨s.heap.objs.size, _, _, _, _, _, fun i => (bs[i]?).getD true, rfl, Walks.list (A := X.A.in1) (I.ok.hd hc) s.heap.objs.size p (Nat.ne_of_lt hlt) its.toArray, ⟨⟨_, Heap.get?_push_size _ rfl, rfl, rfl⟩, pl.isList.push _⟩, ?_, fun h' tk hk => ?_⟩
  · intro i v s' Q' E' hv hq
    have hi : i < its.length := by
      by_cases z : i < its.length
      · exact z
      · rw [Array.getElem?_eq_none (by simpa using z)] at hv; cases hv
    obtain ⟨u', e1, r1⟩ := rv.get (i := i) (x := .bl bs[i]) (by rw [List.getElem?_map, List.getElem?_eq_getElem (by omega)]; rfl)
    have e2 : v = u' := by
      have z : its[i]? = some v := by simpa using hv
      rw [z] at e1; exact Option.some.inj e1
    subst e2
    cases (show v = Value.bool bs[i] from r1)
    refine wpAny_truthy_bool ?_
    have hq' : Q' ((bs[i]?).getD true) s' := hq
    rw [List.getElem?_eq_getElem (show i < bs.length by omega)] at hq'
    exact hq'
  · have e : (List.range its.toArray.size).all (fun i => (bs[i]?).getD true) = bs.all id := by
      rw [List.size_toArray, ← hl, Bool.eq_iff_iff, List.all_eq_true, List.all_eq_true]
      constructor
      · intro h1 x hx
        obtain ⟨j, hj, e⟩ := List.getElem_of_mem hx
        have q1 := h1 j (List.mem_range.mpr hj)
        rw [List.getElem?_eq_getElem hj] at q1
        rw [← e]; exact q1
      · intro h1 j hj
        have hj' := List.mem_range.mp hj
        rw [List.getElem?_eq_getElem hj']
        exact h1 _ (List.getElem_mem hj')
    rw [e]
    exact ⟨.bl _, H, (I.kept (t' := tk) (h' := h') fun b o eo => hk b o (by
      intro hm
      have hb : b = s.heap.objs.size := by simpa using hm
      exact absurd (Heap.lt_size eo) (by rw [hb]; exact Nat.lt_irrefl _)) (up b o eo)), rfl, q⟩
/-- xs == [] -/
def rEqNil (K : PySem.W.Frag) : R2 := fun x y H Q => ∃ p q xs, x = .ref p ∧ y = .ref q ∧ SqL K H p xs ∧ SqL K H q [] ∧ Q (.bl xs.isEmpty) H
theorem op_eqNil (hu : X.A.units < cLine) : OpR X (compareOp .Eq) (rEqNil X.K) := by
  intro pins s σ H x y v u Q I rx ry h
  obtain ⟨p, q, xs, rfl, rfl, hp, hq, hQ⟩ := h
  cases rx
  cases ry
  obtain ⟨its, rv, tp, hz⟩ := I.list hp
  obtain ⟨its2, rv2, tq, hz2⟩ := I.list hq
  cases rv2
  have fin : ∀ b, b = xs.isEmpty → EP X pins σ Q (.bool b) s := fun b e => ⟨.bl xs.isEmpty, H, I, by rw [e]; rfl, hQ⟩
  cases rv with
  | nil => exact SeqAt.eq_listAt (e := fun _ => true) tp.isList tq.isList rfl hu (fun j h1 => absurd h1 (by simp)) (fin _ rfl)
  | cons r rr => exact SeqAt.eq_list_lengthsAt tp.isList tq.isList (by simp) hu (fin _ rfl)
/-! ### xs[::-1] -/
def tRevSl (K : PySem.W.Frag) (te : TE) : TE := fun σ H Q => te σ H fun x H1 => ∃ a xs, x = .ref a ∧ SqL K H1 a xs ∧ ∀ q, H1 q = none → Q (.ref q) (upd H1 q (.lst xs.reverse))
theorem pe_revSl {e : Expr} {te : TE} {p1 p2 p3 pos : Pos} {j : Nat} (he : PE X e te) : PE X (.Subscript e (.Slice none none (some (.UnaryOp .USub (.Constant (.int 1) j p1) p2)) p3) pos) (tRevSl X.K te) := by
  intro pins s σ H Q I h
  refine Subscript_ (thn (he pins s σ H _ I h) fun v s1 ⟨x, H1, I1, r1, a, xs, ex, hx, q⟩ => ?_)
  subst ex
  cases r1
  refine wpAny_Slice ?_
  rw [evalPart_none]
  refine wpAny_pure (wpAny_pure ?_)
  rw [evalPart_some]
  refine thn (pe_un (X := X) un_neg pe_int pins s1 σ H1 (fun x H2 => x = .int (-1) ∧ H2 = H1) I1 ⟨1, rfl, rfl, rfl⟩) fun u s2 ⟨x, H2, I2, r2, e1, e2⟩ => ?_
  subst e1 e2
  obtain ⟨t, rfl⟩ := r2
  obtain ⟨its, rv, pl, hz⟩ := I2.list hx
  have hl := rv.length
  have up : ∀ b o, s2.heap.get? b = some o → (s2.heap.push { cls := .type "slice", data := .fields #[.none, .none, .int (-1) t] }).get? b = some o := fun b o e => Heap.get?_push_of_some _ e
  have I3 : Inv X pins σ H2 { s2 with heap := s2.heap.push { cls := .type "slice", data := .fields #[.none, .none, .int (-1) t] } } := I2.kept (t' := s2.toks) up
  obtain ⟨its', rv', pl', hz'⟩ := I3.list hx
  have hl' := rv'.length
  refine tail_any pl'.isList.typeIs slot_list_getitem.lookup ?_ (by with_unfolding_all rfl)
  refine wpAny_getItem_list_slice pl'.isList (Heap.IsSliceOf.new ..) .none .none (.int _ _) (by decide) ?_ (by rw [List.size_toArray] <;> omega)
  rw [PySem.W.krv_pick]
  refine ⟨.ref _, _, I3.laid (t' := s2.toks) (o := .lst xs.reverse) (fun b ob q => Heap.get?_push_of_some _ q) (Nat.le_refl _) ?_, rfl, q _ (I3.hok.fresh (Nat.le_refl _))⟩
  exact ⟨by rw [List.length_reverse]; exact hz, its'.reverse, 0, Vals.reverse rv', Heap.get?_push_size _ rfl⟩
end
end L2

set_option Elab.async false
set_option linter.all false
set_option maxRecDepth 100000
set_option maxHeartbeats 4000000
namespace L2
open PySem PySem.Spec PyProof.Rows
section
variable {X : Cx}
/-! ### slices of a text, the place of a text in a text -/
def rSlS : V → Option Int → Option Int → Hp → VK → Prop := fun x lo hi H Q => ∃ z, x = .str z ∧ z.length ≤ sizeLine ∧ Q (.str (Txt.slice z lo hi)) H
theorem sl_str : SlR X rSlS := by
  intro pins s σ H x v vl vu lo hi sl Q I rx hs pl pu h
  obtain ⟨z, rfl, hz, q⟩ := h
  obtain ⟨t, rfl⟩ := rx
  refine ⟨"str", _, F.slot_str_getitem.lookup, typeIs_str _ _ _, ?_⟩
  obtain ⟨o, e, c, d⟩ := hs
  have fin : ∀ l u : Option (Int × Tok), (vl = partValue l ∧ lo = l.map (·.1)) → (vu = partValue u ∧ hi = u.map (·.1)) → wpAny (model X.prog X.w) X.A (getItem (.str z t) (.ref sl)) (EP X pins σ Q) X.xe s := by
    rintro l u ⟨rfl, rfl⟩ ⟨rfl, rfl⟩
    exact wpAny_getItem_str_slice (l := l) (u := u) (st := none) ⟨o, e, c, d⟩ rfl (post_val_or_str ⟨Nat.le_trans (Txt.slice_le z _ _) hz, fun t' k => ⟨.str _, H, I.tok k, ⟨t', rfl⟩, q⟩⟩)
  cases pl with
  | none =>
    cases pu with
    | none => exact fin none none ⟨rfl, rfl⟩ ⟨rfl, rfl⟩
    | int j uj => exact fin none (some (j, uj)) ⟨rfl, rfl⟩ ⟨rfl, rfl⟩
  | int i ui =>
    cases pu with
    | none => exact fin (some (i, ui)) none ⟨rfl, rfl⟩ ⟨rfl, rfl⟩
    | int j uj => exact fin (some (i, ui)) (some (j, uj)) ⟨rfl, rfl⟩ ⟨rfl, rfl⟩
def rIndex : V → List V → Hp → VK → Prop := fun x vs H Q => ∃ a b i rest, x = .str a ∧ vs = [.str b] ∧ Builtin.Str.occurrences a b 0 a.length 1 = i :: rest ∧ Q (.int i) H
theorem mt_index : MtR X "str.index" rIndex := by
  intro pins s σ H x vs v us Q I rx rv h
  obtain ⟨a, b, i, rest, rfl, rfl, ho, q⟩ := h
  obtain ⟨t, rfl⟩ := rx
  obtain ⟨w, rfl, u, rfl⟩ := vals1 rv
  exact call_gives F.slot_str_index (typeIs_str _ _ _) F.entry_str_index (F.args_str_index_2 _ _) (gives_str_index a b t u i rest ho) ⟨.int i, H, I.tok _, ⟨_, rfl⟩, q⟩
/-! ### three names at once: stored from the right -/
def tThree (K : PySem.W.Frag) (i j k : Nat) (te : TE) : TS := fun D σ H => te σ H fun x H1 => ∃ p v w u, x = .ref p ∧ SqT K H1 p [v, w, u] ∧ D.nx (((σ.set k (some u)).set j (some w)).set i (some v)) H1
theorem ps_three {i j k : Nat} {x y z : Str} {e : Expr} {te : TE} {px py pz pt : Pos} {kt : Nat} {pos : Pos} (hc : X.calm = true) (hN : X.N.Nodup) (hi : X.N[i]? = some x) (hj : X.N[j]? = some y) (hk : X.N[k]? = some z)
    (hx : X.env.scope.names.lookup x = some .local) (hy : X.env.scope.names.lookup y = some .local) (hz : X.env.scope.names.lookup z = some .local) (he : PE X e te)
    (hw : swappedStores [.Tuple [.Name x px, .Name y py, .Name z pz] kt pt] e X.env = pure (some [x, y, z]))
    (hs : swapsWithSole [.Tuple [.Name x px, .Name y py, .Name z pz] kt pt] e pos.line X.env = pure false) :
    PS X (.Assign [.Tuple [.Name x px, .Name y py, .Name z pz] kt pt] e pos) (tThree X.K i j k te) := by
  intro pins s σ H D I h
  refine Assign_Tuple_swapped (names := [x, y, z]) (thn (he pins s σ H _ I h) fun r s1 ⟨xr, H1, I1, r1, p, v, w, u, ex, hp, q⟩ => ?_) hs hw
  subst ex
  cases r1
  obtain ⟨its, rv, tp, _⟩ := I1.tuple hp
  obtain ⟨u1, u2, u3, ei, a1, a2, a3⟩ : ∃ u1 u2 u3, its = [u1, u2, u3] ∧ RelV v u1 ∧ RelV w u2 ∧ RelV u u3 := by
    cases rv with
    | cons a1 rv =>
      cases rv with
      | cons a2 rv =>
        cases rv with
        | cons a3 rv =>
          cases rv
          exact ⟨_, _, _, rfl, a1, a2, a3⟩
  subst ei
  refine unpackItems_tuple (items := #[u1, u2, u3]) (I.ok.hd hc) tp fun h' kp => ?_
  have I2 := I1.kept (h' := h') (t' := s1.toks) fun b o eb => kp b o (Nat.ne_of_lt (Heap.lt_size eb)) eb
  refine assignInOrder_cons (wpAny_bindName (store_ok I2 hN hk (.inl hz) a3 (fun s2 I3 => ?_) (.inr hz)))
  refine assignInOrder_cons (wpAny_bindName (store_ok I3 hN hj (.inl hy) a2 (fun s3 I4 => ?_) (.inr hy)))
  exact assignInOrder_cons (wpAny_bindName (store_ok I4 hN hi (.inl hx) a1 (fun s4 I5 => assignInOrder_nil ⟨_, H1, I5, q⟩) (.inr hx)))
end
end L2

set_option Elab.async false
set_option linter.all false
set_option maxRecDepth 100000
set_option maxHeartbeats 4000000
/-! ### zip of two tuples: its turns -/
namespace Zt
open PySem
open Sem (wp)
section
variable {prog : Program} {w : World} {A : Around} {E : Value → Shared → Prop} {s : Shared}
/-- one thing drawn from a tuple's iterator -/
theorem nx {j t : Addr} {i : Nat} {its : Array Value} {x : Value} {Q : Value → Shared → Prop} (hj : s.heap.IsTupleIter j t i) (ht : s.heap.IsTuple t its) (hx : its[i]? = some x)
    (k : ∀ g : Heap, g.IsTupleIter j t (i + 1) → Heap.SameBut j s.heap g → Q x { s with heap := g }) : wpAny (model prog w) A (Builtin.SmallTypes.nextOf (.ref j)) Q E s := by
  obtain ⟨ob, eb, kb, db⟩ := id hj
  obtain ⟨oc, ec, _, nc, dc⟩ := ht
  unfold Builtin.SmallTypes.nextOf
  refine wpAny_bind (wpAny_callSpecial?_slot (name := Str.ofString "__next__") hj.typeIs F.slot_tuple_iterator_next (wpAny_call_entry F.slot_tuple_iterator_next hj.typeIs F.entry_tuple_iterator_next ?_ (F.args_tuple_iterator_next_1 _)))
  show wpAny _ _ (field (.ref j) 0 >>= _) _ _ s; refine wpAny_bind (wpAny_field eb db (x := .ref t) rfl ?_)
  show wpAny _ _ (if (Value.ref t == Value.none) = true then _ else _) _ _ s; rw [if_neg (show ¬ ((Value.ref t == Value.none) = true) from Bool.false_ne_true)]
  show wpAny _ _ (field (.ref j) 1 >>= _) _ _ s; refine wpAny_bind (wpAny_field eb db (x := .int i 0) rfl ?_)
  show wpAny _ _ (seqItems? (.ref t) >>= _) _ _ s; refine wpAny_bind (wpAny_seqItems ec dc ?_)
  simp only [Int.toNat_natCast, hx]; refine wpAny_bind (wpAny_setField eb db (by simp) (wpAny_pure ⟨x, rfl, wpAny_pure (k _ ?_ (Heap.SameBut.update ..))⟩))
  exact ⟨_, Heap.get?_update_self _ eb (Obj.isFreed_of_fields (Obj.data_mapFields db _)), (Obj.cls_mapFields ..).trans kb, by rw [Obj.data_mapFields db]; simp [rawInt]⟩
/-- nothing is left in it -/
theorem nx0 {j t : Addr} {i : Nat} {its : Array Value} {Q : Value → Shared → Prop} (hh : A.handled = none) (hj : s.heap.IsTupleIter j t i) (ht : s.heap.IsTuple t its) (hx : its[i]? = none)
    (k : ∀ (g : Heap) (e : Addr), Heap.ExtBut j s.heap g → (∃ o, g.get? e = some o ∧ o.cls = .type "StopIteration") → E (.ref e) { s with heap := g }) : wpAny (model prog w) A (Builtin.SmallTypes.nextOf (.ref j)) Q E s := by
  obtain ⟨ob, eb, kb, db⟩ := id hj
  obtain ⟨oc, ec, _, nc, dc⟩ := ht
  unfold Builtin.SmallTypes.nextOf
  refine wpAny_bind (wpAny_callSpecial?_slot (name := Str.ofString "__next__") hj.typeIs F.slot_tuple_iterator_next (wpAny_call_entry F.slot_tuple_iterator_next hj.typeIs F.entry_tuple_iterator_next ?_ (F.args_tuple_iterator_next_1 _)))
  show wpAny _ _ (field (.ref j) 0 >>= _) _ _ s; refine wpAny_bind (wpAny_field eb db (x := .ref t) rfl ?_)
  show wpAny _ _ (if (Value.ref t == Value.none) = true then _ else _) _ _ s; rw [if_neg (show ¬ ((Value.ref t == Value.none) = true) from Bool.false_ne_true)]
  show wpAny _ _ (field (.ref j) 1 >>= _) _ _ s; refine wpAny_bind (wpAny_field eb db (x := .int i 0) rfl ?_)
  show wpAny _ _ (seqItems? (.ref t) >>= _) _ _ s; refine wpAny_bind (wpAny_seqItems ec dc ?_)
  simp only [Int.toNat_natCast, hx]; refine wpAny_bind (wpAny_rule (wpAny_bind (wpAny_setField eb db (by simp) ?_)))
  show wpAny _ _ (newExc (.type "StopIteration") [] >>= _) _ _ _; refine wpAny_bind ?_
  simp only [newExc, newTuple]; refine wpAny_bind (wpAny_newObj_type ?_ (by size_fits))
  refine wpAny_bind (m := firstArgMember _ _) (wpAny_of_eq (a := Value.none) (by first | rfl | (simp only [firstArgMember]; rfl)) ?_); refine wpAny_newObj_type ?_ (by size_fits)
  simp only [raiseNew]; refine wpAny_bind (wpAny_handled ?_)
  first | (rw [hh]) | (rw [show A.in1.handled = none from hh])
  exact wpAny_bind (wpAny_pure (wpAny_throw (k _ _ (((Heap.SameBut.update ..).extBut.push _).push _) ⟨_, Heap.get?_push_size _ rfl, rfl⟩)))
variable {z TI TO i1 i2 l1 l2 : Addr} {k1 k2 : Nat} {xs ys : Array Value} {x y a b : Value}
theorem go_item {Q : Value → Shared → Prop} (D : ZipApart z TI TO i1 i2 l1 l2) (gz : IsZip s.heap z TI TO .none) (gI : IsPair s.heap TI (.ref i1) (.ref i2)) (gO : IsPair s.heap TO a b)
    (g1 : s.heap.IsTupleIter i1 l1 k1) (g2 : s.heap.IsTupleIter i2 l2 k2) (t1 : s.heap.IsTuple l1 xs) (t2 : s.heap.IsTuple l2 ys) (hx : xs[k1]? = some x) (hy : ys[k2]? = some y)
    (k : ∀ g, IsZip g z TI TO (rawInt s.heap.objs.size) → IsPair g TO x y → g.IsTupleIter i1 l1 (k1 + 1) → g.IsTupleIter i2 l2 (k2 + 1) → IsPair g s.heap.objs.size x y →
      (∀ c o, c ≠ z → c ≠ TO → c ≠ i1 → c ≠ i2 → s.heap.get? c = some o → g.get? c = some o) → Q (.ref s.heap.objs.size) { s with heap := g }) :
    wpAny (model prog w) A (Builtin.«zip.__next__» ⟨[.ref z], []⟩) (fun fin s' => ∃ v, fin = .done (.ret v) ∧ Q v s') E s := by
  show wpAny _ _ (field (.ref z) 2 >>= _) _ _ _; refine wpAny_bind (wpAny_field gz rfl (x := .bool false) rfl ?_)
  show wpAny _ _ (field (.ref z) 3 >>= _) _ _ _; refine wpAny_bind (wpAny_field gz rfl (x := .ref TI) rfl (wpAny_bind (wpAny_seqItems gI rfl ?_)))
  show wpAny _ _ (Builtin.SmallTypes.ownedTupleIsFree (.ref z) >>= _) _ _ _; refine wpAny_bind ?_; unfold Builtin.SmallTypes.ownedTupleIsFree
  refine wpAny_bind (wpAny_field gz rfl (x := .none) rfl (wpAny_pure ?_)); simp only [if_true]
  refine wpAny_bind (wpAny_rule (wpAny_bind (wpAny_field gz rfl (x := .ref TO) rfl (wpAny_bind (wpAny_setField_rec gz (by simp) fun h₁ z1 q1 => ?_)))))
  replace z1 : IsZip h₁ z TI TO .ellipsis := z1
  refine wpAny_bind ?_; simp only [List.zipIdx_cons, List.zipIdx_nil, List.forIn_cons, List.forIn_nil]
  refine wpAny_bind (wpAny_bind (wpAny_onRaise ?_)); show wpAny _ _ (Builtin.SmallTypes.nextOf (.ref i1) >>= _) _ _ _
  refine wpAny_bind (nx (g1.extBut q1.extBut D.i1z) (t1.extBut q1.extBut D.l1z) hx fun h₂ n1 q2 => wpAny_pure ?_)
  have o2 : IsPair h₂ TO a b := q2.extBut _ _ D.TOi1 (q1.extBut _ _ D.TOz gO)
  refine wpAny_bind (wpAny_seqItems o2 rfl (wpAny_bind (wpAny_updateSeq_pair o2 fun h₃ o3 q3 => ?_)))
  replace o3 : IsPair h₃ TO x b := o3
  refine wpAny_bind (wpAny_letGo (wpAny_pure ?_)); refine wpAny_bind (wpAny_bind (wpAny_onRaise ?_)); show wpAny _ _ (Builtin.SmallTypes.nextOf (.ref i2) >>= _) _ _ _
  refine wpAny_bind (nx (((g2.extBut q1.extBut D.i2z).extBut q2.extBut D.i12.symm).extBut q3.extBut D.TOi2.symm) (((t2.extBut q1.extBut D.l2z).extBut q2.extBut D.l2i1).extBut q3.extBut D.l2TO) hy fun h₄ n2 q4 => wpAny_pure ?_)
  have o4 : IsPair h₄ TO x b := q4.extBut _ _ D.TOi2 o3
  refine wpAny_bind (wpAny_seqItems o4 rfl (wpAny_bind (wpAny_updateSeq_pair o4 fun h₅ o5 q5 => ?_)))
  replace o5 : IsPair h₅ TO x y := o5
  refine wpAny_bind (wpAny_letGo (wpAny_pure (wpAny_pure ?_))); refine wpAny_bind (wpAny_seqItems o5 rfl (wpAny_bind (wpAny_newTuple ?_)))
  have sz : h₅.objs.size = s.heap.objs.size := by rw [q5.1, q4.1, q3.1, q2.1, q1.1]
  have z5 : IsZip h₅ z TI TO .ellipsis := q5.extBut _ _ D.TOz.symm (q4.extBut _ _ D.i2z.symm (q3.extBut _ _ D.TOz.symm (q2.extBut _ _ D.i1z.symm z1)))
  have kk : ∀ c o, c ≠ z → c ≠ TO → c ≠ i1 → c ≠ i2 → s.heap.get? c = some o → h₅.get? c = some o := fun c o c1 c2 c3 c4 e => q5.extBut _ _ c2 (q4.extBut _ _ c4 (q3.extBut _ _ c2 (q2.extBut _ _ c3 (q1.extBut _ _ c1 e))))
  have m1 : h₅.IsTupleIter i1 l1 (k1 + 1) := ((n1.extBut q3.extBut D.TOi1.symm).extBut q4.extBut D.i12).extBut q5.extBut D.TOi1.symm
  have m2 : h₅.IsTupleIter i2 l2 (k2 + 1) := n2.extBut q5.extBut D.TOi2.symm
  have zl : z < h₅.objs.size := Heap.lt_size z5
  show wpAny _ _ (Builtin.SmallTypes.ownedTupleHandOut (.ref z) (.ref h₅.objs.size) >>= _) _ _ _; refine wpAny_bind ?_; unfold Builtin.SmallTypes.ownedTupleHandOut
  have z6 : IsZip (h₅.push { cls := .type "tuple", data := .seq #[x, y] }) z TI TO .ellipsis := Heap.get?_push_of_some _ z5
  refine wpAny_bind (wpAny_setField_rec z6 (by simp) fun h₇ z7 q7 => ?_)
  replace z7 : IsZip h₇ z TI TO (rawInt h₅.objs.size) := z7
  refine wpAny_setField_rec z7 (by simp) fun h₈ z8 q8 => ?_
  replace z8 : IsZip h₈ z TI TO (rawInt h₅.objs.size) := z8
  have up : ∀ c o, c ≠ z → h₅.get? c = some o → h₈.get? c = some o := fun c o c1 e => q8.extBut _ _ c1 (q7.extBut _ _ c1 (Heap.get?_push_of_some _ e))
  have T8 : IsPair h₈ h₅.objs.size x y := q8.extBut _ _ (Nat.ne_of_gt zl) (q7.extBut _ _ (Nat.ne_of_gt zl) (Heap.get?_push_size _ rfl))
  rw [sz] at z8 T8
  refine wpAny_pure ⟨_, rfl, ?_⟩
  show Q (.ref h₅.objs.size) _
  rw [sz]
  exact k h₈ z8 (up _ _ D.TOz o5) (m1.at fun o e => up _ o D.i1z e) (m2.at fun o e => up _ o D.i2z e) T8 fun c o c1 c2 c3 c4 e => up c o c1 (kk c o c1 c2 c3 c4 e)
theorem go_end {Q : Fin → Shared → Prop} (hh : A.handled = none) (D : ZipApart z TI TO i1 i2 l1 l2) (gz : IsZip s.heap z TI TO .none) (gI : IsPair s.heap TI (.ref i1) (.ref i2)) (gO : IsPair s.heap TO a b)
    (g1 : s.heap.IsTupleIter i1 l1 k1) (g2 : s.heap.IsTupleIter i2 l2 k2) (t1 : s.heap.IsTuple l1 xs) (t2 : s.heap.IsTuple l2 ys) (he : xs[k1]? = none ∨ ys[k2]? = none)
    (k : ∀ (g : Heap) (e : Addr), (∀ c o, c ≠ z → c ≠ TO → c ≠ i1 → c ≠ i2 → s.heap.get? c = some o → g.get? c = some o) → (∃ o, g.get? e = some o ∧ o.cls = .type "StopIteration") → E (.ref e) { s with heap := g }) :
    wpAny (model prog w) A (Builtin.«zip.__next__» ⟨[.ref z], []⟩) Q E s := by
  show wpAny _ _ (field (.ref z) 2 >>= _) _ _ _; refine wpAny_bind (wpAny_field gz rfl (x := .bool false) rfl ?_)
  show wpAny _ _ (field (.ref z) 3 >>= _) _ _ _; refine wpAny_bind (wpAny_field gz rfl (x := .ref TI) rfl (wpAny_bind (wpAny_seqItems gI rfl ?_)))
  show wpAny _ _ (Builtin.SmallTypes.ownedTupleIsFree (.ref z) >>= _) _ _ _; refine wpAny_bind ?_; unfold Builtin.SmallTypes.ownedTupleIsFree
  refine wpAny_bind (wpAny_field gz rfl (x := .none) rfl (wpAny_pure ?_)); simp only [if_true]
  refine wpAny_bind (wpAny_rule (wpAny_bind (wpAny_field gz rfl (x := .ref TO) rfl (wpAny_bind (wpAny_setField_rec gz (by simp) fun h₁ z1 q1 => ?_)))))
  replace z1 : IsZip h₁ z TI TO .ellipsis := z1
  refine wpAny_bind ?_; simp only [List.zipIdx_cons, List.zipIdx_nil, List.forIn_cons, List.forIn_nil]
  refine wpAny_bind (wpAny_bind (wpAny_onRaise ?_)); show wpAny _ _ (Builtin.SmallTypes.nextOf (.ref i1) >>= _) _ _ _
  cases hx : xs[k1]? with
  | none =>
    refine wpAny_bind (nx0 hh (g1.extBut q1.extBut D.i1z) (t1.extBut q1.extBut D.l1z) hx fun h₂ e q2 ⟨oe, ge, ce⟩ => ?_)
    have z2 : IsZip h₂ z TI TO .ellipsis := q2 _ _ D.i1z.symm z1
    have ez : e ≠ z := fun u => by subst u; rw [z2] at ge; cases ge; simp at ce
    exact wpAny_setField_rec z2 (by simp) fun h₃ _ q3 => k h₃ e (fun c o c1 _ c3 _ u => q3.extBut _ _ c1 (q2 _ _ c3 (q1.extBut _ _ c1 u))) ⟨oe, q3.extBut _ _ ez ge, ce⟩
  | some x =>
    have hy : ys[k2]? = none := he.elim (fun q => by rw [hx] at q; cases q) id
    refine wpAny_bind (nx (g1.extBut q1.extBut D.i1z) (t1.extBut q1.extBut D.l1z) hx fun h₂ n1 q2 => wpAny_pure ?_)
    have o2 : IsPair h₂ TO a b := q2.extBut _ _ D.TOi1 (q1.extBut _ _ D.TOz gO)
    refine wpAny_bind (wpAny_seqItems o2 rfl (wpAny_bind (wpAny_updateSeq_pair o2 fun h₃ o3 q3 => ?_)))
    refine wpAny_bind (wpAny_letGo (wpAny_pure ?_)); refine wpAny_bind (wpAny_bind (wpAny_onRaise ?_)); show wpAny _ _ (Builtin.SmallTypes.nextOf (.ref i2) >>= _) _ _ _
    refine wpAny_bind (nx0 hh (((g2.extBut q1.extBut D.i2z).extBut q2.extBut D.i12.symm).extBut q3.extBut D.TOi2.symm) (((t2.extBut q1.extBut D.l2z).extBut q2.extBut D.l2i1).extBut q3.extBut D.l2TO) hy fun h₄ e q4 ⟨oe, ge, ce⟩ => ?_)
    have z4 : IsZip h₄ z TI TO .ellipsis := q4 _ _ D.i2z.symm (q3.extBut _ _ D.TOz.symm (q2.extBut _ _ D.i1z.symm z1))
    have ez : e ≠ z := fun u => by subst u; rw [z4] at ge; cases ge; simp at ce
    exact wpAny_setField_rec z4 (by simp) fun h₅ _ q5 => k h₅ e (fun c o c1 c2 c3 c4 u => q5.extBut _ _ c1 (q4 _ _ c4 (q3.extBut _ _ c2 (q2.extBut _ _ c3 (q1.extBut _ _ c1 u))))) ⟨oe, q5.extBut _ _ ez ge, ce⟩
theorem next_item {Q : Option Value → Shared → Prop} (D : ZipApart z TI TO i1 i2 l1 l2) (gz : IsZip s.heap z TI TO .none) (gI : IsPair s.heap TI (.ref i1) (.ref i2)) (gO : IsPair s.heap TO a b)
    (g1 : s.heap.IsTupleIter i1 l1 k1) (g2 : s.heap.IsTupleIter i2 l2 k2) (t1 : s.heap.IsTuple l1 xs) (t2 : s.heap.IsTuple l2 ys) (hx : xs[k1]? = some x) (hy : ys[k2]? = some y)
    (k : ∀ g, IsZip g z TI TO (rawInt s.heap.objs.size) → IsPair g TO x y → g.IsTupleIter i1 l1 (k1 + 1) → g.IsTupleIter i2 l2 (k2 + 1) → IsPair g s.heap.objs.size x y →
      (∀ c o, c ≠ z → c ≠ TO → c ≠ i1 → c ≠ i2 → s.heap.get? c = some o → g.get? c = some o) → Q (some (.ref s.heap.objs.size)) { s with heap := g }) : wpAny (model prog w) A (pyNext (.ref z)) Q E s := by
  have ty : s.TypeIs (.ref z) "zip" := ⟨_, gz, rfl⟩
  unfold pyNext
  exact wpAny_bind (wpAny_attempt (wpAny_callSpecial?_slot (name := Str.ofString "__next__") ty F.slot_zip_next (wpAny_call_entry F.slot_zip_next ty F.entry_zip_next
    (go_item D gz gI gO g1 g2 t1 t2 hx hy fun g a1 a2 a3 a4 a5 a6 => wpAny_pure (k g a1 a2 a3 a4 a5 a6)) (F.args_zip_next_1 _))))
theorem next_end {Q : Option Value → Shared → Prop} (hh : A.handled = none) (D : ZipApart z TI TO i1 i2 l1 l2) (gz : IsZip s.heap z TI TO .none) (gI : IsPair s.heap TI (.ref i1) (.ref i2)) (gO : IsPair s.heap TO a b)
    (g1 : s.heap.IsTupleIter i1 l1 k1) (g2 : s.heap.IsTupleIter i2 l2 k2) (t1 : s.heap.IsTuple l1 xs) (t2 : s.heap.IsTuple l2 ys) (he : xs[k1]? = none ∨ ys[k2]? = none)
    (k : ∀ g : Heap, (∀ c o, c ≠ z → c ≠ TO → c ≠ i1 → c ≠ i2 → s.heap.get? c = some o → g.get? c = some o) → Q none { s with heap := g }) : wpAny (model prog w) A (pyNext (.ref z)) Q E s := by
  have ty : s.TypeIs (.ref z) "zip" := ⟨_, gz, rfl⟩
  unfold pyNext
  refine wpAny_bind (wpAny_attempt (wpAny_callSpecial?_slot (name := Str.ofString "__next__") ty F.slot_zip_next (wpAny_call_entry F.slot_zip_next ty F.entry_zip_next (go_end hh D gz gI gO g1 g2 t1 t2 he fun g e kk ⟨o, ho, hc⟩ => ?_) (F.args_zip_next_1 _))))
  exact wpAny_bind (wpAny_isInstance (T := "StopIteration") (b := true) ⟨o, ho, hc⟩ isSubtype_stop (wpAny_pure (k _ kk)))
end
abbrev H1 (h : Heap) (l1 : Addr) : Heap := h.push { cls := .type "tuple_iterator", data := .fields #[.ref l1, .int 0 0] }
abbrev H2 (h : Heap) (l1 l2 : Addr) : Heap := (H1 h l1).push { cls := .type "tuple_iterator", data := .fields #[.ref l2, .int 0 0] }
abbrev H3 (h : Heap) (l1 l2 : Addr) : Heap := (H2 h l1 l2).push { cls := .type "tuple", data := .seq #[.ref h.objs.size, .ref (H1 h l1).objs.size] }
abbrev H4 (h : Heap) (l1 l2 : Addr) : Heap := (H3 h l1 l2).push { cls := .type "tuple", data := .seq #[.none, .none] }
abbrev H5 (h : Heap) (l1 l2 : Addr) : Heap := (H4 h l1 l2).push { cls := .type "zip", data := .fields #[.none, .bool false, .bool false, .ref (H2 h l1 l2).objs.size, .ref (H3 h l1 l2).objs.size] }
theorem meets_new (l1 l2 : Addr) (xs ys : Array Value) :
    Meets (Builtin.«zip.__new__» ⟨[.type "zip", .ref l1, .ref l2], []⟩) (fun _ R s => s.heap.IsTuple l1 xs ∧ s.heap.IsTuple l2 ys ∧ R (.ok (.ret (.ref (H4 s.heap l1 l2).objs.size))) { s with heap := H5 s.heap l1 l2 }) :=
  .of_wp fun prog w A R s h => by
    obtain ⟨hp, g, d, tk, os⟩ := s; obtain ⟨e1, e2, h⟩ := h
    have hsub := sub_zip
    have L1 : Heap.IsTuple (Shared.heap ⟨hp, g, d, tk, os⟩) l1 xs := e1
    have L2 : Heap.IsTuple (Shared.heap ⟨hp.push { cls := .type "tuple_iterator", data := .fields #[.ref l1, .int 0 0] }, g, d, tk, os⟩) l2 ys := Heap.IsTuple.push e2 _
    wp_walk using wpAny_pyIter_tuple L1, wpAny_pyIter_tuple L2
    exact ⟨_, rfl, h⟩
section
variable {prog : Program} {w : World} {A : Around} {E : Value → Shared → Prop} {s : Shared}
theorem call_new {l1 l2 : Addr} {xs ys : Array Value} {Q : Value → Shared → Prop} (e1 : s.heap.IsTuple l1 xs) (e2 : s.heap.IsTuple l2 ys)
    (k : ∀ g, IsZip g (s.heap.objs.size + 4) (s.heap.objs.size + 2) (s.heap.objs.size + 3) .none → IsPair g (s.heap.objs.size + 2) (.ref s.heap.objs.size) (.ref (s.heap.objs.size + 1)) →
      IsPair g (s.heap.objs.size + 3) .none .none → g.IsTupleIter s.heap.objs.size l1 0 → g.IsTupleIter (s.heap.objs.size + 1) l2 0 →
      (∀ c o, s.heap.get? c = some o → g.get? c = some o) → Q (.ref (s.heap.objs.size + 4)) { s with heap := g }) :
    wpAny (model prog w) A (call (.type "zip") [.ref l1, .ref l2]) Q E s := by
  refine callType_new F.called_zip (by decide) (F.typeCall_zip_2 _ _) (F.newCall_zip_2 _ _) (fun obj => F.args_object_init_3 obj _ _) F.entry_zip_new (meets_new l1 l2 xs ys) ⟨e1, e2, ?_⟩
  have z1 : (H1 s.heap l1).objs.size = s.heap.objs.size + 1 := Heap.size_push ..
  have z2 : (H2 s.heap l1 l2).objs.size = s.heap.objs.size + 2 := by rw [Heap.size_push, z1]
  have z3 : (H3 s.heap l1 l2).objs.size = s.heap.objs.size + 3 := by rw [Heap.size_push, z2]
  have z4 : (H4 s.heap l1 l2).objs.size = s.heap.objs.size + 4 := by rw [Heap.size_push, z3]
  have g5 : (H5 s.heap l1 l2).get? (H4 s.heap l1 l2).objs.size = some _ := Heap.get?_push_size _ rfl
  have g4 : (H5 s.heap l1 l2).get? (H3 s.heap l1 l2).objs.size = some _ := Heap.get?_push_of_some _ (Heap.get?_push_size _ rfl)
  have g3 : (H5 s.heap l1 l2).get? (H2 s.heap l1 l2).objs.size = some _ := Heap.get?_push_of_some _ (Heap.get?_push_of_some _ (Heap.get?_push_size _ rfl))
  have g2 : (H5 s.heap l1 l2).get? (H1 s.heap l1).objs.size = some _ := Heap.get?_push_of_some _ (Heap.get?_push_of_some _ (Heap.get?_push_of_some _ (Heap.get?_push_size _ rfl)))
  have g1 : (H5 s.heap l1 l2).get? s.heap.objs.size = some _ := Heap.get?_push_of_some _ (Heap.get?_push_of_some _ (Heap.get?_push_of_some _ (Heap.get?_push_of_some _ (Heap.get?_push_size _ rfl))))
  show _ ∧ _
  rw [z2, z3, z4] at g5
  rw [z1, z2] at g3
  rw [z3] at g4
  rw [z1] at g2
  rw [z4]
  exact ⟨⟨_, g5, rfl⟩, k _ g5 g3 g4 ⟨_, g1, rfl, rfl⟩ ⟨_, g2, rfl, rfl⟩ fun c o e => Heap.get?_push_of_some _ (Heap.get?_push_of_some _ (Heap.get?_push_of_some _ (Heap.get?_push_of_some _ (Heap.get?_push_of_some _ e))))⟩
end
end Zt

set_option Elab.async false
set_option linter.all false
set_option maxRecDepth 100000
set_option maxHeartbeats 4000000
namespace L2
open PySem PySem.Spec PyProof.Rows
/-! ### zip of two tuples, over the hand layer -/
section
variable {X : Cx} {pins : List (Addr × Obj)} {σ : St} {H : Hp} {s : Shared} {h' : Heap}
/-- several untracked records of ours have turned -/
theorem Inv.turnedL {t' : Nat} {fp : List Addr} (I : Inv X pins σ H s) (k : ∀ b o, b ∉ fp → s.heap.get? b = some o → h'.get? b = some o) (hf : ∀ b ∈ fp, FpOk X pins H b) : Inv X pins σ H { s with heap := h', toks := t' } := by
  have nit : ∀ b u, H b = some u → b ∉ fp := fun b u e z => by rw [(hf b z).1] at e; cases e
  refine I.step (g' := s.gens) (d' := s.drawn) (ch := fp) (fun b hb => ?_) (fun b o _ _ hc e _ => k b o hc e) (fun b o _ _ hc e _ => ⟨o.slots, k b o hc e⟩) (fun _ _ _ _ n => n)
    (fun b o hc e => ⟨o, k b o hc e⟩) (fun _ _ e => e) (fun _ _ _ e => e) (fun b ps e => ⟨#[], by rw [e]; simp⟩) (fun m hm => ?_) (fun b u e => ?_) I.bare
  · obtain ⟨f0, f1, f2, f3, f4, f5⟩ := hf b hb
    exact ⟨f3, f1, f4, f5⟩
  · obtain ⟨o, es, ep, ho, r⟩ := hm
    exact ⟨o, es, ep, k _ o (fun z => (hf _ z).2.1 rfl) ho, r⟩
  · refine (I.hok b u e).stay (fun c v hc q => k c v ?_ q) (fun _ q => q) fun _ _ q => q
    rcases hc with z | z
    · rw [z]; exact nit b u e
    · exact nit c _ z
/-- an untracked tuple of ours is tracked from here on -/
theorem Inv.trackT {D : Addr} {us : List Value} {ys : List V} (I : Inv X pins σ H s) (f : FpOk X pins H D) (e : IsTup s.heap D us.toArray) (r : Vals ys us) (hz : ys.length ≤ sizeLine) :
    Inv X pins σ (upd H D (.tup ys)) s := by
  obtain ⟨f0, f1, f2, f3, f4, f5⟩ := f
  have nD : ∀ b u, H b = some u → b ≠ D := fun b u q => ne_of_none q f0
  have hok : HOk X.prog X.w (upd H D (.tup ys)) s.heap := fun b u q => by
    by_cases hb : b = D
    · subst hb
      rw [upd_same] at q
      cases q
      exact ⟨hz, us, r, e⟩
    · rw [upd_ne hb] at q
      exact (I.hok b u q).stay (fun _ _ _ z => z) (fun c z => by rw [upd_ne (nD c _ z)]; exact z) fun c xs z => by rw [upd_ne (nD c _ z)]; exact z
  exact I.step (H' := upd H D (.tup ys)) (h' := s.heap) (g' := s.gens) (t' := s.toks) (d' := s.drawn) (ch := [D])
    (fun b hb => by
      have z : b = D := by simpa using hb
      subst z
      exact ⟨f3, f1, f4, f5⟩)
    (fun _ _ _ _ _ q _ => q) (fun _ o _ _ _ q _ => ⟨o.slots, q⟩)
    (fun b o hb _ n => by rw [upd_ne (fun z => hb (by simp [z]))]; exact n)
    (fun _ o _ q => ⟨o, q⟩) (fun b xs q => by rw [upd_ne (nD b _ q)]; exact q) (fun b o u q => by rw [upd_ne (nD b _ q)]; exact q)
    (fun b ps q => ⟨#[], by rw [upd_ne (nD b _ q), q]; simp⟩) (fun _ q => q) hok I.bare
end
/-- two tuples side by side: each turn a new pair -/
def Itz (K : PySem.W.Frag) (a b : Addr) : It :=
  ⟨fun i H => ∃ xs ys x y, SqT K H a xs ∧ SqT K H b ys ∧ xs[i]? = some x ∧ ys[i]? = some y,
   fun i H v H' => ∃ p x y, v = .ref p ∧ H p = none ∧ H' = upd H p (.tup [x, y]) ∧ ∀ xs ys, SqT K H a xs → SqT K H b ys → xs[i]? = some x ∧ ys[i]? = some y,
   fun i H => ∃ xs ys, SqT K H a xs ∧ SqT K H b ys ∧ (xs.length ≤ i ∨ ys.length ≤ i)⟩
theorem turn_zip {P : Program} {w : World} {K : PySem.W.Frag} {elts : List Expr} {k0 : Nat} {pos0 : Pos} {z TI TO i1 i2 a b : Addr} (D : ZipApart z TI TO i1 i2 a b) :
    Turn P w K (.Tuple elts k0 pos0) (Itz K a b) [z, TI, TO, i1, i2] z (fun i h => IsZip h z TI TO .none ∧ IsPair h TI (.ref i1) (.ref i2) ∧ (∃ x y, IsPair h TO x y) ∧ h.IsTupleIter i1 a i ∧ h.IsTupleIter i2 b i) where
  mem := by simp
  obj := fun i h st c hc => by
    obtain ⟨gz, gI, ⟨x, y, gO⟩, ⟨o1, e1, _, d1⟩, ⟨o2, e2, _, d2⟩⟩ := st
    simp only [List.mem_cons, List.not_mem_nil, or_false] at hc
    rcases hc with rfl | rfl | rfl | rfl | rfl
    · exact ⟨_, gz, fun v q => by cases q⟩
    · exact ⟨_, gI, fun v q => by cases q⟩
    · exact ⟨_, gO, fun v q => by cases q⟩
    · exact ⟨_, e1, fun v q => by rw [d1] at q; cases q⟩
    · exact ⟨_, e2, fun v q => by rw [d2] at q; cases q⟩
  keep := fun i h h' st k => by
    obtain ⟨gz, gI, ⟨x, y, gO⟩, g1, g2⟩ := st
    exact ⟨k z (by simp) _ gz, k TI (by simp) _ gI, ⟨x, y, k TO (by simp) _ gO⟩, g1.at fun o e => k i1 (by simp) o e, g2.at fun o e => k i2 (by simp) o e⟩
  item := by
    intro X hP hw hK hc i pins s σ H E I hf st hg
    subst hP hw hK
    obtain ⟨gz, gI, ⟨ta, tb, gO⟩, g1, g2⟩ := st
    obtain ⟨xs, ys, x, y, hqa, hqb, hx, hy⟩ := hg
    obtain ⟨ia, ra, pa, za⟩ := I.tuple hqa
    obtain ⟨ib, rb, pb, zb⟩ := I.tuple hqb
    obtain ⟨u, hu, ru⟩ := ra.get hx
    obtain ⟨v, hv, rv⟩ := rb.get hy
    refine Zt.next_item D gz gI gO g1 g2 (show s.heap.IsTuple a ia.toArray from pa) (show s.heap.IsTuple b ib.toArray from pb) (x := u) (y := v) (by simpa using hu) (by simpa using hv) fun g a1 a2 a3 a4 a5 a6 => ?_
    refine ⟨_, rfl, wpAny_letOwnedTupleGo_zip (s := { s with heap := g }) a1 fun g' z' q' => ?_⟩
    have kk : ∀ c o, c ∉ [z, TI, TO, i1, i2] → s.heap.get? c = some o → g'.get? c = some o := fun c o hc e => by
      simp only [List.mem_cons, List.not_mem_nil, or_false, not_or] at hc
      exact q'.extBut _ _ hc.1 (a6 c o hc.1 hc.2.2.1 hc.2.2.2.1 hc.2.2.2.2 e)
    have I1 : Inv X pins σ H { s with heap := g' } := I.turnedL (t' := s.toks) kk hf
    have f0 : FpOk X pins H s.heap.objs.size := I.fpOk (Nat.le_refl _) (I.hok.fresh (Nat.le_refl _))
    have eT : IsTup g' s.heap.objs.size [u, v].toArray := ⟨_, q'.extBut _ _ (Nat.ne_of_gt (Heap.lt_size gz)) a5, rfl, _, rfl⟩
    have I2 := I1.trackT f0 eT (.cons ru (.cons rv .nil)) (by show 2 ≤ sizeLine; decide)
    refine ⟨.ref s.heap.objs.size, _, I2, rfl, ⟨s.heap.objs.size, x, y, rfl, f0.1, rfl, fun xs' ys' h1 h2 => by rw [I.tuple_inj h1 hqa, I.tuple_inj h2 hqb]; exact ⟨hx, hy⟩⟩,
      ⟨z', q'.extBut _ _ D.TIz (a6 TI _ D.TIz D.TITO D.TIi1 D.TIi2 gI), ⟨_, _, q'.extBut _ _ D.TOz a2⟩, a3.extBut q'.extBut D.i1z, a4.extBut q'.extBut D.i2z⟩, fun c hc => ?_⟩
    have hlt : c < s.heap.objs.size := by
      obtain ⟨o1, e1, _⟩ := g1
      obtain ⟨o2, e2, _⟩ := g2
      simp only [List.mem_cons, List.not_mem_nil, or_false] at hc
      rcases hc with rfl | rfl | rfl | rfl | rfl
      · exact Heap.lt_size gz
      · exact Heap.lt_size gI
      · exact Heap.lt_size gO
      · exact Heap.lt_size e1
      · exact Heap.lt_size e2
    rw [upd_ne (Nat.ne_of_lt hlt)]
    exact (hf c hc).1
  done := by
    intro X hP hw hK hc i pins s σ H E I hf st hg
    subst hP hw hK
    obtain ⟨gz, gI, ⟨ta, tb, gO⟩, g1, g2⟩ := st
    obtain ⟨xs, ys, hqa, hqb, hl⟩ := hg
    obtain ⟨ia, ra, pa, za⟩ := I.tuple hqa
    obtain ⟨ib, rb, pb, zb⟩ := I.tuple hqb
    have la := ra.length
    have lb := rb.length
    refine Zt.next_end (I.ok.hd hc) D gz gI gO g1 g2 (show s.heap.IsTuple a ia.toArray from pa) (show s.heap.IsTuple b ib.toArray from pb) ?_ fun g kk => ⟨rfl, I.turnedL (t' := s.toks) (fun c o hc e => ?_) hf⟩
    · rcases hl with q | q
      · exact .inl (by simp; omega)
      · exact .inr (by simp; omega)
    · simp only [List.mem_cons, List.not_mem_nil, or_false, not_or] at hc
      exact kk c o hc.1 hc.2.2.1 hc.2.2.2.1 hc.2.2.2.2 e
  self := fun _ _ _ _ _ st h => wpAny_pyIter_zip st.1 h
section
variable {X : Cx}
def iZip (K : PySem.W.Frag) (ta : TA) : TI := fun σ H R => ta σ H fun vs H1 => ∃ a b, vs = [.ref a, .ref b] ∧ (∃ xs, SqT K H1 a xs) ∧ (∃ ys, SqT K H1 b ys) ∧ R (Itz K a b) H1
theorem pi_zip {elts : List Expr} {k0 : Nat} {pos0 : Pos} {a b : Expr} {ta : TA} {p pos : Pos} (hg : Gl X "zip") (hm : X.mg "zip" = none) (hv : bootBuiltins "zip" = some (.type "zip")) (ha : PA X [a, b] ta)
    (hs : starEach [a, b] X.env = [(false, eval a X.env), (false, eval b X.env)] := by rfl) (hs2 : starEach [b] X.env = [(false, eval b X.env)] := by rfl) : PI X (.Tuple elts k0 pos0) (.Call (.Name "zip" p) [a, b] [] pos) (iZip X.K ta) := by
  intro pins s σ H R I h
  refine Call_ (ld_blt I hg hm hv (PyProof.Rows.callWith_type1 (thn (ha pos pins s σ H _ I h) fun us s1 ⟨vs, H1, I1, r1, q1⟩ => ?_) (by rw [hs, hs2]) (by rw [hs2]; rfl)))
  obtain ⟨a, b, e, ⟨xs, qa⟩, ⟨ys, qb⟩, q⟩ := q1
  subst e
  obtain ⟨u, v, rfl, ru, rv⟩ := vals2 r1
  cases ru
  cases rv
  obtain ⟨ia, ra, pa, za⟩ := I1.tuple qa
  obtain ⟨ib, rb, pb, zb⟩ := I1.tuple qb
  have la : a < s1.heap.objs.size := by obtain ⟨o, e, _⟩ := pa; exact Heap.lt_size e
  have lb : b < s1.heap.objs.size := by obtain ⟨o, e, _⟩ := pb; exact Heap.lt_size e
  refine Zt.call_new (show s1.heap.IsTuple a ia.toArray from pa) (show s1.heap.IsTuple b ib.toArray from pb) fun g gz gI gO g1 g2 kk => ?_
  refine wpAny_pyIter_zip (s := { s1 with heap := g }) gz ?_
  refine ⟨_, [s1.heap.objs.size + 4, s1.heap.objs.size + 2, s1.heap.objs.size + 3, s1.heap.objs.size, s1.heap.objs.size + 1], _, _, H1, rfl, I1.kept (t' := s1.toks) kk, turn_zip (zipApart_new la lb), ⟨gz, gI, ⟨_, _, gO⟩, g1, g2⟩, fun c hc => ?_, q⟩
  have hle : s1.heap.objs.size ≤ c := by
    simp only [List.mem_cons, List.not_mem_nil, or_false] at hc
    rcases hc with rfl | rfl | rfl | rfl | rfl
    · exact Nat.le_add_right _ _
    · exact Nat.le_add_right _ _
    · exact Nat.le_add_right _ _
    · exact Nat.le_refl _
    · exact Nat.le_add_right _ _
  exact I1.fpOk hle (I1.hok.fresh hle)
/-- over two tuples of one length that stay as they are -/
theorem comp_zip {K : PySem.W.Frag} {a b : Addr} {xs ys : List V} {H : Hp} {g : TG} {tc : TT} {te : TE} {own : Nat} {σ' : St} {fin : List V → Hp → Prop} (hlen : xs.length = ys.length) (Pv : Nat → List V → Hp → Prop) (h0 : Pv 0 [] H)
    (hl : ∀ i zs H, i ≤ xs.length → Pv i zs H → SqT K H a xs ∧ SqT K H b ys ∧ zs.length ≤ sizeLine)
    (hs : ∀ i x y p zs H, xs[i]? = some x → ys[i]? = some y → Pv i zs H → H p = none → g (.ref p) σ' (upd H p (.tup [x, y])) fun σ2 H2 => σ2.drop own = σ'.drop own ∧ tc σ2 H2 fun b H3 => if b = true then te σ2 H3 fun y H4 => Pv (i + 1) (zs ++ [y]) H4 else Pv (i + 1) zs H3)
    (hd : ∀ zs H, Pv xs.length zs H → fin zs H) : CompW (Itz K a b) g tc te own σ' fin H := by
  refine ⟨fun i m zs H => m = xs.length - i ∧ i ≤ xs.length ∧ Pv i zs H, ⟨xs.length, by simp, Nat.zero_le _, h0⟩, ?_⟩
  rintro i m zs H ⟨rfl, hi, p⟩
  obtain ⟨qa, qb, hz⟩ := hl i zs H hi p
  by_cases hlt : i < xs.length
  · refine .inr ⟨⟨xs, ys, xs[i], ys[i]'(by omega), qa, qb, by simp [hlt], by simp [show i < ys.length by omega]⟩, hz, Pv (i + 1), fun zs' H' p' => ⟨xs.length - (i + 1), by omega, rfl, hlt, p'⟩, fun x H' y => ?_⟩
    obtain ⟨p2, x2, y2, e, hn, e', hxy⟩ := y
    subst e e'
    obtain ⟨e1, e2⟩ := hxy xs ys qa qb
    exact hs i x2 y2 p2 zs H e1 e2 p hn
  · have e : i = xs.length := by omega
    subst e
    exact .inl ⟨⟨xs, ys, qa, qb, .inl (Nat.le_refl _)⟩, hz, hd zs H p⟩
/-- for x, y in ..: two plain locals -/
theorem pg_two {K : PySem.W.Frag} {i j : Nat} {x y : Str} {px py pt : Pos} {k : Nat} (hK : X.K = K) (hc : X.calm = true) (hN : X.N.Nodup) (hi : X.N[i]? = some x) (hj : X.N[j]? = some y) (lx : X.env.scope.names.lookup x = some .local) (ly : X.env.scope.names.lookup y = some .local) :
    PG X (.Tuple [.Name x px, .Name y py] k pt) (gTup K 2 (gCons (gName i) (gCons (gName j) gNil))) := by
  subst hK
  exact pg_tup hc (pgs_cons (pg_name hN hi (Or.inl lx) (Or.inr lx)) (pgs_cons (pg_name hN hj (Or.inl ly) (Or.inr ly)) pgs_nil))
/-! ### t + u, whatever is empty -/
def rCatA : R2 := fun x y H Q => ∃ a b xs ys, x = .ref a ∧ y = .ref b ∧ H a = some (.tup xs) ∧ H b = some (.tup ys) ∧ xs.length + ys.length ≤ sizeLine ∧ ∀ r H', (∀ c o, H c = some o → H' c = some o) → H' r = some (.tup (xs ++ ys)) → Q (.ref r) H'
theorem op_catA : OpR X (binaryOp .Add) rCatA := by
  intro pins s σ H x y v u Q I rx ry h
  obtain ⟨a, b, xs, ys, rfl, rfl, ha, hb, hz, q⟩ := h
  by_cases hx : xs = []
  · subst hx
    cases rx
    cases ry
    obtain ⟨its, r1, p1, _⟩ := I.tuple (SqT.of ha)
    obtain ⟨its2, r2, p2, _⟩ := I.tuple (SqT.of hb)
    cases r1
    obtain ⟨⟨cls, dd, data, sl⟩, ho, hc, n, hd⟩ := id p1
    obtain ⟨⟨cls2, dd2, data2, sl2⟩, ho2, hc2, n2, hd2⟩ := id p2
    simp only at hc hd hc2 hd2
    subst hc hd hc2 hd2
    exact concat_meets ⟨_, ho, rfl⟩ ⟨_, ho2, rfl⟩ noFill_tuple_add seq_tuple_add PySem.F.slot_tuple_add PySem.F.entry_tuple_add (PySem.F.args_tuple_add_2 _ _)
      (tuple_addW0 a b _ its2.toArray n n2 dd dd2 sl sl2 rfl) ⟨ho, ho2, ⟨.ref b, H, I, rfl, q b H (fun _ _ e => e) hb⟩⟩
  · exact op_catT pins s σ H _ _ v u Q I rx ry ⟨a, b, xs, ys, rfl, rfl, SqT.of ha, SqT.of hb, hx, hz, fun e => q a H (fun _ _ e => e) (by rw [e, List.append_nil]; exact ha),
      fun _ p hp => q p _ (fun c o e => by rw [upd_ne (ne_of_none e hp)]; exact e) upd_same⟩
/-! ### d.get(y, x) of a dict of the module -/
def KD (P : Program) (w : World) (K : PySem.W.Frag) (a : Addr) (kvs : List (Key × V)) : Prop := (a == sysModules) = false ∧ ∃ o vs, K.lookup a = some o ∧ KV kvs vs ∧ Obj.IsDictOf (mixKind P w) o vs
def tKGet (a : Addr) (kvs : List (Key × V)) (ty tx : TE) : TE := fun σ H Q => ty σ H fun y H2 => tx σ H2 fun z H3 => ∃ k, y = kV k ∧ Q ((valV kvs k).getD z) H3
theorem pe_kget {x : Str} {e f : Expr} {px apos cpos : Pos} {ty tx : TE} {a : Addr} {kvs : List (Key × V)} (hu : X.A.units + 1 < cLine) (hg : Gl X x) (hm : X.mg x = some (.ref a)) (hD : KD X.prog X.w X.K a kvs) (he : PE X e ty) (hf : PE X f tx) (m : M2 X (.Name x px) "get" apos e f cpos)
    (hd : (x == ("__debug__" : Str)) = false := by decide) : PE X (.Call (.Attribute (.Name x px) "get" apos) [e, f] [] cpos) (tKGet a kvs ty tx) := by
  intro pins s σ H Q I h
  obtain ⟨hsys, o, vs, hk, rel, ii⟩ := hD
  have dd : ∀ {s1 : Shared} {H1 : Hp}, Inv X pins σ H1 s1 → s1.heap.DictOf (mixKind X.prog X.w) a vs := fun I1 => Heap.dictOf_iff.mpr ⟨o, I1.kIn a o hk, ii⟩
  refine wpAny_Call_method m.base m.few m.line PySem.F.plainAttrs_dict PySem.F.slot_dict_get PySem.F.type_dict_get (ld_glob I hg hm ?_ hd)
  refine ⟨(dd I).typeIs, fun b q => ?_, ?_⟩
  · cases q
    obtain ⟨ob, _, _, h1, h2, _⟩ := dd I
    exact ⟨ob, h1, h2.2.1⟩
  rw [m.trees]
  refine Calls.callWith_builtin rfl (Calls.evalArgs_plain (Calls.spliced_cons (thn (he pins s σ H _ I h) fun iv s2 ⟨y, H2, I2, ry, q2⟩ =>
    Calls.spliced_cons (thn (hf pins s2 σ H2 _ I2 q2) fun fv s3 ⟨z, H3, I3, rz, k, ey, q3⟩ => Calls.spliced_nil ?_))))
  subst ey
  refine call_meetsIn PySem.F.slot_dict_get (dd I3).typeIs PySem.F.entry_dict_get (PySem.F.args_dict_get_3 _ _ _) (meets_dict_get_default (mixKind X.prog X.w) a (kV_is ry) hsys fv) ⟨_, (dd I3).mapOf, ⟨_, H3, I3.tok _, ?_, q3⟩⟩
  exact (rel.val k).getD rz
end
/-! ### what stands in a row of arguments, by its form (rfl on the spot unfolds what lies deep within) -/
section
variable {env : Env} {rest : List Expr} {pos : Pos}
theorem star_tup {es : List Expr} {k : Nat} : starEach (.Tuple es k pos :: rest) env = (false, eval (.Tuple es k pos) env) :: starEach rest env := rfl
theorem star_cst {c : Const} {j : Nat} : starEach (.Constant c j pos :: rest) env = (false, eval (.Constant c j pos) env) :: starEach rest env := rfl
theorem star_nm {x : Str} : starEach (.Name x pos :: rest) env = (false, eval (.Name x pos) env) :: starEach rest env := rfl
theorem star_un {a : Expr} {o : UnaryOp} : starEach (.UnaryOp o a pos :: rest) env = (false, eval (.UnaryOp o a pos) env) :: starEach rest env := rfl
theorem star_lst {es : List Expr} : starEach (.List es pos :: rest) env = (false, eval (.List es pos) env) :: starEach rest env := rfl
theorem star_call {g : Expr} {es : List Expr} {ks : List Keyword} : starEach (.Call g es ks pos :: rest) env = (false, eval (.Call g es ks pos) env) :: starEach rest env := rfl
theorem star_bin {a b : Expr} {o : Operator} : starEach (.BinOp a o b pos :: rest) env = (false, eval (.BinOp a o b pos) env) :: starEach rest env := rfl
theorem star_sub {a b : Expr} : starEach (.Subscript a b pos :: rest) env = (false, eval (.Subscript a b pos) env) :: starEach rest env := rfl
theorem star_comp {a : Expr} {gs : List Comprehension} {sc : Scope} : starEach (.ListComp a gs sc pos :: rest) env = (false, eval (.ListComp a gs sc pos) env) :: starEach rest env := rfl
theorem star_cmp {a : Expr} {os : List CmpOp} {es : List Expr} : starEach (.Compare a os es pos :: rest) env = (false, eval (.Compare a os es pos) env) :: starEach rest env := rfl
end
section
variable {X : Cx} {pos : Pos} {es : List Expr} {te : TE} {t : TA}
theorem pa_tup {es' : List Expr} {k : Nat} (ha : PE X (.Tuple es' k pos) te) (hr : PA X es t) : PA X (.Tuple es' k pos :: es) (tCons te t) := pa_cons ha hr star_tup
theorem pa_cst {c : Const} {j : Nat} (ha : PE X (.Constant c j pos) te) (hr : PA X es t) : PA X (.Constant c j pos :: es) (tCons te t) := pa_cons ha hr star_cst
theorem pa_nm {x : Str} (ha : PE X (.Name x pos) te) (hr : PA X es t) : PA X (.Name x pos :: es) (tCons te t) := pa_cons ha hr star_nm
theorem pa_un {a : Expr} {o : UnaryOp} (ha : PE X (.UnaryOp o a pos) te) (hr : PA X es t) : PA X (.UnaryOp o a pos :: es) (tCons te t) := pa_cons ha hr star_un
theorem pa_lst {es' : List Expr} (ha : PE X (.List es' pos) te) (hr : PA X es t) : PA X (.List es' pos :: es) (tCons te t) := pa_cons ha hr star_lst
theorem pa_call {g : Expr} {es' : List Expr} {ks : List Keyword} (ha : PE X (.Call g es' ks pos) te) (hr : PA X es t) : PA X (.Call g es' ks pos :: es) (tCons te t) := pa_cons ha hr star_call
theorem pa_bin {a b : Expr} {o : Operator} (ha : PE X (.BinOp a o b pos) te) (hr : PA X es t) : PA X (.BinOp a o b pos :: es) (tCons te t) := pa_cons ha hr star_bin
theorem pa_sub {a b : Expr} (ha : PE X (.Subscript a b pos) te) (hr : PA X es t) : PA X (.Subscript a b pos :: es) (tCons te t) := pa_cons ha hr star_sub
theorem pa_comp {a : Expr} {gs : List Comprehension} {sc : Scope} (ha : PE X (.ListComp a gs sc pos) te) (hr : PA X es t) : PA X (.ListComp a gs sc pos :: es) (tCons te t) := pa_cons ha hr star_comp
theorem pa_cmp {a : Expr} {os : List CmpOp} {es' : List Expr} (ha : PE X (.Compare a os es' pos) te) (hr : PA X es t) : PA X (.Compare a os es' pos :: es) (tCons te t) := pa_cons ha hr star_cmp
end
/-! ### the same under a lid: what is nested deep is not looked into again and again -/
structure QE (X : Cx) (e : Expr) (t : TE) : Prop where
  ok : PE X e t
structure QA (X : Cx) (es : List Expr) (t : TA) : Prop where
  ok : PA X es t
section
variable {X : Cx} {pos : Pos} {e : Expr} {es : List Expr} {te : TE} {t : TA}
theorem qe_any (h : PE X e te) : QE X e te := ⟨h⟩
theorem qe_str {x : Str} {j : Nat} : QE X (.Constant (.str x) j pos) (tC (.str x)) := ⟨pe_str⟩
theorem qe_int {i : Int} {j : Nat} : QE X (.Constant (.int i) j pos) (tC (.int i)) := ⟨pe_int⟩
theorem qe_tup {k : Nat} (h : QA X es t) : QE X (.Tuple es k pos) (tTup t) := ⟨pe_tup h.ok⟩
theorem qe_lst (h : QA X es t) : QE X (.List es pos) (tLst t) := ⟨pe_lst h.ok⟩
theorem qa_nil : QA X [] tNil := ⟨pa_nil⟩
theorem qa_tup {es' : List Expr} {k : Nat} (ha : QE X (.Tuple es' k pos) te) (hr : QA X es t) : QA X (.Tuple es' k pos :: es) (tCons te t) := ⟨pa_tup ha.ok hr.ok⟩
theorem qa_cst {c : Const} {j : Nat} (ha : QE X (.Constant c j pos) te) (hr : QA X es t) : QA X (.Constant c j pos :: es) (tCons te t) := ⟨pa_cst ha.ok hr.ok⟩
theorem qa_nm {x : Str} (ha : QE X (.Name x pos) te) (hr : QA X es t) : QA X (.Name x pos :: es) (tCons te t) := ⟨pa_nm ha.ok hr.ok⟩
theorem qa_un {a : Expr} {o : UnaryOp} (ha : QE X (.UnaryOp o a pos) te) (hr : QA X es t) : QA X (.UnaryOp o a pos :: es) (tCons te t) := ⟨pa_un ha.ok hr.ok⟩
theorem qa_lst {es' : List Expr} (ha : QE X (.List es' pos) te) (hr : QA X es t) : QA X (.List es' pos :: es) (tCons te t) := ⟨pa_lst ha.ok hr.ok⟩
theorem qa_call {g : Expr} {es' : List Expr} {ks : List Keyword} (ha : QE X (.Call g es' ks pos) te) (hr : QA X es t) : QA X (.Call g es' ks pos :: es) (tCons te t) := ⟨pa_call ha.ok hr.ok⟩
theorem qa_bin {a b : Expr} {o : Operator} (ha : QE X (.BinOp a o b pos) te) (hr : QA X es t) : QA X (.BinOp a o b pos :: es) (tCons te t) := ⟨pa_bin ha.ok hr.ok⟩
theorem qa_sub {a b : Expr} (ha : QE X (.Subscript a b pos) te) (hr : QA X es t) : QA X (.Subscript a b pos :: es) (tCons te t) := ⟨pa_sub ha.ok hr.ok⟩
end
structure QS (X : Cx) (st : Stmt) (t : TS) : Prop where
  ok : PS X st t
structure QSs (X : Cx) (st : List Stmt) (t : TS) : Prop where
  ok : PSs X st t
section
variable {X : Cx} {pos : Pos} {a b e tg iter : Expr} {es : List Expr} {ta tb' te : TE} {t : TA} {st : Stmt} {sts : List Stmt} {u v tb : TS}
theorem qe_ix {r : R2} (hr : IxR X r) (ha : QE X a ta) (hb : QE X b tb') (hs : PlainIx b) : QE X (.Subscript a b pos) (tOp r ta tb') := ⟨pe_ix hr ha.ok hb.ok hs⟩
theorem qs_any (h : PS X st u) : QS X st u := ⟨h⟩
theorem qs_set {i : Nat} {x : Str} {pos' : Pos} (hN : X.N.Nodup) (hi : X.N[i]? = some x) (hx : Loc X.env.scope x) (he : QE X e te) (hs : swapsWith e (some (.Name x pos')) pos.line X.env = pure false := by rfl) (hf : X.fn x = true ∨ X.env.scope.names.lookup x = some .local := by first | exact .inl rfl | exact .inr rfl | assumption) :
    QS X (.Assign [.Name x pos'] e pos) (tAsg te (gName i)) := ⟨ps_set hN hi hx he.ok hs hf⟩
theorem qss_one (h : QS X st u) : QSs X [st] u := ⟨pss_one h.ok⟩
theorem qss_cons (h1 : QS X st u) (h2 : QSs X sts v) : QSs X (st :: sts) (tSeq u v) := ⟨pss_cons h1.ok h2.ok⟩
theorem qs_for {wi : TI} {g : TG} (hp : PassesOwn (model X.prog X.w) X.A X.env X.xe) (hc : X.calm = true) (hi : PI X tg iter wi) (hg : PG X tg g) (hb : QSs X sts tb)
    (hs : ∀ x, foldedSetIterable iter X.env x = pure x := by intro _; rfl) : QS X (.For tg iter sts [] pos) (tFor wi g tb) := ⟨ps_for hp hc hi hg hb.ok hs⟩
end
end L2

set_option Elab.async false
set_option linter.all false
set_option maxRecDepth 100000
set_option maxHeartbeats 4000000
namespace L2
open PySem PySem.Spec PyProof.Rows
/-! ### enumerate of a list -/
def Ite (K : PySem.W.Frag) (a : Addr) : It :=
  ⟨fun i H => ∃ xs x, SqL K H a xs ∧ xs[i]? = some x,
   fun i H v H' => ∃ p x, v = .ref p ∧ H p = none ∧ H' = upd H p (.tup [.int (i : Nat), x]) ∧ ∀ xs, SqL K H a xs → xs[i]? = some x,
   fun i H => ∃ xs, SqL K H a xs ∧ xs.length ≤ i⟩
theorem turn_enum {P : Program} {w : World} {K : PySem.W.Frag} {elts : List Expr} {k0 : Nat} {pos0 : Pos} {e it a : Addr} (hei : e ≠ it) :
    Turn P w K (.Tuple elts k0 pos0) (Ite K a) [e, it] e (fun i h => (∃ old, IsEnum h e it i old) ∧ h.IsListIter it a i) where
  mem := by simp
  obj := fun i h st c hc => by
    obtain ⟨⟨old, ge⟩, ⟨o1, e1, _, d1⟩⟩ := st
    simp only [List.mem_cons, List.not_mem_nil, or_false] at hc
    rcases hc with rfl | rfl
    · exact ⟨_, ge, fun v q => by cases q⟩
    · exact ⟨_, e1, fun v q => by rw [d1] at q; cases q⟩
  keep := fun i h h' st k => by
    obtain ⟨⟨old, ge⟩, g1⟩ := st
    exact ⟨⟨old, k e (by simp) _ ge⟩, g1.at fun o q => k it (by simp) o q⟩
  item := by
    intro X hP hw hK hc i pins s σ H E I hf st hg
    subst hP hw hK
    obtain ⟨⟨old, ge⟩, g1⟩ := st
    obtain ⟨xs, x, hqa, hx⟩ := hg
    obtain ⟨ia, ra, pa, za⟩ := I.list hqa
    obtain ⟨u, hu, ru⟩ := ra.get hx
    refine wpAny_pyNext_enum_item ge g1 pa.isList (x := u) (by simpa using hu) hei fun g a1 a2 a3 a4 a5 => ?_
    refine ⟨_, rfl, wpAny_letOwnedTupleGo_enum (s := { s with heap := g, toks := s.toks + 1 }) a1 fun g' z' q' => ?_⟩
    have kk : ∀ c o, c ∉ [e, it] → s.heap.get? c = some o → g'.get? c = some o := fun c o hc q => by
      simp only [List.mem_cons, List.not_mem_nil, or_false, not_or] at hc
      exact (q'.2 c hc.1).trans (a5 c o hc.1 hc.2 q)
    have I1 : Inv X pins σ H { s with heap := g', toks := s.toks + 1 } := I.turnedL kk hf
    have f0 : FpOk X pins H s.heap.objs.size := I.fpOk (Nat.le_refl _) (I.hok.fresh (Nat.le_refl _))
    have ne0 : s.heap.objs.size ≠ e := Nat.ne_of_gt (Heap.lt_size ge)
    have eT : IsTup g' s.heap.objs.size [Value.int i s.toks, u].toArray := ⟨_, (q'.2 _ ne0).trans a3, rfl, _, rfl⟩
    have I2 := I1.trackT (ys := [.int i, x]) f0 eT (.cons ⟨_, rfl⟩ (.cons ru .nil)) (by show 2 ≤ sizeLine; decide)
    refine ⟨.ref s.heap.objs.size, _, I2, rfl, ⟨s.heap.objs.size, x, rfl, f0.1, rfl, fun xs' h1 => by rw [I.list_inj h1 hqa]; exact hx⟩, ⟨⟨u, by simpa using z'⟩, a2.at fun o q => (q'.2 it hei.symm).trans q⟩, fun c hc => ?_⟩
    have hlt : c < s.heap.objs.size := by
      obtain ⟨o1, e1, _⟩ := g1
      simp only [List.mem_cons, List.not_mem_nil, or_false] at hc
      rcases hc with rfl | rfl
      · exact Heap.lt_size ge
      · exact Heap.lt_size e1
    rw [upd_ne (Nat.ne_of_lt hlt)]
    exact (hf c hc).1
  done := by
    intro X hP hw hK hc i pins s σ H E I hf st hg
    subst hP hw hK
    obtain ⟨⟨old, ge⟩, g1⟩ := st
    obtain ⟨xs, hqa, hl⟩ := hg
    obtain ⟨ia, ra, pa, za⟩ := I.list hqa
    have la := ra.length
    refine wpAny_pyNext_enum_end (I.ok.hd hc) ge g1 pa.isList (by simp; omega) fun g kk => ⟨rfl, I.turnedL (t' := s.toks) (fun c o hc q => ?_) hf⟩
    simp only [List.mem_cons, List.not_mem_nil, or_false, not_or] at hc
    exact kk c o hc.2 q
  self := fun _ _ _ _ _ st h => by
    obtain ⟨⟨old, ge⟩, _⟩ := st
    exact wpAny_pyIter_enum ge h
section
variable {X : Cx}
def iEnum (K : PySem.W.Frag) (ta : TA) : TI := fun σ H R => ta σ H fun vs H1 => ∃ a, vs = [.ref a] ∧ (∃ xs, SqL K H1 a xs) ∧ R (Ite K a) H1
theorem pi_enum {elts : List Expr} {k0 : Nat} {pos0 : Pos} {a : Expr} {ta : TA} {p pos : Pos} (hg : Gl X "enumerate") (hm : X.mg "enumerate" = none) (hv : bootBuiltins "enumerate" = some (.type "enumerate")) (ha : PA X [a] ta)
    (hs : starEach [a] X.env = [(false, eval a X.env)] := by rfl) : PI X (.Tuple elts k0 pos0) (.Call (.Name "enumerate" p) [a] [] pos) (iEnum X.K ta) := by
  intro pins s σ H R I h
  refine Call_ (ld_blt I hg hm hv (PyProof.Rows.callWith_type1 (thn (ha pos pins s σ H _ I h) fun us s1 ⟨vs, H1, I1, r1, q1⟩ => ?_) hs rfl))
  obtain ⟨a, e, ⟨xs, qa⟩, q⟩ := q1
  subst e
  obtain ⟨u, rfl, ru⟩ := vals1 r1
  cases ru
  obtain ⟨ia, ra, pa, za⟩ := I1.list qa
  refine call_enumerate_list pa.isList fun g ge g1 gz kk => ?_
  refine wpAny_pyIter_enum (s := { s1 with heap := g }) ge ?_
  refine ⟨_, [s1.heap.objs.size + 1, s1.heap.objs.size], _, _, H1, rfl, I1.kept (t' := s1.toks) kk, turn_enum (Nat.succ_ne_self _), ⟨⟨_, ge⟩, g1⟩, fun c hc => ?_, q⟩
  have hle : s1.heap.objs.size ≤ c := by
    simp only [List.mem_cons, List.not_mem_nil, or_false] at hc
    rcases hc with rfl | rfl
    · exact Nat.le_add_right _ _
    · exact Nat.le_refl _
  exact I1.fpOk hle (I1.hok.fresh hle)
theorem comp_enum {K : PySem.W.Frag} {a : Addr} {xs : List V} {H : Hp} {g : TG} {tc : TT} {te : TE} {own : Nat} {σ' : St} {fin : List V → Hp → Prop} (Pv : Nat → List V → Hp → Prop) (h0 : Pv 0 [] H)
    (hl : ∀ i zs H, i ≤ xs.length → Pv i zs H → SqL K H a xs ∧ zs.length ≤ sizeLine)
    (hs : ∀ i x p zs H, xs[i]? = some x → Pv i zs H → H p = none → g (.ref p) σ' (upd H p (.tup [.int (i : Nat), x])) fun σ2 H2 => σ2.drop own = σ'.drop own ∧ tc σ2 H2 fun b H3 => if b = true then te σ2 H3 fun y H4 => Pv (i + 1) (zs ++ [y]) H4 else Pv (i + 1) zs H3)
    (hd : ∀ zs H, Pv xs.length zs H → fin zs H) : CompW (Ite K a) g tc te own σ' fin H := by
  refine ⟨fun i m zs H => m = xs.length - i ∧ i ≤ xs.length ∧ Pv i zs H, ⟨xs.length, by simp, Nat.zero_le _, h0⟩, ?_⟩
  rintro i m zs H ⟨rfl, hi, p⟩
  obtain ⟨qa, hz⟩ := hl i zs H hi p
  by_cases hlt : i < xs.length
  · refine .inr ⟨⟨xs, xs[i], qa, by simp [hlt]⟩, hz, Pv (i + 1), fun zs' H' p' => ⟨xs.length - (i + 1), by omega, rfl, hlt, p'⟩, fun x H' y => ?_⟩
    obtain ⟨p2, x2, e, hn, e', hxy⟩ := y
    subst e e'
    exact hs i x2 p2 zs H (hxy xs qa) p hn
  · have e : i = xs.length := by omega
    subst e
    exact .inl ⟨⟨xs, qa, Nat.le_refl _⟩, hz, hd zs H p⟩
theorem for_enum {K : PySem.W.Frag} {a : Addr} {xs : List V} {g : TG} {tb : TS} {D : Ends} {σ : St} {H : Hp} (Pv : Nat → St → Hp → Prop) (h0 : Pv 0 σ H) (hl : ∀ i σ H, i ≤ xs.length → Pv i σ H → SqL K H a xs)
    (hs : ∀ i x p σ H, xs[i]? = some x → Pv i σ H → H p = none → g (.ref p) σ (upd H p (.tup [.int (i : Nat), x])) fun σ2 H2 => tb { D with nx := Pv (i + 1), ct := Pv (i + 1), bk := D.nx } σ2 H2) (hd : ∀ σ H, Pv xs.length σ H → D.nx σ H) :
    ∃ W : Nat → Nat → St → Hp → Prop, (∃ m, W 0 m σ H) ∧ ∀ i m σ H, W i m σ H →
      ((Ite K a).stop i H ∧ D.nx σ H) ∨ ((Ite K a).go i H ∧ ∃ N : St → Hp → Prop, (∀ σ' H', N σ' H' → ∃ m', m' < m ∧ W (i + 1) m' σ' H') ∧ ∀ x H', (Ite K a).yld i H x H' → g x σ H' fun σ2 H2 => tb { D with nx := N, ct := N, bk := D.nx } σ2 H2) := by
  refine ⟨fun i m σ H => m = xs.length - i ∧ i ≤ xs.length ∧ Pv i σ H, ⟨xs.length, by simp, Nat.zero_le _, h0⟩, ?_⟩
  rintro i m σ H ⟨rfl, hi, p⟩
  have q := hl i σ H hi p
  by_cases hlt : i < xs.length
  · refine .inr ⟨⟨xs, xs[i], q, by simp [hlt]⟩, Pv (i + 1), fun σ' H' p' => ⟨xs.length - (i + 1), by omega, rfl, hlt, p'⟩, fun x H' y => ?_⟩
    obtain ⟨p2, x2, e, hn, e', hxy⟩ := y
    subst e e'
    exact hs i x2 p2 σ H (hxy xs q) p hn
  · have e : i = xs.length := by omega
    subst e
    exact .inl ⟨⟨xs, q, Nat.le_refl _⟩, hd σ H p⟩
theorem ix_tupK {K : PySem.W.Frag} (hK : X.K = K) : IxR X (rIxT K) := by
  subst hK
  exact ix_tup
end
end L2

set_option Elab.async false
set_option linter.all false
set_option maxRecDepth 100000
set_option maxHeartbeats 4000000
/-! ### a dict of the module by its written object: texts to numbers -/
namespace L2
open PySem PySem.Spec PyProof.Rows
theorem hash_key (w : World) (x : Str) : PyData.keyHash w.params x = hashStr w x := rfl
abbrev kdE (w : World) (x : Str × Int × Tok × Tok) : DictEntry := ⟨PyData.keyHash w.params x.1, .str x.1 x.2.2.1, .int x.2.1 x.2.2.2⟩
theorem kd_obj (P : Program) (w : World) (xs : List (Str × Int × Tok × Tok)) (ep : Nat) (nd : (xs.map (·.1)).Nodup) :
    ∃ vs, KV (xs.map fun x => ((Sum.inr x.1 : Key), V.int x.2.1)) vs ∧ Obj.IsDictOf (mixKind P w) { cls := .type "dict", data := .dict (xs.map (kdE w)).toArray ep } vs := by
  refine ⟨xs.map fun x => ((Sum.inr x.1 : Key), Value.int x.2.1 x.2.2.2), ?_, (xs.map (kdE w)).toArray, ep, ⟨rfl, rfl, rfl⟩, rfl, ?_, ?_, ?_⟩
  · induction xs with
    | nil => exact .nil
    | cons x xs ih => exact .cons ⟨rfl, _, rfl⟩ (ih (by simpa using (List.nodup_cons.mp (by simpa using nd)).2))
  · intro e he
    have he' : e ∈ xs.map (kdE w) := by simpa using he
    obtain ⟨x, _, rfl⟩ := List.mem_map.mp he'
    exact ⟨Sum.inr x.1, keyIs_str x.1 x.2.2.1, hash_key w x.1⟩
  · have key : ∀ ys : List (Str × Int × Tok × Tok), Pairs (mixKind P w) (ys.map (kdE w)) (ys.map fun x => ((Sum.inr x.1 : Key), Value.int x.2.1 x.2.2.2)) := by
      intro ys
      induction ys with
      | nil => exact .nil
      | cons y ys ih => exact .cons (keyIs_str y.1 y.2.2.1) rfl ih
    exact key xs
  · rw [List.map_map]
    have e : ((fun x : Key × Value => x.1) ∘ fun x : Str × Int × Tok × Tok => ((Sum.inr x.1 : Key), Value.int x.2.1 x.2.2.2)) = fun x => Sum.inr x.1 := rfl
    have key : ∀ ys : List (Str × Int × Tok × Tok), (ys.map (·.1)).Nodup → (ys.map fun x => (Sum.inr x.1 : Key)).Nodup := by
      intro ys
      induction ys with
      | nil => intro _; exact List.nodup_nil
      | cons y ys ih =>
        intro h
        rw [List.map_cons, List.nodup_cons] at h ⊢
        refine ⟨fun hm => h.1 ?_, ih h.2⟩
        obtain ⟨z, hz, e⟩ := List.mem_map.mp hm
        have e' : z.1 = y.1 := Sum.inr.inj e
        exact List.mem_map.mpr ⟨z, hz, e'⟩
    exact key xs nd
end L2

set_option Elab.async false
set_option linter.all false
set_option maxRecDepth 100000
set_option maxHeartbeats 4000000
namespace Wd
open PySem L2 PyProof.Rows
def abc : Str := "abcdefghijklmnopqrstuvwxyz"
def keptS : List Str := ["jars", "deed", "rest", "pay", "put", "then", "either", "take", "often", "use"]
def keptV : List V := keptS.map V.str
theorem abc_at : ∀ i, i < 26 → abc.cps.toList[i]? = some (97 + i) := by decide +kernel
theorem abc_len : abc.length ≤ sizeLine ∧ abc.cps.toList.length = 26 := by decide +kernel
theorem abc_ix : ∀ i, i < 26 → Builtin.Str.occurrences abc (sgn (97 + i)) 0 abc.length 1 = [i] := by decide +kernel
theorem sub_len {α : Type} [BEq α] [LawfulBEq α] : ∀ {xs ys : List α}, xs.Nodup → (∀ x ∈ xs, x ∈ ys) → xs.length ≤ ys.length
  | [], ys, _, _ => Nat.zero_le _
  | x :: xs, ys, nd, h => by
    have hx := h x (List.mem_cons_self ..)
    have q := sub_len (xs := xs) (ys := ys.erase x) (List.nodup_cons.mp nd).2 fun y hy => by
      have ne : y ≠ x := fun e => (List.nodup_cons.mp nd).1 (e ▸ hy)
      exact (List.mem_erase_of_ne ne).mpr (h y (List.mem_cons_of_mem _ hy))
    rw [List.length_erase_of_mem hx] at q
    have := List.length_pos_of_mem hx
    rw [List.length_cons]
    omega
/-- the word of letter i and rest r -/
def cand (r : List Nat) (i : Nat) : Str := ⟨((97 + i % 26) :: r).toArray⟩
theorem cand_inj {r : List Nat} {i j : Nat} (h : cand r i = cand r j) : i % 26 = j % 26 := by
  have e : (((97 + i % 26) :: r).toArray).toList = (((97 + j % 26) :: r).toArray).toList := congrArg (fun z : Str => z.cps.toList) h
  simp only [List.cons.injEq] at e
  omega
theorem cand_nodup (r : List Nat) (c : Nat) : ((List.range 26).map fun i => cand r (c + i)).Nodup := by
  refine List.pairwise_map.mpr (List.Pairwise.imp_of_mem (R := (· ≠ ·)) ?_ List.nodup_range)
  intro a b ha hb ne e
  have h1 := List.mem_range.mp ha
  have h2 := List.mem_range.mp hb
  have h3 := cand_inj e
  omega
theorem cand_free (r : List Nat) (c : Nat) (bad : List Str) (h : bad.length < 26) : ∃ j, j < 26 ∧ cand r (c + j) ∉ bad := by
  refine Classical.byContradiction fun no => ?_
  have q := sub_len (cand_nodup r c) (ys := bad) fun x hx => by
    obtain ⟨j, hj, rfl⟩ := List.mem_map.mp hx
    exact Classical.byContradiction fun z => no ⟨j, List.mem_range.mp hj, z⟩
  rw [List.length_map, List.length_range] at q
  omega
theorem inV_str {z : Str} {ys : List Str} : inV (.str z) (ys.map V.str) = true ↔ z ∈ ys := by
  unfold inV
  rw [List.any_map, List.any_eq_true]
  constructor
  · rintro ⟨y, hy, e⟩
    have e' : (y == z) = true := e
    exact (eq_of_beq e') ▸ hy
  · intro h
    exact ⟨z, h, beq_self_eq_true z⟩
theorem flat_str (ys : List Str) : (ys.map V.str).all flatV = true := by
  rw [List.all_map, List.all_eq_true]
  intro y _
  rfl
/-- a word: one to six small letters -/
structure IsW (z : Str) : Prop where
  ne : z.cps.toList ≠ []
  le : z.cps.toList.length ≤ 6
  sm : ∀ c ∈ z.cps.toList, 97 ≤ c ∧ c ≤ 122
theorem IsW.cand {z : Str} (h : IsW z) : ∃ i r, z = Wd.cand r i ∧ i < 26 ∧ r.length ≤ 5 ∧ ∀ c ∈ r, 97 ≤ c ∧ c ≤ 122 := by
  obtain ⟨⟨⟨l⟩⟩, ne, le, sm⟩ : ∃ z', _ ∧ _ ∧ _ := ⟨z, h.ne, h.le, h.sm⟩
  obtain ⟨⟨l⟩⟩ := z
  cases l with
  | nil => exact absurd rfl h.ne
  | cons c r =>
    have q := h.sm c (List.mem_cons_self ..)
    refine ⟨c - 97, r, ?_, by omega, by have := h.le; simp at this; omega, fun d hd => h.sm d (List.mem_cons_of_mem _ hd)⟩
    unfold Wd.cand
    rw [show 97 + (c - 97) % 26 = c by omega]
theorem isW_cand {r : List Nat} (h : r.length ≤ 5) (hs : ∀ c ∈ r, 97 ≤ c ∧ c ≤ 122) (i : Nat) : IsW (cand r i) := by
  refine ⟨by simp [cand], by simp [cand]; omega, fun c hc => ?_⟩
  have hc' : c ∈ (97 + i % 26) :: r := hc
  rcases List.mem_cons.mp hc' with e | e
  · omega
  · exact hs c e
theorem IsW.len {z : Str} (h : IsW z) : z.length ≤ 6 := by have q := h.le; rw [Array.length_toList] at q; exact q
theorem IsW.line {z : Str} (h : IsW z) : z.length ≤ sizeLine := Nat.le_trans h.len (by decide)
theorem cand_zero (r : List Nat) (i : Nat) : atI (cand r i).cps.toList 0 = some (97 + i % 26) := atI_nat (j := 0) rfl
theorem cand_rest (r : List Nat) (i : Nat) : Txt.slice (cand r i) (some 1) none = ⟨r.toArray⟩ := by
  have e : Txt.slice (cand r i) (some 1) none = StrLaws.sliceText (cand r i) (some 1) none := rfl
  rw [e, StrLaws.sliceText_from ⟨by decide, by simp [cand]; omega⟩]
  simp [cand]
theorem cand_next (r : List Nat) (i : Nat) : (sgn (97 + (i + 1) % 26) : Str) ++ (⟨r.toArray⟩ : Str) = cand r (i + 1) := by
  refine Str.ext' ?_
  show #[97 + (i + 1) % 26] ++ r.toArray = _
  simp [cand]
theorem at_abc (i : Nat) : atI abc.cps.toList ((i % 26 : Nat) : Int) = some (97 + i % 26) := atI_nat (abc_at _ (Nat.mod_lt _ (by decide)))
/-- the text of signs -/
theorem join_signs (cs : List Nat) : Txt.join "" (cs.map sgn) = ⟨cs.toArray⟩ := by
  have q := join_nil_signs ⟨cs.toArray⟩
  have e : Txt.join "" (cs.map sgn) = Str.join ⟨#[]⟩ (cs.map sgn) := StrLaws.glued_eq_join _ _
  rw [e]
  exact q
theorem sum_sgn (cs : List Nat) : ((cs.map sgn).map (·.length)).sum = cs.length := by
  induction cs with
  | nil => rfl
  | cons c r ih => rw [List.map_cons, List.map_cons, List.sum_cons, ih, List.length_cons]; show 1 + r.length = _; omega
/-- a core with a letter put in is a word -/
theorem isW_put {cs : List Nat} {a i : Nat} (h : cs.length ≤ 5) (hs : ∀ c ∈ cs, 97 ≤ c ∧ c ≤ 122) (ha : a ≤ cs.length) (hi : i < 26) :
    IsW (Txt.slice ⟨cs.toArray⟩ none (some (a : Int)) ++ (sgn (97 + i) : Str) ++ Txt.slice ⟨cs.toArray⟩ (some (a : Int)) none) ∧ (Txt.slice ⟨cs.toArray⟩ none (some (a : Int))).length ≤ 5 ∧ (Txt.slice ⟨cs.toArray⟩ (some (a : Int)) none).length ≤ 5 := by
  have e1 : Txt.slice ⟨cs.toArray⟩ none (some (a : Int)) = ⟨(cs.take a).toArray⟩ := by
    have e : Txt.slice ⟨cs.toArray⟩ none (some (a : Int)) = StrLaws.sliceText ⟨cs.toArray⟩ none (some (a : Int)) := rfl
    rw [e, StrLaws.sliceText_to ⟨by omega, by simp; omega⟩]
    simp
  have e2 : Txt.slice ⟨cs.toArray⟩ (some (a : Int)) none = ⟨(cs.drop a).toArray⟩ := by
    have e : Txt.slice ⟨cs.toArray⟩ (some (a : Int)) none = StrLaws.sliceText ⟨cs.toArray⟩ (some (a : Int)) none := rfl
    rw [e, StrLaws.sliceText_from ⟨by omega, by simp; omega⟩]
    refine Str.ext' ?_
    show ((cs.drop (a : Int).toNat).take ((cs.length : Int) - a).toNat).toArray = (cs.drop a).toArray
    rw [Int.toNat_natCast, List.take_of_length_le (by rw [List.length_drop]; omega)]
  rw [e1, e2]
  have e3 : ((⟨(cs.take a).toArray⟩ : Str) ++ (sgn (97 + i) : Str) ++ (⟨(cs.drop a).toArray⟩ : Str)).cps.toList = cs.take a ++ [97 + i] ++ cs.drop a := by
    show ((cs.take a).toArray ++ #[97 + i] ++ (cs.drop a).toArray).toList = _
    simp
  refine ⟨⟨by rw [e3]; simp, by rw [e3]; simp; omega, fun c hc => ?_⟩, ?_, ?_⟩
  · rw [e3] at hc
    rcases List.mem_append.mp hc with hc | hc
    · rcases List.mem_append.mp hc with hc | hc
      · exact hs c (List.mem_of_mem_take hc)
      · rw [List.mem_singleton.mp hc]; omega
    · exact hs c (List.mem_of_mem_drop hc)
  · show (cs.take a).toArray.size ≤ 5
    rw [List.size_toArray, List.length_take]; omega
  · show (cs.drop a).toArray.size ≤ 5
    rw [List.size_toArray, List.length_drop]; omega
end Wd

namespace M3
/-- the pair in lowest terms, the bottom above nought -/
def lowT (t b : Int) : Int := (if b < 0 then -t else t) / (Int.gcd t b : Int)
def lowB (t b : Int) : Int := (if b < 0 then -b else b) / (Int.gcd t b : Int)
theorem gcd_pos {t b : Int} (h : b ≠ 0) : 0 < Int.gcd t b := Nat.gcd_pos_of_pos_right _ (by omega)
theorem gcd_le {t b : Int} (h : b ≠ 0) : (Int.gcd t b : Int) ≤ b.natAbs := by
  have q : Nat.gcd t.natAbs b.natAbs ≤ b.natAbs := Nat.gcd_le_right _ (by omega)
  have e : Int.gcd t b = Nat.gcd t.natAbs b.natAbs := rfl
  omega
theorem gcd_flip (t b : Int) : Int.gcd (-t) (-b) = Int.gcd t b := by rw [Int.gcd_neg, Int.neg_gcd]
/-- what the gcd goes into -/
theorem parts (t b : Int) : ∃ x y : Int, t = (Int.gcd t b : Int) * x ∧ b = (Int.gcd t b : Int) * y := by
  obtain ⟨x, hx⟩ := Int.gcd_dvd_left t b
  obtain ⟨y, hy⟩ := Int.gcd_dvd_right t b
  exact ⟨x, y, hx, hy⟩
theorem low_eq {t b x y g : Int} (hg : g = (Int.gcd t b : Int)) (h : b ≠ 0) (ht : t = g * x) (hb : b = g * y) : lowT t b = (if y < 0 then -x else x) ∧ lowB t b = (if y < 0 then -y else y) := by
  have gp : 0 < g := by rw [hg]; exact Int.natCast_pos.mpr (gcd_pos h)
  have hy : b < 0 ↔ y < 0 := by
    rw [hb]
    constructor
    · intro q
      by_cases z : y < 0
      · exact z
      · have := Int.mul_nonneg (Int.le_of_lt gp) (Int.not_lt.mp z)
        omega
    · intro q
      exact Int.mul_neg_of_pos_of_neg gp q
  unfold lowT lowB
  rw [← hg]
  by_cases z : y < 0
  · rw [if_pos (hy.mpr z), if_pos (hy.mpr z), if_pos z, if_pos z]
    constructor
    · rw [ht, ← Int.mul_neg, Int.mul_ediv_cancel_left _ (by omega)]
    · rw [hb, ← Int.mul_neg, Int.mul_ediv_cancel_left _ (by omega)]
  · rw [if_neg (fun q => z (hy.mp q)), if_neg (fun q => z (hy.mp q)), if_neg z, if_neg z]
    constructor
    · rw [ht, Int.mul_ediv_cancel_left _ (by omega)]
    · rw [hb, Int.mul_ediv_cancel_left _ (by omega)]
theorem coprime {t b x y : Int} (h : b ≠ 0) (ht : t = (Int.gcd t b : Int) * x) (hb : b = (Int.gcd t b : Int) * y) : Int.gcd x y = 1 := by
  have gp := gcd_pos (t := t) h
  have q : Int.gcd ((Int.gcd t b : Int) * x) ((Int.gcd t b : Int) * y) = (Int.gcd t b : Int).natAbs * Int.gcd x y := Int.gcd_mul_left _ _ _
  rw [← ht, ← hb, Int.natAbs_natCast] at q
  have q2 : Int.gcd t b * 1 = Int.gcd t b * Int.gcd x y := by omega
  exact (Nat.eq_of_mul_eq_mul_left gp q2).symm
/-- lowest terms -/
structure Low (a b : Int) : Prop where
  pos : 0 < b
  one : Int.gcd a b = 1
theorem low_low {t b : Int} (h : b ≠ 0) : Low (lowT t b) (lowB t b) := by
  obtain ⟨x, y, ht, hb⟩ := parts t b
  have c := coprime h ht hb
  obtain ⟨e1, e2⟩ := low_eq rfl h ht hb
  have y0 : y ≠ 0 := fun z => h (by rw [hb, z, Int.mul_zero])
  rw [e1, e2]
  by_cases z : y < 0
  · rw [if_pos z, if_pos z]
    exact ⟨by omega, by rw [gcd_flip]; exact c⟩
  · rw [if_neg z, if_neg z]
    exact ⟨by omega, c⟩
/-- of the same worth, in lowest terms: the same pair -/
theorem low_unique {a b x y : Int} (L : Low a b) (hy : 0 < y) (e : x * b = a * y) : lowT x y = a ∧ lowB x y = b := by
  have b0 := L.pos
  have d1 : b.natAbs ∣ a.natAbs * y.natAbs := by
    rw [← Int.natAbs_mul, ← e, Int.natAbs_mul]
    exact Nat.dvd_mul_left _ _
  have c : Nat.Coprime b.natAbs a.natAbs := by
    show Nat.gcd b.natAbs a.natAbs = 1
    rw [Nat.gcd_comm]
    exact L.one
  obtain ⟨k, hk⟩ := Int.natAbs_dvd_natAbs.mp (c.dvd_of_dvd_mul_left d1)
  have k0 : 0 < k := by
    by_cases z : 0 < k
    · exact z
    · have := Int.mul_nonneg (Int.le_of_lt b0) (show 0 ≤ -k by omega)
      rw [Int.mul_neg] at this
      omega
  have hx : x = a * k := by
    have q : x * b = a * k * b := by rw [e, hk, Int.mul_assoc, Int.mul_comm k b]
    exact Int.eq_of_mul_eq_mul_right (by omega) q
  have g : (Int.gcd x y : Int) = k := by
    rw [hx, hk, Int.gcd_mul_right, L.one, Nat.one_mul]
    omega
  have q := low_eq (g := k) (x := a) (y := b) (t := x) (b := y) g.symm (by omega) (by rw [hx, Int.mul_comm]) (by rw [hk, Int.mul_comm])
  rw [if_neg (by omega), if_neg (by omega)] at q
  exact q
theorem low_self {a b : Int} (L : Low a b) : lowT a b = a ∧ lowB a b = b := low_unique L L.pos rfl
/-- with the top and the bottom as they come: worth -/
theorem low_worth {t b : Int} (h : b ≠ 0) : lowT t b * b = t * lowB t b := by
  obtain ⟨x, y, ht, hb⟩ := parts t b
  obtain ⟨e1, e2⟩ := low_eq rfl h ht hb
  rw [e1, e2]
  have q : x * b = t * y := by
    have e3 : x * ((Int.gcd t b : Int) * y) = (Int.gcd t b : Int) * x * y := by rw [← Int.mul_assoc, Int.mul_comm x]
    rw [← ht, ← hb] at e3
    exact e3
  by_cases z : y < 0
  · rw [if_pos z, if_pos z, Int.neg_mul, Int.mul_neg, q]
  · rw [if_neg z, if_neg z]
    exact q
theorem cancel {g x y : Int} (h : g ≠ 0) (e : x * g = y * g) : x = y := Int.eq_of_mul_eq_mul_right h e
/-- (a/b + c/d) - c/d -/
theorem plus_minus {a b c d : Int} (L : Low a b) (M : Low c d) : 
    lowT (lowT (a * d + c * b) (b * d) * d - c * lowB (a * d + c * b) (b * d)) (lowB (a * d + c * b) (b * d) * d) = a ∧ lowB (lowT (a * d + c * b) (b * d) * d - c * lowB (a * d + c * b) (b * d)) (lowB (a * d + c * b) (b * d) * d) = b := by
  have bd : 0 < b * d := Int.mul_pos L.pos M.pos
  have N := low_low (t := a * d + c * b) (b := b * d) (by omega)
  have w := low_worth (t := a * d + c * b) (b := b * d) (by omega)
  refine low_unique L (Int.mul_pos N.pos M.pos) ?_
  generalize lowT (a * d + c * b) (b * d) = p at w ⊢
  generalize lowB (a * d + c * b) (b * d) = q at w ⊢
  have d0 : d ≠ 0 := by have := M.pos; omega
  refine cancel d0 ?_
  have e1 : (p * d - c * q) * b * d = p * (b * d) * d - c * q * b * d := by
    rw [Int.sub_mul, Int.sub_mul]
    congr 1
    rw [Int.mul_assoc p d b, Int.mul_comm d b]
  rw [e1, w, Int.add_mul, Int.add_mul]
  have e2 : c * b * q * d = c * q * b * d := by rw [Int.mul_assoc c b q, Int.mul_comm b q, ← Int.mul_assoc]
  have e3 : a * d * q * d = a * (q * d) * d := by rw [Int.mul_assoc a d q, Int.mul_comm d q]
  rw [e2, e3]
  omega
theorem minus_plus {a b c d : Int} (L : Low a b) (M : Low c d) : 
    lowT (lowT (a * d - c * b) (b * d) * d + c * lowB (a * d - c * b) (b * d)) (lowB (a * d - c * b) (b * d) * d) = a ∧ lowB (lowT (a * d - c * b) (b * d) * d + c * lowB (a * d - c * b) (b * d)) (lowB (a * d - c * b) (b * d) * d) = b := by
  have M' : Low (-c) d := ⟨M.pos, by rw [Int.neg_gcd]; exact M.one⟩
  have q := plus_minus L M'
  have e1 : a * d + -c * b = a * d - c * b := by rw [Int.neg_mul]; omega
  rw [e1] at q
  have e2 : ∀ z : Int, -c * z = -(c * z) := fun z => Int.neg_mul c z
  rw [e2] at q
  have e3 : ∀ y z : Int, y - -z = y + z := fun y z => by omega
  rw [e3] at q
  exact q
/-- the program's division -/
theorem fdiv_low {t b : Int} (h : b ≠ 0) : t.fdiv (if b < 0 then -(Int.gcd t b : Int) else (Int.gcd t b : Int)) = lowT t b ∧ b.fdiv (if b < 0 then -(Int.gcd t b : Int) else (Int.gcd t b : Int)) = lowB t b := by
  have gp : (0 : Int) < (Int.gcd t b : Int) := Int.natCast_pos.mpr (gcd_pos h)
  have d1 := Int.gcd_dvd_left t b
  have d2 := Int.gcd_dvd_right t b
  unfold lowT lowB
  by_cases z : b < 0
  · rw [if_pos z, if_pos z, if_pos z, Int.fdiv_neg (by omega), if_pos d1, Int.fdiv_neg (by omega), if_pos d2, Int.fdiv_eq_ediv_of_dvd d1, Int.fdiv_eq_ediv_of_dvd d2, Int.neg_ediv_of_dvd d1, Int.neg_ediv_of_dvd d2]
    exact ⟨rfl, rfl⟩
  · rw [if_neg z, if_neg z, if_neg z, Int.fdiv_eq_ediv_of_dvd d1, Int.fdiv_eq_ediv_of_dvd d2]
    exact ⟨rfl, rfl⟩
theorem fmod_gcd (x y : Int) : Int.gcd y (x.fmod y) = Int.gcd x y := by
  have q := Int.mul_fdiv_add_fmod x y
  have e : Int.gcd y (x.fmod y + x.fdiv y * y) = Int.gcd y (x.fmod y) := Int.gcd_add_mul_right_right _ _ _
  rw [← e, Int.mul_comm (x.fdiv y) y, Int.add_comm, q, Int.gcd_comm]
theorem fmod_lt {x y : Int} (h : y ≠ 0) : (x.fmod y).natAbs < y.natAbs := by
  by_cases z : 0 < y
  · have q1 := Int.fmod_lt_of_pos x z
    have q2 := Int.fmod_nonneg_of_pos x z
    omega
  · have e : x.fmod y = -((-x).fmod (-y)) := by rw [Int.neg_fmod_neg]; omega
    have q1 := Int.fmod_lt_of_pos (-x) (show 0 < -y by omega)
    have q2 := Int.fmod_nonneg_of_pos (-x) (show 0 < -y by omega)
    omega
/-- sizes -/
theorem low_size {t b T B : Int} (h : b ≠ 0) (h1 : -T ≤ t) (h2 : t ≤ T) (h3 : -B ≤ b) (h4 : b ≤ B) (hT : 0 ≤ T) (hB : 0 ≤ B) : -T ≤ lowT t b ∧ lowT t b ≤ T ∧ 0 < lowB t b ∧ lowB t b ≤ B := by
  have gp : (0 : Int) < (Int.gcd t b : Int) := Int.natCast_pos.mpr (gcd_pos h)
  have L := (low_low (t := t) h).pos
  have key : ∀ z M : Int, 0 ≤ M → -M ≤ z → z ≤ M → -M ≤ z / (Int.gcd t b : Int) ∧ z / (Int.gcd t b : Int) ≤ M := fun z M hM z1 z2 => by
    generalize (Int.gcd t b : Int) = g at gp
    have m2 : M * 1 ≤ M * g := Int.mul_le_mul_of_nonneg_left (by omega) hM
    have m3 : -M * g = -(M * g) := Int.neg_mul M g
    exact ⟨Int.le_ediv_of_mul_le gp (by omega), Int.ediv_le_of_le_mul gp (by omega)⟩
  have k1 := key (if b < 0 then -t else t) T hT (by split <;> omega) (by split <;> omega)
  have k2 := key (if b < 0 then -b else b) B hB (by split <;> omega) (by split <;> omega)
  exact ⟨k1.1, k1.2, L, k2.2⟩
end M3

set_option Elab.async false
set_option linter.all false
set_option maxRecDepth 100000
set_option maxHeartbeats 4000000
namespace Q16
open PySem L2
def top (i : Nat) : Stmt := PySem.Challenge.pw_dueworth_k16_plain_and_led_traces.main.body.getD i (.Pass ⟨0, 0, 0, 0⟩)
abbrev sSides : Stmt := top 2
abbrev sParts : Stmt := top 3
abbrev sPartsN : Stmt := top 4
abbrev sPlainT : Stmt := top 6
abbrev sPlaces : Stmt := top 7
abbrev sOftens : Stmt := top 8
abbrev sLedPart : Stmt := top 9
abbrev sLedTo : Stmt := top 10
abbrev sDeal : Stmt := top 12
abbrev sDraw : Stmt := top 13
abbrev sWords : Stmt := top 14
abbrev sLow : Stmt := top 15
abbrev sCost : Stmt := top 16
abbrev sLeaf : Stmt := top 17
abbrev sBody : Stmt := top 18
abbrev sTrace : Stmt := top 19
abbrev sUsed : Stmt := top 20
abbrev sPlain : Stmt := top 21
abbrev sWays : Stmt := top 22
abbrev sLed : Stmt := top 23
abbrev sAlike : Stmt := top 24
abbrev sRight : Stmt := top 25
abbrev sMore : Stmt := top 26
abbrev sLaw : Stmt := top 27
theorem same_new {H : Hp} {p : Addr} (h : H p = none) (o : HO) : Same H (upd H p o) := fun b u q => by rw [upd_ne (ne_of_none q h)]; exact q
theorem small {n : Nat} (h : n ≤ 1000) : n ≤ sizeLine := Nat.le_of_lt (small1000 h)
/-! ### the deal -/
def dealK (seed number : Int) (l : Addr) : List (Key × V) := [(Sum.inr "seed", .int seed), (Sum.inr "number", .int number), (Sum.inr "left", .ref l)]
theorem k_sn : ¬ ((Sum.inr ("seed" : Str) : Key) = Sum.inr ("number" : Str)) := fun h => absurd (Sum.inr.inj h) (by decide +kernel)
theorem k_sl : ¬ ((Sum.inr ("seed" : Str) : Key) = Sum.inr ("left" : Str)) := fun h => absurd (Sum.inr.inj h) (by decide +kernel)
theorem k_nl : ¬ ((Sum.inr ("number" : Str) : Key) = Sum.inr ("left" : Str)) := fun h => absurd (Sum.inr.inj h) (by decide +kernel)
theorem val_seed (s n : Int) (l : Addr) : valV (dealK s n l) (Sum.inr "seed") = some (.int s) := valV_pos rfl
theorem val_number (s n : Int) (l : Addr) : valV (dealK s n l) (Sum.inr "number") = some (.int n) := (valV_neg k_sn).trans (valV_pos rfl)
theorem val_left (s n : Int) (l : Addr) : valV (dealK s n l) (Sum.inr "left") = some (.ref l) := (valV_neg k_sl).trans ((valV_neg k_nl).trans (valV_pos rfl))
theorem put_number (s n m : Int) (l : Addr) : putK (dealK s n l) (Sum.inr "number") (.int m) = dealK s m l := by
  unfold putK
  rw [if_pos (by rw [valV_any, val_number]; rfl)]
  unfold dealK
  rw [List.map_cons, List.map_cons, List.map_cons, List.map_nil, if_neg k_sn, if_pos rfl, if_neg (fun h => k_nl h.symm)]
theorem put_seed (s n m : Int) (l : Addr) : putK (dealK s n l) (Sum.inr "seed") (.int m) = dealK m n l := by
  unfold putK
  rw [if_pos (by rw [valV_any, val_seed]; rfl)]
  unfold dealK
  rw [List.map_cons, List.map_cons, List.map_cons, List.map_nil, if_pos rfl, if_neg (fun h => k_sn h.symm), if_neg (fun h => k_sl h.symm)]
theorem merge_deal (s n : Int) (l : Addr) : mergeK [] (dealK s n l) = dealK s n l := by
  have e1 : putK ([] : List (Key × V)) (Sum.inr ("seed" : Str)) (V.int s) = ([(Sum.inr ("seed" : Str), V.int s)] : List (Key × V)) := putK_new _ rfl
  have e2 : putK ([(Sum.inr ("seed" : Str), V.int s)] : List (Key × V)) (Sum.inr ("number" : Str)) (V.int n) = ([(Sum.inr ("seed" : Str), V.int s), (Sum.inr ("number" : Str), V.int n)] : List (Key × V)) := putK_new _ (valV_neg k_sn)
  have e3 : putK ([(Sum.inr ("seed" : Str), V.int s), (Sum.inr ("number" : Str), V.int n)] : List (Key × V)) (Sum.inr ("left" : Str)) (V.ref l) = dealK s n l := putK_new _ ((valV_neg k_sl).trans (valV_neg k_nl))
  show putK (putK (putK [] (Sum.inr ("seed" : Str)) (V.int s)) (Sum.inr ("number" : Str)) (V.int n)) (Sum.inr ("left" : Str)) (V.ref l) = dealK s n l
  rw [e1, e2, e3]
structure DealAt (H : Hp) (d l : Addr) (seed number : Int) (left : List Int) : Prop where
  dc : H d = some (.dK (dealK seed number l))
  ll : H l = some (.lst (left.map V.int))
  s0 : 0 ≤ seed
  s1 : seed < 2147483647
  n0 : 0 ≤ number
  le : ∀ x ∈ left, 0 ≤ x
  len : left.length ≤ 63
def Deal (H : Hp) (d l : Addr) : Prop := ∃ seed number left, DealAt H d l seed number left
/-- all but the deal is as it was -/
def Oth (d l : Addr) (H H' : Hp) : Prop := ∀ b o, H b = some o → b ≠ d → b ≠ l → H' b = some o
theorem Oth.refl (d l : Addr) (H : Hp) : Oth d l H H := fun _ _ h _ _ => h
theorem Oth.trans {d l : Addr} {H H1 H2 : Hp} (a : Oth d l H H1) (b : Oth d l H1 H2) : Oth d l H H2 := fun c o h h1 h2 => b c o (a c o h h1 h2) h1 h2
theorem Oth.of_same {d l : Addr} {H H' : Hp} (a : Same H H') : Oth d l H H' := fun c o h _ _ => a c o h
section
variable {H H' : Hp} {d l : Addr} {seed number : Int} {left : List Int}
theorem DealAt.ne (D : DealAt H d l seed number left) : d ≠ l := ne_of D.dc D.ll (by intro z; cases z)
theorem DealAt.getS (D : DealAt H d l seed number left) : DGet H d (.str "seed") (some (.int seed)) := by
  have q := DGet.k (k := Sum.inr ("seed" : Str)) D.dc
  rw [val_seed] at q
  exact q
theorem DealAt.getN (D : DealAt H d l seed number left) : DGet H d (.str "number") (some (.int number)) := by
  have q := DGet.k (k := Sum.inr ("number" : Str)) D.dc
  rw [val_number] at q
  exact q
theorem DealAt.getL (D : DealAt H d l seed number left) : DGet H d (.str "left") (some (.ref l)) := by
  have q := DGet.k (k := Sum.inr ("left" : Str)) D.dc
  rw [val_left] at q
  exact q
theorem DealAt.putN (D : DealAt H d l seed number left) (m : Int) : DPut H d (.str "number") (.int m) (upd H d (.dK (dealK seed m l))) := by
  have q := DPut.k (k := Sum.inr ("number" : Str)) (v := .int m) D.dc (by show 3 < sizeLine; decide)
  rw [put_number] at q
  exact q
theorem DealAt.putS (D : DealAt H d l seed number left) (m : Int) : DPut H d (.str "seed") (.int m) (upd H d (.dK (dealK m number l))) := by
  have q := DPut.k (k := Sum.inr ("seed" : Str)) (v := .int m) D.dc (by show 3 < sizeLine; decide)
  rw [put_seed] at q
  exact q
theorem DealAt.setN (D : DealAt H d l seed number left) {m : Int} (h : 0 ≤ m) : DealAt (upd H d (.dK (dealK seed m l))) d l seed m left :=
  ⟨upd_same, by rw [upd_ne (Ne.symm D.ne)]; exact D.ll, D.s0, D.s1, h, D.le, D.len⟩
theorem DealAt.setS (D : DealAt H d l seed number left) {m : Int} (h : 0 ≤ m) (h1 : m < 2147483647) : DealAt (upd H d (.dK (dealK m number l))) d l m number left :=
  ⟨upd_same, by rw [upd_ne (Ne.symm D.ne)]; exact D.ll, h, h1, D.n0, D.le, D.len⟩
theorem Deal.same (D : Deal H d l) (s : Same H H') : Deal H' d l := let ⟨a, b, c, D⟩ := D; ⟨a, b, c, s _ _ D.dc, s _ _ D.ll, D.s0, D.s1, D.n0, D.le, D.len⟩
theorem oth_upd {o : HO} : Oth d l H (upd H d o) := fun b u q h1 _ => by rw [upd_ne h1]; exact q
theorem oth_updL {o : HO} : Oth d l H (upd H l o) := fun b u q _ h2 => by rw [upd_ne h2]; exact q
end
/-! ### promises -/
def spDraw : Sp := fun vs H Q _ => ∃ (d l : Addr) (many : Int), vs = [.ref d, .int many] ∧ Deal H d l ∧ 0 < many ∧ many < 1073741824 ∧
  ∀ (r : Int) (H' : Hp), 0 ≤ r → r < many → Deal H' d l → Oth d l H H' → Q (.int r) H'
def spDeal (K : PySem.W.Frag) : Sp := fun vs H Q _ => ∃ (a : Addr) (ns : List Int), vs = [.ref a, .int 0] ∧ SqL K H a (ns.map V.int) ∧ ns.length ≤ 63 ∧
  ∀ (d l : Addr) (H' : Hp), H d = none → H l = none → Same H H' → Deal H' d l → Q (.ref d) H'
def spLaw (K : PySem.W.Frag) : Sp := fun vs H Q _ => ∃ (a : Addr) (ns : List Int), vs = [.ref a] ∧ SqL K H a (ns.map V.int) ∧ ns.length ≤ 63 ∧ ∀ H', Q (.bl true) H'
section
variable {P : Program} {w : World} {K : PySem.W.Frag} {mg : Str → Option Value} {base : Heap} {f : Addr} {fd : FuncData}
theorem scDraw : FnScope ["_law_deal_here", "_law_many", "_law_number", "_law_one", "_law_other"] ["_law_deal_here", "_law_many"] (defScope sDraw) := ⟨rfl, rfl, rfl, by decide +kernel, rfl, by decide +kernel, by decide +kernel⟩
theorem ok_draw (F : Fun K "_law_draw" "_law_draw" sDraw f fd) (ml : mg "len" = none) : FnOk P w K mg base CX0 1 f fd ["_law_deal_here", "_law_many"] spDraw := by
  refine F.ok scDraw (fun vs H Q E h => ?_) (fun cdv A outer s H vs Q E hr h => ?_)
  · obtain ⟨d, l, many, rfl, _⟩ := h
    rfl
  obtain ⟨d, l, many, rfl, D, m0, m1, k⟩ := h
  have hu := hu_of hr
  refine ⟨_, pss_cons (ps_while PassesOwn.never (PW.pt (pw_and (pt_cmpR op_eq (pe_dget hu (pv 0) pe_str (fun _ _ => rfl)) pe_int (nomark _))
      (pw_and1 (pt_cmpR op_gt (pe_callB call_len_seq rfl ml PySem.boot_len (pa_cons (pe_dget hu (pv 0) pe_str (fun _ _ => rfl)) pa_nil)) pe_int (nomark _)))))
      (pss_one (ps_dput hu (pv 0) pe_str (pe_bm0 PySem.F.plainAttrs_list PySem.F.slot_list_pop PySem.F.type_list_pop mt_pop (pe_dget hu (pv 0) pe_str (fun _ _ => rfl))) rfl)))
    (pss_cons (ps_set (i := 2) scDraw.nd rfl (Or.inl rfl) (pe_dget hu (pv 0) pe_str (fun _ _ => rfl)))
    (pss_cons (ps_if (pt_cmpR op_gt (pv 2) pe_int (nomark _)) (pss_cons (ps_dput hu (pv 0) pe_str (pe_op op_fdiv (pv 2) (pv 1)) rfl) (pss_one (ps_ret (pe_op op_mod (pv 2) (pv 1))))) pss_nil)
    (pss_cons (ps_set (i := 3) scDraw.nd rfl (Or.inl rfl) (pe_op op_mod (pe_op op_add (pe_op op_mul (pe_dget hu (pv 0) pe_str (fun _ _ => rfl)) pe_int) pe_int) pe_int))
    (pss_cons (ps_dput hu (pv 0) pe_str (pe_op op_mod (pe_op op_add (pe_op op_mul (pv 3) pe_int) pe_int) pe_int) rfl)
    (pss_cons (ps_set (i := 4) scDraw.nd rfl (Or.inl rfl) (pe_op op_mod (pe_op op_mul (pe_dget hu (pv 0) pe_str (fun _ _ => rfl)) (pe_dget hu (pv 0) pe_str (fun _ _ => rfl))) pe_int))
    (pss_one (ps_ret (pe_op op_mod (pe_op op_add (pe_op op_mul (pe_op op_mod (pe_op op_mul (pv 3) (pv 3)) pe_int) pe_int) (pv 4)) (pv 1))))))))), ?_⟩
  obtain ⟨seed0, number0, left0, D0⟩ := D
  refine ⟨fun m σ H2 => ∃ seed number left, σ = [some (.ref d), some (.int many), none, none, none] ∧ DealAt H2 d l seed number left ∧ Oth d l H H2 ∧ m = left.length, ⟨_, seed0, number0, left0, rfl, D0, Oth.refl _ _ _, rfl⟩, ?_⟩
  rintro m σ H2 ⟨seed, number, left, rfl, D, O, rfl⟩
  refine ⟨_, rfl, d, _, rfl, D.getN, rfl, _, rfl, ite2 (fun c => ⟨_, rfl, d, _, rfl, D.getL, l, _, rfl, .inl (SqL.of D.ll), _, _, rfl, rfl, _, rfl, ite2 (fun c1 => ?turn) (fun c1 => ?_)⟩) (fun c => ?_)⟩
  case turn =>
    have c1' : (0 : Int) < ((left.map V.int).length : Nat) := of_decide_eq_true c1
    rw [List.length_map] at c1'
    obtain ⟨ini, x, rfl⟩ : ∃ ini x, left = ini ++ [x] := by
      rcases List.eq_nil_or_concat left with z | ⟨ini, x, z⟩
      · rw [z] at c1'; simp at c1'
      · exact ⟨ini, x, by simpa using z⟩
    have e : ((ini ++ [x]).map V.int).dropLast = ini.map V.int := by simp
    have D1 : DealAt (upd H2 l (.lst ((ini ++ [x]).map V.int).dropLast)) d l seed number ini :=
      ⟨by rw [upd_ne D.ne]; exact D.dc, by rw [upd_same, e], D.s0, D.s1, D.n0, fun y hy => D.le y (List.mem_append_left _ hy), by have := D.len; rw [List.length_append] at this; omega⟩
    refine ⟨fun σ' H' => ∃ seed number, σ' = [some (.ref d), some (.int many), none, none, none] ∧ DealAt H' d l seed number ini ∧ Oth d l H H', fun σ' H' ⟨a, b, e1, e2, e3⟩ => ⟨ini.length, by rw [List.length_append]; simp, a, b, ini, e1, e2, e3, rfl⟩, ?_⟩
    refine ⟨_, rfl, d, _, rfl, D.getL, .inl ⟨rfl, _, SqL.of D.ll⟩, l, _, _, rfl, rfl, D.ll, (by simp : _ = some (V.int x)), _, rfl, d, _, rfl, D1.putN x, ?_⟩
    exact ⟨_, _, rfl, D1.setN (D.le x (by simp)), O.trans (oth_updL.trans oth_upd)⟩
  all_goals
    refine ⟨_, rfl, d, _, rfl, D.getN, ?_⟩
    refine ⟨_, rfl, _, _, rfl, rfl, _, rfl, ite2 (fun g => ?_) (fun g => ?_)⟩
    · have g' : 0 < number := of_decide_eq_true g
      refine ⟨_, rfl, _, rfl, _, _, rfl, rfl, ⟨m0, m1⟩, _, rfl, d, _, rfl, D.putN _, ?_⟩
      refine ⟨_, rfl, _, rfl, _, _, rfl, rfl, m0, ?_⟩
      exact k _ _ (Int.emod_nonneg _ (by omega)) (Int.emod_lt_of_pos _ m0) ⟨_, _, _, D.setN (Int.ediv_nonneg D.n0 (by omega))⟩ (O.trans oth_upd)
    · have s0 := D.s0
      have s1 := D.s1
      refine ⟨_, rfl, d, _, rfl, D.getS, _, _, rfl, rfl, .inl ⟨by omega, by omega⟩, _, _, rfl, rfl, _, _, rfl, rfl, (by show (0 : Int) < 2147483647; decide), ?_⟩
      refine ⟨_, rfl, _, _, rfl, rfl, .inl ⟨by omega, by omega⟩, _, _, rfl, rfl, _, _, rfl, rfl, (by show (0 : Int) < 2147483399; decide), _, rfl, d, _, rfl, D.putS _, ?_⟩
      have D2 := D.setS (m := ((seed * 48271 + 7919) % 2147483647 * 40692 + 104729) % 2147483399) (by omega) (by omega)
      refine ⟨_, rfl, d, _, rfl, D2.getS, _, rfl, d, _, rfl, D2.getS, _, _, rfl, rfl, .inl ⟨by omega, by omega⟩, _, _, rfl, rfl, (by show (0 : Int) < 2147483563; decide), ?_⟩
      refine ⟨_, rfl, _, rfl, _, _, rfl, rfl, .inl ⟨by omega, by omega⟩, _, _, rfl, rfl, (by show (0 : Int) < 2147483629; decide), _, _, rfl, rfl, .inr ⟨by decide, by decide⟩, _, rfl, _, _, rfl, rfl, _, rfl, _, _, rfl, rfl, m0, ?_⟩
      exact k _ _ (Int.emod_nonneg _ (by omega)) (Int.emod_lt_of_pos _ m0) ⟨_, _, _, D2⟩ (O.trans oth_upd)
theorem cut_ints (ns : List Int) (lo hi : Option Int) : ∃ ms : List Int, cutV (ns.map V.int) lo hi = ms.map V.int ∧ ms.length ≤ ns.length := by
  refine ⟨(ns.drop (HT.sIx (ns.map V.int).length 0 lo)).take (HT.sIx (ns.map V.int).length (ns.map V.int).length hi - HT.sIx (ns.map V.int).length 0 lo), ?_, ?_⟩
  · unfold cutV
    rw [List.map_take, List.map_drop]
  · rw [List.length_take, List.length_drop]
    omega
theorem get_int {zs : List Int} {i : Nat} {x : V} (h : (zs.map V.int)[i]? = some x) : ∃ z, x = .int z ∧ z ∈ zs := by
  rw [List.getElem?_map] at h
  cases e : zs[i]? with
  | none => rw [e] at h; cases h
  | some z =>
    rw [e] at h
    exact ⟨z, (Option.some.inj h).symm, List.mem_of_getElem? e⟩
theorem nd_one : (["_law_one"] : List Str).Nodup := by decide +kernel
theorem scDeal : FnScope ["_law_script", "_law_base", "_law_one", "_law_some", "_law_number"] ["_law_script", "_law_base"] (defScope sDeal) := ⟨rfl, rfl, rfl, by decide +kernel, rfl, by decide +kernel, by decide +kernel⟩
theorem ok_deal (F : Fun K "_law_deal" "_law_deal" sDeal f fd) (mx : mg "max" = none) (mli : mg "list" = none) (mre : mg "reversed" = none) : FnOk P w K mg base CX0 1 f fd ["_law_script", "_law_base"] (spDeal K) := by
  refine F.ok scDeal (fun vs H Q E h => ?_) (fun cdv A outer s H vs Q E hr h => ?_)
  · obtain ⟨a, ns, rfl, _⟩ := h
    rfl
  obtain ⟨a, ns, rfl, hS, h63, k⟩ := h
  refine ⟨_, pss_cons (ps_comp [] 1 [] ["_law_one"] (i := 3) scDeal.nd rfl rfl rfl rfl rfl (by decide +kernel) rfl (by decide +kernel) trivial rfl rfl rfl trivial
      (pi_list (pe_slice sl_list (pv 0) (po_some (pv 1)) (po_some pe_int)))
      (fun B => pg_name (i := 0) nd_one rfl (Or.inl rfl)) (fun B => pf_nil)
      (fun B => pe_callB (call_max2 rfl) rfl mx (by decide +kernel) (pa_cons (pv 0) (pa_cons (pe_op op_sub pe_int (pv 0)) pa_nil))))
    (pss_cons (ps_set (i := 4) scDeal.nd rfl (Or.inl rfl) (pe_op op_add pe_int (pv 1)))
    (pss_cons (ps_for PassesOwn.never rfl (pi_list (pv 3)) (pg_name (i := 2) scDeal.nd rfl (Or.inl rfl))
      (pss_one (ps_set (i := 4) scDeal.nd rfl (Or.inl rfl) (pe_op op_mod (pe_op op_add (pe_op op_mul (pv 4) pe_int) (pe_op op_mod (pv 2) pe_int)) pe_int))))
    (pss_one (ps_ret (pe_disp (pps_cons pe_str (pv 4) (pps_cons pe_str pe_int (pps_cons pe_str
      (pe_listRev rfl (pe_comp [] 1 [] ["_law_one"] rfl rfl (by decide +kernel) rfl (by decide +kernel) trivial rfl rfl rfl trivial (pi_list (pv 3))
        (fun B => pg_name (i := 0) nd_one rfl (Or.inl rfl)) (fun B => pf_one (pt_cmpR op_ge (pv 0) (pe_op op_pow pe_int pe_int) (nomark _))) (fun B => pv 0)) rfl mli rfl mre) pps_nil))) rfl rfl (by simp) (by decide)))))), ?_⟩
  obtain ⟨ms, em, hm⟩ := cut_ints ns (some 0) (some 63)
  refine ⟨_, rfl, _, rfl, _, rfl, _, rfl, a, _, rfl, hS, fun p hp => ?_⟩
  rw [em]
  refine ⟨p, rfl, ⟨_, SqL.of upd_same⟩, comp_list (K := K) (a := p) (xs := ms.map V.int) (fun i ys H' => H' = upd H p (.lst (ms.map V.int)) ∧ ∃ zs : List Int, ys = zs.map V.int ∧ zs.length = i ∧ ∀ z ∈ zs, 0 ≤ z)
    ⟨rfl, [], rfl, rfl, by simp⟩ ?_ ?_ ?_⟩
  · rintro i ys H' hi ⟨rfl, zs, rfl, rfl, _⟩
    rw [List.length_map] at hi
    exact ⟨SqL.of upd_same, by rw [List.length_map]; exact small (by omega)⟩
  · rintro i x ys H' hx ⟨rfl, zs, rfl, rfl, h0⟩
    obtain ⟨z, rfl, _⟩ := get_int hx
    refine ⟨rfl, _, rfl, _, rfl, _, _, rfl, rfl, _, _, rfl, rfl, zs ++ [if 0 - z > z then 0 - z else z], by simp, by simp, fun y hy => ?_⟩
    rcases List.mem_append.mp hy with hy | hy
    · exact h0 y hy
    · rw [List.mem_singleton.mp hy]
      split <;> omega
  rintro ys H' ⟨rfl, zs, rfl, hz, h0⟩ q hq
  rw [List.length_map] at hz
  have hpq : p ≠ q := ne_of_none upd_same hq
  refine ⟨_, rfl, _, _, rfl, rfl, ?_⟩
  refine ⟨_, rfl, q, rfl, ⟨_, SqL.of upd_same⟩, for_list (K := K) (a := q) (xs := zs.map V.int) (fun i σ H' => ∃ (num : Int) (v : Option V), σ = [some (.ref a), some (.int 0), v, some (.ref q), some (.int num)] ∧ 0 ≤ num ∧ num < 2147483647 ∧
    H' = upd (upd H p (.lst (ms.map V.int))) q (.lst (zs.map V.int))) ⟨_, _, rfl, by decide, by decide, rfl⟩ (fun i σ H' _ ⟨_, _, _, _, _, e⟩ => e ▸ SqL.of upd_same) ?_ ?_⟩
  · rintro i x σ H' hx ⟨num, v, rfl, n0, n1, rfl⟩
    obtain ⟨z, rfl, _⟩ := get_int hx
    refine ⟨_, rfl, _, _, rfl, rfl, .inl ⟨by omega, by omega⟩, _, rfl, _, _, rfl, rfl, (by show (0 : Int) < 2147483629; decide), _, _, rfl, rfl, _, _, rfl, rfl, (by show (0 : Int) < 2147483647; decide), ?_⟩
    exact ⟨_, _, rfl, Int.emod_nonneg _ (by decide), Int.emod_lt_of_pos _ (by decide), rfl⟩
  rintro σ H' ⟨num, v, rfl, n0, n1, rfl⟩
  intro d hd
  have hdq : d ≠ q := fun e => by rw [e, upd_same] at hd; cases hd
  refine ⟨_, rfl, _, rfl, q, rfl, ⟨_, SqL.of (by rw [upd_ne (Ne.symm hdq), upd_same])⟩, comp_list (K := K) (a := q) (xs := zs.map V.int) (fun i ys H' => H' = upd (upd (upd H p (.lst (ms.map V.int))) q (.lst (zs.map V.int))) d (.dK []) ∧ ∃ xs : List Int, ys = xs.map V.int ∧ xs.length ≤ i ∧ ∀ z ∈ xs, 0 ≤ z)
    ⟨rfl, [], rfl, Nat.le_refl _, by simp⟩ ?_ ?_ ?_⟩
  · rintro i ys H' hi ⟨rfl, xs, rfl, hx, _⟩
    rw [List.length_map] at hi
    exact ⟨SqL.of (by rw [upd_ne (Ne.symm hdq), upd_same]), by rw [List.length_map]; exact small (by omega)⟩
  · rintro i x ys H' hx ⟨rfl, xs, rfl, hl, h1⟩
    obtain ⟨z, rfl, zm⟩ := get_int hx
    refine ⟨rfl, _, rfl, _, _, rfl, rfl, ⟨by decide, by decide, by decide⟩, _, _, rfl, rfl, _, rfl, ite2 (fun _ => ?_) (fun _ => ?_)⟩
    · refine ⟨_, rfl, rfl, xs ++ [z], by simp, by simp; omega, fun y hy => ?_⟩
      rcases List.mem_append.mp hy with hy | hy
      · exact h1 y hy
      · rw [List.mem_singleton.mp hy]
        exact h0 z zm
    · exact ⟨rfl, xs, rfl, by omega, h1⟩
  rintro ys H' ⟨rfl, xs, rfl, hl, h1⟩ q2 hq2
  rw [List.length_map] at hl
  have hdq2 : d ≠ q2 := ne_of_none upd_same hq2
  refine ⟨q2, _, rfl, SqL.of upd_same, fun l hl2 => ?_⟩
  have hdl : d ≠ l := fun e => by rw [← e, upd_ne hdq2, upd_same] at hl2; cases hl2
  refine ⟨by rw [upd_ne hdl, upd_ne hdq2, upd_same], dealK num 0 l, rfl, by show 3 ≤ 15; decide, ?_⟩
  rw [merge_deal]
  have g1 : Same H (upd H p (.lst (ms.map V.int))) := same_new hp _
  have g2 := g1.trans (same_new hq (.lst (zs.map V.int)))
  have g3 := g2.trans (same_new hd (.dK []))
  have g4 := g3.trans (same_new hq2 (.lst (xs.map V.int)))
  have g5 := g4.trans (same_new hl2 (.lst (xs.map V.int).reverse))
  refine k d l _ (g2.free hd) (g4.free hl2) (fun b o e => ?_) ⟨num, 0, xs.reverse, upd_same, by rw [upd_ne (Ne.symm hdl), upd_same, List.map_reverse], n0, n1, by decide, fun y hy => h1 y (List.mem_reverse.mp hy), by rw [List.length_reverse]; omega⟩
  have hb : b ≠ d := ne_of_none e (g2.free hd)
  rw [upd_ne hb]
  exact g5 b o e
end
end Q16

set_option Elab.async false
set_option linter.all false
set_option maxRecDepth 100000
set_option maxHeartbeats 4000000
namespace Q16
open PySem L2 Wd
theorem Deal.dne {H : Hp} {d l p : Addr} (D : Deal H d l) (h : H p = none) : p ≠ d ∧ p ≠ l := let ⟨_, _, _, D⟩ := D; ⟨Ne.symm (ne_of_none D.dc h), Ne.symm (ne_of_none D.ll h)⟩
theorem Oth.free {H H' : Hp} {d l p : Addr} (o : Oth d l H H') (h : H' p = none) (h1 : p ≠ d) (h2 : p ≠ l) : H p = none := by
  cases e : H p with
  | none => rfl
  | some u => rw [o p u e h1 h2] at h; cases h
theorem at_some {α : Type} {xs : List α} {r : Int} (h0 : 0 ≤ r) (h1 : r < xs.length) : ∃ v, atI xs r = some v ∧ v ∈ xs := by
  have hr : r.toNat < xs.length := by omega
  have z := atI_nat (xs := xs) (j := r.toNat) (v := xs[r.toNat]) (List.getElem?_eq_getElem hr)
  rw [Int.toNat_of_nonneg h0] at z
  exact ⟨_, z, List.getElem_mem hr⟩
theorem at_letter {r : Int} (h0 : 0 ≤ r) (h1 : r < 26) : ∃ c, atI abc.cps.toList r = some c ∧ 97 ≤ c ∧ c ≤ 122 := by
  obtain ⟨n, rfl⟩ := Int.eq_ofNat_of_zero_le h0
  have q := at_abc n
  rw [Nat.mod_eq_of_lt (by omega)] at q
  exact ⟨_, q, by omega, by omega⟩
def spWords : Sp := fun vs H Q _ => ∃ (d l : Addr) (many : Nat), vs = [.ref d, .int many] ∧ Deal H d l ∧ many ≤ 16 ∧
  ∀ (p : Addr) (ns : List Str) (H' : Hp), ns.length = many → ns.Nodup → (∀ z ∈ ns, IsW z ∧ z ∉ keptS) → H p = none → p ≠ d → p ≠ l → H' p = some (.lst (ns.map V.str)) → Deal H' d l → Oth d l H H' → Q (.ref p) H'
theorem nd_k : (["_law_k", "_law_deal_here", "_law_letters"] : List Str).Nodup := by decide +kernel
theorem nd_j : (["_law_j", "_law_deal_here", "_law_letters"] : List Str).Nodup := by decide +kernel
abbrev NW : List Str := ["_law_deal_here", "_law_many", "_law_letters", "_law_taken", "_law_core", "_law_at", "_law_turn", "_law_near", "_law_found", "_law_k", "_law_name"]
def forBody : List Stmt := match (defBody sWords).getD 5 (.Pass ⟨0, 0, 0, 0⟩) with
  | .For _ _ b .. => b
  | _ => []
theorem empty_len : ("" : Str).length = 0 := by decide
theorem sgn_bound {cs : List Nat} (h : cs.length ≤ 1000) : ((cs.map sgn).map (·.length)).sum + (cs.map sgn).length * ("" : Str).length ≤ 1000000 := by
  rw [sum_sgn, empty_len]
  omega
theorem kept_room {ns : List Str} (h : ns.length < 16) : (keptS ++ ns).length < 26 := by
  rw [List.length_append, show keptS.length = 10 from rfl]
  omega
section
variable {P : Program} {w : World} {K : PySem.W.Frag} {mg : Str → Option Value} {base : Heap} {f f1 : Addr} {fd d1 : FuncData}
theorem scWords : FnScope NW ["_law_deal_here", "_law_many"] (defScope sWords) := ⟨rfl, rfl, rfl, by decide +kernel, rfl, by decide +kernel, by decide +kernel⟩
abbrev XW (P : Program) (w : World) (K : PySem.W.Frag) (mg : Str → Option Value) (base : Heap) (f : Addr) (cdv : Value) (A : Around) (outer : List Env) (s : Shared) (H : Hp) (E : XK) : Cx :=
  (cxOf CX0 P w K mg base NW "_law_words" (defScope sWords) f cdv A outer s H E).nox
theorem ok_words (F : Fun K "_law_words" "_law_words" sWords f fd)
    (G : FnOk P w K mg base CX0 1 f1 d1 ["_law_deal_here", "_law_many"] spDraw) (bG : Binds K d1 ["_law_deal_here", "_law_many"] []) (kG : PySem.W.keepIn K (.ref f1) = true) (mG : mg "_law_draw" = some (.ref f1))
    (z1 : mg "range" = none) (z3 : mg "len" = none) : FnOk P w K mg base CX0 2 f fd ["_law_deal_here", "_law_many"] spWords := by
  refine F.ok scWords (fun vs H Q E h => ?_) (fun cdv A outer s H vs Q E hr h => ?_)
  · obtain ⟨d, l, many, rfl, _⟩ := h
    rfl
  obtain ⟨d, l, many, rfl, D, hm, k⟩ := h
  -- the search for a free name, and its append
  obtain ⟨tl, hl, ql⟩ : ∃ tl, PSs (XW P w K mg base f cdv A outer s H E) (forBody.drop 2) tl ∧ ∀ (D : Ends) (pT q : Addr) (ns : List Str) (z : Str) (v4 v5 v6 v7 v9 : Option V) (H' : Hp), IsW z → H' pT = some (.lst keptV) → H' q = some (.lst (ns.map V.str)) → ns.length < 16 →
      (∀ z', IsW z' → z' ∉ keptS → z' ∉ ns → D.nx [some (.ref d), some (.int many), some (.str abc), some (.ref pT), v4, v5, v6, v7, some (.ref q), v9, some (.str z')] (upd H' q (.lst ((ns ++ [z']).map V.str)))) →
      tl D [some (.ref d), some (.int many), some (.str abc), some (.ref pT), v4, v5, v6, v7, some (.ref q), v9, some (.str z)] H' := by
    refine ⟨_, pss_cons (ps_while PassesOwn.never (PW.pt (pw_or (pt_cmpR op_in_seq (pv 10) (pv 3) rfl) (pw_or1 (pt_cmpR op_in_seq (pv 10) (pv 8) rfl))))
        (pss_one (ps_set (i := 10) scWords.nd rfl (Or.inl rfl) (pe_op op_add_str (pe_ix ix_str (pv 2) (pe_op op_mod (pe_op op_add (pe_bm PySem.F.plainAttrs_str PySem.F.slot_str_index PySem.F.type_str_index mt_index (pv 2) (pa_cons (pe_ix ix_str (pv 10) pe_int (fun _ _ => rfl)) pa_nil)) pe_int) pe_int) (fun _ _ => rfl))
          (pe_slice sl_str (pv 10) (po_some pe_int) po_none)))))
      (pss_one (ps_expr (pe_bm PySem.F.plainAttrs_list PySem.F.slot_list_append PySem.F.type_list_append mt_append (pv 8) (pa_cons (pv 10) pa_nil)))), fun D pT q ns z v4 v5 v6 v7 v9 H' hz hT hq h16 fin => ?_⟩
    obtain ⟨i, r, rfl, hi, hr5, hrs⟩ := hz.cand
    obtain ⟨j, hj, free⟩ := cand_free r i (keptS ++ ns) (kept_room h16)
    refine ⟨fun m σ H2 => ∃ t, σ = [some (.ref d), some (.int many), some (.str abc), some (.ref pT), v4, v5, v6, v7, some (.ref q), v9, some (.str (cand r (i + t)))] ∧ H' = H2 ∧ t ≤ j ∧ m = j - t, ⟨j, 0, rfl, rfl, Nat.zero_le _, rfl⟩, ?_⟩
    rintro m σ H2 ⟨t, rfl, rfl, ht, rfl⟩
    have hw := isW_cand hr5 hrs (i + t)
    refine ⟨_, rfl, _, rfl, pT, keptV, rfl, .inl (SqL.of hT), rfl, flat_str keptS, _, rfl, ite2 (fun g => iteT ?_) (fun g => ⟨_, rfl, _, rfl, q, _, rfl, .inl (SqL.of hq), rfl, flat_str ns, _, rfl, ite2 (fun g2 => ?_) (fun g2 => ?_)⟩)⟩
    rotate_left 2
    · have n1 : cand r (i + t) ∉ keptS := fun z => g (inV_str.mpr z)
      have n2 : cand r (i + t) ∉ ns := fun z => g2 (inV_str.mpr z)
      refine ⟨_, rfl, .inl ⟨rfl, _, SqL.of hq⟩, _, rfl, q, _, _, rfl, rfl, hq, by rw [List.length_map]; exact Nat.lt_of_lt_of_le h16 (by decide), ?_⟩
      have q9 := fin _ hw n1 n2
      rw [List.map_append] at q9
      exact q9
    all_goals
      have lt : t < j := by
        rcases Nat.lt_or_ge t j with h | h
        · exact h
        · exfalso
          have e : t = j := by omega
          subst e
          first
            | exact free (List.mem_append_left _ (inV_str.mp g))
            | exact free (List.mem_append_right _ (inV_str.mp g2))
      refine ⟨fun σ' H3 => σ' = [some (.ref d), some (.int many), some (.str abc), some (.ref pT), v4, v5, v6, v7, some (.ref q), v9, some (.str (cand r (i + (t + 1))))] ∧ H' = H3, fun σ' H3 ⟨e1, e2⟩ => ⟨j - (t + 1), by omega, t + 1, e1, e2, by omega, rfl⟩, ?_⟩
      have e26 : ((((i + t) % 26 : Nat) : Int) + 1) % 26 = (((i + t + 1) % 26 : Nat) : Int) := by omega
      refine ⟨_, rfl, _, rfl, rfl, _, rfl, _, _, _, rfl, rfl, hw.line, cand_zero r (i + t), _, _, _, _, rfl, rfl, abc_ix _ (Nat.mod_lt _ (by decide)), _, _, rfl, rfl, _, _, rfl, rfl, (by show (0 : Int) < 26; decide), _, _, _, rfl, rfl, abc_len.1, (by rw [e26]; exact at_abc (i + t + 1)), ?_⟩
      refine ⟨_, rfl, _, rfl, _, rfl, hw.line, _, _, rfl, rfl, ?_, ?_⟩
      · rw [cand_rest]
        exact Nat.le_trans (show 1 + r.toArray.size ≤ 6 by rw [List.size_toArray]; omega) (by decide)
      · rw [cand_rest, cand_next]
        exact ⟨rfl, rfl⟩
  refine ⟨_, pss_cons (ps_set (i := 2) scWords.nd rfl (Or.inr rfl) pe_str)
    (pss_cons (ps_set (i := 3) scWords.nd rfl (Or.inl rfl) (pe_lst (pa_cons pe_str (pa_cons pe_str (pa_cons pe_str (pa_cons pe_str (pa_cons pe_str (pa_cons pe_str (pa_cons pe_str (pa_cons pe_str (pa_cons pe_str (pa_cons pe_str pa_nil))))))))))))
    (pss_cons (ps_set (i := 4) scWords.nd rfl (Or.inl rfl) (pe_bm PySem.F.plainAttrs_str PySem.F.slot_str_join PySem.F.type_str_join mt_join pe_str (pa_cons
      (pe_comp ["_law_letters", "_law_deal_here"] 1 [0, 2] ["_law_k", "_law_deal_here", "_law_letters"] rfl rfl (by decide +kernel) rfl (by decide +kernel) ⟨⟨_, rfl⟩, ⟨_, rfl⟩, trivial⟩ rfl rfl rfl ⟨⟨.inl rfl, .inl rfl, rfl⟩, ⟨.inl rfl, .inl rfl, rfl⟩, trivial⟩
        (pi_range1 rfl z1 (pa_cons (pe_call G hr rfl mG kG bG .nil pass0 (pa_cons (pv 0) (pa_cons pe_int pa_nil))) pa_nil))
        (fun B => pg_name (i := 0) nd_k rfl (Or.inl rfl)) (fun B => pf_nil) (fun B => pe_ix ix_str (pv 2) (pe_call G hr rfl mG kG bG .nil pass0 (pa_cons (pv 1) (pa_cons pe_int pa_nil))) (fun _ _ => rfl))) pa_nil)))
    (pss_cons (ps_three (i := 5) (j := 6) (k := 7) rfl scWords.nd rfl rfl rfl rfl rfl rfl
      (pe_tup (pa_cons (pe_call G hr rfl mG kG bG .nil pass0 (pa_cons (pv 0) (pa_cons (pe_op op_add (pe_callB call_len_str rfl z3 PySem.boot_len (pa_cons (pv 4) pa_nil)) pe_int) pa_nil)))
        (pa_cons (pe_call G hr rfl mG kG bG .nil pass0 (pa_cons (pv 0) (pa_cons pe_int pa_nil)))
        (pa_cons (pe_cmpR op_eq (pe_call G hr rfl mG kG bG .nil pass0 (pa_cons (pv 0) (pa_cons pe_int pa_nil))) pe_int (nomark _)) pa_nil)))) rfl rfl)
    (pss_cons (ps_set (i := 8) scWords.nd rfl (Or.inl rfl) (pe_lst pa_nil))
    (pss_cons (ps_for PassesOwn.never rfl (pi_range1 rfl z1 (pa_cons (pv 1) pa_nil)) (pg_name (i := 9) scWords.nd rfl (Or.inl rfl))
      (pss_cons (ps_set (i := 10) scWords.nd rfl (Or.inl rfl) (pe_op op_add_str (pe_op op_add_str (pe_slice sl_str (pv 4) po_none (po_some (pv 5))) (pe_ix ix_str (pv 2) (pe_op op_mod (pe_op op_add (pv 6) (pv 9)) pe_int) (fun _ _ => rfl)))
        (pe_slice sl_str (pv 4) (po_some (pv 5)) po_none)))
      (pss_cons (ps_if (pt_not (pt_val (pv 7))) (pss_one (ps_set (i := 10) scWords.nd rfl (Or.inl rfl) (pe_bm PySem.F.plainAttrs_str PySem.F.slot_str_join PySem.F.type_str_join mt_join pe_str (pa_cons
        (pe_comp ["_law_letters", "_law_deal_here"] 1 [0, 2] ["_law_j", "_law_deal_here", "_law_letters"] rfl rfl (by decide +kernel) rfl (by decide +kernel) ⟨⟨_, rfl⟩, ⟨_, rfl⟩, trivial⟩ rfl rfl rfl ⟨⟨.inl rfl, .inl rfl, rfl⟩, ⟨.inl rfl, .inl rfl, rfl⟩, trivial⟩
          (pi_range1 rfl z1 (pa_cons (pe_op op_add pe_int (pe_call G hr rfl mG kG bG .nil pass0 (pa_cons (pv 0) (pa_cons pe_int pa_nil)))) pa_nil))
          (fun B => pg_name (i := 0) nd_j rfl (Or.inl rfl)) (fun B => pf_nil) (fun B => pe_ix ix_str (pv 2) (pe_call G hr rfl mG kG bG .nil pass0 (pa_cons (pv 1) (pa_cons pe_int pa_nil))) (fun _ _ => rfl))) pa_nil)))) pss_nil)
      hl)))
    (pss_one (ps_ret (pv 8)))))))), ?_⟩
  refine ⟨(by show 10 ≤ sizeLine; decide), fun pT hT0 => ?_⟩
  have dT := D.dne hT0
  have sT : Same H (upd H pT (.lst keptV)) := same_new hT0 _
  have O0 : Oth d l H (upd H pT (.lst keptV)) := Oth.of_same sT
  have D0 : Deal (upd H pT (.lst keptV)) d l := D.same sT
  have hT0' : (upd H pT (.lst keptV)) pT = some (.lst keptV) := upd_same
  -- the core
  refine ⟨rfl, _, rfl, d, l, _, rfl, D0, by decide, by decide, fun n H1 n0 n1 D1 O1 => ⟨n, rfl, by omega, by omega, ?_⟩⟩
  refine comp_range (lo := 0) (n := n.toNat) (fun i ys H3 => ∃ cs : List Nat, ys = (cs.map sgn).map V.str ∧ cs.length = i ∧ (∀ c ∈ cs, 97 ≤ c ∧ c ≤ 122) ∧ Deal H3 d l ∧ Oth d l (upd H pT (.lst keptV)) H3) ⟨[], rfl, rfl, by simp, D1, O1⟩
    (fun i ys H3 hi ⟨cs, e, hz, _⟩ => by rw [e, List.length_map, List.length_map, hz]; exact small (by omega)) ?_ ?_
  · rintro i ys H3 hi ⟨cs, rfl, hz, h1, D3, O3⟩
    refine ⟨rfl, _, rfl, _, rfl, d, l, _, rfl, D3, by decide, by decide, fun r3 H4 r30 r31 D4 O4 => ?_⟩
    obtain ⟨c, ec, c0, c1⟩ := at_letter r30 r31
    refine ⟨_, _, c, rfl, rfl, abc_len.1, ec, cs ++ [c], by simp, by simp [hz], fun y hy => ?_, D4, O3.trans O4⟩
    rcases List.mem_append.mp hy with hy | hy
    · exact h1 y hy
    · rw [List.mem_singleton.mp hy]
      exact ⟨c0, c1⟩
  rintro ys H3 ⟨cs, rfl, hz, hcs, D3, O3⟩ pj hj
  have hcl : cs.length ≤ 5 := by omega
  refine ⟨_, pj, _, rfl, rfl, SqL.of upd_same, sgn_bound (by omega), ?_⟩
  rw [join_signs]
  have sj := same_new hj (.lst ((cs.map sgn).map V.str))
  have O3' := O3.trans (Oth.of_same sj)
  have D3' := D3.same sj
  generalize upd H3 pj (.lst ((cs.map sgn).map V.str)) = H4 at O3' D3' ⊢
  have lc : (⟨cs.toArray⟩ : Str).length = cs.length := List.size_toArray
  -- at, turn, near
  refine ⟨_, rfl, _, rfl, _, rfl, by rw [lc]; exact small (by omega), _, _, rfl, rfl, d, l, _, rfl, D3', by rw [lc]; omega, by rw [lc]; omega, fun at' H5 a0 a1 D5 O5 => ?_⟩
  refine ⟨_, rfl, d, l, _, rfl, D5, by decide, by decide, fun tu H6 t0 t1 D6 O6 => ?_⟩
  refine ⟨_, rfl, d, l, _, rfl, D6, by decide, by decide, fun nr H7 r0 r1 D7 O7 => ⟨rfl, (by show 3 ≤ sizeLine; decide), fun p3 hp3 => ⟨p3, _, _, _, rfl, SqT.of upd_same, (by show 0 ≤ sizeLine; decide), fun q hq => ?_⟩⟩⟩
  rw [lc] at a1
  obtain ⟨an, rfl⟩ := Int.eq_ofNat_of_zero_le a0
  obtain ⟨tn, rfl⟩ := Int.eq_ofNat_of_zero_le t0
  generalize decide (V.int nr = V.int 0) = near at hq ⊢
  have s3 := same_new hp3 (.tup [.int (an : Int), .int (tn : Int), .bl near])
  have O7' := O3'.trans (O5.trans (O6.trans (O7.trans (Oth.of_same s3))))
  have D7' := D7.same s3
  have dq := D7'.dne hq
  have hq0 : H q = none := O0.free (O7'.free hq dq.1 dq.2) dq.1 dq.2
  have hT7 := O7' _ _ hT0' dT.1 dT.2
  have hTq : pT ≠ q := ne_of_none hT7 hq
  have sq := same_new hq (.lst [])
  have O8 := O0.trans (O7'.trans (Oth.of_same sq))
  have hT8 := sq _ _ hT7
  have D8 := D7'.same sq
  refine ⟨_, rfl, many, rfl, by omega, by omega, for_range (lo := 0) (n := (many : Int).toNat) (fun i σ H' => ∃ (ns : List Str) (v9 v10 : Option V), σ = [some (.ref d), some (.int many), some (.str abc), some (.ref pT), some (.str ⟨cs.toArray⟩), some (.int an), some (.int tn), some (.bl near), some (.ref q), v9, v10] ∧ ns.length = i ∧ ns.Nodup ∧ (∀ z ∈ ns, IsW z ∧ z ∉ keptS) ∧ H' q = some (.lst (ns.map V.str)) ∧ H' pT = some (.lst keptV) ∧ Deal H' d l ∧ Oth d l H H')
    ⟨[], _, _, rfl, rfl, List.nodup_nil, (fun z hz => nomatch hz), upd_same, hT8, D8, O8⟩ ?_ ?_⟩
  · rintro i σ H9 hi ⟨ns, v9, v10, rfl, hl9, nd9, w9, hq9, hT9, D9, O9⟩
    have hi' : i < many := by simpa using hi
    have fin : ∀ (z' : Str) (v9 : Option V) (Hx : Hp), IsW z' → z' ∉ keptS → z' ∉ ns → Hx q = some (.lst (ns.map V.str)) → Hx pT = some (.lst keptV) → Deal Hx d l → Oth d l H Hx →
        ∃ (ns' : List Str) (w9 w10 : Option V), [some (.ref d), some (.int many), some (.str abc), some (.ref pT), some (.str ⟨cs.toArray⟩), some (.int an), some (.int tn), some (.bl near), some (.ref q), v9, some (.str z')] = [some (.ref d), some (.int many), some (.str abc), some (.ref pT), some (.str ⟨cs.toArray⟩), some (.int an), some (.int tn), some (.bl near), some (.ref q), w9, w10] ∧
          ns'.length = i + 1 ∧ ns'.Nodup ∧ (∀ z ∈ ns', IsW z ∧ z ∉ keptS) ∧ (upd Hx q (.lst ((ns ++ [z']).map V.str))) q = some (.lst (ns'.map V.str)) ∧ (upd Hx q (.lst ((ns ++ [z']).map V.str))) pT = some (.lst keptV) ∧ Deal (upd Hx q (.lst ((ns ++ [z']).map V.str))) d l ∧ Oth d l H (upd Hx q (.lst ((ns ++ [z']).map V.str))) := by
      intro z' v9 Hx wz nk nn hqx hTx Dx Ox
      refine ⟨ns ++ [z'], _, _, rfl, by simp [hl9], List.nodup_append.mpr ⟨nd9, by simp, fun a ha b hb e => ?_⟩, fun z hz => ?_, upd_same, by rw [upd_ne hTq]; exact hTx, ?_, fun b o e h1 h2 => ?_⟩
      · rw [List.mem_singleton.mp hb] at e
        exact nn (e ▸ ha)
      · rcases List.mem_append.mp hz with hz | hz
        · exact w9 z hz
        · rw [List.mem_singleton.mp hz]
          exact ⟨wz, nk⟩
      · obtain ⟨a, b, c, Dx⟩ := Dx
        exact ⟨a, b, c, by rw [upd_ne (Ne.symm dq.1)]; exact Dx.dc, by rw [upd_ne (Ne.symm dq.2)]; exact Dx.ll, Dx.s0, Dx.s1, Dx.n0, Dx.le, Dx.len⟩
      · rw [upd_ne (ne_of_none e hq0)]
        exact Ox b o e h1 h2
    obtain ⟨pw, pl1, pl2⟩ := isW_put hcl hcs (a := an) (i := (tn + i) % 26) (by omega) (Nat.mod_lt _ (by decide))
    have e26 : ((tn : Int) + (0 + (i : Int))) % 26 = (((tn + i) % 26 : Nat) : Int) := by omega
    have lin : (⟨cs.toArray⟩ : Str).length ≤ sizeLine := by rw [lc]; exact small (by omega)
    refine ⟨_, rfl, _, rfl, _, rfl, _, rfl, lin, _, rfl, _, rfl, _, rfl, _, _, rfl, rfl, _, _, rfl, rfl, (by show (0 : Int) < 26; decide), _, _, _, rfl, rfl, abc_len.1, (by rw [e26]; exact at_abc (tn + i)), _, _, rfl, rfl, Nat.le_trans (Nat.add_le_add pl1 (Nat.le_refl 1)) (by decide), ?_⟩
    refine ⟨_, rfl, _, rfl, _, rfl, _, rfl, lin, _, _, rfl, rfl, Nat.le_trans (Nat.le_of_eq (Array.size_append).symm) (Nat.le_trans pw.len (by decide)), ?_⟩
    refine ⟨_, rfl, _, rfl, ite2 (fun _ => ?_) (fun _ => ?_)⟩
    · refine ⟨rfl, _, rfl, d, l, _, rfl, D9, by decide, by decide, fun n2 Ha m0 m1 Da Oa => ⟨_, _, rfl, rfl, 1 + n2, rfl, by omega, by omega, ?_⟩⟩
      refine comp_range (lo := 0) (n := (1 + n2).toNat) (fun i ys H3 => ∃ cs : List Nat, ys = (cs.map sgn).map V.str ∧ cs.length = i ∧ (∀ c ∈ cs, 97 ≤ c ∧ c ≤ 122) ∧ Deal H3 d l ∧ Oth d l H9 H3) ⟨[], rfl, rfl, (fun c hc => nomatch hc), Da, Oa⟩
        (fun i ys H3 hi ⟨cs, e, hz, _⟩ => by rw [e, List.length_map, List.length_map, hz]; exact small (by omega)) ?_ ?_
      · rintro i ys H3 hi ⟨cs, rfl, hz, h1, D3, O3⟩
        refine ⟨rfl, _, rfl, _, rfl, d, l, _, rfl, D3, by decide, by decide, fun r3 H4 r30 r31 D4 O4 => ?_⟩
        obtain ⟨c, ec, c0, c1⟩ := at_letter r30 r31
        refine ⟨_, _, c, rfl, rfl, abc_len.1, ec, cs ++ [c], by simp, by simp [hz], fun y hy => ?_, D4, O3.trans O4⟩
        rcases List.mem_append.mp hy with hy | hy
        · exact h1 y hy
        · rw [List.mem_singleton.mp hy]
          exact ⟨c0, c1⟩
      rintro ys Hb ⟨cs2, rfl, hz2, h2, Db, Ob⟩ pj2 hj2
      refine ⟨_, pj2, _, rfl, rfl, SqL.of upd_same, sgn_bound (by omega), ?_⟩
      rw [join_signs]
      have sb := same_new hj2 (.lst ((cs2.map sgn).map V.str))
      have hqb := sb _ _ (Ob _ _ hq9 dq.1 dq.2)
      have hTb := sb _ _ (Ob _ _ hT9 dT.1 dT.2)
      have wz : IsW (⟨cs2.toArray⟩ : Str) := ⟨fun e => by have e' : cs2 = [] := e; rw [e'] at hz2; simp at hz2; omega, by show cs2.length ≤ 6; omega, h2⟩
      exact ql _ pT q ns _ _ _ _ _ _ _ wz hTb hqb (by omega) fun z' a b c => fin z' _ _ a b c hqb hTb (Db.same sb) (O9.trans (Ob.trans (Oth.of_same sb)))
    · exact ql _ pT q ns _ _ _ _ _ _ H9 pw hT9 hq9 (by omega) fun z' a b c => fin z' _ _ a b c hq9 hT9 D9 O9
  · rintro σ H9 ⟨ns, v9, v10, rfl, hl9, nd9, w9, hq9, hT9, D9, O9⟩
    exact ⟨_, rfl, k q ns H9 (by rw [hl9]; rfl) nd9 w9 hq0 dq.1 dq.2 hq9 D9 O9⟩
end
end Q16

set_option Elab.async false
set_option linter.all false
set_option maxRecDepth 100000
set_option maxHeartbeats 4000000
namespace Q16
open PySem L2 Wd
/-- a cost as the law draws it: in lowest terms, small -/
structure Cost (t b : Int) : Prop where
  t0 : 0 ≤ t
  t1 : t ≤ 999
  b0 : 0 < b
  b1 : b ≤ 9
  lo : Int.gcd t b = 1
def spLow : Sp := fun vs H Q _ => ∃ (t b : Int), vs = [.int t, .int b] ∧ 0 < b ∧ b.natAbs < 2 ^ 64 ∧ ∀ (p : Addr) (H' : Hp), Same H H' → H p = none → H' p = some (.tup [.int (t / (Int.gcd t b : Int)), .int (b / (Int.gcd t b : Int))]) → Q (.ref p) H'
def spCost : Sp := fun vs H Q _ => ∃ (d l : Addr), vs = [.ref d] ∧ Deal H d l ∧ ∀ (p : Addr) (t b : Int) (H' : Hp), Cost t b → H p = none → H' p = some (.tup [.int t, .int b]) → Deal H' d l → Oth d l H H' → Q (.ref p) H'
theorem gcd_step (x y : Nat) : Nat.gcd y (x % y) = Nat.gcd x y := (Nat.gcd_comm y (x % y)).trans ((Nat.gcd_rec y x).symm.trans (Nat.gcd_comm y x))
theorem cost_low {t b : Int} (t0 : 0 ≤ t) (t1 : t ≤ 999) (b0 : 0 < b) (b1 : b ≤ 9) : Cost (t / (Int.gcd t b : Int)) (b / (Int.gcd t b : Int)) := by
  obtain ⟨n, rfl⟩ := Int.eq_ofNat_of_zero_le t0
  obtain ⟨m, rfl⟩ := Int.eq_ofNat_of_zero_le (Int.le_of_lt b0)
  have e : Int.gcd (n : Int) (m : Int) = Nat.gcd n m := rfl
  rw [e]
  have gp : 0 < Nat.gcd n m := Nat.gcd_pos_of_pos_right _ (by omega)
  have gl : Nat.gcd n m ≤ m := Nat.gcd_le_right _ (by omega)
  have c : Nat.gcd (n / Nat.gcd n m) (m / Nat.gcd n m) = 1 := Nat.coprime_div_gcd_div_gcd gp
  have q1 : n / Nat.gcd n m ≤ n := Nat.div_le_self _ _
  have q2 : m / Nat.gcd n m ≤ m := Nat.div_le_self _ _
  have q3 : 0 < m / Nat.gcd n m := Nat.div_pos gl gp
  have e1 : (n : Int) / (Nat.gcd n m : Int) = ((n / Nat.gcd n m : Nat) : Int) := rfl
  have e2 : (m : Int) / (Nat.gcd n m : Int) = ((m / Nat.gcd n m : Nat) : Int) := rfl
  rw [e1, e2]
  generalize n / Nat.gcd n m = x at c q1
  generalize m / Nat.gcd n m = y at c q2 q3
  exact ⟨by omega, by omega, by omega, by omega, c⟩
section
variable {P : Program} {w : World} {K : PySem.W.Frag} {mg : Str → Option Value} {base : Heap} {f f1 f2 : Addr} {fd d1 d2 : FuncData}
theorem scLow : FnScope ["_law_top", "_law_bottom", "_law_one", "_law_other"] ["_law_top", "_law_bottom"] (defScope sLow) := ⟨rfl, rfl, rfl, by decide +kernel, rfl, by decide +kernel, by decide +kernel⟩
theorem ok_low (F : Fun K "_law_low" "_law_low" sLow f fd) (mx : mg "max" = none) : FnOk P w K mg base CX0 1 f fd ["_law_top", "_law_bottom"] spLow := by
  refine F.ok scLow (fun vs H Q E h => ?_) (fun cdv A outer s H vs Q E hr h => ?_)
  · obtain ⟨t, b, rfl, _⟩ := h
    rfl
  obtain ⟨u, c, rfl, c0, c1, k⟩ := h
  refine ⟨_, pss_cons (ps_par (i := 2) (j := 3) rfl scLow.nd rfl rfl (by decide) rfl rfl (pa_cons (pe_callB (call_max2 rfl) rfl mx (by decide +kernel) (pa_cons (pv 0) (pa_cons (pe_op op_sub pe_int (pv 0)) pa_nil))) (pa_cons (pv 1) pa_nil)) rfl)
     (pss_cons (ps_while PassesOwn.never (pt_cmpR op_gt (pv 3) pe_int (nomark _)) (pss_one (ps_par (i := 2) (j := 3) rfl scLow.nd rfl rfl (by decide) rfl rfl (pa_cons (pv 3) (pa_cons (pe_op op_mod (pv 2) (pv 3)) pa_nil)) rfl)))
     (pss_one (ps_ret (pe_tup (pa_cons (pe_op op_fdivB (pv 0) (pv 2)) (pa_cons (pe_op op_fdivB (pv 1) (pv 2)) pa_nil)))))), ?_⟩
  refine ⟨_, rfl, _, rfl, _, _, rfl, rfl, _, _, rfl, _, rfl, _, _, rfl, ?_⟩
  have e1 : (if 0 - u > u then 0 - u else u) = ((u.natAbs : Nat) : Int) := by split <;> omega
  have e2 : c = ((c.natAbs : Nat) : Int) := by omega
  refine ⟨fun m σ H2 => ∃ x y : Nat, σ = [some (.int u), some (.int c), some (.int x), some (.int y)] ∧ Nat.gcd x y = Int.gcd u c ∧ H = H2 ∧ m = y, ⟨_, u.natAbs, c.natAbs, ?_, rfl, rfl, rfl⟩, ?_⟩
  · rw [e1, ← e2]
    rfl
  rintro m σ H2 ⟨x, y, rfl, g, rfl, hm⟩
  refine ⟨_, rfl, _, _, rfl, rfl, _, rfl, ite2 (fun z => ?_) (fun z => ?_)⟩
  · have z' : (0 : Int) < y := of_decide_eq_true z
    refine ⟨fun σ' H' => σ' = [some (.int u), some (.int c), some (.int y), some (.int ((x % y : Nat) : Int))] ∧ H = H', fun σ' H' ⟨e3, e4⟩ => ⟨x % y, by rw [hm]; exact Nat.mod_lt _ (by omega), y, x % y, e3, (gcd_step x y).trans g, e4, rfl⟩, ?_⟩
    exact ⟨_, rfl, _, rfl, _, rfl, _, _, rfl, rfl, z', _, _, rfl, rfl, rfl⟩
  · have z' : ¬ (0 : Int) < y := of_decide_eq_false (by simpa using z)
    have y0 : y = 0 := by omega
    subst y0
    rw [Nat.gcd_zero_right] at g
    have gp : 0 < Int.gcd u c := Nat.gcd_pos_of_pos_right _ (by omega)
    have gl : Int.gcd u c ≤ c.natAbs := Nat.gcd_le_right _ (by omega)
    rw [g]
    refine ⟨_, rfl, _, rfl, _, _, rfl, rfl, ⟨by omega, by omega⟩, _, rfl, _, rfl, _, _, rfl, rfl, ⟨by omega, by omega⟩, (by show 2 ≤ sizeLine; decide), fun p hp => ?_⟩
    refine k p _ (same_new hp _) hp ?_
    rw [upd_same]
    show some (HO.tup [V.int (u.fdiv (Int.gcd u c : Int)), V.int (c.fdiv (Int.gcd u c : Int))]) = _
    rw [Int.fdiv_eq_ediv_of_nonneg u (show (0 : Int) ≤ (Int.gcd u c : Int) by omega), Int.fdiv_eq_ediv_of_nonneg c (show (0 : Int) ≤ (Int.gcd u c : Int) by omega)]
theorem scCost : FnScope ["_law_deal_here", "_law_form"] ["_law_deal_here"] (defScope sCost) := ⟨rfl, rfl, rfl, by decide +kernel, rfl, by decide +kernel, by decide +kernel⟩
theorem ok_cost (F : Fun K "_law_cost" "_law_cost" sCost f fd)
    (G : FnOk P w K mg base CX0 1 f1 d1 ["_law_deal_here", "_law_many"] spDraw) (bG : Binds K d1 ["_law_deal_here", "_law_many"] []) (kG : PySem.W.keepIn K (.ref f1) = true) (mG : mg "_law_draw" = some (.ref f1))
    (G2 : FnOk P w K mg base CX0 1 f2 d2 ["_law_top", "_law_bottom"] spLow) (b2 : Binds K d2 ["_law_top", "_law_bottom"] []) (k2 : PySem.W.keepIn K (.ref f2) = true) (m2 : mg "_law_low" = some (.ref f2)) :
    FnOk P w K mg base CX0 2 f fd ["_law_deal_here"] spCost := by
  refine F.ok scCost (fun vs H Q E h => ?_) (fun cdv A outer s H vs Q E hr h => ?_)
  · obtain ⟨d, l, rfl, _⟩ := h
    rfl
  obtain ⟨d, l, rfl, D, k⟩ := h
  refine ⟨_, pss_cons (ps_set (i := 1) scCost.nd rfl (Or.inl rfl) (pe_call G hr rfl mG kG bG .nil pass0 (pa_cons (pv 0) (pa_cons pe_int pa_nil))))
    (pss_cons (ps_if (pt_cmpR op_eq (pv 1) pe_int (nomark _)) (pss_one (ps_ret (pe_tup (pa_cons pe_int (pa_cons pe_int pa_nil))))) pss_nil)
    (pss_cons (ps_if (pt_cmpR op_lt (pv 1) pe_int (nomark _)) (pss_one (ps_ret (pe_tup (pa_cons (pe_op op_add pe_int (pe_call G hr rfl mG kG bG .nil pass0 (pa_cons (pv 0) (pa_cons pe_int pa_nil)))) (pa_cons pe_int pa_nil))))) pss_nil)
    (pss_one (ps_ret (pe_call G2 hr rfl m2 k2 b2 .nil pass0 (pa_cons (pe_call G hr rfl mG kG bG .nil pass0 (pa_cons (pv 0) (pa_cons pe_int pa_nil)))
      (pa_cons (pe_op op_add pe_int (pe_call G hr rfl mG kG bG .nil pass0 (pa_cons (pv 0) (pa_cons pe_int pa_nil)))) pa_nil))))))), ?_⟩
  refine ⟨_, rfl, d, l, _, rfl, D, by decide, by decide, fun fo H1 f0 f1 D1 O1 => ?_⟩
  refine ⟨_, rfl, rfl, _, rfl, ite2 (fun _ => ?_) (fun _ => ?_)⟩
  · refine ⟨(by show 2 ≤ sizeLine; decide), fun p hp => ?_⟩
    have n := D1.dne hp
    exact k p 0 1 _ ⟨by decide, by decide, by decide, by decide, by decide⟩ (O1.free hp n.1 n.2) upd_same (D1.same (same_new hp _)) (O1.trans (Oth.of_same (same_new hp _)))
  refine ⟨_, rfl, _, _, rfl, rfl, _, rfl, ite2 (fun _ => ?_) (fun _ => ?_)⟩
  · refine ⟨_, rfl, d, l, _, rfl, D1, by decide, by decide, fun r H2 r0 r1 D2 O2 => ⟨_, _, rfl, rfl, (by show 2 ≤ sizeLine; decide), fun p hp => ?_⟩⟩
    have n := D2.dne hp
    have O := O1.trans O2
    exact k p (1 + r) 1 _ ⟨by omega, by omega, by decide, by decide, Int.gcd_one⟩ (O.free hp n.1 n.2) upd_same (D2.same (same_new hp _)) (O.trans (Oth.of_same (same_new hp _)))
  · refine ⟨_, rfl, d, l, _, rfl, D1, by decide, by decide, fun r H2 r0 r1 D2 O2 => ⟨_, rfl, d, l, _, rfl, D2, by decide, by decide, fun r2 H3 r20 r21 D3 O3 => ⟨_, _, rfl, rfl, _, _, rfl, by omega, by omega, fun p H4 s4 hp e4 => ?_⟩⟩⟩
    have n := D3.dne hp
    have O := O1.trans (O2.trans O3)
    exact k p _ _ _ (cost_low r0 (by omega) (by omega) (by omega)) (O.free hp n.1 n.2) e4 (D3.same s4) (O.trans (Oth.of_same s4))
end
end Q16

set_option Elab.async false
set_option linter.all false
set_option maxRecDepth 100000
set_option maxHeartbeats 4000000
namespace Q16
open PySem L2 Wd
inductive Bd where
  | rest
  | pay (t b : Int)
  | put (z : Str) (n : Int)
  | use (z : Str)
  | thn (a b : Bd)
  | eit (a b : Bd)
  | tak (z : Str) (n : Int) (a b : Bd)
  | oft (a : Bd)
/-- the body t stands at p -/
def BAt (H : Hp) : Bd → Addr → Prop
  | .rest, p => H p = some (.tup [.str "rest"])
  | .pay t b, p => ∃ c, H p = some (.tup [.str "pay", .ref c]) ∧ H c = some (.tup [.int t, .int b])
  | .put z n, p => H p = some (.tup [.str "put", .str z, .int n])
  | .use z, p => H p = some (.tup [.str "use", .str z])
  | .thn a b, p => ∃ q r, H p = some (.tup [.str "then", .ref q, .ref r]) ∧ BAt H a q ∧ BAt H b r
  | .eit a b, p => ∃ q r, H p = some (.tup [.str "either", .ref q, .ref r]) ∧ BAt H a q ∧ BAt H b r
  | .tak z n a b, p => ∃ q r, H p = some (.tup [.str "take", .str z, .int n, .ref q, .ref r]) ∧ BAt H a q ∧ BAt H b r
  | .oft a, p => ∃ q, H p = some (.tup [.str "often", .ref q]) ∧ BAt H a q
/-- tuples are kept -/
def Tups (H H' : Hp) : Prop := ∀ p xs, H p = some (.tup xs) → H' p = some (.tup xs)
theorem Tups.of_same {H H' : Hp} (s : Same H H') : Tups H H' := fun p _ e => s p _ e
theorem Tups.of_oth {H H' : Hp} {d l : Addr} (D : Deal H d l) (o : Oth d l H H') : Tups H H' := fun p xs e => by
  obtain ⟨_, _, _, D⟩ := D
  exact o p _ e (ne_of e D.dc (by intro z; cases z)) (ne_of e D.ll (by intro z; cases z))
theorem Tups.upd {H : Hp} {x : Addr} {o : HO} {ys : List V} (h : H x = some (.lst ys)) : Tups H (upd H x o) := fun p xs e => by
  rw [upd_ne (ne_of e h (by intro z; cases z))]
  exact e
theorem Tups.trans {H H1 H2 : Hp} (a : Tups H H1) (b : Tups H1 H2) : Tups H H2 := fun p xs e => b p xs (a p xs e)
theorem BAt.mono {H H' : Hp} (m : Tups H H') : ∀ {t : Bd} {p : Addr}, BAt H t p → BAt H' t p := by
  intro t
  induction t with
  | rest => intro p h; exact m _ _ h
  | pay t b => intro p ⟨c, h1, h2⟩; exact ⟨c, m _ _ h1, m _ _ h2⟩
  | put z n => intro p h; exact m _ _ h
  | use z => intro p h; exact m _ _ h
  | thn a b iha ihb => intro p ⟨q, r, h1, h2, h3⟩; exact ⟨q, r, m _ _ h1, iha h2, ihb h3⟩
  | eit a b iha ihb => intro p ⟨q, r, h1, h2, h3⟩; exact ⟨q, r, m _ _ h1, iha h2, ihb h3⟩
  | tak z n a b iha ihb => intro p ⟨q, r, h1, h2, h3⟩; exact ⟨q, r, m _ _ h1, iha h2, ihb h3⟩
  | oft a iha => intro p ⟨q, h1, h2⟩; exact ⟨q, m _ _ h1, iha h2⟩
/-- what the law draws: jars of js, deeds of us -/
def Bd.ok (js us : List Str) : Bd → Prop
  | .rest => True
  | .pay t b => Cost t b
  | .put z n => z ∈ js ∧ 1 ≤ n ∧ n ≤ 9
  | .use z => z ∈ us
  | .thn a b => a.ok js us ∧ b.ok js us
  | .eit a b => a.ok js us ∧ b.ok js us
  | .tak z n a b => (z ∈ js ∧ 1 ≤ n ∧ n ≤ 9) ∧ a.ok js us ∧ b.ok js us
  | .oft a => a.ok js us
/-- how many parts one within another, but one -/
def Bd.dep : Bd → Nat
  | .thn a b => max a.dep b.dep + 1
  | .eit a b => max a.dep b.dep + 1
  | .tak _ _ a b => max a.dep b.dep + 1
  | .oft a => a.dep + 1
  | _ => 0
def spLeaf : Sp := fun vs H Q _ => ∃ (d l j : Addr) (js : List Str), vs = [.ref d, .ref j] ∧ Deal H d l ∧ H j = some (.tup (js.map V.str)) ∧ js.length ≤ 1000 ∧
  ∀ (p : Addr) (t : Bd) (H' : Hp), t.ok js [] → t.dep = 0 → BAt H' t p → Deal H' d l → Oth d l H H' → Q (.ref p) H'
theorem at_some_int {xs : List Int} {r : Int} (h0 : 0 ≤ r) (h1 : r < xs.length) : ∃ v, atI (xs.map V.int) r = some (.int v) ∧ v ∈ xs := by
  obtain ⟨v, e, m⟩ := at_some (xs := xs.map V.int) h0 (by rw [List.length_map]; exact h1)
  obtain ⟨x, hx, rfl⟩ := List.mem_map.mp m
  exact ⟨x, e, hx⟩
theorem at_some_str {xs : List Str} {r : Int} (h0 : 0 ≤ r) (h1 : r < xs.length) : ∃ v, atI (xs.map V.str) r = some (.str v) ∧ v ∈ xs := by
  obtain ⟨v, e, m⟩ := at_some (xs := xs.map V.str) h0 (by rw [List.length_map]; exact h1)
  obtain ⟨x, hx, rfl⟩ := List.mem_map.mp m
  exact ⟨x, e, hx⟩
section
variable {P : Program} {w : World} {K : PySem.W.Frag} {mg : Str → Option Value} {base : Heap} {f f1 f2 : Addr} {fd d1 d2 : FuncData}
theorem scLeaf : FnScope ["_law_deal_here", "_law_jars", "_law_form", "_law_many"] ["_law_deal_here", "_law_jars"] (defScope sLeaf) := ⟨rfl, rfl, rfl, by decide +kernel, rfl, by decide +kernel, by decide +kernel⟩
theorem ok_leaf (F : Fun K "_law_leaf" "_law_leaf" sLeaf f fd)
    (G : FnOk P w K mg base CX0 1 f1 d1 ["_law_deal_here", "_law_many"] spDraw) (bG : Binds K d1 ["_law_deal_here", "_law_many"] []) (kG : PySem.W.keepIn K (.ref f1) = true) (mG : mg "_law_draw" = some (.ref f1))
    (G2 : FnOk P w K mg base CX0 2 f2 d2 ["_law_deal_here"] spCost) (b2 : Binds K d2 ["_law_deal_here"] []) (k2 : PySem.W.keepIn K (.ref f2) = true) (m2 : mg "_law_cost" = some (.ref f2)) (z3 : mg "len" = none) :
    FnOk P w K mg base CX0 3 f fd ["_law_deal_here", "_law_jars"] spLeaf := by
  refine F.ok scLeaf (fun vs H Q E h => ?_) (fun cdv A outer s H vs Q E hr h => ?_)
  · obtain ⟨d, l, j, js, rfl, _⟩ := h
    rfl
  obtain ⟨d, l, j, js, rfl, D, hj, hjl, k⟩ := h
  have hr1 : Room 1 (A.deeper (PyProof.Rows.envOfC "_law_leaf" (defScope sLeaf) s.heap.objs.size f cdv)) := hr.mono (by decide)
  refine ⟨_, pss_cons (ps_set (i := 2) scLeaf.nd rfl (Or.inl rfl) (pe_call G hr1 rfl mG kG bG .nil pass0 (pa_cons (pv 0) (pa_cons pe_int pa_nil))))
    (pss_cons (ps_if (pt_cmpR op_eq (pv 2) pe_int (nomark _)) (pss_one (ps_ret (pe_tup (pa_cons pe_str pa_nil)))) pss_nil)
    (pss_cons (ps_if (PW.pt (pw_or (pt_cmpR op_lt (pv 2) pe_int (nomark _)) (pw_or1 (pt_cmpR op_eq (pe_callB call_len_seq rfl z3 PySem.boot_len (pa_cons (pv 1) pa_nil)) pe_int (nomark _)))))
      (pss_one (ps_ret (pe_tup (pa_cons pe_str (pa_cons (pe_call G2 hr rfl m2 k2 b2 .nil pass0 (pa_cons (pv 0) pa_nil)) pa_nil))))) pss_nil)
    (pss_cons (ps_set (i := 3) scLeaf.nd rfl (Or.inl rfl) (pe_ix ix_list (pe_lst (pa_cons pe_int (pa_cons pe_int (pa_cons (pe_op op_add pe_int (pe_call G hr1 rfl mG kG bG .nil pass0 (pa_cons (pv 0) (pa_cons pe_int pa_nil)))) pa_nil))))
      (pe_call G hr1 rfl mG kG bG .nil pass0 (pa_cons (pv 0) (pa_cons pe_int pa_nil))) (fun _ _ => rfl)))
    (pss_one (ps_ret (pe_tup (pa_cons pe_str (pa_cons (pe_ix ix_tup (pv 1) (pe_call G hr1 rfl mG kG bG .nil pass0 (pa_cons (pv 0) (pa_cons (pe_callB call_len_seq rfl z3 PySem.boot_len (pa_cons (pv 1) pa_nil)) pa_nil))) (fun _ _ => rfl)) (pa_cons (pv 3) pa_nil))))))))), ?_⟩
  refine ⟨_, rfl, d, l, _, rfl, D, by decide, by decide, fun fo H1 f0 f1 D1 O1 => ?_⟩
  have hj1 := Tups.of_oth D O1 _ _ hj
  refine ⟨_, rfl, rfl, _, rfl, ite2 (fun _ => ?_) (fun _ => ?_)⟩
  · refine ⟨(by show 1 ≤ sizeLine; decide), fun p hp => ?_⟩
    exact k p .rest _ trivial rfl upd_same (D1.same (same_new hp _)) (O1.trans (Oth.of_same (same_new hp _)))
  refine ⟨_, rfl, _, _, rfl, rfl, _, rfl, ite2 (fun _ => iteT ?_) (fun _ => ⟨_, rfl, j, _, rfl, .inr (SqT.of hj1), rfl, _, rfl, ite2 (fun _ => ?_) (fun g => ?_)⟩)⟩
  rotate_left 2
  · have hne : js ≠ [] := by
      rintro rfl
      exact g (by decide)
    have hl0 := List.length_pos_iff.mpr hne
    refine ⟨_, rfl, d, l, _, rfl, D1, by decide, by decide, fun r H2 r0 r1 D2 O2 => ⟨_, _, rfl, rfl, (by show 3 ≤ sizeLine; decide), fun pl hpl => ?_⟩⟩
    have sl := same_new hpl (.lst [.int 1, .int 2, .int (1 + r)])
    have dl := D2.dne hpl
    refine ⟨_, rfl, d, l, _, rfl, D2.same sl, by decide, by decide, fun r2 H3 r20 r21 D3 O3 => ?_⟩
    obtain ⟨m, em, mm⟩ := at_some_int (xs := [1, 2, 1 + r]) r20 r21
    have m19 : 1 ≤ m ∧ m ≤ 9 := by
      simp only [List.mem_cons, List.not_mem_nil, or_false] at mm
      omega
    refine ⟨pl, _, _, _, rfl, rfl, SqL.of (O3 _ _ upd_same dl.1 dl.2), em, ?_⟩
    have hj3 := (Tups.of_oth D1 O2).trans ((Tups.of_same sl).trans (Tups.of_oth (D2.same sl) O3)) _ _ hj1
    refine ⟨_, rfl, _, rfl, _, rfl, j, _, rfl, .inr (SqT.of hj3), d, l, _, rfl, D3, by rw [List.length_map]; omega, by rw [List.length_map]; omega, fun r3 H4 r30 r31 D4 O4 => ?_⟩
    rw [List.length_map] at r31
    obtain ⟨z, ez, mz⟩ := at_some_str r30 r31
    refine ⟨j, _, _, _, rfl, rfl, SqT.of (Tups.of_oth D3 O4 _ _ hj3), ez, _, rfl, (by show 3 ≤ sizeLine; decide), fun p hp => ?_⟩
    exact k p (.put z m) _ ⟨mz, m19.1, m19.2⟩ rfl upd_same (D4.same (same_new hp _)) (O1.trans (O2.trans ((Oth.of_same sl).trans (O3.trans (O4.trans (Oth.of_same (same_new hp _)))))))
  all_goals
    refine ⟨_, rfl, d, l, rfl, D1, fun c t b H2 hc hcn hc2 D2 O2 => ⟨(by show 2 ≤ sizeLine; decide), fun p hp => ?_⟩⟩
    have sp := same_new hp (.tup [.str "pay", .ref c])
    exact k p (.pay t b) _ hc rfl ⟨c, upd_same, sp _ _ hc2⟩ (D2.same sp) (O1.trans (O2.trans (Oth.of_same sp)))
end
end Q16

set_option Elab.async false
set_option linter.all false
set_option maxRecDepth 100000
set_option maxHeartbeats 4000000
namespace Q16
open PySem L2 Wd
/-- all but the deal and the list x is as it was -/
def OthX (d l x : Addr) (H H' : Hp) : Prop := ∀ b o, H b = some o → b ≠ d → b ≠ l → b ≠ x → H' b = some o
theorem OthX.trans {d l x : Addr} {H H1 H2 : Hp} (a : OthX d l x H H1) (b : OthX d l x H1 H2) : OthX d l x H H2 := fun c o h h1 h2 h3 => b c o (a c o h h1 h2 h3) h1 h2 h3
theorem Oth.x {d l x : Addr} {H H' : Hp} (a : Oth d l H H') : OthX d l x H H' := fun c o h h1 h2 _ => a c o h h1 h2
theorem othX_upd {d l x : Addr} {H : Hp} {o : HO} : OthX d l x H (upd H x o) := fun b u q _ _ h => by rw [upd_ne h]; exact q
theorem Tups.of_othX {H H' : Hp} {d l x : Addr} {ys : List V} (D : Deal H d l) (hx : H x = some (.lst ys)) (o : OthX d l x H H') : Tups H H' := fun p xs e => by
  obtain ⟨_, _, _, D⟩ := D
  exact o p _ e (ne_of e D.dc (by intro z; cases z)) (ne_of e D.ll (by intro z; cases z)) (ne_of e hx (by intro z; cases z))
theorem Deal.upd {H : Hp} {d l x : Addr} {o : HO} (D : Deal H d l) (h1 : x ≠ d) (h2 : x ≠ l) : Deal (upd H x o) d l := by
  obtain ⟨a, b, c, D⟩ := D
  exact ⟨a, b, c, by rw [upd_ne (Ne.symm h1)]; exact D.dc, by rw [upd_ne (Ne.symm h2)]; exact D.ll, D.s0, D.s1, D.n0, D.le, D.len⟩
def spBody (n : Nat) : Sp := fun vs H Q _ => ∃ (d l j x : Addr) (js : List Str) (mm nn : Int), vs = [.ref d, .ref j, .ref x, .int nn] ∧ nn = n ∧ Deal H d l ∧ H j = some (.tup (js.map V.str)) ∧ js.length ≤ 1000 ∧ H x = some (.lst [.int mm]) ∧ x ≠ l ∧
  ∀ (p : Addr) (t : Bd) (mm' : Int) (H' : Hp), t.ok js [] → t.dep ≤ n → BAt H' t p → Deal H' d l → H' x = some (.lst [.int mm']) → OthX d l x H H' → Q (.ref p) H'
abbrev PB : List Str := ["_law_deal_here", "_law_jars", "_law_left", "_law_down"]
abbrev NB : List Str := ["_law_deal_here", "_law_jars", "_law_left", "_law_down", "_law_form", "_law_one", "_law_other", "_law_many"]
section
variable {P : Program} {w : World} {K : PySem.W.Frag} {mg : Str → Option Value} {base : Heap} {f f1 f2 : Addr} {fd d1 d2 : FuncData}
theorem scBody : FnScope NB PB (defScope sBody) := ⟨rfl, rfl, rfl, by decide +kernel, rfl, by decide +kernel, by decide +kernel⟩
theorem body_step (n : Nat) (spP : Sp) (F : Fun K "_law_body" "_law_body" sBody f fd)
    (R : FnOk P w K mg base CX0 (3 + n) f fd PB spP) (hR : ∀ m, n = m + 1 → spP = spBody m) (bR : Binds K fd PB []) (kR : PySem.W.keepIn K (.ref f) = true) (mR : mg "_law_body" = some (.ref f))
    (G : FnOk P w K mg base CX0 1 f1 d1 ["_law_deal_here", "_law_many"] spDraw) (bG : Binds K d1 ["_law_deal_here", "_law_many"] []) (kG : PySem.W.keepIn K (.ref f1) = true) (mG : mg "_law_draw" = some (.ref f1))
    (G2 : FnOk P w K mg base CX0 3 f2 d2 ["_law_deal_here", "_law_jars"] spLeaf) (b2 : Binds K d2 ["_law_deal_here", "_law_jars"] []) (k2 : PySem.W.keepIn K (.ref f2) = true) (m2 : mg "_law_leaf" = some (.ref f2)) (z3 : mg "len" = none) :
    FnOk P w K mg base CX0 (3 + n + 1) f fd PB (spBody n) := by
  refine F.ok scBody (fun vs H Q E h => ?_) (fun cdv A outer s H vs Q E hr h => ?_)
  · obtain ⟨d, l, j, x, js, mm, nn, rfl, _⟩ := h
    rfl
  obtain ⟨d, l, j, x, js, mm, nn, rfl, rfl, D, hj, hjl, hx, hxl, k⟩ := h
  have hr1 : Room 1 (A.deeper (PyProof.Rows.envOfC "_law_body" (defScope sBody) s.heap.objs.size f cdv)) := hr.mono (by omega)
  have hr3 : Room 3 (A.deeper (PyProof.Rows.envOfC "_law_body" (defScope sBody) s.heap.objs.size f cdv)) := hr.mono (by omega)
  refine ⟨_, pss_cons (ps_set (i := 4) scBody.nd rfl (Or.inl rfl) (pe_call G hr1 rfl mG kG bG .nil pass0 (pa_cons (pv 0) (pa_cons pe_int pa_nil))))
    (pss_cons (ps_if (PW.pt (pw_or (pt_cmpR op_eq (pv 3) pe_int (nomark _)) (pw_or (pt_cmpR op_lt (pe_ix ix_list (pv 2) pe_int (fun _ _ => rfl)) pe_int (nomark _)) (pw_or1 (pt_cmpR op_lt (pv 4) pe_int (nomark _))))))
      (pss_one (ps_ret (pe_call G2 hr3 rfl m2 k2 b2 .nil pass0 (pa_cons (pv 0) (pa_cons (pv 1) pa_nil))))) pss_nil)
    (pss_cons (ps_if (pt_cmpR op_lt (pv 4) pe_int (nomark _))
      (pss_cons (ps_asg (pe_op op_sub (pe_ix ix_list (pv 2) pe_int (fun _ _ => rfl)) pe_int) (pg_sub (pv 2) pe_int set_list))
      (pss_one (ps_ret (pe_tup (pa_cons pe_str (pa_cons (pe_call R hr rfl mR kR bR .nil pass0 (pa_cons (pv 0) (pa_cons (pv 1) (pa_cons (pv 2) (pa_cons (pe_op op_sub (pv 3) pe_int) pa_nil))))) pa_nil)))))) pss_nil)
    (pss_cons (ps_asg (pe_op op_sub (pe_ix ix_list (pv 2) pe_int (fun _ _ => rfl)) pe_int) (pg_sub (pv 2) pe_int set_list))
    (pss_cons (ps_set (i := 5) scBody.nd rfl (Or.inl rfl) (pe_call R hr rfl mR kR bR .nil pass0 (pa_cons (pv 0) (pa_cons (pv 1) (pa_cons (pv 2) (pa_cons (pe_op op_sub (pv 3) pe_int) pa_nil))))))
    (pss_cons (ps_set (i := 6) scBody.nd rfl (Or.inl rfl) (pe_call R hr rfl mR kR bR .nil pass0 (pa_cons (pv 0) (pa_cons (pv 1) (pa_cons (pv 2) (pa_cons (pe_op op_sub (pv 3) pe_int) pa_nil))))))
    (pss_cons (ps_if (pt_cmpR op_lt (pv 4) pe_int (nomark _)) (pss_one (ps_ret (pe_tup (pa_cons pe_str (pa_cons (pv 5) (pa_cons (pv 6) pa_nil)))))) pss_nil)
    (pss_cons (ps_if (PW.pt (pw_or (pt_cmpR op_eq (pv 4) pe_int (nomark _)) (pw_or1 (pt_cmpR op_eq (pe_callB call_len_seq rfl z3 PySem.boot_len (pa_cons (pv 1) pa_nil)) pe_int (nomark _)))))
      (pss_one (ps_ret (pe_tup (pa_cons pe_str (pa_cons (pv 5) (pa_cons (pv 6) pa_nil)))))) pss_nil)
    (pss_cons (ps_set (i := 7) scBody.nd rfl (Or.inl rfl) (pe_ix ix_list (pe_lst (pa_cons pe_int (pa_cons pe_int (pa_cons pe_int (pa_cons (pe_op op_add pe_int (pe_call G hr1 rfl mG kG bG .nil pass0 (pa_cons (pv 0) (pa_cons pe_int pa_nil)))) pa_nil)))))
      (pe_call G hr1 rfl mG kG bG .nil pass0 (pa_cons (pv 0) (pa_cons pe_int pa_nil))) (fun _ _ => rfl)))
    (pss_one (ps_ret (pe_tup (pa_cons pe_str (pa_cons (pe_ix ix_tup (pv 1) (pe_call G hr1 rfl mG kG bG .nil pass0 (pa_cons (pv 0) (pa_cons (pe_callB call_len_seq rfl z3 PySem.boot_len (pa_cons (pv 1) pa_nil)) pa_nil))) (fun _ _ => rfl)) (pa_cons (pv 7) (pa_cons (pv 5) (pa_cons (pv 6) pa_nil)))))))))))))))), ?_⟩
  refine ⟨_, rfl, d, l, _, rfl, D, by decide, by decide, fun fo H1 f0 f1 D1 O1 => ?_⟩
  have hxd : x ≠ d := by obtain ⟨_, _, _, D⟩ := D; exact ne_of hx D.dc (by intro z; cases z)
  have hj1 := Tups.of_oth D O1 _ _ hj
  have hx1 := O1 _ _ hx hxd hxl
  have at0 : ∀ v : V, atI [v] 0 = some v := fun v => atI_nat (j := 0) rfl
  refine ⟨_, rfl, rfl, _, rfl, ite2 (fun c1 => iteT ?_) (fun c1 => ⟨_, rfl, x, _, _, _, rfl, rfl, SqL.of hx1, at0 _, _, _, rfl, rfl, _, rfl, ite2 (fun c2 => iteT ?_) (fun c2 => ⟨_, rfl, _, _, rfl, rfl, _, rfl, ite2 (fun c3 => ?_) (fun c3 => ?_)⟩)⟩)⟩
  rotate_left 3
  · obtain ⟨m, rfl⟩ : ∃ m, n = m + 1 := by
      cases n with
      | zero => exact absurd rfl c1
      | succ m => exact ⟨m, rfl⟩
    have eP := hR m rfl
    subst eP
    refine ⟨_, rfl, _, _, rfl, rfl, _, rfl, ite2 (fun c5 => ?_) (fun c5 => ?_)⟩
    · refine ⟨_, rfl, x, _, _, _, rfl, rfl, SqL.of hx1, at0 _, _, _, rfl, rfl, _, rfl, x, _, _, 0, rfl, rfl, hx1, rfl, ?_⟩
      have D2 := D1.upd (o := .lst [.int (mm - 1)]) hxd hxl
      have hj2 := Tups.upd (o := .lst [.int (mm - 1)]) hx1 _ _ hj1
      refine ⟨_, rfl, _, rfl, _, rfl, _, rfl, _, _, rfl, rfl, d, l, j, x, js, mm - 1, _, rfl, by omega, D2, hj2, hjl, upd_same, hxl, fun p t m3 H3 ok3 dp3 B3 D3 hx3 O3 => ⟨(by show 2 ≤ sizeLine; decide), fun q hq => ?_⟩⟩
      have sq := same_new hq (.tup [.str "often", .ref p])
      exact k q (.oft t) m3 _ ok3 (by show t.dep + 1 ≤ m + 1; omega) ⟨p, upd_same, B3.mono (Tups.of_same sq)⟩ (D3.same sq) (sq _ _ hx3) (O1.x.trans (othX_upd.trans (O3.trans (Oth.of_same sq).x)))
    · refine ⟨_, rfl, x, _, _, _, rfl, rfl, SqL.of hx1, at0 _, _, _, rfl, rfl, _, rfl, x, _, _, 0, rfl, rfl, hx1, rfl, ?_⟩
      have D2 := D1.upd (o := .lst [.int (mm - 2)]) hxd hxl
      have hj2 := Tups.upd (o := .lst [.int (mm - 2)]) hx1 _ _ hj1
      have O2 : OthX d l x H (upd H1 x (.lst [.int (mm - 2)])) := O1.x.trans othX_upd
      refine ⟨_, rfl, _, rfl, _, rfl, _, rfl, _, _, rfl, rfl, d, l, j, x, js, mm - 2, _, rfl, by omega, D2, hj2, hjl, upd_same, hxl, fun p3 t3 m3 H3 ok3 dp3 B3 D3 hx3 O3 => ?_⟩
      have hj3 := Tups.of_othX D2 upd_same O3 _ _ hj2
      refine ⟨_, rfl, _, rfl, _, rfl, _, rfl, _, _, rfl, rfl, d, l, j, x, js, m3, _, rfl, by omega, D3, hj3, hjl, hx3, hxl, fun p4 t4 m4 H4 ok4 dp4 B4 D4 hx4 O4 => ?_⟩
      have hj4 := Tups.of_othX D3 hx3 O4 _ _ hj3
      have B34 := B3.mono (Tups.of_othX D3 hx3 O4)
      have O4' := O2.trans (O3.trans O4)
      have dp : max t3.dep t4.dep + 1 ≤ m + 1 := by omega
      refine ⟨_, rfl, _, _, rfl, rfl, _, rfl, ite2 (fun _ => ?_) (fun _ => ?_)⟩
      · refine ⟨_, rfl, _, rfl, (by show 3 ≤ sizeLine; decide), fun q hq => ?_⟩
        have sq := same_new hq (.tup [.str "then", .ref p3, .ref p4])
        exact k q (.thn t3 t4) m4 _ ⟨ok3, ok4⟩ dp ⟨p3, p4, upd_same, B34.mono (Tups.of_same sq), B4.mono (Tups.of_same sq)⟩ (D4.same sq) (sq _ _ hx4) (O4'.trans (Oth.of_same sq).x)
      refine ⟨_, rfl, rfl, _, rfl, ite2 (fun _ => iteT ?_) (fun _ => ⟨_, rfl, j, _, rfl, .inr (SqT.of hj4), rfl, _, rfl, ite2 (fun _ => ?_) (fun g => ?_)⟩)⟩
      rotate_left 2
      · have hne : js ≠ [] := by
          rintro rfl
          exact g (by decide)
        have hl0 := List.length_pos_iff.mpr hne
        refine ⟨_, rfl, d, l, _, rfl, D4, by decide, by decide, fun r H5 r0 r1 D5 O5 => ⟨_, _, rfl, rfl, (by show 4 ≤ sizeLine; decide), fun pl hpl => ?_⟩⟩
        have sl := same_new hpl (.lst [.int 1, .int 1, .int 2, .int (1 + r)])
        have dl := D5.dne hpl
        refine ⟨_, rfl, d, l, _, rfl, D5.same sl, by decide, by decide, fun r2 H6 r20 r21 D6 O6 => ?_⟩
        obtain ⟨mv, em, mmv⟩ := at_some_int (xs := [1, 1, 2, 1 + r]) r20 r21
        have m19 : 1 ≤ mv ∧ mv ≤ 9 := by
          simp only [List.mem_cons, List.not_mem_nil, or_false] at mmv
          omega
        refine ⟨pl, _, _, _, rfl, rfl, SqL.of (O6 _ _ upd_same dl.1 dl.2), em, ?_⟩
        have T6 := (Tups.of_oth D4 O5).trans ((Tups.of_same sl).trans (Tups.of_oth (D5.same sl) O6))
        have hj6 := T6 _ _ hj4
        refine ⟨_, rfl, _, rfl, _, rfl, j, _, rfl, .inr (SqT.of hj6), d, l, _, rfl, D6, by rw [List.length_map]; omega, by rw [List.length_map]; omega, fun r3 H7 r30 r31 D7 O7 => ?_⟩
        rw [List.length_map] at r31
        obtain ⟨z, ez, mz⟩ := at_some_str r30 r31
        have T7 := T6.trans (Tups.of_oth D6 O7)
        have O47 : Oth d l H4 H7 := O5.trans ((Oth.of_same sl).trans (O6.trans O7))
        refine ⟨j, _, _, _, rfl, rfl, SqT.of (T7 _ _ hj4), ez, _, rfl, _, rfl, _, rfl, (by show 5 ≤ sizeLine; decide), fun q hq => ?_⟩
        have sq := same_new hq (.tup [.str "take", .str z, .int mv, .ref p3, .ref p4])
        exact k q (.tak z mv t3 t4) m4 _ ⟨⟨mz, m19.1, m19.2⟩, ok3, ok4⟩ dp ⟨p3, p4, upd_same, (B34.mono T7).mono (Tups.of_same sq), (B4.mono T7).mono (Tups.of_same sq)⟩ (D7.same sq) (sq _ _ (O47 _ _ hx4 hxd hxl)) (O4'.trans (O47.x.trans (Oth.of_same sq).x))
      all_goals
        refine ⟨_, rfl, _, rfl, (by show 3 ≤ sizeLine; decide), fun q hq => ?_⟩
        have sq := same_new hq (.tup [.str "either", .ref p3, .ref p4])
        exact k q (.eit t3 t4) m4 _ ⟨ok3, ok4⟩ dp ⟨p3, p4, upd_same, B34.mono (Tups.of_same sq), B4.mono (Tups.of_same sq)⟩ (D4.same sq) (sq _ _ hx4) (O4'.trans (Oth.of_same sq).x)
  all_goals
    refine ⟨_, rfl, _, rfl, d, l, j, js, rfl, D1, hj1, hjl, fun p t H' ok dp B D' O' => ?_⟩
    exact k p t mm _ ok (by omega) B D' (O' _ _ hx1 hxd hxl) (O1.trans O').x
theorem ok_body (F : Fun K "_law_body" "_law_body" sBody f fd) (bR : Binds K fd PB []) (kR : PySem.W.keepIn K (.ref f) = true) (mR : mg "_law_body" = some (.ref f))
    (G : FnOk P w K mg base CX0 1 f1 d1 ["_law_deal_here", "_law_many"] spDraw) (bG : Binds K d1 ["_law_deal_here", "_law_many"] []) (kG : PySem.W.keepIn K (.ref f1) = true) (mG : mg "_law_draw" = some (.ref f1))
    (G2 : FnOk P w K mg base CX0 3 f2 d2 ["_law_deal_here", "_law_jars"] spLeaf) (b2 : Binds K d2 ["_law_deal_here", "_law_jars"] []) (k2 : PySem.W.keepIn K (.ref f2) = true) (m2 : mg "_law_leaf" = some (.ref f2)) (z3 : mg "len" = none) :
    ∀ n : Nat, FnOk P w K mg base CX0 (3 + n + 1) f fd PB (spBody n)
  | 0 => body_step 0 (fun _ _ _ _ => False) F ⟨fun _ _ _ _ h => h.elim, fun _ _ _ _ _ _ _ _ _ _ _ _ _ h => h.elim⟩ (fun m e => nomatch e) bR kR mR G bG kG mG G2 b2 k2 m2 z3
  | n + 1 => body_step (n + 1) (spBody n) F (ok_body F bR kR mR G bG kG mG G2 b2 k2 m2 z3 n) (fun m e => by cases e; rfl) bR kR mR G bG kG mG G2 b2 k2 m2 z3
end
end Q16

set_option Elab.async false
set_option linter.all false
set_option maxRecDepth 100000
set_option maxHeartbeats 4000000
namespace Q16
open PySem L2 Wd
theorem Bd.ok_more {js us : List Str} : ∀ {t : Bd}, t.ok js [] → t.ok js us := by
  intro t
  induction t with
  | rest => exact id
  | pay t b => exact id
  | put z n => exact id
  | use z => intro h; exact nomatch h
  | thn a b iha ihb => exact fun h => ⟨iha h.1, ihb h.2⟩
  | eit a b iha ihb => exact fun h => ⟨iha h.1, ihb h.2⟩
  | tak z n a b iha ihb => exact fun h => ⟨h.1, iha h.2.1, ihb h.2.2⟩
  | oft a iha => exact fun h => iha h
def spUsed (n : Nat) : Sp := fun vs H Q _ => ∃ (d l p u : Addr) (js us : List Str) (t : Bd), vs = [.ref d, .ref p, .ref u] ∧ Deal H d l ∧ BAt H t p ∧ t.ok js [] ∧ t.dep < n ∧ H u = some (.lst (us.map V.str)) ∧ us ≠ [] ∧ us.length ≤ 1000 ∧ u ≠ l ∧
  ∀ (p' : Addr) (t' : Bd) (H' : Hp), t'.ok js us → t'.dep = t.dep → BAt H' t' p' → Deal H' d l → Oth d l H H' → Q (.ref p') H'
abbrev PU : List Str := ["_law_deal_here", "_law_body_here", "_law_names"]
abbrev NU : List Str := ["_law_deal_here", "_law_body_here", "_law_names", "_law_one"]
section
variable {P : Program} {w : World} {K : PySem.W.Frag} {mg : Str → Option Value} {base : Heap} {f f1 f2 : Addr} {fd d1 d2 : FuncData}
theorem scUsed : FnScope NU PU (defScope sUsed) := ⟨rfl, rfl, rfl, by decide +kernel, rfl, by decide +kernel, by decide +kernel⟩
theorem at0 (v : V) (r : List V) : atI (v :: r) 0 = some v := atI_nat (j := 0) rfl
theorem used_step (n : Nat) (F : Fun K "_law_used" "_law_used" sUsed f fd)
    (R : FnOk P w K mg base CX0 (1 + n) f fd PU (spUsed n)) (bR : Binds K fd PU []) (kR : PySem.W.keepIn K (.ref f) = true) (mR : mg "_law_used" = some (.ref f))
    (G : FnOk P w K mg base CX0 1 f1 d1 ["_law_deal_here", "_law_many"] spDraw) (bG : Binds K d1 ["_law_deal_here", "_law_many"] []) (kG : PySem.W.keepIn K (.ref f1) = true) (mG : mg "_law_draw" = some (.ref f1)) (z3 : mg "len" = none) :
    FnOk P w K mg base CX0 (1 + n + 1) f fd PU (spUsed (n + 1)) := by
  refine F.ok scUsed (fun vs H Q E h => ?_) (fun cdv A outer s H vs Q E hr h => ?_)
  · obtain ⟨d, l, p, u, js, us, t, rfl, _⟩ := h
    rfl
  obtain ⟨d, l, p, u, js, us, t, rfl, D, B, ok, dp, hu, une, ul, hul, k⟩ := h
  have hr1 : Room 1 (A.deeper (PyProof.Rows.envOfC "_law_used" (defScope sUsed) s.heap.objs.size f cdv)) := hr.mono (by omega)
  have hud : u ≠ d := by obtain ⟨_, _, _, D⟩ := D; exact ne_of hu D.dc (by intro z; cases z)
  have hl0 := List.length_pos_iff.mpr une
  refine ⟨_, pss_cons (ps_if (PW.pt (pw_and (pt_cmpR op_eq (pe_ix ix_tup (pv 1) pe_int (fun _ _ => rfl)) pe_str (nomark _)) (pw_and1 (pt_cmpR op_eq (pe_call G hr1 rfl mG kG bG .nil pass0 (pa_cons (pv 0) (pa_cons pe_int pa_nil))) pe_int (nomark _)))))
      (pss_one (ps_ret (pe_tup (pa_cons pe_str (pa_cons (pe_ix ix_list (pv 2) (pe_call G hr1 rfl mG kG bG .nil pass0 (pa_cons (pv 0) (pa_cons (pe_callB call_len_seq rfl z3 PySem.boot_len (pa_cons (pv 2) pa_nil)) pa_nil))) (fun _ _ => rfl)) pa_nil))))) pss_nil)
    (pss_cons (ps_if (pt_cmpR op_in_seq (pe_ix ix_tup (pv 1) pe_int (fun _ _ => rfl)) (pe_tup (pa_cons pe_str (pa_cons pe_str (pa_cons pe_str pa_nil)))) rfl)
      (pss_cons (ps_set (i := 3) scUsed.nd rfl (Or.inl rfl) (pe_call R hr rfl mR kR bR .nil pass0 (pa_cons (pv 0) (pa_cons (pe_ix ix_tup (pv 1) (pe_un un_neg pe_int) (fun _ _ => rfl)) (pa_cons (pv 2) pa_nil)))))
      (pss_one (ps_ret (pe_op op_catT (pe_slice sl_tup (pv 1) po_none (po_some (pe_un un_neg pe_int))) (pe_tup (pa_cons (pv 3) (pa_cons (pe_call R hr rfl mR kR bR .nil pass0 (pa_cons (pv 0) (pa_cons (pe_ix ix_tup (pv 1) (pe_un un_neg pe_int) (fun _ _ => rfl)) (pa_cons (pv 2) pa_nil)))) pa_nil))))))) pss_nil)
    (pss_cons (ps_if (pt_cmpR op_eq (pe_ix ix_tup (pv 1) pe_int (fun _ _ => rfl)) pe_str (nomark _))
      (pss_one (ps_ret (pe_tup (pa_cons pe_str (pa_cons (pe_call R hr rfl mR kR bR .nil pass0 (pa_cons (pv 0) (pa_cons (pe_ix ix_tup (pv 1) pe_int (fun _ _ => rfl)) (pa_cons (pv 2) pa_nil)))) pa_nil))))) pss_nil)
    (pss_one (ps_ret (pv 1))))), ?_⟩
  have leaf : ∀ H', Oth d l H H' → Deal H' d l → Q (.ref p) H' := fun H' O' D' => k p t H' (Bd.ok_more ok) rfl (B.mono (Tups.of_oth D O')) D' O'
  cases t with
  | rest =>
    have B' : H p = some (.tup [.str "rest"]) := B
    refine ⟨_, rfl, p, _, _, _, rfl, rfl, SqT.of B', at0 _ _, rfl, _, rfl, ite2 (fun c => absurd c (by decide +kernel)) (fun _ => iteF ?_)⟩
    refine ⟨_, rfl, p, _, _, _, rfl, rfl, SqT.of B', at0 _ _, (by show 3 ≤ sizeLine; decide), fun q hq => ⟨q, _, rfl, .inr (SqT.of upd_same), rfl, (by decide +kernel), _, rfl, ite2 (fun c => absurd c (by decide +kernel)) (fun _ => ?_)⟩⟩
    have sq := same_new hq (.tup [.str "then", .str "either", .str "take"])
    refine ⟨_, rfl, p, _, _, _, rfl, rfl, SqT.of (sq _ _ B'), at0 _ _, rfl, _, rfl, ite2 (fun c => absurd c (by decide +kernel)) (fun _ => ?_)⟩
    exact ⟨_, rfl, leaf _ (Oth.of_same sq) (D.same sq)⟩
  | put z m =>
    have B' : H p = some (.tup [.str "put", .str z, .int m]) := B
    refine ⟨_, rfl, p, _, _, _, rfl, rfl, SqT.of B', at0 _ _, rfl, _, rfl, ite2 (fun c => absurd c (by decide +kernel)) (fun _ => iteF ?_)⟩
    refine ⟨_, rfl, p, _, _, _, rfl, rfl, SqT.of B', at0 _ _, (by show 3 ≤ sizeLine; decide), fun q hq => ⟨q, _, rfl, .inr (SqT.of upd_same), rfl, (by decide +kernel), _, rfl, ite2 (fun c => absurd c (by decide +kernel)) (fun _ => ?_)⟩⟩
    have sq := same_new hq (.tup [.str "then", .str "either", .str "take"])
    refine ⟨_, rfl, p, _, _, _, rfl, rfl, SqT.of (sq _ _ B'), at0 _ _, rfl, _, rfl, ite2 (fun c => absurd c (by decide +kernel)) (fun _ => ?_)⟩
    exact ⟨_, rfl, leaf _ (Oth.of_same sq) (D.same sq)⟩
  | use z => exact nomatch ok
  | pay x y =>
    obtain ⟨c, B', hc⟩ := B
    refine ⟨_, rfl, p, _, _, _, rfl, rfl, SqT.of B', at0 _ _, rfl, _, rfl, ite2 (fun _ => ?_) (fun c => absurd (by decide +kernel) c)⟩
    refine ⟨_, rfl, d, l, _, rfl, D, by decide, by decide, fun r H1 r0 r1 D1 O1 => ⟨rfl, _, rfl, ite2 (fun _ => ?_) (fun _ => ?_)⟩⟩
    · have hu1 := O1 _ _ hu hud hul
      refine ⟨_, rfl, _, rfl, _, rfl, u, _, rfl, .inl (SqL.of hu1), d, l, _, rfl, D1, by rw [List.length_map]; omega, by rw [List.length_map]; omega, fun r2 H2 r20 r21 D2 O2 => ?_⟩
      rw [List.length_map] at r21
      obtain ⟨z, ez, mz⟩ := at_some_str r20 r21
      refine ⟨u, _, _, _, rfl, rfl, SqL.of (O2 _ _ hu1 hud hul), ez, (by show 2 ≤ sizeLine; decide), fun q hq => ?_⟩
      have sq := same_new hq (.tup [.str "use", .str z])
      exact k q (.use z) _ mz rfl upd_same (D2.same sq) (O1.trans (O2.trans (Oth.of_same sq)))
    · have B1 := Tups.of_oth D O1 _ _ B'
      refine ⟨_, rfl, p, _, _, _, rfl, rfl, SqT.of B1, at0 _ _, (by show 3 ≤ sizeLine; decide), fun q hq => ⟨q, _, rfl, .inr (SqT.of upd_same), rfl, (by decide +kernel), _, rfl, ite2 (fun c => absurd c (by decide +kernel)) (fun _ => ?_)⟩⟩
      have sq := same_new hq (.tup [.str "then", .str "either", .str "take"])
      refine ⟨_, rfl, p, _, _, _, rfl, rfl, SqT.of (sq _ _ B1), at0 _ _, rfl, _, rfl, ite2 (fun c => absurd c (by decide +kernel)) (fun _ => ?_)⟩
      exact ⟨_, rfl, leaf _ (O1.trans (Oth.of_same sq)) (D1.same sq)⟩
  | thn a b =>
    obtain ⟨q1, q2, B', Ba, Bb⟩ := B
    have dp' : max a.dep b.dep + 1 < n + 1 := dp
    refine ⟨_, rfl, p, _, _, _, rfl, rfl, SqT.of B', at0 _ _, rfl, _, rfl, ite2 (fun c => absurd c (by decide +kernel)) (fun _ => iteF ?_)⟩
    refine ⟨_, rfl, p, _, _, _, rfl, rfl, SqT.of B', at0 _ _, (by show 3 ≤ sizeLine; decide), fun q hq => ⟨q, _, rfl, .inr (SqT.of upd_same), rfl, (by decide +kernel), _, rfl, ite2 (fun _ => ?_) (fun c => absurd (by decide +kernel) c)⟩⟩
    have sq := same_new hq (.tup [.str "then", .str "either", .str "take"])
    refine ⟨_, rfl, _, rfl, _, rfl, p, _, _, _, rfl, rfl, SqT.of (sq _ _ B'), rfl, _, rfl, d, l, q1, u, js, us, a, rfl, D.same sq, Ba.mono (Tups.of_same sq), ok.1, by omega, sq _ _ hu, une, ul, hul, fun p3 t3 H3 ok3 e3 B3 D3 O3 => ?_⟩
    have T3 := (Tups.of_same sq).trans (Tups.of_oth (D.same sq) O3)
    have O3' : Oth d l H H3 := (Oth.of_same sq).trans O3
    refine ⟨_, rfl, _, rfl, _, rfl, p, _, rfl, SqT.of (T3 _ _ B'), (by show ¬ (HT.sIx 3 0 none = 0 ∧ HT.sIx 3 3 (some (-2)) = 3); decide), fun q5 hq5 => ?_⟩
    have s5 : Same H3 (upd H3 q5 (.tup [.str "then"])) := same_new hq5 _
    have T5 := T3.trans (Tups.of_same s5)
    refine ⟨_, rfl, _, rfl, _, rfl, _, rfl, p, _, _, _, rfl, rfl, SqT.of (T5 _ _ B'), rfl, _, rfl, d, l, q2, u, js, us, b, rfl, D3.same s5, Bb.mono T5, ok.2, by omega, s5 _ _ (O3' _ _ hu hud hul), une, ul, hul, fun p6 t6 H6 ok6 e6 B6 D6 O6 => ⟨(by show 2 ≤ sizeLine; decide), fun q7 hq7 => ?_⟩⟩
    have s7 := same_new hq7 (.tup [.ref p3, .ref p6])
    have h56 : H6 q5 = some (.tup [.str "then"]) := Tups.of_oth (D3.same s5) O6 _ _ upd_same
    refine ⟨q5, q7, [.str "then"], [.ref p3, .ref p6], rfl, rfl, SqT.of (s7 _ _ h56), SqT.of upd_same, (fun e => nomatch e), (by show 3 ≤ sizeLine; decide), (fun e => nomatch e), fun _ q8 hq8 => ?_⟩
    have s8 := same_new hq8 (.tup ([.str "then"] ++ [.ref p3, .ref p6]))
    have T8 := (Tups.of_same s7).trans (Tups.of_same s8)
    exact k q8 (.thn t3 t6) _ ⟨ok3, ok6⟩ (by show max t3.dep t6.dep + 1 = max a.dep b.dep + 1; rw [e3, e6]) ⟨p3, p6, upd_same, ((B3.mono (Tups.of_same s5)).mono (Tups.of_oth (D3.same s5) O6)).mono T8, B6.mono T8⟩ ((D6.same s7).same s8) (O3'.trans ((Oth.of_same s5).trans (O6.trans ((Oth.of_same s7).trans (Oth.of_same s8)))))
  | eit a b =>
    obtain ⟨q1, q2, B', Ba, Bb⟩ := B
    have dp' : max a.dep b.dep + 1 < n + 1 := dp
    refine ⟨_, rfl, p, _, _, _, rfl, rfl, SqT.of B', at0 _ _, rfl, _, rfl, ite2 (fun c => absurd c (by decide +kernel)) (fun _ => iteF ?_)⟩
    refine ⟨_, rfl, p, _, _, _, rfl, rfl, SqT.of B', at0 _ _, (by show 3 ≤ sizeLine; decide), fun q hq => ⟨q, _, rfl, .inr (SqT.of upd_same), rfl, (by decide +kernel), _, rfl, ite2 (fun _ => ?_) (fun c => absurd (by decide +kernel) c)⟩⟩
    have sq := same_new hq (.tup [.str "then", .str "either", .str "take"])
    refine ⟨_, rfl, _, rfl, _, rfl, p, _, _, _, rfl, rfl, SqT.of (sq _ _ B'), rfl, _, rfl, d, l, q1, u, js, us, a, rfl, D.same sq, Ba.mono (Tups.of_same sq), ok.1, by omega, sq _ _ hu, une, ul, hul, fun p3 t3 H3 ok3 e3 B3 D3 O3 => ?_⟩
    have T3 := (Tups.of_same sq).trans (Tups.of_oth (D.same sq) O3)
    have O3' : Oth d l H H3 := (Oth.of_same sq).trans O3
    refine ⟨_, rfl, _, rfl, _, rfl, p, _, rfl, SqT.of (T3 _ _ B'), (by show ¬ (HT.sIx 3 0 none = 0 ∧ HT.sIx 3 3 (some (-2)) = 3); decide), fun q5 hq5 => ?_⟩
    have s5 : Same H3 (upd H3 q5 (.tup [.str "either"])) := same_new hq5 _
    have T5 := T3.trans (Tups.of_same s5)
    refine ⟨_, rfl, _, rfl, _, rfl, _, rfl, p, _, _, _, rfl, rfl, SqT.of (T5 _ _ B'), rfl, _, rfl, d, l, q2, u, js, us, b, rfl, D3.same s5, Bb.mono T5, ok.2, by omega, s5 _ _ (O3' _ _ hu hud hul), une, ul, hul, fun p6 t6 H6 ok6 e6 B6 D6 O6 => ⟨(by show 2 ≤ sizeLine; decide), fun q7 hq7 => ?_⟩⟩
    have s7 := same_new hq7 (.tup [.ref p3, .ref p6])
    have h56 : H6 q5 = some (.tup [.str "either"]) := Tups.of_oth (D3.same s5) O6 _ _ upd_same
    refine ⟨q5, q7, [.str "either"], [.ref p3, .ref p6], rfl, rfl, SqT.of (s7 _ _ h56), SqT.of upd_same, (fun e => nomatch e), (by show 3 ≤ sizeLine; decide), (fun e => nomatch e), fun _ q8 hq8 => ?_⟩
    have s8 := same_new hq8 (.tup ([.str "either"] ++ [.ref p3, .ref p6]))
    have T8 := (Tups.of_same s7).trans (Tups.of_same s8)
    exact k q8 (.eit t3 t6) _ ⟨ok3, ok6⟩ (by show max t3.dep t6.dep + 1 = max a.dep b.dep + 1; rw [e3, e6]) ⟨p3, p6, upd_same, ((B3.mono (Tups.of_same s5)).mono (Tups.of_oth (D3.same s5) O6)).mono T8, B6.mono T8⟩ ((D6.same s7).same s8) (O3'.trans ((Oth.of_same s5).trans (O6.trans ((Oth.of_same s7).trans (Oth.of_same s8)))))
  | tak z m a b =>
    obtain ⟨q1, q2, B', Ba, Bb⟩ := B
    have dp' : max a.dep b.dep + 1 < n + 1 := dp
    refine ⟨_, rfl, p, _, _, _, rfl, rfl, SqT.of B', at0 _ _, rfl, _, rfl, ite2 (fun c => absurd c (by decide +kernel)) (fun _ => iteF ?_)⟩
    refine ⟨_, rfl, p, _, _, _, rfl, rfl, SqT.of B', at0 _ _, (by show 3 ≤ sizeLine; decide), fun q hq => ⟨q, _, rfl, .inr (SqT.of upd_same), rfl, (by decide +kernel), _, rfl, ite2 (fun _ => ?_) (fun c => absurd (by decide +kernel) c)⟩⟩
    have sq := same_new hq (.tup [.str "then", .str "either", .str "take"])
    refine ⟨_, rfl, _, rfl, _, rfl, p, _, _, _, rfl, rfl, SqT.of (sq _ _ B'), rfl, _, rfl, d, l, q1, u, js, us, a, rfl, D.same sq, Ba.mono (Tups.of_same sq), ok.2.1, by omega, sq _ _ hu, une, ul, hul, fun p3 t3 H3 ok3 e3 B3 D3 O3 => ?_⟩
    have T3 := (Tups.of_same sq).trans (Tups.of_oth (D.same sq) O3)
    have O3' : Oth d l H H3 := (Oth.of_same sq).trans O3
    refine ⟨_, rfl, _, rfl, _, rfl, p, _, rfl, SqT.of (T3 _ _ B'), (by show ¬ (HT.sIx 5 0 none = 0 ∧ HT.sIx 5 5 (some (-2)) = 5); decide), fun q5 hq5 => ?_⟩
    have s5 : Same H3 (upd H3 q5 (.tup [.str "take", .str z, .int m])) := same_new hq5 _
    have T5 := T3.trans (Tups.of_same s5)
    refine ⟨_, rfl, _, rfl, _, rfl, _, rfl, p, _, _, _, rfl, rfl, SqT.of (T5 _ _ B'), rfl, _, rfl, d, l, q2, u, js, us, b, rfl, D3.same s5, Bb.mono T5, ok.2.2, by omega, s5 _ _ (O3' _ _ hu hud hul), une, ul, hul, fun p6 t6 H6 ok6 e6 B6 D6 O6 => ⟨(by show 2 ≤ sizeLine; decide), fun q7 hq7 => ?_⟩⟩
    have s7 := same_new hq7 (.tup [.ref p3, .ref p6])
    have h56 : H6 q5 = some (.tup [.str "take", .str z, .int m]) := Tups.of_oth (D3.same s5) O6 _ _ upd_same
    refine ⟨q5, q7, [.str "take", .str z, .int m], [.ref p3, .ref p6], rfl, rfl, SqT.of (s7 _ _ h56), SqT.of upd_same, (fun e => nomatch e), (by show 5 ≤ sizeLine; decide), (fun e => nomatch e), fun _ q8 hq8 => ?_⟩
    have s8 := same_new hq8 (.tup ([.str "take", .str z, .int m] ++ [.ref p3, .ref p6]))
    have T8 := (Tups.of_same s7).trans (Tups.of_same s8)
    exact k q8 (.tak z m t3 t6) _ ⟨ok.1, ok3, ok6⟩ (by show max t3.dep t6.dep + 1 = max a.dep b.dep + 1; rw [e3, e6]) ⟨p3, p6, upd_same, ((B3.mono (Tups.of_same s5)).mono (Tups.of_oth (D3.same s5) O6)).mono T8, B6.mono T8⟩ ((D6.same s7).same s8) (O3'.trans ((Oth.of_same s5).trans (O6.trans ((Oth.of_same s7).trans (Oth.of_same s8)))))
  | oft a =>
    obtain ⟨q1, B', Ba⟩ := B
    have dp' : a.dep + 1 < n + 1 := dp
    refine ⟨_, rfl, p, _, _, _, rfl, rfl, SqT.of B', at0 _ _, rfl, _, rfl, ite2 (fun c => absurd c (by decide +kernel)) (fun _ => iteF ?_)⟩
    refine ⟨_, rfl, p, _, _, _, rfl, rfl, SqT.of B', at0 _ _, (by show 3 ≤ sizeLine; decide), fun q hq => ⟨q, _, rfl, .inr (SqT.of upd_same), rfl, (by decide +kernel), _, rfl, ite2 (fun c => absurd c (by decide +kernel)) (fun _ => ?_)⟩⟩
    have sq := same_new hq (.tup [.str "then", .str "either", .str "take"])
    refine ⟨_, rfl, p, _, _, _, rfl, rfl, SqT.of (sq _ _ B'), at0 _ _, rfl, _, rfl, ite2 (fun _ => ?_) (fun c => absurd (by decide +kernel) c)⟩
    refine ⟨_, rfl, _, rfl, p, _, _, _, rfl, rfl, SqT.of (sq _ _ B'), rfl, _, rfl, d, l, q1, u, js, us, a, rfl, D.same sq, Ba.mono (Tups.of_same sq), ok, by omega, sq _ _ hu, une, ul, hul, fun p3 t3 H3 ok3 e3 B3 D3 O3 => ⟨(by show 2 ≤ sizeLine; decide), fun q4 hq4 => ?_⟩⟩
    have s4 := same_new hq4 (.tup [.str "often", .ref p3])
    exact k q4 (.oft t3) _ ok3 (by show t3.dep + 1 = a.dep + 1; rw [e3]) ⟨p3, upd_same, B3.mono (Tups.of_same s4)⟩ (D3.same s4) ((Oth.of_same sq).trans (O3.trans (Oth.of_same s4)))
theorem ok_used (F : Fun K "_law_used" "_law_used" sUsed f fd) (bR : Binds K fd PU []) (kR : PySem.W.keepIn K (.ref f) = true) (mR : mg "_law_used" = some (.ref f))
    (G : FnOk P w K mg base CX0 1 f1 d1 ["_law_deal_here", "_law_many"] spDraw) (bG : Binds K d1 ["_law_deal_here", "_law_many"] []) (kG : PySem.W.keepIn K (.ref f1) = true) (mG : mg "_law_draw" = some (.ref f1)) (z3 : mg "len" = none) :
    ∀ n : Nat, FnOk P w K mg base CX0 (1 + n) f fd PU (spUsed n)
  | 0 => ⟨fun vs H Q E h => by obtain ⟨d, l, p, u, js, us, t, rfl, _⟩ := h; rfl, fun _ _ _ _ _ _ _ _ _ _ _ _ _ h => by obtain ⟨d, l, p, u, js, us, t, _, _, _, _, dp, _⟩ := h; exact absurd dp (Nat.not_lt_zero _)⟩
  | n + 1 => used_step n F (ok_used F bR kR mR G bG kG mG z3 n) bR kR mR G bG kG mG z3
end
end Q16

set_option Elab.async false
set_option linter.all false
set_option maxRecDepth 100000
set_option maxHeartbeats 4000000
namespace Q16
open PySem L2 Wd
/-! ### the program's own: sides_of, parts_in, has_row, rows_in, begin -/
def Bd.sides : Bd → List Bd
  | .thn a b => [a, b]
  | .eit a b => [a, b]
  | .tak _ _ a b => [a, b]
  | .oft a => [a]
  | _ => []
def Bd.parts : Bd → List Bd
  | .thn a b => .thn a b :: (a.parts ++ b.parts)
  | .eit a b => .eit a b :: (a.parts ++ b.parts)
  | .tak z n a b => .tak z n a b :: (a.parts ++ b.parts)
  | .oft a => .oft a :: a.parts
  | t => [t]
theorem Bd.parts_eq (t : Bd) : t.parts = t :: t.sides.flatMap Bd.parts := by
  cases t <;> simp [Bd.parts, Bd.sides]
theorem Bd.sides_dep {t a : Bd} (h : a ∈ t.sides) : a.dep < t.dep := by
  cases t with
  | thn x y => simp only [Bd.sides, List.mem_cons, List.not_mem_nil, or_false] at h; show a.dep < max x.dep y.dep + 1; rcases h with rfl | rfl <;> omega
  | eit x y => simp only [Bd.sides, List.mem_cons, List.not_mem_nil, or_false] at h; show a.dep < max x.dep y.dep + 1; rcases h with rfl | rfl <;> omega
  | tak z n x y => simp only [Bd.sides, List.mem_cons, List.not_mem_nil, or_false] at h; show a.dep < max x.dep y.dep + 1; rcases h with rfl | rfl <;> omega
  | oft x => simp only [Bd.sides, List.mem_cons, List.not_mem_nil, or_false] at h; show a.dep < x.dep + 1; subst h; omega
  | _ => simp [Bd.sides] at h
/-- bodies, one by one -/
inductive BsAt (H : Hp) : List Bd → List V → Prop
  | nil : BsAt H [] []
  | cons {t : Bd} {p : Addr} {ts : List Bd} {vs : List V} : BAt H t p → BsAt H ts vs → BsAt H (t :: ts) (.ref p :: vs)
theorem BsAt.mono {H H' : Hp} {ts : List Bd} {vs : List V} (h : BsAt H ts vs) (m : Tups H H') : BsAt H' ts vs := by
  induction h with
  | nil => exact .nil
  | cons h _ ih => exact .cons (h.mono m) ih
theorem BsAt.append {H : Hp} {ts us : List Bd} {vs ws : List V} (h : BsAt H ts vs) (h' : BsAt H us ws) : BsAt H (ts ++ us) (vs ++ ws) := by
  induction h with
  | nil => exact h'
  | cons h _ ih => exact .cons h ih
theorem BsAt.length {H : Hp} {ts : List Bd} {vs : List V} (h : BsAt H ts vs) : vs.length = ts.length := by
  induction h with
  | nil => rfl
  | cons h _ ih => rw [List.length_cons, List.length_cons, ih]
theorem BsAt.get {H : Hp} {ts : List Bd} {vs : List V} (h : BsAt H ts vs) : ∀ {i : Nat} {v : V}, vs[i]? = some v → ∃ t p, ts[i]? = some t ∧ v = .ref p ∧ BAt H t p := by
  induction h with
  | nil => intro i v e; simp at e
  | cons h _ ih =>
    intro i v e
    cases i with
    | zero =>
      simp only [List.getElem?_cons_zero, Option.some.injEq] at e
      exact ⟨_, _, rfl, e.symm, h⟩
    | succ i => exact ih (by simpa using e)
/-- the first word of a body -/
def Bd.head : Bd → Str
  | .rest => "rest"
  | .pay _ _ => "pay"
  | .put _ _ => "put"
  | .use _ => "use"
  | .thn _ _ => "then"
  | .eit _ _ => "either"
  | .tak _ _ _ _ => "take"
  | .oft _ => "often"
/-- a body as a tuple: its head, its words, its sides -/
theorem BAt.tup {H : Hp} {t : Bd} {p : Addr} (h : BAt H t p) : ∃ ws ss, H p = some (.tup (.str t.head :: (ws ++ ss))) ∧ BsAt H t.sides ss ∧ ws.length ≤ 2 := by
  cases t with
  | rest => exact ⟨[], [], h, .nil, by decide⟩
  | pay t b => obtain ⟨c, h, _⟩ := h; exact ⟨[.ref c], [], h, .nil, by show 1 ≤ 2; decide⟩
  | put z n => exact ⟨[.str z, .int n], [], h, .nil, by show 2 ≤ 2; decide⟩
  | use z => exact ⟨[.str z], [], h, .nil, by show 1 ≤ 2; decide⟩
  | thn a b => obtain ⟨q, r, h, ha, hb⟩ := h; exact ⟨[], [.ref q, .ref r], h, .cons ha (.cons hb .nil), by decide⟩
  | eit a b => obtain ⟨q, r, h, ha, hb⟩ := h; exact ⟨[], [.ref q, .ref r], h, .cons ha (.cons hb .nil), by decide⟩
  | tak z n a b => obtain ⟨q, r, h, ha, hb⟩ := h; exact ⟨[.str z, .int n], [.ref q, .ref r], h, .cons ha (.cons hb .nil), by show 2 ≤ 2; decide⟩
  | oft a => obtain ⟨q, h, ha⟩ := h; exact ⟨[], [.ref q], h, .cons ha .nil, by decide⟩
def sidesK : List (Key × V) := [(Sum.inr "then", .int 1), (Sum.inr "either", .int 1), (Sum.inr "take", .int 3), (Sum.inr "often", .int 1)]
theorem val_then : valV sidesK (Sum.inr "then") = some (.int 1) := by decide +kernel
theorem val_either : valV sidesK (Sum.inr "either") = some (.int 1) := by decide +kernel
theorem val_take : valV sidesK (Sum.inr "take") = some (.int 3) := by decide +kernel
theorem val_often : valV sidesK (Sum.inr "often") = some (.int 1) := by decide +kernel
theorem val_rest : valV sidesK (Sum.inr "rest") = none := by decide +kernel
theorem val_pay : valV sidesK (Sum.inr "pay") = none := by decide +kernel
theorem val_put : valV sidesK (Sum.inr "put") = none := by decide +kernel
theorem val_use : valV sidesK (Sum.inr "use") = none := by decide +kernel
def spSides : Sp := fun vs H Q _ => ∃ (p : Addr) (t : Bd), vs = [.ref p] ∧ BAt H t p ∧ ∀ (r : Addr) (ss : List V) (H' : Hp), Same H H' → H' r = some (.tup ss) → BsAt H' t.sides ss → Q (.ref r) H'
section
variable {P : Program} {w : World} {K : PySem.W.Frag} {mg : Str → Option Value} {base : Heap} {f f1 f2 : Addr} {fd d1 d2 : FuncData}
theorem scSides : FnScope ["body"] ["body"] (defScope sSides) := ⟨rfl, rfl, rfl, by decide +kernel, rfl, by decide +kernel, by decide +kernel⟩
theorem ok_sides {aD : Addr} (F : Fun K "sides_of" "sides_of" sSides f fd) (z3 : mg "len" = none) (mD : mg "SIDES_FROM" = some (.ref aD)) (hD : KD P w K aD sidesK) : FnOk P w K mg base CX0 1 f fd ["body"] spSides := by
  refine F.ok scSides (fun vs H Q E h => ?_) (fun cdv A outer s H vs Q E hr h => ?_)
  · obtain ⟨p, t, rfl, _⟩ := h
    rfl
  obtain ⟨p, t, rfl, B, k⟩ := h
  have hu : (A.deeper (PyProof.Rows.envOfC "sides_of" (defScope sSides) s.heap.objs.size f cdv)).units + 1 < cLine := by have := hr.units; omega
  refine ⟨_, pss_one (ps_ret (pe_slice sl_tup (pv 0) (po_some (pe_kget hu rfl mD hD (pe_ix ix_tup (pv 0) pe_int (fun _ _ => rfl)) (pe_callB call_len_seq rfl z3 PySem.boot_len (pa_cons (pv 0) pa_nil)) ⟨rfl, rfl, rfl, rfl⟩)) po_none)), ?_⟩
  -- the cut at lo, once it is known
  have fin : ∀ (xs ss : List V) (lo : Nat), H p = some (.tup xs) → BsAt H t.sides ss → 1 ≤ lo → lo ≤ xs.length → xs.drop lo = ss → rSlT K (.ref p) (some (lo : Int)) none H Q := fun xs ss lo hp hs l1 l2 e => by
    refine ⟨p, xs, rfl, SqT.of hp, ?_, fun r hr' => ?_⟩
    · rw [HT.sIx_nat]
      omega
    · have e2 : cutV xs (some (lo : Int)) none = ss := by
        unfold cutV
        rw [HT.sIx_nat, HT.sIx_none, Nat.min_eq_left l2, List.take_of_length_le (by rw [List.length_drop]; exact Nat.le_refl _), e]
      rw [e2]
      exact k r ss _ (same_new hr' _) upd_same (hs.mono (Tups.of_same (same_new hr' _)))
  cases t with
  | rest =>
    have B' : H p = some (.tup [.str "rest"]) := B
    exact ⟨_, rfl, _, rfl, p, _, _, _, rfl, rfl, SqT.of B', at0 _ _, _, rfl, p, _, rfl, .inr (SqT.of B'), Sum.inr "rest", rfl, (1 : Nat), (by rw [val_rest]; rfl), fin _ [] 1 B' .nil (by simp) (by simp) rfl⟩
  | pay x y =>
    obtain ⟨c, B', _⟩ := B
    exact ⟨_, rfl, _, rfl, p, _, _, _, rfl, rfl, SqT.of B', at0 _ _, _, rfl, p, _, rfl, .inr (SqT.of B'), Sum.inr "pay", rfl, (2 : Nat), (by rw [val_pay]; rfl), fin _ [] 2 B' .nil (by simp) (by simp) rfl⟩
  | put z n =>
    have B' : H p = some (.tup [.str "put", .str z, .int n]) := B
    exact ⟨_, rfl, _, rfl, p, _, _, _, rfl, rfl, SqT.of B', at0 _ _, _, rfl, p, _, rfl, .inr (SqT.of B'), Sum.inr "put", rfl, (3 : Nat), (by rw [val_put]; rfl), fin _ [] 3 B' .nil (by simp) (by simp) rfl⟩
  | use z =>
    have B' : H p = some (.tup [.str "use", .str z]) := B
    exact ⟨_, rfl, _, rfl, p, _, _, _, rfl, rfl, SqT.of B', at0 _ _, _, rfl, p, _, rfl, .inr (SqT.of B'), Sum.inr "use", rfl, (2 : Nat), (by rw [val_use]; rfl), fin _ [] 2 B' .nil (by simp) (by simp) rfl⟩
  | thn a b =>
    obtain ⟨q1, q2, B', Ba, Bb⟩ := B
    exact ⟨_, rfl, _, rfl, p, _, _, _, rfl, rfl, SqT.of B', at0 _ _, _, rfl, p, _, rfl, .inr (SqT.of B'), Sum.inr "then", rfl, (1 : Nat), (by rw [val_then]; rfl), fin _ [.ref q1, .ref q2] 1 B' (.cons Ba (.cons Bb .nil)) (by simp) (by simp) rfl⟩
  | eit a b =>
    obtain ⟨q1, q2, B', Ba, Bb⟩ := B
    exact ⟨_, rfl, _, rfl, p, _, _, _, rfl, rfl, SqT.of B', at0 _ _, _, rfl, p, _, rfl, .inr (SqT.of B'), Sum.inr "either", rfl, (1 : Nat), (by rw [val_either]; rfl), fin _ [.ref q1, .ref q2] 1 B' (.cons Ba (.cons Bb .nil)) (by simp) (by simp) rfl⟩
  | tak z n a b =>
    obtain ⟨q1, q2, B', Ba, Bb⟩ := B
    exact ⟨_, rfl, _, rfl, p, _, _, _, rfl, rfl, SqT.of B', at0 _ _, _, rfl, p, _, rfl, .inr (SqT.of B'), Sum.inr "take", rfl, (3 : Nat), (by rw [val_take]; rfl), fin _ [.ref q1, .ref q2] 3 B' (.cons Ba (.cons Bb .nil)) (by simp) (by simp) rfl⟩
  | oft a =>
    obtain ⟨q1, B', Ba⟩ := B
    exact ⟨_, rfl, _, rfl, p, _, _, _, rfl, rfl, SqT.of B', at0 _ _, _, rfl, p, _, rfl, .inr (SqT.of B'), Sum.inr "often", rfl, (1 : Nat), (by rw [val_often]; rfl), fin _ [.ref q1] 1 B' (.cons Ba .nil) (by simp) (by simp) rfl⟩
def spParts (n : Nat) : Sp := fun vs H Q _ => ∃ (p : Addr) (t : Bd), vs = [.ref p] ∧ BAt H t p ∧ t.dep < n ∧ t.parts.length ≤ 1000 ∧ ∀ (r : Addr) (vs : List V) (H' : Hp), Same H H' → H' r = some (.lst vs) → BsAt H' t.parts vs → Q (.ref r) H'
theorem scParts : FnScope ["body", "found", "side"] ["body"] (defScope sParts) := ⟨rfl, rfl, rfl, by decide +kernel, rfl, by decide +kernel, by decide +kernel⟩
theorem parts_take {ts : List Bd} {i : Nat} {t : Bd} (h : ts[i]? = some t) : (ts.take (i + 1)).flatMap Bd.parts = (ts.take i).flatMap Bd.parts ++ t.parts := by
  rw [List.take_succ, h]
  simp
theorem parts_step (n : Nat) (F : Fun K "parts_in" "parts_in" sParts f fd) (R : FnOk P w K mg base CX0 (1 + n) f fd ["body"] (spParts n)) (bR : Binds K fd ["body"] []) (kR : PySem.W.keepIn K (.ref f) = true) (mR : mg "parts_in" = some (.ref f))
    (G : FnOk P w K mg base CX0 1 f1 d1 ["body"] spSides) (bG : Binds K d1 ["body"] []) (kG : PySem.W.keepIn K (.ref f1) = true) (mG : mg "sides_of" = some (.ref f1)) : FnOk P w K mg base CX0 (1 + n + 1) f fd ["body"] (spParts (n + 1)) := by
  refine F.ok scParts (fun vs H Q E h => ?_) (fun cdv A outer s H vs Q E hr h => ?_)
  · obtain ⟨p, t, rfl, _⟩ := h
    rfl
  obtain ⟨p, t, rfl, B, dp, hz, k⟩ := h
  have hr1 : Room 1 (A.deeper (PyProof.Rows.envOfC "parts_in" (defScope sParts) s.heap.objs.size f cdv)) := hr.mono (by omega)
  refine ⟨_, pss_cons (ps_set (i := 1) scParts.nd rfl (Or.inl rfl) (pe_lst (pa_cons (pv 0) pa_nil)))
    (pss_cons (ps_for PassesOwn.never rfl (pi_tup (pe_call G hr1 rfl mG kG bG .nil pass0 (pa_cons (pv 0) pa_nil))) (pg_name (i := 2) scParts.nd rfl (Or.inl rfl))
      (pss_one (ps_expr (pe_bm PySem.F.plainAttrs_list PySem.F.slot_list_extend PySem.F.type_list_extend mt_extend (pv 1) (pa_cons (pe_call R hr rfl mR kR bR .nil pass0 (pa_cons (pv 2) pa_nil)) pa_nil)))))
    (pss_one (ps_ret (pv 1)))), ?_⟩
  refine ⟨_, rfl, (by show 1 ≤ sizeLine; decide), fun g hg => ?_⟩
  have sg := same_new hg (.lst [.ref p])
  refine ⟨_, rfl, p, t, rfl, B.mono (Tups.of_same sg), fun r ss H1 s1 hr1' B1 => ⟨r, rfl, ⟨ss, SqT.of hr1'⟩, ?_⟩⟩
  have hl := B1.length
  refine for_tup (fun i σ H2 => ∃ v vs, σ = [some (.ref p), some (.ref g), v] ∧ Same H H2 ∧ H2 r = some (.tup ss) ∧ BsAt H2 t.sides ss ∧ H2 g = some (.lst vs) ∧ BsAt H2 (t :: (t.sides.take i).flatMap Bd.parts) vs)
    ⟨none, [.ref p], rfl, sg.trans s1, hr1', B1, s1 _ _ upd_same, .cons (B.mono (Tups.of_same (sg.trans s1))) .nil⟩ (fun i σ H2 hi ⟨v, vs, _, _, e, _⟩ => SqT.of e) ?_ ?_
  · rintro i x σ H2 hx ⟨v, vs, rfl, s2, h2r, B2, h2g, Bp⟩
    obtain ⟨a, q, ha, rfl, Ba⟩ := B2.get hx
    have ma : a ∈ t.sides := List.mem_of_getElem? ha
    have dpa := Bd.sides_dep ma
    have le : ((t :: (t.sides.take i).flatMap Bd.parts) ++ a.parts).length ≤ t.parts.length := by
      rw [List.cons_append, ← parts_take ha, t.parts_eq, List.length_cons, List.length_cons]
      have e : (t.sides.flatMap Bd.parts).length = ((t.sides.take (i + 1)).flatMap Bd.parts).length + ((t.sides.drop (i + 1)).flatMap Bd.parts).length := by
        rw [← List.length_append, ← List.flatMap_append, List.take_append_drop]
      omega
    have lea : a.parts.length ≤ 1000 := by rw [List.length_append] at le; omega
    refine ⟨_, rfl, .inl ⟨rfl, _, SqL.of h2g⟩, _, rfl, q, a, rfl, Ba, by omega, lea, fun r3 zs H3 s3 h3 B3 => ?_⟩
    have h3g := s3 _ _ h2g
    have Bn := (Bp.mono (Tups.of_same s3)).append B3
    have T4 := Tups.upd (o := .lst (vs ++ zs)) h3g
    have ln := Bn.length
    refine ⟨g, r3, vs, zs, rfl, rfl, h3g, h3, ?_, ?_⟩
    · rw [List.length_append] at ln
      exact small (by omega)
    · have hne : ∀ b o, H b = some o → b ≠ g := fun b o e => ne_of_none e hg
      refine ⟨_, vs ++ zs, rfl, fun b o e => by rw [upd_ne (hne b o e)]; exact s3 _ _ (s2 _ _ e), T4 _ _ (s3 _ _ h2r), (B2.mono (Tups.of_same s3)).mono T4, upd_same, ?_⟩
      have Bm := Bn.mono T4
      rw [List.cons_append, ← parts_take ha] at Bm
      exact Bm
  · rintro σ H2 ⟨v, vs, rfl, s2, h2r, B2, h2g, Bp⟩
    rw [hl, List.take_length, ← t.parts_eq] at Bp
    exact ⟨_, rfl, k g vs H2 s2 h2g Bp⟩
theorem ok_parts (F : Fun K "parts_in" "parts_in" sParts f fd) (bR : Binds K fd ["body"] []) (kR : PySem.W.keepIn K (.ref f) = true) (mR : mg "parts_in" = some (.ref f))
    (G : FnOk P w K mg base CX0 1 f1 d1 ["body"] spSides) (bG : Binds K d1 ["body"] []) (kG : PySem.W.keepIn K (.ref f1) = true) (mG : mg "sides_of" = some (.ref f1)) : ∀ n : Nat, FnOk P w K mg base CX0 (1 + n) f fd ["body"] (spParts n)
  | 0 => ⟨fun vs H Q E h => by obtain ⟨p, t, rfl, _⟩ := h; rfl, fun _ _ _ _ _ _ _ _ _ _ _ _ _ h => by obtain ⟨p, t, _, _, dp, _⟩ := h; exact absurd dp (Nat.not_lt_zero _)⟩
  | n + 1 => parts_step n F (ok_parts F bR kR mR G bG kG mG n) bR kR mR G bG kG mG
end
end Q16

set_option Elab.async false
set_option linter.all false
set_option maxRecDepth 100000
set_option maxHeartbeats 4000000
namespace Q16
open PySem L2 Wd
/-- two things are alike, at most n - 1 tuples one within another -/
def Alk (H : Hp) : Nat → V → V → Prop
  | 0, _, _ => False
  | n + 1, v, u => (∃ i, v = .int i ∧ u = .int i) ∨
      ∃ p q xs ys, v = .ref p ∧ u = .ref q ∧ H p = some (.tup xs) ∧ H q = some (.tup ys) ∧ xs.length = ys.length ∧ xs.length ≤ 1000 ∧ ∀ (i : Nat) (x y : V), xs[i]? = some x → ys[i]? = some y → Alk H n x y
theorem Alk.mono {H H' : Hp} (m : Tups H H') : ∀ {n : Nat} {v u : V}, Alk H n v u → Alk H' n v u
  | 0, _, _, h => h.elim
  | n + 1, _, _, .inl h => .inl h
  | n + 1, _, _, .inr ⟨p, q, xs, ys, e1, e2, h1, h2, hl, hz, k⟩ => .inr ⟨p, q, xs, ys, e1, e2, m _ _ h1, m _ _ h2, hl, hz, fun i x y a b => Alk.mono m (k i x y a b)⟩
theorem Alk.up {H : Hp} : ∀ {n m : Nat} {v u : V}, n ≤ m → Alk H n v u → Alk H m v u
  | 0, _, _, _, _, h => h.elim
  | n + 1, 0, _, _, le, _ => absurd le (Nat.not_succ_le_zero n)
  | n + 1, m + 1, _, _, _, .inl h => .inl h
  | n + 1, m + 1, _, _, le, .inr ⟨p, q, xs, ys, e1, e2, h1, h2, hl, hz, k⟩ => .inr ⟨p, q, xs, ys, e1, e2, h1, h2, hl, hz, fun i x y a b => Alk.up (Nat.le_of_succ_le_succ le) (k i x y a b)⟩
theorem Alk.pos {H : Hp} {n : Nat} {v u : V} (h : Alk H n v u) : 1 ≤ n := by
  cases n with
  | zero => exact h.elim
  | succ n => omega
theorem Alk.int {H : Hp} {n : Nat} (i : Int) : Alk H (n + 1) (.int i) (.int i) := .inl ⟨i, rfl, rfl⟩
theorem Alk.nil {H : Hp} {n : Nat} {p q : Addr} (hp : H p = some (.tup [])) (hq : H q = some (.tup [])) : Alk H (n + 1) (.ref p) (.ref q) :=
  .inr ⟨p, q, _, _, rfl, rfl, hp, hq, rfl, by decide, fun i x y hx => by simp at hx⟩
theorem Alk.one {H : Hp} {n : Nat} {p q : Addr} {x x' : V} (hp : H p = some (.tup [x])) (hq : H q = some (.tup [x'])) (a : Alk H n x x') : Alk H (n + 1) (.ref p) (.ref q) :=
  .inr ⟨p, q, _, _, rfl, rfl, hp, hq, rfl, (by show 1 ≤ 1000; decide), fun i u v hu hv => by
    cases i with
    | zero => simp at hu hv; subst hu hv; exact a
    | succ i => simp at hu⟩
theorem Alk.two {H : Hp} {n : Nat} {p q : Addr} {x y x' y' : V} (hp : H p = some (.tup [x, y])) (hq : H q = some (.tup [x', y'])) (a : Alk H n x x') (b : Alk H n y y') : Alk H (n + 1) (.ref p) (.ref q) :=
  .inr ⟨p, q, _, _, rfl, rfl, hp, hq, rfl, (by show 2 ≤ 1000; decide), fun i u v hu hv => by
    cases i with
    | zero => simp at hu hv; subst hu hv; exact a
    | succ i =>
      cases i with
      | zero => simp at hu hv; subst hu hv; exact b
      | succ i => simp at hu⟩
def spAlike (n : Nat) : Sp := fun vs H Q _ => ∃ v u, vs = [v, u] ∧ Alk H n v u ∧ ∀ H', Same H H' → Q (.bl true) H'
abbrev PL : List Str := ["_law_found", "_law_due"]
theorem bl_self {Q : VK} {H : Hp} {x : V} [i : Decidable (x = x)] (h : Q (.bl true) H) : Q (.bl (decide (x = x))) H := by
  rw [decide_eq_true (p := x = x) rfl]
  exact h
theorem kit_tt {K : PySem.W.Frag} : PySem.W.kitOne K (.type "tuple") (.type "tuple") = some true := by
  unfold PySem.W.kitOne
  rw [if_pos (by decide)]
theorem kit_ii {K : PySem.W.Frag} : PySem.W.kitOne K (.type "int") (.type "int") = some true := by
  unfold PySem.W.kitOne
  rw [if_pos (by decide)]
theorem kit_it {K : PySem.W.Frag} : PySem.W.kitOne K (.type "int") (.type "tuple") = some false := by
  unfold PySem.W.kitOne
  rw [if_neg (by decide)]
  show (if PySem.W.kitMeta "tuple" = true then (PySem.fastBuiltinMro "int").map (·.contains (Value.type "tuple")) else none) = some false
  decide +kernel
section
variable {P : Program} {w : World} {K : PySem.W.Frag} {mg : Str → Option Value} {base : Heap} {f f1 f2 f3 f4 f5 f6 f7 f8 : Addr} {fd d1 d2 d3 d4 d5 d6 d7 d8 : FuncData}
theorem scAlike : FnScope PL PL (defScope sAlike) := ⟨rfl, rfl, rfl, by decide +kernel, rfl, by decide +kernel, by decide +kernel⟩
theorem nd_oo : (["_law_one", "_law_other"] : List Str).Nodup := by decide +kernel
theorem alike_step (n : Nat) (F : Fun K "_law_alike" "_law_alike" sAlike f fd)
    (R : FnOk P w K mg base CX0 (1 + n) f fd PL (spAlike n)) (b1 : Binds K fd PL []) (k1 : PySem.W.keepIn K (.ref f) = true) (m1 : mg "_law_alike" = some (.ref f))
    (z1 : mg "isinstance" = none) (z2 : mg "tuple" = none) (z3 : mg "len" = none) (z4 : mg "all" = none) (z5 : mg "zip" = none) (z7 : mg "int" = none) (z8 : mg "bool" = none) :
    FnOk P w K mg base CX0 (1 + n + 1) f fd PL (spAlike (n + 1)) := by
  refine F.ok scAlike (fun vs H Q E h => ?_) (fun cdv A outer s H vs Q E hr h => ?_)
  · obtain ⟨v, u, rfl, _⟩ := h
    rfl
  obtain ⟨v, u, rfl, al, k⟩ := h
  refine ⟨_, (pss_cons (ps_if (pt_val (pe_callB call_isinst rfl z1 (by decide +kernel) (pa_cons (pv 1) (pa_cons (pe_bltn (v := .ty "tuple") rfl z2 (by decide +kernel) rfl) pa_nil))))
      (pss_cons (ps_if (PW.pt (pw_or (pt_not (pt_val (pe_callB call_isinst rfl z1 (by decide +kernel) (pa_cons (pv 0) (pa_cons (pe_bltn (v := .ty "tuple") rfl z2 (by decide +kernel) rfl) pa_nil))))) (pw_or1 (pt_cmpR op_ne (pe_callB call_len_seq rfl z3 PySem.boot_len (pa_nm (pv 0) pa_nil)) (pe_callB call_len_seq rfl z3 PySem.boot_len (pa_nm (pv 1) pa_nil)) (nomark _))))) (pss_one (ps_ret pe_bl)) pss_nil)
    (pss_one (ps_ret (pe_callB (call_allB rfl) rfl z4 (by decide +kernel) (pa_comp (pe_comp [] 2 [] ["_law_one", "_law_other"] rfl rfl (by decide +kernel) rfl (by decide +kernel) trivial rfl rfl rfl trivial (pi_zip rfl z5 (by decide +kernel) (pa_cons (pv 0) (pa_cons (pv 1) pa_nil))) (fun B => pg_two (K := K) (i := 0) (j := 1) rfl rfl nd_oo rfl rfl rfl rfl) (fun B => pf_nil) (fun B => (pe_call R hr rfl m1 k1 b1 .nil pass0 (pa_nm (pv 0) (pa_nm (pv 1) pa_nil))))) pa_nil))))) pss_nil)
    (pss_one (ps_ret (pe_and (pe_callB call_isinst rfl z1 (by decide +kernel) (pa_cons (pv 0) (pa_cons (pe_bltn (v := .ty "int") rfl z7 (by decide +kernel) rfl) pa_nil))) (pe_and (pe_not (pe_callB call_isinst rfl z1 (by decide +kernel) (pa_cons (pv 0) (pa_cons (pe_bltn (v := .ty "bool") rfl z8 (by decide +kernel) rfl) pa_nil)))) (pe_one (pe_cmpR op_eq (pv 0) (pv 1) (nomark _)))))))), ?_⟩
  rcases al with ⟨i, rfl, rfl⟩ | ⟨p, q, xs, ys, rfl, rfl, hp, hq, hl, hz, kk⟩
  · refine ⟨_, rfl, _, _, _, _, rfl, .int i, kit_it, _, rfl, iteF ?_⟩
    refine ⟨_, rfl, _, _, _, _, rfl, .int i, kit_ii, _, rfl, iteT ⟨_, rfl, _, _, _, _, rfl, .int i, kit_int_bool, _, rfl, _, rfl, iteT ⟨_, rfl, _, rfl, rfl, bl_self (k H (Same.refl H))⟩⟩⟩
  · refine ⟨_, rfl, _, _, _, _, rfl, .tup hq, kit_tt, _, rfl, iteT ?_⟩
    refine ⟨_, rfl, _, _, _, _, rfl, .tup hp, kit_tt, _, rfl, iteF ⟨_, rfl, p, _, rfl, .inr (SqT.of hp), _, rfl, q, _, rfl, .inr (SqT.of hq), rfl, _, rfl, ite2 (fun c => absurd c (by rw [hl]; simp)) (fun _ => ?_)⟩⟩
    refine ⟨_, rfl, _, rfl, p, q, rfl, ⟨_, SqT.of hp⟩, ⟨_, SqT.of hq⟩, comp_zip hl (fun i zs H' => Same H H' ∧ zs = List.replicate i (V.bl true)) ⟨Same.refl H, rfl⟩
      (fun i zs H' hi ⟨s', e⟩ => ⟨SqT.of (s' _ _ hp), SqT.of (s' _ _ hq), by rw [e, List.length_replicate]; exact small (by omega)⟩) ?_ ?_⟩
    · rintro i x y p2 zs H' hx hy ⟨s', rfl⟩ hn
      refine ⟨p2, _, rfl, SqT.of upd_same, rfl, _, _, rfl, _, _, rfl, rfl, rfl, _, rfl, _, rfl, _, _, rfl, Alk.mono (Tups.of_same (s'.trans (same_new hn _))) (kk i x y hx hy), fun H4 s4 => ⟨(s'.trans (same_new hn _)).trans s4, ?_⟩⟩
      rw [List.replicate_succ']
    · rintro zs H' ⟨s', rfl⟩ D hD
      refine ⟨D, List.replicate xs.length true, rfl, SqL.of (by rw [upd_same, List.map_replicate]), ?_⟩
      rw [show (List.replicate xs.length true).all id = true by simp]
      exact k _ (s'.trans (same_new hD _))
theorem ok_alike (F : Fun K "_law_alike" "_law_alike" sAlike f fd) (b1 : Binds K fd PL []) (k1 : PySem.W.keepIn K (.ref f) = true) (m1 : mg "_law_alike" = some (.ref f))
    (z1 : mg "isinstance" = none) (z2 : mg "tuple" = none) (z3 : mg "len" = none) (z4 : mg "all" = none) (z5 : mg "zip" = none) (z7 : mg "int" = none) (z8 : mg "bool" = none) :
    ∀ n : Nat, FnOk P w K mg base CX0 (1 + n) f fd PL (spAlike n)
  | 0 => ⟨fun vs H Q E h => by obtain ⟨v, u, rfl, _⟩ := h; rfl, fun _ _ _ _ _ _ _ _ _ _ _ _ _ h => by obtain ⟨v, u, _, al, _⟩ := h; exact al.elim⟩
  | n + 1 => alike_step n F (ok_alike F b1 k1 m1 z1 z2 z3 z4 z5 z7 z8 n) b1 k1 m1 z1 z2 z3 z4 z5 z7 z8
end
/-! ### the plain trace -/
def PlAt (H : Hp) : Bd → V → Prop
  | .thn a b, v => ∃ p x y, v = .ref p ∧ H p = some (.tup [x, y]) ∧ PlAt H a x ∧ PlAt H b y
  | .eit a _, v => ∃ p x, v = .ref p ∧ H p = some (.tup [.int 0, x]) ∧ PlAt H a x
  | .tak _ _ _ b, v => ∃ p x, v = .ref p ∧ H p = some (.tup [.int 1, x]) ∧ PlAt H b x
  | .rest, v => ∃ p, v = .ref p ∧ H p = some (.tup [])
  | .pay _ _, v => ∃ p, v = .ref p ∧ H p = some (.tup [])
  | .put _ _, v => ∃ p, v = .ref p ∧ H p = some (.tup [])
  | .use _, v => ∃ p, v = .ref p ∧ H p = some (.tup [])
  | .oft _, v => ∃ p, v = .ref p ∧ H p = some (.tup [])
theorem PlAt.mono {H H' : Hp} (m : Tups H H') : ∀ {t : Bd} {v : V}, PlAt H t v → PlAt H' t v := by
  intro t
  induction t with
  | thn a b iha ihb => intro v ⟨p, x, y, e, h1, h2, h3⟩; exact ⟨p, x, y, e, m _ _ h1, iha h2, ihb h3⟩
  | eit a b iha ihb => intro v ⟨p, x, e, h1, h2⟩; exact ⟨p, x, e, m _ _ h1, iha h2⟩
  | tak z n a b iha ihb => intro v ⟨p, x, e, h1, h2⟩; exact ⟨p, x, e, m _ _ h1, ihb h2⟩
  | rest => intro v ⟨p, e, h⟩; exact ⟨p, e, m _ _ h⟩
  | pay _ _ => intro v ⟨p, e, h⟩; exact ⟨p, e, m _ _ h⟩
  | put _ _ => intro v ⟨p, e, h⟩; exact ⟨p, e, m _ _ h⟩
  | use _ => intro v ⟨p, e, h⟩; exact ⟨p, e, m _ _ h⟩
  | oft _ _ => intro v ⟨p, e, h⟩; exact ⟨p, e, m _ _ h⟩
theorem PlAt.alk {H : Hp} : ∀ {t : Bd} {v u : V}, PlAt H t v → PlAt H t u → Alk H (t.dep + 1) v u := by
  intro t
  induction t with
  | thn a b iha ihb =>
    rintro v u ⟨p, x, y, rfl, h1, h2, h3⟩ ⟨q, x', y', rfl, h4, h5, h6⟩
    exact Alk.two h1 h4 (Alk.up (by show a.dep + 1 ≤ max a.dep b.dep + 1; omega) (iha h2 h5)) (Alk.up (by show b.dep + 1 ≤ max a.dep b.dep + 1; omega) (ihb h3 h6))
  | eit a b iha ihb =>
    rintro v u ⟨p, x, rfl, h1, h2⟩ ⟨q, x', rfl, h4, h5⟩
    exact Alk.two h1 h4 (Alk.int 0) (Alk.up (by show a.dep + 1 ≤ max a.dep b.dep + 1; omega) (iha h2 h5))
  | tak z n a b iha ihb =>
    rintro v u ⟨p, x, rfl, h1, h2⟩ ⟨q, x', rfl, h4, h5⟩
    exact Alk.two h1 h4 (Alk.int 1) (Alk.up (by show b.dep + 1 ≤ max a.dep b.dep + 1; omega) (ihb h2 h5))
  | rest => rintro v u ⟨p, rfl, h1⟩ ⟨q, rfl, h2⟩; exact Alk.nil h1 h2
  | pay _ _ => rintro v u ⟨p, rfl, h1⟩ ⟨q, rfl, h2⟩; exact Alk.nil h1 h2
  | put _ _ => rintro v u ⟨p, rfl, h1⟩ ⟨q, rfl, h2⟩; exact Alk.nil h1 h2
  | use _ => rintro v u ⟨p, rfl, h1⟩ ⟨q, rfl, h2⟩; exact Alk.nil h1 h2
  | oft _ _ => rintro v u ⟨p, rfl, h1⟩ ⟨q, rfl, h2⟩; exact Alk.nil h1 h2
def spPlain (n : Nat) : Sp := fun vs H Q _ => ∃ (p : Addr) (t : Bd), vs = [.ref p] ∧ BAt H t p ∧ t.dep < n ∧ ∀ (r : Addr) (H' : Hp), Same H H' → PlAt H' t (.ref r) → Q (.ref r) H'
section
variable {P : Program} {w : World} {K : PySem.W.Frag} {mg : Str → Option Value} {base : Heap} {f f1 f2 f3 f4 f5 f6 f7 f8 : Addr} {fd d1 d2 d3 d4 d5 d6 d7 d8 : FuncData}
theorem sc_plainT : FnScope ["body"] ["body"] (defScope sPlainT) := ⟨rfl, rfl, rfl, by decide +kernel, rfl, by decide +kernel, by decide +kernel⟩
theorem plainT_step (n : Nat) (F : Fun K "plain_trace" "plain_trace" sPlainT f fd) (R : FnOk P w K mg base CX0 (1 + n) f fd ["body"] (spPlain n)) (b1 : Binds K fd ["body"] []) (k1 : PySem.W.keepIn K (.ref f) = true) (m1 : mg "plain_trace" = some (.ref f)) :
    FnOk P w K mg base CX0 (1 + n + 1) f fd ["body"] (spPlain (n + 1)) := by
  refine F.ok sc_plainT (fun vs H Q E h => ?_) (fun cdv A outer s H vs Q E hr h => ?_)
  · obtain ⟨p, t, rfl, _⟩ := h
    rfl
  obtain ⟨p, t, rfl, B, dp, k⟩ := h
  refine ⟨_, (pss_cons (ps_if (pt_cmpR op_eq (pe_ix ix_tup (pv 0) pe_int (fun _ _ => rfl)) pe_str (nomark _)) (pss_one (ps_ret (pe_tup (pa_call (pe_call R hr rfl m1 k1 b1 .nil pass0 (pa_sub (pe_ix ix_tup (pv 0) pe_int (fun _ _ => rfl)) pa_nil)) (pa_call (pe_call R hr rfl m1 k1 b1 .nil pass0 (pa_sub (pe_ix ix_tup (pv 0) pe_int (fun _ _ => rfl)) pa_nil)) pa_nil))))) pss_nil)
    (pss_cons (ps_if (pt_cmpR op_eq (pe_ix ix_tup (pv 0) pe_int (fun _ _ => rfl)) pe_str (nomark _)) (pss_one (ps_ret (pe_tup (pa_cst pe_int (pa_call (pe_call R hr rfl m1 k1 b1 .nil pass0 (pa_sub (pe_ix ix_tup (pv 0) pe_int (fun _ _ => rfl)) pa_nil)) pa_nil))))) pss_nil)
    (pss_cons (ps_if (pt_cmpR op_eq (pe_ix ix_tup (pv 0) pe_int (fun _ _ => rfl)) pe_str (nomark _)) (pss_one (ps_ret (pe_tup (pa_cst pe_int (pa_call (pe_call R hr rfl m1 k1 b1 .nil pass0 (pa_sub (pe_ix ix_tup (pv 0) pe_int (fun _ _ => rfl)) pa_nil)) pa_nil))))) pss_nil)
    (pss_one (ps_ret (pe_tup pa_nil)))))), ?_⟩
  cases t with
  | rest =>
    have BB := B
    have B' : H p = some (.tup [.str "rest"]) := B
    refine ⟨_, rfl, p, _, _, _, rfl, rfl, SqT.of (B'), at0 _ _, rfl, _, rfl, ite2 (fun c => absurd c (by decide +kernel)) (fun _ => ?_)⟩
    refine ⟨_, rfl, p, _, _, _, rfl, rfl, SqT.of (B'), at0 _ _, rfl, _, rfl, ite2 (fun c => absurd c (by decide +kernel)) (fun _ => ?_)⟩
    refine ⟨_, rfl, p, _, _, _, rfl, rfl, SqT.of (B'), at0 _ _, rfl, _, rfl, ite2 (fun c => absurd c (by decide +kernel)) (fun _ => ?_)⟩
    exact ⟨(by show 0 ≤ sizeLine; decide), fun r hr' => k r _ (same_new hr' _) ⟨r, rfl, upd_same⟩⟩
  | pay xt yt =>
    have BB := B
    obtain ⟨c, B', hc⟩ := B
    refine ⟨_, rfl, p, _, _, _, rfl, rfl, SqT.of (B'), at0 _ _, rfl, _, rfl, ite2 (fun c => absurd c (by decide +kernel)) (fun _ => ?_)⟩
    refine ⟨_, rfl, p, _, _, _, rfl, rfl, SqT.of (B'), at0 _ _, rfl, _, rfl, ite2 (fun c => absurd c (by decide +kernel)) (fun _ => ?_)⟩
    refine ⟨_, rfl, p, _, _, _, rfl, rfl, SqT.of (B'), at0 _ _, rfl, _, rfl, ite2 (fun c => absurd c (by decide +kernel)) (fun _ => ?_)⟩
    exact ⟨(by show 0 ≤ sizeLine; decide), fun r hr' => k r _ (same_new hr' _) ⟨r, rfl, upd_same⟩⟩
  | put z m =>
    have BB := B
    have B' : H p = some (.tup [.str "put", .str z, .int m]) := B
    refine ⟨_, rfl, p, _, _, _, rfl, rfl, SqT.of (B'), at0 _ _, rfl, _, rfl, ite2 (fun c => absurd c (by decide +kernel)) (fun _ => ?_)⟩
    refine ⟨_, rfl, p, _, _, _, rfl, rfl, SqT.of (B'), at0 _ _, rfl, _, rfl, ite2 (fun c => absurd c (by decide +kernel)) (fun _ => ?_)⟩
    refine ⟨_, rfl, p, _, _, _, rfl, rfl, SqT.of (B'), at0 _ _, rfl, _, rfl, ite2 (fun c => absurd c (by decide +kernel)) (fun _ => ?_)⟩
    exact ⟨(by show 0 ≤ sizeLine; decide), fun r hr' => k r _ (same_new hr' _) ⟨r, rfl, upd_same⟩⟩
  | use z =>
    have BB := B
    have B' : H p = some (.tup [.str "use", .str z]) := B
    refine ⟨_, rfl, p, _, _, _, rfl, rfl, SqT.of (B'), at0 _ _, rfl, _, rfl, ite2 (fun c => absurd c (by decide +kernel)) (fun _ => ?_)⟩
    refine ⟨_, rfl, p, _, _, _, rfl, rfl, SqT.of (B'), at0 _ _, rfl, _, rfl, ite2 (fun c => absurd c (by decide +kernel)) (fun _ => ?_)⟩
    refine ⟨_, rfl, p, _, _, _, rfl, rfl, SqT.of (B'), at0 _ _, rfl, _, rfl, ite2 (fun c => absurd c (by decide +kernel)) (fun _ => ?_)⟩
    exact ⟨(by show 0 ≤ sizeLine; decide), fun r hr' => k r _ (same_new hr' _) ⟨r, rfl, upd_same⟩⟩
  | oft a =>
    have BB := B
    obtain ⟨q1, B', Ba⟩ := B
    have dp' : a.dep + 1 < n + 1 := dp
    refine ⟨_, rfl, p, _, _, _, rfl, rfl, SqT.of (B'), at0 _ _, rfl, _, rfl, ite2 (fun c => absurd c (by decide +kernel)) (fun _ => ?_)⟩
    refine ⟨_, rfl, p, _, _, _, rfl, rfl, SqT.of (B'), at0 _ _, rfl, _, rfl, ite2 (fun c => absurd c (by decide +kernel)) (fun _ => ?_)⟩
    refine ⟨_, rfl, p, _, _, _, rfl, rfl, SqT.of (B'), at0 _ _, rfl, _, rfl, ite2 (fun c => absurd c (by decide +kernel)) (fun _ => ?_)⟩
    exact ⟨(by show 0 ≤ sizeLine; decide), fun r hr' => k r _ (same_new hr' _) ⟨r, rfl, upd_same⟩⟩
  | thn a b =>
    have BB := B
    obtain ⟨q1, q2, B', Ba, Bb⟩ := B
    have dp' : max a.dep b.dep + 1 < n + 1 := dp
    refine ⟨_, rfl, p, _, _, _, rfl, rfl, SqT.of (B'), at0 _ _, rfl, _, rfl, ite2 (fun _ => ?_) (fun c => absurd (by decide +kernel) c)⟩
    refine ⟨_, rfl, p, _, _, _, rfl, rfl, SqT.of B', rfl, q1, a, rfl, Ba, by omega, fun r1 H1 s1 P1 => ⟨_, rfl, p, _, _, _, rfl, rfl, SqT.of (s1 _ _ B'), rfl, q2, b, rfl, Bb.mono (Tups.of_same s1), by omega, fun r2 H2 s2 P2 => ⟨(by show 2 ≤ sizeLine; decide), fun r hr' => ?_⟩⟩⟩
    have s3 := same_new hr' (.tup [.ref r1, .ref r2])
    exact k r _ ((s1.trans s2).trans s3) ⟨r, _, _, rfl, upd_same, P1.mono (Tups.of_same (s2.trans s3)), P2.mono (Tups.of_same s3)⟩
  | eit a b =>
    have BB := B
    obtain ⟨q1, q2, B', Ba, Bb⟩ := B
    have dp' : max a.dep b.dep + 1 < n + 1 := dp
    refine ⟨_, rfl, p, _, _, _, rfl, rfl, SqT.of (B'), at0 _ _, rfl, _, rfl, ite2 (fun c => absurd c (by decide +kernel)) (fun _ => ?_)⟩
    refine ⟨_, rfl, p, _, _, _, rfl, rfl, SqT.of (B'), at0 _ _, rfl, _, rfl, ite2 (fun _ => ?_) (fun c => absurd (by decide +kernel) c)⟩
    refine ⟨_, rfl, p, _, _, _, rfl, rfl, SqT.of B', rfl, q1, a, rfl, Ba, by omega, fun r1 H1 s1 P1 => ⟨(by show 2 ≤ sizeLine; decide), fun r hr' => ?_⟩⟩
    have s3 := same_new hr' (.tup [.int 0, .ref r1])
    exact k r _ (s1.trans s3) ⟨r, _, rfl, upd_same, P1.mono (Tups.of_same s3)⟩
  | tak z m a b =>
    have BB := B
    obtain ⟨q1, q2, B', Ba, Bb⟩ := B
    have dp' : max a.dep b.dep + 1 < n + 1 := dp
    refine ⟨_, rfl, p, _, _, _, rfl, rfl, SqT.of (B'), at0 _ _, rfl, _, rfl, ite2 (fun c => absurd c (by decide +kernel)) (fun _ => ?_)⟩
    refine ⟨_, rfl, p, _, _, _, rfl, rfl, SqT.of (B'), at0 _ _, rfl, _, rfl, ite2 (fun c => absurd c (by decide +kernel)) (fun _ => ?_)⟩
    refine ⟨_, rfl, p, _, _, _, rfl, rfl, SqT.of (B'), at0 _ _, rfl, _, rfl, ite2 (fun _ => ?_) (fun c => absurd (by decide +kernel) c)⟩
    refine ⟨_, rfl, p, _, _, _, rfl, rfl, SqT.of B', rfl, q2, b, rfl, Bb, by omega, fun r1 H1 s1 P1 => ⟨(by show 2 ≤ sizeLine; decide), fun r hr' => ?_⟩⟩
    have s3 := same_new hr' (.tup [.int 1, .ref r1])
    exact k r _ (s1.trans s3) ⟨r, _, rfl, upd_same, P1.mono (Tups.of_same s3)⟩
theorem ok_plainT (F : Fun K "plain_trace" "plain_trace" sPlainT f fd) (b1 : Binds K fd ["body"] []) (k1 : PySem.W.keepIn K (.ref f) = true) (m1 : mg "plain_trace" = some (.ref f)) : ∀ n : Nat, FnOk P w K mg base CX0 (1 + n) f fd ["body"] (spPlain n)
  | 0 => ⟨fun vs H Q E h => by obtain ⟨p, t, rfl, _⟩ := h; rfl, fun _ _ _ _ _ _ _ _ _ _ _ _ _ h => by obtain ⟨p, t, _, _, dp, _⟩ := h; exact absurd dp (Nat.not_lt_zero _)⟩
  | n + 1 => plainT_step n F (ok_plainT F b1 k1 m1 n) b1 k1 m1
theorem sc_plainL : FnScope ["_law_body_here", "_law_side"] ["_law_body_here"] (defScope sPlain) := ⟨rfl, rfl, rfl, by decide +kernel, rfl, by decide +kernel, by decide +kernel⟩
theorem plainL_step (n : Nat) (F : Fun K "_law_plain" "_law_plain" sPlain f fd) (R : FnOk P w K mg base CX0 (1 + n) f fd ["_law_body_here"] (spPlain n)) (b1 : Binds K fd ["_law_body_here"] []) (k1 : PySem.W.keepIn K (.ref f) = true) (m1 : mg "_law_plain" = some (.ref f)) (z1 : mg "int" = none) :
    FnOk P w K mg base CX0 (1 + n + 1) f fd ["_law_body_here"] (spPlain (n + 1)) := by
  refine F.ok sc_plainL (fun vs H Q E h => ?_) (fun cdv A outer s H vs Q E hr h => ?_)
  · obtain ⟨p, t, rfl, _⟩ := h
    rfl
  obtain ⟨p, t, rfl, B, dp, k⟩ := h
  refine ⟨_, (pss_cons (ps_if (pt_cmpR op_eq (pe_ix ix_tup (pv 0) pe_int (fun _ _ => rfl)) pe_str (nomark _)) (pss_one (ps_ret (pe_tup (pa_call (pe_call R hr rfl m1 k1 b1 .nil pass0 (pa_sub (pe_ix ix_tup (pv 0) pe_int (fun _ _ => rfl)) pa_nil)) (pa_call (pe_call R hr rfl m1 k1 b1 .nil pass0 (pa_sub (pe_ix ix_tup (pv 0) pe_int (fun _ _ => rfl)) pa_nil)) pa_nil))))) pss_nil)
    (pss_cons (ps_if (pt_cmpR op_in_seq (pe_ix ix_tup (pv 0) pe_int (fun _ _ => rfl)) (pe_tup (pa_cst pe_str (pa_cst pe_str pa_nil))) rfl) (pss_cons (ps_set (i := 1) sc_plainL.nd rfl (Or.inl rfl) (pe_callTy call_int1 rfl z1 (by decide +kernel) (pa_cmp (pe_cmpR op_eq (pe_ix ix_tup (pv 0) pe_int (fun _ _ => rfl)) pe_str (nomark _)) pa_nil)))
    (pss_one (ps_ret (pe_tup (pa_nm (pv 1) (pa_call (pe_call R hr rfl m1 k1 b1 .nil pass0 (pa_sub (pe_ix ix_tup (pv 0) (pe_op op_sub (pv 1) pe_int) (fun _ _ => rfl)) pa_nil)) pa_nil)))))) pss_nil)
    (pss_one (ps_ret (pe_tup pa_nil))))), ?_⟩
  cases t with
  | rest =>
    have BB := B
    have B' : H p = some (.tup [.str "rest"]) := B
    refine ⟨_, rfl, p, _, _, _, rfl, rfl, SqT.of (B'), at0 _ _, rfl, _, rfl, ite2 (fun c => absurd c (by decide +kernel)) (fun _ => ?_)⟩
    refine ⟨_, rfl, p, _, _, _, rfl, rfl, SqT.of (B'), at0 _ _, (by show 2 ≤ sizeLine; decide), fun q hq => ⟨q, _, rfl, .inr (SqT.of upd_same), rfl, (by decide +kernel), _, rfl, ite2 (fun c => absurd c (by decide +kernel)) (fun _ => ?_)⟩⟩
    exact ⟨(by show 0 ≤ sizeLine; decide), fun r hr' => k r _ ((same_new hq _).trans (same_new hr' _)) ⟨r, rfl, upd_same⟩⟩
  | pay xt yt =>
    have BB := B
    obtain ⟨c, B', hc⟩ := B
    refine ⟨_, rfl, p, _, _, _, rfl, rfl, SqT.of (B'), at0 _ _, rfl, _, rfl, ite2 (fun c => absurd c (by decide +kernel)) (fun _ => ?_)⟩
    refine ⟨_, rfl, p, _, _, _, rfl, rfl, SqT.of (B'), at0 _ _, (by show 2 ≤ sizeLine; decide), fun q hq => ⟨q, _, rfl, .inr (SqT.of upd_same), rfl, (by decide +kernel), _, rfl, ite2 (fun c => absurd c (by decide +kernel)) (fun _ => ?_)⟩⟩
    exact ⟨(by show 0 ≤ sizeLine; decide), fun r hr' => k r _ ((same_new hq _).trans (same_new hr' _)) ⟨r, rfl, upd_same⟩⟩
  | put z m =>
    have BB := B
    have B' : H p = some (.tup [.str "put", .str z, .int m]) := B
    refine ⟨_, rfl, p, _, _, _, rfl, rfl, SqT.of (B'), at0 _ _, rfl, _, rfl, ite2 (fun c => absurd c (by decide +kernel)) (fun _ => ?_)⟩
    refine ⟨_, rfl, p, _, _, _, rfl, rfl, SqT.of (B'), at0 _ _, (by show 2 ≤ sizeLine; decide), fun q hq => ⟨q, _, rfl, .inr (SqT.of upd_same), rfl, (by decide +kernel), _, rfl, ite2 (fun c => absurd c (by decide +kernel)) (fun _ => ?_)⟩⟩
    exact ⟨(by show 0 ≤ sizeLine; decide), fun r hr' => k r _ ((same_new hq _).trans (same_new hr' _)) ⟨r, rfl, upd_same⟩⟩
  | use z =>
    have BB := B
    have B' : H p = some (.tup [.str "use", .str z]) := B
    refine ⟨_, rfl, p, _, _, _, rfl, rfl, SqT.of (B'), at0 _ _, rfl, _, rfl, ite2 (fun c => absurd c (by decide +kernel)) (fun _ => ?_)⟩
    refine ⟨_, rfl, p, _, _, _, rfl, rfl, SqT.of (B'), at0 _ _, (by show 2 ≤ sizeLine; decide), fun q hq => ⟨q, _, rfl, .inr (SqT.of upd_same), rfl, (by decide +kernel), _, rfl, ite2 (fun c => absurd c (by decide +kernel)) (fun _ => ?_)⟩⟩
    exact ⟨(by show 0 ≤ sizeLine; decide), fun r hr' => k r _ ((same_new hq _).trans (same_new hr' _)) ⟨r, rfl, upd_same⟩⟩
  | oft a =>
    have BB := B
    obtain ⟨q1, B', Ba⟩ := B
    have dp' : a.dep + 1 < n + 1 := dp
    refine ⟨_, rfl, p, _, _, _, rfl, rfl, SqT.of (B'), at0 _ _, rfl, _, rfl, ite2 (fun c => absurd c (by decide +kernel)) (fun _ => ?_)⟩
    refine ⟨_, rfl, p, _, _, _, rfl, rfl, SqT.of (B'), at0 _ _, (by show 2 ≤ sizeLine; decide), fun q hq => ⟨q, _, rfl, .inr (SqT.of upd_same), rfl, (by decide +kernel), _, rfl, ite2 (fun c => absurd c (by decide +kernel)) (fun _ => ?_)⟩⟩
    exact ⟨(by show 0 ≤ sizeLine; decide), fun r hr' => k r _ ((same_new hq _).trans (same_new hr' _)) ⟨r, rfl, upd_same⟩⟩
  | thn a b =>
    have BB := B
    obtain ⟨q1, q2, B', Ba, Bb⟩ := B
    have dp' : max a.dep b.dep + 1 < n + 1 := dp
    refine ⟨_, rfl, p, _, _, _, rfl, rfl, SqT.of (B'), at0 _ _, rfl, _, rfl, ite2 (fun _ => ?_) (fun c => absurd (by decide +kernel) c)⟩
    refine ⟨_, rfl, p, _, _, _, rfl, rfl, SqT.of B', rfl, q1, a, rfl, Ba, by omega, fun r1 H1 s1 P1 => ⟨_, rfl, p, _, _, _, rfl, rfl, SqT.of (s1 _ _ B'), rfl, q2, b, rfl, Bb.mono (Tups.of_same s1), by omega, fun r2 H2 s2 P2 => ⟨(by show 2 ≤ sizeLine; decide), fun r hr' => ?_⟩⟩⟩
    have s3 := same_new hr' (.tup [.ref r1, .ref r2])
    exact k r _ ((s1.trans s2).trans s3) ⟨r, _, _, rfl, upd_same, P1.mono (Tups.of_same (s2.trans s3)), P2.mono (Tups.of_same s3)⟩
  | eit a b =>
    have BB := B
    obtain ⟨q1, q2, B', Ba, Bb⟩ := B
    have dp' : max a.dep b.dep + 1 < n + 1 := dp
    refine ⟨_, rfl, p, _, _, _, rfl, rfl, SqT.of (B'), at0 _ _, rfl, _, rfl, ite2 (fun c => absurd c (by decide +kernel)) (fun _ => ?_)⟩
    refine ⟨_, rfl, p, _, _, _, rfl, rfl, SqT.of (B'), at0 _ _, (by show 2 ≤ sizeLine; decide), fun q hq => ⟨q, _, rfl, .inr (SqT.of upd_same), rfl, (by decide +kernel), _, rfl, ite2 (fun _ => ?_) (fun c => absurd (by decide +kernel) c)⟩⟩
    have sq := same_new hq (.tup [.str "either", .str "take"])
    refine ⟨_, rfl, p, _, _, _, rfl, rfl, SqT.of (sq _ _ B'), at0 _ _, rfl, .inr ⟨_, rfl, ?_⟩⟩
    rw [show (decide (V.str "either" = V.str "take")) = false by decide +kernel]
    refine ⟨_, rfl, _, rfl, _, rfl, _, _, rfl, rfl, p, _, _, _, rfl, rfl, SqT.of (sq _ _ B'), rfl, q1, a, rfl, Ba.mono (Tups.of_same sq), by omega, fun r1 H1 s1 P1 => ⟨(by show 2 ≤ sizeLine; decide), fun r hr' => ?_⟩⟩
    have s3 := same_new hr' (.tup [.int 0, .ref r1])
    exact k r _ ((sq.trans s1).trans s3) ⟨r, _, rfl, upd_same, P1.mono (Tups.of_same s3)⟩
  | tak z m a b =>
    have BB := B
    obtain ⟨q1, q2, B', Ba, Bb⟩ := B
    have dp' : max a.dep b.dep + 1 < n + 1 := dp
    refine ⟨_, rfl, p, _, _, _, rfl, rfl, SqT.of (B'), at0 _ _, rfl, _, rfl, ite2 (fun c => absurd c (by decide +kernel)) (fun _ => ?_)⟩
    refine ⟨_, rfl, p, _, _, _, rfl, rfl, SqT.of (B'), at0 _ _, (by show 2 ≤ sizeLine; decide), fun q hq => ⟨q, _, rfl, .inr (SqT.of upd_same), rfl, (by decide +kernel), _, rfl, ite2 (fun _ => ?_) (fun c => absurd (by decide +kernel) c)⟩⟩
    have sq := same_new hq (.tup [.str "either", .str "take"])
    refine ⟨_, rfl, p, _, _, _, rfl, rfl, SqT.of (sq _ _ B'), at0 _ _, rfl, .inr ⟨_, rfl, ?_⟩⟩
    rw [show (decide (V.str "take" = V.str "take")) = true by decide +kernel]
    refine ⟨_, rfl, _, rfl, _, rfl, _, _, rfl, rfl, p, _, _, _, rfl, rfl, SqT.of (sq _ _ B'), rfl, q2, b, rfl, Bb.mono (Tups.of_same sq), by omega, fun r1 H1 s1 P1 => ⟨(by show 2 ≤ sizeLine; decide), fun r hr' => ?_⟩⟩
    have s3 := same_new hr' (.tup [.int 1, .ref r1])
    exact k r _ ((sq.trans s1).trans s3) ⟨r, _, rfl, upd_same, P1.mono (Tups.of_same s3)⟩
theorem ok_plainL (F : Fun K "_law_plain" "_law_plain" sPlain f fd) (b1 : Binds K fd ["_law_body_here"] []) (k1 : PySem.W.keepIn K (.ref f) = true) (m1 : mg "_law_plain" = some (.ref f)) (z1 : mg "int" = none) : ∀ n : Nat, FnOk P w K mg base CX0 (1 + n) f fd ["_law_body_here"] (spPlain n)
  | 0 => ⟨fun vs H Q E h => by obtain ⟨p, t, rfl, _⟩ := h; rfl, fun _ _ _ _ _ _ _ _ _ _ _ _ _ h => by obtain ⟨p, t, _, _, dp, _⟩ := h; exact absurd dp (Nat.not_lt_zero _)⟩
  | n + 1 => plainL_step n F (ok_plainL F b1 k1 m1 z1 n) b1 k1 m1 z1
end
end Q16

set_option Elab.async false
set_option linter.all false
set_option maxRecDepth 100000
set_option maxHeartbeats 4000000
namespace Q16
open PySem L2 Wd
/-! ### the ways to the oftens, and their places among the parts -/
def Bd.ways : Bd → List (List Int × Bd)
  | .oft a => ([], .oft a) :: a.ways.map fun x => (0 :: x.1, x.2)
  | .thn a b => (a.ways.map fun x => (0 :: x.1, x.2)) ++ b.ways.map fun x => (1 :: x.1, x.2)
  | .eit a b => (a.ways.map fun x => (0 :: x.1, x.2)) ++ b.ways.map fun x => (1 :: x.1, x.2)
  | .tak _ _ a b => (a.ways.map fun x => (0 :: x.1, x.2)) ++ b.ways.map fun x => (1 :: x.1, x.2)
  | _ => []
def Bd.pl : Bd → List Nat
  | .oft a => 0 :: a.pl.map (· + 1)
  | .thn a b => a.pl.map (· + 1) ++ b.pl.map (· + (1 + a.parts.length))
  | .eit a b => a.pl.map (· + 1) ++ b.pl.map (· + (1 + a.parts.length))
  | .tak _ _ a b => a.pl.map (· + 1) ++ b.pl.map (· + (1 + a.parts.length))
  | _ => []
inductive Leads : Bd → List Int → Nat → Prop
  | here {a : Bd} : Leads (.oft a) [] 0
  | oft {a : Bd} {w : List Int} {k : Nat} : Leads a w k → Leads (.oft a) (0 :: w) (k + 1)
  | thn0 {a b : Bd} {w : List Int} {k : Nat} : Leads a w k → Leads (.thn a b) (0 :: w) (k + 1)
  | thn1 {a b : Bd} {w : List Int} {k : Nat} : Leads b w k → Leads (.thn a b) (1 :: w) (k + (1 + a.parts.length))
  | eit0 {a b : Bd} {w : List Int} {k : Nat} : Leads a w k → Leads (.eit a b) (0 :: w) (k + 1)
  | eit1 {a b : Bd} {w : List Int} {k : Nat} : Leads b w k → Leads (.eit a b) (1 :: w) (k + (1 + a.parts.length))
  | tak0 {z : Str} {n : Int} {a b : Bd} {w : List Int} {k : Nat} : Leads a w k → Leads (.tak z n a b) (0 :: w) (k + 1)
  | tak1 {z : Str} {n : Int} {a b : Bd} {w : List Int} {k : Nat} : Leads b w k → Leads (.tak z n a b) (1 :: w) (k + (1 + a.parts.length))
theorem Leads.lt {t : Bd} {w : List Int} {k : Nat} (h : Leads t w k) : k < t.parts.length := by
  induction h with
  | here => show 0 < _ + 1; omega
  | oft _ ih => show _ < _ + 1; omega
  | thn0 _ ih => show _ < (_ ++ _ : List Bd).length + 1; rw [List.length_append]; omega
  | thn1 _ ih => show _ < (_ ++ _ : List Bd).length + 1; rw [List.length_append]; omega
  | eit0 _ ih => show _ < (_ ++ _ : List Bd).length + 1; rw [List.length_append]; omega
  | eit1 _ ih => show _ < (_ ++ _ : List Bd).length + 1; rw [List.length_append]; omega
  | tak0 _ ih => show _ < (_ ++ _ : List Bd).length + 1; rw [List.length_append]; omega
  | tak1 _ ih => show _ < (_ ++ _ : List Bd).length + 1; rw [List.length_append]; omega
theorem Leads.len {t : Bd} {w : List Int} {k : Nat} (h : Leads t w k) : w.length ≤ t.dep := by
  induction h with
  | here => exact Nat.zero_le _
  | oft _ ih => show _ + 1 ≤ _ + 1; omega
  | thn0 _ ih => show _ + 1 ≤ max _ _ + 1; omega
  | thn1 _ ih => show _ + 1 ≤ max _ _ + 1; omega
  | eit0 _ ih => show _ + 1 ≤ max _ _ + 1; omega
  | eit1 _ ih => show _ + 1 ≤ max _ _ + 1; omega
  | tak0 _ ih => show _ + 1 ≤ max _ _ + 1; omega
  | tak1 _ ih => show _ + 1 ≤ max _ _ + 1; omega
theorem zip_app {α β : Type} {A B : List α} {C D : List β} (h : A.length = C.length) {k : Nat} {x : α} {y : β} (hx : (A ++ B)[k]? = some x) (hy : (C ++ D)[k]? = some y) :
    (A[k]? = some x ∧ C[k]? = some y) ∨ ∃ j : Nat, B[j]? = some x ∧ D[j]? = some y := by
  rw [List.getElem?_append] at hx hy
  by_cases hk : k < A.length
  · rw [if_pos hk] at hx
    rw [if_pos (by omega)] at hy
    exact .inl ⟨hx, hy⟩
  · rw [if_neg hk] at hx
    rw [if_neg (by omega)] at hy
    exact .inr ⟨k - A.length, hx, by rw [h]; exact hy⟩
theorem get_map {α β : Type} {A : List α} {g : α → β} {k : Nat} {y : β} (h : (A.map g)[k]? = some y) : ∃ x, A[k]? = some x ∧ y = g x := by
  rw [List.getElem?_map] at h
  cases e : A[k]? with
  | none => rw [e] at h; cases h
  | some x => rw [e] at h; exact ⟨x, rfl, (Option.some.inj h).symm⟩
/-- an often in t -/
def In (t o : Bd) : Prop := (∃ a, o = .oft a) ∧ o.dep ≤ t.dep
theorem ways_pl : ∀ t : Bd, t.ways.length = t.pl.length ∧ t.ways.length ≤ t.parts.length ∧ ∀ (k : Nat) (x : List Int × Bd) (m : Nat), t.ways[k]? = some x → t.pl[k]? = some m → Leads t x.1 m ∧ In t x.2 := by
  have two : ∀ (t a b : Bd), t.ways = (a.ways.map fun x => (0 :: x.1, x.2)) ++ (b.ways.map fun x => (1 :: x.1, x.2)) → t.pl = a.pl.map (· + 1) ++ b.pl.map (· + (1 + a.parts.length)) → t.parts.length = (a.parts ++ b.parts).length + 1 → t.dep = max a.dep b.dep + 1 →
      (∀ w k, Leads a w k → Leads t (0 :: w) (k + 1)) → (∀ w k, Leads b w k → Leads t (1 :: w) (k + (1 + a.parts.length))) →
      (a.ways.length = a.pl.length ∧ a.ways.length ≤ a.parts.length ∧ ∀ (k : Nat) (x : List Int × Bd) (m : Nat), a.ways[k]? = some x → a.pl[k]? = some m → Leads a x.1 m ∧ In a x.2) →
      (b.ways.length = b.pl.length ∧ b.ways.length ≤ b.parts.length ∧ ∀ (k : Nat) (x : List Int × Bd) (m : Nat), b.ways[k]? = some x → b.pl[k]? = some m → Leads b x.1 m ∧ In b x.2) →
      t.ways.length = t.pl.length ∧ t.ways.length ≤ t.parts.length ∧ ∀ (k : Nat) (x : List Int × Bd) (m : Nat), t.ways[k]? = some x → t.pl[k]? = some m → Leads t x.1 m ∧ In t x.2 := by
    intro t a b e1 e2 e3 e4 l0 l1 ⟨a1, a2, a3⟩ ⟨b1, b2, b3⟩
    refine ⟨?_, ?_, fun k x m hx hm => ?_⟩
    · rw [e1, e2, List.length_append, List.length_append, List.length_map, List.length_map, List.length_map, List.length_map, a1, b1]
    · rw [e1, e3, List.length_append, List.length_append, List.length_map, List.length_map]
      omega
    · rw [e1] at hx
      rw [e2] at hm
      rcases zip_app (by rw [List.length_map, List.length_map, a1]) hx hm with ⟨h1, h2⟩ | ⟨j, h1, h2⟩
      · obtain ⟨y, hy, rfl⟩ := get_map h1
        obtain ⟨m', hm', rfl⟩ := get_map h2
        obtain ⟨q1, q2, q3⟩ := a3 k y m' hy hm'
        exact ⟨l0 _ _ q1, q2, by rw [e4]; show y.2.dep ≤ _; omega⟩
      · obtain ⟨y, hy, rfl⟩ := get_map h1
        obtain ⟨m', hm', rfl⟩ := get_map h2
        obtain ⟨q1, q2, q3⟩ := b3 j y m' hy hm'
        exact ⟨l1 _ _ q1, q2, by rw [e4]; show y.2.dep ≤ _; omega⟩
  have none' : ∀ t : Bd, t.ways = [] → t.pl = [] → t.ways.length = t.pl.length ∧ t.ways.length ≤ t.parts.length ∧ ∀ (k : Nat) (x : List Int × Bd) (m : Nat), t.ways[k]? = some x → t.pl[k]? = some m → Leads t x.1 m ∧ In t x.2 := by
    intro t e1 e2
    rw [e1, e2]
    exact ⟨rfl, Nat.zero_le _, fun k x m hx => by simp at hx⟩
  intro t
  induction t with
  | rest => exact none' _ rfl rfl
  | pay _ _ => exact none' _ rfl rfl
  | put _ _ => exact none' _ rfl rfl
  | use _ => exact none' _ rfl rfl
  | thn a b iha ihb => exact two _ a b rfl rfl rfl rfl (fun _ _ h => .thn0 h) (fun _ _ h => .thn1 h) iha ihb
  | eit a b iha ihb => exact two _ a b rfl rfl rfl rfl (fun _ _ h => .eit0 h) (fun _ _ h => .eit1 h) iha ihb
  | tak z n a b iha ihb => exact two _ a b rfl rfl rfl rfl (fun _ _ h => .tak0 h) (fun _ _ h => .tak1 h) iha ihb
  | oft a iha =>
    obtain ⟨a1, a2, a3⟩ := iha
    refine ⟨?_, ?_, fun k x m hx hm => ?_⟩
    · show (a.ways.map _).length + 1 = (a.pl.map _).length + 1
      rw [List.length_map, List.length_map, a1]
    · show (a.ways.map _).length + 1 ≤ a.parts.length + 1
      rw [List.length_map]
      omega
    · cases k with
      | zero =>
        have e1 : x = ([], .oft a) := by simpa [Bd.ways] using hx.symm
        have e2 : m = 0 := by simpa [Bd.pl] using hm.symm
        subst e1 e2
        exact ⟨.here, ⟨a, rfl⟩, Nat.le_refl _⟩
      | succ k =>
        have h1 : (a.ways.map fun x => (0 :: x.1, x.2))[k]? = some x := by simpa [Bd.ways] using hx
        have h2 : (a.pl.map (· + 1))[k]? = some m := by simpa [Bd.pl] using hm
        obtain ⟨y, hy, rfl⟩ := get_map h1
        obtain ⟨m', hm', rfl⟩ := get_map h2
        obtain ⟨q1, q2, q3⟩ := a3 k y m' hy hm'
        exact ⟨.oft q1, q2, by show y.2.dep ≤ a.dep + 1; omega⟩
/-- the oftens' places in a row of parts, counted from s -/
def Bd.isOft : Bd → Bool
  | .oft _ => true
  | _ => false
def ofts : Nat → List Bd → List Nat
  | _, [] => []
  | s, x :: r => if x.isOft then s :: ofts (s + 1) r else ofts (s + 1) r
theorem ofts_app : ∀ (xs ys : List Bd) (s : Nat), ofts s (xs ++ ys) = ofts s xs ++ ofts (s + xs.length) ys
  | [], ys, s => by simp [ofts]
  | x :: xs, ys, s => by
    have ih := ofts_app xs ys (s + 1)
    show (if x.isOft then s :: ofts (s + 1) (xs ++ ys) else ofts (s + 1) (xs ++ ys)) = (if x.isOft then s :: ofts (s + 1) xs else ofts (s + 1) xs) ++ _
    rw [ih, List.length_cons, show s + 1 + xs.length = s + (xs.length + 1) by omega]
    cases x.isOft <;> simp
theorem ofts_map (ms : List Nat) (a b c : Nat) (h : a + b = c) : (ms.map (· + a)).map (· + b) = ms.map (· + c) := by
  rw [List.map_map]
  refine List.map_congr_left fun x _ => ?_
  show x + a + b = x + c
  omega
theorem ofts_parts : ∀ (t : Bd) (s : Nat), ofts s t.parts = t.pl.map (· + s) := by
  have two : ∀ (a b : Bd) (s : Nat), (∀ s, ofts s a.parts = a.pl.map (· + s)) → (∀ s, ofts s b.parts = b.pl.map (· + s)) → ofts (s + 1) (a.parts ++ b.parts) = (a.pl.map (· + 1) ++ b.pl.map (· + (1 + a.parts.length))).map (· + s) := by
    intro a b s ha hb
    rw [ofts_app, ha, hb, List.map_append, ofts_map _ _ _ _ (show 1 + s = s + 1 by omega), ofts_map _ _ _ _ (show 1 + a.parts.length + s = s + 1 + a.parts.length by omega)]
  intro t
  induction t with
  | rest => intro s; rfl
  | pay _ _ => intro s; rfl
  | put _ _ => intro s; rfl
  | use _ => intro s; rfl
  | thn a b iha ihb => intro s; exact two a b s iha ihb
  | eit a b iha ihb => intro s; exact two a b s iha ihb
  | tak z n a b iha ihb => intro s; exact two a b s iha ihb
  | oft a iha =>
    intro s
    show s :: ofts (s + 1) a.parts = ((0 :: a.pl.map (· + 1)).map (· + s))
    rw [iha, List.map_cons, ofts_map _ _ _ _ (show 1 + s = s + 1 by omega), Nat.zero_add]
theorem ofts_take {ps : List Bd} {i : Nat} {t : Bd} (h : ps[i]? = some t) : ofts 0 (ps.take (i + 1)) = ofts 0 (ps.take i) ++ (if t.isOft then [i] else []) := by
  have hi : i < ps.length := by
    rcases Nat.lt_or_ge i ps.length with q | q
    · exact q
    · rw [List.getElem?_eq_none q] at h; cases h
  rw [List.take_succ, h, ofts_app, List.length_take, Nat.min_eq_left (by omega), Nat.zero_add]
  show _ ++ (if t.isOft then i :: [] else []) = _
  rfl
/-! ### led to an often -/
inductive LedAt (H : Hp) (g : V) : Bd → List Int → V → Prop
  | here {a : Bd} : LedAt H g (.oft a) [] g
  | oft {a : Bd} {w : List Int} {u : V} {p q : Addr} : LedAt H g a w u → H q = some (.tup [.int 1, u]) → H p = some (.tup [.ref q]) → LedAt H g (.oft a) (0 :: w) (.ref p)
  | thn0 {a b : Bd} {w : List Int} {u v : V} {p : Addr} : LedAt H g a w u → PlAt H b v → H p = some (.tup [u, v]) → LedAt H g (.thn a b) (0 :: w) (.ref p)
  | thn1 {a b : Bd} {w : List Int} {u v : V} {p : Addr} : LedAt H g b w u → PlAt H a v → H p = some (.tup [v, u]) → LedAt H g (.thn a b) (1 :: w) (.ref p)
  | eit0 {a b : Bd} {w : List Int} {u : V} {p : Addr} : LedAt H g a w u → H p = some (.tup [.int 0, u]) → LedAt H g (.eit a b) (0 :: w) (.ref p)
  | eit1 {a b : Bd} {w : List Int} {u : V} {p : Addr} : LedAt H g b w u → H p = some (.tup [.int 1, u]) → LedAt H g (.eit a b) (1 :: w) (.ref p)
  | tak0 {z : Str} {n : Int} {a b : Bd} {w : List Int} {u : V} {p : Addr} : LedAt H g a w u → H p = some (.tup [.int 0, u]) → LedAt H g (.tak z n a b) (0 :: w) (.ref p)
  | tak1 {z : Str} {n : Int} {a b : Bd} {w : List Int} {u : V} {p : Addr} : LedAt H g b w u → H p = some (.tup [.int 1, u]) → LedAt H g (.tak z n a b) (1 :: w) (.ref p)
theorem LedAt.mono {H H' : Hp} {g : V} {t : Bd} {w : List Int} {v : V} (h : LedAt H g t w v) (m : Tups H H') : LedAt H' g t w v := by
  induction h with
  | here => exact .here
  | oft _ h1 h2 ih => exact .oft ih (m _ _ h1) (m _ _ h2)
  | thn0 _ h1 h2 ih => exact .thn0 ih (h1.mono m) (m _ _ h2)
  | thn1 _ h1 h2 ih => exact .thn1 ih (h1.mono m) (m _ _ h2)
  | eit0 _ h1 ih => exact .eit0 ih (m _ _ h1)
  | eit1 _ h1 ih => exact .eit1 ih (m _ _ h1)
  | tak0 _ h1 ih => exact .tak0 ih (m _ _ h1)
  | tak1 _ h1 ih => exact .tak1 ih (m _ _ h1)
theorem LedAt.alk {H : Hp} {g : V} {m : Nat} (hg : Alk H m g g) {t : Bd} {w : List Int} {v : V} (h : LedAt H g t w v) : ∀ {u : V}, LedAt H g t w u → Alk H (2 * t.dep + m) v u := by
  have m1 := hg.pos
  induction h with
  | here => intro u h'; cases h'; exact Alk.up (by omega) hg
  | @oft a w x p q _ h1 h2 ih =>
    intro u h'
    cases h' with
    | oft i' h3 h4 =>
      refine Alk.up (n := 2 * a.dep + m + 1 + 1) (by show _ ≤ 2 * (a.dep + 1) + m; omega) (Alk.one h2 h4 (Alk.two h1 h3 (Alk.up (n := 1) (by omega) (Alk.int 1)) (ih i')))
  | @thn0 a b w x y p _ h1 h2 ih =>
    intro u h'
    cases h' with
    | thn0 i' h3 h4 =>
      refine Alk.up (n := 2 * max a.dep b.dep + m + 1) (by show _ ≤ 2 * (max a.dep b.dep + 1) + m; omega) (Alk.two h2 h4 (Alk.up (by omega) (ih i')) (Alk.up (by omega) (h1.alk h3)))
  | @thn1 a b w x y p _ h1 h2 ih =>
    intro u h'
    cases h' with
    | thn1 i' h3 h4 =>
      refine Alk.up (n := 2 * max a.dep b.dep + m + 1) (by show _ ≤ 2 * (max a.dep b.dep + 1) + m; omega) (Alk.two h2 h4 (Alk.up (by omega) (h1.alk h3)) (Alk.up (by omega) (ih i')))
  | @eit0 a b w x p _ h1 ih =>
    intro u h'
    cases h' with
    | eit0 i' h3 =>
      refine Alk.up (n := 2 * max a.dep b.dep + m + 1) (by show _ ≤ 2 * (max a.dep b.dep + 1) + m; omega) (Alk.two h1 h3 (Alk.up (n := 1) (by omega) (Alk.int 0)) (Alk.up (by omega) (ih i')))
  | @eit1 a b w x p _ h1 ih =>
    intro u h'
    cases h' with
    | eit1 i' h3 =>
      refine Alk.up (n := 2 * max a.dep b.dep + m + 1) (by show _ ≤ 2 * (max a.dep b.dep + 1) + m; omega) (Alk.two h1 h3 (Alk.up (n := 1) (by omega) (Alk.int 1)) (Alk.up (by omega) (ih i')))
  | @tak0 z n a b w x p _ h1 ih =>
    intro u h'
    cases h' with
    | tak0 i' h3 =>
      refine Alk.up (n := 2 * max a.dep b.dep + m + 1) (by show _ ≤ 2 * (max a.dep b.dep + 1) + m; omega) (Alk.two h1 h3 (Alk.up (n := 1) (by omega) (Alk.int 0)) (Alk.up (by omega) (ih i')))
  | @tak1 z n a b w x p _ h1 ih =>
    intro u h'
    cases h' with
    | tak1 i' h3 =>
      refine Alk.up (n := 2 * max a.dep b.dep + m + 1) (by show _ ≤ 2 * (max a.dep b.dep + 1) + m; omega) (Alk.two h1 h3 (Alk.up (n := 1) (by omega) (Alk.int 1)) (Alk.up (by omega) (ih i')))
end Q16

set_option Elab.async false
set_option linter.all false
set_option maxRecDepth 100000
set_option maxHeartbeats 4000000
namespace Q16
open PySem L2 Wd
inductive WsAt (H0 H : Hp) : List (List Int × Bd) → List V → Prop
  | nil : WsAt H0 H [] []
  | cons {w : List Int} {t : Bd} {q l b : Addr} {ws : List (List Int × Bd)} {vs : List V} : H0 l = none → H q = some (.tup [.ref l, .ref b]) → H l = some (.lst (w.map V.int)) → BAt H t b → WsAt H0 H ws vs → WsAt H0 H ((w, t) :: ws) (.ref q :: vs)
theorem none_of {H H' : Hp} (s : Same H H') {b : Addr} (h : H' b = none) : H b = none := by
  cases e : H b with
  | none => rfl
  | some o => rw [s _ _ e] at h; cases h
theorem WsAt.mono {H0 H H' : Hp} {ws : List (List Int × Bd)} {vs : List V} (h : WsAt H0 H ws vs) (s : Same H H') : WsAt H0 H' ws vs := by
  induction h with
  | nil => exact .nil
  | cons h0 h1 h2 h3 _ ih => exact .cons h0 (s _ _ h1) (s _ _ h2) (h3.mono (Tups.of_same s)) ih
theorem WsAt.back {H0 H1 H : Hp} {ws : List (List Int × Bd)} {vs : List V} (h : WsAt H1 H ws vs) (s : Same H0 H1) : WsAt H0 H ws vs := by
  induction h with
  | nil => exact .nil
  | cons h0 h1 h2 h3 _ ih => exact .cons (none_of s h0) h1 h2 h3 ih
theorem WsAt.append {H0 H : Hp} {ws us : List (List Int × Bd)} {vs xs : List V} (h : WsAt H0 H ws vs) (h' : WsAt H0 H us xs) : WsAt H0 H (ws ++ us) (vs ++ xs) := by
  induction h with
  | nil => exact h'
  | cons h0 h1 h2 h3 _ ih => exact .cons h0 h1 h2 h3 ih
theorem WsAt.length {H0 H : Hp} {ws : List (List Int × Bd)} {vs : List V} (h : WsAt H0 H ws vs) : vs.length = ws.length := by
  induction h with
  | nil => rfl
  | cons _ _ _ _ _ ih => rw [List.length_cons, List.length_cons, ih]
theorem WsAt.get {H0 H : Hp} {ws : List (List Int × Bd)} {vs : List V} (h : WsAt H0 H ws vs) : ∀ {i : Nat} {v : V}, vs[i]? = some v → ∃ x q l b, ws[i]? = some x ∧ v = .ref q ∧ H0 l = none ∧ H q = some (.tup [.ref l, .ref b]) ∧ H l = some (.lst (x.1.map V.int)) ∧ BAt H x.2 b := by
  induction h with
  | nil => intro i v e; simp at e
  | @cons w t q l b ws vs h0 h1 h2 h3 _ ih =>
    intro i v e
    cases i with
    | zero =>
      simp only [List.getElem?_cons_zero, Option.some.injEq] at e
      exact ⟨(w, t), q, l, b, rfl, e.symm, h0, h1, h2, h3⟩
    | succ i => exact ih (by simpa using e)
theorem map_take {α β : Type} {g : α → β} {ws : List α} {i : Nat} {x : α} (h : ws[i]? = some x) : (ws.take (i + 1)).map g = (ws.take i).map g ++ [g x] := by
  rw [List.take_succ, h]
  simp
theorem cut_one (c : Int) (w : List Int) : cutV ((c :: w).map V.int) (some 1) none = w.map V.int := by
  have e : HT.sIx ((c :: w).map V.int).length 0 (some 1) = 1 := by
    show HT.sIx _ 0 (some ((1 : Nat) : Int)) = 1
    rw [HT.sIx_nat]
    simp
  unfold cutV
  rw [e, HT.sIx_none, List.map_cons, List.drop_succ_cons, List.drop_zero, List.take_of_length_le]
  simp
theorem len_ne {c : Int} {w : List Int} : ¬ (decide (V.int ((((c :: w).map V.int).length : Nat) : Int) = V.int 0) = true) := fun h => by
  have q := of_decide_eq_true h
  injection q with q
  simp at q
  omega
def pre (c : Int) : List Int × Bd → List Int × Bd := fun x => (c :: x.1, x.2)
def spWays (n : Nat) : Sp := fun vs H Q _ => ∃ (p : Addr) (t : Bd), vs = [.ref p] ∧ BAt H t p ∧ t.dep < n ∧ t.parts.length ≤ 1000 ∧ ∀ (r : Addr) (vs : List V) (H' : Hp), H r = none → Same H H' → H' r = some (.lst vs) → WsAt H H' t.ways vs → Q (.ref r) H'
theorem ways_small {t : Bd} {x : List Int × Bd} {i : Nat} (h : t.ways[i]? = some x) (hz : t.dep ≤ 900) : x.1.length ≤ 900 := by
  obtain ⟨e1, _, e3⟩ := ways_pl t
  have hi : i < t.ways.length := by
    rcases Nat.lt_or_ge i t.ways.length with q | q
    · exact q
    · rw [List.getElem?_eq_none q] at h; cases h
  have hm : t.pl[i]? = some t.pl[i] := List.getElem?_eq_getElem (by omega)
  have q := (e3 i x _ h hm).1.len
  omega
section
variable {P : Program} {w : World} {K : PySem.W.Frag} {mg : Str → Option Value} {base : Heap} {f f1 f2 f3 f4 f5 f6 f7 f8 : Addr} {fd d1 d2 d3 d4 d5 d6 d7 d8 : FuncData}
theorem scWays : FnScope ["_law_body_here", "_law_found", "_law_side"] ["_law_body_here"] (defScope sWays) := ⟨rfl, rfl, rfl, by decide +kernel, rfl, by decide +kernel, by decide +kernel⟩
theorem nd_wo : (["_law_way", "_law_one"] : List Str).Nodup := by decide +kernel
theorem nd_wos : (["_law_way", "_law_one", "_law_side"] : List Str).Nodup := by decide +kernel
theorem ways_step (n : Nat) (hn : n ≤ 900) (F : Fun K "_law_ways" "_law_ways" sWays f fd) (R : FnOk P w K mg base CX0 (1 + n) f fd ["_law_body_here"] (spWays n)) (b1 : Binds K fd ["_law_body_here"] []) (k1 : PySem.W.keepIn K (.ref f) = true) (m1 : mg "_law_ways" = some (.ref f)) :
    FnOk P w K mg base CX0 (1 + n + 1) f fd ["_law_body_here"] (spWays (n + 1)) := by
  refine F.ok scWays (fun vs H Q E h => ?_) (fun cdv A outer s H vs Q E hr h => ?_)
  · obtain ⟨p, t, rfl, _⟩ := h
    rfl
  obtain ⟨p, t, rfl, B, dp, hz, k⟩ := h
  refine ⟨_, L2.QSs.ok (qss_cons (qs_any (ps_set (i := 1) scWays.nd rfl (Or.inl rfl) (pe_lst pa_nil)))
    (qss_cons (qs_any (ps_if (pt_cmpR op_eq (pe_ix ix_tup (pv 0) pe_int (fun _ _ => rfl)) pe_str (nomark _)) (pss_one (ps_set (i := 1) scWays.nd rfl (Or.inl rfl) (pe_op op_cat (pe_lst (pa_tup (pe_tup (pa_lst (pe_lst pa_nil) (pa_nm (pv 0) pa_nil))) pa_nil)) (pe_comp [] 2 [] ["_law_way", "_law_one"] rfl rfl (by decide +kernel) rfl (by decide +kernel) trivial rfl rfl rfl trivial (pi_list (pe_call R hr rfl m1 k1 b1 .nil pass0 (pa_sub (pe_ix ix_tup (pv 0) pe_int (fun _ _ => rfl)) pa_nil))) (fun B => pg_two (K := K) (i := 0) (j := 1) rfl rfl nd_wo rfl rfl rfl rfl) (fun B => pf_nil) (fun B => (pe_tup (pa_bin (pe_op op_cat (pe_lst (pa_cst pe_int pa_nil)) (pv 0)) (pa_nm (pv 1) pa_nil)))))))) pss_nil))
    (qss_cons (qs_any (ps_if (pt_cmpR op_in_seq (pe_ix ix_tup (pv 0) pe_int (fun _ _ => rfl)) (pe_tup (pa_cst pe_str (pa_cst pe_str (pa_cst pe_str pa_nil)))) rfl) (pss_one (ps_for PassesOwn.never rfl (pi_tup (pe_tup (pa_cst pe_int (pa_cst pe_int pa_nil)))) (pg_name (i := 2) scWays.nd rfl (Or.inr rfl)) (pss_one (ps_set (i := 1) scWays.nd rfl (Or.inl rfl) (pe_op op_cat (pv 1) (pe_comp ["_law_side"] 2 [2] ["_law_way", "_law_one", "_law_side"] rfl rfl (by decide +kernel) rfl (by decide +kernel) ⟨⟨_, rfl⟩, trivial⟩ rfl rfl rfl ⟨⟨.inl rfl, .inl rfl, rfl⟩, trivial⟩ (pi_list (pe_call R hr rfl m1 k1 b1 .nil pass0 (pa_sub (pe_ix ix_tup (pv 0) (pe_op op_sub (pv 2) pe_int) (fun _ _ => rfl)) pa_nil))) (fun B => pg_two (K := K) (i := 0) (j := 1) rfl rfl nd_wos rfl rfl rfl rfl) (fun B => pf_nil) (fun B => (pe_tup (pa_bin (pe_op op_cat (pe_lst (pa_nm (pv 2) pa_nil)) (pv 0)) (pa_nm (pv 1) pa_nil)))))))))) pss_nil))
    (qss_one (qs_any (ps_ret (pv 1))))))), ?_⟩
  -- a comprehension that sets c ahead of each way
  have comp : ∀ {te : TE} {σ' : St} {own : Nat} {g : TG} {c : Int} {a : Bd} {r2 : Addr} {vs2 : List V} {H2 : Hp} {fin : List V → Hp → Prop}, a.dep ≤ 900 → a.parts.length ≤ 1000 → Same H H2 → H2 r2 = some (.lst vs2) → WsAt H H2 a.ways vs2 →
      (∀ q l b w H3 (N : List V → Hp → Prop) ys, H3 q = some (.tup [.ref l, .ref b]) → H3 l = some (.lst (w.map V.int)) → w.length ≤ 900 → (∀ l1 l2 q2, H3 l1 = none → (upd H3 l1 (.lst [.int c])) l2 = none → (upd (upd H3 l1 (.lst [.int c])) l2 (.lst ((c :: w).map V.int))) q2 = none → N (ys ++ [.ref q2]) (upd (upd (upd H3 l1 (.lst [.int c])) l2 (.lst ((c :: w).map V.int))) q2 (.tup [.ref l2, .ref b]))) →
        g (.ref q) σ' H3 fun σ3 H4 => σ3.drop own = σ'.drop own ∧ tYes σ3 H4 fun b H5 => if b = true then te σ3 H5 fun y H6 => N (ys ++ [y]) H6 else N ys H5) →
      (∀ ys H3, Same H2 H3 → WsAt H H3 (a.ways.map (pre c)) ys → ys.length ≤ 1000 → fin ys H3) → CompW (Itl K r2) g tYes te own σ' fin H2 := by
    intro te σ' own g c a r2 vs2 H2 fin ha hza sH2 h2 W2 hstep hfin
    have lw := W2.length
    obtain ⟨_, lz, _⟩ := ways_pl a
    refine comp_list (xs := vs2) (fun i ys H3 => Same H2 H3 ∧ WsAt H H3 ((a.ways.take i).map (pre c)) ys) ⟨Same.refl _, .nil⟩ (fun i ys H3 hi ⟨s3, W3⟩ => ⟨SqL.of (s3 _ _ h2), ?_⟩) ?_ ?_
    · rw [W3.length, List.length_map, List.length_take]
      exact small (by omega)
    · rintro i x ys H3 hx ⟨s3, W3⟩
      obtain ⟨x', q, l, b, hw, rfl, _, hq, hl, hb⟩ := (W2.mono s3).get hx
      refine hstep q l b x'.1 H3 (fun zs H4 => Same H2 H4 ∧ WsAt H H4 ((a.ways.take (i + 1)).map (pre c)) zs) ys hq hl (ways_small hw ha) fun l1 l2 q2 n1 n2 n3 => ?_
      have y1 := same_new n1 (.lst [.int c])
      have y2 := same_new n2 (.lst ((c :: x'.1).map V.int))
      have y3 := same_new n3 (.tup [.ref l2, .ref b])
      have y13 := y1.trans (y2.trans y3)
      refine ⟨s3.trans y13, ?_⟩
      rw [map_take hw]
      exact (W3.mono y13).append (.cons (none_of (sH2.trans (s3.trans y1)) n2) upd_same (y3 _ _ upd_same) (hb.mono (Tups.of_same y13)) .nil)
    · rintro ys H3 ⟨s3, W3⟩
      rw [lw, List.take_length] at W3
      exact hfin ys H3 s3 W3 (by rw [W3.length, List.length_map]; omega)
  cases t with
  | rest =>
    have BB := B
    have B' : H p = some (.tup [.str "rest"]) := B
    refine ⟨(by show 0 ≤ sizeLine; decide), fun g0 hg0 => ?_⟩
    have s0 := same_new hg0 (.lst [])
    refine ⟨_, rfl, p, _, _, _, rfl, rfl, SqT.of (s0 _ _ B'), at0 _ _, rfl, _, rfl, ite2 (fun c => absurd c (by decide +kernel)) (fun _ => ?_)⟩
    refine ⟨_, rfl, p, _, _, _, rfl, rfl, SqT.of (s0 _ _ B'), at0 _ _, (by show 3 ≤ sizeLine; decide), fun q hq => ⟨q, _, rfl, .inr (SqT.of upd_same), rfl, (by decide +kernel), _, rfl, ite2 (fun c => absurd c (by decide +kernel)) (fun _ => ?_)⟩⟩
    have sq := same_new hq (.tup [.str "then", .str "either", .str "take"])
    exact ⟨_, rfl, k g0 [] _ hg0 (s0.trans sq) (sq _ _ upd_same) .nil⟩
  | pay xt yt =>
    have BB := B
    obtain ⟨c, B', hc⟩ := B
    refine ⟨(by show 0 ≤ sizeLine; decide), fun g0 hg0 => ?_⟩
    have s0 := same_new hg0 (.lst [])
    refine ⟨_, rfl, p, _, _, _, rfl, rfl, SqT.of (s0 _ _ B'), at0 _ _, rfl, _, rfl, ite2 (fun c => absurd c (by decide +kernel)) (fun _ => ?_)⟩
    refine ⟨_, rfl, p, _, _, _, rfl, rfl, SqT.of (s0 _ _ B'), at0 _ _, (by show 3 ≤ sizeLine; decide), fun q hq => ⟨q, _, rfl, .inr (SqT.of upd_same), rfl, (by decide +kernel), _, rfl, ite2 (fun c => absurd c (by decide +kernel)) (fun _ => ?_)⟩⟩
    have sq := same_new hq (.tup [.str "then", .str "either", .str "take"])
    exact ⟨_, rfl, k g0 [] _ hg0 (s0.trans sq) (sq _ _ upd_same) .nil⟩
  | put z m =>
    have BB := B
    have B' : H p = some (.tup [.str "put", .str z, .int m]) := B
    refine ⟨(by show 0 ≤ sizeLine; decide), fun g0 hg0 => ?_⟩
    have s0 := same_new hg0 (.lst [])
    refine ⟨_, rfl, p, _, _, _, rfl, rfl, SqT.of (s0 _ _ B'), at0 _ _, rfl, _, rfl, ite2 (fun c => absurd c (by decide +kernel)) (fun _ => ?_)⟩
    refine ⟨_, rfl, p, _, _, _, rfl, rfl, SqT.of (s0 _ _ B'), at0 _ _, (by show 3 ≤ sizeLine; decide), fun q hq => ⟨q, _, rfl, .inr (SqT.of upd_same), rfl, (by decide +kernel), _, rfl, ite2 (fun c => absurd c (by decide +kernel)) (fun _ => ?_)⟩⟩
    have sq := same_new hq (.tup [.str "then", .str "either", .str "take"])
    exact ⟨_, rfl, k g0 [] _ hg0 (s0.trans sq) (sq _ _ upd_same) .nil⟩
  | use z =>
    have BB := B
    have B' : H p = some (.tup [.str "use", .str z]) := B
    refine ⟨(by show 0 ≤ sizeLine; decide), fun g0 hg0 => ?_⟩
    have s0 := same_new hg0 (.lst [])
    refine ⟨_, rfl, p, _, _, _, rfl, rfl, SqT.of (s0 _ _ B'), at0 _ _, rfl, _, rfl, ite2 (fun c => absurd c (by decide +kernel)) (fun _ => ?_)⟩
    refine ⟨_, rfl, p, _, _, _, rfl, rfl, SqT.of (s0 _ _ B'), at0 _ _, (by show 3 ≤ sizeLine; decide), fun q hq => ⟨q, _, rfl, .inr (SqT.of upd_same), rfl, (by decide +kernel), _, rfl, ite2 (fun c => absurd c (by decide +kernel)) (fun _ => ?_)⟩⟩
    have sq := same_new hq (.tup [.str "then", .str "either", .str "take"])
    exact ⟨_, rfl, k g0 [] _ hg0 (s0.trans sq) (sq _ _ upd_same) .nil⟩
  | oft a =>
    have BB := B
    obtain ⟨q1, B', Ba⟩ := B
    have dp' : a.dep + 1 < n + 1 := dp
    have hz' : a.parts.length + 1 ≤ 1000 := hz
    refine ⟨(by show 0 ≤ sizeLine; decide), fun g0 hg0 => ?_⟩
    have s0 := same_new hg0 (.lst [])
    refine ⟨_, rfl, p, _, _, _, rfl, rfl, SqT.of (s0 _ _ B'), at0 _ _, rfl, _, rfl, ite2 (fun _ => ?_) (fun c => absurd (by decide +kernel) c)⟩
    refine ⟨(by show 0 ≤ sizeLine; decide), fun l1 hl1 => ⟨_, rfl, (by show 2 ≤ sizeLine; decide), fun q5 hq5 => ⟨(by show 1 ≤ sizeLine; decide), fun g1 hg1 => ?_⟩⟩⟩
    have s1 := same_new hl1 (.lst [])
    have s2 := same_new hq5 (.tup [.ref l1, .ref p])
    have s3 := same_new hg1 (.lst [.ref q5])
    have s03 := s0.trans (s1.trans (s2.trans s3))
    refine ⟨_, rfl, p, _, _, _, rfl, rfl, SqT.of (s03 _ _ B'), rfl, q1, a, rfl, Ba.mono (Tups.of_same s03), by omega, by omega, fun r2 vs2 H2 rn2 y2 h2 W2 => ⟨r2, rfl, ⟨_, SqL.of h2⟩, ?_⟩⟩
    refine comp (c := 0) (a := a) (by omega) (by omega) (s03.trans y2) h2 (W2.back s03) (fun q l b w H3 N ys hq hl hw kN => ⟨q, _, rfl, SqT.of hq, rfl, _, _, rfl, _, _, rfl, rfl, rfl, (by show 1 ≤ sizeLine; decide), fun l1 n1 => ⟨_, rfl, l1, l, [.int 0], w.map V.int, rfl, rfl, upd_same, same_new n1 _ _ _ hl, small (by rw [List.length_map]; show 1 + w.length ≤ 1000; omega), fun l2 n2 => ⟨_, rfl, (by show 2 ≤ sizeLine; decide), fun q2 n3 => kN l1 l2 q2 n1 n2 n3⟩⟩⟩) fun ys H3 y3 W3 l3 D hD => ?_
    have sD := same_new hD (.lst ys)
    have y23 := y2.trans (y3.trans sD)
    have l3' : ys.length ≤ a.parts.length := by
      rw [W3.length, List.length_map]
      exact (ways_pl a).2.1
    refine ⟨g1, D, [.ref q5], ys, rfl, rfl, y23 _ _ upd_same, upd_same, small (by show 1 + ys.length ≤ 1000; omega), fun g hg => ?_⟩
    have sg := same_new hg (.lst ([V.ref q5] ++ ys))
    have s0g := s03.trans (y23.trans sg)
    refine ⟨_, rfl, p, _, _, _, rfl, rfl, SqT.of (s0g _ _ B'), at0 _ _, (by show 3 ≤ sizeLine; decide), fun q hq => ⟨q, _, rfl, .inr (SqT.of upd_same), rfl, (by decide +kernel), _, rfl, ite2 (fun c => absurd c (by decide +kernel)) (fun _ => ?_)⟩⟩
    have sq := same_new hq (.tup [.str "then", .str "either", .str "take"])
    have W4 : WsAt H _ (Bd.oft a).ways (V.ref q5 :: ys) := .cons (w := []) (none_of s0 hl1) ((s3.trans (y23.trans (sg.trans sq))) _ _ upd_same) ((s2.trans (s3.trans (y23.trans (sg.trans sq)))) _ _ upd_same) (BB.mono (Tups.of_same (s0g.trans sq))) (W3.mono (sD.trans (sg.trans sq)))
    exact ⟨_, rfl, k g (V.ref q5 :: ys) _ (none_of (s03.trans y23) hg) (s0g.trans sq) (sq _ _ upd_same) W4⟩
  | thn a b =>
    have BB := B
    obtain ⟨q1, q2, B', Ba, Bb⟩ := B
    have dp' : max a.dep b.dep + 1 < n + 1 := dp
    have hz' : (a.parts ++ b.parts).length + 1 ≤ 1000 := hz
    rw [List.length_append] at hz'
    refine ⟨(by show 0 ≤ sizeLine; decide), fun g0 hg0 => ?_⟩
    have s0 := same_new hg0 (.lst [])
    refine ⟨_, rfl, p, _, _, _, rfl, rfl, SqT.of (s0 _ _ B'), at0 _ _, rfl, _, rfl, ite2 (fun c => absurd c (by decide +kernel)) (fun _ => ?_)⟩
    refine ⟨_, rfl, p, _, _, _, rfl, rfl, SqT.of (s0 _ _ B'), at0 _ _, (by show 3 ≤ sizeLine; decide), fun q hq => ⟨q, _, rfl, .inr (SqT.of upd_same), rfl, (by decide +kernel), _, rfl, ite2 (fun _ => ?_) (fun c => absurd (by decide +kernel) c)⟩⟩
    have sq := same_new hq (.tup [.str "then", .str "either", .str "take"])
    refine ⟨(by show 2 ≤ sizeLine; decide), fun q9 hq9 => ⟨q9, rfl, ⟨_, SqT.of upd_same⟩, ?_⟩⟩
    have s9 := same_new hq9 (.tup [.int 0, .int 1])
    have s09 := s0.trans (sq.trans s9)
    obtain ⟨_, za, _⟩ := ways_pl a
    obtain ⟨_, zb, _⟩ := ways_pl b
    refine for_tup (xs := [.int 0, .int 1]) (fun i σ H' => ∃ g vs v, σ = [some (.ref p), some (.ref g), v] ∧ H g = none ∧ Same H H' ∧ H' q9 = some (.tup [.int 0, .int 1]) ∧ H' g = some (.lst vs) ∧ WsAt H H' (([a.ways.map (pre 0), b.ways.map (pre 1)].take i).flatten) vs)
      ⟨g0, [], none, rfl, hg0, s09, upd_same, (sq.trans s9) _ _ upd_same, .nil⟩ (fun i σ H' hi ⟨g, vs, v, _, _, _, e, _⟩ => SqT.of e) ?_ ?_
    · rintro i x σ H' hx ⟨g, vs, v, rfl, gn, sH, h9, hg', Wg⟩
      have lg := Wg.length
      cases i with
      | zero =>
        simp only [List.getElem?_cons_zero, Option.some.injEq] at hx
        subst hx
        refine ⟨_, rfl, _, rfl, _, rfl, _, _, rfl, rfl, p, _, _, _, rfl, rfl, SqT.of (sH _ _ B'), rfl, q1, a, rfl, Ba.mono (Tups.of_same sH), by omega, by omega, fun r2 vs2 H2 rn2 y2 h2 W2 => ⟨r2, rfl, ⟨_, SqL.of h2⟩, ?_⟩⟩
        refine comp (c := 0) (a := a) (by omega) (by omega) (sH.trans y2) h2 (W2.back sH) (fun q l b w H3 N ys hq hl hw kN => ⟨q, _, rfl, SqT.of hq, rfl, _, _, rfl, _, _, rfl, rfl, rfl, _, rfl, (by show 1 ≤ sizeLine; decide), fun l1 n1 => ⟨_, rfl, l1, l, [.int 0], w.map V.int, rfl, rfl, upd_same, same_new n1 _ _ _ hl, small (by rw [List.length_map]; show 1 + w.length ≤ 1000; omega), fun l2 n2 => ⟨_, rfl, (by show 2 ≤ sizeLine; decide), fun q2 n3 => kN l1 l2 q2 n1 n2 n3⟩⟩⟩) fun ys H3 y3 W3 l3 D hD => ?_
        have sD := same_new hD (.lst ys)
        have y23 := y2.trans (y3.trans sD)
        refine ⟨g, D, vs, ys, rfl, rfl, y23 _ _ hg', upd_same, small (by rw [lg]; show 0 + ys.length ≤ 1000; omega), fun g2 hg2 => ?_⟩
        have sg := same_new hg2 (.lst (vs ++ ys))
        have yg := y23.trans sg
        refine ⟨g2, vs ++ ys, _, rfl, none_of (sH.trans y23) hg2, sH.trans yg, yg _ _ h9, upd_same, ?_⟩
        have q := (Wg.mono yg).append (W3.mono (sD.trans sg))
        simpa using q
      | succ i =>
        cases i with
        | zero =>
          have hx' : x = .int 1 := by simpa using hx.symm
          subst hx'
          refine ⟨_, rfl, _, rfl, _, rfl, _, _, rfl, rfl, p, _, _, _, rfl, rfl, SqT.of (sH _ _ B'), rfl, q2, b, rfl, Bb.mono (Tups.of_same sH), by omega, by omega, fun r2 vs2 H2 rn2 y2 h2 W2 => ⟨r2, rfl, ⟨_, SqL.of h2⟩, ?_⟩⟩
          refine comp (c := 1) (a := b) (by omega) (by omega) (sH.trans y2) h2 (W2.back sH) (fun q l b w H3 N ys hq hl hw kN => ⟨q, _, rfl, SqT.of hq, rfl, _, _, rfl, _, _, rfl, rfl, rfl, _, rfl, (by show 1 ≤ sizeLine; decide), fun l1 n1 => ⟨_, rfl, l1, l, [.int 1], w.map V.int, rfl, rfl, upd_same, same_new n1 _ _ _ hl, small (by rw [List.length_map]; show 1 + w.length ≤ 1000; omega), fun l2 n2 => ⟨_, rfl, (by show 2 ≤ sizeLine; decide), fun q2 n3 => kN l1 l2 q2 n1 n2 n3⟩⟩⟩) fun ys H3 y3 W3 l3 D hD => ?_
          have sD := same_new hD (.lst ys)
          have y23 := y2.trans (y3.trans sD)
          have lg' : vs.length ≤ a.parts.length := by
            rw [lg]
            simpa using za
          have l3' : ys.length ≤ b.parts.length := by
            rw [W3.length, List.length_map]
            exact zb
          refine ⟨g, D, vs, ys, rfl, rfl, y23 _ _ hg', upd_same, small (by omega), fun g2 hg2 => ?_⟩
          have sg := same_new hg2 (.lst (vs ++ ys))
          have yg := y23.trans sg
          refine ⟨g2, vs ++ ys, _, rfl, none_of (sH.trans y23) hg2, sH.trans yg, yg _ _ h9, upd_same, ?_⟩
          have q := (Wg.mono yg).append (W3.mono (sD.trans sg))
          simpa using q
        | succ i => simp at hx
    · rintro σ H' ⟨g, vs, v, rfl, gn, sH, h9, hg', Wg⟩
      refine ⟨_, rfl, k g vs H' gn sH hg' ?_⟩
      have q : WsAt H H' (a.ways.map (pre 0) ++ b.ways.map (pre 1)) vs := by simpa using Wg
      exact q
  | eit a b =>
    have BB := B
    obtain ⟨q1, q2, B', Ba, Bb⟩ := B
    have dp' : max a.dep b.dep + 1 < n + 1 := dp
    have hz' : (a.parts ++ b.parts).length + 1 ≤ 1000 := hz
    rw [List.length_append] at hz'
    refine ⟨(by show 0 ≤ sizeLine; decide), fun g0 hg0 => ?_⟩
    have s0 := same_new hg0 (.lst [])
    refine ⟨_, rfl, p, _, _, _, rfl, rfl, SqT.of (s0 _ _ B'), at0 _ _, rfl, _, rfl, ite2 (fun c => absurd c (by decide +kernel)) (fun _ => ?_)⟩
    refine ⟨_, rfl, p, _, _, _, rfl, rfl, SqT.of (s0 _ _ B'), at0 _ _, (by show 3 ≤ sizeLine; decide), fun q hq => ⟨q, _, rfl, .inr (SqT.of upd_same), rfl, (by decide +kernel), _, rfl, ite2 (fun _ => ?_) (fun c => absurd (by decide +kernel) c)⟩⟩
    have sq := same_new hq (.tup [.str "then", .str "either", .str "take"])
    refine ⟨(by show 2 ≤ sizeLine; decide), fun q9 hq9 => ⟨q9, rfl, ⟨_, SqT.of upd_same⟩, ?_⟩⟩
    have s9 := same_new hq9 (.tup [.int 0, .int 1])
    have s09 := s0.trans (sq.trans s9)
    obtain ⟨_, za, _⟩ := ways_pl a
    obtain ⟨_, zb, _⟩ := ways_pl b
    refine for_tup (xs := [.int 0, .int 1]) (fun i σ H' => ∃ g vs v, σ = [some (.ref p), some (.ref g), v] ∧ H g = none ∧ Same H H' ∧ H' q9 = some (.tup [.int 0, .int 1]) ∧ H' g = some (.lst vs) ∧ WsAt H H' (([a.ways.map (pre 0), b.ways.map (pre 1)].take i).flatten) vs)
      ⟨g0, [], none, rfl, hg0, s09, upd_same, (sq.trans s9) _ _ upd_same, .nil⟩ (fun i σ H' hi ⟨g, vs, v, _, _, _, e, _⟩ => SqT.of e) ?_ ?_
    · rintro i x σ H' hx ⟨g, vs, v, rfl, gn, sH, h9, hg', Wg⟩
      have lg := Wg.length
      cases i with
      | zero =>
        simp only [List.getElem?_cons_zero, Option.some.injEq] at hx
        subst hx
        refine ⟨_, rfl, _, rfl, _, rfl, _, _, rfl, rfl, p, _, _, _, rfl, rfl, SqT.of (sH _ _ B'), rfl, q1, a, rfl, Ba.mono (Tups.of_same sH), by omega, by omega, fun r2 vs2 H2 rn2 y2 h2 W2 => ⟨r2, rfl, ⟨_, SqL.of h2⟩, ?_⟩⟩
        refine comp (c := 0) (a := a) (by omega) (by omega) (sH.trans y2) h2 (W2.back sH) (fun q l b w H3 N ys hq hl hw kN => ⟨q, _, rfl, SqT.of hq, rfl, _, _, rfl, _, _, rfl, rfl, rfl, _, rfl, (by show 1 ≤ sizeLine; decide), fun l1 n1 => ⟨_, rfl, l1, l, [.int 0], w.map V.int, rfl, rfl, upd_same, same_new n1 _ _ _ hl, small (by rw [List.length_map]; show 1 + w.length ≤ 1000; omega), fun l2 n2 => ⟨_, rfl, (by show 2 ≤ sizeLine; decide), fun q2 n3 => kN l1 l2 q2 n1 n2 n3⟩⟩⟩) fun ys H3 y3 W3 l3 D hD => ?_
        have sD := same_new hD (.lst ys)
        have y23 := y2.trans (y3.trans sD)
        refine ⟨g, D, vs, ys, rfl, rfl, y23 _ _ hg', upd_same, small (by rw [lg]; show 0 + ys.length ≤ 1000; omega), fun g2 hg2 => ?_⟩
        have sg := same_new hg2 (.lst (vs ++ ys))
        have yg := y23.trans sg
        refine ⟨g2, vs ++ ys, _, rfl, none_of (sH.trans y23) hg2, sH.trans yg, yg _ _ h9, upd_same, ?_⟩
        have q := (Wg.mono yg).append (W3.mono (sD.trans sg))
        simpa using q
      | succ i =>
        cases i with
        | zero =>
          have hx' : x = .int 1 := by simpa using hx.symm
          subst hx'
          refine ⟨_, rfl, _, rfl, _, rfl, _, _, rfl, rfl, p, _, _, _, rfl, rfl, SqT.of (sH _ _ B'), rfl, q2, b, rfl, Bb.mono (Tups.of_same sH), by omega, by omega, fun r2 vs2 H2 rn2 y2 h2 W2 => ⟨r2, rfl, ⟨_, SqL.of h2⟩, ?_⟩⟩
          refine comp (c := 1) (a := b) (by omega) (by omega) (sH.trans y2) h2 (W2.back sH) (fun q l b w H3 N ys hq hl hw kN => ⟨q, _, rfl, SqT.of hq, rfl, _, _, rfl, _, _, rfl, rfl, rfl, _, rfl, (by show 1 ≤ sizeLine; decide), fun l1 n1 => ⟨_, rfl, l1, l, [.int 1], w.map V.int, rfl, rfl, upd_same, same_new n1 _ _ _ hl, small (by rw [List.length_map]; show 1 + w.length ≤ 1000; omega), fun l2 n2 => ⟨_, rfl, (by show 2 ≤ sizeLine; decide), fun q2 n3 => kN l1 l2 q2 n1 n2 n3⟩⟩⟩) fun ys H3 y3 W3 l3 D hD => ?_
          have sD := same_new hD (.lst ys)
          have y23 := y2.trans (y3.trans sD)
          have lg' : vs.length ≤ a.parts.length := by
            rw [lg]
            simpa using za
          have l3' : ys.length ≤ b.parts.length := by
            rw [W3.length, List.length_map]
            exact zb
          refine ⟨g, D, vs, ys, rfl, rfl, y23 _ _ hg', upd_same, small (by omega), fun g2 hg2 => ?_⟩
          have sg := same_new hg2 (.lst (vs ++ ys))
          have yg := y23.trans sg
          refine ⟨g2, vs ++ ys, _, rfl, none_of (sH.trans y23) hg2, sH.trans yg, yg _ _ h9, upd_same, ?_⟩
          have q := (Wg.mono yg).append (W3.mono (sD.trans sg))
          simpa using q
        | succ i => simp at hx
    · rintro σ H' ⟨g, vs, v, rfl, gn, sH, h9, hg', Wg⟩
      refine ⟨_, rfl, k g vs H' gn sH hg' ?_⟩
      have q : WsAt H H' (a.ways.map (pre 0) ++ b.ways.map (pre 1)) vs := by simpa using Wg
      exact q
  | tak z m a b =>
    have BB := B
    obtain ⟨q1, q2, B', Ba, Bb⟩ := B
    have dp' : max a.dep b.dep + 1 < n + 1 := dp
    have hz' : (a.parts ++ b.parts).length + 1 ≤ 1000 := hz
    rw [List.length_append] at hz'
    refine ⟨(by show 0 ≤ sizeLine; decide), fun g0 hg0 => ?_⟩
    have s0 := same_new hg0 (.lst [])
    refine ⟨_, rfl, p, _, _, _, rfl, rfl, SqT.of (s0 _ _ B'), at0 _ _, rfl, _, rfl, ite2 (fun c => absurd c (by decide +kernel)) (fun _ => ?_)⟩
    refine ⟨_, rfl, p, _, _, _, rfl, rfl, SqT.of (s0 _ _ B'), at0 _ _, (by show 3 ≤ sizeLine; decide), fun q hq => ⟨q, _, rfl, .inr (SqT.of upd_same), rfl, (by decide +kernel), _, rfl, ite2 (fun _ => ?_) (fun c => absurd (by decide +kernel) c)⟩⟩
    have sq := same_new hq (.tup [.str "then", .str "either", .str "take"])
    refine ⟨(by show 2 ≤ sizeLine; decide), fun q9 hq9 => ⟨q9, rfl, ⟨_, SqT.of upd_same⟩, ?_⟩⟩
    have s9 := same_new hq9 (.tup [.int 0, .int 1])
    have s09 := s0.trans (sq.trans s9)
    obtain ⟨_, za, _⟩ := ways_pl a
    obtain ⟨_, zb, _⟩ := ways_pl b
    refine for_tup (xs := [.int 0, .int 1]) (fun i σ H' => ∃ g vs v, σ = [some (.ref p), some (.ref g), v] ∧ H g = none ∧ Same H H' ∧ H' q9 = some (.tup [.int 0, .int 1]) ∧ H' g = some (.lst vs) ∧ WsAt H H' (([a.ways.map (pre 0), b.ways.map (pre 1)].take i).flatten) vs)
      ⟨g0, [], none, rfl, hg0, s09, upd_same, (sq.trans s9) _ _ upd_same, .nil⟩ (fun i σ H' hi ⟨g, vs, v, _, _, _, e, _⟩ => SqT.of e) ?_ ?_
    · rintro i x σ H' hx ⟨g, vs, v, rfl, gn, sH, h9, hg', Wg⟩
      have lg := Wg.length
      cases i with
      | zero =>
        simp only [List.getElem?_cons_zero, Option.some.injEq] at hx
        subst hx
        refine ⟨_, rfl, _, rfl, _, rfl, _, _, rfl, rfl, p, _, _, _, rfl, rfl, SqT.of (sH _ _ B'), rfl, q1, a, rfl, Ba.mono (Tups.of_same sH), by omega, by omega, fun r2 vs2 H2 rn2 y2 h2 W2 => ⟨r2, rfl, ⟨_, SqL.of h2⟩, ?_⟩⟩
        refine comp (c := 0) (a := a) (by omega) (by omega) (sH.trans y2) h2 (W2.back sH) (fun q l b w H3 N ys hq hl hw kN => ⟨q, _, rfl, SqT.of hq, rfl, _, _, rfl, _, _, rfl, rfl, rfl, _, rfl, (by show 1 ≤ sizeLine; decide), fun l1 n1 => ⟨_, rfl, l1, l, [.int 0], w.map V.int, rfl, rfl, upd_same, same_new n1 _ _ _ hl, small (by rw [List.length_map]; show 1 + w.length ≤ 1000; omega), fun l2 n2 => ⟨_, rfl, (by show 2 ≤ sizeLine; decide), fun q2 n3 => kN l1 l2 q2 n1 n2 n3⟩⟩⟩) fun ys H3 y3 W3 l3 D hD => ?_
        have sD := same_new hD (.lst ys)
        have y23 := y2.trans (y3.trans sD)
        refine ⟨g, D, vs, ys, rfl, rfl, y23 _ _ hg', upd_same, small (by rw [lg]; show 0 + ys.length ≤ 1000; omega), fun g2 hg2 => ?_⟩
        have sg := same_new hg2 (.lst (vs ++ ys))
        have yg := y23.trans sg
        refine ⟨g2, vs ++ ys, _, rfl, none_of (sH.trans y23) hg2, sH.trans yg, yg _ _ h9, upd_same, ?_⟩
        have q := (Wg.mono yg).append (W3.mono (sD.trans sg))
        simpa using q
      | succ i =>
        cases i with
        | zero =>
          have hx' : x = .int 1 := by simpa using hx.symm
          subst hx'
          refine ⟨_, rfl, _, rfl, _, rfl, _, _, rfl, rfl, p, _, _, _, rfl, rfl, SqT.of (sH _ _ B'), rfl, q2, b, rfl, Bb.mono (Tups.of_same sH), by omega, by omega, fun r2 vs2 H2 rn2 y2 h2 W2 => ⟨r2, rfl, ⟨_, SqL.of h2⟩, ?_⟩⟩
          refine comp (c := 1) (a := b) (by omega) (by omega) (sH.trans y2) h2 (W2.back sH) (fun q l b w H3 N ys hq hl hw kN => ⟨q, _, rfl, SqT.of hq, rfl, _, _, rfl, _, _, rfl, rfl, rfl, _, rfl, (by show 1 ≤ sizeLine; decide), fun l1 n1 => ⟨_, rfl, l1, l, [.int 1], w.map V.int, rfl, rfl, upd_same, same_new n1 _ _ _ hl, small (by rw [List.length_map]; show 1 + w.length ≤ 1000; omega), fun l2 n2 => ⟨_, rfl, (by show 2 ≤ sizeLine; decide), fun q2 n3 => kN l1 l2 q2 n1 n2 n3⟩⟩⟩) fun ys H3 y3 W3 l3 D hD => ?_
          have sD := same_new hD (.lst ys)
          have y23 := y2.trans (y3.trans sD)
          have lg' : vs.length ≤ a.parts.length := by
            rw [lg]
            simpa using za
          have l3' : ys.length ≤ b.parts.length := by
            rw [W3.length, List.length_map]
            exact zb
          refine ⟨g, D, vs, ys, rfl, rfl, y23 _ _ hg', upd_same, small (by omega), fun g2 hg2 => ?_⟩
          have sg := same_new hg2 (.lst (vs ++ ys))
          have yg := y23.trans sg
          refine ⟨g2, vs ++ ys, _, rfl, none_of (sH.trans y23) hg2, sH.trans yg, yg _ _ h9, upd_same, ?_⟩
          have q := (Wg.mono yg).append (W3.mono (sD.trans sg))
          simpa using q
        | succ i => simp at hx
    · rintro σ H' ⟨g, vs, v, rfl, gn, sH, h9, hg', Wg⟩
      refine ⟨_, rfl, k g vs H' gn sH hg' ?_⟩
      have q : WsAt H H' (a.ways.map (pre 0) ++ b.ways.map (pre 1)) vs := by simpa using Wg
      exact q
theorem ok_ways (F : Fun K "_law_ways" "_law_ways" sWays f fd) (b1 : Binds K fd ["_law_body_here"] []) (k1 : PySem.W.keepIn K (.ref f) = true) (m1 : mg "_law_ways" = some (.ref f)) : ∀ n : Nat, n ≤ 900 → FnOk P w K mg base CX0 (1 + n) f fd ["_law_body_here"] (spWays n)
  | 0, _ => ⟨fun vs H Q E h => by obtain ⟨p, t, rfl, _⟩ := h; rfl, fun _ _ _ _ _ _ _ _ _ _ _ _ _ h => by obtain ⟨p, t, _, _, dp, _⟩ := h; exact absurd dp (Nat.not_lt_zero _)⟩
  | n + 1, hn => ways_step n (by omega) F (ok_ways F b1 k1 m1 n (by omega)) b1 k1 m1
end
end Q16

set_option Elab.async false
set_option linter.all false
set_option maxRecDepth 100000
set_option maxHeartbeats 4000000
namespace Q16
open PySem L2 Wd
def spLed (n : Nat) : Sp := fun vs H Q _ => ∃ (p l : Addr) (t : Bd) (w : List Int) (m : Nat) (g : V), vs = [.ref p, .ref l, g] ∧ BAt H t p ∧ H l = some (.lst (w.map V.int)) ∧ Leads t w m ∧ t.dep < n ∧ ∀ (v : V) (H' : Hp), Same H H' → LedAt H' g t w v → Q v H'
def spPartsN (n : Nat) : Sp := fun vs H Q _ => ∃ (p : Addr) (t : Bd), vs = [.ref p] ∧ BAt H t p ∧ t.dep < n ∧ t.parts.length ≤ 1000 ∧ ∀ H', Same H H' → Q (.int t.parts.length) H'
def spPlaces (n : Nat) : Sp := fun vs H Q _ => ∃ (p : Addr) (t : Bd), vs = [.ref p] ∧ BAt H t p ∧ t.dep < n ∧ t.parts.length ≤ 1000 ∧ ∀ (r : Addr) (H' : Hp), Same H H' → H' r = some (.lst (t.pl.map fun m : Nat => V.int m)) → Q (.ref r) H'
def spOftens (n : Nat) : Sp := fun vs H Q _ => ∃ (p : Addr) (t : Bd), vs = [.ref p] ∧ BAt H t p ∧ t.dep < n ∧ t.parts.length ≤ 1000 ∧ ∀ H', Same H H' → Q (.int t.pl.length) H'
def spLedP (n : Nat) : Sp := fun vs H Q _ => ∃ (p : Addr) (t : Bd) (w : List Int) (m : Nat) (g : V), vs = [.ref p, .int m, g] ∧ BAt H t p ∧ Leads t w m ∧ t.dep < n ∧ t.parts.length ≤ 1000 ∧ ∀ (v : V) (H' : Hp), Same H H' → LedAt H' g t w v → Q v H'
def spLedTo (n : Nat) : Sp := fun vs H Q _ => ∃ (p : Addr) (t : Bd) (j : Nat) (w : List Int) (m : Nat) (g : V), vs = [.ref p, .int j, g] ∧ BAt H t p ∧ t.pl[j]? = some m ∧ Leads t w m ∧ t.dep < n ∧ t.parts.length ≤ 1000 ∧ ∀ (v : V) (H' : Hp), Same H H' → LedAt H' g t w v → Q v H'
abbrev PD : List Str := ["_law_body_here", "_law_way", "_law_goings"]
abbrev PP : List Str := ["body", "place", "trace"]
section
variable {P : Program} {w : World} {K : PySem.W.Frag} {mg : Str → Option Value} {base : Heap} {f f1 f2 f3 f4 f5 f6 f7 f8 : Addr} {fd d1 d2 d3 d4 d5 d6 d7 d8 : FuncData}
theorem scLed : FnScope ["_law_body_here", "_law_way", "_law_goings", "_law_under"] PD (defScope sLed) := ⟨rfl, rfl, rfl, by decide +kernel, rfl, by decide +kernel, by decide +kernel⟩
theorem led_step (n : Nat) (F : Fun K "_law_led" "_law_led" sLed f fd) (R : FnOk P w K mg base CX0 (2 + n) f fd PD (spLed n)) (b1 : Binds K fd PD []) (k1 : PySem.W.keepIn K (.ref f) = true) (m1 : mg "_law_led" = some (.ref f))
    (G2 : FnOk P w K mg base CX0 (1 + n) f2 d2 ["_law_body_here"] (spPlain n)) (b2 : Binds K d2 ["_law_body_here"] []) (k2 : PySem.W.keepIn K (.ref f2) = true) (m2 : mg "_law_plain" = some (.ref f2)) (z3 : mg "len" = none) : FnOk P w K mg base CX0 (2 + n + 1) f fd PD (spLed (n + 1)) := by
  refine F.ok scLed (fun vs H Q E h => ?_) (fun cdv A outer s H vs Q E hr h => ?_)
  · obtain ⟨p, l, t, ww, m, g, rfl, _⟩ := h
    rfl
  obtain ⟨p, l, t, ww, m, g, rfl, B, hl, hL, dp, k⟩ := h
  have hr2 : Room (1 + n) (A.deeper (PyProof.Rows.envOfC "_law_led" (defScope sLed) s.heap.objs.size f cdv)) := hr.mono (by omega)
  refine ⟨_, L2.QSs.ok (qss_cons (qs_any (ps_if (pt_cmpR op_eq (pe_callB call_len_seq rfl z3 PySem.boot_len (pa_nm (pv 1) pa_nil)) pe_int (nomark _)) (pss_one (ps_ret (pv 2))) pss_nil))
    (qss_cons (qs_any (ps_if (pt_cmpR op_eq (pe_ix ix_tup (pv 0) pe_int (fun _ _ => rfl)) pe_str (nomark _)) (pss_one (ps_ret (pe_tup (pa_tup (pe_tup (pa_cst pe_int (pa_call (pe_call R hr rfl m1 k1 b1 .nil pass0 (pa_sub (pe_ix ix_tup (pv 0) pe_int (fun _ _ => rfl)) (pa_sub (pe_slice sl_list (pv 1) (po_some pe_int) po_none) (pa_nm (pv 2) pa_nil)))) pa_nil))) pa_nil)))) pss_nil))
    (qss_cons (qs_any (ps_set (i := 3) scLed.nd rfl (Or.inl rfl) (pe_call R hr rfl m1 k1 b1 .nil pass0 (pa_sub (pe_ix ix_tup (pv 0) (pe_op op_sub (pe_ix ix_list (pv 1) pe_int (fun _ _ => rfl)) pe_int) (fun _ _ => rfl)) (pa_sub (pe_slice sl_list (pv 1) (po_some pe_int) po_none) (pa_nm (pv 2) pa_nil))))))
    (qss_cons (qs_any (ps_if (pt_cmpR op_ne (pe_ix ix_tup (pv 0) pe_int (fun _ _ => rfl)) pe_str (nomark _)) (pss_one (ps_ret (pe_tup (pa_sub (pe_ix ix_list (pv 1) pe_int (fun _ _ => rfl)) (pa_nm (pv 3) pa_nil))))) pss_nil))
    (qss_cons (qs_any (ps_if (pt_cmpR op_eq (pe_ix ix_list (pv 1) pe_int (fun _ _ => rfl)) pe_int (nomark _)) (pss_one (ps_ret (pe_tup (pa_nm (pv 3) (pa_call (pe_call G2 hr2 rfl m2 k2 b2 .nil pass0 (pa_sub (pe_ix ix_tup (pv 0) pe_int (fun _ _ => rfl)) pa_nil)) pa_nil))))) pss_nil))
    (qss_one (qs_any (ps_ret (pe_tup (pa_call (pe_call G2 hr2 rfl m2 k2 b2 .nil pass0 (pa_sub (pe_ix ix_tup (pv 0) pe_int (fun _ _ => rfl)) pa_nil)) (pa_nm (pv 3) pa_nil))))))))))), ?_⟩
  cases hL with
  | @here a =>
    obtain ⟨q1, B', Ba⟩ := B
    refine ⟨_, rfl, l, _, rfl, .inl (SqL.of hl), rfl, _, rfl, ite2 (fun _ => ?_) (fun c => absurd (by decide +kernel) c)⟩
    exact ⟨_, rfl, k g H (Same.refl H) .here⟩
  | @oft a w' m' hL' =>
    obtain ⟨q1, B', Ba⟩ := B
    have dp' : a.dep + 1 < n + 1 := dp
    refine ⟨_, rfl, l, _, rfl, .inl (SqL.of hl), rfl, _, rfl, ite2 (fun cc => absurd cc len_ne) (fun _ => ?_)⟩
    refine ⟨_, rfl, p, _, _, _, rfl, rfl, SqT.of (B'), at0 _ _, rfl, _, rfl, ite2 (fun _ => ?_) (fun c => absurd (by decide +kernel) c)⟩
    refine ⟨_, rfl, p, _, _, _, rfl, rfl, SqT.of B', rfl, _, rfl, _, rfl, l, _, rfl, SqL.of hl, fun l2 hl2 => ⟨_, rfl, q1, l2, a, w', _, g, rfl, Ba.mono (Tups.of_same (same_new hl2 _)), (by rw [← cut_one 0 w']; exact upd_same), hL', by omega, fun u H2 s2 L2 => ⟨(by show 2 ≤ sizeLine; decide), fun q5 hq5 => ⟨(by show 1 ≤ sizeLine; decide), fun r hr' => ?_⟩⟩⟩⟩
    have sl := (same_new hl2 (.lst (cutV ((0 :: w').map V.int) (some 1) none))).trans s2
    have s5 := same_new hq5 (.tup [.int 1, u])
    have sr := same_new hr' (.tup [.ref q5])
    exact k (.ref r) _ (sl.trans (s5.trans sr)) (.oft (L2.mono (Tups.of_same (s5.trans sr))) (sr _ _ upd_same) upd_same)
  | @thn0 a b w' m' hL' =>
    obtain ⟨q1, q2, B', Ba, Bb⟩ := B
    have dp' : max a.dep b.dep + 1 < n + 1 := dp
    refine ⟨_, rfl, l, _, rfl, .inl (SqL.of hl), rfl, _, rfl, ite2 (fun cc => absurd cc len_ne) (fun _ => ?_)⟩
    refine ⟨_, rfl, p, _, _, _, rfl, rfl, SqT.of (B'), at0 _ _, rfl, _, rfl, ite2 (fun c => absurd c (by decide +kernel)) (fun _ => ?_)⟩
    refine ⟨_, rfl, _, rfl, l, _, _, _, rfl, rfl, SqL.of hl, at0 _ _, _, _, rfl, rfl, p, _, _, _, rfl, rfl, SqT.of B', rfl, _, rfl, _, rfl, l, _, rfl, SqL.of hl, fun l2 hl2 => ⟨_, rfl, q1, l2, a, w', _, g, rfl, Ba.mono (Tups.of_same (same_new hl2 _)), (by rw [← cut_one 0 w']; exact upd_same), hL', by omega, fun u H2 s2 L2 => ?_⟩⟩
    have sl := (same_new hl2 (.lst (cutV ((0 :: w').map V.int) (some 1) none))).trans s2
    refine ⟨_, rfl, p, _, _, _, rfl, rfl, SqT.of (sl _ _ B'), at0 _ _, rfl, _, rfl, ite2 (fun c => absurd c (by decide +kernel)) (fun _ => ?_)⟩
    refine ⟨_, rfl, l, _, _, _, rfl, rfl, SqL.of (sl _ _ hl), at0 _ _, rfl, _, rfl, ite2 (fun _ => ?_) (fun c => absurd (by decide +kernel) c)⟩
    refine ⟨_, rfl, _, rfl, p, _, _, _, rfl, rfl, SqT.of (sl _ _ B'), rfl, q2, b, rfl, Bb.mono (Tups.of_same sl), by omega, fun r3 H3 s3 P3 => ⟨(by show 2 ≤ sizeLine; decide), fun r hr' => ?_⟩⟩
    have sr := same_new hr' (.tup [u, .ref r3])
    exact k (.ref r) _ (sl.trans (s3.trans sr)) (.thn0 (L2.mono (Tups.of_same (s3.trans sr))) (P3.mono (Tups.of_same sr)) upd_same)
  | @thn1 a b w' m' hL' =>
    obtain ⟨q1, q2, B', Ba, Bb⟩ := B
    have dp' : max a.dep b.dep + 1 < n + 1 := dp
    refine ⟨_, rfl, l, _, rfl, .inl (SqL.of hl), rfl, _, rfl, ite2 (fun cc => absurd cc len_ne) (fun _ => ?_)⟩
    refine ⟨_, rfl, p, _, _, _, rfl, rfl, SqT.of (B'), at0 _ _, rfl, _, rfl, ite2 (fun c => absurd c (by decide +kernel)) (fun _ => ?_)⟩
    refine ⟨_, rfl, _, rfl, l, _, _, _, rfl, rfl, SqL.of hl, at0 _ _, _, _, rfl, rfl, p, _, _, _, rfl, rfl, SqT.of B', rfl, _, rfl, _, rfl, l, _, rfl, SqL.of hl, fun l2 hl2 => ⟨_, rfl, q2, l2, b, w', _, g, rfl, Bb.mono (Tups.of_same (same_new hl2 _)), (by rw [← cut_one 1 w']; exact upd_same), hL', by omega, fun u H2 s2 L2 => ?_⟩⟩
    have sl := (same_new hl2 (.lst (cutV ((1 :: w').map V.int) (some 1) none))).trans s2
    refine ⟨_, rfl, p, _, _, _, rfl, rfl, SqT.of (sl _ _ B'), at0 _ _, rfl, _, rfl, ite2 (fun c => absurd c (by decide +kernel)) (fun _ => ?_)⟩
    refine ⟨_, rfl, l, _, _, _, rfl, rfl, SqL.of (sl _ _ hl), at0 _ _, rfl, _, rfl, ite2 (fun c => absurd c (by decide +kernel)) (fun _ => ?_)⟩
    refine ⟨_, rfl, p, _, _, _, rfl, rfl, SqT.of (sl _ _ B'), rfl, q1, a, rfl, Ba.mono (Tups.of_same sl), by omega, fun r3 H3 s3 P3 => ⟨_, rfl, (by show 2 ≤ sizeLine; decide), fun r hr' => ?_⟩⟩
    have sr := same_new hr' (.tup [.ref r3, u])
    exact k (.ref r) _ (sl.trans (s3.trans sr)) (.thn1 (L2.mono (Tups.of_same (s3.trans sr))) (P3.mono (Tups.of_same sr)) upd_same)
  | @eit0 a b w' m' hL' =>
    obtain ⟨q1, q2, B', Ba, Bb⟩ := B
    have dp' : max a.dep b.dep + 1 < n + 1 := dp
    refine ⟨_, rfl, l, _, rfl, .inl (SqL.of hl), rfl, _, rfl, ite2 (fun cc => absurd cc len_ne) (fun _ => ?_)⟩
    refine ⟨_, rfl, p, _, _, _, rfl, rfl, SqT.of (B'), at0 _ _, rfl, _, rfl, ite2 (fun c => absurd c (by decide +kernel)) (fun _ => ?_)⟩
    refine ⟨_, rfl, _, rfl, l, _, _, _, rfl, rfl, SqL.of hl, at0 _ _, _, _, rfl, rfl, p, _, _, _, rfl, rfl, SqT.of B', rfl, _, rfl, _, rfl, l, _, rfl, SqL.of hl, fun l2 hl2 => ⟨_, rfl, q1, l2, a, w', _, g, rfl, Ba.mono (Tups.of_same (same_new hl2 _)), (by rw [← cut_one 0 w']; exact upd_same), hL', by omega, fun u H2 s2 L2 => ?_⟩⟩
    have sl := (same_new hl2 (.lst (cutV ((0 :: w').map V.int) (some 1) none))).trans s2
    refine ⟨_, rfl, p, _, _, _, rfl, rfl, SqT.of (sl _ _ B'), at0 _ _, rfl, _, rfl, ite2 (fun _ => ?_) (fun c => absurd (by decide +kernel) c)⟩
    refine ⟨_, rfl, l, _, _, _, rfl, rfl, SqL.of (sl _ _ hl), at0 _ _, _, rfl, (by show 2 ≤ sizeLine; decide), fun r hr' => ?_⟩
    have sr := same_new hr' (.tup [.int 0, u])
    exact k (.ref r) _ (sl.trans sr) (.eit0 (L2.mono (Tups.of_same sr)) upd_same)
  | @eit1 a b w' m' hL' =>
    obtain ⟨q1, q2, B', Ba, Bb⟩ := B
    have dp' : max a.dep b.dep + 1 < n + 1 := dp
    refine ⟨_, rfl, l, _, rfl, .inl (SqL.of hl), rfl, _, rfl, ite2 (fun cc => absurd cc len_ne) (fun _ => ?_)⟩
    refine ⟨_, rfl, p, _, _, _, rfl, rfl, SqT.of (B'), at0 _ _, rfl, _, rfl, ite2 (fun c => absurd c (by decide +kernel)) (fun _ => ?_)⟩
    refine ⟨_, rfl, _, rfl, l, _, _, _, rfl, rfl, SqL.of hl, at0 _ _, _, _, rfl, rfl, p, _, _, _, rfl, rfl, SqT.of B', rfl, _, rfl, _, rfl, l, _, rfl, SqL.of hl, fun l2 hl2 => ⟨_, rfl, q2, l2, b, w', _, g, rfl, Bb.mono (Tups.of_same (same_new hl2 _)), (by rw [← cut_one 1 w']; exact upd_same), hL', by omega, fun u H2 s2 L2 => ?_⟩⟩
    have sl := (same_new hl2 (.lst (cutV ((1 :: w').map V.int) (some 1) none))).trans s2
    refine ⟨_, rfl, p, _, _, _, rfl, rfl, SqT.of (sl _ _ B'), at0 _ _, rfl, _, rfl, ite2 (fun _ => ?_) (fun c => absurd (by decide +kernel) c)⟩
    refine ⟨_, rfl, l, _, _, _, rfl, rfl, SqL.of (sl _ _ hl), at0 _ _, _, rfl, (by show 2 ≤ sizeLine; decide), fun r hr' => ?_⟩
    have sr := same_new hr' (.tup [.int 1, u])
    exact k (.ref r) _ (sl.trans sr) (.eit1 (L2.mono (Tups.of_same sr)) upd_same)
  | @tak0 z nn a b w' m' hL' =>
    obtain ⟨q1, q2, B', Ba, Bb⟩ := B
    have dp' : max a.dep b.dep + 1 < n + 1 := dp
    refine ⟨_, rfl, l, _, rfl, .inl (SqL.of hl), rfl, _, rfl, ite2 (fun cc => absurd cc len_ne) (fun _ => ?_)⟩
    refine ⟨_, rfl, p, _, _, _, rfl, rfl, SqT.of (B'), at0 _ _, rfl, _, rfl, ite2 (fun c => absurd c (by decide +kernel)) (fun _ => ?_)⟩
    refine ⟨_, rfl, _, rfl, l, _, _, _, rfl, rfl, SqL.of hl, at0 _ _, _, _, rfl, rfl, p, _, _, _, rfl, rfl, SqT.of B', rfl, _, rfl, _, rfl, l, _, rfl, SqL.of hl, fun l2 hl2 => ⟨_, rfl, q1, l2, a, w', _, g, rfl, Ba.mono (Tups.of_same (same_new hl2 _)), (by rw [← cut_one 0 w']; exact upd_same), hL', by omega, fun u H2 s2 L2 => ?_⟩⟩
    have sl := (same_new hl2 (.lst (cutV ((0 :: w').map V.int) (some 1) none))).trans s2
    refine ⟨_, rfl, p, _, _, _, rfl, rfl, SqT.of (sl _ _ B'), at0 _ _, rfl, _, rfl, ite2 (fun _ => ?_) (fun c => absurd (by decide +kernel) c)⟩
    refine ⟨_, rfl, l, _, _, _, rfl, rfl, SqL.of (sl _ _ hl), at0 _ _, _, rfl, (by show 2 ≤ sizeLine; decide), fun r hr' => ?_⟩
    have sr := same_new hr' (.tup [.int 0, u])
    exact k (.ref r) _ (sl.trans sr) (.tak0 (L2.mono (Tups.of_same sr)) upd_same)
  | @tak1 z nn a b w' m' hL' =>
    obtain ⟨q1, q2, B', Ba, Bb⟩ := B
    have dp' : max a.dep b.dep + 1 < n + 1 := dp
    refine ⟨_, rfl, l, _, rfl, .inl (SqL.of hl), rfl, _, rfl, ite2 (fun cc => absurd cc len_ne) (fun _ => ?_)⟩
    refine ⟨_, rfl, p, _, _, _, rfl, rfl, SqT.of (B'), at0 _ _, rfl, _, rfl, ite2 (fun c => absurd c (by decide +kernel)) (fun _ => ?_)⟩
    refine ⟨_, rfl, _, rfl, l, _, _, _, rfl, rfl, SqL.of hl, at0 _ _, _, _, rfl, rfl, p, _, _, _, rfl, rfl, SqT.of B', rfl, _, rfl, _, rfl, l, _, rfl, SqL.of hl, fun l2 hl2 => ⟨_, rfl, q2, l2, b, w', _, g, rfl, Bb.mono (Tups.of_same (same_new hl2 _)), (by rw [← cut_one 1 w']; exact upd_same), hL', by omega, fun u H2 s2 L2 => ?_⟩⟩
    have sl := (same_new hl2 (.lst (cutV ((1 :: w').map V.int) (some 1) none))).trans s2
    refine ⟨_, rfl, p, _, _, _, rfl, rfl, SqT.of (sl _ _ B'), at0 _ _, rfl, _, rfl, ite2 (fun _ => ?_) (fun c => absurd (by decide +kernel) c)⟩
    refine ⟨_, rfl, l, _, _, _, rfl, rfl, SqL.of (sl _ _ hl), at0 _ _, _, rfl, (by show 2 ≤ sizeLine; decide), fun r hr' => ?_⟩
    have sr := same_new hr' (.tup [.int 1, u])
    exact k (.ref r) _ (sl.trans sr) (.tak1 (L2.mono (Tups.of_same sr)) upd_same)
theorem ok_led (F : Fun K "_law_led" "_law_led" sLed f fd) (b1 : Binds K fd PD []) (k1 : PySem.W.keepIn K (.ref f) = true) (m1 : mg "_law_led" = some (.ref f))
    (G2 : ∀ n, FnOk P w K mg base CX0 (1 + n) f2 d2 ["_law_body_here"] (spPlain n)) (b2 : Binds K d2 ["_law_body_here"] []) (k2 : PySem.W.keepIn K (.ref f2) = true) (m2 : mg "_law_plain" = some (.ref f2)) (z3 : mg "len" = none) : ∀ n : Nat, FnOk P w K mg base CX0 (2 + n) f fd PD (spLed n)
  | 0 => ⟨fun vs H Q E h => by obtain ⟨p, l, t, ww, m, g, rfl, _⟩ := h; rfl, fun _ _ _ _ _ _ _ _ _ _ _ _ _ h => by obtain ⟨p, l, t, ww, m, g, _, _, _, _, dp, _⟩ := h; exact absurd dp (Nat.not_lt_zero _)⟩
  | n + 1 => led_step n F (ok_led F b1 k1 m1 G2 b2 k2 m2 z3 n) b1 k1 m1 (G2 n) b2 k2 m2 z3
theorem scPartsN : FnScope ["body"] ["body"] (defScope sPartsN) := ⟨rfl, rfl, rfl, by decide +kernel, rfl, by decide +kernel, by decide +kernel⟩
theorem ok_partsN (n : Nat) (F : Fun K "parts" "parts" sPartsN f fd) (G1 : FnOk P w K mg base CX0 (1 + n) f1 d1 ["body"] (spParts n)) (b1 : Binds K d1 ["body"] []) (k1 : PySem.W.keepIn K (.ref f1) = true) (m1 : mg "parts_in" = some (.ref f1)) (z3 : mg "len" = none) : FnOk P w K mg base CX0 (1 + n + 1) f fd ["body"] (spPartsN n) := by
  refine F.ok scPartsN (fun vs H Q E h => ?_) (fun cdv A outer s H vs Q E hr h => ?_)
  · obtain ⟨p, t, rfl, _⟩ := h
    rfl
  obtain ⟨p, t, rfl, B, dp, hz, k⟩ := h
  refine ⟨_, L2.QSs.ok (qss_one (qs_any (ps_ret (pe_callB call_len_seq rfl z3 PySem.boot_len (pa_call (pe_call G1 hr rfl m1 k1 b1 .nil pass0 (pa_nm (pv 0) pa_nil)) pa_nil))))), ?_⟩
  refine ⟨_, rfl, p, t, rfl, B, dp, hz, fun r vs H1 s1 h1 B1 => ⟨r, _, rfl, .inl (SqL.of h1), ?_⟩⟩
  rw [B1.length]
  exact k H1 s1
theorem scPlaces : FnScope ["body"] ["body"] (defScope sPlaces) := ⟨rfl, rfl, rfl, by decide +kernel, rfl, by decide +kernel, by decide +kernel⟩
theorem nd_pp : (["place", "part"] : List Str).Nodup := by decide +kernel
theorem oft_val (t : Bd) : (decide (V.str t.head = V.str "often")) = t.isOft := by
  cases t with
  | rest => show (decide (V.str "rest" = V.str "often")) = false; decide +kernel
  | pay _ _ => show (decide (V.str "pay" = V.str "often")) = false; decide +kernel
  | put _ _ => show (decide (V.str "put" = V.str "often")) = false; decide +kernel
  | use _ => show (decide (V.str "use" = V.str "often")) = false; decide +kernel
  | thn _ _ => show (decide (V.str "then" = V.str "often")) = false; decide +kernel
  | eit _ _ => show (decide (V.str "either" = V.str "often")) = false; decide +kernel
  | tak _ _ _ _ => show (decide (V.str "take" = V.str "often")) = false; decide +kernel
  | oft _ => show (decide (V.str "often" = V.str "often")) = true; decide +kernel
theorem ok_places (n : Nat) (F : Fun K "often_places" "often_places" sPlaces f fd) (G1 : FnOk P w K mg base CX0 (1 + n) f1 d1 ["body"] (spParts n)) (b1 : Binds K d1 ["body"] []) (k1 : PySem.W.keepIn K (.ref f1) = true) (m1 : mg "parts_in" = some (.ref f1)) (z4 : mg "enumerate" = none) : FnOk P w K mg base CX0 (1 + n + 1) f fd ["body"] (spPlaces n) := by
  refine F.ok scPlaces (fun vs H Q E h => ?_) (fun cdv A outer s H vs Q E hr h => ?_)
  · obtain ⟨p, t, rfl, _⟩ := h
    rfl
  obtain ⟨p, t, rfl, B, dp, hz, k⟩ := h
  refine ⟨_, L2.QSs.ok (qss_one (qs_any (ps_ret (pe_comp [] 2 [] ["place", "part"] rfl rfl (by decide +kernel) rfl (by decide +kernel) trivial rfl rfl rfl trivial (pi_enum rfl z4 (by decide +kernel) (pa_call (pe_call G1 hr rfl m1 k1 b1 .nil pass0 (pa_nm (pv 0) pa_nil)) pa_nil)) (fun B => pg_two (K := K) (i := 0) (j := 1) rfl rfl nd_pp rfl rfl rfl rfl) (fun B => pf_one (pt_cmpR op_eq (pe_ix (ix_tupK (K := K) rfl) (pv 1) pe_int (fun _ _ => rfl)) pe_str (nomark _))) (fun B => pv 0))))), ?_⟩
  refine ⟨_, rfl, p, t, rfl, B, dp, hz, fun r vs H1 s1 h1 B1 => ⟨r, rfl, ⟨_, SqL.of h1⟩, ?_⟩⟩
  have hl := B1.length
  refine comp_enum (xs := vs) (fun i ys H2 => Same H1 H2 ∧ ys = (ofts 0 (t.parts.take i)).map (fun m : Nat => V.int m)) ⟨Same.refl H1, rfl⟩ (fun i ys H2 hi ⟨s2, e⟩ => ⟨SqL.of (s2 _ _ h1), ?_⟩) ?_ ?_
  · rw [e, List.length_map]
    have q : ∀ (ps : List Bd) (s : Nat), (ofts s ps).length ≤ ps.length := by
      intro ps
      induction ps with
      | nil => intro s; exact Nat.le_refl _
      | cons x ps ih =>
        intro s
        show (if x.isOft then s :: ofts (s + 1) ps else ofts (s + 1) ps).length ≤ _
        have := ih (s + 1)
        cases x.isOft
        · show (ofts (s + 1) ps).length ≤ ps.length + 1; omega
        · show (ofts (s + 1) ps).length + 1 ≤ ps.length + 1; omega
    refine small (Nat.le_trans (q _ 0) ?_)
    rw [List.length_take]
    omega
  · rintro i x p2 ys H2 hx ⟨s2, rfl⟩ hn
    obtain ⟨a, q, ha, rfl, Ba⟩ := B1.get hx
    have sn := same_new hn (.tup [.int i, .ref q])
    obtain ⟨ws, ss, hq, _, _⟩ := (Ba.mono (Tups.of_same (s2.trans sn))).tup
    refine ⟨p2, _, rfl, SqT.of upd_same, rfl, _, _, rfl, _, _, rfl, rfl, rfl, _, rfl, q, _, _, _, rfl, rfl, SqT.of hq, at0 _ _, rfl, _, rfl, ite2 (fun c => ?_) (fun c => ?_)⟩
    · rw [oft_val] at c
      refine ⟨_, rfl, s2.trans sn, ?_⟩
      rw [ofts_take ha, if_pos c, List.map_append]
      rfl
    · rw [oft_val] at c
      refine ⟨s2.trans sn, ?_⟩
      rw [ofts_take ha, if_neg c, List.append_nil]
  · rintro ys H2 ⟨s2, rfl⟩ D hD
    rw [hl, List.take_length, ofts_parts]
    have e : (t.pl.map (· + 0)) = t.pl := by simp
    rw [e]
    exact k D _ ((s1.trans s2).trans (same_new hD _)) upd_same
theorem scOftens : FnScope ["body"] ["body"] (defScope sOftens) := ⟨rfl, rfl, rfl, by decide +kernel, rfl, by decide +kernel, by decide +kernel⟩
theorem ok_oftens (n : Nat) (F : Fun K "oftens" "oftens" sOftens f fd) (G1 : FnOk P w K mg base CX0 (1 + n + 1) f1 d1 ["body"] (spPlaces n)) (b1 : Binds K d1 ["body"] []) (k1 : PySem.W.keepIn K (.ref f1) = true) (m1 : mg "often_places" = some (.ref f1)) (z3 : mg "len" = none) : FnOk P w K mg base CX0 (1 + n + 2) f fd ["body"] (spOftens n) := by
  refine F.ok scOftens (fun vs H Q E h => ?_) (fun cdv A outer s H vs Q E hr h => ?_)
  · obtain ⟨p, t, rfl, _⟩ := h
    rfl
  obtain ⟨p, t, rfl, B, dp, hz, k⟩ := h
  refine ⟨_, L2.QSs.ok (qss_one (qs_any (ps_ret (pe_callB call_len_seq rfl z3 PySem.boot_len (pa_call (pe_call G1 hr rfl m1 k1 b1 .nil pass0 (pa_nm (pv 0) pa_nil)) pa_nil))))), ?_⟩
  refine ⟨_, rfl, p, t, rfl, B, dp, hz, fun r H1 s1 h1 => ⟨r, _, rfl, .inl (SqL.of h1), ?_⟩⟩
  rw [List.length_map]
  exact k H1 s1
theorem scLedP : FnScope ["body", "place", "trace", "one", "other", "second", "side", "inner"] PP (defScope sLedPart) := ⟨rfl, rfl, rfl, by decide +kernel, rfl, by decide +kernel, by decide +kernel⟩
theorem nz {m : Nat} : ¬ (decide (V.int ((m + 1 : Nat) : Int) = V.int 0) = true) := fun h => by
  have q := of_decide_eq_true h
  injection q with q
  omega
theorem nz2 {m c : Nat} : ¬ (decide (V.int ((m + (1 + c) : Nat) : Int) = V.int 0) = true) := fun h => by
  have q := of_decide_eq_true h
  injection q with q
  omega
theorem ledP_step (n : Nat) (F : Fun K "led_to_part" "led_to_part" sLedPart f fd) (R : FnOk P w K mg base CX0 (3 + n) f fd PP (spLedP n)) (b1 : Binds K fd PP []) (k1 : PySem.W.keepIn K (.ref f) = true) (m1 : mg "led_to_part" = some (.ref f))
    (G2 : FnOk P w K mg base CX0 (1 + n) f2 d2 ["body"] (spPlain n)) (b2 : Binds K d2 ["body"] []) (k2 : PySem.W.keepIn K (.ref f2) = true) (m2 : mg "plain_trace" = some (.ref f2))
    (G3 : FnOk P w K mg base CX0 (1 + n + 1) f3 d3 ["body"] (spPartsN n)) (b3 : Binds K d3 ["body"] []) (k3 : PySem.W.keepIn K (.ref f3) = true) (m3 : mg "parts" = some (.ref f3)) : FnOk P w K mg base CX0 (3 + n + 1) f fd PP (spLedP (n + 1)) := by
  refine F.ok scLedP (fun vs H Q E h => ?_) (fun cdv A outer s H vs Q E hr h => ?_)
  · obtain ⟨p, t, ww, m, g, rfl, _⟩ := h
    rfl
  obtain ⟨p, t, ww, m, g, rfl, B, hL, dp, hz, k⟩ := h
  have hr2 : Room (1 + n) (A.deeper (PyProof.Rows.envOfC "led_to_part" (defScope sLedPart) s.heap.objs.size f cdv)) := hr.mono (by omega)
  have hr3 : Room (1 + n + 1) (A.deeper (PyProof.Rows.envOfC "led_to_part" (defScope sLedPart) s.heap.objs.size f cdv)) := hr.mono (by omega)
  refine ⟨_, L2.QSs.ok (qss_cons (qs_any (ps_if (pt_cmpR op_eq (pv 1) pe_int (nomark _)) (pss_one (ps_ret (pv 2))) pss_nil))
    (qss_cons (qs_any (ps_if (pt_cmpR op_eq (pe_ix ix_tup (pv 0) pe_int (fun _ _ => rfl)) pe_str (nomark _)) (pss_one (ps_ret (pe_tup (pa_tup (pe_tup (pa_cst pe_int (pa_call (pe_call R hr rfl m1 k1 b1 .nil pass0 (pa_sub (pe_ix ix_tup (pv 0) pe_int (fun _ _ => rfl)) (pa_bin (pe_op op_sub (pv 1) pe_int) (pa_nm (pv 2) pa_nil)))) pa_nil))) pa_nil)))) pss_nil))
    (qss_cons (qs_any (ps_set (i := 3) scLedP.nd rfl (Or.inl rfl) (pe_ix ix_tup (pv 0) (pe_un un_neg pe_int) (fun _ _ => rfl))))
    (qss_cons (qs_any (ps_set (i := 4) scLedP.nd rfl (Or.inl rfl) (pe_ix ix_tup (pv 0) (pe_un un_neg pe_int) (fun _ _ => rfl))))
    (qss_cons (qs_any (ps_set (i := 5) scLedP.nd rfl (Or.inl rfl) (pe_op op_add pe_int (pe_call G3 hr3 rfl m3 k3 b3 .nil pass0 (pa_nm (pv 3) pa_nil)))))
    (qss_cons (qs_any (ps_set (i := 6) scLedP.nd rfl (Or.inl rfl) (pe_ifExp (pt_cmpR op_lt (pv 1) (pv 5) (nomark _)) pe_int pe_int)))
    (qss_cons (qs_any (ps_set (i := 7) scLedP.nd rfl (Or.inl rfl) (pe_ifExp (pt_cmpR op_eq (pv 6) pe_int (nomark _)) (pe_call R hr rfl m1 k1 b1 .nil pass0 (pa_nm (pv 3) (pa_bin (pe_op op_sub (pv 1) pe_int) (pa_nm (pv 2) pa_nil)))) (pe_call R hr rfl m1 k1 b1 .nil pass0 (pa_nm (pv 4) (pa_bin (pe_op op_sub (pv 1) (pv 5)) (pa_nm (pv 2) pa_nil)))))))
    (qss_cons (qs_any (ps_if (pt_cmpR op_ne (pe_ix ix_tup (pv 0) pe_int (fun _ _ => rfl)) pe_str (nomark _)) (pss_one (ps_ret (pe_tup (pa_nm (pv 6) (pa_nm (pv 7) pa_nil))))) pss_nil))
    (qss_cons (qs_any (ps_if (pt_cmpR op_eq (pv 6) pe_int (nomark _)) (pss_one (ps_ret (pe_tup (pa_nm (pv 7) (pa_call (pe_call G2 hr2 rfl m2 k2 b2 .nil pass0 (pa_nm (pv 4) pa_nil)) pa_nil))))) pss_nil))
    (qss_one (qs_any (ps_ret (pe_tup (pa_call (pe_call G2 hr2 rfl m2 k2 b2 .nil pass0 (pa_nm (pv 3) pa_nil)) (pa_nm (pv 7) pa_nil))))))))))))))), ?_⟩
  cases hL with
  | @here a =>
    obtain ⟨q1, B', Ba⟩ := B
    refine ⟨_, rfl, rfl, _, rfl, ite2 (fun _ => ?_) (fun c => absurd (by decide +kernel) c)⟩
    exact ⟨_, rfl, k g H (Same.refl H) .here⟩
  | @oft a w' m' hL' =>
    obtain ⟨q1, B', Ba⟩ := B
    have dp' : a.dep + 1 < n + 1 := dp
    have hz' : a.parts.length + 1 ≤ 1000 := hz
    refine ⟨_, rfl, rfl, _, rfl, ite2 (fun cc => absurd cc nz) (fun _ => ?_)⟩
    refine ⟨_, rfl, p, _, _, _, rfl, rfl, SqT.of (B'), at0 _ _, rfl, _, rfl, ite2 (fun _ => ?_) (fun c => absurd (by decide +kernel) c)⟩
    refine ⟨_, rfl, p, _, _, _, rfl, rfl, SqT.of B', rfl, _, rfl, _, _, rfl, rfl, _, rfl, q1, a, w', m', g, (show [V.ref q1, V.int (((m' + 1 : Nat) : Int) - 1), g] = [V.ref q1, V.int m', g] by rw [show ((m' + 1 : Nat) : Int) - 1 = (m' : Int) by omega]), Ba, hL', by omega, by omega, fun u H2 s2 L2 => ⟨(by show 2 ≤ sizeLine; decide), fun q5 hq5 => ⟨(by show 1 ≤ sizeLine; decide), fun r hr' => ?_⟩⟩⟩
    have s5 := same_new hq5 (.tup [.int 1, u])
    have sr := same_new hr' (.tup [.ref q5])
    exact k (.ref r) _ (s2.trans (s5.trans sr)) (.oft (L2.mono (Tups.of_same (s5.trans sr))) (sr _ _ upd_same) upd_same)
  | @thn0 a b w' m' hL' =>
    obtain ⟨q1, q2, B', Ba, Bb⟩ := B
    have dp' : max a.dep b.dep + 1 < n + 1 := dp
    have hz' : (a.parts ++ b.parts).length + 1 ≤ 1000 := hz
    rw [List.length_append] at hz'
    have lt := hL'.lt
    refine ⟨_, rfl, rfl, _, rfl, ite2 (fun cc => absurd cc nz) (fun _ => ?_)⟩
    refine ⟨_, rfl, p, _, _, _, rfl, rfl, SqT.of (B'), at0 _ _, rfl, _, rfl, ite2 (fun c => absurd c (by decide +kernel)) (fun _ => ?_)⟩
    refine ⟨_, rfl, _, rfl, p, _, _, _, rfl, rfl, SqT.of B', rfl, ?_⟩
    refine ⟨_, rfl, _, rfl, p, _, _, _, rfl, rfl, SqT.of B', rfl, ?_⟩
    refine ⟨_, rfl, q1, a, rfl, Ba, by omega, by omega, fun H1 s1 => ⟨_, _, rfl, rfl, ?_⟩⟩
    refine ⟨_, rfl, _, rfl, _, _, rfl, rfl, _, rfl, ite2 (fun _ => ?_) (fun cc => absurd (decide_eq_true (by omega)) cc)⟩
    refine ⟨_, rfl, rfl, _, rfl, ite2 (fun _ => ?_) (fun c => absurd (by decide +kernel) c)⟩
    refine ⟨_, rfl, _, rfl, _, _, rfl, rfl, _, rfl, q1, a, w', m', g, (show [V.ref q1, V.int (((m' + 1 : Nat) : Int) - 1), g] = [V.ref q1, V.int m', g] by rw [show ((m' + 1 : Nat) : Int) - 1 = (m' : Int) by omega]), Ba.mono (Tups.of_same s1), hL', by omega, by omega, fun u H2 s2 L2 => ?_⟩
    have sl := s1.trans s2
    refine ⟨_, rfl, p, _, _, _, rfl, rfl, SqT.of (sl _ _ B'), at0 _ _, rfl, _, rfl, ite2 (fun c => absurd c (by decide +kernel)) (fun _ => ?_)⟩
    refine ⟨_, rfl, rfl, _, rfl, ite2 (fun _ => ?_) (fun c => absurd (by decide +kernel) c)⟩
    refine ⟨_, rfl, _, rfl, q2, b, rfl, Bb.mono (Tups.of_same sl), by omega, fun r3 H3 s3 P3 => ⟨(by show 2 ≤ sizeLine; decide), fun r hr' => ?_⟩⟩
    have sr := same_new hr' (.tup [u, .ref r3])
    exact k (.ref r) _ (sl.trans (s3.trans sr)) (.thn0 (L2.mono (Tups.of_same (s3.trans sr))) (P3.mono (Tups.of_same sr)) upd_same)
  | @thn1 a b w' m' hL' =>
    obtain ⟨q1, q2, B', Ba, Bb⟩ := B
    have dp' : max a.dep b.dep + 1 < n + 1 := dp
    have hz' : (a.parts ++ b.parts).length + 1 ≤ 1000 := hz
    rw [List.length_append] at hz'
    have lt := hL'.lt
    refine ⟨_, rfl, rfl, _, rfl, ite2 (fun cc => absurd cc nz2) (fun _ => ?_)⟩
    refine ⟨_, rfl, p, _, _, _, rfl, rfl, SqT.of (B'), at0 _ _, rfl, _, rfl, ite2 (fun c => absurd c (by decide +kernel)) (fun _ => ?_)⟩
    refine ⟨_, rfl, _, rfl, p, _, _, _, rfl, rfl, SqT.of B', rfl, ?_⟩
    refine ⟨_, rfl, _, rfl, p, _, _, _, rfl, rfl, SqT.of B', rfl, ?_⟩
    refine ⟨_, rfl, q1, a, rfl, Ba, by omega, by omega, fun H1 s1 => ⟨_, _, rfl, rfl, ?_⟩⟩
    refine ⟨_, rfl, _, rfl, _, _, rfl, rfl, _, rfl, ite2 (fun cc => absurd (of_decide_eq_true cc) (by omega)) (fun _ => ?_)⟩
    refine ⟨_, rfl, rfl, _, rfl, ite2 (fun c => absurd c (by decide +kernel)) (fun _ => ?_)⟩
    refine ⟨_, rfl, _, rfl, _, rfl, _, _, rfl, rfl, _, rfl, q2, b, w', m', g, (show [V.ref q2, V.int (((m' + (1 + a.parts.length) : Nat) : Int) - (1 + (a.parts.length : Int))), g] = [V.ref q2, V.int m', g] by rw [show ((m' + (1 + a.parts.length) : Nat) : Int) - (1 + (a.parts.length : Int)) = (m' : Int) by omega]), Bb.mono (Tups.of_same s1), hL', by omega, by omega, fun u H2 s2 L2 => ?_⟩
    have sl := s1.trans s2
    refine ⟨_, rfl, p, _, _, _, rfl, rfl, SqT.of (sl _ _ B'), at0 _ _, rfl, _, rfl, ite2 (fun c => absurd c (by decide +kernel)) (fun _ => ?_)⟩
    refine ⟨_, rfl, rfl, _, rfl, ite2 (fun c => absurd c (by decide +kernel)) (fun _ => ?_)⟩
    refine ⟨_, rfl, q1, a, rfl, Ba.mono (Tups.of_same sl), by omega, fun r3 H3 s3 P3 => ⟨_, rfl, (by show 2 ≤ sizeLine; decide), fun r hr' => ?_⟩⟩
    have sr := same_new hr' (.tup [.ref r3, u])
    exact k (.ref r) _ (sl.trans (s3.trans sr)) (.thn1 (L2.mono (Tups.of_same (s3.trans sr))) (P3.mono (Tups.of_same sr)) upd_same)
  | @eit0 a b w' m' hL' =>
    obtain ⟨q1, q2, B', Ba, Bb⟩ := B
    have dp' : max a.dep b.dep + 1 < n + 1 := dp
    have hz' : (a.parts ++ b.parts).length + 1 ≤ 1000 := hz
    rw [List.length_append] at hz'
    have lt := hL'.lt
    refine ⟨_, rfl, rfl, _, rfl, ite2 (fun cc => absurd cc nz) (fun _ => ?_)⟩
    refine ⟨_, rfl, p, _, _, _, rfl, rfl, SqT.of (B'), at0 _ _, rfl, _, rfl, ite2 (fun c => absurd c (by decide +kernel)) (fun _ => ?_)⟩
    refine ⟨_, rfl, _, rfl, p, _, _, _, rfl, rfl, SqT.of B', rfl, ?_⟩
    refine ⟨_, rfl, _, rfl, p, _, _, _, rfl, rfl, SqT.of B', rfl, ?_⟩
    refine ⟨_, rfl, q1, a, rfl, Ba, by omega, by omega, fun H1 s1 => ⟨_, _, rfl, rfl, ?_⟩⟩
    refine ⟨_, rfl, _, rfl, _, _, rfl, rfl, _, rfl, ite2 (fun _ => ?_) (fun cc => absurd (decide_eq_true (by omega)) cc)⟩
    refine ⟨_, rfl, rfl, _, rfl, ite2 (fun _ => ?_) (fun c => absurd (by decide +kernel) c)⟩
    refine ⟨_, rfl, _, rfl, _, _, rfl, rfl, _, rfl, q1, a, w', m', g, (show [V.ref q1, V.int (((m' + 1 : Nat) : Int) - 1), g] = [V.ref q1, V.int m', g] by rw [show ((m' + 1 : Nat) : Int) - 1 = (m' : Int) by omega]), Ba.mono (Tups.of_same s1), hL', by omega, by omega, fun u H2 s2 L2 => ?_⟩
    have sl := s1.trans s2
    refine ⟨_, rfl, p, _, _, _, rfl, rfl, SqT.of (sl _ _ B'), at0 _ _, rfl, _, rfl, ite2 (fun _ => ?_) (fun c => absurd (by decide +kernel) c)⟩
    refine ⟨_, rfl, _, rfl, (by show 2 ≤ sizeLine; decide), fun r hr' => ?_⟩
    have sr := same_new hr' (.tup [.int 0, u])
    exact k (.ref r) _ (sl.trans sr) (.eit0 (L2.mono (Tups.of_same sr)) upd_same)
  | @eit1 a b w' m' hL' =>
    obtain ⟨q1, q2, B', Ba, Bb⟩ := B
    have dp' : max a.dep b.dep + 1 < n + 1 := dp
    have hz' : (a.parts ++ b.parts).length + 1 ≤ 1000 := hz
    rw [List.length_append] at hz'
    have lt := hL'.lt
    refine ⟨_, rfl, rfl, _, rfl, ite2 (fun cc => absurd cc nz2) (fun _ => ?_)⟩
    refine ⟨_, rfl, p, _, _, _, rfl, rfl, SqT.of (B'), at0 _ _, rfl, _, rfl, ite2 (fun c => absurd c (by decide +kernel)) (fun _ => ?_)⟩
    refine ⟨_, rfl, _, rfl, p, _, _, _, rfl, rfl, SqT.of B', rfl, ?_⟩
    refine ⟨_, rfl, _, rfl, p, _, _, _, rfl, rfl, SqT.of B', rfl, ?_⟩
    refine ⟨_, rfl, q1, a, rfl, Ba, by omega, by omega, fun H1 s1 => ⟨_, _, rfl, rfl, ?_⟩⟩
    refine ⟨_, rfl, _, rfl, _, _, rfl, rfl, _, rfl, ite2 (fun cc => absurd (of_decide_eq_true cc) (by omega)) (fun _ => ?_)⟩
    refine ⟨_, rfl, rfl, _, rfl, ite2 (fun c => absurd c (by decide +kernel)) (fun _ => ?_)⟩
    refine ⟨_, rfl, _, rfl, _, rfl, _, _, rfl, rfl, _, rfl, q2, b, w', m', g, (show [V.ref q2, V.int (((m' + (1 + a.parts.length) : Nat) : Int) - (1 + (a.parts.length : Int))), g] = [V.ref q2, V.int m', g] by rw [show ((m' + (1 + a.parts.length) : Nat) : Int) - (1 + (a.parts.length : Int)) = (m' : Int) by omega]), Bb.mono (Tups.of_same s1), hL', by omega, by omega, fun u H2 s2 L2 => ?_⟩
    have sl := s1.trans s2
    refine ⟨_, rfl, p, _, _, _, rfl, rfl, SqT.of (sl _ _ B'), at0 _ _, rfl, _, rfl, ite2 (fun _ => ?_) (fun c => absurd (by decide +kernel) c)⟩
    refine ⟨_, rfl, _, rfl, (by show 2 ≤ sizeLine; decide), fun r hr' => ?_⟩
    have sr := same_new hr' (.tup [.int 1, u])
    exact k (.ref r) _ (sl.trans sr) (.eit1 (L2.mono (Tups.of_same sr)) upd_same)
  | @tak0 z nn a b w' m' hL' =>
    obtain ⟨q1, q2, B', Ba, Bb⟩ := B
    have dp' : max a.dep b.dep + 1 < n + 1 := dp
    have hz' : (a.parts ++ b.parts).length + 1 ≤ 1000 := hz
    rw [List.length_append] at hz'
    have lt := hL'.lt
    refine ⟨_, rfl, rfl, _, rfl, ite2 (fun cc => absurd cc nz) (fun _ => ?_)⟩
    refine ⟨_, rfl, p, _, _, _, rfl, rfl, SqT.of (B'), at0 _ _, rfl, _, rfl, ite2 (fun c => absurd c (by decide +kernel)) (fun _ => ?_)⟩
    refine ⟨_, rfl, _, rfl, p, _, _, _, rfl, rfl, SqT.of B', rfl, ?_⟩
    refine ⟨_, rfl, _, rfl, p, _, _, _, rfl, rfl, SqT.of B', rfl, ?_⟩
    refine ⟨_, rfl, q1, a, rfl, Ba, by omega, by omega, fun H1 s1 => ⟨_, _, rfl, rfl, ?_⟩⟩
    refine ⟨_, rfl, _, rfl, _, _, rfl, rfl, _, rfl, ite2 (fun _ => ?_) (fun cc => absurd (decide_eq_true (by omega)) cc)⟩
    refine ⟨_, rfl, rfl, _, rfl, ite2 (fun _ => ?_) (fun c => absurd (by decide +kernel) c)⟩
    refine ⟨_, rfl, _, rfl, _, _, rfl, rfl, _, rfl, q1, a, w', m', g, (show [V.ref q1, V.int (((m' + 1 : Nat) : Int) - 1), g] = [V.ref q1, V.int m', g] by rw [show ((m' + 1 : Nat) : Int) - 1 = (m' : Int) by omega]), Ba.mono (Tups.of_same s1), hL', by omega, by omega, fun u H2 s2 L2 => ?_⟩
    have sl := s1.trans s2
    refine ⟨_, rfl, p, _, _, _, rfl, rfl, SqT.of (sl _ _ B'), at0 _ _, rfl, _, rfl, ite2 (fun _ => ?_) (fun c => absurd (by decide +kernel) c)⟩
    refine ⟨_, rfl, _, rfl, (by show 2 ≤ sizeLine; decide), fun r hr' => ?_⟩
    have sr := same_new hr' (.tup [.int 0, u])
    exact k (.ref r) _ (sl.trans sr) (.tak0 (L2.mono (Tups.of_same sr)) upd_same)
  | @tak1 z nn a b w' m' hL' =>
    obtain ⟨q1, q2, B', Ba, Bb⟩ := B
    have dp' : max a.dep b.dep + 1 < n + 1 := dp
    have hz' : (a.parts ++ b.parts).length + 1 ≤ 1000 := hz
    rw [List.length_append] at hz'
    have lt := hL'.lt
    refine ⟨_, rfl, rfl, _, rfl, ite2 (fun cc => absurd cc nz2) (fun _ => ?_)⟩
    refine ⟨_, rfl, p, _, _, _, rfl, rfl, SqT.of (B'), at0 _ _, rfl, _, rfl, ite2 (fun c => absurd c (by decide +kernel)) (fun _ => ?_)⟩
    refine ⟨_, rfl, _, rfl, p, _, _, _, rfl, rfl, SqT.of B', rfl, ?_⟩
    refine ⟨_, rfl, _, rfl, p, _, _, _, rfl, rfl, SqT.of B', rfl, ?_⟩
    refine ⟨_, rfl, q1, a, rfl, Ba, by omega, by omega, fun H1 s1 => ⟨_, _, rfl, rfl, ?_⟩⟩
    refine ⟨_, rfl, _, rfl, _, _, rfl, rfl, _, rfl, ite2 (fun cc => absurd (of_decide_eq_true cc) (by omega)) (fun _ => ?_)⟩
    refine ⟨_, rfl, rfl, _, rfl, ite2 (fun c => absurd c (by decide +kernel)) (fun _ => ?_)⟩
    refine ⟨_, rfl, _, rfl, _, rfl, _, _, rfl, rfl, _, rfl, q2, b, w', m', g, (show [V.ref q2, V.int (((m' + (1 + a.parts.length) : Nat) : Int) - (1 + (a.parts.length : Int))), g] = [V.ref q2, V.int m', g] by rw [show ((m' + (1 + a.parts.length) : Nat) : Int) - (1 + (a.parts.length : Int)) = (m' : Int) by omega]), Bb.mono (Tups.of_same s1), hL', by omega, by omega, fun u H2 s2 L2 => ?_⟩
    have sl := s1.trans s2
    refine ⟨_, rfl, p, _, _, _, rfl, rfl, SqT.of (sl _ _ B'), at0 _ _, rfl, _, rfl, ite2 (fun _ => ?_) (fun c => absurd (by decide +kernel) c)⟩
    refine ⟨_, rfl, _, rfl, (by show 2 ≤ sizeLine; decide), fun r hr' => ?_⟩
    have sr := same_new hr' (.tup [.int 1, u])
    exact k (.ref r) _ (sl.trans sr) (.tak1 (L2.mono (Tups.of_same sr)) upd_same)
theorem ok_ledP (F : Fun K "led_to_part" "led_to_part" sLedPart f fd) (b1 : Binds K fd PP []) (k1 : PySem.W.keepIn K (.ref f) = true) (m1 : mg "led_to_part" = some (.ref f))
    (G2 : ∀ n, FnOk P w K mg base CX0 (1 + n) f2 d2 ["body"] (spPlain n)) (b2 : Binds K d2 ["body"] []) (k2 : PySem.W.keepIn K (.ref f2) = true) (m2 : mg "plain_trace" = some (.ref f2))
    (G3 : ∀ n, FnOk P w K mg base CX0 (1 + n + 1) f3 d3 ["body"] (spPartsN n)) (b3 : Binds K d3 ["body"] []) (k3 : PySem.W.keepIn K (.ref f3) = true) (m3 : mg "parts" = some (.ref f3)) : ∀ n : Nat, FnOk P w K mg base CX0 (3 + n) f fd PP (spLedP n)
  | 0 => ⟨fun vs H Q E h => by obtain ⟨p, t, ww, m, g, rfl, _⟩ := h; rfl, fun _ _ _ _ _ _ _ _ _ _ _ _ _ h => by obtain ⟨p, t, ww, m, g, _, _, _, dp, _⟩ := h; exact absurd dp (Nat.not_lt_zero _)⟩
  | n + 1 => ledP_step n F (ok_ledP F b1 k1 m1 G2 b2 k2 m2 G3 b3 k3 m3 n) b1 k1 m1 (G2 n) b2 k2 m2 (G3 n) b3 k3 m3
theorem scLedTo : FnScope ["body", "number", "goings"] ["body", "number", "goings"] (defScope sLedTo) := ⟨rfl, rfl, rfl, by decide +kernel, rfl, by decide +kernel, by decide +kernel⟩
theorem ok_ledTo (n : Nat) (F : Fun K "led_to" "led_to" sLedTo f fd) (G1 : FnOk P w K mg base CX0 (3 + n) f1 d1 PP (spLedP n)) (b1 : Binds K d1 PP []) (k1 : PySem.W.keepIn K (.ref f1) = true) (m1 : mg "led_to_part" = some (.ref f1))
    (G2 : FnOk P w K mg base CX0 (1 + n + 1) f2 d2 ["body"] (spPlaces n)) (b2 : Binds K d2 ["body"] []) (k2 : PySem.W.keepIn K (.ref f2) = true) (m2 : mg "often_places" = some (.ref f2)) : FnOk P w K mg base CX0 (3 + n + 1) f fd ["body", "number", "goings"] (spLedTo n) := by
  refine F.ok scLedTo (fun vs H Q E h => ?_) (fun cdv A outer s H vs Q E hr h => ?_)
  · obtain ⟨p, t, j, ww, m, g, rfl, _⟩ := h
    rfl
  obtain ⟨p, t, j, ww, m, g, rfl, B, hj, hL, dp, hz, k⟩ := h
  have hr2 : Room (1 + n + 1) (A.deeper (PyProof.Rows.envOfC "led_to" (defScope sLedTo) s.heap.objs.size f cdv)) := hr.mono (by omega)
  refine ⟨_, L2.QSs.ok (qss_one (qs_any (ps_ret (pe_call G1 hr rfl m1 k1 b1 .nil pass0 (pa_nm (pv 0) (pa_sub (pe_ix ix_list (pe_call G2 hr2 rfl m2 k2 b2 .nil pass0 (pa_nm (pv 0) pa_nil)) (pv 1) (fun _ _ => rfl)) (pa_nm (pv 2) pa_nil))))))), ?_⟩
  refine ⟨_, rfl, _, rfl, p, t, rfl, B, dp, hz, fun r H1 s1 h1 => ⟨_, rfl, r, _, _, _, rfl, rfl, SqL.of h1, atI_nat (v := V.int m) (by rw [List.getElem?_map, hj]; rfl), _, rfl, p, t, ww, m, g, rfl, B.mono (Tups.of_same s1), hL, dp, hz, fun v H2 s2 L2 => k v H2 (s1.trans s2) L2⟩⟩
end
end Q16

set_option Elab.async false
set_option linter.all false
set_option maxRecDepth 100000
set_option maxHeartbeats 4000000
namespace Q16
open PySem L2 Wd
def spTrace (n : Nat) : Sp := fun vs H Q _ => ∃ (d l p x : Addr) (t : Bd) (mm : Int), vs = [.ref d, .ref p, .ref x] ∧ Deal H d l ∧ BAt H t p ∧ t.dep < n ∧ H x = some (.lst [.int mm]) ∧ x ≠ l ∧
  ∀ (v : V) (mm' : Int) (H' : Hp), Alk H' (2 * t.dep + 1) v v → Deal H' d l → H' x = some (.lst [.int mm']) → OthX d l x H H' → Q v H'
abbrev PT3 : List Str := ["_law_deal_here", "_law_body_here", "_law_left"]
theorem Alk.all {H : Hp} {n : Nat} {p : Addr} {vs : List V} (h : H p = some (.tup vs)) (hz : vs.length ≤ 1000) (k : ∀ v ∈ vs, Alk H n v v) : Alk H (n + 1) (.ref p) (.ref p) :=
  .inr ⟨p, p, vs, vs, rfl, rfl, h, h, rfl, hz, fun i x y hx hy => by rw [hx] at hy; cases hy; exact k x (List.mem_of_getElem? hx)⟩
section
variable {P : Program} {w : World} {K : PySem.W.Frag} {mg : Str → Option Value} {base : Heap} {f f1 f2 f3 f4 f5 f6 f7 f8 : Addr} {fd d1 d2 d3 d4 d5 d6 d7 d8 : FuncData}
theorem scTrace : FnScope ["_law_deal_here", "_law_body_here", "_law_left", "_law_one", "_law_side", "_law_found", "_law_k"] PT3 (defScope sTrace) := ⟨rfl, rfl, rfl, by decide +kernel, rfl, by decide +kernel, by decide +kernel⟩
theorem trace_step (n : Nat) (F : Fun K "_law_trace" "_law_trace" sTrace f fd) (R : FnOk P w K mg base CX0 (1 + n) f fd PT3 (spTrace n)) (b1 : Binds K fd PT3 []) (k1 : PySem.W.keepIn K (.ref f) = true) (m1 : mg "_law_trace" = some (.ref f))
    (G2 : FnOk P w K mg base CX0 1 f2 d2 ["_law_deal_here", "_law_many"] spDraw) (b2 : Binds K d2 ["_law_deal_here", "_law_many"] []) (k2 : PySem.W.keepIn K (.ref f2) = true) (m2 : mg "_law_draw" = some (.ref f2))
    (z1 : mg "range" = none) (z2 : mg "int" = none) (z3 : mg "tuple" = none) : FnOk P w K mg base CX0 (1 + n + 1) f fd PT3 (spTrace (n + 1)) := by
  refine F.ok scTrace (fun vs H Q E h => ?_) (fun cdv A outer s H vs Q E hr h => ?_)
  · obtain ⟨d, l, p, x, t, mm, rfl, _⟩ := h
    rfl
  obtain ⟨d, l, p, x, t, mm, rfl, D, B, dp, hx, hxl, k⟩ := h
  have hr1 : Room 1 (A.deeper (PyProof.Rows.envOfC "_law_trace" (defScope sTrace) s.heap.objs.size f cdv)) := hr.mono (by omega)
  refine ⟨_, L2.QSs.ok (qss_cons (qs_any (ps_if (pt_cmpR op_eq (pe_ix ix_tup (pv 1) pe_int (fun _ _ => rfl)) pe_str (nomark _)) (pss_cons (ps_set (i := 3) scTrace.nd rfl (Or.inl rfl) (pe_call R hr rfl m1 k1 b1 .nil pass0 (pa_nm (pv 0) (pa_sub (pe_ix ix_tup (pv 1) pe_int (fun _ _ => rfl)) (pa_nm (pv 2) pa_nil)))))
    (pss_one (ps_ret (pe_tup (pa_nm (pv 3) (pa_call (pe_call R hr rfl m1 k1 b1 .nil pass0 (pa_nm (pv 0) (pa_sub (pe_ix ix_tup (pv 1) pe_int (fun _ _ => rfl)) (pa_nm (pv 2) pa_nil)))) pa_nil)))))) pss_nil))
    (qss_cons (qs_any (ps_if (PW.pt (pw_or (pt_cmpR op_eq (pe_ix ix_tup (pv 1) pe_int (fun _ _ => rfl)) pe_str (nomark _)) (pw_or1 (pt_cmpR op_eq (pe_ix ix_tup (pv 1) pe_int (fun _ _ => rfl)) pe_str (nomark _))))) (pss_cons (ps_set (i := 4) scTrace.nd rfl (Or.inl rfl) (pe_call G2 hr1 rfl m2 k2 b2 .nil pass0 (pa_nm (pv 0) (pa_cst pe_int pa_nil))))
    (pss_one (ps_ret (pe_tup (pa_nm (pv 4) (pa_call (pe_call R hr rfl m1 k1 b1 .nil pass0 (pa_nm (pv 0) (pa_sub (pe_ix ix_tup (pv 1) (pe_op op_sub (pv 4) pe_int) (fun _ _ => rfl)) (pa_nm (pv 2) pa_nil)))) pa_nil)))))) pss_nil))
    (qss_cons (qs_any (ps_set (i := 5) scTrace.nd rfl (Or.inl rfl) (pe_lst pa_nil)))
    (qss_cons (qs_any (ps_for PassesOwn.never rfl (pi_range1 rfl z1 (pa_bin (pe_op op_mul (pe_call G2 hr1 rfl m2 k2 b2 .nil pass0 (pa_nm (pv 0) (pa_cst pe_int pa_nil))) (pe_callTy call_int1 rfl z2 (by decide +kernel) (pa_cmp (pe_cmpR op_eq (pe_ix ix_tup (pv 1) pe_int (fun _ _ => rfl)) pe_str (nomark _)) pa_nil))) pa_nil)) (pg_name (i := 6) scTrace.nd rfl (Or.inl rfl)) (pss_one (ps_if (pt_cmpR op_gt (pe_ix ix_list (pv 2) pe_int (fun _ _ => rfl)) pe_int (nomark _)) (pss_cons (ps_asg (pe_op op_sub (pe_ix ix_list (pv 2) pe_int (fun _ _ => rfl)) pe_int) (pg_sub (pv 2) pe_int set_list))
    (pss_one (ps_expr (pe_bm PySem.F.plainAttrs_list PySem.F.slot_list_append PySem.F.type_list_append mt_append (pv 5) (pa_tup (pe_tup (pa_bin (pe_op op_add pe_int (pe_call G2 hr1 rfl m2 k2 b2 .nil pass0 (pa_nm (pv 0) (pa_cst pe_int pa_nil)))) (pa_call (pe_call R hr rfl m1 k1 b1 .nil pass0 (pa_nm (pv 0) (pa_sub (pe_ix ix_tup (pv 1) pe_int (fun _ _ => rfl)) (pa_nm (pv 2) pa_nil)))) pa_nil))) pa_nil))))) pss_nil))))
    (qss_one (qs_any (ps_ret (pe_callTy call_tuple_of rfl z3 (by decide +kernel) (pa_nm (pv 5) pa_nil))))))))), ?_⟩
  have hxd : x ≠ d := by obtain ⟨_, _, _, D⟩ := D; exact ne_of hx D.dc (by intro z; cases z)
  cases t with
  | rest =>
    have BB := B
    have B' : H p = some (.tup [.str "rest"]) := B
    refine ⟨_, rfl, p, _, _, _, rfl, rfl, SqT.of (B'), at0 _ _, rfl, _, rfl, ite2 (fun c => absurd c (by decide +kernel)) (fun _ => ?_)⟩
    refine ⟨_, rfl, p, _, _, _, rfl, rfl, SqT.of B', at0 _ _, rfl, _, rfl, ite2 (fun c => absurd c (by decide +kernel)) (fun _ => ⟨_, rfl, p, _, _, _, rfl, rfl, SqT.of B', at0 _ _, rfl, _, rfl, ite2 (fun c => absurd c (by decide +kernel)) (fun _ => ?_)⟩)⟩
    refine ⟨(by show 0 ≤ sizeLine; decide), fun g hg => ?_⟩
    have sg := same_new hg (.lst [])
    have dg := D.dne hg
    have hgx : g ≠ x := fun e => by rw [e, hx] at hg; cases hg
    refine ⟨_, rfl, d, l, _, rfl, D.same sg, by decide, by decide, fun r0 H1 r00 r01 D1 O1 => ?_⟩
    have T1 := (Tups.of_same sg).trans (Tups.of_oth (D.same sg) O1)
    have hx1 := O1 _ _ (sg _ _ hx) hxd hxl
    have hg1 := O1 _ _ upd_same dg.1 dg.2
    have O01 : OthX d l x H H1 := (Oth.of_same sg).x.trans O1.x
    refine ⟨_, rfl, p, _, _, _, rfl, rfl, SqT.of (T1 _ _ B'), at0 _ _, rfl, .inr ⟨_, rfl, ?_⟩⟩
    rw [show (decide (V.str "rest" = V.str "often")) = false by decide +kernel]
    refine ⟨_, _, rfl, rfl, .inl ⟨by omega, by omega⟩, _, rfl, (by show -(2 ^ 62) ≤ r0 * 0; omega), (by show r0 * 0 < 2 ^ 62; omega), ?_⟩
    refine for_range (lo := 0) (n := (r0 * 0).toNat) (fun i σ H' => ∃ v6, σ = [some (.ref d), some (.ref p), some (.ref x), none, none, some (.ref g), v6] ∧ H1 = H') ⟨none, rfl, rfl⟩ (fun i σ H' hi => absurd hi (by rw [Int.mul_zero]; exact Nat.not_lt_zero _)) ?_
    rintro σ H' ⟨v6, rfl, rfl⟩
    refine ⟨_, rfl, g, _, rfl, .inl ⟨SqL.of hg1, fun r hr' => ?_⟩⟩
    have sr := same_new hr' (.tup [])
    exact k (.ref r) mm _ (Alk.nil upd_same upd_same) (D1.same sr) (sr _ _ hx1) (O01.trans (Oth.of_same sr).x)
  | pay xt yt =>
    have BB := B
    obtain ⟨c, B', hc⟩ := B
    refine ⟨_, rfl, p, _, _, _, rfl, rfl, SqT.of (B'), at0 _ _, rfl, _, rfl, ite2 (fun c => absurd c (by decide +kernel)) (fun _ => ?_)⟩
    refine ⟨_, rfl, p, _, _, _, rfl, rfl, SqT.of B', at0 _ _, rfl, _, rfl, ite2 (fun c => absurd c (by decide +kernel)) (fun _ => ⟨_, rfl, p, _, _, _, rfl, rfl, SqT.of B', at0 _ _, rfl, _, rfl, ite2 (fun c => absurd c (by decide +kernel)) (fun _ => ?_)⟩)⟩
    refine ⟨(by show 0 ≤ sizeLine; decide), fun g hg => ?_⟩
    have sg := same_new hg (.lst [])
    have dg := D.dne hg
    have hgx : g ≠ x := fun e => by rw [e, hx] at hg; cases hg
    refine ⟨_, rfl, d, l, _, rfl, D.same sg, by decide, by decide, fun r0 H1 r00 r01 D1 O1 => ?_⟩
    have T1 := (Tups.of_same sg).trans (Tups.of_oth (D.same sg) O1)
    have hx1 := O1 _ _ (sg _ _ hx) hxd hxl
    have hg1 := O1 _ _ upd_same dg.1 dg.2
    have O01 : OthX d l x H H1 := (Oth.of_same sg).x.trans O1.x
    refine ⟨_, rfl, p, _, _, _, rfl, rfl, SqT.of (T1 _ _ B'), at0 _ _, rfl, .inr ⟨_, rfl, ?_⟩⟩
    rw [show (decide (V.str "pay" = V.str "often")) = false by decide +kernel]
    refine ⟨_, _, rfl, rfl, .inl ⟨by omega, by omega⟩, _, rfl, (by show -(2 ^ 62) ≤ r0 * 0; omega), (by show r0 * 0 < 2 ^ 62; omega), ?_⟩
    refine for_range (lo := 0) (n := (r0 * 0).toNat) (fun i σ H' => ∃ v6, σ = [some (.ref d), some (.ref p), some (.ref x), none, none, some (.ref g), v6] ∧ H1 = H') ⟨none, rfl, rfl⟩ (fun i σ H' hi => absurd hi (by rw [Int.mul_zero]; exact Nat.not_lt_zero _)) ?_
    rintro σ H' ⟨v6, rfl, rfl⟩
    refine ⟨_, rfl, g, _, rfl, .inl ⟨SqL.of hg1, fun r hr' => ?_⟩⟩
    have sr := same_new hr' (.tup [])
    exact k (.ref r) mm _ (Alk.nil upd_same upd_same) (D1.same sr) (sr _ _ hx1) (O01.trans (Oth.of_same sr).x)
  | put z m =>
    have BB := B
    have B' : H p = some (.tup [.str "put", .str z, .int m]) := B
    refine ⟨_, rfl, p, _, _, _, rfl, rfl, SqT.of (B'), at0 _ _, rfl, _, rfl, ite2 (fun c => absurd c (by decide +kernel)) (fun _ => ?_)⟩
    refine ⟨_, rfl, p, _, _, _, rfl, rfl, SqT.of B', at0 _ _, rfl, _, rfl, ite2 (fun c => absurd c (by decide +kernel)) (fun _ => ⟨_, rfl, p, _, _, _, rfl, rfl, SqT.of B', at0 _ _, rfl, _, rfl, ite2 (fun c => absurd c (by decide +kernel)) (fun _ => ?_)⟩)⟩
    refine ⟨(by show 0 ≤ sizeLine; decide), fun g hg => ?_⟩
    have sg := same_new hg (.lst [])
    have dg := D.dne hg
    have hgx : g ≠ x := fun e => by rw [e, hx] at hg; cases hg
    refine ⟨_, rfl, d, l, _, rfl, D.same sg, by decide, by decide, fun r0 H1 r00 r01 D1 O1 => ?_⟩
    have T1 := (Tups.of_same sg).trans (Tups.of_oth (D.same sg) O1)
    have hx1 := O1 _ _ (sg _ _ hx) hxd hxl
    have hg1 := O1 _ _ upd_same dg.1 dg.2
    have O01 : OthX d l x H H1 := (Oth.of_same sg).x.trans O1.x
    refine ⟨_, rfl, p, _, _, _, rfl, rfl, SqT.of (T1 _ _ B'), at0 _ _, rfl, .inr ⟨_, rfl, ?_⟩⟩
    rw [show (decide (V.str "put" = V.str "often")) = false by decide +kernel]
    refine ⟨_, _, rfl, rfl, .inl ⟨by omega, by omega⟩, _, rfl, (by show -(2 ^ 62) ≤ r0 * 0; omega), (by show r0 * 0 < 2 ^ 62; omega), ?_⟩
    refine for_range (lo := 0) (n := (r0 * 0).toNat) (fun i σ H' => ∃ v6, σ = [some (.ref d), some (.ref p), some (.ref x), none, none, some (.ref g), v6] ∧ H1 = H') ⟨none, rfl, rfl⟩ (fun i σ H' hi => absurd hi (by rw [Int.mul_zero]; exact Nat.not_lt_zero _)) ?_
    rintro σ H' ⟨v6, rfl, rfl⟩
    refine ⟨_, rfl, g, _, rfl, .inl ⟨SqL.of hg1, fun r hr' => ?_⟩⟩
    have sr := same_new hr' (.tup [])
    exact k (.ref r) mm _ (Alk.nil upd_same upd_same) (D1.same sr) (sr _ _ hx1) (O01.trans (Oth.of_same sr).x)
  | use z =>
    have BB := B
    have B' : H p = some (.tup [.str "use", .str z]) := B
    refine ⟨_, rfl, p, _, _, _, rfl, rfl, SqT.of (B'), at0 _ _, rfl, _, rfl, ite2 (fun c => absurd c (by decide +kernel)) (fun _ => ?_)⟩
    refine ⟨_, rfl, p, _, _, _, rfl, rfl, SqT.of B', at0 _ _, rfl, _, rfl, ite2 (fun c => absurd c (by decide +kernel)) (fun _ => ⟨_, rfl, p, _, _, _, rfl, rfl, SqT.of B', at0 _ _, rfl, _, rfl, ite2 (fun c => absurd c (by decide +kernel)) (fun _ => ?_)⟩)⟩
    refine ⟨(by show 0 ≤ sizeLine; decide), fun g hg => ?_⟩
    have sg := same_new hg (.lst [])
    have dg := D.dne hg
    have hgx : g ≠ x := fun e => by rw [e, hx] at hg; cases hg
    refine ⟨_, rfl, d, l, _, rfl, D.same sg, by decide, by decide, fun r0 H1 r00 r01 D1 O1 => ?_⟩
    have T1 := (Tups.of_same sg).trans (Tups.of_oth (D.same sg) O1)
    have hx1 := O1 _ _ (sg _ _ hx) hxd hxl
    have hg1 := O1 _ _ upd_same dg.1 dg.2
    have O01 : OthX d l x H H1 := (Oth.of_same sg).x.trans O1.x
    refine ⟨_, rfl, p, _, _, _, rfl, rfl, SqT.of (T1 _ _ B'), at0 _ _, rfl, .inr ⟨_, rfl, ?_⟩⟩
    rw [show (decide (V.str "use" = V.str "often")) = false by decide +kernel]
    refine ⟨_, _, rfl, rfl, .inl ⟨by omega, by omega⟩, _, rfl, (by show -(2 ^ 62) ≤ r0 * 0; omega), (by show r0 * 0 < 2 ^ 62; omega), ?_⟩
    refine for_range (lo := 0) (n := (r0 * 0).toNat) (fun i σ H' => ∃ v6, σ = [some (.ref d), some (.ref p), some (.ref x), none, none, some (.ref g), v6] ∧ H1 = H') ⟨none, rfl, rfl⟩ (fun i σ H' hi => absurd hi (by rw [Int.mul_zero]; exact Nat.not_lt_zero _)) ?_
    rintro σ H' ⟨v6, rfl, rfl⟩
    refine ⟨_, rfl, g, _, rfl, .inl ⟨SqL.of hg1, fun r hr' => ?_⟩⟩
    have sr := same_new hr' (.tup [])
    exact k (.ref r) mm _ (Alk.nil upd_same upd_same) (D1.same sr) (sr _ _ hx1) (O01.trans (Oth.of_same sr).x)
  | oft a =>
    have BB := B
    obtain ⟨q1, B', Ba⟩ := B
    have dp' : a.dep + 1 < n + 1 := dp
    refine ⟨_, rfl, p, _, _, _, rfl, rfl, SqT.of (B'), at0 _ _, rfl, _, rfl, ite2 (fun c => absurd c (by decide +kernel)) (fun _ => ?_)⟩
    refine ⟨_, rfl, p, _, _, _, rfl, rfl, SqT.of B', at0 _ _, rfl, _, rfl, ite2 (fun c => absurd c (by decide +kernel)) (fun _ => ⟨_, rfl, p, _, _, _, rfl, rfl, SqT.of B', at0 _ _, rfl, _, rfl, ite2 (fun c => absurd c (by decide +kernel)) (fun _ => ?_)⟩)⟩
    refine ⟨(by show 0 ≤ sizeLine; decide), fun g hg => ?_⟩
    have sg := same_new hg (.lst [])
    have dg := D.dne hg
    have hgx : g ≠ x := fun e => by rw [e, hx] at hg; cases hg
    refine ⟨_, rfl, d, l, _, rfl, D.same sg, by decide, by decide, fun r0 H1 r00 r01 D1 O1 => ?_⟩
    have T1 := (Tups.of_same sg).trans (Tups.of_oth (D.same sg) O1)
    have hx1 := O1 _ _ (sg _ _ hx) hxd hxl
    have hg1 := O1 _ _ upd_same dg.1 dg.2
    have O01 : OthX d l x H H1 := (Oth.of_same sg).x.trans O1.x
    refine ⟨_, rfl, p, _, _, _, rfl, rfl, SqT.of (T1 _ _ B'), at0 _ _, rfl, .inr ⟨_, rfl, ?_⟩⟩
    rw [show (decide (V.str "often" = V.str "often")) = true by decide +kernel]
    refine ⟨_, _, rfl, rfl, .inl ⟨by omega, by omega⟩, _, rfl, (by show -(2 ^ 62) ≤ r0 * 1; omega), (by show r0 * 1 < 2 ^ 62; omega), ?_⟩
    refine for_range (lo := 0) (n := (r0 * 1).toNat) (fun i σ H' => ∃ v6 vs mm', σ = [some (.ref d), some (.ref p), some (.ref x), none, none, some (.ref g), v6] ∧ Deal H' d l ∧ H' g = some (.lst vs) ∧ H' x = some (.lst [.int mm']) ∧ vs.length ≤ i ∧ (∀ v ∈ vs, Alk H' (2 * a.dep + 2) v v) ∧ OthX d l x H H')
      ⟨none, [], mm, rfl, D1, hg1, hx1, Nat.le_refl _, by simp, O01⟩ ?_ ?_
    · rintro i σ H' hi ⟨v6, vs, mm', rfl, D', hg', hx', hl', hv', O'⟩
      have T' := Tups.of_othX D hx O'
      refine ⟨_, rfl, x, _, _, _, rfl, rfl, SqL.of hx', at0 _ _, _, _, rfl, rfl, _, rfl, ite2 (fun _ => ?_) (fun _ => ⟨_, vs, mm', rfl, D', hg', hx', by omega, hv', O'⟩)⟩
      refine ⟨_, rfl, x, _, _, _, rfl, rfl, SqL.of hx', at0 _ _, _, _, rfl, rfl, _, rfl, x, _, _, 0, rfl, rfl, hx', rfl, ?_⟩
      have D2 := D'.upd (o := .lst [.int (mm' - 1)]) hxd hxl
      have T2 : Tups H' (upd H' x (.lst [.int (mm' - 1)])) := Tups.upd hx'
      have hg2 : (upd H' x (.lst [.int (mm' - 1)])) g = some (.lst vs) := by rw [upd_ne hgx]; exact hg'
      refine ⟨_, rfl, .inl ⟨rfl, _, SqL.of hg2⟩, _, rfl, d, l, _, rfl, D2, by decide, by decide, fun r2 H3 r20 r21 D3 O3 => ⟨_, _, rfl, rfl, ?_⟩⟩
      have T3 := T2.trans (Tups.of_oth D2 O3)
      have hx3 := O3 _ _ upd_same hxd hxl
      have hg3 := O3 _ _ hg2 dg.1 dg.2
      refine ⟨_, rfl, _, rfl, p, _, _, _, rfl, rfl, SqT.of (T3 _ _ (T' _ _ B')), rfl, _, rfl, d, l, q1, x, a, mm' - 1, rfl, D3, Ba.mono (T'.trans T3), by omega, hx3, hxl, fun v4 mm4 H4 A4 D4 hx4 O4 => ⟨(by show 2 ≤ sizeLine; decide), fun q5 hq5 => ?_⟩⟩
      have T4 := T3.trans (Tups.of_othX D3 hx3 O4)
      have s5 := same_new hq5 (.tup [.int (1 + r2), v4])
      have hg5 := s5 _ _ (O4 _ _ hg3 dg.1 dg.2 hgx)
      have T6 := Tups.upd (o := .lst (vs ++ [.ref q5])) hg5
      refine ⟨g, _, _, rfl, rfl, hg5, Nat.lt_of_lt_of_le (show vs.length < 1000 by omega) (by decide), ?_⟩
      refine ⟨_, vs ++ [.ref q5], mm4, rfl, (D4.same s5).upd dg.1 dg.2, upd_same, (by rw [upd_ne (Ne.symm hgx)]; exact s5 _ _ hx4), (by rw [List.length_append]; show vs.length + 1 ≤ i + 1; omega), fun v hv => ?_, fun b o e h1 h2 h3 => ?_⟩
      · rcases List.mem_append.mp hv with h | h
        · exact Alk.mono (T4.trans ((Tups.of_same s5).trans T6)) (hv' v h)
        · simp only [List.mem_cons, List.not_mem_nil, or_false] at h
          subst h
          have h5 := T6 _ _ (show (upd H4 q5 (.tup [.int (1 + r2), v4])) q5 = _ from upd_same)
          exact Alk.up (n := 2 * a.dep + 1 + 1) (by omega) (Alk.two h5 h5 (Alk.up (n := 1) (by omega) (Alk.int _)) (Alk.mono ((Tups.of_same s5).trans T6) A4))
      · have q1' := O' b o e h1 h2 h3
        have q2' : (upd H' x (.lst [.int (mm' - 1)])) b = some o := by rw [upd_ne h3]; exact q1'
        have q3' := s5 _ _ (O4 b o (O3 b o q2' h1 h2) h1 h2 h3)
        rw [upd_ne (ne_of_none e hg)]
        exact q3'
    · rintro σ H' ⟨v6, vs, mm', rfl, D', hg', hx', hl', hv', O'⟩
      refine ⟨_, rfl, g, _, rfl, .inl ⟨SqL.of hg', fun r hr' => ?_⟩⟩
      have sr := same_new hr' (.tup vs)
      exact k (.ref r) mm' _ (Alk.up (n := 2 * a.dep + 2 + 1) (by show _ ≤ 2 * (a.dep + 1) + 1; omega) (Alk.all upd_same (by omega) fun v hv => Alk.mono (Tups.of_same sr) (hv' v hv))) (D'.same sr) (sr _ _ hx') (O'.trans (Oth.of_same sr).x)
  | thn a b =>
    have BB := B
    obtain ⟨q1, q2, B', Ba, Bb⟩ := B
    have dp' : max a.dep b.dep + 1 < n + 1 := dp
    refine ⟨_, rfl, p, _, _, _, rfl, rfl, SqT.of (B'), at0 _ _, rfl, _, rfl, ite2 (fun _ => ?_) (fun c => absurd (by decide +kernel) c)⟩
    refine ⟨_, rfl, _, rfl, p, _, _, _, rfl, rfl, SqT.of B', rfl, _, rfl, d, l, q1, x, a, mm, rfl, D, Ba, by omega, hx, hxl, fun v1 mm1 H1 A1 D1 hx1 O1 => ?_⟩
    have T1 := Tups.of_othX D hx O1
    refine ⟨_, rfl, _, rfl, _, rfl, p, _, _, _, rfl, rfl, SqT.of (T1 _ _ B'), rfl, _, rfl, d, l, q2, x, b, mm1, rfl, D1, Bb.mono T1, by omega, hx1, hxl, fun v2 mm2 H2 A2 D2 hx2 O2 => ⟨(by show 2 ≤ sizeLine; decide), fun r hr' => ?_⟩⟩
    have T2 := Tups.of_othX D1 hx1 O2
    have sr := same_new hr' (.tup [v1, v2])
    refine k (.ref r) mm2 _ ?_ (D2.same sr) (sr _ _ hx2) (O1.trans (O2.trans (Oth.of_same sr).x))
    exact Alk.up (n := 2 * max a.dep b.dep + 2 + 1) (by show _ ≤ 2 * (max a.dep b.dep + 1) + 1; omega) (Alk.two upd_same upd_same (Alk.up (by omega) (Alk.mono (T2.trans (Tups.of_same sr)) A1)) (Alk.up (by omega) (Alk.mono (Tups.of_same sr) A2)))
  | eit a b =>
    have BB := B
    obtain ⟨q1, q2, B', Ba, Bb⟩ := B
    have dp' : max a.dep b.dep + 1 < n + 1 := dp
    refine ⟨_, rfl, p, _, _, _, rfl, rfl, SqT.of (B'), at0 _ _, rfl, _, rfl, ite2 (fun c => absurd c (by decide +kernel)) (fun _ => ?_)⟩
    refine ⟨_, rfl, p, _, _, _, rfl, rfl, SqT.of B', at0 _ _, rfl, _, rfl, ite2 (fun _ => iteT ?_) (fun c => absurd (by decide +kernel) c)⟩
    refine ⟨_, rfl, d, l, _, rfl, D, by decide, by decide, fun r0 H1 r00 r01 D1 O1 => ?_⟩
    have T1 := Tups.of_oth D O1
    have hx1 := O1 _ _ hx hxd hxl
    have fin : ∀ (q : Addr) (c : Bd) (v2 : V) (mm2 : Int) (H2 : Hp), c.dep ≤ max a.dep b.dep → Alk H2 (2 * c.dep + 1) v2 v2 → Deal H2 d l → H2 x = some (.lst [.int mm2]) → OthX d l x H1 H2 → ∀ r, H2 r = none → Q (.ref r) (upd H2 r (.tup [.int r0, v2])) := fun q c v2 mm2 H2 hc A2 D2 hx2 O2 r hr' => by
      have sr := same_new hr' (.tup [.int r0, v2])
      refine k (.ref r) mm2 _ ?_ (D2.same sr) (sr _ _ hx2) (O1.x.trans (O2.trans (Oth.of_same sr).x))
      exact Alk.up (n := 2 * max a.dep b.dep + 2 + 1) (by show _ ≤ 2 * (max a.dep b.dep + 1) + 1; omega) (Alk.two upd_same upd_same (Alk.up (n := 1) (by omega) (Alk.int r0)) (Alk.up (by omega) (Alk.mono (Tups.of_same sr) A2)))
    rcases (show r0 = 0 ∨ r0 = 1 by omega) with rfl | rfl
    · exact ⟨_, rfl, _, rfl, _, rfl, _, rfl, _, _, rfl, rfl, p, _, _, _, rfl, rfl, SqT.of (T1 _ _ B'), rfl, _, rfl, d, l, q1, x, a, mm, rfl, D1, Ba.mono T1, by omega, hx1, hxl, fun v2 mm2 H2 A2 D2 hx2 O2 => ⟨(by show 2 ≤ sizeLine; decide), fun r hr' => fin q1 a v2 mm2 H2 (by omega) A2 D2 hx2 O2 r hr'⟩⟩
    · exact ⟨_, rfl, _, rfl, _, rfl, _, rfl, _, _, rfl, rfl, p, _, _, _, rfl, rfl, SqT.of (T1 _ _ B'), rfl, _, rfl, d, l, q2, x, b, mm, rfl, D1, Bb.mono T1, by omega, hx1, hxl, fun v2 mm2 H2 A2 D2 hx2 O2 => ⟨(by show 2 ≤ sizeLine; decide), fun r hr' => fin q2 b v2 mm2 H2 (by omega) A2 D2 hx2 O2 r hr'⟩⟩
  | tak z m a b =>
    have BB := B
    obtain ⟨q1, q2, B', Ba, Bb⟩ := B
    have dp' : max a.dep b.dep + 1 < n + 1 := dp
    refine ⟨_, rfl, p, _, _, _, rfl, rfl, SqT.of (B'), at0 _ _, rfl, _, rfl, ite2 (fun c => absurd c (by decide +kernel)) (fun _ => ?_)⟩
    refine ⟨_, rfl, p, _, _, _, rfl, rfl, SqT.of B', at0 _ _, rfl, _, rfl, ite2 (fun c => absurd c (by decide +kernel)) (fun _ => ⟨_, rfl, p, _, _, _, rfl, rfl, SqT.of B', at0 _ _, rfl, _, rfl, ite2 (fun _ => ?_) (fun c => absurd (by decide +kernel) c)⟩)⟩
    refine ⟨_, rfl, d, l, _, rfl, D, by decide, by decide, fun r0 H1 r00 r01 D1 O1 => ?_⟩
    have T1 := Tups.of_oth D O1
    have hx1 := O1 _ _ hx hxd hxl
    have fin : ∀ (q : Addr) (c : Bd) (v2 : V) (mm2 : Int) (H2 : Hp), c.dep ≤ max a.dep b.dep → Alk H2 (2 * c.dep + 1) v2 v2 → Deal H2 d l → H2 x = some (.lst [.int mm2]) → OthX d l x H1 H2 → ∀ r, H2 r = none → Q (.ref r) (upd H2 r (.tup [.int r0, v2])) := fun q c v2 mm2 H2 hc A2 D2 hx2 O2 r hr' => by
      have sr := same_new hr' (.tup [.int r0, v2])
      refine k (.ref r) mm2 _ ?_ (D2.same sr) (sr _ _ hx2) (O1.x.trans (O2.trans (Oth.of_same sr).x))
      exact Alk.up (n := 2 * max a.dep b.dep + 2 + 1) (by show _ ≤ 2 * (max a.dep b.dep + 1) + 1; omega) (Alk.two upd_same upd_same (Alk.up (n := 1) (by omega) (Alk.int r0)) (Alk.up (by omega) (Alk.mono (Tups.of_same sr) A2)))
    rcases (show r0 = 0 ∨ r0 = 1 by omega) with rfl | rfl
    · exact ⟨_, rfl, _, rfl, _, rfl, _, rfl, _, _, rfl, rfl, p, _, _, _, rfl, rfl, SqT.of (T1 _ _ B'), rfl, _, rfl, d, l, q1, x, a, mm, rfl, D1, Ba.mono T1, by omega, hx1, hxl, fun v2 mm2 H2 A2 D2 hx2 O2 => ⟨(by show 2 ≤ sizeLine; decide), fun r hr' => fin q1 a v2 mm2 H2 (by omega) A2 D2 hx2 O2 r hr'⟩⟩
    · exact ⟨_, rfl, _, rfl, _, rfl, _, rfl, _, _, rfl, rfl, p, _, _, _, rfl, rfl, SqT.of (T1 _ _ B'), rfl, _, rfl, d, l, q2, x, b, mm, rfl, D1, Bb.mono T1, by omega, hx1, hxl, fun v2 mm2 H2 A2 D2 hx2 O2 => ⟨(by show 2 ≤ sizeLine; decide), fun r hr' => fin q2 b v2 mm2 H2 (by omega) A2 D2 hx2 O2 r hr'⟩⟩
theorem ok_trace (F : Fun K "_law_trace" "_law_trace" sTrace f fd) (b1 : Binds K fd PT3 []) (k1 : PySem.W.keepIn K (.ref f) = true) (m1 : mg "_law_trace" = some (.ref f))
    (G2 : FnOk P w K mg base CX0 1 f2 d2 ["_law_deal_here", "_law_many"] spDraw) (b2 : Binds K d2 ["_law_deal_here", "_law_many"] []) (k2 : PySem.W.keepIn K (.ref f2) = true) (m2 : mg "_law_draw" = some (.ref f2))
    (z1 : mg "range" = none) (z2 : mg "int" = none) (z3 : mg "tuple" = none) : ∀ n : Nat, FnOk P w K mg base CX0 (1 + n) f fd PT3 (spTrace n)
  | 0 => ⟨fun vs H Q E h => by obtain ⟨d, l, p, x, t, mm, rfl, _⟩ := h; rfl, fun _ _ _ _ _ _ _ _ _ _ _ _ _ h => by obtain ⟨d, l, p, x, t, mm, _, _, _, dp, _⟩ := h; exact absurd dp (Nat.not_lt_zero _)⟩
  | n + 1 => trace_step n F (ok_trace F b1 k1 m1 G2 b2 k2 m2 z1 z2 z3 n) b1 k1 m1 G2 b2 k2 m2 z1 z2 z3
end
end Q16

set_option Elab.async false
set_option linter.all false
set_option maxRecDepth 100000
set_option maxHeartbeats 4000000
namespace Q16
open PySem L2 Wd
theorem SqL.keep {K : PySem.W.Frag} {H H' : Hp} {a : Addr} {xs : List V} (h : SqL K H a xs) (s : Same H H') : SqL K H' a xs := by
  rcases h with (h | ⟨o, h⟩) | h
  · exact .inl (.inl (s _ _ h))
  · exact .inl (.inr ⟨o, s _ _ h⟩)
  · exact .inr h
def spMore : Sp := fun vs H Q _ => ∃ (d l p : Addr) (t : Bd) (dn : Nat), vs = [.ref d, .ref p, .int dn] ∧ Deal H d l ∧ BAt H t p ∧ dn ≤ 4 ∧
  ∀ (p' : Addr) (t' : Bd) (H' : Hp), t'.dep ≤ max t.dep 1 + dn → BAt H' t' p' → Deal H' d l → Oth d l H H' → Q (.ref p') H'
abbrev PM : List Str := ["_law_deal_here", "_law_body_here", "_law_down"]
section
variable {P : Program} {w : World} {K : PySem.W.Frag} {mg : Str → Option Value} {base : Heap} {f f1 f2 f3 f4 f5 f6 f7 f8 : Addr} {fd d1 d2 d3 d4 d5 d6 d7 d8 : FuncData}
theorem scMore : FnScope ["_law_deal_here", "_law_body_here", "_law_down", "_law_turn", "_law_spare", "_law_some"] PM (defScope sMore) := ⟨rfl, rfl, rfl, by decide +kernel, rfl, by decide +kernel, by decide +kernel⟩
theorem ok_more (F : Fun K "_law_more" "_law_more" sMore f fd) (G2 : FnOk P w K mg base CX0 1 f2 d2 ["_law_deal_here", "_law_many"] spDraw) (b2 : Binds K d2 ["_law_deal_here", "_law_many"] []) (k2 : PySem.W.keepIn K (.ref f2) = true) (m2 : mg "_law_draw" = some (.ref f2))
    (z1 : mg "range" = none) : FnOk P w K mg base CX0 2 f fd PM spMore := by
  refine F.ok scMore (fun vs H Q E h => ?_) (fun cdv A outer s H vs Q E hr h => ?_)
  · obtain ⟨d, l, p, t, dn, rfl, _⟩ := h
    rfl
  obtain ⟨d, l, p, t, dn, rfl, D, B, hdn, k⟩ := h
  have hr1 : Room 1 (A.deeper (PyProof.Rows.envOfC "_law_more" (defScope sMore) s.heap.objs.size f cdv)) := hr.mono (by omega)
  refine ⟨_, L2.QSs.ok (qss_cons (qs_for PassesOwn.never rfl (pi_range1 rfl z1 (pa_nm (pv 2) pa_nil)) (pg_name (i := 3) scMore.nd rfl (Or.inl rfl))
    (qss_cons (qs_set (i := 4) scMore.nd rfl (Or.inl rfl) (qe_tup (qa_cst qe_str (qa_tup (qe_tup (qa_cst qe_str qa_nil)) qa_nil))))
    (qss_cons (qs_set (i := 5) scMore.nd rfl (Or.inl rfl) (qe_lst (qa_tup (qe_tup (qa_cst qe_str (qa_nm (qe_any (pv 1)) qa_nil))) (qa_tup (qe_tup (qa_cst qe_str (qa_nm (qe_any (pv 1)) (qa_nm (qe_any (pv 4)) qa_nil)))) (qa_tup (qe_tup (qa_cst qe_str (qa_nm (qe_any (pv 4)) (qa_nm (qe_any (pv 1)) qa_nil)))) (qa_tup (qe_tup (qa_cst qe_str (qa_nm (qe_any (pv 4)) (qa_nm (qe_any (pv 1)) qa_nil)))) qa_nil))))))
    (qss_one (qs_any (ps_set (i := 1) scMore.nd rfl (Or.inl rfl) (pe_ix ix_list (pe_op op_cat (pv 5) (pe_lst (pa_tup (pe_tup (pa_cst pe_str (pa_nm (pv 1) (pa_nm (pv 4) pa_nil)))) pa_nil))) (pe_call G2 hr1 rfl m2 k2 b2 .nil pass0 (pa_nm (pv 0) (pa_cst pe_int pa_nil))) (fun _ _ => rfl))))))))
    (qss_one (qs_any (ps_ret (pv 1))))), ?_⟩
  refine ⟨_, rfl, _, rfl, by omega, by omega, ?_⟩
  refine for_range (lo := 0) (n := ((dn : Nat) : Int).toNat) (fun i σ H' => ∃ p' t' v3 v4 v5, σ = [some (.ref d), some (.ref p'), some (.int dn), v3, v4, v5] ∧ Deal H' d l ∧ BAt H' t' p' ∧ t'.dep ≤ max t.dep 1 + i ∧ Oth d l H H')
    ⟨p, t, none, none, none, rfl, D, B, by omega, Oth.refl d l H⟩ ?_ ?_
  · rintro i σ H0 hi ⟨p6, t6, v3, v4, v5, rfl, D0, B6, dp6, O0⟩
    refine ⟨(by show 1 ≤ sizeLine; decide), fun a1 ha1 => ⟨(by show 2 ≤ sizeLine; decide), fun pb hpb => ?_⟩⟩
    have x1 := same_new ha1 (.tup [.str "rest"])
    have x2 := same_new hpb (.tup [.str "often", .ref a1])
    have x12 := x1.trans x2
    have Bb : BAt _ (.oft .rest) pb := ⟨a1, upd_same, x2 _ _ upd_same⟩
    have B68 := B6.mono (Tups.of_same x12)
    refine ⟨_, rfl, (by show 2 ≤ sizeLine; decide), fun c1 hc1 => ⟨_, rfl, _, rfl, (by show 3 ≤ sizeLine; decide), fun c2 hc2 => ⟨_, rfl, _, rfl, (by show 3 ≤ sizeLine; decide), fun c3 hc3 => ⟨_, rfl, _, rfl, (by show 3 ≤ sizeLine; decide), fun c4 hc4 => ⟨(by show 4 ≤ sizeLine; decide), fun c5 hc5 => ?_⟩⟩⟩⟩⟩
    have y1 := same_new hc1 (.tup [.str "often", .ref p6])
    have y2 := same_new hc2 (.tup [.str "then", .ref p6, .ref pb])
    have y3 := same_new hc3 (.tup [.str "then", .ref pb, .ref p6])
    have y4 := same_new hc4 (.tup [.str "either", .ref pb, .ref p6])
    have y5 := same_new hc5 (.lst [.ref c1, .ref c2, .ref c3, .ref c4])
    have y45 := y4.trans y5
    have y35 := y3.trans y45
    have y25 := y2.trans y35
    have y15 := y1.trans y25
    refine ⟨_, rfl, _, rfl, _, rfl, (by show 3 ≤ sizeLine; decide), fun e1 he1 => ⟨(by show 1 ≤ sizeLine; decide), fun e2 he2 => ?_⟩⟩
    have w1 := same_new he1 (.tup [.str "either", .ref p6, .ref pb])
    have w2 := same_new he2 (.lst [.ref e1])
    refine ⟨c5, e2, [.ref c1, .ref c2, .ref c3, .ref c4], [.ref e1], rfl, rfl, w2 _ _ (w1 _ _ upd_same), upd_same, (by show 4 + 1 ≤ sizeLine; decide), fun e3 he3 => ?_⟩
    have w3 := same_new he3 (.lst ([V.ref c1, .ref c2, .ref c3, .ref c4] ++ [V.ref e1]))
    have w23 := w2.trans w3
    have w13 := w1.trans w23
    have s0 := x12.trans (y15.trans w13)
    have Dw := D0.same s0
    have dle := (D0.same (x12.trans (y15.trans (w1.trans w2)))).dne he3
    refine ⟨_, rfl, d, l, _, rfl, Dw, by decide, by decide, fun r9 H9 r90 r91 D9 O9 => ?_⟩
    have T9 := Tups.of_oth Dw O9
    obtain ⟨v, ev, mv⟩ := at_some (xs := [V.ref c1, .ref c2, .ref c3, .ref c4] ++ [V.ref e1]) r90 r91
    refine ⟨e3, _, _, _, rfl, rfl, SqL.of (O9 _ _ upd_same dle.1 dle.2), ev, ?_⟩
    have TY := (Tups.of_same (y15.trans w13)).trans T9
    have Bp := B68.mono TY
    have Bq := Bb.mono TY
    have fin : ∃ pz tz, v = .ref pz ∧ BAt H9 tz pz ∧ tz.dep ≤ max t.dep 1 + (i + 1) := by
      simp only [List.cons_append, List.nil_append, List.mem_cons, List.not_mem_nil, or_false] at mv
      rcases mv with rfl | rfl | rfl | rfl | rfl
      · exact ⟨c1, .oft t6, rfl, ⟨p6, T9 _ _ ((y25.trans w13) _ _ upd_same), Bp⟩, by show t6.dep + 1 ≤ _; omega⟩
      · exact ⟨c2, .thn t6 (.oft .rest), rfl, ⟨p6, pb, T9 _ _ ((y35.trans w13) _ _ upd_same), Bp, Bq⟩, by show max t6.dep 1 + 1 ≤ _; omega⟩
      · exact ⟨c3, .thn (.oft .rest) t6, rfl, ⟨pb, p6, T9 _ _ ((y45.trans w13) _ _ upd_same), Bq, Bp⟩, by show max 1 t6.dep + 1 ≤ _; omega⟩
      · exact ⟨c4, .eit (.oft .rest) t6, rfl, ⟨pb, p6, T9 _ _ ((y5.trans w13) _ _ upd_same), Bq, Bp⟩, by show max 1 t6.dep + 1 ≤ _; omega⟩
      · exact ⟨e1, .eit t6 (.oft .rest), rfl, ⟨p6, pb, T9 _ _ (w23 _ _ upd_same), Bp, Bq⟩, by show max t6.dep 1 + 1 ≤ _; omega⟩
    obtain ⟨pz, tz, rfl, Bz, dz⟩ := fin
    exact ⟨pz, tz, _, _, _, rfl, D9, Bz, dz, O0.trans ((Oth.of_same s0).trans O9)⟩
  · rintro σ H0 ⟨p6, t6, v3, v4, v5, rfl, D0, B6, dp6, O0⟩
    exact ⟨_, rfl, k p6 t6 H0 (by omega) B6 D0 O0⟩
def spRight : Sp := fun vs H Q _ => ∃ (d l p : Addr) (t : Bd), vs = [.ref d, .ref p] ∧ Deal H d l ∧ BAt H t p ∧ t.dep ≤ 5 ∧ t.parts.length ≤ 900 ∧ ∀ H', Deal H' d l → Oth d l H H' → Q (.bl true) H'
abbrev PG2 : List Str := ["_law_deal_here", "_law_body_here"]
theorem scRight : FnScope ["_law_deal_here", "_law_body_here", "_law_ways_here", "_law_number", "_law_way", "_law_one", "_law_goings", "_law_some"] PG2 (defScope sRight) := ⟨rfl, rfl, rfl, by decide +kernel, rfl, by decide +kernel, by decide +kernel⟩
theorem nd_tdo : (["_law_turn", "_law_deal_here", "_law_one"] : List Str).Nodup := by decide +kernel
theorem ok_right (F : Fun K "_law_right" "_law_right" sRight f fd)
    (G1 : FnOk P w K mg base CX0 (1 + 6) f1 d1 ["_law_body_here"] (spWays 6)) (b1 : Binds K d1 ["_law_body_here"] []) (k1 : PySem.W.keepIn K (.ref f1) = true) (m1 : mg "_law_ways" = some (.ref f1))
    (G2 : FnOk P w K mg base CX0 (1 + 22) f2 d2 PL (spAlike 22)) (b2 : Binds K d2 PL []) (k2 : PySem.W.keepIn K (.ref f2) = true) (m2 : mg "_law_alike" = some (.ref f2))
    (G3 : FnOk P w K mg base CX0 (1 + 6) f3 d3 ["body"] (spPlain 6)) (b3 : Binds K d3 ["body"] []) (k3 : PySem.W.keepIn K (.ref f3) = true) (m3 : mg "plain_trace" = some (.ref f3))
    (G4 : FnOk P w K mg base CX0 (1 + 6) f4 d4 ["_law_body_here"] (spPlain 6)) (b4 : Binds K d4 ["_law_body_here"] []) (k4 : PySem.W.keepIn K (.ref f4) = true) (m4 : mg "_law_plain" = some (.ref f4))
    (G5 : FnOk P w K mg base CX0 (1 + 6 + 2) f5 d5 ["body"] (spOftens 6)) (b5 : Binds K d5 ["body"] []) (k5 : PySem.W.keepIn K (.ref f5) = true) (m5 : mg "oftens" = some (.ref f5))
    (G6 : FnOk P w K mg base CX0 (1 + 6) f6 d6 PT3 (spTrace 6)) (b6 : Binds K d6 PT3 []) (k6 : PySem.W.keepIn K (.ref f6) = true) (m6 : mg "_law_trace" = some (.ref f6))
    (G7 : FnOk P w K mg base CX0 (3 + 6 + 1) f7 d7 ["body", "number", "goings"] (spLedTo 6)) (b7 : Binds K d7 ["body", "number", "goings"] []) (k7 : PySem.W.keepIn K (.ref f7) = true) (m7 : mg "led_to" = some (.ref f7))
    (G8 : FnOk P w K mg base CX0 (2 + 6) f8 d8 PD (spLed 6)) (b8 : Binds K d8 PD []) (k8 : PySem.W.keepIn K (.ref f8) = true) (m8 : mg "_law_led" = some (.ref f8))
    (z1 : mg "range" = none) (z3 : mg "len" = none) (z4 : mg "enumerate" = none) : FnOk P w K mg base CX0 24 f fd PG2 spRight := by
  refine F.ok scRight (fun vs H Q E h => ?_) (fun cdv A outer s H vs Q E hr h => ?_)
  · obtain ⟨d, l, p, t, rfl, _⟩ := h
    rfl
  obtain ⟨d, l, p, t, rfl, D, B, dp, hz, k⟩ := h
  have r7 : Room (1 + 6) (A.deeper (PyProof.Rows.envOfC "_law_right" (defScope sRight) s.heap.objs.size f cdv)) := hr.mono (by omega)
  have r9 : Room (1 + 6 + 2) (A.deeper (PyProof.Rows.envOfC "_law_right" (defScope sRight) s.heap.objs.size f cdv)) := hr.mono (by omega)
  have r10 : Room (3 + 6 + 1) (A.deeper (PyProof.Rows.envOfC "_law_right" (defScope sRight) s.heap.objs.size f cdv)) := hr.mono (by omega)
  have r8 : Room (2 + 6) (A.deeper (PyProof.Rows.envOfC "_law_right" (defScope sRight) s.heap.objs.size f cdv)) := hr.mono (by omega)
  refine ⟨_, L2.QSs.ok (qss_cons (qs_any (ps_set (i := 2) scRight.nd rfl (Or.inl rfl) (pe_call G1 r7 rfl m1 k1 b1 .nil pass0 (pa_nm (pv 1) pa_nil))))
    (qss_cons (qs_any (ps_if (PW.pt (pw_or (pt_not (pt_val (pe_call G2 hr rfl m2 k2 b2 .nil pass0 (pa_call (pe_call G3 r7 rfl m3 k3 b3 .nil pass0 (pa_nm (pv 1) pa_nil)) (pa_call (pe_call G4 r7 rfl m4 k4 b4 .nil pass0 (pa_nm (pv 1) pa_nil)) pa_nil))))) (pw_or1 (pt_not (pt_val (pe_call G2 hr rfl m2 k2 b2 .nil pass0 (pa_call (pe_call G5 r9 rfl m5 k5 b5 .nil pass0 (pa_nm (pv 1) pa_nil)) (pa_call (pe_callB call_len_seq rfl z3 PySem.boot_len (pa_nm (pv 2) pa_nil)) pa_nil)))))))) (pss_one (ps_ret pe_bl)) pss_nil))
    (qss_cons (qs_for PassesOwn.never rfl (pi_enum rfl z4 (by decide +kernel) (pa_nm (pv 2) pa_nil)) (pg_tup rfl (pgs_cons (pg_name (i := 3) scRight.nd rfl (Or.inl rfl)) (pgs_cons (pg_tup rfl (pgs_cons (pg_name (i := 4) scRight.nd rfl (Or.inl rfl)) (pgs_cons (pg_name (i := 5) scRight.nd rfl (Or.inr rfl)) pgs_nil))) pgs_nil)))
    (qss_cons (qs_any (ps_comp ["_law_one", "_law_deal_here"] 1 [0, 5] ["_law_turn", "_law_deal_here", "_law_one"] (i := 6) scRight.nd rfl rfl rfl rfl rfl (by decide +kernel) rfl (by decide +kernel) ⟨⟨_, rfl⟩, ⟨_, rfl⟩, trivial⟩ rfl rfl rfl ⟨⟨.inl rfl, .inl rfl, rfl⟩, ⟨.inl rfl, .inl rfl, rfl⟩, trivial⟩ (pi_range1 rfl z1 (pa_cst pe_int pa_nil)) (fun B => pg_name (i := 0) nd_tdo rfl (Or.inl rfl)) (fun B => pf_nil) (fun B => (pe_call G6 r7 rfl m6 k6 b6 .nil pass0 (pa_nm (pv 1) (pa_nm (pv 2) (pa_lst (pe_lst (pa_cst pe_int pa_nil)) pa_nil)))))))
    (qss_one (qs_any (ps_for PassesOwn.never rfl (pi_list (pe_op op_cat (pv 6) (pe_slice sl_list (pv 6) po_none (po_some pe_int)))) (pg_name (i := 7) scRight.nd rfl (Or.inl rfl)) (pss_one (ps_if (pt_not (pt_val (pe_call G2 hr rfl m2 k2 b2 .nil pass0 (pa_call (pe_call G7 r10 rfl m7 k7 b7 .nil pass0 (pa_nm (pv 1) (pa_nm (pv 3) (pa_nm (pv 7) pa_nil)))) (pa_call (pe_call G8 r8 rfl m8 k8 b8 .nil pass0 (pa_nm (pv 1) (pa_nm (pv 4) (pa_nm (pv 7) pa_nil)))) pa_nil))))) (pss_one (ps_ret pe_bl)) pss_nil)))))))
    (qss_one (qs_any (ps_ret (pe_call G2 hr rfl m2 k2 b2 .nil pass0 (pa_call (pe_call G3 r7 rfl m3 k3 b3 .nil pass0 (pa_nm (pv 1) pa_nil)) (pa_call (pe_call G4 r7 rfl m4 k4 b4 .nil pass0 (pa_nm (pv 1) pa_nil)) pa_nil))))))))), ?_⟩
  obtain ⟨e1, e2, e3⟩ := ways_pl t
  refine ⟨_, rfl, p, t, rfl, B, by omega, by omega, fun r1 vs1 H1 rn s1 h1 W1 => ?_⟩
  have lw := W1.length
  have d1 := D.dne rn
  refine ⟨_, rfl, p, t, rfl, B.mono (Tups.of_same s1), by omega, fun ra Ha sa Pa => ⟨_, rfl, p, t, rfl, B.mono (Tups.of_same (s1.trans sa)), by omega, fun rb Hb sb Pb => ⟨_, _, rfl, Alk.up (by omega) ((Pa.mono (Tups.of_same sb)).alk Pb), fun Hc sc => ⟨_, rfl, iteF ?_⟩⟩⟩⟩
  have s1c := s1.trans (sa.trans (sb.trans sc))
  refine ⟨_, rfl, p, t, rfl, B.mono (Tups.of_same s1c), by omega, by omega, fun Hd sd => ⟨_, rfl, r1, _, rfl, .inl (SqL.of ((sa.trans (sb.trans (sc.trans sd))) _ _ h1)), _, _, rfl, (by rw [lw, e1]; exact Alk.int _), fun He se => ⟨_, rfl, iteF ?_⟩⟩⟩
  have s1e := s1c.trans (sd.trans se)
  have sae := sa.trans (sb.trans (sc.trans (sd.trans se)))
  have he1 := sae _ _ h1
  have We := W1.mono sae
  have De := D.same s1e
  refine ⟨_, rfl, r1, rfl, ⟨_, SqL.of he1⟩, ?_⟩
  refine for_enum (xs := vs1) (fun i σ H' => ∃ v3 v4 v5 v6 v7, σ = [some (.ref d), some (.ref p), some (.ref r1), v3, v4, v5, v6, v7] ∧ Deal H' d l ∧ Oth d l He H') ⟨none, none, none, none, none, rfl, De, Oth.refl d l He⟩ (fun i σ H' hi ⟨_, _, _, _, _, _, _, O'⟩ => SqL.of (O' _ _ he1 d1.1 d1.2)) ?_ ?_
  · rintro i x p2 σ H' hx ⟨v3, v4, v5, v6, v7, rfl, D', O'⟩ hn2
    obtain ⟨x', q, lw', bo, hw, rfl, hln, hq, hlw, hbo⟩ := We.get hx
    have hi : i < t.ways.length := by
      rcases Nat.lt_or_ge i t.ways.length with c | c
      · exact c
      · rw [List.getElem?_eq_none c] at hw; cases hw
    have hm : t.pl[i]? = some t.pl[i] := List.getElem?_eq_getElem (by omega)
    obtain ⟨hL, ⟨ao, hao⟩, hod⟩ := e3 i x' _ hw hm
    have s2 := same_new hn2 (.tup [.int (i : Nat), .ref q])
    have T' := (Tups.of_oth De O').trans (Tups.of_same s2)
    have nl := D.dne hln
    refine ⟨p2, _, rfl, SqT.of upd_same, rfl, _, _, rfl, _, _, rfl, q, _, rfl, SqT.of (T' _ _ hq), rfl, _, _, rfl, _, _, rfl, rfl, rfl, ?_⟩
    have D2 := D'.same s2
    refine ⟨2, rfl, by decide, by decide, comp_range (lo := 0) (n := 2) (fun j ys H3 => ys.length = j ∧ (∀ v ∈ ys, Alk H3 11 v v) ∧ Deal H3 d l ∧ Oth d l (upd H' p2 (.tup [.int (i : Nat), .ref q])) H3) ⟨rfl, by simp, D2, Oth.refl d l _⟩ (fun j ys H3 hj ⟨e, _⟩ => by rw [e]; exact small (by omega)) ?_ ?_⟩
    · rintro j ys H3 hj ⟨ly, hy, D3, O3⟩
      refine ⟨rfl, _, rfl, _, rfl, (by show 1 ≤ sizeLine; decide), fun x4 hx4 => ?_⟩
      have s4 := same_new hx4 (.lst [.int 4])
      have n4 := D3.dne hx4
      have T3 := T'.trans ((Tups.of_oth D2 O3).trans (Tups.of_same s4))
      refine ⟨d, l, bo, x4, x'.2, 4, rfl, D3.same s4, hbo.mono T3, by omega, upd_same, n4.2, fun v mm H5 A5 D5 hx5 O5 => ?_⟩
      have O35 : Oth d l H3 H5 := fun b o e h1 h2 => O5 b o (s4 _ _ e) h1 h2 (ne_of_none e hx4)
      refine ⟨by rw [List.length_append, ly]; rfl, fun u hu => ?_, D5, O3.trans O35⟩
      rcases List.mem_append.mp hu with h | h
      · exact Alk.mono (Tups.of_oth D3 O35) (hy u h)
      · simp only [List.mem_cons, List.not_mem_nil, or_false] at h
        subst h
        exact Alk.up (by omega) A5
    · rintro ys H3 ⟨ly, hy, D3, O3⟩ gg hgg
      have sg := same_new hgg (.lst ys)
      refine ⟨_, rfl, _, rfl, _, rfl, gg, _, rfl, SqL.of upd_same, fun q5 hq5 => ?_⟩
      have s5 := same_new hq5 (.lst (cutV ys none (some 1)))
      have lc := cutV_length ys none (some 1)
      refine ⟨gg, q5, ys, _, rfl, rfl, s5 _ _ upd_same, upd_same, small (by omega), fun q6 hq6 => ?_⟩
      have s6 := same_new hq6 (.lst (ys ++ cutV ys none (some 1)))
      have sg6 := sg.trans (s5.trans s6)
      have D6 := D3.same sg6
      have T6 := T'.trans ((Tups.of_oth D2 O3).trans (Tups.of_same sg6))
      have all6 : ∀ v ∈ ys ++ cutV ys none (some 1), Alk (upd (upd (upd H3 gg (.lst ys)) q5 (.lst (cutV ys none (some 1)))) q6 (.lst (ys ++ cutV ys none (some 1)))) 11 v v := fun v hv => by
        refine Alk.mono (Tups.of_same sg6) (hy v ?_)
        rcases List.mem_append.mp hv with h | h
        · exact h
        · exact List.mem_of_mem_drop (List.mem_of_mem_take h)
      have hlw6 := sg6 _ _ (O3 _ _ (s2 _ _ (O' _ _ hlw nl.1 nl.2)) nl.1 nl.2)
      refine ⟨q6, rfl, ⟨_, SqL.of upd_same⟩, ?_⟩
      refine for_list (xs := ys ++ cutV ys none (some 1)) (fun j σ H7 => ∃ v7, σ = [some (.ref d), some (.ref p), some (.ref r1), some (.int (i : Nat)), some (.ref lw'), some (.ref bo), some (.ref gg), v7] ∧ Same (upd (upd (upd H3 gg (.lst ys)) q5 (.lst (cutV ys none (some 1)))) q6 (.lst (ys ++ cutV ys none (some 1)))) H7) ⟨_, rfl, Same.refl _⟩ (fun j σ H7 hj ⟨_, _, s7⟩ => SqL.of (s7 _ _ upd_same)) ?_ ?_
      · rintro j v σ H7 hv ⟨v7, rfl, s7⟩
        have B7 := (B.mono (Tups.of_same s1e)).mono (T6.trans (Tups.of_same s7))
        have A7 := Alk.mono (Tups.of_same s7) (all6 v (List.mem_of_getElem? hv))
        refine ⟨_, rfl, _, rfl, _, rfl, p, t, i, x'.1, _, v, rfl, B7, hm, hL, by omega, by omega, fun u1 H8 s8 L8 => ?_⟩
        refine ⟨_, rfl, _, rfl, _, rfl, p, lw', t, x'.1, _, v, rfl, B7.mono (Tups.of_same s8), s8 _ _ (s7 _ _ hlw6), hL, by omega, fun u2 H9 s9 L9 => ?_⟩
        have al := LedAt.alk (Alk.mono (Tups.of_same (s8.trans s9)) A7) (L8.mono (Tups.of_same s9)) L9
        exact ⟨_, _, rfl, Alk.up (by omega) al, fun H10 s10 => ⟨_, rfl, iteF ⟨_, rfl, s7.trans (s8.trans (s9.trans s10))⟩⟩⟩
      · rintro σ H7 ⟨v7, rfl, s7⟩
        exact ⟨_, _, _, _, _, rfl, D6.same s7, O'.trans ((Oth.of_same s2).trans (O3.trans (Oth.of_same (sg6.trans s7))))⟩
  · rintro σ H' ⟨v3, v4, v5, v6, v7, rfl, D', O'⟩
    have B' := (B.mono (Tups.of_same s1e)).mono (Tups.of_oth De O')
    refine ⟨_, rfl, p, t, rfl, B', by omega, fun ra Ha' sa' Pa' => ⟨_, rfl, p, t, rfl, B'.mono (Tups.of_same sa'), by omega, fun rb Hb' sb' Pb' => ⟨_, _, rfl, Alk.up (by omega) ((Pa'.mono (Tups.of_same sb')).alk Pb'), fun Hc' sc' => ?_⟩⟩⟩
    have s' := sa'.trans (sb'.trans sc')
    exact k Hc' (D'.same s') ((Oth.of_same s1e).trans (O'.trans (Oth.of_same s')))
end
end Q16

set_option Elab.async false
set_option linter.all false
set_option maxRecDepth 100000
set_option maxHeartbeats 4000000
namespace Q16
open PySem L2 Wd
theorem cut_str (ns : List Str) (lo hi : Option Int) : ∃ js : List Str, cutV (ns.map V.str) lo hi = js.map V.str ∧ js.length ≤ ns.length := by
  refine ⟨(ns.drop (HT.sIx (ns.map V.str).length 0 lo)).take (HT.sIx (ns.map V.str).length (ns.map V.str).length hi - HT.sIx (ns.map V.str).length 0 lo), ?_, ?_⟩
  · unfold cutV
    rw [List.map_take, List.map_drop]
  · rw [List.length_take, List.length_drop]
    omega
theorem cut_tail {ns : List Str} (h : ns.length = 8) : cutV (ns.map V.str) (some 4) none = (ns.drop 4).map V.str := by
  unfold cutV
  rw [List.length_map, h, show HT.sIx 8 0 (some 4) = 4 from rfl, show HT.sIx 8 8 none = 8 from rfl, List.take_of_length_le (by rw [List.length_drop, List.length_map, h]; exact Nat.le_refl _), List.map_drop]
theorem BsAt.drop {H : Hp} {ts : List Bd} {vs : List V} (h : BsAt H ts vs) : ∀ n : Nat, BsAt H (ts.drop n) (vs.drop n) := by
  induction h with
  | nil => intro n; simp; exact .nil
  | cons h t ih =>
    intro n
    cases n with
    | zero => exact .cons h t
    | succ n => exact ih n
theorem BsAt.take {H : Hp} {ts : List Bd} {vs : List V} (h : BsAt H ts vs) : ∀ n : Nat, BsAt H (ts.take n) (vs.take n) := by
  induction h with
  | nil => intro n; simp; exact .nil
  | cons h t ih =>
    intro n
    cases n with
    | zero => exact .nil
    | succ n => exact .cons h (ih n)
theorem BsAt.cut {H : Hp} {ts : List Bd} {vs : List V} (h : BsAt H ts vs) (lo hi : Option Int) : ∃ us, BsAt H us (cutV vs lo hi) ∧ ∀ t ∈ us, t ∈ ts :=
  ⟨_, (h.drop _).take _, fun t ht => List.mem_of_mem_drop (List.mem_of_mem_take ht)⟩
theorem Bd.parts_le : ∀ t : Bd, t.parts.length + 1 ≤ 2 ^ (t.dep + 1) := by
  have two : ∀ a b x y : Nat, x + 1 ≤ 2 ^ (a + 1) → y + 1 ≤ 2 ^ (b + 1) → x + y + 1 + 1 ≤ 2 ^ (max a b + 1 + 1) := by
    intro a b x y h1 h2
    have q1 : 2 ^ (a + 1) ≤ 2 ^ (max a b + 1) := Nat.pow_le_pow_right (by decide) (by omega)
    have q2 : 2 ^ (b + 1) ≤ 2 ^ (max a b + 1) := Nat.pow_le_pow_right (by decide) (by omega)
    have e : 2 ^ (max a b + 1 + 1) = 2 ^ (max a b + 1) * 2 := Nat.pow_succ ..
    omega
  intro t
  induction t with
  | rest => decide
  | pay t b => show 1 + 1 ≤ 2 ^ 1; decide
  | put z n => show 1 + 1 ≤ 2 ^ 1; decide
  | use z => show 1 + 1 ≤ 2 ^ 1; decide
  | thn a b iha ihb => show (a.parts ++ b.parts).length + 1 + 1 ≤ 2 ^ (max a.dep b.dep + 1 + 1); rw [List.length_append]; exact two _ _ _ _ iha ihb
  | eit a b iha ihb => show (a.parts ++ b.parts).length + 1 + 1 ≤ 2 ^ (max a.dep b.dep + 1 + 1); rw [List.length_append]; exact two _ _ _ _ iha ihb
  | tak z n a b iha ihb => show (a.parts ++ b.parts).length + 1 + 1 ≤ 2 ^ (max a.dep b.dep + 1 + 1); rw [List.length_append]; exact two _ _ _ _ iha ihb
  | oft a iha =>
    show a.parts.length + 1 + 1 ≤ 2 ^ (a.dep + 1 + 1)
    have e : 2 ^ (a.dep + 1 + 1) = 2 ^ (a.dep + 1) * 2 := Nat.pow_succ ..
    omega
def spBodyA : Sp := fun vs H Q E => ∃ n : Nat, n ≤ 5 ∧ spBody n vs H Q E
section
variable {P : Program} {w : World} {K : PySem.W.Frag} {mg : Str → Option Value} {base : Heap} {f f1 f2 f3 f4 f5 f6 f7 f8 f9 fa : Addr} {fd d1 d2 d3 d4 d5 d6 d7 d8 d9 da : FuncData}
theorem ok_bodyA (G : ∀ n : Nat, FnOk P w K mg base CX0 (3 + n + 1) f fd PB (spBody n)) : FnOk P w K mg base CX0 (3 + 5 + 1) f fd PB spBodyA :=
  ⟨fun vs H Q E ⟨n, _, h⟩ => (G n).len vs H Q E h, fun A outer s H args us vs Q E hr e0 hb rv ⟨n, hn, h⟩ => (G n).run A outer s H args us vs Q E (hr.mono (by omega)) e0 hb rv h⟩
abbrev NL : List Str := ["_law_script", "_law_deal_here", "_law_bodies", "_law_k", "_law_words_here", "_law_down", "_law_body_here"]
theorem scLaw : FnScope NL ["_law_script"] (defScope sLaw) := ⟨rfl, rfl, rfl, by decide +kernel, rfl, by decide +kernel, by decide +kernel⟩
theorem ok_law (F : Fun K "law" "law" sLaw f fd)
    (G1 : FnOk P w K mg base CX0 (1) f1 d1 ["_law_script", "_law_base"] (spDeal K)) (b1 : Binds K d1 ["_law_script", "_law_base"] []) (k1 : PySem.W.keepIn K (.ref f1) = true) (m1 : mg "_law_deal" = some (.ref f1))
    (G2 : FnOk P w K mg base CX0 (2) f2 d2 ["_law_deal_here", "_law_many"] (spWords)) (b2 : Binds K d2 ["_law_deal_here", "_law_many"] []) (k2 : PySem.W.keepIn K (.ref f2) = true) (m2 : mg "_law_words" = some (.ref f2))
    (G3 : FnOk P w K mg base CX0 (1) f3 d3 ["_law_deal_here", "_law_many"] (spDraw)) (b3 : Binds K d3 ["_law_deal_here", "_law_many"] []) (k3 : PySem.W.keepIn K (.ref f3) = true) (m3 : mg "_law_draw" = some (.ref f3))
    (G4 : FnOk P w K mg base CX0 (3 + 5 + 1) f4 d4 PB (spBodyA)) (b4 : Binds K d4 PB []) (k4 : PySem.W.keepIn K (.ref f4) = true) (m4 : mg "_law_body" = some (.ref f4))
    (G5 : FnOk P w K mg base CX0 (1 + 6) f5 d5 PU (spUsed 6)) (b5 : Binds K d5 PU []) (k5 : PySem.W.keepIn K (.ref f5) = true) (m5 : mg "_law_used" = some (.ref f5))
    (G6 : FnOk P w K mg base CX0 (2) f6 d6 PM (spMore)) (b6 : Binds K d6 PM []) (k6 : PySem.W.keepIn K (.ref f6) = true) (m6 : mg "_law_more" = some (.ref f6))
    (G7 : FnOk P w K mg base CX0 (24) f7 d7 PG2 (spRight)) (b7 : Binds K d7 PG2 []) (k7 : PySem.W.keepIn K (.ref f7) = true) (m7 : mg "_law_right" = some (.ref f7))
    (G8 : FnOk P w K mg base CX0 (1 + 22) f8 d8 PL (spAlike 22)) (b8 : Binds K d8 PL []) (k8 : PySem.W.keepIn K (.ref f8) = true) (m8 : mg "_law_alike" = some (.ref f8))
    (G9 : FnOk P w K mg base CX0 (1 + 6) f9 d9 ["body"] (spPlain 6)) (b9 : Binds K d9 ["body"] []) (k9 : PySem.W.keepIn K (.ref f9) = true) (m9 : mg "plain_trace" = some (.ref f9))
    (Ga : FnOk P w K mg base CX0 (1 + 6) fa da ["_law_body_here"] (spPlain 6)) (ba : Binds K da ["_law_body_here"] []) (ka : PySem.W.keepIn K (.ref fa) = true) (ma : mg "_law_plain" = some (.ref fa))
    (z1 : mg "range" = none) (z2 : mg "tuple" = none) (z3 : mg "len" = none) : FnOk P w K mg base CX0 25 f fd ["_law_script"] (spLaw K) := by
  refine F.ok scLaw (fun vs H Q E h => ?_) (fun cdv A outer s H vs Q E hr h => ?_)
  · obtain ⟨a, ns, rfl, _⟩ := h
    rfl
  obtain ⟨a, ns, rfl, hS, h63, k⟩ := h
  have h1 : Room 1 (A.deeper (PyProof.Rows.envOfC "law" (defScope sLaw) s.heap.objs.size f cdv)) := hr.mono (by omega)
  have h2 : Room 2 (A.deeper (PyProof.Rows.envOfC "law" (defScope sLaw) s.heap.objs.size f cdv)) := hr.mono (by omega)
  have h9 : Room (3 + 5 + 1) (A.deeper (PyProof.Rows.envOfC "law" (defScope sLaw) s.heap.objs.size f cdv)) := hr.mono (by omega)
  have h7 : Room (1 + 6) (A.deeper (PyProof.Rows.envOfC "law" (defScope sLaw) s.heap.objs.size f cdv)) := hr.mono (by omega)
  have h23 : Room (1 + 22) (A.deeper (PyProof.Rows.envOfC "law" (defScope sLaw) s.heap.objs.size f cdv)) := hr.mono (by omega)
  refine ⟨_, L2.QSs.ok (qss_cons (qs_any (ps_set (i := 1) scLaw.nd rfl (Or.inl rfl) (pe_call G1 h1 rfl m1 k1 b1 .nil pass0 (pa_nm (pv 0) (pa_cst pe_int pa_nil)))))
    (qss_cons (qs_any (ps_set (i := 2) scLaw.nd rfl (Or.inl rfl) (pe_lst pa_nil)))
    (qss_cons (qs_for PassesOwn.never rfl (pi_range1 rfl z1 (pa_bin (pe_op op_add pe_int (pe_callB call_len_seq rfl z3 PySem.boot_len (pa_sub (pe_slice sl_list (pv 0) (po_some pe_int) (po_some pe_int)) pa_nil))) pa_nil)) (pg_name (i := 3) scLaw.nd rfl (Or.inl rfl))
    (qss_cons (qs_any (ps_set (i := 4) scLaw.nd rfl (Or.inl rfl) (pe_call G2 h2 rfl m2 k2 b2 .nil pass0 (pa_nm (pv 1) (pa_cst pe_int pa_nil)))))
    (qss_cons (qs_any (ps_set (i := 5) scLaw.nd rfl (Or.inl rfl) (pe_call G3 h1 rfl m3 k3 b3 .nil pass0 (pa_nm (pv 1) (pa_cst pe_int pa_nil)))))
    (qss_cons (qs_any (ps_set (i := 6) scLaw.nd rfl (Or.inl rfl) (pe_call G4 h9 rfl m4 k4 b4 .nil pass0 (pa_nm (pv 1) (pa_call (pe_callTy call_tuple_of rfl z2 (by decide +kernel) (pa_sub (pe_slice sl_list (pv 4) po_none (po_some (pe_call G3 h1 rfl m3 k3 b3 .nil pass0 (pa_nm (pv 1) (pa_cst pe_int pa_nil))))) pa_nil)) (pa_lst (pe_lst (pa_bin (pe_op op_sub pe_int (pe_op op_mul pe_int (pv 5))) pa_nil)) (pa_bin (pe_op op_sub pe_int (pv 5)) pa_nil)))))))
    (qss_one (qs_any (ps_expr (pe_bm PySem.F.plainAttrs_list PySem.F.slot_list_append PySem.F.type_list_append mt_append (pv 2) (pa_call (pe_call G6 h2 rfl m6 k6 b6 .nil pass0 (pa_nm (pv 1) (pa_call (pe_call G5 h7 rfl m5 k5 b5 .nil pass0 (pa_nm (pv 1) (pa_nm (pv 6) (pa_sub (pe_slice sl_list (pv 4) (po_some pe_int) po_none) pa_nil)))) (pa_nm (pv 5) pa_nil)))) pa_nil)))))))))
    (qss_cons (qs_any (ps_for PassesOwn.never rfl (pi_list (pe_op op_cat (pv 2) (pe_slice sl_list (pv 2) po_none (po_some pe_int)))) (pg_name (i := 6) scLaw.nd rfl (Or.inl rfl)) (pss_one (ps_if (pt_not (pt_val (pe_call G7 hr rfl m7 k7 b7 .nil pass0 (pa_nm (pv 1) (pa_nm (pv 6) pa_nil))))) (pss_one (ps_ret pe_bl)) pss_nil))))
    (qss_one (qs_any (ps_ret (pe_call G8 h23 rfl m8 k8 b8 .nil pass0 (pa_call (pe_call G9 h7 rfl m9 k9 b9 .nil pass0 (pa_sub (pe_ix ix_list (pv 2) pe_int (fun _ _ => rfl)) pa_nil)) (pa_call (pe_call Ga h7 rfl ma ka ba .nil pass0 (pa_sub (pe_ix ix_list (pv 2) pe_int (fun _ _ => rfl)) pa_nil)) pa_nil)))))))))), ?_⟩
  refine ⟨_, rfl, a, ns, rfl, hS, h63, fun d l Ha hd hl sm Da => ?_⟩
  refine ⟨(by show 0 ≤ sizeLine; decide), fun g hg => ?_⟩
  have sg := same_new hg (.lst [])
  have dg := Da.dne hg
  refine ⟨_, rfl, _, rfl, _, rfl, a, _, rfl, SqL.keep hS (sm.trans sg), fun qs hqs => ?_⟩
  have ss := same_new hqs (.lst (cutV (ns.map V.int) (some 1) (some 5)))
  have hcl : (cutV (ns.map V.int) (some 1) (some 5)).length ≤ 63 := by
    have q := cutV_length (ns.map V.int) (some 1) (some 5)
    rw [List.length_map] at q
    omega
  refine ⟨qs, _, rfl, .inl (SqL.of upd_same), _, _, rfl, rfl, _, rfl, by omega, by omega, ?_⟩
  refine for_range (lo := 0) (n := (2 + ((cutV (ns.map V.int) (some 1) (some 5)).length : Int)).toNat) (fun i σ H0 => ∃ v3 v4 v5 v6 ts vs, σ = [some (.ref a), some (.ref d), some (.ref g), v3, v4, v5, v6] ∧ Deal H0 d l ∧ H0 g = some (.lst vs) ∧ BsAt H0 ts vs ∧ ts.length = i ∧ ∀ t ∈ ts, t.dep ≤ 5)
    ⟨none, none, none, none, [], [], rfl, (Da.same sg).same ss, ss _ _ upd_same, .nil, rfl, by simp⟩ ?_ ?_
  · rintro i σ H0 hi ⟨v3, v4, v5, v6, ts, vs, rfl, D0, hg0, Bs0, hlen, hdep⟩
    refine ⟨_, rfl, d, l, 8, rfl, D0, by decide, fun p ns' H1 hn nd hw hp0 hpd hpl hp1 D1 O1 => ?_⟩
    refine ⟨_, rfl, d, l, _, rfl, D1, by decide, by decide, fun dn Hb n0 n1 Db Ob => ?_⟩
    obtain ⟨dm, rfl⟩ := Int.eq_ofNat_of_zero_le n0
    have hpb := Ob _ _ hp1 hpd hpl
    refine ⟨_, rfl, _, rfl, _, rfl, d, l, _, rfl, Db, by decide, by decide, fun r2 H2 r20 r21 D2 O2 => ⟨_, rfl, p, _, rfl, SqL.of (O2 _ _ hpb hpd hpl), fun q hq => ?_⟩⟩
    obtain ⟨js, ejs, ljs⟩ := cut_str ns' none (some r2)
    have sq := same_new hq (.lst (cutV (ns'.map V.str) none (some r2)))
    refine ⟨q, _, rfl, .inl ⟨SqL.of upd_same, fun q2 hq2 => ?_⟩⟩
    have sq2 := same_new hq2 (.tup (cutV (ns'.map V.str) none (some r2)))
    refine ⟨_, rfl, _, _, rfl, rfl, .inl ⟨by decide, by decide⟩, _, _, rfl, rfl, (by show 1 ≤ sizeLine; decide), fun q3 hq3 => ?_⟩
    have sq3 := same_new hq3 (.lst [.int (19 - 3 * (dm : Int))])
    have D23 := (D2.same sq).same sq2
    have dl3 := D23.dne hq3
    refine ⟨_, rfl, _, _, rfl, rfl, 5 - dm, by omega, d, l, q2, q3, js, _, _, rfl, (by omega), D23.same sq3, (by rw [← ejs]; exact sq3 _ _ upd_same), by omega, upd_same, dl3.2, fun p4 t4 m4 H4 ok4 dp4 B4 D4 hx4 O4 => ?_⟩
    have Ob4 : Oth d l Hb H4 := fun b o e h1 h2 => by
      have e2 := sq2 _ _ (sq _ _ (O2 _ _ e h1 h2))
      exact O4 b o (sq3 _ _ e2) h1 h2 (ne_of_none e2 hq3)
    have O04 := O1.trans (Ob.trans Ob4)
    refine ⟨_, rfl, .inl ⟨rfl, _, SqL.of (O04 _ _ hg0 dg.1 dg.2)⟩, _, rfl, _, rfl, _, rfl, _, rfl, _, rfl, p, _, rfl, SqL.of (Ob4 _ _ hpb hpd hpl), fun q5 hq5 => ?_⟩
    have s5 := same_new hq5 (.lst (cutV (ns'.map V.str) (some 4) none))
    have dl5 := D4.dne hq5
    have l5 : (ns'.drop 4).length = 4 := by rw [List.length_drop, hn]
    refine ⟨d, l, p4, q5, js, ns'.drop 4, t4, rfl, D4.same s5, B4.mono (Tups.of_same s5), ok4, by omega, (by rw [← cut_tail hn]; exact upd_same), (fun e => by rw [e] at l5; cases l5), by omega, dl5.2, fun p6 t6 H6 ok6 dp6 B6 D6 O6 => ?_⟩
    refine ⟨_, rfl, d, l, p6, t6, dm, rfl, D6, B6, by omega, fun p7 t7 H7 dp7 B7 D7 O7 => ?_⟩
    have O07 : Oth d l H0 H7 := O04.trans ((Oth.of_same s5).trans (O6.trans O7))
    have hg7 := O07 _ _ hg0 dg.1 dg.2
    have T10 := Tups.upd (o := .lst (vs ++ [.ref p7])) hg7
    have lvs := Bs0.length
    refine ⟨g, _, _, rfl, rfl, hg7, Nat.lt_of_lt_of_le (show vs.length < 1000 by omega) (by decide), ?_⟩
    refine ⟨_, _, _, _, ts ++ [t7], vs ++ [.ref p7], rfl, D7.upd dg.1 dg.2, upd_same, ((Bs0.mono (Tups.of_oth D0 O07)).mono T10).append (.cons (B7.mono T10) .nil), by rw [List.length_append, hlen]; rfl, fun t ht => ?_⟩
    rcases List.mem_append.mp ht with h | h
    · exact hdep t h
    · simp only [List.mem_cons, List.not_mem_nil, or_false] at h
      subst h
      omega
  · rintro σ H0 ⟨v3, v4, v5, v6, ts, vs, rfl, D0, hg0, Bs0, hlen, hdep⟩
    have lvs := Bs0.length
    obtain ⟨us, Bu, hu⟩ := Bs0.cut none (some 1)
    have lcu := cutV_length vs none (some 1)
    refine ⟨_, rfl, _, rfl, _, rfl, g, _, rfl, SqL.of hg0, fun q hq => ?_⟩
    have sq := same_new hq (.lst (cutV vs none (some 1)))
    refine ⟨g, q, vs, _, rfl, rfl, sq _ _ hg0, upd_same, Nat.le_trans (show vs.length + (cutV vs none (some 1)).length ≤ 1000 by omega) (by decide), fun q2 hq2 => ?_⟩
    have sq2 := same_new hq2 (.lst (vs ++ cutV vs none (some 1)))
    have sqq := sq.trans sq2
    have Ba := (Bs0.append Bu).mono (Tups.of_same sqq)
    have Dq := D0.same sqq
    have n2 := (D0.same sq).dne hq2
    have dall : ∀ t ∈ ts ++ us, t.dep ≤ 5 := fun t ht => (List.mem_append.mp ht).elim (hdep t) fun h => hdep t (hu t h)
    refine ⟨q2, rfl, ⟨_, SqL.of upd_same⟩, ?_⟩
    refine for_list (xs := vs ++ cutV vs none (some 1)) (fun i σ H2 => ∃ v6, σ = [some (.ref a), some (.ref d), some (.ref g), v3, v4, v5, v6] ∧ Deal H2 d l ∧ Oth d l (upd (upd H0 q (.lst (cutV vs none (some 1)))) q2 (.lst (vs ++ cutV vs none (some 1)))) H2) ⟨_, rfl, Dq, Oth.refl d l _⟩ (fun i σ H2 hi ⟨_, _, _, O2⟩ => SqL.of (O2 _ _ upd_same n2.1 n2.2)) ?_ ?_
    · rintro i x σ H2 hx ⟨v6', rfl, D2, O2⟩
      obtain ⟨t, p, ht, rfl, Bt⟩ := Ba.get hx
      have dt := dall t (List.mem_of_getElem? ht)
      have pz : t.parts.length ≤ 900 := by
        have q := t.parts_le
        have q2 : 2 ^ (t.dep + 1) ≤ 2 ^ 6 := Nat.pow_le_pow_right (by decide) (by omega)
        omega
      exact ⟨_, rfl, _, rfl, d, l, p, t, rfl, D2, Bt.mono (Tups.of_oth Dq O2), dt, pz, fun H3 D3 O3 => ⟨_, rfl, iteF ⟨_, rfl, D3, O2.trans O3⟩⟩⟩
    · rintro σ H2 ⟨v6', rfl, D2, O2⟩
      have hgn := O2 _ _ (sqq _ _ hg0) dg.1 dg.2
      have h1 : 1 < vs.length := by omega
      obtain ⟨t, p, ht, ep, Bt⟩ := Bs0.get (i := 1) (v := vs[1]) (List.getElem?_eq_getElem h1)
      have dt := hdep t (List.mem_of_getElem? ht)
      have Bt2 := (Bt.mono (Tups.of_same sqq)).mono (Tups.of_oth Dq O2)
      have e1 : atI vs 1 = some (.ref p) := by rw [← ep]; exact atI_nat (j := 1) (List.getElem?_eq_getElem h1)
      refine ⟨_, rfl, g, _, _, _, rfl, rfl, SqL.of hgn, e1, p, t, rfl, Bt2, by omega, fun ra H3 s3 P3 => ⟨_, rfl, g, _, _, _, rfl, rfl, SqL.of (s3 _ _ hgn), e1, p, t, rfl, Bt2.mono (Tups.of_same s3), by omega, fun rb H4 s4 P4 => ⟨_, _, rfl, Alk.up (by omega) ((P3.mono (Tups.of_same s4)).alk P4), fun H5 s5 => k H5⟩⟩⟩
end
end Q16

set_option Elab.async false
set_option linter.all false
set_option maxRecDepth 100000
set_option maxHeartbeats 4000000
namespace Q16
open PySem L2
theorem all_mk {l : PySem.W.OpenLaw} {w : World} {K : PySem.W.Frag} {h : Heap} {mg : Str → Option Value} {fa f1 f2 f3 f4 f5 f6 f7 f8 f9 f10 f11 f12 f13 f14 f15 f16 f17 f18 f19 f20 f21 f22 f23 f24 : Addr} {aD : Addr} {oD : Obj} (X : K.In h) (G : h.Ns mainGlobals mg) (hfa : mg "law" = some (.ref fa))
    {od1 an1 od2 an2 od3 an3 od4 an4 od5 an5 od6 an6 od7 an7 od8 an8 od9 an9 od10 an10 od11 an11 od12 an12 od13 an13 od14 an14 od15 an15 od16 an16 od17 an17 od18 an18 od19 an19 od20 an20 od21 an21 od22 an22 od23 an23 od24 an24 : Option Addr} {sl1 sl2 sl3 sl4 sl5 sl6 sl7 sl8 sl9 sl10 sl11 sl12 sl13 sl14 sl15 sl16 sl17 sl18 sl19 sl20 sl21 sl22 sl23 sl24 : Array (Option Value)}
    {oc1 kV1 dc1 pm1 cd1 ct1 oc2 kV2 dc2 pm2 cd2 ct2 oc3 kV3 dc3 pm3 cd3 ct3 oc4 kV4 dc4 pm4 cd4 ct4 oc5 kV5 dc5 pm5 cd5 ct5 oc6 kV6 dc6 pm6 cd6 ct6 oc7 kV7 dc7 pm7 cd7 ct7 oc8 kV8 dc8 pm8 cd8 ct8 oc9 kV9 dc9 pm9 cd9 ct9 oc10 kV10 dc10 pm10 cd10 ct10 oc11 kV11 dc11 pm11 cd11 ct11 oc12 kV12 dc12 pm12 cd12 ct12 oc13 kV13 dc13 pm13 cd13 ct13 oc14 kV14 dc14 pm14 cd14 ct14 oc15 kV15 dc15 pm15 cd15 ct15 oc16 kV16 dc16 pm16 cd16 ct16 oc17 kV17 dc17 pm17 cd17 ct17 oc18 kV18 dc18 pm18 cd18 ct18 oc19 kV19 dc19 pm19 cd19 ct19 oc20 kV20 dc20 pm20 cd20 ct20 oc21 kV21 dc21 pm21 cd21 ct21 oc22 kV22 dc22 pm22 cd22 ct22 oc23 kV23 dc23 pm23 cd23 ct23 oc24 kV24 dc24 pm24 cd24 ct24 : Value}
    (a1 : PySem.W.nsIn K mainGlobals "sides_of" = some (some (.ref f1))) (l1 : K.lookup f1 = some ⟨oc1, od1, .func (PySem.W.fnOf "sides_of" "sides_of" (defArgs sSides) (defBody sSides) (defScope sSides) .none kV1 dc1 pm1 an1 cd1 ct1), sl1⟩) (c1 : PySem.W.codeIn K cd1 "sides_of" = true) (k1 : PySem.W.keepIn K (.ref f1) = true)
    (a2 : PySem.W.nsIn K mainGlobals "parts_in" = some (some (.ref f2))) (l2 : K.lookup f2 = some ⟨oc2, od2, .func (PySem.W.fnOf "parts_in" "parts_in" (defArgs sParts) (defBody sParts) (defScope sParts) .none kV2 dc2 pm2 an2 cd2 ct2), sl2⟩) (c2 : PySem.W.codeIn K cd2 "parts_in" = true) (k2 : PySem.W.keepIn K (.ref f2) = true)
    (a3 : PySem.W.nsIn K mainGlobals "parts" = some (some (.ref f3))) (l3 : K.lookup f3 = some ⟨oc3, od3, .func (PySem.W.fnOf "parts" "parts" (defArgs sPartsN) (defBody sPartsN) (defScope sPartsN) .none kV3 dc3 pm3 an3 cd3 ct3), sl3⟩) (c3 : PySem.W.codeIn K cd3 "parts" = true) (k3 : PySem.W.keepIn K (.ref f3) = true)
    (a4 : PySem.W.nsIn K mainGlobals "plain_trace" = some (some (.ref f4))) (l4 : K.lookup f4 = some ⟨oc4, od4, .func (PySem.W.fnOf "plain_trace" "plain_trace" (defArgs sPlainT) (defBody sPlainT) (defScope sPlainT) .none kV4 dc4 pm4 an4 cd4 ct4), sl4⟩) (c4 : PySem.W.codeIn K cd4 "plain_trace" = true) (k4 : PySem.W.keepIn K (.ref f4) = true)
    (a5 : PySem.W.nsIn K mainGlobals "often_places" = some (some (.ref f5))) (l5 : K.lookup f5 = some ⟨oc5, od5, .func (PySem.W.fnOf "often_places" "often_places" (defArgs sPlaces) (defBody sPlaces) (defScope sPlaces) .none kV5 dc5 pm5 an5 cd5 ct5), sl5⟩) (c5 : PySem.W.codeIn K cd5 "often_places" = true) (k5 : PySem.W.keepIn K (.ref f5) = true)
    (a6 : PySem.W.nsIn K mainGlobals "oftens" = some (some (.ref f6))) (l6 : K.lookup f6 = some ⟨oc6, od6, .func (PySem.W.fnOf "oftens" "oftens" (defArgs sOftens) (defBody sOftens) (defScope sOftens) .none kV6 dc6 pm6 an6 cd6 ct6), sl6⟩) (c6 : PySem.W.codeIn K cd6 "oftens" = true) (k6 : PySem.W.keepIn K (.ref f6) = true)
    (a7 : PySem.W.nsIn K mainGlobals "led_to_part" = some (some (.ref f7))) (l7 : K.lookup f7 = some ⟨oc7, od7, .func (PySem.W.fnOf "led_to_part" "led_to_part" (defArgs sLedPart) (defBody sLedPart) (defScope sLedPart) .none kV7 dc7 pm7 an7 cd7 ct7), sl7⟩) (c7 : PySem.W.codeIn K cd7 "led_to_part" = true) (k7 : PySem.W.keepIn K (.ref f7) = true)
    (a8 : PySem.W.nsIn K mainGlobals "led_to" = some (some (.ref f8))) (l8 : K.lookup f8 = some ⟨oc8, od8, .func (PySem.W.fnOf "led_to" "led_to" (defArgs sLedTo) (defBody sLedTo) (defScope sLedTo) .none kV8 dc8 pm8 an8 cd8 ct8), sl8⟩) (c8 : PySem.W.codeIn K cd8 "led_to" = true) (k8 : PySem.W.keepIn K (.ref f8) = true)
    (a9 : PySem.W.nsIn K mainGlobals "_law_deal" = some (some (.ref f9))) (l9 : K.lookup f9 = some ⟨oc9, od9, .func (PySem.W.fnOf "_law_deal" "_law_deal" (defArgs sDeal) (defBody sDeal) (defScope sDeal) .none kV9 dc9 pm9 an9 cd9 ct9), sl9⟩) (c9 : PySem.W.codeIn K cd9 "_law_deal" = true) (k9 : PySem.W.keepIn K (.ref f9) = true)
    (a10 : PySem.W.nsIn K mainGlobals "_law_draw" = some (some (.ref f10))) (l10 : K.lookup f10 = some ⟨oc10, od10, .func (PySem.W.fnOf "_law_draw" "_law_draw" (defArgs sDraw) (defBody sDraw) (defScope sDraw) .none kV10 dc10 pm10 an10 cd10 ct10), sl10⟩) (c10 : PySem.W.codeIn K cd10 "_law_draw" = true) (k10 : PySem.W.keepIn K (.ref f10) = true)
    (a11 : PySem.W.nsIn K mainGlobals "_law_words" = some (some (.ref f11))) (l11 : K.lookup f11 = some ⟨oc11, od11, .func (PySem.W.fnOf "_law_words" "_law_words" (defArgs sWords) (defBody sWords) (defScope sWords) .none kV11 dc11 pm11 an11 cd11 ct11), sl11⟩) (c11 : PySem.W.codeIn K cd11 "_law_words" = true) (k11 : PySem.W.keepIn K (.ref f11) = true)
    (a12 : PySem.W.nsIn K mainGlobals "_law_low" = some (some (.ref f12))) (l12 : K.lookup f12 = some ⟨oc12, od12, .func (PySem.W.fnOf "_law_low" "_law_low" (defArgs sLow) (defBody sLow) (defScope sLow) .none kV12 dc12 pm12 an12 cd12 ct12), sl12⟩) (c12 : PySem.W.codeIn K cd12 "_law_low" = true) (k12 : PySem.W.keepIn K (.ref f12) = true)
    (a13 : PySem.W.nsIn K mainGlobals "_law_cost" = some (some (.ref f13))) (l13 : K.lookup f13 = some ⟨oc13, od13, .func (PySem.W.fnOf "_law_cost" "_law_cost" (defArgs sCost) (defBody sCost) (defScope sCost) .none kV13 dc13 pm13 an13 cd13 ct13), sl13⟩) (c13 : PySem.W.codeIn K cd13 "_law_cost" = true) (k13 : PySem.W.keepIn K (.ref f13) = true)
    (a14 : PySem.W.nsIn K mainGlobals "_law_leaf" = some (some (.ref f14))) (l14 : K.lookup f14 = some ⟨oc14, od14, .func (PySem.W.fnOf "_law_leaf" "_law_leaf" (defArgs sLeaf) (defBody sLeaf) (defScope sLeaf) .none kV14 dc14 pm14 an14 cd14 ct14), sl14⟩) (c14 : PySem.W.codeIn K cd14 "_law_leaf" = true) (k14 : PySem.W.keepIn K (.ref f14) = true)
    (a15 : PySem.W.nsIn K mainGlobals "_law_body" = some (some (.ref f15))) (l15 : K.lookup f15 = some ⟨oc15, od15, .func (PySem.W.fnOf "_law_body" "_law_body" (defArgs sBody) (defBody sBody) (defScope sBody) .none kV15 dc15 pm15 an15 cd15 ct15), sl15⟩) (c15 : PySem.W.codeIn K cd15 "_law_body" = true) (k15 : PySem.W.keepIn K (.ref f15) = true)
    (a16 : PySem.W.nsIn K mainGlobals "_law_trace" = some (some (.ref f16))) (l16 : K.lookup f16 = some ⟨oc16, od16, .func (PySem.W.fnOf "_law_trace" "_law_trace" (defArgs sTrace) (defBody sTrace) (defScope sTrace) .none kV16 dc16 pm16 an16 cd16 ct16), sl16⟩) (c16 : PySem.W.codeIn K cd16 "_law_trace" = true) (k16 : PySem.W.keepIn K (.ref f16) = true)
    (a17 : PySem.W.nsIn K mainGlobals "_law_used" = some (some (.ref f17))) (l17 : K.lookup f17 = some ⟨oc17, od17, .func (PySem.W.fnOf "_law_used" "_law_used" (defArgs sUsed) (defBody sUsed) (defScope sUsed) .none kV17 dc17 pm17 an17 cd17 ct17), sl17⟩) (c17 : PySem.W.codeIn K cd17 "_law_used" = true) (k17 : PySem.W.keepIn K (.ref f17) = true)
    (a18 : PySem.W.nsIn K mainGlobals "_law_plain" = some (some (.ref f18))) (l18 : K.lookup f18 = some ⟨oc18, od18, .func (PySem.W.fnOf "_law_plain" "_law_plain" (defArgs sPlain) (defBody sPlain) (defScope sPlain) .none kV18 dc18 pm18 an18 cd18 ct18), sl18⟩) (c18 : PySem.W.codeIn K cd18 "_law_plain" = true) (k18 : PySem.W.keepIn K (.ref f18) = true)
    (a19 : PySem.W.nsIn K mainGlobals "_law_ways" = some (some (.ref f19))) (l19 : K.lookup f19 = some ⟨oc19, od19, .func (PySem.W.fnOf "_law_ways" "_law_ways" (defArgs sWays) (defBody sWays) (defScope sWays) .none kV19 dc19 pm19 an19 cd19 ct19), sl19⟩) (c19 : PySem.W.codeIn K cd19 "_law_ways" = true) (k19 : PySem.W.keepIn K (.ref f19) = true)
    (a20 : PySem.W.nsIn K mainGlobals "_law_led" = some (some (.ref f20))) (l20 : K.lookup f20 = some ⟨oc20, od20, .func (PySem.W.fnOf "_law_led" "_law_led" (defArgs sLed) (defBody sLed) (defScope sLed) .none kV20 dc20 pm20 an20 cd20 ct20), sl20⟩) (c20 : PySem.W.codeIn K cd20 "_law_led" = true) (k20 : PySem.W.keepIn K (.ref f20) = true)
    (a21 : PySem.W.nsIn K mainGlobals "_law_alike" = some (some (.ref f21))) (l21 : K.lookup f21 = some ⟨oc21, od21, .func (PySem.W.fnOf "_law_alike" "_law_alike" (defArgs sAlike) (defBody sAlike) (defScope sAlike) .none kV21 dc21 pm21 an21 cd21 ct21), sl21⟩) (c21 : PySem.W.codeIn K cd21 "_law_alike" = true) (k21 : PySem.W.keepIn K (.ref f21) = true)
    (a22 : PySem.W.nsIn K mainGlobals "_law_right" = some (some (.ref f22))) (l22 : K.lookup f22 = some ⟨oc22, od22, .func (PySem.W.fnOf "_law_right" "_law_right" (defArgs sRight) (defBody sRight) (defScope sRight) .none kV22 dc22 pm22 an22 cd22 ct22), sl22⟩) (c22 : PySem.W.codeIn K cd22 "_law_right" = true) (k22 : PySem.W.keepIn K (.ref f22) = true)
    (a23 : PySem.W.nsIn K mainGlobals "_law_more" = some (some (.ref f23))) (l23 : K.lookup f23 = some ⟨oc23, od23, .func (PySem.W.fnOf "_law_more" "_law_more" (defArgs sMore) (defBody sMore) (defScope sMore) .none kV23 dc23 pm23 an23 cd23 ct23), sl23⟩) (c23 : PySem.W.codeIn K cd23 "_law_more" = true) (k23 : PySem.W.keepIn K (.ref f23) = true)
    (a24 : PySem.W.nsIn K mainGlobals "law" = some (some (.ref f24))) (l24 : K.lookup f24 = some ⟨oc24, od24, .func (PySem.W.fnOf "law" "law" (defArgs sLaw) (defBody sLaw) (defScope sLaw) .none kV24 dc24 pm24 an24 cd24 ct24), sl24⟩) (c24 : PySem.W.codeIn K cd24 "law" = true) (k24 : PySem.W.keepIn K (.ref f24) = true)
    (z1 : PySem.W.nsIn K mainGlobals "len" = some none)
    (z2 : PySem.W.nsIn K mainGlobals "max" = some none)
    (z3 : PySem.W.nsIn K mainGlobals "list" = some none)
    (z4 : PySem.W.nsIn K mainGlobals "reversed" = some none)
    (z5 : PySem.W.nsIn K mainGlobals "range" = some none)
    (z6 : PySem.W.nsIn K mainGlobals "isinstance" = some none)
    (z7 : PySem.W.nsIn K mainGlobals "tuple" = some none)
    (z8 : PySem.W.nsIn K mainGlobals "all" = some none)
    (z9 : PySem.W.nsIn K mainGlobals "zip" = some none)
    (z10 : PySem.W.nsIn K mainGlobals "int" = some none)
    (z11 : PySem.W.nsIn K mainGlobals "bool" = some none)
    (z12 : PySem.W.nsIn K mainGlobals "enumerate" = some none)
    (cD : PySem.W.nsIn K mainGlobals "SIDES_FROM" = some (some (.ref aD)))
    (cO : K.lookup aD = some oD)
    (cS : (aD == sysModules) = false)
    (cV : ∃ vs, KV sidesK vs ∧ Obj.IsDictOf (mixKind l.prog w) oD vs)
    : ∃ fd : FuncData, (∀ (s : Shared) (v : Value), BindsTo s fd ⟨[v], []⟩ [("_law_script", v)]) ∧ ∀ base : Heap, K.In base → base.Ns mainGlobals mg → FnOk l.prog w K mg base CX0 25 fa fd ["_law_script"] (spLaw K) := by
  have e := hfa.symm.trans (PySem.W.mg_of X G a24)
  cases e
  have F1 := fun_mk (st := sSides) l1 c1 k1
  have F2 := fun_mk (st := sParts) l2 c2 k2
  have F3 := fun_mk (st := sPartsN) l3 c3 k3
  have F4 := fun_mk (st := sPlainT) l4 c4 k4
  have F5 := fun_mk (st := sPlaces) l5 c5 k5
  have F6 := fun_mk (st := sOftens) l6 c6 k6
  have F7 := fun_mk (st := sLedPart) l7 c7 k7
  have F8 := fun_mk (st := sLedTo) l8 c8 k8
  have F9 := fun_mk (st := sDeal) l9 c9 k9
  have F10 := fun_mk (st := sDraw) l10 c10 k10
  have F11 := fun_mk (st := sWords) l11 c11 k11
  have F12 := fun_mk (st := sLow) l12 c12 k12
  have F13 := fun_mk (st := sCost) l13 c13 k13
  have F14 := fun_mk (st := sLeaf) l14 c14 k14
  have F15 := fun_mk (st := sBody) l15 c15 k15
  have F16 := fun_mk (st := sTrace) l16 c16 k16
  have F17 := fun_mk (st := sUsed) l17 c17 k17
  have F18 := fun_mk (st := sPlain) l18 c18 k18
  have F19 := fun_mk (st := sWays) l19 c19 k19
  have F20 := fun_mk (st := sLed) l20 c20 k20
  have F21 := fun_mk (st := sAlike) l21 c21 k21
  have F22 := fun_mk (st := sRight) l22 c22 k22
  have F23 := fun_mk (st := sMore) l23 c23 k23
  have F24 := fun_mk (st := sLaw) l24 c24 k24
  have b1 := F1.binds (ps := ["body"]) fun _ _ _ _ _ _ us hl => match us, hl with | [_], _ => rfl
  have n1 := PySem.W.mg_of X G a1
  have b2 := F2.binds (ps := ["body"]) fun _ _ _ _ _ _ us hl => match us, hl with | [_], _ => rfl
  have n2 := PySem.W.mg_of X G a2
  have b3 := F3.binds (ps := ["body"]) fun _ _ _ _ _ _ us hl => match us, hl with | [_], _ => rfl
  have n3 := PySem.W.mg_of X G a3
  have b4 := F4.binds (ps := ["body"]) fun _ _ _ _ _ _ us hl => match us, hl with | [_], _ => rfl
  have n4 := PySem.W.mg_of X G a4
  have b5 := F5.binds (ps := ["body"]) fun _ _ _ _ _ _ us hl => match us, hl with | [_], _ => rfl
  have n5 := PySem.W.mg_of X G a5
  have b6 := F6.binds (ps := ["body"]) fun _ _ _ _ _ _ us hl => match us, hl with | [_], _ => rfl
  have n6 := PySem.W.mg_of X G a6
  have b7 := F7.binds (ps := ["body", "place", "trace"]) fun _ _ _ _ _ _ us hl => match us, hl with | [_, _, _], _ => rfl
  have n7 := PySem.W.mg_of X G a7
  have b8 := F8.binds (ps := ["body", "number", "goings"]) fun _ _ _ _ _ _ us hl => match us, hl with | [_, _, _], _ => rfl
  have n8 := PySem.W.mg_of X G a8
  have b9 := F9.binds (ps := ["_law_script", "_law_base"]) fun _ _ _ _ _ _ us hl => match us, hl with | [_, _], _ => rfl
  have n9 := PySem.W.mg_of X G a9
  have b10 := F10.binds (ps := ["_law_deal_here", "_law_many"]) fun _ _ _ _ _ _ us hl => match us, hl with | [_, _], _ => rfl
  have n10 := PySem.W.mg_of X G a10
  have b11 := F11.binds (ps := ["_law_deal_here", "_law_many"]) fun _ _ _ _ _ _ us hl => match us, hl with | [_, _], _ => rfl
  have n11 := PySem.W.mg_of X G a11
  have b12 := F12.binds (ps := ["_law_top", "_law_bottom"]) fun _ _ _ _ _ _ us hl => match us, hl with | [_, _], _ => rfl
  have n12 := PySem.W.mg_of X G a12
  have b13 := F13.binds (ps := ["_law_deal_here"]) fun _ _ _ _ _ _ us hl => match us, hl with | [_], _ => rfl
  have n13 := PySem.W.mg_of X G a13
  have b14 := F14.binds (ps := ["_law_deal_here", "_law_jars"]) fun _ _ _ _ _ _ us hl => match us, hl with | [_, _], _ => rfl
  have n14 := PySem.W.mg_of X G a14
  have b15 := F15.binds (ps := ["_law_deal_here", "_law_jars", "_law_left", "_law_down"]) fun _ _ _ _ _ _ us hl => match us, hl with | [_, _, _, _], _ => rfl
  have n15 := PySem.W.mg_of X G a15
  have b16 := F16.binds (ps := ["_law_deal_here", "_law_body_here", "_law_left"]) fun _ _ _ _ _ _ us hl => match us, hl with | [_, _, _], _ => rfl
  have n16 := PySem.W.mg_of X G a16
  have b17 := F17.binds (ps := ["_law_deal_here", "_law_body_here", "_law_names"]) fun _ _ _ _ _ _ us hl => match us, hl with | [_, _, _], _ => rfl
  have n17 := PySem.W.mg_of X G a17
  have b18 := F18.binds (ps := ["_law_body_here"]) fun _ _ _ _ _ _ us hl => match us, hl with | [_], _ => rfl
  have n18 := PySem.W.mg_of X G a18
  have b19 := F19.binds (ps := ["_law_body_here"]) fun _ _ _ _ _ _ us hl => match us, hl with | [_], _ => rfl
  have n19 := PySem.W.mg_of X G a19
  have b20 := F20.binds (ps := ["_law_body_here", "_law_way", "_law_goings"]) fun _ _ _ _ _ _ us hl => match us, hl with | [_, _, _], _ => rfl
  have n20 := PySem.W.mg_of X G a20
  have b21 := F21.binds (ps := ["_law_found", "_law_due"]) fun _ _ _ _ _ _ us hl => match us, hl with | [_, _], _ => rfl
  have n21 := PySem.W.mg_of X G a21
  have b22 := F22.binds (ps := ["_law_deal_here", "_law_body_here"]) fun _ _ _ _ _ _ us hl => match us, hl with | [_, _], _ => rfl
  have n22 := PySem.W.mg_of X G a22
  have b23 := F23.binds (ps := ["_law_deal_here", "_law_body_here", "_law_down"]) fun _ _ _ _ _ _ us hl => match us, hl with | [_, _, _], _ => rfl
  have n23 := PySem.W.mg_of X G a23
  have y1 := PySem.W.mg_none_of X G z1
  have y2 := PySem.W.mg_none_of X G z2
  have y3 := PySem.W.mg_none_of X G z3
  have y4 := PySem.W.mg_none_of X G z4
  have y5 := PySem.W.mg_none_of X G z5
  have y6 := PySem.W.mg_none_of X G z6
  have y7 := PySem.W.mg_none_of X G z7
  have y8 := PySem.W.mg_none_of X G z8
  have y9 := PySem.W.mg_none_of X G z9
  have y10 := PySem.W.mg_none_of X G z10
  have y11 := PySem.W.mg_none_of X G z11
  have y12 := PySem.W.mg_none_of X G z12
  refine ⟨PySem.W.fnOf "law" "law" (defArgs sLaw) (defBody sLaw) (defScope sLaw) .none kV24 dc24 pm24 an24 cd24 ct24, fun s v => .of_eq rfl, fun base _ _ => ?_⟩
  have hD : KD l.prog w K aD sidesK := ⟨cS, oD, cV.choose, cO, cV.choose_spec.1, cV.choose_spec.2⟩
  have gsd  := ok_sides (base := base) F1 y1 (PySem.W.mg_of X G cD) hD
  have gpt  := ok_parts (base := base) F2 b2 k2 n2 gsd b1 k1 n1
  have gpn  := fun n => ok_partsN n F3 (gpt n) b2 k2 n2 y1
  have gplT  := ok_plainT (P := l.prog) (w := w) (base := base) F4 b4 k4 n4
  have gplL  := ok_plainL (P := l.prog) (w := w) (base := base) F18 b18 k18 n18 y10
  have gplc  := fun n => ok_places n F5 (gpt n) b2 k2 n2 y12
  have gof  := fun n => ok_oftens n F6 (gplc n) b5 k5 n5 y1
  have glp  := ok_ledP F7 b7 k7 n7 gplT b4 k4 n4 gpn b3 k3 n3
  have glt  := fun n => ok_ledTo n F8 (glp n) b7 k7 n7 (gplc n) b5 k5 n5
  have gdr  := ok_draw (P := l.prog) (w := w) (base := base) F10 y1
  have gwd  := ok_words F11 gdr b10 k10 n10 y5 y1
  have glw  := ok_low (P := l.prog) (w := w) (base := base) F12 y2
  have gco  := ok_cost F13 gdr b10 k10 n10 glw b12 k12 n12
  have glf  := ok_leaf F14 gdr b10 k10 n10 gco b13 k13 n13 y1
  have gbd  := ok_body F15 b15 k15 n15 gdr b10 k10 n10 glf b14 k14 n14 y1
  have gus  := ok_used F17 b17 k17 n17 gdr b10 k10 n10 y1
  have gtr  := ok_trace F16 b16 k16 n16 gdr b10 k10 n10 y5 y10 y7
  have gwy  := ok_ways (P := l.prog) (w := w) (base := base) F19 b19 k19 n19
  have gld  := ok_led F20 b20 k20 n20 gplL b18 k18 n18 y1
  have gal  := ok_alike (P := l.prog) (w := w) (base := base) F21 b21 k21 n21 y6 y7 y1 y8 y9 y10 y11
  have grt  := ok_right F22 (gwy 6 (by decide)) b19 k19 n19 (gal 22) b21 k21 n21 (gplT 6) b4 k4 n4 (gplL 6) b18 k18 n18 (gof 6) b6 k6 n6 (gtr 6) b16 k16 n16 (glt 6) b8 k8 n8 (gld 6) b20 k20 n20 y5 y1 y12
  have gmo  := ok_more F23 gdr b10 k10 n10 y5
  exact ok_law F24 (ok_deal (P := l.prog) (w := w) (base := base) F9 y2 y3 y4) b9 k9 n9 gwd b11 k11 n11 gdr b10 k10 n10 (ok_bodyA gbd) b15 k15 n15 (gus 6) b17 k17 n17 gmo b23 k23 n23 grt b22 k22 n22 (gal 22) b21 k21 n21 (gplT 6) b4 k4 n4 (gplL 6) b18 k18 n18 y5 y7 y1
theorem walk {l : PySem.W.OpenLaw} {q : Program} {loose : List Str} {XP : (Str → Option Value) → Heap → Prop} {YP : World → Heap → Prop} {d : DefRec} {K : Params → PySem.W.Frag} (hn : l.most = some 63) (hdf : d.params.defaults = [])
    (hY : ∀ (w : World) (h : Heap), YP w h → (K w.params).In h)
    (F : ∀ (w : World) (mg : Str → Option Value) (fa : Addr) (h : Heap), (K w.params).In h → h.Ns mainGlobals mg → mg d.name = some (.ref fa) →
      ∃ fd : FuncData, (∀ (s : Shared) (u : Value), BindsTo s fd ⟨[u], []⟩ [("_law_script", u)]) ∧ ∀ base : Heap, (K w.params).In base → base.Ns mainGlobals mg → FnOk l.prog w (K w.params) mg base CX0 25 fa fd ["_law_script"] (spLaw (K w.params))) :
    PySem.W.WalkO q loose XP YP l.row.toRowW d [] (fun f vs => PySem.call f vs) :=
  L2.walk_of (n := 63) (k := 25) (x := "_law_script") (CX := fun _ => CX0) (sp := fun w => spLaw (K w.params)) hn (by decide) hdf ⟨rfl, by decide, by decide, rfl⟩ hY F (fun _ _ a ns hl _ hS => ⟨a, ns, rfl, hS, hl, fun _ => rfl⟩) fun _ _ _ _ _ z => z
end Q16
open PySem PySem.W PyProof.Rows
set_option maxRecDepth 100000 in
set_option maxHeartbeats 0 in
theorem PySem.Challenge.cw_dueworth_k16_plain_and_led_traces_holds : PySem.Challenge.rw_dueworth_k16_plain_and_led_traces.Holds := by
  w_on; o_law; k_head; (case hw => w_witness2)
  k_fill
  refine Q16.walk (l := PySem.Challenge.rw_dueworth_k16_plain_and_led_traces) rfl rfl (fun w h Y => PySem.W.kIn_of Y) ?F
  case F =>
    intro w mg fa h KX G hmg
    refine' Q16.all_mk KX G hmg ?a1 ?l1 ?c1 ?k1 ?a2 ?l2 ?c2 ?k2 ?a3 ?l3 ?c3 ?k3 ?a4 ?l4 ?c4 ?k4 ?a5 ?l5 ?c5 ?k5 ?a6 ?l6 ?c6 ?k6 ?a7 ?l7 ?c7 ?k7 ?a8 ?l8 ?c8 ?k8 ?a9 ?l9 ?c9 ?k9 ?a10 ?l10 ?c10 ?k10 ?a11 ?l11 ?c11 ?k11 ?a12 ?l12 ?c12 ?k12 ?a13 ?l13 ?c13 ?k13 ?a14 ?l14 ?c14 ?k14 ?a15 ?l15 ?c15 ?k15 ?a16 ?l16 ?c16 ?k16 ?a17 ?l17 ?c17 ?k17 ?a18 ?l18 ?c18 ?k18 ?a19 ?l19 ?c19 ?k19 ?a20 ?l20 ?c20 ?k20 ?a21 ?l21 ?c21 ?k21 ?a22 ?l22 ?c22 ?k22 ?a23 ?l23 ?c23 ?k23 ?a24 ?l24 ?c24 ?k24 ?z1 ?z2 ?z3 ?z4 ?z5 ?z6 ?z7 ?z8 ?z9 ?z10 ?z11 ?z12 ?cD ?cO ?cS ?cV
    (case a1 => k_is)
    (case l1 => k_is)
    (case c1 => k_is)
    (case k1 => k_is)
    (case a2 => k_is)
    (case l2 => k_is)
    (case c2 => k_is)
    (case k2 => k_is)
    (case a3 => k_is)
    (case l3 => k_is)
    (case c3 => k_is)
    (case k3 => k_is)
    (case a4 => k_is)
    (case l4 => k_is)
    (case c4 => k_is)
    (case k4 => k_is)
    (case a5 => k_is)
    (case l5 => k_is)
    (case c5 => k_is)
    (case k5 => k_is)
    (case a6 => k_is)
    (case l6 => k_is)
    (case c6 => k_is)
    (case k6 => k_is)
    (case a7 => k_is)
    (case l7 => k_is)
    (case c7 => k_is)
    (case k7 => k_is)
    (case a8 => k_is)
    (case l8 => k_is)
    (case c8 => k_is)
    (case k8 => k_is)
    (case a9 => k_is)
    (case l9 => k_is)
    (case c9 => k_is)
    (case k9 => k_is)
    (case a10 => k_is)
    (case l10 => k_is)
    (case c10 => k_is)
    (case k10 => k_is)
    (case a11 => k_is)
    (case l11 => k_is)
    (case c11 => k_is)
    (case k11 => k_is)
    (case a12 => k_is)
    (case l12 => k_is)
    (case c12 => k_is)
    (case k12 => k_is)
    (case a13 => k_is)
    (case l13 => k_is)
    (case c13 => k_is)
    (case k13 => k_is)
    (case a14 => k_is)
    (case l14 => k_is)
    (case c14 => k_is)
    (case k14 => k_is)
    (case a15 => k_is)
    (case l15 => k_is)
    (case c15 => k_is)
    (case k15 => k_is)
    (case a16 => k_is)
    (case l16 => k_is)
    (case c16 => k_is)
    (case k16 => k_is)
    (case a17 => k_is)
    (case l17 => k_is)
    (case c17 => k_is)
    (case k17 => k_is)
    (case a18 => k_is)
    (case l18 => k_is)
    (case c18 => k_is)
    (case k18 => k_is)
    (case a19 => k_is)
    (case l19 => k_is)
    (case c19 => k_is)
    (case k19 => k_is)
    (case a20 => k_is)
    (case l20 => k_is)
    (case c20 => k_is)
    (case k20 => k_is)
    (case a21 => k_is)
    (case l21 => k_is)
    (case c21 => k_is)
    (case k21 => k_is)
    (case a22 => k_is)
    (case l22 => k_is)
    (case c22 => k_is)
    (case k22 => k_is)
    (case a23 => k_is)
    (case l23 => k_is)
    (case c23 => k_is)
    (case k23 => k_is)
    (case a24 => k_is)
    (case l24 => k_is)
    (case c24 => k_is)
    (case k24 => k_is)
    (case z1 => k_is)
    (case z2 => k_is)
    (case z3 => k_is)
    (case z4 => k_is)
    (case z5 => k_is)
    (case z6 => k_is)
    (case z7 => k_is)
    (case z8 => k_is)
    (case z9 => k_is)
    (case z10 => k_is)
    (case z11 => k_is)
    (case z12 => k_is)
    (case cD => k_is)
    (case cO => k_is)
    (case cS => rfl)
    (case cV => exact L2.kd_obj _ w [("then", 1, _, _), ("either", 1, _, _), ("take", 3, _, _), ("often", 1, _, _)] _ (by decide +kernel))
#print axioms PySem.Challenge.cw_dueworth_k16_plain_and_led_traces_holds

