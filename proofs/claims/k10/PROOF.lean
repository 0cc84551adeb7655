import PyProof.Rows.All
import Wide.All
import OpenK.AllK
import Wide.FinOn
import Lean
import PyProof.EqAt
import PyProof.EqKinds
import PyProof.TupleCall
import PySem.Challenge.RW_turnrow_k10_words_and_their_numbers
set_option Elab.async false
set_option linter.all false
set_option maxRecDepth 100000
/-! THE HAND LAYER, for ints, bools, texts, own classes, LISTS and tuples (index, slices, in, append, pop ..), calls, loops. Paste it whole ahead of your own text; what your proof does not reach may be deleted. -/
namespace L2
open PySem PySem.Spec PyProof.Rows

/-- a key: an int or a str -/
abbrev Key := Sum Int Str
def keyIs : Key → Value → Bool
  | .inl k, v => Value.isInt k v
  | .inr x, v => Value.isStrOf x v
def keyH (w : World) : Key → Int
  | .inl k => hashInt k
  | .inr x => hashStr w x
theorem keyIs_shape : ∀ {k : Key} {v : Value}, keyIs k v = true → (∃ i t, k = Sum.inl i ∧ v = Value.int i t) ∨ (∃ x t, k = Sum.inr x ∧ v = Value.str x t)
  | .inl i, v, h => by
    obtain ⟨t, e⟩ := Value.isInt_shape (k := i) (v := v) h
    exact .inl ⟨i, t, rfl, e⟩
  | .inr x, v, h => by
    obtain ⟨t, e⟩ := Value.isStrOf_shape (x := x) (v := v) h
    exact .inr ⟨x, t, rfl, e⟩
theorem keyIs_int (i : Int) (t : Tok) : keyIs (.inl i) (.int i t) = true := by simp [keyIs, Value.isInt]
theorem keyIs_str (x : Str) (t : Tok) : keyIs (.inr x) (.str x t) = true := by simp [keyIs, Value.isStrOf]
theorem key_ll (a b : Int) : decide ((Sum.inl a : Key) = Sum.inl b) = (a == b) := by
  by_cases e : a = b
  · subst e; simp
  · have h : ¬ (Sum.inl a : Key) = Sum.inl b := fun q => e (Sum.inl.inj q)
    rw [decide_eq_false h]
    exact (beq_eq_false_iff_ne.mpr e).symm
theorem key_rr (a b : Str) : decide ((Sum.inr a : Key) = Sum.inr b) = decide (a = b) := by
  by_cases e : a = b
  · subst e; simp
  · have h : ¬ (Sum.inr a : Key) = Sum.inr b := fun q => e (Sum.inr.inj q)
    rw [decide_eq_false h, decide_eq_false e]
theorem key_lr (a : Int) (b : Str) : decide ((Sum.inl a : Key) = Sum.inr b) = false := decide_eq_false (fun q => nomatch q)
theorem key_rl (a : Str) (b : Int) : decide ((Sum.inr a : Key) = Sum.inl b) = false := decide_eq_false (fun q => nomatch q)

def mixKind (prog : Program) (w : World) : PySem.KeyKind prog w Key where
  is := keyIs
  hash := keyH w
  inj := fun v a b ha hb => by
    rcases keyIs_shape ha with ⟨i, t, rfl, rfl⟩ | ⟨x, t, rfl, rfl⟩
    · rcases keyIs_shape hb with ⟨j, u, rfl, e⟩ | ⟨y, u, rfl, e⟩
      · injection e with e1 _; rw [e1]
      · exact nomatch e
    · rcases keyIs_shape hb with ⟨j, u, rfl, e⟩ | ⟨y, u, rfl, e⟩
      · exact nomatch e
      · injection e with e1 _; rw [e1]
  byValue := fun k v h => by
    rcases keyIs_shape h with ⟨i, t, rfl, rfl⟩ | ⟨x, t, rfl, rfl⟩ <;> rfl
  pyHash := fun hv h => by
    rcases keyIs_shape hv with ⟨i, t, rfl, rfl⟩ | ⟨x, t, rfl, rfl⟩
    · exact wpAny_pyHash_int h
    · exact wpAny_pyHash_str h
  eqBool := fun hu hv h => by
    rcases keyIs_shape hu with ⟨i, t, rfl, rfl⟩ | ⟨x, t, rfl, rfl⟩
    · rcases keyIs_shape hv with ⟨j, u, rfl, rfl⟩ | ⟨y, u, rfl, rfl⟩
      · rw [key_ll] at h; exact wpAny_eqBool_int h
      · rw [key_lr] at h; exact SeqAt.EqAt.int_str i t y u _ _ _ _ h
    · rcases keyIs_shape hv with ⟨j, u, rfl, rfl⟩ | ⟨y, u, rfl, rfl⟩
      · rw [key_rl] at h; exact SeqAt.EqAt.str_int x t j u _ _ _ _ h
      · rw [key_rr] at h; exact wpAny_eqBool_str h
  «strs» := fun k x t v h => by
    rcases keyIs_shape h with ⟨i, u, rfl, e⟩ | ⟨y, u, rfl, e⟩
    · exact nomatch e
    · injection e with e1 _
      subst e1
      cases v <;> rfl

theorem mixKind_is (prog : Program) (w : World) (k : Key) (v : Value) : (mixKind prog w).is k v = keyIs k v := rfl
theorem mixKind_int (prog : Program) (w : World) (i : Int) (t : Tok) : (mixKind prog w).is (.inl i) (.int i t) = true := keyIs_int i t
theorem mixKind_str (prog : Program) (w : World) (x : Str) (t : Tok) : (mixKind prog w).is (.inr x) (.str x t) = true := keyIs_str x t
end L2

namespace L2
open PySem PySem.Spec PyProof.Rows

/-- a value, without the heap -/
inductive V where
  | non | bl (b : Bool) | int (i : Int) | str (x : Str) | byt (b : Array UInt8) | flt (b : UInt64) | ref (a : Addr) | ty (n : String)
  deriving DecidableEq

def RelV : V → Value → Prop
  | .non, u => u = Value.none
  | .bl b, u => u = Value.bool b
  | .int i, u => ∃ t, u = Value.int i t
  | .str x, u => ∃ t, u = Value.str x t
  | .byt b, u => ∃ t, u = Value.bytes b t
  | .flt b, u => ∃ t, u = Value.float b t
  | .ref a, u => u = Value.ref a
  | .ty n, u => u = Value.type n

abbrev Vals : List V → List Value → Prop := Paired RelV
theorem Vals.length {xs : List V} {us : List Value} (r : Vals xs us) : xs.length = us.length := Paired.length r
theorem Vals.get : ∀ {xs : List V} {us : List Value} {i : Nat} {x : V}, Vals xs us → xs[i]? = some x → ∃ u, us[i]? = some u ∧ RelV x u
  | _, _, _, _, .nil, e => by simp at e
  | _, _, 0, _, .cons r _, e => by simp at e; subst e; exact ⟨_, rfl, r⟩
  | _, _, i + 1, x, .cons _ t, e => by
    obtain ⟨u, h1, h2⟩ := Vals.get (i := i) (x := x) t (by simpa using e)
    exact ⟨u, by simpa using h1, h2⟩
theorem Vals.set {x : V} {u : Value} (r : RelV x u) : ∀ {xs : List V} {us : List Value} (i : Nat), Vals xs us → Vals (xs.set i x) (us.set i u)
  | _, _, _, .nil => .nil
  | _, _, 0, .cons _ t => .cons r t
  | _, _, i + 1, .cons q t => .cons q (Vals.set r i t)
theorem Vals.append : ∀ {xs ys : List V} {us ws : List Value}, Vals xs us → Vals ys ws → Vals (xs ++ ys) (us ++ ws)
  | _, _, _, _, .nil, s => s
  | _, _, _, _, .cons r t, s => .cons r (Vals.append t s)
theorem Vals.take : ∀ {xs : List V} {us : List Value} (n : Nat), Vals xs us → Vals (xs.take n) (us.take n)
  | _, _, 0, _ => .nil
  | _, _, _ + 1, .nil => .nil
  | _, _, n + 1, .cons r t => .cons r (Vals.take n t)
theorem Vals.drop : ∀ {xs : List V} {us : List Value} (n : Nat), Vals xs us → Vals (xs.drop n) (us.drop n)
  | _, _, 0, r => r
  | _, _, _ + 1, .nil => .nil
  | _, _, n + 1, .cons _ t => Vals.drop n t
theorem Vals.none_of : ∀ {xs : List V} {us : List Value} {i : Nat}, Vals xs us → xs[i]? = none → us[i]? = none := fun {xs us i} r e => by
  have h1 := r.length
  have h2 : xs.length ≤ i := List.getElem?_eq_none_iff.mp e
  exact List.getElem?_eq_none_iff.mpr (by omega)

def RelO : Option V → Option Value → Prop
  | some v, some u => RelV v u
  | none, none => True
  | _, _ => False
def KV {κ : Type} : List (κ × V) → List (κ × Value) → Prop := Paired fun (p : κ × V) (q : κ × Value) => p.1 = q.1 ∧ RelV p.2 q.2

/-- a key of a dict (00_mix): an int or a text -/
def kV : Key → V
  | .inl i => .int i
  | .inr x => .str x

/-- what stands at a tracked address -/
inductive HO where
  /-- a list -/
  | lst (xs : List V)
  /-- a tuple (never changes) -/
  | tup (xs : List V)
  /-- a dict whose keys are ints and texts; one whose keys are tuples of ints and texts (the empty one is both) -/
  | dK (kvs : List (Key × V)) | dT (kvs : List (List Key × V))
  /-- a set of ints: its members, its size -/
  | set (S : Int → Bool) (n : Nat)
  /-- an instance of the class at C, its dict at dx, its attributes -/
  | ins (C dx : Addr) (fs : List (Str × V))
  /-- the dict of the instance at x -/
  | own (x : Addr)
  /-- the dict of an exception -/
  | xd (fs : List (Str × V))
  /-- a bound method, f of x -/
  | met (f x : Addr)
  /-- a range object lo, lo + 1, .. below hi -/
  | rng (lo hi : Int)
  /-- a thing that is known to the object (the script; a dict while a loop walks it): read, never written while it is so -/
  | frz (o : Obj) (u : HO)
  /-- a code object's table -/
  | tbl (ps : Array Value)
  /-- any other thing, by what is true of its one object (a def of one's own: SetO a S n := HO.ext fun h => ..) -/
  | ext (φ : Heap → Prop)

abbrev Hp := Addr → Option HO
def upd (H : Hp) (a : Addr) (o : HO) : Hp := fun b => if b = a then some o else H b
theorem upd_same {H : Hp} {a : Addr} {o : HO} : upd H a o a = some o := by unfold upd; rw [if_pos rfl]
theorem upd_ne {H : Hp} {a b : Addr} {o : HO} (h : b ≠ a) : upd H a o b = H b := by unfold upd; rw [if_neg h]
theorem upd_upd {H : Hp} {a : Addr} {o u : HO} : upd (upd H a o) a u = upd H a u := by
  funext b; unfold upd; split <;> rfl
/-- two objects of different content stand apart -/
theorem ne_of {H : Hp} {a b : Addr} {o u : HO} (h : H a = some o) (h' : H b = some u) (d : o ≠ u) : a ≠ b := by
  intro e; subst e; rw [h] at h'; exact d (Option.some.inj h')
theorem ne_of_none {H : Hp} {a b : Addr} {o : HO} (h : H a = some o) (h' : H b = none) : a ≠ b := by
  intro e; subst e; rw [h] at h'; cases h'

section
variable (P : Program) (w : World)
def ObjOk (H : Hp) (h : Heap) (a : Addr) : HO → Prop
  | .lst xs => xs.length ≤ sizeLine ∧ ∃ (its : List Value) (n : Nat), Vals xs its ∧ h.get? a = some { cls := .type "list", data := .seq its.toArray n }
  | .tup xs => xs.length ≤ sizeLine ∧ ∃ its : List Value, Vals xs its ∧ IsTup h a its.toArray
  | .dK kvs => kvs.length ≤ sizeLine ∧ (a == sysModules) = false ∧ ∃ vs, KV kvs vs ∧ h.DictOf (mixKind P w) a vs
  | .dT kvs => kvs.length ≤ sizeLine ∧ (a == sysModules) = false ∧ ∃ xs : List (List Key × Addr × Value),
      Paired (fun (p : List Key × V) (q : List Key × Addr × Value) => p.1 = q.1 ∧ H q.2.1 = some (.tup (p.1.map kV)) ∧ RelV p.2 q.2.2) kvs xs ∧
      ∃ o es ep, h.get? a = some o ∧ o.ExactDict ∧ o.data = .dict es ep ∧ es.toList = xs.map (entryOfKey (tupleKind (mixKind P w))) ∧ (xs.map (·.1)).Nodup
  | .set S n => h.SetOf (intKind P w) a S n
  | .ins C dx fs => H dx = some (.own a) ∧ fs.length ≤ 1000 ∧ dx ≠ a ∧ h.get? a = some (PySem.W.instObj C dx) ∧
      ∃ mA, h.Ns1 dx mA ∧ (∀ f, RelO (fs.lookup f) (mA f)) ∧ PySem.Within mA (fs.map (·.1))
  | .own _ => ∃ o, h.get? a = some o
  | .xd fs => ∃ mA, h.Ns1 a mA ∧ ∀ f, RelO (fs.lookup f) (mA f)
  | .rng lo hi => ∃ t u v, h.get? a = some { cls := .type "range", data := .fields #[.int lo t, .int hi u, .int 1 v] }
  | .frz o u => h.get? a = some o ∧ ObjOk H h a u
  | .tbl ps => h.get? a = some { cls := .none, data := .fields ps }
  | .met f x => h.get? a = some (PySem.W.methodObj (.ref f) (.ref x))
  | .ext φ => φ h ∧ (∃ o, h.get? a = some o) ∧ ∀ h1 h2 : Heap, φ h1 → (∀ o, h1.get? a = some o → h2.get? a = some o) → φ h2
/-- the abstract heap is held -/
def HOk (H : Hp) (h : Heap) : Prop := ∀ a o, H a = some o → ObjOk P w H h a o
end

section
variable {P : Program} {w : World} {H H' : Hp} {h h' : Heap} {a : Addr} {o : HO}
theorem ObjOk.lt (x : ObjOk P w H h a o) : a < h.objs.size := by
  cases o with
  | lst xs => obtain ⟨_, _, _, _, e⟩ := x; exact Heap.lt_size e
  | tup xs => obtain ⟨_, _, _, p⟩ := x; exact p.lt
  | dK kvs => obtain ⟨_, _, _, _, o, _, _, e, _⟩ := x; exact Heap.lt_size e
  | dT kvs => obtain ⟨_, _, _, _, o, _, _, e, _⟩ := x; exact Heap.lt_size e
  | set S n => obtain ⟨o, _, _, _, e, _⟩ := x; exact Heap.lt_size e
  | ins C dx fs => obtain ⟨_, _, _, e, _⟩ := x; exact Heap.lt_size e
  | own y => obtain ⟨_, e⟩ := x; exact Heap.lt_size e
  | xd fs => obtain ⟨_, ⟨_, _, _, e, _⟩, _⟩ := x; exact Heap.lt_size e
  | rng lo hi => obtain ⟨_, _, _, e⟩ := x; exact Heap.lt_size e
  | frz ob u => obtain ⟨e, _⟩ := x; exact Heap.lt_size e
  | tbl ps => exact Heap.lt_size (show h.get? a = some _ from x)
  | met f y => exact Heap.lt_size (show h.get? a = some _ from x)
  | ext φ => obtain ⟨_, ⟨_, e⟩, _⟩ := x; exact Heap.lt_size e
theorem Paired.mapP {α β : Type} {F G : α → β → Prop} : ∀ {l₁ : List α} {l₂ : List β}, Paired F l₁ l₂ → (∀ a b, F a b → G a b) → Paired G l₁ l₂
  | _, _, .nil, _ => .nil
  | _, _, .cons r t, f => .cons (f _ _ r) (Paired.mapP t f)
theorem Paired.imp' {α β : Type} {F G : α → β → Prop} (f : ∀ a b, F a b → G a b) {l₁ : List α} {l₂ : List β} (r : Paired F l₁ l₂) : Paired G l₁ l₂ := Paired.mapP r f
/-- what an object's description leans on: its own object, its own dict, the tuples -/
theorem ObjOk.stay (x : ObjOk P w H h a o) (k : ∀ b u, (b = a ∨ H b = some (.own a)) → h.get? b = some u → h'.get? b = some u)
    (ho : ∀ b, H b = some (.own a) → H' b = some (.own a)) (ht : ∀ b xs, H b = some (.tup xs) → H' b = some (.tup xs)) : ObjOk P w H' h' a o := by
  induction o with
  | lst xs => obtain ⟨z, its, n, r, e⟩ := x; exact ⟨z, its, n, r, k _ _ (.inl rfl) e⟩
  | tup xs => obtain ⟨z, its, r, ob, e, c⟩ := x; exact ⟨z, its, r, ob, k _ _ (.inl rfl) e, c⟩
  | dK kvs => obtain ⟨z, y, vs, r, ob, es, ep, e, c⟩ := x; exact ⟨z, y, vs, r, ob, es, ep, k _ _ (.inl rfl) e, c⟩
  | dT kvs =>
    obtain ⟨z, y, xs, r, ob, es, ep, e, c⟩ := x
    exact ⟨z, y, xs, Paired.mapP r fun p q z => ⟨z.1, ht _ _ z.2.1, z.2.2⟩, ob, es, ep, k _ _ (.inl rfl) e, c⟩
  | set S n => obtain ⟨ob, es, ep, t, e, c⟩ := x; exact ⟨ob, es, ep, t, k _ _ (.inl rfl) e, c⟩
  | ins C dx fs =>
    obtain ⟨d, z, ne, e, mA, ⟨od, es, ep, e2, c⟩, r⟩ := x
    exact ⟨ho _ d, z, ne, k _ _ (.inl rfl) e, mA, ⟨od, es, ep, k _ _ (.inr d) e2, c⟩, r⟩
  | own y => obtain ⟨ob, e⟩ := x; exact ⟨ob, k _ _ (.inl rfl) e⟩
  | xd fs => obtain ⟨mA, ⟨od, es, ep, e, c⟩, r⟩ := x; exact ⟨mA, ⟨od, es, ep, k _ _ (.inl rfl) e, c⟩, r⟩
  | rng lo hi => obtain ⟨t, u, v, e⟩ := x; exact ⟨t, u, v, k _ _ (.inl rfl) e⟩
  | frz ob u ih => obtain ⟨e, q⟩ := x; exact ⟨k _ _ (.inl rfl) e, ih q⟩
  | tbl ps =>
    have e : h.get? a = some { cls := .none, data := .fields ps } := x
    show h'.get? a = some { cls := .none, data := .fields ps }
    exact k a _ (.inl rfl) e
  | met f y =>
    have e : h.get? a = some (PySem.W.methodObj (.ref f) (.ref y)) := x
    show h'.get? a = some (PySem.W.methodObj (.ref f) (.ref y))
    exact k a _ (.inl rfl) e
  | ext φ => obtain ⟨p, ⟨o, e⟩, st⟩ := x; exact ⟨st _ _ p fun o q => k _ _ (.inl rfl) q, ⟨o, k _ _ (.inl rfl) e⟩, st⟩
theorem HOk.lt (x : HOk P w H h) (e : H a = some o) : a < h.objs.size := (x a o e).lt
theorem HOk.fresh (x : HOk P w H h) (e : h.objs.size ≤ a) : H a = none := by
  cases q : H a with
  | none => rfl
  | some u => exact absurd (Nat.lt_of_lt_of_le (x.lt q) e) (Nat.lt_irrefl _)
/-- every object of the heap is kept -/
theorem HOk.kept (x : HOk P w H h) (k : ∀ b u, h.get? b = some u → h'.get? b = some u) : HOk P w H h' := fun a o e =>
  (x a o e).stay (fun b u _ q => k b u q) (fun _ q => q) fun _ _ q => q
/-- a new object is laid and tracked -/
theorem HOk.laid (x : HOk P w H h) (k : ∀ b u, h.get? b = some u → h'.get? b = some u) (hp : h.objs.size ≤ a) (new : ObjOk P w (upd H a o) h' a o) : HOk P w (upd H a o) h' := fun b u e => by
  have hn := x.fresh hp
  by_cases hb : b = a
  · subst hb; rw [upd_same] at e; cases e; exact new
  · rw [upd_ne hb] at e
    exact (x b u e).stay (fun c v _ q => k c v q) (fun c q => by rw [upd_ne (ne_of_none q hn)]; exact q) fun c xs q => by rw [upd_ne (ne_of_none q hn)]; exact q
end

/-- what may be read as u: it is u, or a known u -/
def Rd (H : Hp) (a : Addr) (u : HO) : Prop := H a = some u ∨ ∃ o, H a = some (.frz o u)
theorem Rd.of {H : Hp} {a : Addr} {u : HO} (h : H a = some u) : Rd H a u := .inl h
theorem Rd.ok {P : Program} {w : World} {H : Hp} {h : Heap} {a : Addr} {u : HO} (r : Rd H a u) (x : HOk P w H h) : ObjOk P w H h a u := by
  rcases r with r | ⟨o, r⟩
  · exact x a u r
  · obtain ⟨_, q⟩ := x a _ r
    exact q
/-- what may be written -/
def Mut : Option HO → Prop
  | some (.lst _) => True
  | some (.dK _) => True
  | some (.dT _) => True
  | some (.set _ _) => True
  | some (.ins _ _ _) => True
  | some (.ext _) => True
  | _ => False
section
variable {P : Program} {w : World} {H : Hp} {h h' : Heap} {x e : Addr} {o' : HO}
/-- the object at e is changed: x itself, or the dict of the instance x -/
theorem HOk.write (ok : HOk P w H h) (mu : Mut (H x)) (he : e = x ∨ H e = some (.own x)) (k : ∀ b u, b ≠ e → h.get? b = some u → h'.get? b = some u) (heo : ∃ u, h'.get? e = some u)
    (new : ObjOk P w (upd H x o') h' x o') : HOk P w (upd H x o') h' := fun b u q => by
  have nown : ∀ c y, H c = some (.own y) → c ≠ x := fun c y r z => by subst z; rw [r] at mu; exact mu
  have ntup : ∀ c xs, H c = some (.tup xs) → c ≠ x := fun c xs r z => by subst z; rw [r] at mu; exact mu
  by_cases hb : b = x
  · subst hb; rw [upd_same] at q; cases q; exact new
  · rw [upd_ne hb] at q
    by_cases hbe : b = e
    · have q' : H b = some (.own x) := by
        rcases he with z | z
        · exact absurd (hbe.trans z) hb
        · rw [hbe]; exact z
      rw [q] at q'; cases q'
      obtain ⟨v, hv⟩ := heo
      exact ⟨v, by rw [hbe]; exact hv⟩
    · refine (ok b u q).stay (fun c v hc r => k c v ?_ r) (fun c r => by rw [upd_ne (nown c b r)]; exact r) fun c xs r => by rw [upd_ne (ntup c xs r)]; exact r
      rcases hc with rfl | hc
      · exact hbe
      · rintro rfl
        rcases he with z | z
        · exact nown c b hc z
        · rw [hc] at z; cases z; exact hb rfl
end

/-! ### kept unless tracked; of the frames at fs (the callers') the slots may change (an exception that passes writes there); of the records at ex (iterators) nothing is said -/
structure Un (fs ex : List Addr) (H H' : Hp) (h h' : Heap) : Prop where
  keep : ∀ b o, h.get? b = some o → H b = none → b ∉ fs → b ∉ ex → h'.get? b = some o
  slot : ∀ b o, h.get? b = some o → H b = none → b ∈ fs → b ∉ ex → ∃ sl, h'.get? b = some { o with slots := sl }
  free : ∀ b o, h.get? b = some o → H b = none → b ∉ ex → H' b = none
  there : ∀ b o, h.get? b = some o → b ∉ ex → ∃ o', h'.get? b = some o'
  tups : ∀ b xs, H b = some (.tup xs) → H' b = some (.tup xs)
  frzs : ∀ b o u, H b = some (.frz o u) → H' b = some (.frz o u)
  tbls : ∀ b ps, H b = some (.tbl ps) → ∃ more, H' b = some (.tbl (ps ++ more))
section
variable {fs fs' ex ex' : List Addr} {H H1 H2 : Hp} {h h1 h2 h' : Heap} {a x e : Addr} {o : HO}
theorem Un.any (u : Un fs ex H H1 h h1) {b : Addr} {ob : Obj} (q : h.get? b = some ob) (n : H b = none) (hx : b ∉ ex) : ∃ sl, h1.get? b = some { ob with slots := sl } := by
  by_cases hb : b ∈ fs
  · exact u.slot b ob q n hb hx
  · exact ⟨ob.slots, u.keep b ob q n hb hx⟩
theorem Un.trans (a : Un fs ex H H1 h h1) (b : Un fs ex H1 H2 h1 h2) : Un fs ex H H2 h h2 where
  keep := fun c ob q n hc hx => b.keep c ob (a.keep c ob q n hc hx) (a.free c ob q n hx) hc hx
  slot := fun c ob q n hc hx => by
    obtain ⟨sl, e1⟩ := a.slot c ob q n hc hx
    obtain ⟨sl', e2⟩ := b.slot c _ e1 (a.free c ob q n hx) hc hx
    exact ⟨sl', e2⟩
  free := fun c ob q n hx => by
    obtain ⟨o', e1⟩ := a.there c ob q hx
    exact b.free c o' e1 (a.free c ob q n hx) hx
  there := fun c ob q hx => by
    obtain ⟨o', e1⟩ := a.there c ob q hx
    exact b.there c o' e1 hx
  tups := fun c xs q => b.tups c xs (a.tups c xs q)
  frzs := fun c ob xs q => b.frzs c ob xs (a.frzs c ob xs q)
  tbls := fun c ps q => by
    obtain ⟨m1, e1⟩ := a.tbls c ps q
    obtain ⟨m2, e2⟩ := b.tbls c _ e1
    exact ⟨m1 ++ m2, by rw [e2, Array.append_assoc]⟩
theorem Un.kept (k : ∀ b u, h.get? b = some u → h'.get? b = some u) : Un fs ex H H h h' :=
  ⟨fun b ob q _ _ _ => k b ob q, fun b ob q _ _ _ => ⟨ob.slots, k b ob q⟩, fun _ _ _ n _ => n, fun b ob q _ => ⟨ob, k b ob q⟩, fun _ _ q => q, fun _ _ _ q => q, fun _ ps q => ⟨#[], by rw [q]; simp⟩⟩
theorem Un.refl : Un fs ex H H h h := Un.kept fun _ _ q => q
theorem Un.laid (k : ∀ b u, h.get? b = some u → h'.get? b = some u) (hp : h.objs.size ≤ a) (hn : H a = none) : Un fs ex H (upd H a o) h h' where
  keep := fun b u q _ _ _ => k b u q
  slot := fun b u q _ _ _ => ⟨u.slots, k b u q⟩
  free := fun b u q n _ => by rw [upd_ne (Nat.ne_of_lt (Nat.lt_of_lt_of_le (Heap.lt_size q) hp))]; exact n
  there := fun b u q _ => ⟨u, k b u q⟩
  tups := fun b xs q => by rw [upd_ne (ne_of_none q hn)]; exact q
  frzs := fun b u xs q => by rw [upd_ne (ne_of_none q hn)]; exact q
  tbls := fun b ps q => ⟨#[], by rw [upd_ne (ne_of_none q hn), q]; simp⟩
theorem Un.write (mu : Mut (H x)) (he : e = x ∨ H e = some (.own x)) (k : ∀ b u, b ≠ e → h.get? b = some u → h'.get? b = some u) (heo : ∃ u, h'.get? e = some u) : Un fs ex H (upd H x o) h h' := by
  have hx : ∀ b, H b = none → b ≠ x := fun b n z => by subst z; rw [n] at mu; exact mu
  have hb : ∀ b, H b = none → b ≠ e := fun b n z => by
    subst z
    rcases he with r | r
    · exact hx b n r
    · rw [n] at r; cases r
  have hm : ∀ b u, H b = some u → ¬ Mut (some u) → b ≠ x := fun b u q nm z => by subst z; rw [q] at mu; exact nm mu
  refine ⟨fun b u q n _ _ => k b u (hb b n) q, fun b u q n _ _ => ⟨u.slots, k b u (hb b n) q⟩, fun b u q n _ => by rw [upd_ne (hx b n)]; exact n, fun b u q _ => ?_,
    fun b xs q => by rw [upd_ne (hm b _ q fun z => z)]; exact q, fun b u xs q => by rw [upd_ne (hm b _ q fun z => z)]; exact q, fun b ps q => ⟨#[], by rw [upd_ne (hm b _ q fun z => z), q]; simp⟩⟩
  by_cases hbe : b = e
  · subst hbe; exact heo
  · exact ⟨u, k b u hbe q⟩
theorem Un.mono (u : Un fs ex H H1 h h1) (hs : ∀ b ∈ fs, b ∈ fs') (hx : ∀ b ∈ ex, b ∈ ex') : Un fs' ex' H H1 h h1 :=
  ⟨fun b ob q n hb he => u.keep b ob q n (fun z => hb (hs b z)) fun z => he (hx b z), fun _ _ q n _ he => u.any q n fun z => he (hx _ z), fun b ob q n he => u.free b ob q n fun z => he (hx b z), fun b ob q he => u.there b ob q fun z => he (hx b z), u.tups, u.frzs, u.tbls⟩
end

/-! ### the heap without what is tracked -/
def trk (h : Heap) (H : Hp) : List Addr := (List.range h.objs.size).filter fun a => (H a).isSome
def hidT (h : Heap) (H : Hp) : Heap := PySem.W.hideAll h (trk h H)
theorem hidT_size (h : Heap) (H : Hp) : (hidT h H).objs.size = h.objs.size := PySem.W.hideAll_size _ _
theorem hidT_get {h : Heap} {H : Hp} {b : Addr} {o : Obj} (e : h.get? b = some o) (n : H b = none) : (hidT h H).get? b = some o :=
  PySem.W.hideAll_get _ e fun hm => by
    have q : (H b).isSome = true := (List.mem_filter.mp hm).2
    rw [n] at q; simp at q
theorem of_hidT {h : Heap} {H : Hp} {b : Addr} {o : Obj} (e : (hidT h H).get? b = some o) : h.get? b = some o ∧ H b = none := by
  have e' : h.get? b = some o := PySem.W.of_hideAll (trk h H) e
  refine ⟨e', ?_⟩
  cases q : H b with
  | none => rfl
  | some x =>
    have hm : b ∈ trk h H := List.mem_filter.mpr ⟨List.mem_range.mpr (Heap.lt_size e'), by simp [q]⟩
    have z : (hidT h H).get? b = none := PySem.W.hideAll_none (trk h H) hm
    rw [z] at e; cases e

/-! ### OpenK's ledger, filled with every new object but one -/
def allNews (g h : Heap) (L : Addr) : List (Addr × Obj) := (List.range h.objs.size).filterMap fun a => if a = L ∨ (g.get? a).isSome = true then none else (h.get? a).map fun o => (a, o)
theorem mem_allNews {g h : Heap} {L a : Addr} {o : Obj} (h1 : a ≠ L) (h2 : g.get? a = none) (h3 : h.get? a = some o) : (a, o) ∈ allNews g h L :=
  List.mem_filterMap.mpr ⟨a, List.mem_range.mpr (Heap.lt_size h3), by simp [h1, h2, h3]⟩
theorem of_mem_allNews {g h : Heap} {L : Addr} {p : Addr × Obj} (hp : p ∈ allNews g h L) : p.1 ≠ L ∧ g.get? p.1 = none ∧ h.get? p.1 = some p.2 := by
  obtain ⟨b, _, e⟩ := List.mem_filterMap.mp hp
  split at e
  · cases e
  · rename_i hn
    cases q : h.get? b with
    | none => rw [q] at e; simp at e
    | some u =>
      rw [q] at e
      simp only [Option.map_some, Option.some.injEq] at e
      subst e
      refine ⟨fun z => hn (.inl z), ?_, q⟩
      show g.get? b = none
      cases r : g.get? b with
      | none => rfl
      | some v => exact (hn (.inr (by simp [r]))).elim
def rest (g h : Heap) (L d : Addr) : List (Addr × Obj) := (allNews g h L).filter fun p => decide (p.1 ≠ d)
theorem rest_ne {g h : Heap} {L d : Addr} : ∀ p ∈ rest g h L d, p.1 ≠ d := fun p hp => of_decide_eq_true (List.mem_filter.mp hp).2
theorem mem_rest {g h : Heap} {L d a : Addr} {o : Obj} (h1 : a ≠ L) (h2 : g.get? a = none) (h3 : h.get? a = some o) (h4 : a ≠ d) : (a, o) ∈ rest g h L d :=
  List.mem_filter.mpr ⟨mem_allNews h1 h2 h3, decide_eq_true h4⟩
theorem news_all {g h : Heap} {L : Addr} : News g L h (allNews g h L) := fun p hp => let ⟨a, b, c⟩ := of_mem_allNews hp; ⟨c, a, b⟩
theorem news_at {g h : Heap} {L d : Addr} {o : Obj} (h1 : d ≠ L) (h2 : g.get? d = none) (h3 : h.get? d = some o) : News g L h ((d, o) :: rest g h L d) := fun p hp => by
  rcases List.mem_cons.mp hp with rfl | hp
  · exact ⟨h3, h1, h2⟩
  · exact news_all p (List.mem_filter.mp hp).1
/-- behind a rule that changed d alone: all else but the frame is kept -/
theorem kept_of_news {g h h' : Heap} {L d : Addr} {m : Str → Option Value} (k : ∀ b o, g.get? b = some o → h.get? b = some o) (F : Fr g L h' m) (N : News g L h' (rest g h L d)) :
    ∀ b o, b ≠ L → b ≠ d → h.get? b = some o → h'.get? b = some o := fun b o h1 h2 e => by
  cases q : g.get? b with
  | some u =>
    have := k b u q
    rw [e] at this; cases this
    exact F.keep b _ q
  | none => exact (N (b, o) (mem_rest h1 q e h2)).1
end L2

namespace L2
open PySem PySem.Spec PyProof.Rows

/-- the module's facts, over the base: the heap at the law's entry without what is tracked there -/
structure Mod (K : PySem.W.Frag) (mg : Str → Option Value) (base : Heap) : Prop where
  kin : K.In base
  glob : base.Ns mainGlobals mg
  blt : ∃ mb, base.Ns builtinsNs mb ∧ ∀ x : Str, x ≠ "__name__" → mb x = bootBuiltins x
  nolimit : base.NoLimit

/-- the context: a def's body (or a comprehension's block) running. base: fixed through the whole law; s₀, H₀: the entry; outer: the frames whose slots others may change (a def's callers); stack: all frames that run;
   ex: iterators that were made ahead of the entry and are walked here (a comprehension's); fn: the names whose cells were made at the entry (a def: all; a comprehension's block: its own); calm: not within an except suite; pn: pins that every state bears; xe: what is wanted of an exception that leaves the code -/
structure Cx where
  prog : Program
  w : World
  K : PySem.W.Frag
  mg : Str → Option Value
  base : Heap
  A : Around
  N : List Str
  s₀ : Shared
  H₀ : Hp
  env : Env
  outer : List Env
  stack : List Env
  ex : List Addr
  fn : Str → Bool
  calm : Bool
  pn : List (Addr × Obj)
  xe : Value → Shared → Prop
/-- the callers' frames -/
def frs (l : List Env) : List Addr := l.filterMap (·.frame)
abbrev Cx.fs (X : Cx) : List Addr := frs X.outer

def Vis (sc : Scope) (x : Str) : Prop := sc.names.lookup x = some .local ∨ sc.names.lookup x = some .cell ∨ sc.names.lookup x = some .free
def Loc (sc : Scope) (x : Str) : Prop := sc.names.lookup x = some .local ∨ sc.names.lookup x = some .cell
def Look (env : Env) (h : Heap) (m : Str → Option Value) (x : Str) (u : Value) : Prop :=
  (env.kindOf x = some .local ∧ m x = some u) ∨ ((env.kindOf x = some .cell ∨ env.kindOf x = some .free) ∧ ∃ c, env.cells.lookup x = some c ∧ h.IsCell c (some u))

structure Cx.Ok (X : Cx) : Prop where
  mod : Mod X.K X.mg X.base
  kind : X.env.scope.kind = .function
  glob : X.env.globals = mainGlobals
  blt : X.env.builtins = builtinsNs
  above : X.s₀.heap.objs.size ≤ X.env.locals
  inj : ∀ x y c, X.env.cells.lookup x = some c → X.env.cells.lookup y = some c → x = y
  has : ∀ x, (X.env.kindOf x = some .cell ∨ X.env.kindOf x = some .free) → ∃ c, X.env.cells.lookup x = some c
  cab : ∀ x c, X.fn x = true → X.env.cells.lookup x = some c → X.s₀.heap.objs.size ≤ c
  hd : X.calm = true → X.A.handled = none
  frames : X.A.frames = some X.stack
  stk : X.stack = X.outer ∨ (X.stack = X.env :: X.outer ∧ X.env.frame = some X.env.locals)
  exf : ∀ b ∈ X.ex, b ≠ X.env.locals ∧ ∀ x c, X.env.cells.lookup x = some c → c ≠ b
  bs : ∀ b o, X.base.get? b = some o → X.s₀.heap.get? b = some o ∧ X.H₀ b = none
  bsz : X.base.objs.size ≤ X.s₀.heap.objs.size
  noex : ∀ b o, X.base.get? b = some o → b ∉ X.ex
  exfs : ∀ b ∈ X.ex, b ∉ X.fs
  funs : X.s₀.heap.FunFrames X.base X.outer
  frf : ∀ b ∈ X.fs, X.H₀ b = none

structure Inv (X : Cx) (pins : List (Addr × Obj)) (σ : List (Option V)) (H : Hp) (s : Shared) : Prop where
  ok : X.Ok
  os : s.os = X.s₀.os
  bare : AllBare s.gens
  base : Un X.fs X.ex X.H₀ H X.s₀.heap s.heap
  loc : ∃ m, s.heap.Ns X.env.locals m ∧ ∀ (i : Nat) (x : Str) (v : V), X.N[i]? = some x → σ[i]? = some (some v) → Vis X.env.scope x → ∃ u, RelV v u ∧ Look X.env s.heap m x u
  cell : ∀ x c, X.env.cells.lookup x = some c → ∃ v, s.heap.IsCell c v
  free : H X.env.locals = none
  freeC : ∀ x c, X.env.cells.lookup x = some c → H c = none
  pin : ∀ p ∈ X.pn ++ pins, s.heap.get? p.1 = some p.2 ∧ H p.1 = none ∧ p.1 ≠ X.env.locals ∧ p.1 ∉ X.fs ∧ ∀ v, p.2.data ≠ .cell v
  hok : HOk X.prog X.w H s.heap
  len : σ.length = X.N.length

section
variable {X : Cx} {pins : List (Addr × Obj)} {σ : List (Option V)} {H H' : Hp} {s : Shared} {h' : Heap}

theorem Cx.Ok.nofr (ok : X.Ok) {b : Addr} {o : Obj} (e : X.base.get? b = some o) : b ∉ X.fs := fun hb => by
  have := (ok.funs.mem hb).1
  rw [e] at this; cases this
theorem Inv.bs (I : Inv X pins σ H s) : ∀ b o, X.base.get? b = some o → s.heap.get? b = some o ∧ H b = none := fun b o e =>
  ⟨I.base.keep b o (I.ok.bs b o e).1 (I.ok.bs b o e).2 (I.ok.nofr e) (I.ok.noex b o e), I.base.free b o (I.ok.bs b o e).1 (I.ok.bs b o e).2 (I.ok.noex b o e)⟩
theorem Inv.bk (I : Inv X pins σ H s) : ∀ b o, X.base.get? b = some o → s.heap.get? b = some o := fun b o e => (I.bs b o e).1
theorem Inv.mod (I : Inv X pins σ H s) : Mod X.K X.mg X.base := I.ok.mod
theorem Inv.kIn (I : Inv X pins σ H s) : X.K.In s.heap := I.ok.mod.kin.keeps I.bk
theorem Inv.nolimit (I : Inv X pins σ H s) : s.heap.NoLimit := I.ok.mod.nolimit.keeps I.bk
/-- the frame over the base: for OpenK's rules (K.In X.base is I.mod.kin) -/
theorem Inv.fr (I : Inv X pins σ H s) : ∃ m, Fr X.base X.env.locals s.heap m :=
  let ⟨m, hn, _⟩ := I.loc
  ⟨m, hn, I.bk, Nat.le_trans I.ok.bsz I.ok.above⟩
theorem Inv.lt (I : Inv X pins σ H s) : X.env.locals < s.heap.objs.size := let ⟨_, hn, _⟩ := I.loc; hn.lt
theorem Inv.sz (I : Inv X pins σ H s) : X.s₀.heap.objs.size ≤ s.heap.objs.size := Nat.le_trans I.ok.above (Nat.le_of_lt I.lt)
theorem Inv.nofs (I : Inv X pins σ H s) {a : Addr} (h : s.heap.objs.size ≤ a) : a ∉ X.fs := fun hb => by
  obtain ⟨_, o, ho, _⟩ := I.ok.funs.mem hb
  exact absurd (Nat.lt_of_lt_of_le (Heap.lt_size ho) (Nat.le_trans I.sz h)) (Nat.lt_irrefl _)
theorem Inv.cne (I : Inv X pins σ H s) : ∀ x c, X.env.cells.lookup x = some c → c ≠ X.env.locals := fun x c e z => by
  obtain ⟨v, o, ho, hd⟩ := I.cell x c e
  obtain ⟨m, ⟨o', es, ep, ho', hd', _⟩, _⟩ := I.loc
  rw [z, ho'] at ho; cases ho; rw [hd'] at hd; cases hd
theorem Inv.funs (I : Inv X pins σ H s) : s.heap.FunFrames X.base X.outer := by
  have all : ∀ (l : List Env), (∀ b ∈ frs l, b ∈ X.fs) → X.s₀.heap.FunFrames X.base l → s.heap.FunFrames X.base l := by
    intro l
    induction l with
    | nil => intro _ _; trivial
    | cons env r ih =>
      intro hs hl
      obtain ⟨hk, ⟨L, o, hf, hn, ho, hd⟩, hr⟩ := hl
      have hL : L ∈ X.fs := hs L (by unfold frs; rw [List.filterMap_cons, hf]; exact List.mem_cons_self)
      obtain ⟨sl, e⟩ := I.base.slot L o ho (I.ok.frf L hL) hL fun z => I.ok.exfs L z hL
      exact ⟨hk, ⟨L, _, hf, hn, e, hd⟩, ih (fun b hb => hs b (by unfold frs; rw [List.filterMap_cons, hf]; exact List.mem_cons_of_mem _ hb)) hr⟩
  exact all X.outer (fun _ hb => hb) I.ok.funs

/-- the frames that run, for a call -/
theorem Inv.stack (I : Inv X pins σ H s) : s.heap.FunFrames X.base X.stack := by
  rcases I.ok.stk with e | ⟨e, hf⟩
  · rw [e]; exact I.funs
  · rw [e]
    obtain ⟨m, hn, _⟩ := I.loc
    refine .cons (by rw [I.ok.kind]; decide) hf hn ?_ I.funs
    exact Heap.get?_none_of_le (Nat.le_trans I.ok.bsz I.ok.above)
theorem Inv.stkSub (I : Inv X pins σ H s) : ∀ b ∈ frs X.stack, b ∈ X.env.locals :: X.fs := fun b hb => by
  rcases I.ok.stk with e | ⟨e, hf⟩
  · rw [e] at hb; exact List.mem_cons_of_mem _ hb
  · rw [e] at hb
    unfold frs at hb
    rw [List.filterMap_cons, hf] at hb
    exact hb
theorem Inv.stkFree (I : Inv X pins σ H s) : ∀ b ∈ frs X.stack, H b = none := fun b hb => by
  rcases List.mem_cons.mp (I.stkSub b hb) with e | hb
  · rw [e]; exact I.free
  · obtain ⟨_, o, ho, _⟩ := I.ok.funs.mem hb
    exact I.base.free b o ho (I.ok.frf b hb) fun z => I.ok.exfs b z hb

/-- THE STEP: the untracked objects but the frame and the records at ch are kept (the callers' frames up to slots), the frame's map is kept, the new abstract heap is held -/
theorem Inv.step {g' : Array GenState} {t' : Nat} {d' : Drawn} {ch : List Addr} (I : Inv X pins σ H s)
    (hch : ∀ b ∈ ch, (b ∈ X.ex ∨ X.s₀.heap.objs.size ≤ b) ∧ b ≠ X.env.locals ∧ (∀ x c, X.env.cells.lookup x = some c → c ≠ b) ∧ ∀ p ∈ X.pn ++ pins, p.1 ≠ b)
    (keep : ∀ b o, b ≠ X.env.locals → b ∉ X.fs → b ∉ ch → s.heap.get? b = some o → H b = none → h'.get? b = some o)
    (slot : ∀ b o, b ≠ X.env.locals → b ∈ X.fs → b ∉ ch → s.heap.get? b = some o → H b = none → ∃ sl, h'.get? b = some { o with slots := sl }) (free : ∀ b o, b ∉ ch → s.heap.get? b = some o → H b = none → H' b = none)
    (there : ∀ b o, b ∉ ch → s.heap.get? b = some o → ∃ o', h'.get? b = some o')
    (tups : ∀ b xs, H b = some (.tup xs) → H' b = some (.tup xs)) (frzs : ∀ b o u, H b = some (.frz o u) → H' b = some (.frz o u)) (tbls : ∀ b ps, H b = some (.tbl ps) → ∃ more, H' b = some (.tbl (ps ++ more)))
    (ns : ∀ m, s.heap.Ns X.env.locals m → h'.Ns X.env.locals m) (hok : HOk X.prog X.w H' h') (hg : AllBare g') :
    Inv X pins σ H' { s with heap := h', gens := g', drawn := d', toks := t' } := by
  have neL : ∀ b o, X.s₀.heap.get? b = some o → b ≠ X.env.locals := fun b o e => Nat.ne_of_lt (Nat.lt_of_lt_of_le (Heap.lt_size e) I.ok.above)
  have neC : ∀ b o, X.s₀.heap.get? b = some o → b ∉ X.ex → b ∉ ch := fun b o e hx hb => by
    rcases (hch b hb).1 with z | z
    · exact hx z
    · exact absurd (Nat.lt_of_lt_of_le (Heap.lt_size e) z) (Nat.lt_irrefl _)
  have cellK : ∀ x c, X.env.cells.lookup x = some c → ∀ v, s.heap.IsCell c v → h'.IsCell c v := fun x c e v ⟨o, ho, hd⟩ => by
    have nch : c ∉ ch := fun z => (hch c z).2.2.1 x c e rfl
    by_cases hc : c ∈ X.fs
    · obtain ⟨sl, q⟩ := slot c o (I.cne x c e) hc nch ho (I.freeC x c e)
      exact ⟨_, q, hd⟩
    · exact ⟨o, keep c o (I.cne x c e) hc nch ho (I.freeC x c e), hd⟩
  refine ⟨I.ok, I.os, hg, ⟨fun b o e n hb hx => ?_, fun b o e n hb hx => ?_, fun b o e n hx => ?_, fun b o e hx => ?_, fun b xs e => tups b xs (I.base.tups b xs e), fun b o xs e => frzs b o xs (I.base.frzs b o xs e), fun b ps e => ?_⟩, ?_, fun x c e => ?_, ?_, fun x c e => ?_, fun p hp => ?_, hok, I.len⟩
  · exact keep b o (neL b o e) hb (neC b o e hx) (I.base.keep b o e n hb hx) (I.base.free b o e n hx)
  · obtain ⟨sl, e1⟩ := I.base.slot b o e n hb hx
    obtain ⟨sl', e2⟩ := slot b _ (neL b o e) hb (neC b o e hx) e1 (I.base.free b o e n hx)
    exact ⟨sl', e2⟩
  · obtain ⟨o', e1⟩ := I.base.there b o e hx
    exact free b o' (neC b o e hx) e1 (I.base.free b o e n hx)
  · obtain ⟨o', e1⟩ := I.base.there b o e hx
    exact there b o' (neC b o e hx) e1
  · obtain ⟨m1, e1⟩ := I.base.tbls b ps e
    obtain ⟨m2, e2⟩ := tbls b _ e1
    exact ⟨m1 ++ m2, by rw [e2, Array.append_assoc]⟩
  · obtain ⟨m, hn, hl⟩ := I.loc
    refine ⟨m, ns m hn, fun i x v e1 e2 e3 => ?_⟩
    obtain ⟨u, r, l⟩ := hl i x v e1 e2 e3
    refine ⟨u, r, ?_⟩
    rcases l with l | ⟨k, c, e, z⟩
    · exact .inl l
    · exact .inr ⟨k, c, e, cellK x c e _ z⟩
  · obtain ⟨v, z⟩ := I.cell x c e
    exact ⟨v, cellK x c e v z⟩
  · obtain ⟨m, ⟨o, _, _, ho, _⟩, _⟩ := I.loc
    exact free _ o (fun z => (hch _ z).2.1 rfl) ho I.free
  · obtain ⟨v, o, ho, hd⟩ := I.cell x c e
    exact free c o (fun z => (hch c z).2.2.1 x c e rfl) ho (I.freeC x c e)
  · obtain ⟨e, n, ne, nf, d⟩ := I.pin p hp
    have nch : p.1 ∉ ch := fun z => (hch p.1 z).2.2.2 p hp rfl
    exact ⟨keep p.1 p.2 ne nf nch e n, free p.1 p.2 nch e n, ne, nf, d⟩
/-- .. where the frame's own object is kept too -/
theorem Inv.un {t' : Nat} (I : Inv X pins σ H s) (u : Un X.fs [] H H' s.heap h') (hok : HOk X.prog X.w H' h') : Inv X pins σ H' { s with heap := h', toks := t' } := by
  obtain ⟨m, ⟨o, es, ep, ho, r⟩, _⟩ := id I.loc
  obtain ⟨sl, hL⟩ := u.any ho I.free (by simp)
  exact I.step (g' := s.gens) (d' := s.drawn) (ch := []) (fun _ z => nomatch z) (fun b o _ hb _ e n => u.keep b o e n hb (by simp)) (fun b o _ hb _ e n => u.slot b o e n hb (by simp)) (fun b o _ e n => u.free b o e n (by simp)) (fun b o _ e => u.there b o e (by simp)) u.tups u.frzs u.tbls (fun m' hm => by
    obtain ⟨o', es', ep', ho', r'⟩ := hm
    rw [ho] at ho'; cases ho'
    exact ⟨_, es', ep', hL, r'⟩) hok I.bare
/-- behind a call (or a comprehension's block): the slots of this frame may have changed too, the records at ch may have turned -/
theorem Inv.call {g' : Array GenState} {t' : Nat} {d' : Drawn} {ch : List Addr} (I : Inv X pins σ H s) (u : Un (frs X.stack) ch H H' s.heap h') (hok : HOk X.prog X.w H' h') (hg : AllBare g')
    (hch : ∀ b ∈ ch, (b ∈ X.ex ∨ X.s₀.heap.objs.size ≤ b) ∧ b ≠ X.env.locals ∧ (∀ x c, X.env.cells.lookup x = some c → c ≠ b) ∧ ∀ p ∈ X.pn ++ pins, p.1 ≠ b) :
    Inv X pins σ H' { s with heap := h', gens := g', drawn := d', toks := t' } := by
  obtain ⟨m, ⟨o, es, ep, ho, r⟩, _⟩ := id I.loc
  obtain ⟨sl, hL⟩ := u.any ho I.free fun z => (hch _ z).2.1 rfl
  exact I.step (ch := ch) hch (fun b o hL hb hc e n => u.keep b o e n (fun z => (List.mem_cons.mp (I.stkSub b z)).elim hL hb) hc) (fun b o _ _ hc e n => u.any e n hc) (fun b o hc e n => u.free b o e n hc) (fun b o hc e => u.there b o e hc) u.tups u.frzs u.tbls (fun m' hm => by
    obtain ⟨o', es', ep', ho', r'⟩ := hm
    rw [ho] at ho'; cases ho'
    exact ⟨_, es', ep', hL, r'⟩) hok hg
/-- an untracked record of ours (an iterator) has turned -/
theorem Inv.turned {t' : Nat} {it : Addr} (I : Inv X pins σ H s) (k : ∀ b o, b ≠ it → s.heap.get? b = some o → h'.get? b = some o) (hn : H it = none) (hL : it ≠ X.env.locals)
    (h1 : it ∈ X.ex ∨ X.s₀.heap.objs.size ≤ it) (h2 : ∀ x c, X.env.cells.lookup x = some c → c ≠ it) (h3 : ∀ p ∈ X.pn ++ pins, p.1 ≠ it) : Inv X pins σ H { s with heap := h', toks := t' } := by
  have nit : ∀ b u, H b = some u → b ≠ it := fun b u e z => by rw [z, hn] at e; cases e
  refine I.step (g' := s.gens) (d' := s.drawn) (ch := [it]) (fun b hb => ?_) (fun b o _ _ hc e _ => k b o (fun z => hc (by simp [z])) e) (fun b o _ _ hc e _ => ⟨o.slots, k b o (fun z => hc (by simp [z])) e⟩) (fun _ _ _ _ n => n)
    (fun b o hc e => ⟨o, k b o (fun z => hc (by simp [z])) e⟩) (fun _ _ e => e) (fun _ _ _ e => e) (fun b ps e => ⟨#[], by rw [e]; simp⟩) (fun m hm => ?_) (fun b u e => ?_) I.bare
  · have e : b = it := by simpa using hb
    subst e
    exact ⟨h1, hL, h2, h3⟩
  · obtain ⟨o, es, ep, ho, r⟩ := hm
    exact ⟨o, es, ep, k _ o (Ne.symm hL) ho, r⟩
  · refine (I.hok b u e).stay (fun c v hc q => k c v ?_ q) (fun _ q => q) fun _ _ q => q
    rcases hc with z | z
    · rw [z]; exact nit b u e
    · exact nit c _ z
theorem Inv.tok (I : Inv X pins σ H s) (t : Nat) : Inv X pins σ H { s with toks := t } := I.un (h' := s.heap) (t' := t) Un.refl I.hok
/-- all objects kept -/
theorem Inv.kept {t' : Nat} (I : Inv X pins σ H s) (k : ∀ b u, s.heap.get? b = some u → h'.get? b = some u) : Inv X pins σ H { s with heap := h', toks := t' } := I.un (Un.kept k) (I.hok.kept k)
/-- a new object laid and tracked -/
theorem Inv.laid {a : Addr} {o : HO} {t' : Nat} (I : Inv X pins σ H s) (k : ∀ b u, s.heap.get? b = some u → h'.get? b = some u) (hp : s.heap.objs.size ≤ a) (new : ObjOk X.prog X.w (upd H a o) h' a o) :
    Inv X pins σ (upd H a o) { s with heap := h', toks := t' } := I.un (Un.laid k hp (I.hok.fresh hp)) (I.hok.laid k hp new)
/-- an object written -/
theorem Inv.write {x e : Addr} {o : HO} {t' : Nat} (I : Inv X pins σ H s) (mu : Mut (H x)) (he : e = x ∨ H e = some (.own x)) (k : ∀ b u, b ≠ e → s.heap.get? b = some u → h'.get? b = some u) (heo : ∃ u, h'.get? e = some u)
    (new : ObjOk X.prog X.w (upd H x o) h' x o) : Inv X pins σ (upd H x o) { s with heap := h', toks := t' } := I.un (Un.write mu he k heo) (I.hok.write mu he k heo new)
/-- forgetting slots, pins -/
theorem Inv.weak {σ' : List (Option V)} (I : Inv X pins σ H s) (hl : σ'.length = σ.length) (w : ∀ (i : Nat) v, σ'[i]? = some (some v) → σ[i]? = some (some v)) : Inv X pins σ' H s :=
  ⟨I.ok, I.os, I.bare, I.base, let ⟨m, hn, hl'⟩ := I.loc; ⟨m, hn, fun i x v e1 e2 e3 => hl' i x v e1 (w i v e2) e3⟩, I.cell, I.free, I.freeC, I.pin, I.hok, hl.trans I.len⟩
theorem Inv.pins_of {pins' : List (Addr × Obj)} (I : Inv X pins σ H s) (h : ∀ p ∈ pins', s.heap.get? p.1 = some p.2 ∧ H p.1 = none ∧ p.1 ≠ X.env.locals ∧ p.1 ∉ X.fs ∧ ∀ v, p.2.data ≠ .cell v) : Inv X pins' σ H s :=
  ⟨I.ok, I.os, I.bare, I.base, I.loc, I.cell, I.free, I.freeC, fun p hp => (List.mem_append.mp hp).elim (fun z => I.pin p (List.mem_append_left _ z)) (h p), I.hok, I.len⟩

theorem nodup_ix {N : List Str} (hN : N.Nodup) {i j : Nat} {x : Str} (a : N[i]? = some x) (b : N[j]? = some x) : i = j := by
  obtain ⟨h1, e1⟩ := List.getElem?_eq_some_iff.mp a
  obtain ⟨h2, e2⟩ := List.getElem?_eq_some_iff.mp b
  exact (List.getElem_inj hN).mp (e1.trans e2.symm)

/-- a name is stored; what changed -/
theorem store_ok2 {M : Model} {A : Around} {E : Value → Shared → Prop} {i : Nat} {x : Str} {v : V} {u : Value} {Q : Unit → Shared → Prop} (I : Inv X pins σ H s) (hN : X.N.Nodup) (hi : X.N[i]? = some x) (hx : Loc X.env.scope x) (r : RelV v u)
    (h : ∀ s', Inv X pins (σ.set i (some v)) H s' → (∃ a, Heap.SameBut a s.heap s'.heap ∧ (a = X.env.locals ∨ X.env.cells.lookup x = some a)) → Q () s') (hf : X.fn x = true ∨ X.env.scope.names.lookup x = some .local := by first | exact .inl rfl | exact .inr rfl | assumption) : wpAny M A (storeName X.env x u) Q E s := by
  obtain ⟨m, hn, hl⟩ := id I.loc
  have hcls : (X.env.scope.kind == .class || (X.env.scope.kind == .module && X.env.locals != X.env.globals)) = false := by rw [I.ok.kind]; rfl
  have hiσ : i < σ.length := by rw [I.len]; exact (List.getElem?_eq_some_iff.mp hi).1
  have cne := I.cne
  have tracked : ∀ {a : Addr} {h' : Heap}, (∃ o, s.heap.get? a = some o ∧ H a = none) → Heap.SameBut a s.heap h' → HOk X.prog X.w H h' := fun {a h'} ha hs b ob e => by
    obtain ⟨_, _, hfree⟩ := ha
    refine (I.hok b ob e).stay (fun c w' hc q => (hs.2 c ?_).trans q) (fun _ q => q) fun _ _ q => q
    rintro rfl
    rcases hc with rfl | hc
    · rw [hfree] at e; cases e
    · rw [hfree] at hc; cases hc
  rcases hx with hk | hk
  · refine wpAny_storeName_local hk hn (fun h' hn' hs => ?_) hcls
    obtain ⟨oL, _, _, hoL, _⟩ := id hn
    refine h _ ⟨I.ok, I.os, I.bare, ⟨fun b o e n hb hx => ?_, fun b o e n hb hx => ?_, I.base.free, fun b o e hx => ?_, I.base.tups, I.base.frzs, I.base.tbls⟩, ⟨_, hn', fun j y v' e1 e2 e3 => ?_⟩, fun y c e => ?_, I.free, I.freeC, fun p hp => ?_, tracked ⟨oL, hoL, I.free⟩ hs, by simpa using I.len⟩ ⟨_, hs, .inl rfl⟩
    · exact (hs.2 b (Nat.ne_of_lt (Nat.lt_of_lt_of_le (Heap.lt_size e) I.ok.above))).trans (I.base.keep b o e n hb hx)
    · obtain ⟨sl, e1⟩ := I.base.slot b o e n hb hx
      exact ⟨sl, (hs.2 b (Nat.ne_of_lt (Nat.lt_of_lt_of_le (Heap.lt_size e) I.ok.above))).trans e1⟩
    · obtain ⟨o', e1⟩ := I.base.there b o e hx
      exact ⟨o', (hs.2 b (Nat.ne_of_lt (Nat.lt_of_lt_of_le (Heap.lt_size e) I.ok.above))).trans e1⟩
    · by_cases hj : j = i
      · subst hj
        rw [hi] at e1; cases e1
        rw [List.getElem?_set_self hiσ] at e2
        cases e2
        exact ⟨u, r, .inl ⟨hk, by simp⟩⟩
      · rw [List.getElem?_set_ne (Ne.symm hj)] at e2
        obtain ⟨u', r', q⟩ := hl j y v' e1 e2 e3
        refine ⟨u', r', ?_⟩
        rcases q with ⟨k, e⟩ | ⟨k, c, e, z⟩
        · refine .inl ⟨k, ?_⟩
          have : y ≠ x := fun e => hj (nodup_ix hN e1 (e ▸ hi))
          simp [this, e]
        · exact .inr ⟨k, c, e, z.sameBut hs (cne y c e)⟩
    · obtain ⟨w', z⟩ := I.cell y c e
      exact ⟨w', z.sameBut hs (cne y c e)⟩
    · obtain ⟨e, n, ne, nf, d⟩ := I.pin p hp
      exact ⟨(hs.2 p.1 ne).trans e, n, ne, nf, d⟩
  · have hfn : X.fn x = true := by
      rcases hf with z | z
      · exact z
      · rw [z] at hk; cases hk
    obtain ⟨c, hc⟩ := I.ok.has x (.inl hk)
    obtain ⟨w', z⟩ := I.cell x c hc
    refine wpAny_storeName_cell I.ok.kind hk hc z (fun h' hc' hs => ?_)
    obtain ⟨oc, hoc, hocd⟩ := id z
    refine h { s with heap := h' } ⟨I.ok, I.os, I.bare, ⟨fun b o e n hb hx => ?_, fun b o e n hb hx => ?_, I.base.free, fun b o e hx => ?_, I.base.tups, I.base.frzs, I.base.tbls⟩, ⟨m, hn.sameBut hs (Ne.symm (cne x c hc)), fun j y v' e1 e2 e3 => ?_⟩, fun y c' e => ?_, I.free, I.freeC, fun p hp => ?_, tracked ⟨oc, hoc, I.freeC x c hc⟩ hs, by simpa using I.len⟩ ⟨c, hs, .inr hc⟩
    · exact (hs.2 b (Nat.ne_of_lt (Nat.lt_of_lt_of_le (Heap.lt_size e) (I.ok.cab x c hfn hc)))).trans (I.base.keep b o e n hb hx)
    · obtain ⟨sl, e1⟩ := I.base.slot b o e n hb hx
      exact ⟨sl, (hs.2 b (Nat.ne_of_lt (Nat.lt_of_lt_of_le (Heap.lt_size e) (I.ok.cab x c hfn hc)))).trans e1⟩
    · obtain ⟨o', e1⟩ := I.base.there b o e hx
      exact ⟨o', (hs.2 b (Nat.ne_of_lt (Nat.lt_of_lt_of_le (Heap.lt_size e) (I.ok.cab x c hfn hc)))).trans e1⟩
    · by_cases hj : j = i
      · subst hj
        rw [hi] at e1; cases e1
        rw [List.getElem?_set_self hiσ] at e2
        cases e2
        exact ⟨u, r, .inr ⟨.inl hk, c, hc, hc'⟩⟩
      · rw [List.getElem?_set_ne (Ne.symm hj)] at e2
        obtain ⟨u', r', q⟩ := hl j y v' e1 e2 e3
        refine ⟨u', r', ?_⟩
        rcases q with q | ⟨k, c', e, z'⟩
        · exact .inl q
        · refine .inr ⟨k, c', e, z'.sameBut hs ?_⟩
          rintro rfl
          exact hj (nodup_ix hN e1 (I.ok.inj _ _ _ e hc ▸ hi))
    · by_cases hcc : c' = c
      · subst hcc; exact ⟨_, hc'⟩
      · obtain ⟨w2, z2⟩ := I.cell y c' e
        exact ⟨w2, z2.sameBut hs hcc⟩
    · obtain ⟨e, n, ne, nf, d⟩ := I.pin p hp
      refine ⟨(hs.2 p.1 ?_).trans e, n, ne, nf, d⟩
      intro q
      rw [q, hoc] at e
      have q' : oc = p.2 := Option.some.inj e
      exact d w' (by rw [← q']; exact hocd)
theorem store_ok {M : Model} {A : Around} {E : Value → Shared → Prop} {i : Nat} {x : Str} {v : V} {u : Value} {Q : Unit → Shared → Prop} (I : Inv X pins σ H s) (hN : X.N.Nodup) (hi : X.N[i]? = some x) (hx : Loc X.env.scope x) (r : RelV v u)
    (h : ∀ s', Inv X pins (σ.set i (some v)) H s' → Q () s') (hf : X.fn x = true ∨ X.env.scope.names.lookup x = some .local := by first | exact .inl rfl | exact .inr rfl | assumption) : wpAny M A (storeName X.env x u) Q E s :=
  store_ok2 I hN hi hx r (fun s' I' _ => h s' I') hf
/-- behind a call or a block, the state as it is -/
theorem Inv.call' {s' : Shared} {ch : List Addr} (I : Inv X pins σ H s) (ho : s'.os = s.os) (u : Un (frs X.stack) ch H H' s.heap s'.heap) (hok : HOk X.prog X.w H' s'.heap) (hg : AllBare s'.gens)
    (hch : ∀ b ∈ ch, (b ∈ X.ex ∨ X.s₀.heap.objs.size ≤ b) ∧ b ≠ X.env.locals ∧ (∀ x c, X.env.cells.lookup x = some c → c ≠ b) ∧ ∀ p ∈ X.pn ++ pins, p.1 ≠ b) : Inv X pins σ H' s' := by
  obtain ⟨h', g', d', t', o'⟩ := s'
  have e : o' = s.os := ho
  subst e
  exact I.call (g' := g') (t' := t') (d' := d') u hok hg hch
end

/-! ### the judgements -/
/-- an exception: its class, its own dict's address (where it has one), the abstract heap behind it -/
abbrev XK := Value → Option Addr → Hp → Prop
abbrev St := List (Option V)
abbrev VK := V → Hp → Prop
/-- an expression's reading; a test's; an argument list's -/
abbrev TE := St → Hp → VK → Prop
abbrev TT := St → Hp → (Bool → Hp → Prop) → Prop
abbrev TA := St → Hp → (List V → Hp → Prop) → Prop
/-- what is wanted behind a statement -/
structure Ends where
  nx : St → Hp → Prop
  rt : VK
  bk : St → Hp → Prop := fun _ _ => False
  ct : St → Hp → Prop := fun _ _ => False
abbrev TS := Ends → St → Hp → Prop

def EP (X : Cx) (pins : List (Addr × Obj)) (σ : St) (Q : VK) (u : Value) (s' : Shared) : Prop := ∃ v H', Inv X pins σ H' s' ∧ RelV v u ∧ Q v H'
def TP (X : Cx) (pins : List (Addr × Obj)) (σ : St) (Q : Bool → Hp → Prop) (b : Bool) (s' : Shared) : Prop := ∃ H', Inv X pins σ H' s' ∧ Q b H'
def AP (X : Cx) (pins : List (Addr × Obj)) (σ : St) (Q : List V → Hp → Prop) (us : List Value) (s' : Shared) : Prop := ∃ vs H', Inv X pins σ H' s' ∧ Vals vs us ∧ Q vs H'
def SP (X : Cx) (pins : List (Addr × Obj)) (D : Ends) (f : Flow) (s' : Shared) : Prop :=
  match f with
  | .next => ∃ σ' H', Inv X pins σ' H' s' ∧ D.nx σ' H'
  | .brk => ∃ σ' H', Inv X pins σ' H' s' ∧ D.bk σ' H'
  | .cont => ∃ σ' H', Inv X pins σ' H' s' ∧ D.ct σ' H'
  | .ret u => ∃ v σ' H', Inv X pins σ' H' s' ∧ RelV v u ∧ D.rt v H'

def PE (X : Cx) (e : Expr) (t : TE) : Prop :=
  ∀ (pins : List (Addr × Obj)) (s : Shared) (σ : St) (H : Hp) (Q : VK), Inv X pins σ H s → t σ H Q → wpAny (model X.prog X.w) X.A (eval e X.env) (EP X pins σ Q) X.xe s
def PT (X : Cx) (e : Expr) (t : TT) : Prop :=
  ∀ (pins : List (Addr × Obj)) (s : Shared) (σ : St) (H : Hp) (Q : Bool → Hp → Prop), Inv X pins σ H s → t σ H Q → wpAny (model X.prog X.w) X.A (isTrue e X.env (eval e X.env)) (TP X pins σ Q) X.xe s
/-- a test whatever its 'whole' is (and, or) -/
def PW (X : Cx) (e : Expr) (t : TT) : Prop :=
  ∀ (whole : Sem Value) (pins : List (Addr × Obj)) (s : Shared) (σ : St) (H : Hp) (Q : Bool → Hp → Prop), Inv X pins σ H s → t σ H Q → wpAny (model X.prog X.w) X.A (isTrue e X.env whole) (TP X pins σ Q) X.xe s
theorem PW.pt {X : Cx} {e : Expr} {t : TT} (h : PW X e t) : PT X e t := h _
/-- an argument list (no star), from the left -/
def PA (X : Cx) (es : List Expr) (t : TA) : Prop :=
  ∀ (pos : Pos) (pins : List (Addr × Obj)) (s : Shared) (σ : St) (H : Hp) (Q : List V → Hp → Prop), Inv X pins σ H s → t σ H Q → wpAny (model X.prog X.w) X.A (spliced (backTo pos (starEach es X.env))) (AP X pins σ Q) X.xe s
def PS (X : Cx) (st : Stmt) (t : TS) : Prop :=
  ∀ (pins : List (Addr × Obj)) (s : Shared) (σ : St) (H : Hp) (D : Ends), Inv X pins σ H s → t D σ H → wpAny (model X.prog X.w) X.A (exec st X.env) (SP X pins D) X.xe s
def PSs (X : Cx) (st : List Stmt) (t : TS) : Prop :=
  ∀ (pins : List (Addr × Obj)) (s : Shared) (σ : St) (H : Hp) (D : Ends), Inv X pins σ H s → t D σ H → wpAny (model X.prog X.w) X.A (execs st X.env) (SP X pins D) X.xe s
/-- weaken the end -/
theorem thn {α : Type} {t : Sem α} {Q Q' : α → Shared → Prop} {M : Model} {A : Around} {E : Value → Shared → Prop} {s : Shared} (h : wpAny M A t Q E s) (hQ : ∀ a s, Q a s → Q' a s) : wpAny M A t Q' E s := wpAny_mono h hQ fun _ _ x => x
end L2

namespace L2
open PySem PySem.Spec PyProof.Rows
section
variable {X : Cx}

/-- two expressions in a row -/
theorem bin {a b : Expr} {ta tb : TE} (ha : PE X a ta) (hb : PE X b tb) {pins : List (Addr × Obj)} {s : Shared} {σ : St} {H : Hp} {R : V → V → Hp → Prop} (I : Inv X pins σ H s) (h : ta σ H fun x H1 => tb σ H1 fun y H2 => R x y H2)
    {α : Type} {Q : α → Shared → Prop} {f : Value → Value → Sem α}
    (hf : ∀ v u s2 x y H2, Inv X pins σ H2 s2 → RelV x v → RelV y u → R x y H2 → wpAny (model X.prog X.w) X.A (f v u) Q X.xe s2) :
    wpAny (model X.prog X.w) X.A (eval a X.env) (fun v s₁ => wpAny (model X.prog X.w) X.A (eval b X.env) (fun u s₂ => wpAny (model X.prog X.w) X.A (f v u) Q X.xe s₂) X.xe s₁) X.xe s := by
  refine thn (ha pins s σ H _ I h) fun v s1 ⟨x, H1, I1, r1, q1⟩ => ?_
  refine thn (hb pins s1 σ H1 _ I1 q1) fun u s2 ⟨y, H2, I2, r2, q2⟩ => ?_
  exact hf v u s2 x y H2 I2 r1 r2 q2

/-! ### names and constants -/
def tVar (i : Nat) : TE := fun σ H Q => ∃ v, σ[i]? = some (some v) ∧ Q v H
def tC (v : V) : TE := fun _ H Q => Q v H
theorem pe_var {i : Nat} {x : Str} {pos : Pos} (hN : X.N[i]? = some x) (hv : Vis X.env.scope x) (hd : (x == ("__debug__" : Str)) = false := by decide) (hcd : (x == ("__classdict__" : Str)) = false := by decide) : PE X (.Name x pos) (tVar i) := by
  intro pins s σ H Q I h
  obtain ⟨v, e, h⟩ := h
  obtain ⟨m, hn, hl⟩ := I.loc
  obtain ⟨u, r, l⟩ := hl i x v hN e hv
  have fin : EP X pins σ Q u s := ⟨v, H, I, r, h⟩
  rcases l with ⟨hk, hm⟩ | ⟨hk, c, hc, hcell⟩
  · exact wpAny_Name (wpAny_loadName_local I.ok.kind hk hn hm fin) hd
  · rcases hk with hk | hk
    · exact wpAny_Name (wpAny_loadName_cell I.ok.kind hk hc hcell fin) hd
    · exact wpAny_Name (wpAny_loadName_free I.ok.kind hk hc hcell fin hcd) hd
theorem pe_int {i j pos} : PE X (.Constant (.int i) j pos) (tC (.int i)) := fun _ _ _ H _ I h => wpAny_Constant_int ⟨.int i, H, I.tok _, ⟨_, rfl⟩, h⟩
theorem pe_bl {b j pos} : PE X (.Constant (.bool b) j pos) (tC (.bl b)) := fun _ _ _ H _ I h => Constant_bool ⟨.bl b, H, I, rfl, h⟩
theorem pe_non {j pos} : PE X (.Constant .none j pos) (tC .non) := fun _ _ _ H _ I h => Constant_none ⟨.non, H, I, rfl, h⟩
theorem pe_str {x j pos} : PE X (.Constant (.str x) j pos) (tC (.str x)) := fun _ _ _ H _ I h => Calls.Constant_str ⟨.str x, H, I.tok _, ⟨_, rfl⟩, h⟩

/-- a global name of the def -/
def Gl (X : Cx) (x : Str) : Prop := X.env.kindOf x = some .globalImplicit
theorem ld_glob {E : Value → Shared → Prop} {pins : List (Addr × Obj)} {s : Shared} {σ : St} {H : Hp} {x : Str} {u : Value} {pos : Pos} {Q : Value → Shared → Prop} (I : Inv X pins σ H s) (hg : Gl X x) (hm : X.mg x = some u) (h : Q u s)
    (hd : (x == ("__debug__" : Str)) = false := by decide) : wpAny (model X.prog X.w) X.A (eval (.Name x pos) X.env) Q E s :=
  Calls.Name_function_global I.ok.kind hg (Calls.loadGlobal_global (by rw [I.ok.glob]; exact I.mod.glob.keeps I.bk) hm h) hd
theorem ld_blt {E : Value → Shared → Prop} {pins : List (Addr × Obj)} {s : Shared} {σ : St} {H : Hp} {x : Str} {u : Value} {pos : Pos} {Q : Value → Shared → Prop} (I : Inv X pins σ H s) (hg : Gl X x) (hm : X.mg x = none) (hv : bootBuiltins x = some u) (h : Q u s)
    (hn : x ≠ "__name__" := by decide) (hd : (x == ("__debug__" : Str)) = false := by decide) : wpAny (model X.prog X.w) X.A (eval (.Name x pos) X.env) Q E s := by
  obtain ⟨mb, h1, h2⟩ := I.mod.blt
  exact Calls.Name_function_global I.ok.kind hg (Calls.loadGlobal_builtin (by rw [I.ok.glob]; exact I.mod.glob.keeps I.bk) hm (by rw [I.ok.blt]; exact h1.keeps I.bk) ((h2 x hn).trans hv) h) hd
/-- a module's constant, a class, a function, as a value -/
theorem pe_glob {x : Str} {v : V} {u : Value} {pos : Pos} (hg : Gl X x) (hm : X.mg x = some u) (r : RelV v u) (hd : (x == ("__debug__" : Str)) = false := by decide) : PE X (.Name x pos) (tC v) :=
  fun _ _ _ H _ I h => ld_glob I hg hm ⟨v, H, I, r, h⟩ hd
theorem pe_bltn {x : Str} {v : V} {u : Value} {pos : Pos} (hg : Gl X x) (hm : X.mg x = none) (hv : bootBuiltins x = some u) (r : RelV v u) (hn : x ≠ "__name__" := by decide) (hd : (x == ("__debug__" : Str)) = false := by decide) : PE X (.Name x pos) (tC v) :=
  fun _ _ _ H _ I h => ld_blt I hg hm hv ⟨v, H, I, r, h⟩ hn hd

/-! ### arithmetic -/
/-- two ints -/
def t2I (ta tb : TE) (k : Int → Int → Hp → Prop) : St → Hp → Prop := fun σ H => ta σ H fun x H1 => tb σ H1 fun y H2 => ∃ i j, x = .int i ∧ y = .int j ∧ k i j H2
def tAdd (ta tb : TE) : TE := fun σ H Q => t2I ta tb (fun i j H2 => Q (.int (i + j)) H2) σ H
def tSub (ta tb : TE) : TE := fun σ H Q => t2I ta tb (fun i j H2 => Q (.int (i - j)) H2) σ H
/-- the left factor below 2^64 -/
def tMul (ta tb : TE) : TE := fun σ H Q => t2I ta tb (fun i j H2 => (-(2 ^ 64) < i ∧ i < 2 ^ 64) ∧ Q (.int (i * j)) H2) σ H
variable {a b : Expr} {ta tb : TE} {pos : Pos}
theorem pe_add (ha : PE X a ta) (hb : PE X b tb) : PE X (.BinOp a .Add b pos) (tAdd ta tb) := by
  intro pins s σ H Q I h
  refine wpAny_BinOp (bin ha hb I h fun v u s2 x y H2 I2 rx ry q => ?_)
  obtain ⟨i, j, rfl, rfl, q⟩ := q
  obtain ⟨t, rfl⟩ := rx
  obtain ⟨t', rfl⟩ := ry
  exact add_int ⟨.int _, H2, I2.tok _, ⟨_, rfl⟩, q⟩
theorem pe_sub (ha : PE X a ta) (hb : PE X b tb) : PE X (.BinOp a .Sub b pos) (tSub ta tb) := by
  intro pins s σ H Q I h
  refine wpAny_BinOp (bin ha hb I h fun v u s2 x y H2 I2 rx ry q => ?_)
  obtain ⟨i, j, rfl, rfl, q⟩ := q
  obtain ⟨t, rfl⟩ := rx
  obtain ⟨t', rfl⟩ := ry
  exact sub_int ⟨.int _, H2, I2.tok _, ⟨_, rfl⟩, q⟩
theorem pe_mul (ha : PE X a ta) (hb : PE X b tb) : PE X (.BinOp a .Mult b pos) (tMul ta tb) := by
  intro pins s σ H Q I h
  refine wpAny_BinOp (bin ha hb I h fun v u s2 x y H2 I2 rx ry q => ?_)
  obtain ⟨i, j, rfl, rfl, ⟨q1, q2⟩, q⟩ := q
  obtain ⟨t, rfl⟩ := rx
  obtain ⟨t', rfl⟩ := ry
  exact mul_int ⟨.int _, H2, I2.tok _, ⟨_, rfl⟩, q⟩ (.of_left (intBits_le_64 q1 q2))

/-! ### comparisons -/
def PC (X : Cx) (op : CmpOp) (a b : Expr) (t : TE) : Prop :=
  ∀ (pins : List (Addr × Obj)) (s : Shared) (σ : St) (H : Hp) (Q : VK), Inv X pins σ H s → t σ H Q →
    wpAny (model X.prog X.w) X.A (eval a X.env) (fun v s₁ => wpAny (model X.prog X.w) X.A (eval b X.env) (fun u s₂ => wpAny (model X.prog X.w) X.A (compareOp op v u) (EP X pins σ Q) X.xe s₂) X.xe s₁) X.xe s
theorem nobehind (b : Expr) {op : CmpOp} (h : op ≠ .In) (h2 : op ≠ .NotIn) : behindInMarks op b = false := by
  have e1 : (op == CmpOp.In) = false := by cases op <;> first | rfl | exact absurd rfl h
  have e2 : (op == CmpOp.NotIn) = false := by cases op <;> first | rfl | exact absurd rfl h2
  cases b <;> simp [behindInMarks, e1, e2]
def tCmp (p : Int → Int → Bool) (ta tb : TE) : TE := fun σ H Q => t2I ta tb (fun i j H2 => Q (.bl (p i j)) H2) σ H
abbrev tLt : TE → TE → TE := tCmp fun i j => decide (i < j)
abbrev tLe : TE → TE → TE := tCmp fun i j => decide (i ≤ j)
abbrev tGt : TE → TE → TE := tCmp fun i j => decide (j < i)
abbrev tGe : TE → TE → TE := tCmp fun i j => decide (j ≤ i)
abbrev tEqI : TE → TE → TE := tCmp fun i j => decide (i = j)
abbrev tNeI : TE → TE → TE := tCmp fun i j => !decide (i = j)
/-- a comparison of two ints, by its rule -/
theorem pc_int {op : CmpOp} {p : Int → Int → Bool} (ha : PE X a ta) (hb : PE X b tb)
    (rule : ∀ (i j : Int) (t u : Tok) (Q : Value → Shared → Prop) (s : Shared), Q (.bool (p i j)) s → wpAny (model X.prog X.w) X.A (compareOp op (.int i t) (.int j u)) Q X.xe s) : PC X op a b (tCmp p ta tb) := by
  intro pins s σ H Q I h
  refine bin ha hb I h fun v u s2 x y H2 I2 rx ry q => ?_
  obtain ⟨i, j, rfl, rfl, q⟩ := q
  obtain ⟨t, rfl⟩ := rx
  obtain ⟨t', rfl⟩ := ry
  exact rule i j t t' _ s2 ⟨.bl _, H2, I2, rfl, q⟩
theorem pc_lt (ha : PE X a ta) (hb : PE X b tb) : PC X .Lt a b (tLt ta tb) := pc_int ha hb fun _ _ _ _ _ _ h => lt_int h
theorem pc_le (ha : PE X a ta) (hb : PE X b tb) : PC X .LtE a b (tLe ta tb) := pc_int ha hb fun _ _ _ _ _ _ h => le_int h
theorem pc_gt (ha : PE X a ta) (hb : PE X b tb) : PC X .Gt a b (tGt ta tb) := pc_int ha hb fun _ _ _ _ _ _ h => gt_int h
theorem pc_ge (ha : PE X a ta) (hb : PE X b tb) : PC X .GtE a b (tGe ta tb) := pc_int ha hb fun _ _ _ _ _ _ h => ge_int h
theorem pc_eqI (ha : PE X a ta) (hb : PE X b tb) : PC X .Eq a b (tEqI ta tb) := pc_int ha hb fun _ _ _ _ _ _ h => eq_int (by rw [Bool.beq_eq_decide_eq]; exact h)
theorem pc_neI (ha : PE X a ta) (hb : PE X b tb) : PC X .NotEq a b (tNeI ta tb) := pc_int ha hb fun _ _ _ _ _ _ h => ne_int (by rw [bne, Bool.beq_eq_decide_eq]; exact h)
/-- is None -/
def tIsN (ta : TE) : TE := fun σ H Q => ta σ H fun x H1 => Q (.bl (decide (x = .non))) H1
def tNotN (ta : TE) : TE := fun σ H Q => ta σ H fun x H1 => Q (.bl (!decide (x = .non))) H1
theorem RelV.none_iff {x : V} {v : Value} (r : RelV x v) : (v == Value.none) = decide (x = .non) := by
  cases x with
  | non => cases r; rfl
  | bl _ => cases r; rfl
  | int _ => obtain ⟨t, rfl⟩ := r; rfl
  | str _ => obtain ⟨t, rfl⟩ := r; rfl
  | byt _ => obtain ⟨t, rfl⟩ := r; rfl
  | flt _ => obtain ⟨t, rfl⟩ := r; rfl
  | ref _ => cases r; rfl
  | ty _ => cases r; rfl
theorem pc_isN {j pos'} (ha : PE X a ta) : PC X .Is a (.Constant .none j pos') (tIsN ta) := by
  intro pins s σ H Q I h
  refine thn (ha pins s σ H _ I h) fun v s1 ⟨x, H1, I1, r1, q1⟩ => ?_
  exact Constant_none (is_none_gen ⟨.bl _, H1, I1, by rw [r1.none_iff]; rfl, q1⟩)
theorem pc_notN {j pos'} (ha : PE X a ta) : PC X .IsNot a (.Constant .none j pos') (tNotN ta) := by
  intro pins s σ H Q I h
  refine thn (ha pins s σ H _ I h) fun v s1 ⟨x, H1, I1, r1, q1⟩ => ?_
  exact Constant_none (isnot_none_gen ⟨.bl _, H1, I1, by rw [r1.none_iff]; rfl, q1⟩)
/-- a comparison as a value, as a test -/
def tB (t : TE) : TT := fun σ H Q => t σ H fun x H1 => ∃ c, x = .bl c ∧ Q c H1
theorem pe_cmp {op : CmpOp} {t : TE} (h : PC X op a b t) (h1 : behindInMarks op b = false := by first | exact nobehind _ (by decide) (by decide) | rfl) : PE X (.Compare a [op] [b] pos) t := fun pins s σ H Q I hw => wpAny_Compare1 (h pins s σ H Q I hw) h1
theorem pt_cmp {op : CmpOp} {t : TE} (h : PC X op a b t) (h1 : behindInMarks op b = false := by first | exact nobehind _ (by decide) (by decide) | rfl) : PT X (.Compare a [op] [b] pos) (tB t) := by
  intro pins s σ H Q I hw
  refine wpAny_isTrue_Compare1 (thn (h pins s σ H _ I hw) fun v s1 h1 => thn h1 fun u s2 h2 => thn h2 fun c s3 ⟨x, H1, I1, r1, q1⟩ => ?_) h1
  obtain ⟨d, rfl, q⟩ := q1
  cases r1
  exact wpAny_truthy_bool ⟨H1, I1, q⟩
/-- an expression whose value is a bool, as a test -/
theorem pt_val {e : Expr} {t : TE} (h : PE X e t) (he : ∀ whole, isTrue e X.env whole = (do let v ← whole; standAt e.pos; holding [v] (truthy v)) := by intro _; rfl) : PT X e (tB t) := by
  intro pins s σ H Q I hw
  refine isTrue_plain (thn (h pins s σ H _ I hw) fun v s1 ⟨x, H1, I1, r1, q1⟩ => ?_) (he _)
  obtain ⟨d, rfl, q⟩ := q1
  cases r1
  exact wpAny_truthy_bool ⟨H1, I1, q⟩

/-! ### and, or, not -/
variable {tA tB' : TT} {rest : List Expr}
def tAnd (t u : TT) : TT := fun σ H Q => t σ H fun c H1 => if c = true then u σ H1 Q else Q false H1
def tOr (t u : TT) : TT := fun σ H Q => t σ H fun c H1 => if c = true then Q true H1 else u σ H1 Q
def tNot (t : TT) : TT := fun σ H Q => t σ H fun c H1 => Q (!c) H1
theorem pw_and1 (ha : PT X a tA) : PW X (.BoolOp .And [a] pos) tA := by
  intro wh pins s σ H Q I h
  refine isTrue_and (thn (ha pins s σ H Q I h) fun c s1 e => ?_)
  cases c with
  | true => exact isTrue_and_nil e
  | false => exact e
theorem pw_or1 (ha : PT X a tA) : PW X (.BoolOp .Or [a] pos) tA := by
  intro wh pins s σ H Q I h
  refine isTrue_or (thn (ha pins s σ H Q I h) fun c s1 e => ?_)
  cases c with
  | false => exact isTrue_or_nil e
  | true => exact e
theorem pw_and (ha : PT X a tA) (hb : PW X (.BoolOp .And (b :: rest) pos) tB') : PW X (.BoolOp .And (a :: b :: rest) pos) (tAnd tA tB') := by
  intro wh pins s σ H Q I h
  refine isTrue_and (thn (ha pins s σ H _ I h) fun c s1 ⟨H1, I1, q1⟩ => ?_)
  cases c with
  | true => exact hb wh pins s1 σ H1 Q I1 q1
  | false => exact ⟨H1, I1, q1⟩
theorem pw_or (ha : PT X a tA) (hb : PW X (.BoolOp .Or (b :: rest) pos) tB') : PW X (.BoolOp .Or (a :: b :: rest) pos) (tOr tA tB') := by
  intro wh pins s σ H Q I h
  refine isTrue_or (thn (ha pins s σ H _ I h) fun c s1 ⟨H1, I1, q1⟩ => ?_)
  cases c with
  | true => exact ⟨H1, I1, q1⟩
  | false => exact hb wh pins s1 σ H1 Q I1 q1
theorem pt_not (ha : PT X a tA) : PT X (.UnaryOp .Not a pos) (tNot tA) := by
  intro pins s σ H Q I h
  exact isTrue_not (ha pins s σ H (fun c H1 => Q (!c) H1) I h)
/-- .. as values (bools) -/
def tAndV (ta tb : TE) : TE := fun σ H Q => ta σ H fun x H1 => ∃ c, x = .bl c ∧ if c = true then tb σ H1 Q else Q (.bl false) H1
def tOrV (ta tb : TE) : TE := fun σ H Q => ta σ H fun x H1 => ∃ c, x = .bl c ∧ if c = true then Q (.bl true) H1 else tb σ H1 Q
def tNotV (ta : TE) : TE := fun σ H Q => ta σ H fun x H1 => ∃ c, x = .bl c ∧ Q (.bl (!c)) H1
theorem pe_one {op} {t : TE} (h : PE X a t) : PE X (.BoolOp op [a] pos) t := fun pins s σ H Q I hw => BoolOp_one (h pins s σ H Q I hw)
theorem pe_and (ha : PE X a ta) (hb : PE X (.BoolOp .And (b :: rest) pos) tb) : PE X (.BoolOp .And (a :: b :: rest) pos) (tAndV ta tb) := by
  intro pins s σ H Q I h
  refine BoolOp_and (thn (ha pins s σ H _ I h) fun v s1 ⟨x, H1, I1, r1, q1⟩ => ?_)
  obtain ⟨c, rfl, q1⟩ := q1
  cases r1
  refine wpAny_truthy_bool ?_
  cases c with
  | true => exact hb pins s1 σ H1 Q I1 q1
  | false => exact ⟨.bl false, H1, I1, rfl, q1⟩
theorem pe_or (ha : PE X a ta) (hb : PE X (.BoolOp .Or (b :: rest) pos) tb) : PE X (.BoolOp .Or (a :: b :: rest) pos) (tOrV ta tb) := by
  intro pins s σ H Q I h
  refine BoolOp_or (thn (ha pins s σ H _ I h) fun v s1 ⟨x, H1, I1, r1, q1⟩ => ?_)
  obtain ⟨c, rfl, q1⟩ := q1
  cases r1
  refine wpAny_truthy_bool ?_
  cases c with
  | false => exact hb pins s1 σ H1 Q I1 q1
  | true => exact ⟨.bl true, H1, I1, rfl, q1⟩
theorem pe_not (ha : PE X a ta) : PE X (.UnaryOp .Not a pos) (tNotV ta) := by
  intro pins s σ H Q I h
  refine UnaryOp_ (thn (ha pins s σ H _ I h) fun v s1 ⟨x, H1, I1, r1, q1⟩ => ?_)
  obtain ⟨c, rfl, q1⟩ := q1
  cases r1
  exact not_of (wpAny_truthy_bool ⟨.bl (!c), H1, I1, rfl, q1⟩)
/-- a if t else b -/
def tIf (t : TT) (ta tb : TE) : TE := fun σ H Q => t σ H fun c H1 => if c = true then ta σ H1 Q else tb σ H1 Q
theorem pe_ifExp {c : Expr} (hc : PT X c tA) (ha : PE X a ta) (hb : PE X b tb) : PE X (.IfExp c a b pos) (tIf tA ta tb) := by
  intro pins s σ H Q I h
  refine wpAny_IfExp (thn (hc pins s σ H _ I h) fun d s1 ⟨H1, I1, q1⟩ => ?_)
  cases d with
  | true => exact ha pins s1 σ H1 Q I1 q1
  | false => exact hb pins s1 σ H1 Q I1 q1
end
end L2

namespace L2
open PySem PySem.Spec PyProof.Rows

/-! ### a list, a tuple that is read: tracked, frozen, or an object of the module -/
def SqL (K : PySem.W.Frag) (H : Hp) (a : Addr) (xs : List V) : Prop :=
  Rd H a (.lst xs) ∨
    ∃ (o : Obj) (its : Array Value) (n : Nat), K.lookup a = some o ∧ o.cls = .type "list" ∧ o.dict = none ∧ o.data = .seq its n ∧ its.size ≤ sizeLine ∧ Vals xs its.toList
def SqT (K : PySem.W.Frag) (H : Hp) (a : Addr) (xs : List V) : Prop :=
  Rd H a (.tup xs) ∨
    ∃ (o : Obj) (its : Array Value) (n : Nat), K.lookup a = some o ∧ o.cls = .type "tuple" ∧ o.data = .seq its n ∧ its.size ≤ sizeLine ∧ Vals xs its.toList
def absV : Value → Option V
  | .none => some .non
  | .bool b => some (.bl b)
  | .int i _ => some (.int i)
  | .str x _ => some (.str x)
  | .bytes b _ => some (.byt b)
  | .float b _ => some (.flt b)
  | .ref a => some (.ref a)
  | .type n => some (.ty n)
  | _ => none
theorem RelV.abs {x : V} {u : Value} (r : RelV x u) : absV u = some x := by
  cases x with
  | non => cases r; rfl
  | bl _ => cases r; rfl
  | int _ => obtain ⟨t, rfl⟩ := r; rfl
  | str _ => obtain ⟨t, rfl⟩ := r; rfl
  | byt _ => obtain ⟨t, rfl⟩ := r; rfl
  | flt _ => obtain ⟨t, rfl⟩ := r; rfl
  | ref _ => cases r; rfl
  | ty _ => cases r; rfl
theorem RelV.inj {x y : V} {u : Value} (r : RelV x u) (q : RelV y u) : x = y := Option.some.inj (r.abs.symm.trans q.abs)
theorem Vals.inj : ∀ {xs ys : List V} {us : List Value}, Vals xs us → Vals ys us → xs = ys
  | _, _, _, .nil, .nil => rfl
  | _, _, _, .cons r t, .cons r' t' => by rw [r.inj r', Vals.inj t t']
section
variable {X : Cx} {pins : List (Addr × Obj)} {σ : St} {H : Hp} {s : Shared} {a : Addr} {xs ys : List V}
theorem SqL.of {K : PySem.W.Frag} (h : H a = some (.lst xs)) : SqL K H a xs := .inl (.inl h)
theorem SqT.of {K : PySem.W.Frag} (h : H a = some (.tup xs)) : SqT K H a xs := .inl (.inl h)
theorem Inv.list (I : Inv X pins σ H s) (h : SqL X.K H a xs) : ∃ its : List Value, Vals xs its ∧ PlainL s.heap a its.toArray ∧ xs.length ≤ sizeLine := by
  rcases h with h | ⟨o, its, n, hk, hc, hd, hs, hz, r⟩
  · obtain ⟨z, its, n, r, e⟩ := h.ok I.hok
    exact ⟨its, r, ⟨_, n, e, rfl, rfl, rfl⟩, z⟩
  · refine ⟨its.toList, r, ⟨o, n, I.kIn a o hk, hc, hd, by simpa using hs⟩, ?_⟩
    have e := r.length
    simp only [Array.length_toList] at e
    omega
theorem Inv.tuple (I : Inv X pins σ H s) (h : SqT X.K H a xs) : ∃ its : List Value, Vals xs its ∧ IsTup s.heap a its.toArray ∧ xs.length ≤ sizeLine := by
  rcases h with h | ⟨o, its, n, hk, hc, hs, hz, r⟩
  · obtain ⟨z, its, r, p⟩ := h.ok I.hok
    exact ⟨its, r, p, z⟩
  · refine ⟨its.toList, r, ⟨o, I.kIn a o hk, hc, n, by simpa using hs⟩, ?_⟩
    have e := r.length
    simp only [Array.length_toList] at e
    omega
theorem Inv.list_inj (I : Inv X pins σ H s) (h : SqL X.K H a xs) (h' : SqL X.K H a ys) : xs = ys := by
  obtain ⟨its, r, ⟨o, n, e, _, _, d⟩, _⟩ := I.list h
  obtain ⟨its', r', ⟨o', n', e', _, _, d'⟩, _⟩ := I.list h'
  rw [e] at e'; cases e'
  rw [d] at d'
  injection d' with d1 _
  have : its = its' := by simpa using congrArg Array.toList d1
  subst this
  exact r.inj r'
theorem Inv.tuple_inj (I : Inv X pins σ H s) (h : SqT X.K H a xs) (h' : SqT X.K H a ys) : xs = ys := by
  obtain ⟨its, r, ⟨o, e, _, n, d⟩, _⟩ := I.tuple h
  obtain ⟨its', r', ⟨o', e', _, n', d'⟩, _⟩ := I.tuple h'
  rw [e] at e'; cases e'
  rw [d] at d'
  injection d' with d1 _
  have : its = its' := by simpa using congrArg Array.toList d1
  subst this
  exact r.inj r'
end

/-! ### another wish about exceptions -/
abbrev Cx.wish (X : Cx) (E : Value → Shared → Prop) : Cx := { X with xe := E }
/-- no exception leaves -/
abbrev Cx.nox (X : Cx) : Cx := X.wish fun _ _ => False
theorem Cx.Ok.wish {X : Cx} (ok : X.Ok) (E : Value → Shared → Prop) : (X.wish E).Ok :=
  ⟨ok.mod, ok.kind, ok.glob, ok.blt, ok.above, ok.inj, ok.has, ok.cab, ok.hd, ok.frames, ok.stk, ok.exf, ok.bs, ok.bsz, ok.noex, ok.exfs, ok.funs, ok.frf⟩
theorem Cx.Ok.unwish {X : Cx} {E : Value → Shared → Prop} (ok : (X.wish E).Ok) : X.Ok :=
  ⟨ok.mod, ok.kind, ok.glob, ok.blt, ok.above, ok.inj, ok.has, ok.cab, ok.hd, ok.frames, ok.stk, ok.exf, ok.bs, ok.bsz, ok.noex, ok.exfs, ok.funs, ok.frf⟩
section
variable {X : Cx} {pins : List (Addr × Obj)} {σ : St} {H : Hp} {s : Shared} {E : Value → Shared → Prop}
theorem Inv.wish (I : Inv X pins σ H s) (E : Value → Shared → Prop) : Inv (X.wish E) pins σ H s := ⟨I.ok.wish E, I.os, I.bare, I.base, I.loc, I.cell, I.free, I.freeC, I.pin, I.hok, I.len⟩
theorem Inv.unwish (I : Inv (X.wish E) pins σ H s) : Inv X pins σ H s := ⟨I.ok.unwish, I.os, I.bare, I.base, I.loc, I.cell, I.free, I.freeC, I.pin, I.hok, I.len⟩
theorem SP.unwish {D : Ends} {f : Flow} {s' : Shared} (h : SP (X.wish E) pins D f s') : SP X pins D f s' := by
  cases f with
  | next => obtain ⟨σ', H', I, q⟩ := h; exact ⟨σ', H', I.unwish, q⟩
  | brk => obtain ⟨σ', H', I, q⟩ := h; exact ⟨σ', H', I.unwish, q⟩
  | cont => obtain ⟨σ', H', I, q⟩ := h; exact ⟨σ', H', I.unwish, q⟩
  | ret u => obtain ⟨v, σ', H', I, r, q⟩ := h; exact ⟨v, σ', H', I.unwish, r, q⟩
theorem PE.nox {e : Expr} {t : TE} (h : PE X.nox e t) : PE X e t := fun pins s σ H Q I hw =>
  wpAny_mono (h pins s σ H Q (I.wish _) hw) (fun _ _ ⟨v, H', I', r, q⟩ => ⟨v, H', I'.unwish, r, q⟩) fun _ _ z => False.elim z
theorem PT.nox {e : Expr} {t : TT} (h : PT X.nox e t) : PT X e t := fun pins s σ H Q I hw =>
  wpAny_mono (h pins s σ H Q (I.wish _) hw) (fun _ _ ⟨H', I', q⟩ => ⟨H', I'.unwish, q⟩) fun _ _ z => False.elim z
theorem PSs.nox {st : List Stmt} {t : TS} (h : PSs X.nox st t) : PSs X st t := fun pins s σ H D I hw =>
  wpAny_mono (h pins s σ H D (I.wish _) hw) (fun _ _ q => q.unwish) fun _ _ z => False.elim z
end

/-! ### blocks and small statements -/
section
variable {X : Cx} {st : Stmt} {rest : List Stmt} {t u : TS} {e : Expr} {te : TE} {pos : Pos}
def tNext : TS := fun D σ H => D.nx σ H
def tSeq (t u : TS) : TS := fun D σ H => t { D with nx := u D } σ H
theorem pss_nil : PSs X [] tNext := fun _ _ σ H _ I h => wpAny_execs_nil ⟨σ, H, I, h⟩
theorem pss_cons (h1 : PS X st t) (h2 : PSs X rest u) : PSs X (st :: rest) (tSeq t u) := by
  intro pins s σ H D I h
  refine wpAny_execs_cons (thn (h1 pins s σ H { D with nx := u D } I h) fun f s1 q => ?_)
  cases f with
  | next =>
    obtain ⟨σ', H', I', q⟩ := q
    exact h2 pins s1 σ' H' D I' q
  | ret v => exact q
  | brk => exact q
  | cont => exact q
theorem pss_one (h1 : PS X st t) : PSs X [st] t := by
  intro pins s σ H D I h
  refine wpAny_execs_cons (thn (h1 pins s σ H D I h) fun f s1 q => ?_)
  cases f with
  | next => exact wpAny_execs_nil q
  | ret v => exact q
  | brk => exact q
  | cont => exact q
def tBreak : TS := fun D σ H => D.bk σ H
def tCont : TS := fun D σ H => D.ct σ H
theorem ps_pass : PS X (.Pass pos) tNext := fun _ _ σ H _ I h => wpAny_Pass ⟨σ, H, I, h⟩
theorem ps_break : PS X (.Break pos) tBreak := fun _ _ σ H _ I h => wpAny_Break ⟨σ, H, I, h⟩
theorem ps_continue : PS X (.Continue pos) tCont := fun _ _ σ H _ I h => wpAny_Continue ⟨σ, H, I, h⟩
/-- in a def's body nothing is shown -/
theorem Inv.quiet {pins : List (Addr × Obj)} {σ : St} {H : Hp} {s : Shared} (I : Inv X pins σ H s) : interactive X.env = false := by simp [interactive, I.ok.kind]
/-- a docstring -/
theorem ps_doc {x j pos pos'} : PS X (.Expr (.Constant (.str x) j pos) pos') tNext := fun _ s σ H _ I h => wpAny_Expr (Calls.Constant_str (show SP X _ _ .next { s with toks := s.toks + 1 } from ⟨σ, H, I.tok _, h⟩)) I.quiet
/-- an expression whose value is dropped -/
def tDrop (te : TE) : TS := fun D σ H => te σ H fun _ H1 => D.nx σ H1
theorem ps_expr (he : PE X e te) (hs : swapsWith e none pos.line X.env = pure false := by rfl) : PS X (.Expr e pos) (tDrop te) := by
  intro pins s σ H D I h
  exact wpAny_Expr_any (thn (he pins s σ H _ I h) fun v s1 ⟨x, H1, I1, r1, q1⟩ => ⟨σ, H1, I1, q1⟩) I.quiet hs
def tRet (te : TE) : TS := fun D σ H => te σ H D.rt
theorem ps_ret (he : PE X e te) : PS X (.Return (some e) pos) (tRet te) := by
  intro pins s σ H D I h
  exact wpAny_Return_some (thn (he pins s σ H _ I h) fun v s1 ⟨x, H1, I1, r1, q1⟩ => ⟨x, σ, H1, I1, r1, q1⟩)
def tRetN : TS := fun D _ H => D.rt .non H
theorem ps_retN : PS X (.Return none pos) tRetN := fun _ _ σ H _ I h => wpAny_Return_none ⟨.non, σ, H, I, rfl, h⟩
def tIfS (c : TT) (t u : TS) : TS := fun D σ H => c σ H fun b H1 => if b = true then t D σ H1 else u D σ H1
theorem ps_if {c : Expr} {a b : List Stmt} {tc : TT} (hc : PT X c tc) (ha : PSs X a t) (hb : PSs X b u) : PS X (.If c a b pos) (tIfS tc t u) := by
  intro pins s σ H D I h
  refine wpAny_If (thn (hc pins s σ H _ I h) fun d s1 ⟨H1, I1, q1⟩ => ?_)
  cases d with
  | true => exact ha pins s1 σ H1 D I1 q1
  | false => exact hb pins s1 σ H1 D I1 q1
/-- code that the proof never comes to -/
def tNever : TS := fun _ _ _ => False
theorem ps_never : PS X st tNever := fun _ _ _ _ _ _ h => h.elim
theorem pss_never {sts : List Stmt} : PSs X sts tNever := fun _ _ _ _ _ _ h => h.elim
end

/-! ### targets -/
abbrev TG := V → St → Hp → (St → Hp → Prop) → Prop
abbrev TGs := List V → St → Hp → (St → Hp → Prop) → Prop
def PG (X : Cx) (target : Expr) (t : TG) : Prop :=
  ∀ (pins : List (Addr × Obj)) (s : Shared) (σ : St) (H : Hp) (v : V) (u : Value) (Q : St → Hp → Prop), Inv X pins σ H s → RelV v u → t v σ H Q →
    wpAny (model X.prog X.w) X.A (assign target X.env u) (fun _ s' => ∃ σ' H', Inv X pins σ' H' s' ∧ Q σ' H') X.xe s
/-- several targets, one after another -/
def PGs (X : Cx) (ts : List Expr) (t : TGs) : Prop :=
  ∀ (pins : List (Addr × Obj)) (s : Shared) (σ : St) (H : Hp) (vs : List V) (us : List Value) (Q : St → Hp → Prop), Inv X pins σ H s → Vals vs us → t vs σ H Q →
    wpAny (model X.prog X.w) X.A (assignInOrder ((assignEach ts X.env).map (·.2)) us) (fun _ s' => ∃ σ' H', Inv X pins σ' H' s' ∧ Q σ' H') X.xe s
/-- o[i] = v, by values -/
abbrev TSet := V → V → V → Hp → (Hp → Prop) → Prop
def PSet (X : Cx) (t : TSet) : Prop :=
  ∀ (pins : List (Addr × Obj)) (s : Shared) (σ : St) (H : Hp) (o i v : V) (ov iv u : Value) (Q : Hp → Prop), Inv X pins σ H s → RelV o ov → RelV i iv → RelV v u → t o i v H Q →
    wpAny (model X.prog X.w) X.A (setItem ov iv u) (fun _ s' => ∃ H', Inv X pins σ H' s' ∧ Q H') X.xe s
/-- a op= b, by values -/
abbrev TIp := V → V → Hp → VK → Prop
def PIp (X : Cx) (op : Operator) (t : TIp) : Prop :=
  ∀ (pins : List (Addr × Obj)) (s : Shared) (σ : St) (H : Hp) (x y : V) (v u : Value) (Q : VK), Inv X pins σ H s → RelV x v → RelV y u → t x y H Q →
    wpAny (model X.prog X.w) X.A (inplaceOp op v u) (EP X pins σ Q) X.xe s
section
variable {X : Cx} {pos : Pos}
def gName (i : Nat) : TG := fun v σ H Q => Q (σ.set i (some v)) H
theorem pg_name {i : Nat} {x : Str} (hN : X.N.Nodup) (hi : X.N[i]? = some x) (hx : Loc X.env.scope x) (hf : X.fn x = true ∨ X.env.scope.names.lookup x = some .local := by first | exact .inl rfl | exact .inr rfl | assumption) : PG X (.Name x pos) (gName i) := by
  intro pins s σ H v u Q I r h
  exact wpAny_assign_Name (store_ok I hN hi hx r (fun s' I' => ⟨_, H, I', h⟩) hf)
def gNil : TGs := fun vs σ H Q => vs = [] ∧ Q σ H
def gCons (t : TG) (u : TGs) : TGs := fun vs σ H Q => ∃ v r, vs = v :: r ∧ t v σ H fun σ' H' => u r σ' H' Q
theorem pgs_nil : PGs X [] gNil := by
  intro pins s σ H vs us Q I r h
  obtain ⟨e, h⟩ := h
  subst e
  cases r
  exact assignInOrder_nil ⟨σ, H, I, h⟩
theorem pgs_cons {e : Expr} {es : List Expr} {t : TG} {u : TGs} (h1 : PG X e t) (h2 : PGs X es u)
    (hs : (assignEach (e :: es) X.env).map (·.2) = assign e X.env :: (assignEach es X.env).map (·.2) := by rfl) : PGs X (e :: es) (gCons t u) := by
  intro pins s σ H vs us Q I r h
  obtain ⟨v, vr, e1, h⟩ := h
  subst e1
  cases r with
  | cons r rr =>
    rw [hs]
    refine assignInOrder_cons (thn (h1 pins s σ H _ _ _ I r h) fun _ s1 ⟨σ1, H1, I1, q1⟩ => ?_)
    exact h2 pins s1 σ1 H1 _ _ Q I1 rr q1
/-- (a, b, ..) = a tuple of that length -/
def gTup (K : PySem.W.Frag) (n : Nat) (t : TGs) : TG := fun v σ H Q => ∃ a xs, v = .ref a ∧ SqT K H a xs ∧ xs.length = n ∧ t xs σ H Q
theorem pg_tup {es : List Expr} {k : Nat} {t : TGs} {n : Nat} (hc : X.calm = true) (h : PGs X es t)
    (hn : (assignEach es X.env).length = n := by rfl) (hst : (assignEach es X.env).findIdx? (·.1) = none := by rfl) : PG X (.Tuple es k pos) (gTup X.K n t) := by
  intro pins s σ H v u Q I r hw
  obtain ⟨a, xs, e1, hq, hl, hw⟩ := hw
  subst e1
  cases r
  obtain ⟨its, rv, ht, hz⟩ := I.tuple hq
  refine assign_Tuple_tuple (I.ok.hd hc) ht (by simp [hn, ← hl, rv.length]) hst fun h' hx => ?_
  have I1 : Inv X pins σ H { s with heap := h' } := I.kept (t' := s.toks) fun b o e => hx b o (Nat.ne_of_lt (Heap.lt_size e)) e
  exact h pins _ σ H xs _ Q I1 (by simpa using rv) hw
/-- o[i] = .. -/
def gSub (to ti : TE) (t : TSet) : TG := fun v σ H Q => to σ H fun o H1 => ti σ H1 fun i H2 => t o i v H2 fun H3 => Q σ H3
theorem pg_sub {o i : Expr} {to ti : TE} {t : TSet} (ho : PE X o to) (hi : PE X i ti) (hs : PSet X t)
    (ha : ∀ v, assign (.Subscript o i pos) X.env v = (do
      let ov ← holding [v] (eval o X.env)
      let iv ← holding [v, ov] (eval i X.env)
      standAt pos
      holding [v, ov, iv] (setItem ov iv v)
      release [v, ov, iv] []) := by intro _; rfl) : PG X (.Subscript o i pos) (gSub to ti t) := by
  intro pins s σ H v u Q I r h
  rw [ha]
  refine wpAny_bind (wpAny_holding (thn (ho pins s σ H _ I h) fun ov s1 ⟨x, H1, I1, r1, q1⟩ => ?_))
  refine wpAny_bind (wpAny_holding (thn (hi pins s1 σ H1 _ I1 q1) fun iv s2 ⟨y, H2, I2, r2, q2⟩ => ?_))
  refine wpAny_bind (wpAny_standAt (wpAny_bind (wpAny_holding (thn (hs pins s2 σ H2 x y v ov iv u _ I2 r1 r2 r q2) fun _ s3 ⟨H3, I3, q3⟩ => ?_))))
  exact wpAny_release ⟨σ, H3, I3, q3⟩
/-- target = value -/
def tAsg (te : TE) (g : TG) : TS := fun D σ H => te σ H fun x H1 => g x σ H1 D.nx
theorem ps_asg {tg e : Expr} {te : TE} {g : TG} (he : PE X e te) (hg : PG X tg g) (hs : swapsWithSole [tg] e pos.line X.env = pure false := by rfl) (hw : swappedStores [tg] e X.env = pure none := by rfl)
    (h1 : (assignEach [tg] X.env).map (·.2) = [assign tg X.env] := by rfl) : PS X (.Assign [tg] e pos) (tAsg te g) := by
  intro pins s σ H D I h
  refine wpAny_Assign_stores (thn (he pins s σ H _ I h) fun v s1 ⟨x, H1, I1, r1, q1⟩ => ?_) hs hw
  rw [h1]
  exact thn (hg pins s1 σ H1 x v _ I1 r1 q1) fun _ s2 q => q
/-- name = value -/
theorem ps_set {i : Nat} {x : Str} {e : Expr} {te : TE} {pos' : Pos} (hN : X.N.Nodup) (hi : X.N[i]? = some x) (hx : Loc X.env.scope x) (he : PE X e te) (hs : swapsWith e (some (.Name x pos')) pos.line X.env = pure false := by rfl) (hf : X.fn x = true ∨ X.env.scope.names.lookup x = some .local := by first | exact .inl rfl | exact .inr rfl | assumption) :
    PS X (.Assign [.Name x pos'] e pos) (tAsg te (gName i)) := by
  intro pins s σ H D I h
  refine wpAny_Assign_Name (thn (he pins s σ H _ I h) fun v s1 ⟨y, H1, I1, r1, q1⟩ => ?_) hs
  exact store_ok I1 hN hi hx r1 (fun s2 I2 => ⟨_, H1, I2, q1⟩) hf
/-- a, b = x, y with plain local names: stored from the right; the pair itself is not tracked (the opening rows as in PyProof/Rows/TupAssign.lean:23) -/
def tPar (i j : Nat) (ta : TA) : TS := fun D σ H => ta σ H fun vs H1 => ∃ v w, vs = [v, w] ∧ D.nx ((σ.set i (some v)).set j (some w)) H1
theorem ps_par {i j : Nat} {x y : Str} {a b : Expr} {ta : TA} {px py pt : Pos} {kt k2 pt2} (hc : X.calm = true) (hN : X.N.Nodup) (hi : X.N[i]? = some x) (hj : X.N[j]? = some y) (hij : i ≠ j)
    (hx : X.env.scope.names.lookup x = some .local) (hy : X.env.scope.names.lookup y = some .local) (ha : PA X [a, b] ta)
    (hw : swappedStores [.Tuple [.Name x px, .Name y py] kt pt] (.Tuple [a, b] k2 pt2) X.env = pure (some [x, y]))
    (hs : swapsWithSole [.Tuple [.Name x px, .Name y py] kt pt] (.Tuple [a, b] k2 pt2) pos.line X.env = pure false := by rfl) :
    PS X (.Assign [.Tuple [.Name x px, .Name y py] kt pt] (.Tuple [a, b] k2 pt2) pos) (tPar i j ta) := by
  intro pins s σ H D I h
  rw [exec_Assign_arm]
  refine wpAny_bind (wpAny_standAt ?_)
  rw [hs]
  refine wpAny_bind (wpAny_pure ?_)
  rw [if_neg (by decide)]
  refine wpAny_bind (Tuple_ (thn (ha _ pins s σ H _ I h) fun us s1 ⟨vs, H1, I1, r1, q1⟩ => ?_))
  obtain ⟨v, w, e1, q1⟩ := q1
  subst e1
  obtain ⟨u1, u2, rfl, rv, rw'⟩ : ∃ u1 u2, us = [u1, u2] ∧ RelV v u1 ∧ RelV w u2 := by
    cases r1 with
    | cons p q =>
      cases q with
      | cons p' q' =>
        cases q'
        exact ⟨_, _, rfl, p, p'⟩
  refine wpAny_newObj_type ?_ (by show 2 ≤ sizeLine; decide)
  have I2 : Inv X pins σ H1 { s1 with heap := s1.heap.push { cls := .type "tuple", data := .seq [u1, u2].toArray } } := I1.kept (t' := s1.toks) fun b o e => Heap.get?_push_of_some _ e
  rw [hw]
  refine wpAny_bind (wpAny_pure ?_)
  show wpAny (model X.prog X.w) X.A (do rule "assign.swapped-stores"; let items ← unpackItems (.ref s1.heap.objs.size) 2 none; assignInOrder [fun v => bindName X.env y v, fun v => bindName X.env x v] items.reverse; pure Flow.next) _ _ _
  refine wpAny_bind (wpAny_rule (wpAny_bind (unpackItems_tuple (items := #[u1, u2]) (I.ok.hd hc) (IsTup.new s1.heap _) fun h' hx' => ?_)))
  have I3 := I2.kept (h' := h') (t' := s1.toks) fun b o e => hx' b o (Nat.ne_of_lt (Heap.lt_size e)) e
  show wpAny _ _ (assignInOrder [fun v => bindName X.env y v, fun v => bindName X.env x v] [u2, u1] >>= fun _ => pure Flow.next) _ _ _
  refine wpAny_bind (assignInOrder_cons (wpAny_bindName (store_ok I3 hN hj (.inl hy) rw' (fun s2 I4 => ?_) (.inr hy))))
  refine assignInOrder_cons (wpAny_bindName (store_ok I4 hN hi (.inl hx) rv (fun s3 I5 => assignInOrder_nil (wpAny_pure ?_)) (.inr hx)))
  rw [List.set_comm _ _ (Ne.symm hij)] at I5
  exact ⟨_, H1, I5, q1⟩
/-- name op= e -/
def tAug (i : Nat) (te : TE) (ti : TIp) : TS := fun D σ H => ∃ x, σ[i]? = some (some x) ∧ te σ H fun y H1 => ti x y H1 fun z H2 => D.nx (σ.set i (some z)) H2
theorem ps_aug {i : Nat} {x : Str} {e : Expr} {te : TE} {op : Operator} {ti : TIp} {pos' : Pos} (hN : X.N.Nodup) (hi : X.N[i]? = some x) (hx : Loc X.env.scope x) (he : PE X e te) (ho : PIp X op ti) (hf : X.fn x = true ∨ X.env.scope.names.lookup x = some .local := by first | exact .inl rfl | exact .inr rfl | assumption) :
    PS X (.AugAssign (.Name x pos') op e pos) (tAug i te ti) := by
  intro pins s σ H D I h
  obtain ⟨v, e1, h⟩ := h
  obtain ⟨m, hn, hl⟩ := I.loc
  have vis : Vis X.env.scope x := by rcases hx with k | k; exact .inl k; exact .inr (.inl k)
  obtain ⟨u, r, l⟩ := hl i x v hi e1 vis
  refine wpAny_AugAssign_Name ?_
  have go : wpAny (model X.prog X.w) X.A (eval e X.env) (fun w s₂ => wpAny (model X.prog X.w) X.A (inplaceOp op u w) (fun r s₃ => wpAny (model X.prog X.w) X.A (storeName X.env x r) (fun _ => SP X pins D .next) X.xe s₃) X.xe s₂) X.xe s := by
    refine thn (he pins s σ H _ I h) fun w s1 ⟨y, H1, I1, r1, q1⟩ => ?_
    refine thn (ho pins s1 σ H1 v y u w _ I1 r r1 q1) fun z s2 ⟨zv, H2, I2, r2, q2⟩ => ?_
    exact store_ok I2 hN hi hx r2 (fun s3 I3 => ⟨_, H2, I3, q2⟩) hf
  rcases l with ⟨hk, hm⟩ | ⟨hk, c, hc, hcell⟩
  · exact wpAny_loadName_local I.ok.kind hk hn hm go
  · rcases hk with hk | hk
    · exact wpAny_loadName_cell I.ok.kind hk hc hcell go
    · rcases hx with k | k
      · have : X.env.scope.names.lookup x = some .free := hk
        rw [k] at this; cases this
      · have : X.env.scope.names.lookup x = some .free := hk
        rw [k] at this; cases this
/-- o[i] op= e -/
def tAugS (to ti te : TE) (tget : V → V → Hp → VK → Prop) (tip : TIp) (tset : TSet) : TS := fun D σ H => to σ H fun o H1 => ti σ H1 fun i H2 => tget o i H2 fun x H3 => te σ H3 fun y H4 => tip x y H4 fun z H5 => tset o i z H5 fun H6 => D.nx σ H6
/-- o[i], by values -/
def PGet (X : Cx) (t : V → V → Hp → VK → Prop) : Prop :=
  ∀ (pins : List (Addr × Obj)) (s : Shared) (σ : St) (H : Hp) (o i : V) (ov iv : Value) (Q : VK), Inv X pins σ H s → RelV o ov → RelV i iv → t o i H Q →
    wpAny (model X.prog X.w) X.A (getItem ov iv) (EP X pins σ Q) X.xe s
theorem ps_augS {o i e : Expr} {to ti te : TE} {tget : V → V → Hp → VK → Prop} {tip : TIp} {tset : TSet} {op : Operator} {tpos : Pos} (ho : PE X o to) (hi : PE X i ti) (hg : PGet X tget) (he : PE X e te) (hp : PIp X op tip) (hs : PSet X tset)
    (ha : ∀ ov iv new, augStore i ov iv new = (do holding [new, ov, iv] (setItem ov iv new); release [new, ov, iv] []; pure .next) := by intros; rfl) : PS X (.AugAssign (.Subscript o i tpos) op e pos) (tAugS to ti te tget tip tset) := by
  intro pins s σ H D I h
  refine wpAny_AugAssign_SubscriptAny (thn (ho pins s σ H _ I h) fun ov s1 ⟨x1, H1, I1, r1, q1⟩ => ?_) ha
  refine thn (hi pins s1 σ H1 _ I1 q1) fun iv s2 ⟨x2, H2, I2, r2, q2⟩ => ?_
  refine thn (hg pins s2 σ H2 x1 x2 ov iv _ I2 r1 r2 q2) fun old s3 ⟨x3, H3, I3, r3, q3⟩ => ?_
  refine thn (he pins s3 σ H3 _ I3 q3) fun v s4 ⟨x4, H4, I4, r4, q4⟩ => ?_
  refine thn (hp pins s4 σ H4 x3 x4 old v _ I4 r3 r4 q4) fun new s5 ⟨x5, H5, I5, r5, q5⟩ => ?_
  exact thn (hs pins s5 σ H5 x1 x2 x5 ov iv new _ I5 r1 r2 r5 q5) fun _ s6 ⟨H6, I6, q6⟩ => ⟨σ, H6, I6, q6⟩
/-- ints -/
def ipI (f : Int → Int → Int) : TIp := fun x y H Q => ∃ i j, x = .int i ∧ y = .int j ∧ Q (.int (f i j)) H
theorem ip_add : PIp X .Add (ipI fun i j => i + j) := by
  intro pins s σ H x y v u Q I r1 r2 h
  obtain ⟨i, j, e1, e2, q⟩ := h
  subst e1; subst e2
  obtain ⟨t, rfl⟩ := r1
  obtain ⟨t', rfl⟩ := r2
  exact iadd_int ⟨.int _, H, I.tok _, ⟨_, rfl⟩, q⟩
theorem ip_sub : PIp X .Sub (ipI fun i j => i - j) := by
  intro pins s σ H x y v u Q I r1 r2 h
  obtain ⟨i, j, e1, e2, q⟩ := h
  subst e1; subst e2
  obtain ⟨t, rfl⟩ := r1
  obtain ⟨t', rfl⟩ := r2
  exact isub_int ⟨.int _, H, I.tok _, ⟨_, rfl⟩, q⟩
end

/-! ### while -/
section
variable {X : Cx} {pos : Pos}
/-- the invariant W with its measure -/
def tWhile (c : TT) (tb : TS) : TS := fun D σ H => ∃ W : Nat → St → Hp → Prop, (∃ m, W m σ H) ∧ ∀ m σ H, W m σ H →
  c σ H fun b H1 => if b = true then ∃ N : St → Hp → Prop, (∀ σ' H', N σ' H' → ∃ m', m' < m ∧ W m' σ' H') ∧ tb { D with nx := N, ct := N, bk := D.nx } σ H1 else D.nx σ H1
theorem ps_while {c : Expr} {body : List Stmt} {tc : TT} {tb : TS} (hp : PassesOwn (model X.prog X.w) X.A X.env X.xe) (hc : PT X c tc) (hb : PSs X body tb) : PS X (.While c body [] pos) (tWhile tc tb) := by
  intro pins s σ H D I h
  obtain ⟨W, ⟨m0, w0⟩, turn⟩ := h
  refine wpAny_While (codeAny_whileLoop (fun n s' => ∃ σ' H', Inv X pins σ' H' s' ∧ W n σ' H') ?_ m0 ⟨σ, H, I, w0⟩)
  rintro n s1 ⟨σ1, H1, I1, w1⟩
  refine wpAny_passesOwn hp (thn (hc pins s1 σ1 H1 _ I1 (turn n σ1 H1 w1)) fun b s2 ⟨H2, I2, q2⟩ => ?_)
  cases b with
  | true =>
    obtain ⟨N, hN, q2⟩ := q2
    rw [if_pos rfl]
    refine wpAny_passesOwn hp (thn (hb pins s2 σ1 H2 _ I2 q2) fun f s3 q3 => ?_)
    cases f with
    | next =>
      obtain ⟨σ3, H3, I3, n3⟩ := q3
      obtain ⟨m', hm, w3⟩ := hN σ3 H3 n3
      exact ⟨m', hm, σ3, H3, I3, w3⟩
    | cont =>
      obtain ⟨σ3, H3, I3, n3⟩ := q3
      obtain ⟨m', hm, w3⟩ := hN σ3 H3 n3
      exact ⟨m', hm, σ3, H3, I3, w3⟩
    | brk => exact q3
    | ret v => exact q3
  | false =>
    rw [if_neg Bool.false_ne_true]
    exact wpAny_execs_nil ⟨σ1, H2, I2, q2⟩
end

/-! ### what a loop or a comprehension walks -/
/-- at turn i: it yields x (the heap may grow), or it stops -/
structure It where
  go : Nat → Hp → Prop
  yld : Nat → Hp → V → Hp → Prop
  stop : Nat → Hp → Prop
/-- the iterator's own objects may turn: they are not the frame's, not pinned, younger than the entry (or a comprehension's own) -/
def FpOk (X : Cx) (pins : List (Addr × Obj)) (H : Hp) (b : Addr) : Prop :=
  H b = none ∧ b ≠ X.env.locals ∧ b ∉ X.fs ∧ (b ∈ X.ex ∨ X.s₀.heap.objs.size ≤ b) ∧ (∀ x c, X.env.cells.lookup x = some c → c ≠ b) ∧ ∀ p ∈ X.pn ++ pins, p.1 ≠ b
theorem Inv.fpOk {X : Cx} {pins : List (Addr × Obj)} {σ : St} {H H' : Hp} {s : Shared} {b : Addr} (I : Inv X pins σ H s) (hb : s.heap.objs.size ≤ b) (hn : H' b = none) : FpOk X pins H' b := by
  refine ⟨hn, Nat.ne_of_gt (Nat.lt_of_lt_of_le I.lt hb), I.nofs hb, .inr (Nat.le_trans I.sz hb), fun x c e z => ?_, fun p hp z => ?_⟩
  · obtain ⟨v, q⟩ := I.cell x c e
    exact absurd (Nat.lt_of_lt_of_le q.lt (by rw [z]; exact hb)) (Nat.lt_irrefl _)
  · exact absurd (Nat.lt_of_lt_of_le (Heap.lt_size (I.pin p hp).1) (by rw [z]; exact hb)) (Nat.lt_irrefl _)
structure Turn (P : Program) (w : World) (K : PySem.W.Frag) (tg : Expr) (J : It) (fp : List Addr) (it : Addr) (tn : Nat → Heap → Prop) : Prop where
  mem : it ∈ fp
  obj : ∀ i h, tn i h → ∀ b ∈ fp, ∃ o, h.get? b = some o ∧ ∀ v, o.data ≠ .cell v
  keep : ∀ i h h', tn i h → (∀ b ∈ fp, ∀ o, h.get? b = some o → h'.get? b = some o) → tn i h'
  item : ∀ (X : Cx), X.prog = P → X.w = w → X.K = K → X.calm = true → ∀ (i : Nat) (pins : List (Addr × Obj)) (s : Shared) (σ : St) (H : Hp) (E : Value → Shared → Prop), Inv X pins σ H s → (∀ b ∈ fp, FpOk X pins H b) → tn i s.heap → J.go i H →
    wpAny (model P w) X.A (pyNext (.ref it)) (fun r s1 => ∃ u, r = some u ∧
      wpAny (model P w) X.A (letOwnedTupleGo tg (.ref it) u) (fun _ s2 => ∃ x H', Inv X pins σ H' s2 ∧ RelV x u ∧ J.yld i H x H' ∧ tn (i + 1) s2.heap ∧ ∀ b ∈ fp, H' b = none) E s1) E s
  done : ∀ (X : Cx), X.prog = P → X.w = w → X.K = K → X.calm = true → ∀ (i : Nat) (pins : List (Addr × Obj)) (s : Shared) (σ : St) (H : Hp) (E : Value → Shared → Prop), Inv X pins σ H s → (∀ b ∈ fp, FpOk X pins H b) → tn i s.heap → J.stop i H →
    wpAny (model P w) X.A (pyNext (.ref it)) (fun r s1 => r = none ∧ Inv X pins σ H s1) E s
  self : ∀ (A : Around) (i : Nat) (s : Shared) (Q : Value → Shared → Prop) (E : Value → Shared → Prop), tn i s.heap → Q (.ref it) s → wpAny (model P w) A (pyIter (.ref it)) Q E s
abbrev TI := St → Hp → (It → Hp → Prop) → Prop
/-- an iterator has come -/
def PIE (X : Cx) (pins : List (Addr × Obj)) (σ : St) (tg : Expr) (R : It → Hp → Prop) (itv : Value) (s2 : Shared) : Prop :=
  ∃ (it : Addr) (fp : List Addr) (tn : Nat → Heap → Prop) (J : It) (H' : Hp), itv = .ref it ∧ Inv X pins σ H' s2 ∧ Turn X.prog X.w X.K tg J fp it tn ∧ tn 0 s2.heap ∧ (∀ b ∈ fp, FpOk X pins H' b) ∧ R J H'
def PI (X : Cx) (tg iter : Expr) (wi : TI) : Prop :=
  ∀ (pins : List (Addr × Obj)) (s : Shared) (σ : St) (H : Hp) (R : It → Hp → Prop), Inv X pins σ H s → wi σ H R →
    wpAny (model X.prog X.w) X.A (eval iter X.env) (fun v s1 => wpAny (model X.prog X.w) X.A (pyIter v) (PIE X pins σ tg R) X.xe s1) X.xe s

/-- the step ahead of the store is nothing for an iterator that keeps no tuple -/
theorem go_of {M : Model} {A : Around} {E : Value → Shared → Prop} {s : Shared} {tg : Expr} {it : Addr} {u : Value} {o : Obj} {n : String} {vs : Array Value} {Q : Unit → Shared → Prop} (ho : s.heap.get? it = some o) (hc : o.cls = .type n) (hd : o.data = .fields vs)
    (hn : ["enumerate", "zip", "dict_itemiterator", "dict_reverseitemiterator", "odict_iterator", "itertools.zip_longest", "itertools.pairwise"].contains n = false) (hQ : Q () s) : wpAny M A (letOwnedTupleGo tg (.ref it) u) Q E s := by
  unfold letOwnedTupleGo
  cases tg <;> first
    | exact wpAny_pure hQ
    | (cases u <;> first
        | exact wpAny_pure hQ
        | (refine wpAny_bind (wpAny_load ho ?_)
           rw [hc, hd]
           show wpAny M A (if (["enumerate", "zip", "dict_itemiterator", "dict_reverseitemiterator", "odict_iterator", "itertools.zip_longest", "itertools.pairwise"].contains n && vs[0]? == some (rawInt _)) = true then _ else _) Q E s
           rw [if_neg (by intro h; rw [hn, Bool.false_and] at h; cases h)]
           exact wpAny_pure hQ))

/-- the list at a, as it stands at each turn (a loop may append to it) -/
def Itl (K : PySem.W.Frag) (a : Addr) : It :=
  ⟨fun i H => ∃ xs x, SqL K H a xs ∧ xs[i]? = some x, fun i H x H' => H' = H ∧ ∀ xs, SqL K H a xs → xs[i]? = some x, fun i H => ∃ xs, SqL K H a xs ∧ xs.length ≤ i⟩
def Itt (K : PySem.W.Frag) (a : Addr) : It :=
  ⟨fun i H => ∃ xs x, SqT K H a xs ∧ xs[i]? = some x, fun i H x H' => H' = H ∧ ∀ xs, SqT K H a xs → xs[i]? = some x, fun i H => ∃ xs, SqT K H a xs ∧ xs.length ≤ i⟩
/-- lo, lo + 1, .. (n of them) -/
def Itr (lo : Int) (n : Nat) : It := ⟨fun i _ => i < n, fun i H x H' => H' = H ∧ x = .int (lo + i), fun i _ => n ≤ i⟩
theorem turn_list {P : Program} {w : World} {K : PySem.W.Frag} {tg : Expr} (a it : Addr) : Turn P w K tg (Itl K a) [it] it (fun i h => h.IsListIter it a i) where
  mem := by simp
  obj := fun i h st b hb => by
    have e : b = it := by simpa using hb
    subst e
    obtain ⟨o, e, c, d⟩ := st
    exact ⟨o, e, fun v z => by rw [d] at z; cases z⟩
  keep := fun i h h' st k => st.at fun o e => k it (by simp) o e
  item := by
    intro X hP hw hK hc i pins s σ H E I hf st hg
    subst hP hw hK
    obtain ⟨xs, x, hq, hx⟩ := hg
    obtain ⟨its, rv, p, hz⟩ := I.list hq
    obtain ⟨u, hu, ru⟩ := rv.get hx
    obtain ⟨f0, f1, f2, f3, f4, f5⟩ := hf it (by simp)
    refine wpAny_pyNext_list_item st p.isList (x := u) (by simpa using hu) fun h' st' sb => ?_
    have I1 : Inv X pins σ H { s with heap := h' } := I.turned (t' := s.toks) (fun b o hb e => (sb.2 b hb).trans e) f0 f1 f3 f4 f5
    obtain ⟨o, e, c, d⟩ := id st'
    exact ⟨u, rfl, go_of (s := { s with heap := h' }) e c d (by decide) ⟨x, H, I1, ru, ⟨rfl, fun ys hy => by rw [I.list_inj hy hq]; exact hx⟩, st', fun b hb => (hf b hb).1⟩⟩
  done := by
    intro X hP hw hK hc i pins s σ H E I hf st hg
    subst hP hw hK
    obtain ⟨xs, hq, hx⟩ := hg
    obtain ⟨its, rv, p, hz⟩ := I.list hq
    obtain ⟨f0, f1, f2, f3, f4, f5⟩ := hf it (by simp)
    have hl := rv.length
    exact wpAny_pyNext_list_end (I.ok.hd hc) st p.isList (by simp; omega) fun h' eb => ⟨rfl, I.turned (t' := s.toks) (fun b o hb e => eb b o hb e) f0 f1 f3 f4 f5⟩
  self := fun _ _ _ _ _ st h => wpAny_pyIter_listiter st h
theorem turn_tuple {P : Program} {w : World} {K : PySem.W.Frag} {tg : Expr} (a it : Addr) : Turn P w K tg (Itt K a) [it] it (fun i h => h.IsTupleIter it a i) where
  mem := by simp
  obj := fun i h st b hb => by
    have e : b = it := by simpa using hb
    subst e
    obtain ⟨o, e, c, d⟩ := st
    exact ⟨o, e, fun v z => by rw [d] at z; cases z⟩
  keep := fun i h h' st k => st.at fun o e => k it (by simp) o e
  item := by
    intro X hP hw hK hc i pins s σ H E I hf st hg
    subst hP hw hK
    obtain ⟨xs, x, hq, hx⟩ := hg
    obtain ⟨its, rv, p, hz⟩ := I.tuple hq
    obtain ⟨u, hu, ru⟩ := rv.get hx
    obtain ⟨f0, f1, f2, f3, f4, f5⟩ := hf it (by simp)
    refine wpAny_pyNext_tuple_item st (show s.heap.IsTuple a its.toArray from p) (x := u) (by simpa using hu) fun h' st' sb => ?_
    have I1 : Inv X pins σ H { s with heap := h' } := I.turned (t' := s.toks) (fun b o hb e => (sb.2 b hb).trans e) f0 f1 f3 f4 f5
    obtain ⟨o, e, c, d⟩ := id st'
    exact ⟨u, rfl, go_of (s := { s with heap := h' }) e c d (by decide) ⟨x, H, I1, ru, ⟨rfl, fun ys hy => by rw [I.tuple_inj hy hq]; exact hx⟩, st', fun b hb => (hf b hb).1⟩⟩
  done := by
    intro X hP hw hK hc i pins s σ H E I hf st hg
    subst hP hw hK
    obtain ⟨xs, hq, hx⟩ := hg
    obtain ⟨its, rv, p, hz⟩ := I.tuple hq
    obtain ⟨f0, f1, f2, f3, f4, f5⟩ := hf it (by simp)
    have hl := rv.length
    exact wpAny_pyNext_tuple_end (I.ok.hd hc) st (show s.heap.IsTuple a its.toArray from p) (by simp; omega) fun h' eb => ⟨rfl, I.turned (t' := s.toks) (fun b o hb e => eb b o hb e) f0 f1 f3 f4 f5⟩
  self := fun _ _ _ _ _ st h => wpAny_pyIter_tupleiter st h
theorem turn_range {P : Program} {w : World} {K : PySem.W.Frag} {tg : Expr} (it : Addr) (lo : Int) (n : Nat) : Turn P w K tg (Itr lo n) [it] it (fun i h => IsRangeIter h it (lo + (i : Nat) * 1) ((n : Int) - (i : Nat)) 1) where
  mem := by simp
  obj := fun i h st b hb => by
    have e : b = it := by simpa using hb
    subst e
    exact ⟨_, st, fun v z => by
      have z' : Data.fields _ = Data.cell v := z
      cases z'⟩
  keep := fun i h h' st k => k it (by simp) _ st
  item := by
    intro X hP hw hK hc i pins s σ H E I hf st hg
    subst hP hw hK
    obtain ⟨f0, f1, f2, f3, f4, f5⟩ := hf it (by simp)
    have W := Walks.range (prog := X.prog) (w := X.w) (I.ok.hd hc) it lo 1 n
    refine W.item i s _ _ hg st fun v h' tk hv st' kk => ?_
    obtain ⟨t, rfl⟩ := hv
    have I1 : Inv X pins σ H { s with heap := h', toks := tk } := I.turned (fun b o hb e => kk b o (by simpa using hb) e) f0 f1 f3 f4 f5
    refine ⟨_, rfl, go_of (s := { s with heap := h', toks := tk }) (n := "range_iterator") st' rfl rfl (by decide) ⟨.int (lo + i), H, I1, ⟨t, ?_⟩, ⟨rfl, rfl⟩, st', fun b hb => (hf b hb).1⟩⟩
    rw [Int.mul_one]
  done := by
    intro X hP hw hK hc i pins s σ H E I hf st hg
    subst hP hw hK
    obtain ⟨f0, f1, f2, f3, f4, f5⟩ := hf it (by simp)
    exact wpAny_pyNext_range_end (I.ok.hd hc) st (by have : n ≤ i := hg; omega) fun h' eb => ⟨rfl, I.turned (t' := s.toks) (fun b o hb e => eb b o hb e) f0 f1 f3 f4 f5⟩
  self := fun _ _ _ _ _ st h => wpAny_pyIter_rangeiter st h
end L2

namespace L2
open PySem PySem.Spec PyProof.Rows
section
variable {X : Cx} {tg : Expr}
def iList (K : PySem.W.Frag) (tl : TE) : TI := fun σ H R => tl σ H fun x H1 => ∃ a, x = .ref a ∧ (∃ xs, SqL K H1 a xs) ∧ R (Itl K a) H1
def iTup (K : PySem.W.Frag) (tl : TE) : TI := fun σ H R => tl σ H fun x H1 => ∃ a, x = .ref a ∧ (∃ xs, SqT K H1 a xs) ∧ R (Itt K a) H1
theorem pi_list {l : Expr} {tl : TE} (hl : PE X l tl) : PI X tg l (iList X.K tl) := by
  intro pins s σ H R I h
  refine thn (hl pins s σ H _ I h) fun v s1 ⟨x, H1, I1, r1, q1⟩ => ?_
  obtain ⟨a, e, ⟨xs, hq⟩, q⟩ := q1
  subst e
  cases r1
  obtain ⟨its, rv, p, hz⟩ := I1.list hq
  refine wpAny_pyIter_list p.isList ?_
  refine ⟨s1.heap.objs.size, [s1.heap.objs.size], _, _, H1, rfl, I1.kept (t' := s1.toks) fun b o e => Heap.get?_push_of_some _ e, turn_list a _, ⟨_, Heap.get?_push_size _ rfl, rfl, rfl⟩, fun b hb => ?_, q⟩
  have e : b = s1.heap.objs.size := by simpa using hb
  subst e
  exact I1.fpOk (Nat.le_refl _) (I1.hok.fresh (Nat.le_refl _))
theorem pi_tup {l : Expr} {tl : TE} (hl : PE X l tl) : PI X tg l (iTup X.K tl) := by
  intro pins s σ H R I h
  refine thn (hl pins s σ H _ I h) fun v s1 ⟨x, H1, I1, r1, q1⟩ => ?_
  obtain ⟨a, e, ⟨xs, hq⟩, q⟩ := q1
  subst e
  cases r1
  obtain ⟨its, rv, p, hz⟩ := I1.tuple hq
  refine wpAny_pyIter_tuple (show s1.heap.IsTuple a its.toArray from p) ?_
  refine ⟨s1.heap.objs.size, [s1.heap.objs.size], _, _, H1, rfl, I1.kept (t' := s1.toks) fun b o e => Heap.get?_push_of_some _ e, turn_tuple a _, ⟨_, Heap.get?_push_size _ rfl, rfl, rfl⟩, fun b hb => ?_, q⟩
  have e : b = s1.heap.objs.size := by simpa using hb
  subst e
  exact I1.fpOk (Nat.le_refl _) (I1.hok.fresh (Nat.le_refl _))
/-- a range object just made, walked -/
theorem range_it {pins : List (Addr × Obj)} {σ : St} {H : Hp} {s : Shared} {R : It → Hp → Prop} {E : Value → Shared → Prop} {lo hi : Int} {t u v : Tok} {tk : Nat} (I : Inv X pins σ H s) (h1 : -(2 ^ 62) ≤ lo) (h2 : lo < 2 ^ 62) (h3 : -(2 ^ 62) ≤ hi) (h4 : hi < 2 ^ 62)
    (q : R (Itr lo (hi - lo).toNat) H) : wpAny (model X.prog X.w) X.A (pyIter (.ref s.heap.objs.size)) (PIE X pins σ tg R) E { s with heap := s.heap.push { cls := .type "range", data := .fields #[.int lo t, .int hi u, .int 1 v] }, toks := tk } := by
  refine wpAny_pyIter_range (IsRange.new ..) (small_one h1 h2 h3 h4) ?_
  have I1 : Inv X pins σ H { s with heap := s.heap.push { cls := .type "range", data := .fields #[.int lo t, .int hi u, .int 1 v] }, toks := tk } := I.kept fun b o e => Heap.get?_push_of_some _ e
  refine ⟨(s.heap.push { cls := .type "range", data := .fields #[.int lo t, .int hi u, .int 1 v] }).objs.size, [(s.heap.push { cls := .type "range", data := .fields #[.int lo t, .int hi u, .int 1 v] }).objs.size], _, _, H, rfl,
    I1.kept (t' := tk) fun b o e => Heap.get?_push_of_some _ e, turn_range _ lo (hi - lo).toNat, ?_, fun b hb => ?_, q⟩
  · have e1 : lo + ((0 : Nat) : Int) * 1 = lo := by simp
    have e2 : (((hi - lo).toNat : Nat) : Int) - ((0 : Nat) : Int) = Builtin.Range.rangeSize lo hi 1 := by rw [rangeSize_one]; split <;> omega
    show IsRangeIter _ _ (lo + ((0 : Nat) : Int) * 1) ((((hi - lo).toNat : Nat) : Int) - ((0 : Nat) : Int)) 1
    rw [e1, e2]
    exact Heap.get?_push_size _ rfl
  · have e : b = (s.heap.push { cls := .type "range", data := .fields #[.int lo t, .int hi u, .int 1 v] }).objs.size := by simpa using hb
    subst e
    exact I1.fpOk (Nat.le_refl _) (I1.hok.fresh (Nat.le_refl _))
def iRng1 (ta : TA) : TI := fun σ H R => ta σ H fun vs H1 => ∃ j : Int, vs = [.int j] ∧ -(2 ^ 62) ≤ j ∧ j < 2 ^ 62 ∧ R (Itr 0 j.toNat) H1
def iRng2 (ta : TA) : TI := fun σ H R => ta σ H fun vs H1 => ∃ i j : Int, vs = [.int i, .int j] ∧ (-(2 ^ 62) ≤ i ∧ i < 2 ^ 62 ∧ -(2 ^ 62) ≤ j ∧ j < 2 ^ 62) ∧ R (Itr i (j - i).toNat) H1
theorem pi_range1 {a : Expr} {ta : TA} {p pos : Pos} (hg : Gl X "range") (hm : X.mg "range" = none) (ha : PA X [a] ta) (hs : starEach [a] X.env = [(false, eval a X.env)] := by rfl) : PI X tg (.Call (.Name "range" p) [a] [] pos) (iRng1 ta) := by
  intro pins s σ H R I h
  refine Call_ (ld_blt I hg hm boot_range (PyProof.Rows.callWith_type1 (thn (ha pos pins s σ H _ I h) fun us s1 ⟨vs, H1, I1, r1, q1⟩ => ?_) hs rfl))
  obtain ⟨j, e, q1, q2, q⟩ := q1
  subst e
  cases r1 with
  | cons r rr =>
    cases rr
    obtain ⟨t, rfl⟩ := r
    exact call_range_1 (range_it I1 (by omega) (by omega) q1 q2 (by simpa using q))
theorem pi_range2 {a b : Expr} {ta : TA} {p pos : Pos} (hg : Gl X "range") (hm : X.mg "range" = none) (ha : PA X [a, b] ta) (hs : starEach [a, b] X.env = [(false, eval a X.env), (false, eval b X.env)] := by rfl) (hs2 : starEach [b] X.env = [(false, eval b X.env)] := by rfl) :
    PI X tg (.Call (.Name "range" p) [a, b] [] pos) (iRng2 ta) := by
  intro pins s σ H R I h
  refine Call_ (ld_blt I hg hm boot_range (PyProof.Rows.callWith_type1 (thn (ha pos pins s σ H _ I h) fun us s1 ⟨vs, H1, I1, r1, q1⟩ => ?_) (by rw [hs, hs2]) (by rw [hs2]; rfl)))
  obtain ⟨i, j, e, ⟨q1, q2, q3, q4⟩, q⟩ := q1
  subst e
  cases r1 with
  | cons r rr =>
    cases rr with
    | cons r' rr =>
      cases rr
      obtain ⟨t, rfl⟩ := r
      obtain ⟨t', rfl⟩ := r'
      exact call_range_2 (range_it I1 q1 q2 q3 q4 q)

/-! ### for -/
/-- W: the invariant by the turn and a measure; N: what the body is to reach -/
def tFor (wi : TI) (g : TG) (tb : TS) : TS := fun D σ H => wi σ H fun J H1 => ∃ W : Nat → Nat → St → Hp → Prop, (∃ m, W 0 m σ H1) ∧ ∀ i m σ H, W i m σ H →
  (J.stop i H ∧ D.nx σ H) ∨ (J.go i H ∧ ∃ N : St → Hp → Prop, (∀ σ' H', N σ' H' → ∃ m', m' < m ∧ W (i + 1) m' σ' H') ∧ ∀ x H', J.yld i H x H' → g x σ H' fun σ2 H2 => tb { D with nx := N, ct := N, bk := D.nx } σ2 H2)
/-- the records at fp as they stand -/
def pinsAt (fp : List Addr) (h : Heap) : List (Addr × Obj) := fp.filterMap fun b => (h.get? b).map fun o => (b, o)
theorem mem_pinsAt {fp : List Addr} {h : Heap} {b : Addr} {o : Obj} (hb : b ∈ fp) (e : h.get? b = some o) : (b, o) ∈ pinsAt fp h := List.mem_filterMap.mpr ⟨b, hb, by rw [e]; rfl⟩
theorem of_pinsAt {fp : List Addr} {h : Heap} {p : Addr × Obj} (hp : p ∈ pinsAt fp h) : p.1 ∈ fp ∧ h.get? p.1 = some p.2 := by
  obtain ⟨b, hb, e⟩ := List.mem_filterMap.mp hp
  cases q : h.get? b with
  | none => rw [q] at e; cases e
  | some o =>
    rw [q] at e
    have e' : (b, o) = p := Option.some.inj e
    subst e'
    exact ⟨hb, q⟩
theorem Inv.pinned {pins : List (Addr × Obj)} {σ : St} {H : Hp} {s : Shared} {fp : List Addr} (I : Inv X pins σ H s) (hf : ∀ b ∈ fp, FpOk X pins H b) (ho : ∀ b ∈ fp, ∃ o, s.heap.get? b = some o ∧ ∀ v, o.data ≠ .cell v) : Inv X (pins ++ pinsAt fp s.heap) σ H s :=
  I.pins_of fun p hp => (List.mem_append.mp hp).elim (fun z => I.pin p (List.mem_append_right _ z)) fun z => by
    obtain ⟨hb, e⟩ := of_pinsAt z
    obtain ⟨f0, f1, f2, _⟩ := hf p.1 hb
    obtain ⟨o, e', d⟩ := ho p.1 hb
    rw [e] at e'; cases e'
    exact ⟨e, f0, f1, f2, d⟩
theorem Inv.unpinned {pins pl : List (Addr × Obj)} {σ : St} {H : Hp} {s : Shared} (I : Inv X (pins ++ pl) σ H s) : Inv X pins σ H s := I.pins_of fun p hp => I.pin p (List.mem_append_right _ (List.mem_append_left _ hp))
theorem ps_for {iter : Expr} {body : List Stmt} {wi : TI} {g : TG} {tb : TS} {pos : Pos} (hp : PassesOwn (model X.prog X.w) X.A X.env X.xe) (hc : X.calm = true) (hi : PI X tg iter wi) (hg : PG X tg g) (hb : PSs X body tb)
    (hs : ∀ x, foldedSetIterable iter X.env x = pure x := by intro _; rfl) : PS X (.For tg iter body [] pos) (tFor wi g tb) := by
  intro pins s σ H D I h
  refine wpAny_For (thn (hi pins s σ H _ I h) fun v s1 h1 => thn h1 fun itv s2 h2 => ?_) hs
  obtain ⟨it, fp, tn, J, H2, e, I2, T, st2, f2, W, ⟨m0, w0⟩, turn⟩ := h2
  subst e
  -- what stays true of the iterator's objects through the loop
  have stat : ∀ {H' : Hp}, (∀ b ∈ fp, H' b = none) → ∀ b ∈ fp, FpOk X pins H' b := fun hn b hb => ⟨hn b hb, (f2 b hb).2⟩
  refine codeAny_forLoop_any (fun n s' => ∃ i σ' H', Inv X pins σ' H' s' ∧ tn i s'.heap ∧ (∀ b ∈ fp, H' b = none) ∧ W i n σ' H') ?_ m0 ⟨0, σ, H2, I2, st2, fun b hb => (f2 b hb).1, w0⟩
  rintro n s3 ⟨i, σ3, H3, I3, st3, fr3, w3⟩
  rcases turn i n σ3 H3 w3 with ⟨stop, qn⟩ | ⟨go, N, hN, step⟩
  · refine wpAny_passesOwn hp (thn (T.done X rfl rfl rfl hc i pins s3 σ3 H3 X.xe I3 (stat fr3) st3 stop) fun r s4 ⟨hr, I4⟩ => ?_)
    subst hr
    exact wpAny_execs_nil ⟨σ3, H3, I4, qn⟩
  · refine wpAny_passesOwn hp (thn (T.item X rfl rfl rfl hc i pins s3 σ3 H3 X.xe I3 (stat fr3) st3 go) fun r s4 ⟨u, hr, h4⟩ => ?_)
    subst hr
    refine wpAny_passesOwn hp (thn h4 fun _ s5 ⟨x, H5, I5, r5, y5, st5, fr5⟩ => ?_)
    have I5' := I5.pinned (stat fr5) (T.obj _ _ st5)
    refine wpAny_passesOwn hp (thn (hg _ s5 σ3 H5 x u _ I5' r5 (step x H5 y5)) fun _ s6 ⟨σ6, H6, I6, q6⟩ => ?_)
    refine wpAny_passesOwn hp (thn (hb _ s6 σ6 H6 _ I6 q6) fun f s7 q7 => ?_)
    have again : ∀ {σ7 : St} {H7 : Hp}, Inv X (pins ++ pinsAt fp s5.heap) σ7 H7 s7 → N σ7 H7 → ∃ m, m < n ∧ ∃ i σ' H', Inv X pins σ' H' s7 ∧ tn i s7.heap ∧ (∀ b ∈ fp, H' b = none) ∧ W i m σ' H' := fun {σ7 H7} I7 n7 => by
      obtain ⟨m', hm, w7⟩ := hN σ7 H7 n7
      refine ⟨m', hm, i + 1, σ7, H7, I7.unpinned, T.keep _ _ _ st5 fun b hb o e => (I7.pin (b, o) (List.mem_append_right _ (List.mem_append_right _ (mem_pinsAt hb e)))).1, fun b hb => ?_, w7⟩
      obtain ⟨o, e, d⟩ := T.obj _ _ st5 b hb
      exact (I7.pin (b, o) (List.mem_append_right _ (List.mem_append_right _ (mem_pinsAt hb e)))).2.1
    cases f with
    | next => obtain ⟨σ7, H7, I7, n7⟩ := q7; exact again I7 n7
    | cont => obtain ⟨σ7, H7, I7, n7⟩ := q7; exact again I7 n7
    | brk => obtain ⟨σ7, H7, I7, q7⟩ := q7; exact ⟨σ7, H7, I7.unpinned, q7⟩
    | ret v => obtain ⟨x7, σ7, H7, I7, r7, q7⟩ := q7; exact ⟨x7, σ7, H7, I7.unpinned, r7, q7⟩
end

/-! ### the forms one uses -/
/-- over a list that the body leaves as it is -/
theorem for_list {K : PySem.W.Frag} {a : Addr} {xs : List V} {g : TG} {tb : TS} {D : Ends} {σ : St} {H : Hp} (Pv : Nat → St → Hp → Prop) (h0 : Pv 0 σ H) (hl : ∀ i σ H, i ≤ xs.length → Pv i σ H → SqL K H a xs)
    (hs : ∀ i x σ H, xs[i]? = some x → Pv i σ H → g x σ H fun σ2 H2 => tb { D with nx := Pv (i + 1), ct := Pv (i + 1), bk := D.nx } σ2 H2) (hd : ∀ σ H, Pv xs.length σ H → D.nx σ H) :
    ∃ W : Nat → Nat → St → Hp → Prop, (∃ m, W 0 m σ H) ∧ ∀ i m σ H, W i m σ H →
      ((Itl K a).stop i H ∧ D.nx σ H) ∨ ((Itl K a).go i H ∧ ∃ N : St → Hp → Prop, (∀ σ' H', N σ' H' → ∃ m', m' < m ∧ W (i + 1) m' σ' H') ∧ ∀ x H', (Itl K a).yld i H x H' → g x σ H' fun σ2 H2 => tb { D with nx := N, ct := N, bk := D.nx } σ2 H2) := by
  refine ⟨fun i m σ H => m = xs.length - i ∧ i ≤ xs.length ∧ Pv i σ H, ⟨xs.length, by simp, Nat.zero_le _, h0⟩, ?_⟩
  rintro i m σ H ⟨rfl, hi, p⟩
  have q := hl i σ H hi p
  by_cases hlt : i < xs.length
  · refine .inr ⟨⟨xs, xs[i], q, by simp [hlt]⟩, Pv (i + 1), fun σ' H' p' => ⟨xs.length - (i + 1), by omega, rfl, hlt, p'⟩, fun x H' y => ?_⟩
    obtain ⟨e, y⟩ := y
    subst e
    exact hs i x σ _ (y xs q) p
  · have e : i = xs.length := by omega
    subst e
    exact .inl ⟨⟨xs, q, Nat.le_refl _⟩, hd σ H p⟩
theorem for_tup {K : PySem.W.Frag} {a : Addr} {xs : List V} {g : TG} {tb : TS} {D : Ends} {σ : St} {H : Hp} (Pv : Nat → St → Hp → Prop) (h0 : Pv 0 σ H) (hl : ∀ i σ H, i ≤ xs.length → Pv i σ H → SqT K H a xs)
    (hs : ∀ i x σ H, xs[i]? = some x → Pv i σ H → g x σ H fun σ2 H2 => tb { D with nx := Pv (i + 1), ct := Pv (i + 1), bk := D.nx } σ2 H2) (hd : ∀ σ H, Pv xs.length σ H → D.nx σ H) :
    ∃ W : Nat → Nat → St → Hp → Prop, (∃ m, W 0 m σ H) ∧ ∀ i m σ H, W i m σ H →
      ((Itt K a).stop i H ∧ D.nx σ H) ∨ ((Itt K a).go i H ∧ ∃ N : St → Hp → Prop, (∀ σ' H', N σ' H' → ∃ m', m' < m ∧ W (i + 1) m' σ' H') ∧ ∀ x H', (Itt K a).yld i H x H' → g x σ H' fun σ2 H2 => tb { D with nx := N, ct := N, bk := D.nx } σ2 H2) := by
  refine ⟨fun i m σ H => m = xs.length - i ∧ i ≤ xs.length ∧ Pv i σ H, ⟨xs.length, by simp, Nat.zero_le _, h0⟩, ?_⟩
  rintro i m σ H ⟨rfl, hi, p⟩
  have q := hl i σ H hi p
  by_cases hlt : i < xs.length
  · refine .inr ⟨⟨xs, xs[i], q, by simp [hlt]⟩, Pv (i + 1), fun σ' H' p' => ⟨xs.length - (i + 1), by omega, rfl, hlt, p'⟩, fun x H' y => ?_⟩
    obtain ⟨e, y⟩ := y
    subst e
    exact hs i x σ _ (y xs q) p
  · have e : i = xs.length := by omega
    subst e
    exact .inl ⟨⟨xs, q, Nat.le_refl _⟩, hd σ H p⟩
theorem for_range {lo : Int} {n : Nat} {g : TG} {tb : TS} {D : Ends} {σ : St} {H : Hp} (Pv : Nat → St → Hp → Prop) (h0 : Pv 0 σ H)
    (hs : ∀ i σ H, i < n → Pv i σ H → g (.int (lo + i)) σ H fun σ2 H2 => tb { D with nx := Pv (i + 1), ct := Pv (i + 1), bk := D.nx } σ2 H2) (hd : ∀ σ H, Pv n σ H → D.nx σ H) :
    ∃ W : Nat → Nat → St → Hp → Prop, (∃ m, W 0 m σ H) ∧ ∀ i m σ H, W i m σ H →
      ((Itr lo n).stop i H ∧ D.nx σ H) ∨ ((Itr lo n).go i H ∧ ∃ N : St → Hp → Prop, (∀ σ' H', N σ' H' → ∃ m', m' < m ∧ W (i + 1) m' σ' H') ∧ ∀ x H', (Itr lo n).yld i H x H' → g x σ H' fun σ2 H2 => tb { D with nx := N, ct := N, bk := D.nx } σ2 H2) := by
  refine ⟨fun i m σ H => m = n - i ∧ i ≤ n ∧ Pv i σ H, ⟨n, by simp, Nat.zero_le _, h0⟩, ?_⟩
  rintro i m σ H ⟨rfl, hi, p⟩
  by_cases hlt : i < n
  · refine .inr ⟨hlt, Pv (i + 1), fun σ' H' p' => ⟨n - (i + 1), by omega, rfl, hlt, p'⟩, fun x H' y => ?_⟩
    obtain ⟨e, y⟩ := y
    subst e y
    exact hs i σ _ hlt p
  · have e : i = n := by omega
    subst e
    exact .inl ⟨Nat.le_refl _, hd σ H p⟩
/-- while, by a word and a measure of the state -/
theorem while_by {c : TT} {tb : TS} {D : Ends} {σ : St} {H : Hp} (Pv : St → Hp → Prop) (μ : St → Hp → Nat) (h0 : Pv σ H)
    (hs : ∀ σ H, Pv σ H → c σ H fun b H1 => if b = true then tb { D with nx := fun σ' H' => Pv σ' H' ∧ μ σ' H' < μ σ H, ct := fun σ' H' => Pv σ' H' ∧ μ σ' H' < μ σ H, bk := D.nx } σ H1 else D.nx σ H1)
    (mono : ∀ σ H Q Q', (∀ b H1, Q b H1 → Q' b H1) → c σ H Q → c σ H Q') : tWhile c tb D σ H := by
  refine ⟨fun m σ H => m = μ σ H ∧ Pv σ H, ⟨_, rfl, h0⟩, ?_⟩
  rintro m σ H ⟨rfl, p⟩
  refine mono σ H _ _ (fun b H1 q => ?_) (hs σ H p)
  cases b with
  | true => exact ⟨_, fun σ' H' ⟨p', l⟩ => ⟨_, l, rfl, p'⟩, q⟩
  | false => exact q
end L2

namespace L2
open PySem PySem.Spec PyProof.Rows

abbrev R2 := V → V → Hp → VK → Prop
/-- a two-place operation on values: f is binaryOp op, inplaceOp op or compareOp op -/
def OpR (X : Cx) (f : Value → Value → Sem Value) (r : R2) : Prop :=
  ∀ (pins : List (Addr × Obj)) (s : Shared) (σ : St) (H : Hp) (x y : V) (v u : Value) (Q : VK), Inv X pins σ H s → RelV x v → RelV y u → r x y H Q →
    wpAny (model X.prog X.w) X.A (f v u) (EP X pins σ Q) X.xe s
/-- a one-place operation -/
def UnR (X : Cx) (f : Value → Sem Value) (r : V → Hp → VK → Prop) : Prop :=
  ∀ (pins : List (Addr × Obj)) (s : Shared) (σ : St) (H : Hp) (x : V) (v : Value) (Q : VK), Inv X pins σ H s → RelV x v → r x H Q →
    wpAny (model X.prog X.w) X.A (f v) (EP X pins σ Q) X.xe s
/-- a call of a value that is known (a builtin, a type) with values -/
def CallR (X : Cx) (f : Value) (r : List V → Hp → VK → Prop) : Prop :=
  ∀ (pins : List (Addr × Obj)) (s : Shared) (σ : St) (H : Hp) (xs : List V) (us : List Value) (Q : VK), Inv X pins σ H s → Vals xs us → r xs H Q →
    wpAny (model X.prog X.w) X.A (call f us) (EP X pins σ Q) X.xe s
/-- a value's truth -/
def TruR (X : Cx) (r : V → Hp → (Bool → Hp → Prop) → Prop) : Prop :=
  ∀ (pins : List (Addr × Obj)) (s : Shared) (σ : St) (H : Hp) (x : V) (v : Value) (Q : Bool → Hp → Prop), Inv X pins σ H s → RelV x v → r x H Q →
    wpAny (model X.prog X.w) X.A (truthy v) (TP X pins σ Q) X.xe s

def tOp (r : R2) (ta tb : TE) : TE := fun σ H Q => ta σ H fun x H1 => tb σ H1 fun y H2 => r x y H2 Q
def tUn (r : V → Hp → VK → Prop) (ta : TE) : TE := fun σ H Q => ta σ H fun x H1 => r x H1 Q
/-- ints in, under C, and a value out -/
def rI (C : Int → Int → Prop) (g : Int → Int → V) : R2 := fun x y H Q => ∃ i j, x = .int i ∧ y = .int j ∧ C i j ∧ Q (g i j) H
def rI0 (g : Int → Int → V) : R2 := fun x y H Q => ∃ i j, x = .int i ∧ y = .int j ∧ Q (g i j) H
def rU (g : Int → V) : V → Hp → VK → Prop := fun x H Q => ∃ i, x = .int i ∧ Q (g i) H

section
variable {X : Cx} {a b c : Expr} {ta tb tc : TE} {pos : Pos}

theorem binT (ha : PE X a ta) (hb : PE X b tb) {pins : List (Addr × Obj)} {s : Shared} {σ : St} {H : Hp} {R : V → V → Hp → Prop} (I : Inv X pins σ H s)
    (h : ta σ H fun x H1 => tb σ H1 fun y H2 => R x y H2) {Q : Value → Shared → Prop} {f : Value → Value → Sem Value}
    (hf : ∀ v u s2 x y H2, Inv X pins σ H2 s2 → RelV x v → RelV y u → R x y H2 → wpAny (model X.prog X.w) X.A (f v u) Q X.xe s2) :
    wpAny (model X.prog X.w) X.A (eval a X.env) (fun v s₁ => wpAny (model X.prog X.w) X.A (eval b X.env) (fun u s₂ => wpAny (model X.prog X.w) X.A (f v u) Q X.xe s₂) X.xe s₁) X.xe s := by
  refine thn (ha pins s σ H _ I h) fun v s1 ⟨x, H1, I1, r1, q1⟩ => ?_
  refine thn (hb pins s1 σ H1 _ I1 q1) fun u s2 ⟨y, H2, I2, r2, q2⟩ => ?_
  exact hf v u s2 x y H2 I2 r1 r2 q2

theorem pe_op {op : Operator} {r : R2} (ho : OpR X (binaryOp op) r) (ha : PE X a ta) (hb : PE X b tb) : PE X (.BinOp a op b pos) (tOp r ta tb) := by
  intro pins s σ H Q I h
  exact wpAny_BinOp (binT ha hb I h fun v u s2 x y H2 I2 rx ry q => ho pins s2 σ H2 x y v u Q I2 rx ry q)
theorem pe_un {op : UnaryOp} {r : V → Hp → VK → Prop} (ho : UnR X (unaryOp op) r) (ha : PE X a ta) : PE X (.UnaryOp op a pos) (tUn r ta) := by
  intro pins s σ H Q I h
  exact UnaryOp_ (thn (ha pins s σ H _ I h) fun v s1 ⟨x, H1, I1, r1, q1⟩ => ho pins s1 σ H1 x v Q I1 r1 q1)
/-- a op= e at a name: the name's slot i -/
theorem augR {op : Operator} {r : R2} (ho : OpR X (inplaceOp op) r) {pins : List (Addr × Obj)} {s : Shared} {σ : St} {H : Hp} {x y : V} {v u : Value} {Q : VK} (I : Inv X pins σ H s)
    (rx : RelV x v) (ry : RelV y u) (q : r x y H Q) : wpAny (model X.prog X.w) X.A (inplaceOp op v u) (EP X pins σ Q) X.xe s := ho pins s σ H x y v u Q I rx ry q

/-! ### ints -/
theorem opI {f : Value → Value → Sem Value} {C : Int → Int → Prop} {g : Int → Int → Int}
    (rule : ∀ (i j : Int) (t u : Tok) (s : Shared) (Q : Value → Shared → Prop) (E : Value → Shared → Prop), C i j → Q (.int (g i j) s.toks) { s with toks := s.toks + 1 } → wpAny (model X.prog X.w) X.A (f (.int i t) (.int j u)) Q E s) :
    OpR X f (rI C fun i j => .int (g i j)) := by
  intro pins s σ H x y v u Q I rx ry h
  obtain ⟨i, j, rfl, rfl, hc, q⟩ := h
  obtain ⟨t, rfl⟩ := rx
  obtain ⟨t', rfl⟩ := ry
  exact rule i j t t' s _ _ hc ⟨.int (g i j), H, I.tok _, ⟨_, rfl⟩, q⟩
theorem opI0 {f : Value → Value → Sem Value} {g : Int → Int → Int}
    (rule : ∀ (i j : Int) (t u : Tok) (s : Shared) (Q : Value → Shared → Prop) (E : Value → Shared → Prop), Q (.int (g i j) s.toks) { s with toks := s.toks + 1 } → wpAny (model X.prog X.w) X.A (f (.int i t) (.int j u)) Q E s) :
    OpR X f (rI0 fun i j => .int (g i j)) := by
  intro pins s σ H x y v u Q I rx ry h
  obtain ⟨i, j, rfl, rfl, q⟩ := h
  obtain ⟨t, rfl⟩ := rx
  obtain ⟨t', rfl⟩ := ry
  exact rule i j t t' s _ _ ⟨.int (g i j), H, I.tok _, ⟨_, rfl⟩, q⟩
theorem opB0 {f : Value → Value → Sem Value} {g : Int → Int → Bool}
    (rule : ∀ (i j : Int) (t u : Tok) (s : Shared) (Q : Value → Shared → Prop) (E : Value → Shared → Prop), Q (.bool (g i j)) s → wpAny (model X.prog X.w) X.A (f (.int i t) (.int j u)) Q E s) :
    OpR X f (rI0 fun i j => .bl (g i j)) := by
  intro pins s σ H x y v u Q I rx ry h
  obtain ⟨i, j, rfl, rfl, q⟩ := h
  obtain ⟨t, rfl⟩ := rx
  obtain ⟨t', rfl⟩ := ry
  exact rule i j t t' s _ _ ⟨.bl (g i j), H, I, rfl, q⟩

def CDiv (i j : Int) : Prop := 0 < j ∧ j < 1073741824
def CDivN (i j : Int) : Prop := j ≠ 0 ∧ j.natAbs < 1073741824
def CPow (i j : Int) : Prop := 0 ≤ j ∧ j ≤ 1000000 ∧ i.natAbs < 2 ^ 64
def CMul (i j : Int) : Prop := (-(2 ^ 64) < i ∧ i < 2 ^ 64) ∨ (-(2 ^ 64) < j ∧ j < 2 ^ 64)
theorem CMul.ok {i j : Int} (h : CMul i j) : IntMulOk i j := by
  rcases h with ⟨h1, h2⟩ | ⟨h1, h2⟩
  · exact .of_left (intBits_le_64 h1 h2)
  · exact .of_right (intBits_le_64 h1 h2)
theorem two_pow_nn (k : Nat) : (0 : Int) ≤ 2 ^ k := by
  rw [two_pow_cast]
  exact Int.natCast_nonneg _

theorem op_add : OpR X (binaryOp .Add) (rI0 fun i j => .int (i + j)) := opI0 fun _ _ _ _ _ _ _ q => add_int q
theorem op_sub : OpR X (binaryOp .Sub) (rI0 fun i j => .int (i - j)) := opI0 fun _ _ _ _ _ _ _ q => sub_int q
theorem op_mul : OpR X (binaryOp .Mult) (rI CMul fun i j => .int (i * j)) := opI fun _ _ _ _ _ _ _ hc q => mul_int q hc.ok
/-- // by a positive divisor -/
theorem op_fdiv : OpR X (binaryOp .FloorDiv) (rI CDiv fun i j => .int (i / j)) := opI fun i j _ _ _ _ _ hc q => by
  have h1 : (0 : Int) < j := hc.1
  have h2 : j < 1073741824 := hc.2
  exact floordiv_int (by omega) (by rw [Int.fdiv_eq_ediv_of_nonneg i (by omega)]; exact q) (.inl (PyProof.noPylong_small (by omega)))
theorem op_fdivN : OpR X (binaryOp .FloorDiv) (rI CDivN fun i j => .int (i.fdiv j)) := opI fun _ _ _ _ _ _ _ hc q => floordiv_int hc.1 q (.inl (PyProof.noPylong_small hc.2))
/-- % by a positive divisor of any size -/
theorem op_mod : OpR X (binaryOp .Mod) (rI (fun _ j => 0 < j) fun i j => .int (i % j)) := opI fun i j _ _ _ _ _ hc q => by
  have h1 : (0 : Int) < j := hc
  exact mod_int' (by omega) (by rw [Int.fmod_eq_emod_of_nonneg i (by omega)]; exact q)
theorem op_modN : OpR X (binaryOp .Mod) (rI (fun _ j => j ≠ 0) fun i j => .int (i.fmod j)) := opI fun _ _ _ _ _ _ _ hc q => mod_int' hc q
theorem op_pow : OpR X (binaryOp .Pow) (rI CPow fun i j => .int (i ^ j.toNat)) := opI fun _ _ _ _ _ _ _ hc q => pow_int_small hc.1 hc.2.1 hc.2.2 q
theorem op_shl : OpR X (binaryOp .LShift) (rI CPow fun i j => .int (i * 2 ^ j.toNat)) := opI fun _ _ _ _ _ _ _ hc q => lshift_int_small hc.1 hc.2.1 hc.2.2 q
theorem op_shr : OpR X (binaryOp .RShift) (rI (fun _ j => 0 ≤ j) fun i j => .int (i / 2 ^ j.toNat)) := opI fun i j _ _ _ _ _ hc q =>
  rshift_int hc (by rw [Int.fdiv_eq_ediv_of_nonneg i (two_pow_nn _)]; exact q)
theorem op_and : OpR X (binaryOp .BitAnd) (rI0 fun i j => .int (Builtin.bitAnd i j)) := opI0 fun _ _ _ _ _ _ _ q => and_int q
theorem op_or : OpR X (binaryOp .BitOr) (rI0 fun i j => .int (Builtin.bitOr i j)) := opI0 fun _ _ _ _ _ _ _ q => or_int q
theorem op_xor : OpR X (binaryOp .BitXor) (rI0 fun i j => .int (Builtin.bitXor i j)) := opI0 fun _ _ _ _ _ _ _ q => xor_int q

theorem iop_add : OpR X (inplaceOp .Add) (rI0 fun i j => .int (i + j)) := opI0 fun _ _ _ _ _ _ _ q => iadd_int q
theorem iop_sub : OpR X (inplaceOp .Sub) (rI0 fun i j => .int (i - j)) := opI0 fun _ _ _ _ _ _ _ q => isub_int q
theorem iop_mul : OpR X (inplaceOp .Mult) (rI CMul fun i j => .int (i * j)) := opI fun _ _ _ _ _ _ _ hc q => imul_int q hc.ok
theorem iop_fdiv : OpR X (inplaceOp .FloorDiv) (rI CDiv fun i j => .int (i / j)) := opI fun i j _ _ _ _ _ hc q => by
  have h1 : (0 : Int) < j := hc.1
  have h2 : j < 1073741824 := hc.2
  exact ifloordiv_int (by omega) (by rw [Int.fdiv_eq_ediv_of_nonneg i (by omega)]; exact q) (.inl (PyProof.noPylong_small (by omega)))
theorem iop_mod : OpR X (inplaceOp .Mod) (rI (fun _ j => 0 < j) fun i j => .int (i % j)) := opI fun i j _ _ _ _ _ hc q => by
  have h1 : (0 : Int) < j := hc
  exact imod_int (by omega) (by rw [Int.fmod_eq_emod_of_nonneg i (by omega)]; exact q)
theorem iop_shl : OpR X (inplaceOp .LShift) (rI CPow fun i j => .int (i * 2 ^ j.toNat)) := opI fun _ _ _ _ _ _ _ hc q => ilshift_int_small hc.1 hc.2.1 hc.2.2 q
theorem iop_shr : OpR X (inplaceOp .RShift) (rI (fun _ j => 0 ≤ j) fun i j => .int (i / 2 ^ j.toNat)) := opI fun i j _ _ _ _ _ hc q =>
  irshift_int hc (by rw [Int.fdiv_eq_ediv_of_nonneg i (two_pow_nn _)]; exact q)
theorem iop_and : OpR X (inplaceOp .BitAnd) (rI0 fun i j => .int (Builtin.bitAnd i j)) := opI0 fun _ _ _ _ _ _ _ q => iand_int q
theorem iop_or : OpR X (inplaceOp .BitOr) (rI0 fun i j => .int (Builtin.bitOr i j)) := opI0 fun _ _ _ _ _ _ _ q => ior_int q
theorem iop_xor : OpR X (inplaceOp .BitXor) (rI0 fun i j => .int (Builtin.bitXor i j)) := opI0 fun _ _ _ _ _ _ _ q => ixor_int q

theorem unI {f : Value → Sem Value} {g : Int → Int}
    (rule : ∀ (i : Int) (t : Tok) (s : Shared) (Q : Value → Shared → Prop) (E : Value → Shared → Prop), Q (.int (g i) s.toks) { s with toks := s.toks + 1 } → wpAny (model X.prog X.w) X.A (f (.int i t)) Q E s) :
    UnR X f (rU fun i => .int (g i)) := by
  intro pins s σ H x v Q I rx h
  obtain ⟨i, rfl, q⟩ := h
  obtain ⟨t, rfl⟩ := rx
  exact rule i t s _ _ ⟨.int (g i), H, I.tok _, ⟨_, rfl⟩, q⟩
theorem un_neg : UnR X (unaryOp .USub) (rU fun i => .int (-i)) := unI fun _ _ _ _ _ q => neg_int q
theorem un_inv : UnR X (unaryOp .Invert) (rU fun i => .int (Builtin.bitNot i)) := unI fun _ _ _ _ _ q => invert_int q

/-! ### bools among ints: n += (a < b) -/
theorem op_add_ib : OpR X (binaryOp .Add) (fun x y H Q => ∃ i k, x = .int i ∧ y = .bl k ∧ Q (.int (i + b2i k)) H) := by
  intro pins s σ H x y v u Q I rx ry h
  obtain ⟨i, k, rfl, rfl, q⟩ := h
  obtain ⟨t, rfl⟩ := rx
  cases ry
  exact add_int_bool ⟨.int (i + b2i k), H, I.tok _, ⟨_, rfl⟩, q⟩
end

/-! ### comparisons -/
/-- the scalars that == tells apart as data does -/
def scal : V → V → Bool
  | .non, .non => true | .non, .int _ => true | .int _, .non => true | .non, .bl _ => true | .bl _, .non => true | .non, .str _ => true | .str _, .non => true
  | .int _, .int _ => true | .bl _, .bl _ => true | .str _, .str _ => true | .byt _, .byt _ => true
  | .int _, .str _ => true | .str _, .int _ => true | .bl _, .str _ => true | .str _, .bl _ => true
  | _, _ => false
def rEq : R2 := fun x y H Q => scal x y = true ∧ Q (.bl (decide (x = y))) H
def rNe : R2 := fun x y H Q => scal x y = true ∧ Q (.bl (!decide (x = y))) H

theorem dec_int {i j : Int} : decide (V.int i = V.int j) = (i == j) := by
  rw [Bool.eq_iff_iff]
  simp
theorem dec_bl {i j : Bool} : decide (V.bl i = V.bl j) = (i == j) := by
  rw [Bool.eq_iff_iff]
  simp
theorem dec_str {i j : Str} : decide (V.str i = V.str j) = (i == j) := by
  rw [Bool.eq_iff_iff]
  simp
theorem dec_byt {i j : Array UInt8} : decide (V.byt i = V.byt j) = (i.toList == j.toList) := by
  rw [Bool.eq_iff_iff]
  cases i
  cases j
  simp

section
variable {X : Cx} {a b c : Expr} {ta tb tc : TE} {pos : Pos}
theorem fin_bl {pins : List (Addr × Obj)} {σ : St} {H : Hp} {s : Shared} {Q : VK} {k k' : Bool} (I : Inv X pins σ H s) (q : Q (.bl k) H) (e : k = k') : EP X pins σ Q (.bool k') s := by
  subst e
  exact ⟨.bl k, H, I, rfl, q⟩
theorem op_eq : OpR X (compareOp .Eq) rEq := by
  intro pins s σ H x y v u Q I rx ry h
  obtain ⟨hs, q⟩ := h
  cases x with
  | non =>
    cases rx
    cases y with
    | non => cases ry; exact PySem.EqNone.eq_none_none (fin_bl I q (by simp))
    | bl j => cases ry; exact PySem.EqNone.eq_none_bool (fin_bl I q (by simp))
    | int j => obtain ⟨t', rfl⟩ := ry; exact PySem.EqNone.eq_none_int (fin_bl I q (by simp))
    | str j => obtain ⟨t', rfl⟩ := ry; exact PySem.EqNone.eq_none_str (fin_bl I q (by simp))
    | _ => exact absurd (show false = true from hs) Bool.false_ne_true
  | bl i =>
    cases rx
    cases y with
    | non => cases ry; exact PySem.EqNone.eq_bool_none (fin_bl I q (by simp))
    | bl j => cases ry; exact eq_bool (fin_bl I q dec_bl)
    | str j => obtain ⟨t', rfl⟩ := ry; exact PySem.EqMixed.eq_bool_str (fin_bl I q (by simp))
    | _ => exact absurd (show false = true from hs) Bool.false_ne_true
  | int i =>
    obtain ⟨t, rfl⟩ := rx
    cases y with
    | non => cases ry; exact PySem.EqNone.eq_int_none (fin_bl I q (by simp))
    | int j => obtain ⟨t', rfl⟩ := ry; exact eq_int (fin_bl I q dec_int)
    | str j => obtain ⟨t', rfl⟩ := ry; exact PySem.EqMixed.eq_int_str (fin_bl I q (by simp))
    | _ => exact absurd (show false = true from hs) Bool.false_ne_true
  | str i =>
    obtain ⟨t, rfl⟩ := rx
    cases y with
    | non => cases ry; exact PySem.EqNone.eq_str_none (fin_bl I q (by simp))
    | bl j => cases ry; exact PySem.EqMixed.eq_str_bool (fin_bl I q (by simp))
    | int j => obtain ⟨t', rfl⟩ := ry; exact PySem.EqMixed.eq_str_int (fin_bl I q (by simp))
    | str j => obtain ⟨t', rfl⟩ := ry; exact eq_str (fin_bl I q dec_str)
    | _ => exact absurd (show false = true from hs) Bool.false_ne_true
  | byt i =>
    obtain ⟨t, rfl⟩ := rx
    cases y with
    | byt j => obtain ⟨t', rfl⟩ := ry; exact PySem.W.eq_bytes (fin_bl I q dec_byt)
    | _ => exact absurd (show false = true from hs) Bool.false_ne_true
  | _ => cases y <;> exact absurd (show false = true from hs) Bool.false_ne_true
theorem op_ne : OpR X (compareOp .NotEq) rNe := by
  intro pins s σ H x y v u Q I rx ry h
  obtain ⟨hs, q⟩ := h
  cases x with
  | non =>
    cases rx
    cases y with
    | non => cases ry; exact PySem.EqNone.ne_none_none (fin_bl I q (by simp))
    | bl j => cases ry; exact PySem.EqNone.ne_none_bool (fin_bl I q (by simp))
    | int j => obtain ⟨t', rfl⟩ := ry; exact PySem.EqNone.ne_none_int (fin_bl I q (by simp))
    | str j => obtain ⟨t', rfl⟩ := ry; exact PySem.EqNone.ne_none_str (fin_bl I q (by simp))
    | _ => exact absurd (show false = true from hs) Bool.false_ne_true
  | bl i =>
    cases rx
    cases y with
    | non => cases ry; exact PySem.EqNone.ne_bool_none (fin_bl I q (by simp))
    | bl j => cases ry; exact ne_bool (fin_bl I q (congrArg not dec_bl))
    | str j => obtain ⟨t', rfl⟩ := ry; exact PySem.EqMixed.ne_bool_str (fin_bl I q (by simp))
    | _ => exact absurd (show false = true from hs) Bool.false_ne_true
  | int i =>
    obtain ⟨t, rfl⟩ := rx
    cases y with
    | non => cases ry; exact PySem.EqNone.ne_int_none (fin_bl I q (by simp))
    | int j => obtain ⟨t', rfl⟩ := ry; exact ne_int (fin_bl I q (congrArg not dec_int))
    | str j => obtain ⟨t', rfl⟩ := ry; exact PySem.EqMixed.ne_int_str (fin_bl I q (by simp))
    | _ => exact absurd (show false = true from hs) Bool.false_ne_true
  | str i =>
    obtain ⟨t, rfl⟩ := rx
    cases y with
    | non => cases ry; exact PySem.EqNone.ne_str_none (fin_bl I q (by simp))
    | bl j => cases ry; exact PySem.EqMixed.ne_str_bool (fin_bl I q (by simp))
    | int j => obtain ⟨t', rfl⟩ := ry; exact PySem.EqMixed.ne_str_int (fin_bl I q (by simp))
    | str j => obtain ⟨t', rfl⟩ := ry; exact ne_str (fin_bl I q (congrArg not dec_str))
    | _ => exact absurd (show false = true from hs) Bool.false_ne_true
  | byt i =>
    obtain ⟨t, rfl⟩ := rx
    cases y with
    | byt j => obtain ⟨t', rfl⟩ := ry; exact PySem.W.ne_bytes (fin_bl I q (congrArg not dec_byt))
    | _ => exact absurd (show false = true from hs) Bool.false_ne_true
  | _ => cases y <;> exact absurd (show false = true from hs) Bool.false_ne_true

theorem op_lt : OpR X (compareOp .Lt) (rI0 fun i j => .bl (decide (i < j))) := opB0 fun _ _ _ _ _ _ _ q => lt_int q
theorem op_le : OpR X (compareOp .LtE) (rI0 fun i j => .bl (decide (i ≤ j))) := opB0 fun _ _ _ _ _ _ _ q => le_int q
theorem op_gt : OpR X (compareOp .Gt) (rI0 fun i j => .bl (decide (j < i))) := opB0 fun _ _ _ _ _ _ _ q => gt_int q
theorem op_ge : OpR X (compareOp .GtE) (rI0 fun i j => .bl (decide (j ≤ i))) := opB0 fun _ _ _ _ _ _ _ q => ge_int q
theorem op_lt_str : OpR X (compareOp .Lt) (fun x y H Q => ∃ i j, x = .str i ∧ y = .str j ∧ Q (.bl (decide (i.cps.toList < j.cps.toList))) H) := by
  intro pins s σ H x y v u Q I rx ry h
  obtain ⟨i, j, rfl, rfl, q⟩ := h
  obtain ⟨t, rfl⟩ := rx
  obtain ⟨t', rfl⟩ := ry
  exact lt_str (fin_bl I q rfl)
/-- the one string within the other -/
theorem op_in_str : OpR X (compareOp .In) (fun x y H Q => ∃ i j, x = .str i ∧ y = .str j ∧ Q (.bl (!(Builtin.Str.occurrences j i 0 j.length 1).isEmpty)) H) := by
  intro pins s σ H x y v u Q I rx ry h
  obtain ⟨i, j, rfl, rfl, q⟩ := h
  obtain ⟨t, rfl⟩ := rx
  obtain ⟨t', rfl⟩ := ry
  exact in_str (fin_bl I q rfl)

/-- is None, is not None: the right side a value none -/
theorem op_isN : OpR X (compareOp .Is) (fun x y H Q => y = .non ∧ Q (.bl (decide (x = .non))) H) := by
  intro pins s σ H x y v u Q I rx ry h
  obtain ⟨rfl, q⟩ := h
  cases ry
  refine is_none_gen (fin_bl I q ?_)
  cases x <;> first
    | (cases rx; rfl)
    | (obtain ⟨t, rfl⟩ := rx; rfl)
theorem op_notN : OpR X (compareOp .IsNot) (fun x y H Q => y = .non ∧ Q (.bl (!decide (x = .non))) H) := by
  intro pins s σ H x y v u Q I rx ry h
  obtain ⟨rfl, q⟩ := h
  cases ry
  refine isnot_none_gen (fin_bl I q ?_)
  cases x <;> first
    | (cases rx; rfl)
    | (obtain ⟨t, rfl⟩ := rx; rfl)

theorem op_notin_str : OpR X (compareOp .NotIn) (fun x y H Q => ∃ i j, x = .str i ∧ y = .str j ∧ Q (.bl (!(!(Builtin.Str.occurrences j i 0 j.length 1).isEmpty))) H) := by
  intro pins s σ H x y v u Q I rx ry h
  obtain ⟨i, j, rfl, rfl, q⟩ := h
  obtain ⟨t, rfl⟩ := rx
  obtain ⟨t', rfl⟩ := ry
  exact notIn_str (fin_bl I q rfl)
/-- is, is not of two objects that are tracked lists or instances -/
def isObj : HO → Bool
  | .lst _ => true
  | .ins _ _ _ => true
  | _ => false
theorem obj_there {pins : List (Addr × Obj)} {s : Shared} {σ : St} {H : Hp} {a : Addr} {o : HO} (I : Inv X pins σ H s) (h : H a = some o) (p : isObj o = true) : ∃ ob, s.heap.get? a = some ob ∧ ob.cls ≠ .type "tuple" := by
  cases o with
  | lst xs =>
    obtain ⟨_, its, n, _, e⟩ : xs.length ≤ sizeLine ∧ ∃ (its : List Value) (n : Nat), Vals xs its ∧ s.heap.get? a = some { cls := .type "list", data := .seq its.toArray n } := I.hok a _ h
    exact ⟨_, e, (by show Value.type "list" ≠ .type "tuple"; decide +kernel)⟩
  | ins C dx fs =>
    have x := I.hok a _ h
    obtain ⟨_, _, _, e, _⟩ := x
    exact ⟨_, e, (by show Value.ref C ≠ .type "tuple"; exact fun z => by cases z)⟩
  | _ => exact absurd (show false = true from p) Bool.false_ne_true
theorem op_is_ref : OpR X (compareOp .Is) (fun x y H Q => ∃ a b oa ob, x = .ref a ∧ y = .ref b ∧ H a = some oa ∧ isObj oa = true ∧ H b = some ob ∧ isObj ob = true ∧ Q (.bl (decide (a = b))) H) := by
  intro pins s σ H x y v u Q I rx ry h
  obtain ⟨a, b, oa, ob, rfl, rfl, ha, pa, hb, pb, q⟩ := h
  cases rx
  cases ry
  obtain ⟨o1, e1, n1⟩ := obj_there I ha pa
  obtain ⟨o2, e2, _⟩ := obj_there I hb pb
  by_cases z : a = b
  · subst z
    exact wpAny_is_ref_self (fin_bl I q (by simp))
  · exact wpAny_is_ref_other z e1 e2 n1 (fin_bl I q (by simp [z]))
theorem op_isnot_ref : OpR X (compareOp .IsNot) (fun x y H Q => ∃ a b oa ob, x = .ref a ∧ y = .ref b ∧ H a = some oa ∧ isObj oa = true ∧ H b = some ob ∧ isObj ob = true ∧ Q (.bl (!decide (a = b))) H) := by
  intro pins s σ H x y v u Q I rx ry h
  obtain ⟨a, b, oa, ob, rfl, rfl, ha, pa, hb, pb, q⟩ := h
  cases rx
  cases ry
  obtain ⟨o1, e1, n1⟩ := obj_there I ha pa
  obtain ⟨o2, e2, _⟩ := obj_there I hb pb
  by_cases z : a = b
  · subst z
    exact wpAny_isNot_ref_self (fin_bl I q (by simp))
  · exact wpAny_isNot_ref_other z e1 e2 n1 (fin_bl I q (by simp [z]))

/-- two rules for one operation: by cases -/
theorem OpR.or {f : Value → Value → Sem Value} {r r' : R2} (h : OpR X f r) (h' : OpR X f r') : OpR X f (fun x y H Q => r x y H Q ∨ r' x y H Q) := by
  intro pins s σ H x y v u Q I rx ry q
  rcases q with q | q
  · exact h pins s σ H x y v u Q I rx ry q
  · exact h' pins s σ H x y v u Q I rx ry q

theorem nomark (b : Expr) {op : CmpOp} (h : op ≠ .In := by decide) (h2 : op ≠ .NotIn := by decide) : behindInMarks op b = false := by
  have e1 : (op == CmpOp.In) = false := by cases op <;> first | rfl | exact absurd rfl h
  have e2 : (op == CmpOp.NotIn) = false := by cases op <;> first | rfl | exact absurd rfl h2
  cases b <;> simp [behindInMarks, e1, e2]
/-- a comparison as a value; hm: nomark b, or (for in, not in) by with_unfolding_all rfl -/
theorem pe_cmpR {op : CmpOp} {r : R2} (ho : OpR X (compareOp op) r) (ha : PE X a ta) (hb : PE X b tb) (hm : behindInMarks op b = false) : PE X (.Compare a [op] [b] pos) (tOp r ta tb) := by
  intro pins s σ H Q I h
  exact wpAny_Compare1 (binT ha hb I h fun v u s2 x y H2 I2 rx ry q => ho pins s2 σ H2 x y v u Q I2 rx ry q) hm
/-- a reading of a value as a test -/
def tTest (t : TE) : TT := fun σ H Q => t σ H fun x H' => ∃ k, x = .bl k ∧ Q k H'
theorem pt_cmpR {op : CmpOp} {r : R2} (ho : OpR X (compareOp op) r) (ha : PE X a ta) (hb : PE X b tb) (hm : behindInMarks op b = false) : PT X (.Compare a [op] [b] pos) (tTest (tOp r ta tb)) := by
  intro pins s σ H Q I h
  refine wpAny_isTrue_Compare1 (thn (ha pins s σ H _ I h) fun v s1 ⟨x, H1, I1, r1, q1⟩ => thn (hb pins s1 σ H1 _ I1 q1) fun u s2 ⟨y, H2, I2, r2, q2⟩ =>
    thn (ho pins s2 σ H2 x y v u _ I2 r1 r2 q2) fun c s3 ⟨z, H3, I3, r3, k, e, q3⟩ => ?_) hm
  subst e
  cases r3
  exact wpAny_truthy_bool ⟨H3, I3, q3⟩
/-- a op1 b op2 c -/
def tChain (r r' : R2) (ta tb tc : TE) : TE := fun σ H Q => ta σ H fun x H1 => tb σ H1 fun y H2 => r x y H2 fun z H3 => ∃ k, z = .bl k ∧
  (if k = true then tc σ H3 fun w' H4 => r' y w' H4 Q else Q (.bl false) H3)
theorem pe_chain {op op' : CmpOp} {r r' : R2} (ho : OpR X (compareOp op) r) (ho' : OpR X (compareOp op') r') (ha : PE X a ta) (hb : PE X b tb) (hc : PE X c tc)
    (hm : lastMarks [op, op'] [b, c] = false := by with_unfolding_all rfl) : PE X (.Compare a [op, op'] [b, c] pos) (tChain r r' ta tb tc) := by
  intro pins s σ H Q I h
  refine Compare_chain (thn (ha pins s σ H _ I h) fun v s1 ⟨x, H1, I1, r1, q1⟩ => chain_link (thn (hb pins s1 σ H1 _ I1 q1) fun u s2 ⟨y, H2, I2, r2, q2⟩ =>
    thn (ho pins s2 σ H2 x y v u _ I2 r1 r2 q2) fun d s3 ⟨z, H3, I3, r3, k, e, q3⟩ => ?_)) hm
  subst e
  cases r3
  refine wpAny_truthy_bool ?_
  cases k with
  | false => exact ite_ff ⟨.bl false, H3, I3, rfl, q3⟩
  | true => exact ite_tt (chain_last (thn (hc pins s3 σ H3 _ I3 q3) fun w' s4 ⟨z', H4, I4, r4, q4⟩ => ho' pins s4 σ H4 y z' u w' Q I4 r2 r4 q4))
theorem pt_chain {op op' : CmpOp} {r r' : R2} (ho : OpR X (compareOp op) r) (ho' : OpR X (compareOp op') r') (ha : PE X a ta) (hb : PE X b tb) (hc : PE X c tc)
    (hm : lastMarks [op, op'] [b, c] = false := by with_unfolding_all rfl) : PT X (.Compare a [op, op'] [b, c] pos) (tTest (tChain r r' ta tb tc)) := by
  intro pins s σ H Q I h
  refine isTrue_chain (thn (ha pins s σ H _ I h) fun v s1 ⟨x, H1, I1, r1, q1⟩ => test_link (thn (hb pins s1 σ H1 _ I1 q1) fun u s2 ⟨y, H2, I2, r2, q2⟩ =>
    thn (ho pins s2 σ H2 x y v u _ I2 r1 r2 q2) fun d s3 ⟨z, H3, I3, r3, k, e, q3⟩ => ?_)) hm
  subst e
  cases r3
  refine wpAny_truthy_bool ?_
  cases k with
  | false =>
    obtain ⟨k', e', q'⟩ := q3
    cases e'
    exact ite_ff ⟨H3, I3, q'⟩
  | true =>
    refine ite_tt (test_last (thn (hc pins s3 σ H3 _ I3 q3) fun w' s4 ⟨z', H4, I4, r4, q4⟩ => thn (ho' pins s4 σ H4 y z' u w' _ I4 r2 r4 q4) fun d' s5 ⟨z2, H5, I5, r5, k2, e2, q5⟩ => ?_))
    subst e2
    cases r5
    exact wpAny_truthy_bool ⟨H5, I5, q5⟩

/-! ### truth -/
/-- a value's truth by the abstract heap -/
def TruV (K : PySem.W.Frag) (x : V) (H : Hp) (k : Bool) : Prop :=
  match x with
  | .non => k = false
  | .bl b => k = b
  | .int i => k = (i != 0)
  | .str y => y.length ≤ sizeLine ∧ k = ((y.length : Int) != 0)
  | .byt y => y.size ≤ sizeLine ∧ k = ((y.size : Int) != 0)
  | .ref p => (∃ xs, SqL K H p xs ∧ k = !xs.isEmpty) ∨ (∃ xs, SqT K H p xs ∧ k = !xs.isEmpty) ∨ ∃ kvs, H p = some (.dK kvs) ∧ k = !kvs.isEmpty
  | _ => False
theorem isEmpty_kv {κ : Type} {kvs : List (κ × V)} {vs : List (κ × Value)} (r : KV kvs vs) : (!vs.isEmpty) = !kvs.isEmpty := by
  cases r <;> rfl
theorem isEmpty_of {xs : List V} {its : List Value} (r : Vals xs its) : (!its.toArray.isEmpty) = !xs.isEmpty := by
  cases r <;> simp
theorem line63 : (sizeLine : Nat) < 2 ^ 63 := by rw [sizeLine_eq]; decide
theorem tru_ok : TruR X (fun x H Q => ∃ k, TruV X.K x H k ∧ Q k H) := by
  intro pins s σ H x v Q I rx h
  obtain ⟨k, e, q⟩ := h
  have hl := line63
  have hs : sizeLine = 16777216 := sizeLine_eq
  cases x with
  | non =>
    cases rx
    have e' : k = false := e
    subst e'
    exact truthy_none ⟨H, I, q⟩
  | bl b =>
    cases rx
    have e' : k = b := e
    subst e'
    exact wpAny_truthy_bool ⟨H, I, q⟩
  | int i =>
    obtain ⟨t, rfl⟩ := rx
    have e' : k = (i != 0) := e
    subst e'
    exact PySem.P.truthy_int ⟨H, I, q⟩
  | str y =>
    obtain ⟨t, rfl⟩ := rx
    obtain ⟨hy, e'⟩ : y.length ≤ sizeLine ∧ k = ((y.length : Int) != 0) := e
    subst e'
    exact PySem.P.truthy_str (by omega) ⟨H, I.tok _, q⟩
  | byt y =>
    obtain ⟨t, rfl⟩ := rx
    obtain ⟨hy, e'⟩ : y.size ≤ sizeLine ∧ k = ((y.size : Int) != 0) := e
    subst e'
    exact PySem.W.truthy_bytes (by omega) ⟨H, I.tok _, q⟩
  | ref p =>
    cases rx
    have e' : (∃ xs, SqL X.K H p xs ∧ k = !xs.isEmpty) ∨ (∃ xs, SqT X.K H p xs ∧ k = !xs.isEmpty) ∨ ∃ kvs, H p = some (.dK kvs) ∧ k = !kvs.isEmpty := e
    rcases e' with ⟨xs, hx, e'⟩ | ⟨xs, hx, e'⟩ | ⟨kvs, hx, e'⟩
    · subst e'
      obtain ⟨its, r, pl, hz⟩ := I.list hx
      have hlen := r.length
      exact wpAny_truthy_list pl.isList (by simp only [List.size_toArray]; omega) ⟨H, I.tok _, by rw [isEmpty_of r]; exact q⟩
    · subst e'
      obtain ⟨its, r, pl, hz⟩ := I.tuple hx
      have hlen := r.length
      exact truthy_tuple pl (by simp only [List.size_toArray]; omega) ⟨H, I.tok _, by rw [isEmpty_of r]; exact q⟩
    · subst e'
      obtain ⟨hz, hS, vs, r, m⟩ : kvs.length ≤ sizeLine ∧ (p == sysModules) = false ∧ ∃ vs, KV kvs vs ∧ s.heap.DictOf (mixKind X.prog X.w) p vs := I.hok p _ hx
      have hlen : kvs.length = vs.length := Paired.length r
      exact wpAny_truthy_dict hS m (by omega) ⟨H, I.tok _, by rw [isEmpty_kv r]; exact q⟩
  | _ => exact (show False from e).elim
/-- any expression whose test is its value's truth (a name, a call, a subscript, a field ..: he by fun _ => rfl) -/
theorem pt_truth (ha : PE X a ta) (he : ∀ whole, isTrue a X.env whole = (do let v ← whole; standAt a.pos; holding [v] (truthy v))) :
    PT X a (fun σ H Q => ta σ H fun x H' => ∃ k, TruV X.K x H' k ∧ Q k H') := by
  intro pins s σ H Q I h
  exact isTrue_plain (thn (ha pins s σ H _ I h) fun v s1 ⟨x, H1, I1, r1, q1⟩ => tru_ok pins s1 σ H1 x v Q I1 r1 q1) (he _)

/-! ### strs and bytes -/
theorem pe_byt {x : List UInt8} {k : Nat} : PE X (.Constant (.bytes x) k pos) (fun _ H Q => Q (.byt x.toArray) H) := fun _ _ _ H _ I h => PySem.W.Constant_bytes ⟨.byt x.toArray, H, I.tok _, ⟨_, rfl⟩, h⟩
theorem op_add_str : OpR X (binaryOp .Add) (fun x y H Q => ∃ i j, x = .str i ∧ y = .str j ∧ i.length + j.length ≤ sizeLine ∧ Q (.str (i ++ j)) H) := by
  intro pins s σ H x y v u Q I rx ry h
  obtain ⟨i, j, rfl, rfl, hz, q⟩ := h
  obtain ⟨t, rfl⟩ := rx
  obtain ⟨t', rfl⟩ := ry
  exact add_str (fun t' tk => ⟨.str (i ++ j), H, I.tok _, ⟨_, rfl⟩, q⟩) hz
theorem iop_add_str : OpR X (inplaceOp .Add) (fun x y H Q => ∃ i j, x = .str i ∧ y = .str j ∧ i.length + j.length ≤ sizeLine ∧ Q (.str (i ++ j)) H) := by
  intro pins s σ H x y v u Q I rx ry h
  obtain ⟨i, j, rfl, rfl, hz, q⟩ := h
  obtain ⟨t, rfl⟩ := rx
  obtain ⟨t', rfl⟩ := ry
  exact iadd_str (fun t' tk => ⟨.str (i ++ j), H, I.tok _, ⟨_, rfl⟩, q⟩) hz
theorem op_add_byt : OpR X (binaryOp .Add) (fun x y H Q => ∃ i j, x = .byt i ∧ y = .byt j ∧ i.size + j.size ≤ 16777216 ∧ Q (.byt (i ++ j)) H) := by
  intro pins s σ H x y v u Q I rx ry h
  obtain ⟨i, j, rfl, rfl, hz, q⟩ := h
  obtain ⟨t, rfl⟩ := rx
  obtain ⟨t', rfl⟩ := ry
  exact PySem.W.KBy.add_bytes hz (fun t' tk => ⟨.byt (i ++ j), H, I.tok _, ⟨_, rfl⟩, q⟩)

def PlainIxT (b : Expr) : Prop := ∀ o i, subscripted b false o i = operate [o, i] (getItem o i)
/-- s[i], 0 ≤ i < len -/
theorem pe_item_str (ha : PE X a ta) (hb : PE X b tb) (hs : PlainIxT b) :
    PE X (.Subscript a b pos) (tOp (fun x y H Q => ∃ z i c, x = .str z ∧ y = .int i ∧ 0 ≤ i ∧ i < 2 ^ 63 ∧ i < z.length ∧ z.cps[i.toNat]? = some c ∧ Q (.str ⟨#[c]⟩) H) ta tb) := by
  intro pins s σ H Q I h
  refine Subscript_ (binT ha hb I h fun v u s2 x y H2 I2 rx ry q => ?_)
  obtain ⟨z, i, c, rfl, rfl, h0, h63, h1, hc, q⟩ := q
  obtain ⟨t, rfl⟩ := rx
  obtain ⟨t', rfl⟩ := ry
  have e : seqIndex? i z.length = some i.toNat := PySem.StrLaws.seqIndex_nonneg h0 h1
  exact tail_any (typeIs_str s2 z t) slot_str_getitem.lookup (getItem_str (c := c) (by
    have e1 : decide (i < -(2 ^ 63 : Int)) = false := decide_eq_false (by omega)
    have e2 : decide (i ≥ 2 ^ 63) = false := decide_eq_false (by omega)
    rw [e1, e2] <;> rfl) (by rw [e]; exact hc) ⟨.str ⟨#[c]⟩, H2, I2.tok _, ⟨_, rfl⟩, q⟩) (hs _ _)
/-- b[i], 0 ≤ i < len -/
theorem pe_item_byt (ha : PE X a ta) (hb : PE X b tb) (hs : PlainIxT b) :
    PE X (.Subscript a b pos) (tOp (fun x y H Q => ∃ (z : List UInt8) (i : Int), x = .byt z.toArray ∧ y = .int i ∧ z.length ≤ sizeLine ∧ 0 ≤ i ∧ i < z.length ∧ Q (.int ((z.getD i.toNat 0).toNat : Nat)) H) ta tb) := by
  intro pins s σ H Q I h
  refine Subscript_ (binT ha hb I h fun v u s2 x y H2 I2 rx ry q => ?_)
  obtain ⟨z, i, rfl, rfl, hz, h0, h1, q⟩ := q
  obtain ⟨t, rfl⟩ := rx
  obtain ⟨t', rfl⟩ := ry
  have hl : sizeLine = 16777216 := sizeLine_eq
  exact tail_any (PySem.W.typeIs_bytes s2 z.toArray t) PySem.W.FB.slot_bytes_getitem.lookup (PySem.W.getItem_bytes (by omega) h0 h1 ⟨.int ((z.getD i.toNat 0).toNat : Nat), H2, I2.tok _, ⟨_, rfl⟩, q⟩) (hs _ _)

/-! ### scalar builtins, by CallR -/
theorem vals1 {x : V} {us : List Value} (r : Vals [x] us) : ∃ u, us = [u] ∧ RelV x u := by
  cases r with
  | cons r1 r2 => cases r2; exact ⟨_, rfl, r1⟩
theorem vals2 {x y : V} {us : List Value} (r : Vals [x, y] us) : ∃ u w', us = [u, w'] ∧ RelV x u ∧ RelV y w' := by
  cases r with
  | cons r1 r2 =>
    cases r2 with
    | cons r3 r4 => cases r4; exact ⟨_, _, rfl, r1, r3⟩
theorem call_abs : CallR X (.builtin "abs") (fun xs H Q => ∃ i, xs = [.int i] ∧ Q (.int (if i < 0 then -i else i)) H) := by
  intro pins s σ H xs us Q I r h
  obtain ⟨i, rfl, q⟩ := h
  obtain ⟨u, rfl, t, rfl⟩ := vals1 r
  exact call_abs_int fun u tk => ⟨.int (if i < 0 then -i else i), H, I.tok _, ⟨_, rfl⟩, q⟩
theorem call_max2 (hc : X.calm = true) : CallR X (.builtin "max") (fun xs H Q => ∃ i j, xs = [.int i, .int j] ∧ Q (.int (if j > i then j else i)) H) := by
  intro pins s σ H xs us Q I r h
  obtain ⟨i, j, rfl, q⟩ := h
  obtain ⟨u, w', rfl, ⟨t, rfl⟩, ⟨t', rfl⟩⟩ := vals2 r
  refine max_two_ints (I.ok.hd hc) fun h' tk k => ⟨_, H, I.kept k, ?_, q⟩
  by_cases hj : j > i
  · rw [if_pos hj, if_pos hj]; exact ⟨_, rfl⟩
  · rw [if_neg hj, if_neg hj]; exact ⟨_, rfl⟩
theorem call_min2 (hc : X.calm = true) : CallR X (.builtin "min") (fun xs H Q => ∃ i j, xs = [.int i, .int j] ∧ Q (.int (if j < i then j else i)) H) := by
  intro pins s σ H xs us Q I r h
  obtain ⟨i, j, rfl, q⟩ := h
  obtain ⟨u, w', rfl, ⟨t, rfl⟩, ⟨t', rfl⟩⟩ := vals2 r
  refine min_two_ints (I.ok.hd hc) fun h' tk k => ⟨_, H, I.kept k, ?_, q⟩
  by_cases hj : j < i
  · rw [if_pos hj, if_pos hj]; exact ⟨_, rfl⟩
  · rw [if_neg hj, if_neg hj]; exact ⟨_, rfl⟩
theorem call_int1 : CallR X (.type "int") (fun xs H Q => (∃ i, xs = [.int i] ∧ Q (.int i) H) ∨ ∃ k, xs = [.bl k] ∧ Q (.int (if k then 1 else 0)) H) := by
  intro pins s σ H xs us Q I r h
  rcases h with ⟨i, rfl, q⟩ | ⟨k, rfl, q⟩
  · obtain ⟨u, rfl, t, rfl⟩ := vals1 r
    exact call_int_int ⟨.int i, H, I, ⟨_, rfl⟩, q⟩
  · obtain ⟨u, rfl, r1⟩ := vals1 r
    cases r1
    exact call_int_bool ⟨.int (if k then 1 else 0), H, I.tok _, ⟨_, rfl⟩, q⟩
theorem call_bool1 : CallR X (.type "bool") (fun xs H Q => (∃ i, xs = [.int i] ∧ Q (.bl (i != 0)) H) ∨ ∃ k, xs = [.bl k] ∧ Q (.bl k) H) := by
  intro pins s σ H xs us Q I r h
  rcases h with ⟨i, rfl, q⟩ | ⟨k, rfl, q⟩
  · obtain ⟨u, rfl, t, rfl⟩ := vals1 r
    exact call_bool_int ⟨.bl (i != 0), H, I, rfl, q⟩
  · obtain ⟨u, rfl, r1⟩ := vals1 r
    cases r1
    exact call_bool_bool ⟨.bl k, H, I, rfl, q⟩
theorem call_str_int : CallR X (.type "str") (fun xs H Q => ∃ i, xs = [.int i] ∧ i.natAbs.log2 < 1920 ∧ Q (.str (toString i)) H) := by
  intro pins s σ H xs us Q I r h
  obtain ⟨i, rfl, hz, q⟩ := h
  obtain ⟨u, rfl, t, rfl⟩ := vals1 r
  exact PySem.P.str_of_int hz ⟨.str _, H, I.tok _, ⟨_, rfl⟩, q⟩
theorem call_ord : CallR X (.builtin "ord") (fun xs H Q => ∃ x, xs = [.str x] ∧ x.length = 1 ∧ Q (.int (x.cps.getD 0 0 : Nat)) H) := by
  intro pins s σ H xs us Q I r h
  obtain ⟨x, rfl, hz, q⟩ := h
  obtain ⟨u, rfl, t, rfl⟩ := vals1 r
  exact ord_of_one hz ⟨.int _, H, I.tok _, ⟨_, rfl⟩, q⟩
theorem call_chr : CallR X (.builtin "chr") (fun xs H Q => ∃ i, xs = [.int i] ∧ 0 ≤ i ∧ i ≤ 1114111 ∧ Q (.str ⟨#[i.toNat]⟩) H) := by
  intro pins s σ H xs us Q I r h
  obtain ⟨i, rfl, h0, h1, q⟩ := h
  obtain ⟨u, rfl, t, rfl⟩ := vals1 r
  exact chr_of_range h0 h1 ⟨.str _, H, I.tok _, ⟨_, rfl⟩, q⟩
/-- len of a str, a bytes, a list, a tuple -/
def LenV (K : PySem.W.Frag) (x : V) (H : Hp) (n : Nat) : Prop :=
  match x with
  | .str y => y.length ≤ sizeLine ∧ n = y.length
  | .byt y => y.size ≤ sizeLine ∧ n = y.size
  | .ref p => (∃ xs, SqL K H p xs ∧ n = xs.length) ∨ ∃ xs, SqT K H p xs ∧ n = xs.length
  | _ => False
theorem call_len : CallR X (.builtin "len") (fun xs H Q => ∃ x n, xs = [x] ∧ LenV X.K x H n ∧ Q (.int n) H) := by
  intro pins s σ H xs us Q I r h
  obtain ⟨x, n, rfl, e, q⟩ := h
  obtain ⟨u, rfl, rx⟩ := vals1 r
  have hl := line63
  have hs : sizeLine = 16777216 := sizeLine_eq
  cases x with
  | str y =>
    obtain ⟨t, rfl⟩ := rx
    obtain ⟨hy, e'⟩ : y.length ≤ sizeLine ∧ n = y.length := e
    subst e'
    exact len_str (by omega) ⟨.int _, H, I.tok _, ⟨_, rfl⟩, q⟩
  | byt y =>
    obtain ⟨t, rfl⟩ := rx
    obtain ⟨hy, e'⟩ : y.size ≤ sizeLine ∧ n = y.size := e
    subst e'
    exact PySem.W.len_bytes (by omega) ⟨.int _, H, I.tok _, ⟨_, rfl⟩, q⟩
  | ref p =>
    cases rx
    have e' : (∃ xs, SqL X.K H p xs ∧ n = xs.length) ∨ ∃ xs, SqT X.K H p xs ∧ n = xs.length := e
    rcases e' with ⟨xs, hx, e'⟩ | ⟨xs, hx, e'⟩
    · subst e'
      obtain ⟨its, r', pl, hz⟩ := I.list hx
      have hlen := r'.length
      exact Calls.call_len_list pl.isList (by simp only [List.size_toArray]; omega) ⟨.int xs.length, H, I.tok _, ⟨_, by simp only [List.size_toArray]; rw [hlen]⟩, q⟩
    · subst e'
      obtain ⟨its, r', pl, hz⟩ := I.tuple hx
      have hlen := r'.length
      exact len_tuple pl (by simp only [List.size_toArray]; omega) ⟨.int xs.length, H, I.tok _, ⟨_, by simp only [List.size_toArray]; rw [hlen]⟩, q⟩
  | _ => exact (show False from e).elim
/-- divmod: a new tuple -/
theorem call_divmod : CallR X (.builtin "divmod") (fun xs H Q => ∃ i j, xs = [.int i, .int j] ∧ CDiv i j ∧ ∀ p, H p = none → Q (.ref p) (upd H p (.tup [.int (i / j), .int (i % j)]))) := by
  intro pins s σ H xs us Q I r h
  obtain ⟨i, j, rfl, ⟨h1, h2⟩, q⟩ := h
  obtain ⟨u, w', rfl, ⟨t, rfl⟩, ⟨t', rfl⟩⟩ := vals2 r
  refine divmod_int (by omega) ?_ (.inl (PyProof.noPylong_small (by omega)))
  rw [Int.fdiv_eq_ediv_of_nonneg i (by omega), Int.fmod_eq_emod_of_nonneg i (by omega)]
  have hn : H s.heap.objs.size = none := I.hok.fresh (Nat.le_refl _)
  refine ⟨.ref s.heap.objs.size, _, ?_, rfl, q _ hn⟩
  refine I.laid (fun b o e => Heap.get?_push_of_some _ e) (Nat.le_refl _) ⟨by simp only [List.length_cons, List.length_nil]; rw [sizeLine_eq]; decide, [.int (i / j) s.toks, .int (i % j) (s.toks + 1)], .cons ⟨_, rfl⟩ (.cons ⟨_, rfl⟩ .nil), ?_⟩
  exact ⟨_, Heap.get?_push_size s.heap rfl, rfl, 0, rfl⟩
end
end L2

namespace L2
open PySem PySem.Spec PyProof.Rows

/-! ### an instance, its attributes a map -/
structure ObjM (h : Heap) (x dx C : Addr) (mA : Str → Option Value) : Prop where
  obj : h.get? x = some (PySem.W.instObj C dx)
  ns : h.Ns1 dx mA
  ne : dx ≠ x

theorem lookIn_ns {h : Heap} {dx : Addr} {mA : Str → Option Value} (n : h.Ns1 dx mA) : ∃ od, h.get? dx = some od ∧ ∀ name, PySem.W.lookIn name od = some (mA name) := by
  obtain ⟨o, es, ep, ho, hd, hk, _, hm⟩ := n
  refine ⟨o, ho, fun name => ?_⟩
  have e := hm name
  unfold nsFind findBy at e
  rw [← Array.find?_toList] at e
  unfold PySem.W.lookIn
  rw [hd]
  dsimp only
  split
  · rename_i y q
    rw [q] at e
    exact congrArg some e
  · rename_i q
    rw [q] at e
    have a : es.toList.any (·.refKey) = false := by
      rw [List.any_eq_false]
      intro y hy
      obtain ⟨z, t, hkey⟩ := hk y (Array.mem_toList_iff.mp hy)
      simp [DictEntry.refKey, hkey]
    have a' : ¬ es.toList.any (·.refKey) = true := by rw [a]; exact Bool.false_ne_true
    rw [if_neg a']
    exact congrArg some e

theorem ObjM.look {h : Heap} {x dx C : Addr} {mA : Str → Option Value} (I : ObjM h x dx C mA) : ∃ od, PySem.W.InstAt h x (PySem.W.instObj C dx) C (some od) ∧ ∀ name, PySem.W.lookIn name od = some (mA name) :=
  let ⟨od, ho, hl⟩ := lookIn_ns I.ns
  ⟨od, ⟨I.obj, rfl, rfl, ho⟩, hl⟩

section
variable {prog : Program} {w : World} {A : Around} {E : Value → Shared → Prop} {s : Shared} {K : PySem.W.Frag} {x dx C f : Addr} {mA : Str → Option Value} {name : Str} {v : Value}

theorem get_map {expr : Bool} {Q : Value → Shared → Prop} (X : K.In s.heap) (I : ObjM s.heap x dx C mA) (hg : PySem.W.plainGet K C name = true) (hh : PySem.W.hasDictIn K C = true)
    (ha : PySem.W.findIn K (.ref C) name = some none) (hv : mA name = some v) (hv' : PySem.W.handedIn v = true) (h : Q v { s with toks := s.toks + 1 }) :
    wpAny (model prog w) A (getAttr (.ref x) name expr) Q E s := by
  obtain ⟨od, J, hl⟩ := I.look
  exact PySem.W.get_value X J (PySem.W.plainGet_of hg).1 (PySem.W.findObj_own hh ha rfl (by rw [hl, hv])) hv' h

theorem get_const {expr : Bool} {a : Value} {Q : Value → Shared → Prop} (X : K.In s.heap) (I : ObjM s.heap x dx C mA) (hg : PySem.W.plainGet K C name = true) (hh : PySem.W.hasDictIn K C = true)
    (ha : PySem.W.findIn K (.ref C) name = some (some a)) (hn : PySem.W.specialIn K a "__get__" = some none) (hc : PySem.W.copiedNames.contains name = false) (hv : mA name = none) (hv' : PySem.W.handedIn a = true)
    (h : Q a { s with toks := s.toks + 1 }) : wpAny (model prog w) A (getAttr (.ref x) name expr) Q E s := by
  obtain ⟨od, J, hl⟩ := I.look
  exact PySem.W.get_value X J (PySem.W.plainGet_of hg).1 (PySem.W.findObj_cls hh ha hn hv' hc (by rw [hl, hv])) hv' h

theorem get_meth {pl : Sem Bool} {Q : Value × List Value → Shared → Prop} (X : K.In s.heap) (I : ObjM s.heap x dx C mA) (hg : PySem.W.plainGet K C name = true)
    (hf : PySem.W.findIn K (.ref C) name = some (some (.ref f))) (ht : PySem.W.isFn K (.ref f) = true) (hv : mA name = none) (h : Q (.ref f, [.ref x]) s) :
    wpAny (model prog w) A (getMethod (.ref x) name pl) Q E s := by
  obtain ⟨od, J, hl⟩ := I.look
  exact PySem.W.method_fn X J (PySem.W.plainGet_of hg).1 (PySem.W.plainGet_of hg).2 hf (beq_iff_eq.mp ht) (by show (PySem.W.lookIn name od).map (·.isSome) = some false; rw [hl, hv]; rfl) h

theorem set_map {ns : List Str} {Q : Unit → Shared → Prop} (X : K.In s.heap) (I : ObjM s.heap x dx C mA)
    (hs : PySem.W.findIn K (.ref C) "__setattr__" = some (some (.builtin "object.__setattr__"))) (hp : PySem.W.plainOver K C = true) (ht : PySem.W.takerIn K C name = some none) (hh : PySem.W.hasDictIn K C = true)
    (hw : PySem.Within mA ns) (hsz : ns.length ≤ sizeLine)
    (h : ∀ h', ObjM h' x dx C (fun y => if y = name then some v else mA y) → Heap.SameBut dx s.heap h' → Q () { s with heap := h', toks := s.toks + 2 }) :
    wpAny (model prog w) A (setAttr (.ref x) name v) Q E s := by
  obtain ⟨od, J, hl⟩ := I.look
  refine PySem.W.set_plain X J hs (PySem.W.osa_open (s := { s with toks := s.toks + 1 }) (r := none) X J hp ht fun b => ?_)
  obtain ⟨cd, hc, hd'⟩ := PySem.W.any_some hh
  have hx : s.heap.get? x = some ⟨.ref C, some dx, .plain, #[]⟩ := I.obj
  refine wpAny_bind (wpAny_pure (wpAny_bind (wpAny_bind (wpAny_loadPart hx (wpAny_bind (PySem.W.Looks.here (s := { s with toks := s.toks + 1 }) (PySem.W.looks_clsIn X hc) ?_))))))
  rw [hd']
  refine wpAny_pure (a := some dx) (wpAny_bind (wpAny_pure (wpAny_bind ?_)))
  refine wpAny_nsSet1 (s := { s with toks := s.toks + 1 }) I.ns fun h' hn2 hs2 => ?_
  obtain ⟨oD, esD, epD, hoD, hdD, hcD⟩ := hn2.count (PySem.Within.cons name v hw)
  refine wpAny_bind (wpAny_lookBehind hoD (by rw [hdD]; exact pastItsLine_dict (Nat.le_trans hcD (by rw [List.length_cons]; omega))) ?_)
  exact wpAny_pure (h _ ⟨(hs2.2 _ (Ne.symm I.ne)).trans I.obj, hn2, I.ne⟩ hs2)

/-- C(..): the dict at the heap's end, the instance behind it; then its __init__ -/
theorem make_map {R : Result → Shared → Prop} {vs : List Value} {kw : List (Str × Value)} (X : K.In s.heap) (hm : PySem.W.makesIn K C = true)
    (hi : PySem.W.findIn K (.ref C) "__init__" = some (some (.ref f))) (hf : PySem.W.typeIn K (.ref f) = some (.type "function"))
    (h : codeAny (model prog w) (A.under (.builtin "type.__call__" ⟨.ref C :: vs, kw⟩)) (.call (.ref f) ⟨.ref (s.heap.objs.size + 1) :: vs, kw⟩) (PySem.W.InitBack (s.heap.objs.size + 1) R)
      { s with heap := (s.heap.push PySem.W.emptyDict).push (PySem.W.instObj C s.heap.objs.size) }) :
    codeAny (model prog w) A (.call (.ref C) ⟨vs, kw⟩) R s := by
  obtain ⟨hh, g, d, t, os⟩ := s
  exact PySem.W.make_core (PySem.W.makes_of X hm) (PySem.W.looks_findIn X hi) (fun self => PySem.W.bind_fn X self hf) (.inl rfl) h
/-- C() where there is no __init__ but object's -/
theorem make_map0 {R : Result → Shared → Prop} (X : K.In s.heap) (hm : PySem.W.makesIn K C = true)
    (hi : PySem.W.findIn K (.ref C) "__init__" = some (some (.builtin "object.__init__")))
    (hb : ∀ self, PySem.W.Looks (model prog w) s.heap (bindSpecial (.builtin "object.__init__") self) (.builtin "object.__init__", [self]))
    (h : codeAny (model prog w) (A.under (.builtin "type.__call__" ⟨[.ref C], []⟩)) (.call (.builtin "object.__init__") ⟨[.ref (s.heap.objs.size + 1)], []⟩) (PySem.W.InitBack (s.heap.objs.size + 1) R)
      { s with heap := (s.heap.push PySem.W.emptyDict).push (PySem.W.instObj C s.heap.objs.size) }) :
    codeAny (model prog w) A (.call (.ref C) ⟨[], []⟩) R s := by
  obtain ⟨hh, g, d, t, os⟩ := s
  exact PySem.W.make_core (PySem.W.makes_of X hm) (PySem.W.looks_findIn X hi) hb (.inr ⟨rfl, rfl⟩) h
end

/-! ### the attributes as a list of pairs -/
def putF (f : Str) (v : V) : List (Str × V) → List (Str × V)
  | [] => [(f, v)]
  | (g, x) :: r => if g = f then (g, v) :: r else (g, x) :: putF f v r
theorem lookup_putF (f g : Str) (v : V) : ∀ fs : List (Str × V), (putF f v fs).lookup g = if g = f then some v else fs.lookup g
  | [] => by
    show List.lookup g [(f, v)] = _
    by_cases h : g = f
    · have hb : (g == f) = true := beq_iff_eq.mpr h
      simp only [List.lookup, hb, if_pos h]
    · have hb : (g == f) = false := beq_eq_false_iff_ne.mpr h
      simp only [List.lookup, hb, if_neg h]
  | (k, x) :: r => by
    have ih := lookup_putF f g v r
    rw [show putF f v ((k, x) :: r) = (if k = f then (k, v) :: r else (k, x) :: putF f v r) from rfl]
    by_cases hk : k = f
    · rw [if_pos hk]
      by_cases h : g = k
      · have hb : (g == k) = true := beq_iff_eq.mpr h
        simp only [List.lookup, hb, if_pos (h.trans hk)]
      · have hb : (g == k) = false := beq_eq_false_iff_ne.mpr h
        simp only [List.lookup, hb, if_neg (fun e : g = f => h (e.trans hk.symm))]
    · rw [if_neg hk]
      by_cases h : g = k
      · have hb : (g == k) = true := beq_iff_eq.mpr h
        simp only [List.lookup, hb, if_neg (fun e : g = f => hk (h.symm.trans e))]
      · have hb : (g == k) = false := beq_eq_false_iff_ne.mpr h
        simp only [List.lookup, hb]
        exact ih
theorem keys_putF (f : Str) (v : V) : ∀ fs : List (Str × V), f ∈ (putF f v fs).map (·.1) ∧ ∀ g, g ∈ fs.map (·.1) → g ∈ (putF f v fs).map (·.1)
  | [] => ⟨by simp [putF], fun g h => by simp at h⟩
  | (k, x) :: r => by
    obtain ⟨i1, i2⟩ := keys_putF f v r
    rw [show putF f v ((k, x) :: r) = (if k = f then (k, v) :: r else (k, x) :: putF f v r) from rfl]
    by_cases hk : k = f
    · rw [if_pos hk]
      subst hk
      exact ⟨by simp, fun g h => by simpa using h⟩
    · rw [if_neg hk]
      refine ⟨?_, fun g h => ?_⟩
      · rw [List.map_cons]
        exact List.mem_cons_of_mem _ i1
      · rw [List.map_cons] at h ⊢
        rcases List.mem_cons.mp h with e | e
        · exact List.mem_cons.mpr (.inl e)
        · exact List.mem_cons_of_mem _ (i2 g e)
theorem length_putF (f : Str) (v : V) : ∀ fs : List (Str × V), (putF f v fs).length ≤ fs.length + 1
  | [] => by simp [putF]
  | (k, x) :: r => by
    have ih := length_putF f v r
    rw [show putF f v ((k, x) :: r) = (if k = f then (k, v) :: r else (k, x) :: putF f v r) from rfl]
    by_cases hk : k = f
    · rw [if_pos hk, List.length_cons, List.length_cons]; omega
    · rw [if_neg hk, List.length_cons, List.length_cons]; omega

theorem RelO.some_of {v : V} {o : Option Value} (r : RelO (some v) o) : ∃ u, o = some u ∧ RelV v u := by
  cases o with
  | none => exact (show False from r).elim
  | some u => exact ⟨u, rfl, r⟩
theorem RelO.none_of {o : Option Value} (r : RelO none o) : o = none := by
  cases o with
  | none => rfl
  | some u => exact (show False from r).elim
theorem handed_of {v : V} {u : Value} (r : RelV v u) : PySem.W.handedIn u = true := by
  cases v with
  | non => cases (show u = Value.none from r); rfl
  | bl b => cases (show u = Value.bool b from r); rfl
  | int i => obtain ⟨t, e⟩ := (show ∃ t, u = Value.int i t from r); cases e; rfl
  | str x => obtain ⟨t, e⟩ := (show ∃ t, u = Value.str x t from r); cases e; rfl
  | byt b => obtain ⟨t, e⟩ := (show ∃ t, u = Value.bytes b t from r); cases e; rfl
  | flt b => obtain ⟨t, e⟩ := (show ∃ t, u = Value.float b t from r); cases e; rfl
  | ref a => cases (show u = Value.ref a from r); rfl
  | ty n => cases (show u = Value.type n from r); rfl

section
variable {P : Program} {w : World} {H H' : Hp} {h h' : Heap} {a C dx : Addr} {fs fs' : List (Str × V)}
theorem ins_get (hok : HOk P w H h) (e : H a = some (.ins C dx fs)) : ∃ mA, ObjM h a dx C mA ∧ (∀ f, RelO (fs.lookup f) (mA f)) ∧ PySem.Within mA (fs.map (·.1)) ∧ fs.length ≤ 1000 ∧ H dx = some (.own a) := by
  obtain ⟨d, z, ne, ob, mA, n, r, q⟩ := (show ObjOk P w H h a (.ins C dx fs) from hok a _ e)
  exact ⟨mA, ⟨ob, n, ne⟩, r, q, z, d⟩
end

/-! ### what of the text a class must have -/
structure Cls (K : PySem.W.Frag) (C : Addr) : Prop where
  pg : PySem.W.plainGet K C Str.empty = true
  hd : PySem.W.hasDictIn K C = true
  po : PySem.W.plainOver K C = true
  sa : PySem.W.findIn K (.ref C) "__setattr__" = some (some (.builtin "object.__setattr__"))
theorem Cls.get {K : PySem.W.Frag} {C : Addr} (c : Cls K C) (f : Str) : PySem.W.plainGet K C f = true := c.pg
/-- no class of it has the name -/
def NoAttr (K : PySem.W.Frag) (C : Addr) (f : Str) : Prop := PySem.W.findIn K (.ref C) f = some none
theorem NoAttr.taker {K : PySem.W.Frag} {C : Addr} {f : Str} (n : NoAttr K C f) : PySem.W.takerIn K C f = some none := by
  unfold PySem.W.takerIn
  rw [show PySem.W.findIn K (.ref C) f = some none from n]
  rfl
/-- a constant of the class -/
structure Con (K : PySem.W.Frag) (C : Addr) (f : Str) (v : V) (u : Value) : Prop where
  at_ : PySem.W.findIn K (.ref C) f = some (some u)
  rel : RelV v u
  get : PySem.W.specialIn K u "__get__" = some none
  cp : PySem.W.copiedNames.contains f = false
/-- a method: a plain def of the class or of one above it -/
structure Meth (K : PySem.W.Frag) (C : Addr) (m : Str) (f : Addr) : Prop where
  at_ : PySem.W.findIn K (.ref C) m = some (some (.ref f))
  fn : PySem.W.isFn K (.ref f) = true
  kp : PySem.W.keepIn K (.ref f) = true

section
variable {X : Cx} {pins : List (Addr × Obj)} {σ : St} {H : Hp} {s : Shared} {a C dx : Addr} {fs : List (Str × V)} {f : Str} {v : V} {A : Around} {E : Value → Shared → Prop}

theorem getattr_ok {b : Bool} {Q : Value → Shared → Prop} (I : Inv X pins σ H s) (e : H a = some (.ins C dx fs)) (c : Cls X.K C) (n : NoAttr X.K C f) (l : fs.lookup f = some v)
    (h : ∀ u s', Inv X pins σ H s' → RelV v u → Q u s') : wpAny (model X.prog X.w) A (getAttr (.ref a) f b) Q E s := by
  obtain ⟨mA, O, r, _, _, _⟩ := ins_get I.hok e
  obtain ⟨u, hu, ru⟩ := RelO.some_of (v := v) (o := mA f) (by rw [← l]; exact r f)
  exact get_map I.kIn O (c.get f) c.hd n hu (handed_of ru) (h u _ (I.tok _) ru)

theorem getcon_ok {b : Bool} {u : Value} {Q : Value → Shared → Prop} (I : Inv X pins σ H s) (e : H a = some (.ins C dx fs)) (c : Cls X.K C) (k : Con X.K C f v u) (l : fs.lookup f = none)
    (h : ∀ s', Inv X pins σ H s' → Q u s') : wpAny (model X.prog X.w) A (getAttr (.ref a) f b) Q E s := by
  obtain ⟨mA, O, r, _, _, _⟩ := ins_get I.hok e
  have hn : mA f = none := RelO.none_of (by rw [← l]; exact r f)
  exact get_const I.kIn O (c.get f) c.hd k.at_ k.get k.cp hn (handed_of k.rel) (h _ (I.tok _))

theorem getmeth_ok {m : Str} {g : Addr} {pl : Sem Bool} {Q : Value × List Value → Shared → Prop} (I : Inv X pins σ H s) (e : H a = some (.ins C dx fs)) (c : Cls X.K C) (k : Meth X.K C m g) (l : fs.lookup m = none)
    (h : Q (.ref g, [.ref a]) s) : wpAny (model X.prog X.w) A (getMethod (.ref a) m pl) Q E s := by
  obtain ⟨mA, O, r, _, _, _⟩ := ins_get I.hok e
  have hn : mA m = none := RelO.none_of (by rw [← l]; exact r m)
  exact get_meth I.kIn O (c.get m) k.at_ k.fn hn h

theorem setattr_ok {y : V} {u : Value} {Q : Unit → Shared → Prop} (I : Inv X pins σ H s) (e : H a = some (.ins C dx fs)) (c : Cls X.K C) (n : NoAttr X.K C f) (hl : fs.length < 1000) (ry : RelV y u)
    (h : ∀ s', Inv X pins σ (upd H a (.ins C dx (putF f y fs))) s' → Q () s') : wpAny (model X.prog X.w) A (setAttr (.ref a) f u) Q E s := by
  obtain ⟨mA, O, r, wi, _, ho⟩ := ins_get I.hok e
  have hz : (fs.map (·.1)).length ≤ sizeLine := by rw [List.length_map, sizeLine_eq]; omega
  refine set_map I.kIn O c.sa c.po n.taker c.hd wi hz fun h' O' sb => h _ ?_
  have hd : ∃ o, h'.get? dx = some o := let ⟨o, _, _, e', _⟩ := O'.ns; ⟨o, e'⟩
  refine I.write (x := a) (e := dx) (by rw [e]; exact True.intro) (.inr ho) (fun b q hb z => (sb.2 b hb).trans z) hd ?_
  refine ⟨by rw [upd_ne O.ne]; exact ho, ?_, O.ne, O'.obj, _, O'.ns, fun g => ?_, fun g hg => ?_⟩
  · have := length_putF f y fs; omega
  · show RelO ((putF f y fs).lookup g) (if g = f then some u else mA g)
    rw [lookup_putF]
    by_cases q : g = f
    · rw [if_pos q, if_pos q]; exact ry
    · rw [if_neg q, if_neg q]; exact r g
  · by_cases q : g = f
    · rw [q]; exact (keys_putF f y fs).1
    · refine (keys_putF f y fs).2 g (wi g fun z => hg ?_)
      show (if g = f then some u else mA g) = none
      rw [if_neg q]; exact z

/-- a new instance, tracked, without attributes -/
theorem Inv.made (I : Inv X pins σ H s) : Inv X pins σ (upd (upd H s.heap.objs.size (.own (s.heap.objs.size + 1))) (s.heap.objs.size + 1) (.ins C s.heap.objs.size []))
    { s with heap := (s.heap.push PySem.W.emptyDict).push (PySem.W.instObj C s.heap.objs.size) } := by
  have e1 : (s.heap.push PySem.W.emptyDict).get? s.heap.objs.size = some PySem.W.emptyDict := Heap.get?_push_size s.heap rfl
  have e2 : ((s.heap.push PySem.W.emptyDict).push (PySem.W.instObj C s.heap.objs.size)).get? (s.heap.objs.size + 1) = some (PySem.W.instObj C s.heap.objs.size) := by
    have := Heap.get?_push_size (s.heap.push PySem.W.emptyDict) (o := PySem.W.instObj C s.heap.objs.size) rfl
    rwa [Heap.size_push] at this
  have e3 : (s.heap.push PySem.W.emptyDict).Ns s.heap.objs.size (fun _ => none) := ⟨PySem.W.emptyDict, #[], _, e1, rfl, (fun e he => absurd he (by simp)), fun _ => rfl⟩
  have I1 := I.laid (a := s.heap.objs.size) (o := .own (s.heap.objs.size + 1)) (h' := s.heap.push PySem.W.emptyDict) (t' := s.toks) (fun b u q => Heap.get?_push_of_some _ q) (Nat.le_refl _) ⟨_, e1⟩
  refine I1.laid (a := s.heap.objs.size + 1) (o := .ins C s.heap.objs.size []) (t' := s.toks) (fun b u q => Heap.get?_push_of_some _ q) (Nat.le_of_eq (Heap.size_push _ _)) ?_
  have ne : s.heap.objs.size ≠ s.heap.objs.size + 1 := Nat.ne_of_lt (Nat.lt_succ_self _)
  refine ⟨by rw [upd_ne ne, upd_same], Nat.zero_le _, ne, e2, fun _ => none, (Heap.Ns1.of_empty e3).at fun o q => Heap.get?_push_of_some _ q, fun _ => True.intro, fun y hy => absurd rfl hy⟩

/-- e.f where nothing but the object is asked: through attributeBase (super) and the last hold -/
theorem attr_of {prog : Program} {w : World} {env : Env} {e : Expr} {f : Str} {pos : Pos} {s : Shared} {Q : Value → Shared → Prop} (hb : attributeBase e f env (eval e env) = eval e env)
    (h : wpAny (model prog w) A (eval e env) (fun o s₁ => wpAny (model prog w) A (getAttr o f true) Q E s₁) E s) : wpAny (model prog w) A (eval (.Attribute e f pos) env) Q E s :=
  Attribute_any_ h (by rw [arm_eval_Attribute, hb])
end

/-! ### readings and rules -/
/-- e.f, an attribute of the instance -/
def tFld (K : PySem.W.Frag) (ta : TE) (f : Str) : TE := fun σ H Q => ta σ H fun x H1 => ∃ a C dx fs v, x = .ref a ∧ H1 a = some (.ins C dx fs) ∧ Cls K C ∧ NoAttr K C f ∧ fs.lookup f = some v ∧ Q v H1
/-- e.f, a constant of the class -/
def tCon (K : PySem.W.Frag) (ta : TE) (f : Str) : TE := fun σ H Q => ta σ H fun x H1 => ∃ a C dx fs v u, x = .ref a ∧ H1 a = some (.ins C dx fs) ∧ Cls K C ∧ Con K C f v u ∧ fs.lookup f = none ∧ Q v H1
/-- e.f = value -/
def sFld (K : PySem.W.Frag) (ta tv : TE) (f : Str) : TS := fun D σ H => tv σ H fun y H1 => ta σ H1 fun x H2 => ∃ a C dx fs, x = .ref a ∧ H2 a = some (.ins C dx fs) ∧ Cls K C ∧ NoAttr K C f ∧ fs.length < 1000 ∧
  D.nx σ (upd H2 a (.ins C dx (putF f y fs)))
/-- an augmented operator on two values -/
def InOp (X : Cx) (op : Operator) (rd : V → V → Hp → VK → Prop) : Prop :=
  ∀ (pins : List (Addr × Obj)) (s : Shared) (σ : St) (H : Hp) (x y : V) (u v : Value) (Q : VK), Inv X pins σ H s → RelV x u → RelV y v → rd x y H Q → wpAny (model X.prog X.w) X.A (inplaceOp op u v) (EP X pins σ Q) X.xe s
/-- e.f op= value -/
def sFldAug (K : PySem.W.Frag) (ta tv : TE) (rd : V → V → Hp → VK → Prop) (f : Str) : TS := fun D σ H => ta σ H fun x H1 => ∃ a C dx fs v, x = .ref a ∧ H1 a = some (.ins C dx fs) ∧ Cls K C ∧ NoAttr K C f ∧ fs.lookup f = some v ∧
  tv σ H1 fun y H2 => rd v y H2 fun z H3 => ∃ dx' fs', H3 a = some (.ins C dx' fs') ∧ fs'.length < 1000 ∧ D.nx σ (upd H3 a (.ins C dx' (putF f z fs')))

section
variable {X : Cx} {o e value : Expr} {f : Str} {pos pos' tpos : Pos} {ta tv : TE}
theorem pe_fld (he : PE X e ta) (hb : attributeBase e f X.env (eval e X.env) = eval e X.env) : PE X (.Attribute e f pos) (tFld X.K ta f) := by
  intro pins s σ H Q I h
  refine attr_of hb (thn (he pins s σ H _ I h) fun u s1 ⟨x, H1, I1, rx, a, C, dx, fs, v, ex, ea, c, n, l, q⟩ => ?_)
  subst ex
  obtain rfl : u = Value.ref a := rx
  exact getattr_ok I1 ea c n l fun u' s2 I2 ru => ⟨v, H1, I2, ru, q⟩
theorem pe_con (he : PE X e ta) (hb : attributeBase e f X.env (eval e X.env) = eval e X.env) : PE X (.Attribute e f pos) (tCon X.K ta f) := by
  intro pins s σ H Q I h
  refine attr_of hb (thn (he pins s σ H _ I h) fun u s1 ⟨x, H1, I1, rx, a, C, dx, fs, v, u0, ex, ea, c, k, l, q⟩ => ?_)
  subst ex
  obtain rfl : u = Value.ref a := rx
  exact getcon_ok I1 ea c k l fun s2 I2 => ⟨v, H1, I2, k.rel, q⟩
theorem ps_fld (ha : PE X o ta) (hv : PE X value tv) (hs : swapsWith value (some (.Attribute o f pos')) pos.line X.env = pure false) : PS X (.Assign [.Attribute o f pos'] value pos) (sFld X.K ta tv f) := by
  intro pins s σ H D I h
  refine plainObj_wpAny_Assign_Attribute (thn (hv pins s σ H _ I h) fun u s1 ⟨y, H1, I1, ry, q⟩ => thn (ha pins s1 σ H1 _ I1 q) fun ov s2 ⟨x, H2, I2, rx, a, C, dx, fs, ex, ea, c, n, l, q2⟩ => ?_) hs
  subst ex
  obtain rfl : ov = Value.ref a := rx
  exact setattr_ok I2 ea c n l ry fun s3 I3 => ⟨σ, _, I3, q2⟩
theorem ps_fldaug {op : Operator} {rd : V → V → Hp → VK → Prop} (ha : PE X o ta) (hv : PE X value tv) (hop : InOp X op rd) : PS X (.AugAssign (.Attribute o f tpos) op value pos) (sFldAug X.K ta tv rd f) := by
  intro pins s σ H D I h
  refine wpAny_AugAssign_AttributeAny (thn (ha pins s σ H _ I h) fun ov s1 ⟨x, H1, I1, rx, a, C, dx, fs, v, ex, ea, c, n, l, q⟩ => ?_)
  subst ex
  obtain rfl : ov = Value.ref a := rx
  refine getattr_ok I1 ea c n l fun u s2 I2 ru => thn (hv pins s2 σ H1 _ I2 q) fun w3 s3 ⟨y, H2, I3, ry, q3⟩ => thn (hop pins s3 σ H2 v y u w3 _ I3 ru ry q3) fun w4 s4 ⟨z, H3, I4, rz, dx', fs', ea', l', q4⟩ => ?_
  exact setattr_ok I4 ea' c n l' rz fun s5 I5 => ⟨σ, _, I5, q4⟩
def rAdd : V → V → Hp → VK → Prop := fun x y H Q => ∃ i j, x = .int i ∧ y = .int j ∧ Q (.int (i + j)) H
def rSub : V → V → Hp → VK → Prop := fun x y H Q => ∃ i j, x = .int i ∧ y = .int j ∧ Q (.int (i - j)) H
theorem in_add : InOp X .Add rAdd := by
  rintro pins s σ H x y u v Q I rx ry ⟨i, j, rfl, rfl, q⟩
  obtain ⟨t, rfl⟩ := (show ∃ t, u = Value.int i t from rx)
  obtain ⟨t', rfl⟩ := (show ∃ t', v = Value.int j t' from ry)
  exact PyProof.Rows.iadd_int ⟨.int (i + j), H, I.tok _, ⟨_, rfl⟩, q⟩
theorem in_sub : InOp X .Sub rSub := by
  rintro pins s σ H x y u v Q I rx ry ⟨i, j, rfl, rfl, q⟩
  obtain ⟨t, rfl⟩ := (show ∃ t, u = Value.int i t from rx)
  obtain ⟨t', rfl⟩ := (show ∃ t', v = Value.int j t' from ry)
  exact PyProof.Rows.isub_int ⟨.int (i - j), H, I.tok _, ⟨_, rfl⟩, q⟩

/-- what is between an instance and its method: the tree of a method call -/
theorem methcall_of {pl : Sem Bool} {m : Str} {apos : Pos} {args : List Expr} {pins : List (Addr × Obj)} {s : Shared} {σ : St} {H : Hp} {Q : Value → Shared → Prop} {te : TE} (he : PE X e te) (I : Inv X pins σ H s)
    (h : te σ H fun x H1 => ∃ a C dx fs g, x = .ref a ∧ H1 a = some (.ins C dx fs) ∧ Cls X.K C ∧ Meth X.K C m g ∧ fs.lookup m = none ∧
      ∀ s1, Inv X pins σ H1 s1 → wpAny (model X.prog X.w) X.A (callWith pos (.ref g) [.ref a] (backTo pos (starEach args X.env)) (backToKw pos (keywordEach [] X.env))) Q X.xe s1)
    (ht : eval (.Call (.Attribute e m apos) args [] pos) X.env = (do
      let ov ← eval e X.env
      standAt apos.atName
      let (f, first) ← holding [ov] (getMethod ov m pl)
      callWith pos f first (backTo pos (starEach args X.env)) (backToKw pos (keywordEach [] X.env)))) :
    wpAny (model X.prog X.w) X.A (eval (.Call (.Attribute e m apos) args [] pos) X.env) Q X.xe s := by
  refine PySem.W.methodCall_KW (pl := pl) (thn (he pins s σ H _ I h) fun u s1 ⟨x, H1, I1, rx, a, C, dx, fs, g, ex, ea, c, k, l, q⟩ => ?_) ht
  subst ex
  obtain rfl : u = Value.ref a := rx
  exact getmeth_ok I1 ea c k l (q s1 I1)
end

/-! ### isinstance -/
section
variable {X : Cx} {pins : List (Addr × Obj)} {σ : St} {H : Hp} {s : Shared} {A : Around} {E : Value → Shared → Prop} {Q : Value → Shared → Prop} {c : Value} {b : Bool}
/-- the type of a value, as the fragment's deciders take it; for an instance its class -/
inductive TyOf (K : PySem.W.Frag) (H : Hp) : V → Value → Prop where
  | non : TyOf K H .non (.type "NoneType")
  | bl (x : Bool) : TyOf K H (.bl x) (.type "bool")
  | int (i : Int) : TyOf K H (.int i) (.type "int")
  | str (x : Str) : TyOf K H (.str x) (.type "str")
  | flt (x : UInt64) : TyOf K H (.flt x) (.type "float")
  | lst {a : Addr} {xs : List V} (e : H a = some (.lst xs)) : TyOf K H (.ref a) (.type "list")
  | frz {a : Addr} {o : Obj} {xs : List V} (e : H a = some (.frz o (.lst xs))) : TyOf K H (.ref a) (.type "list")
  | tup {a : Addr} {xs : List V} (e : H a = some (.tup xs)) : TyOf K H (.ref a) (.type "tuple")
  | dK {a : Addr} {kvs : List (Key × V)} (e : H a = some (.dK kvs)) : TyOf K H (.ref a) (.type "dict")
  | dT {a : Addr} {kvs : List (List Key × V)} (e : H a = some (.dT kvs)) : TyOf K H (.ref a) (.type "dict")
  | ins {a C dx : Addr} {fs : List (Str × V)} (e : H a = some (.ins C dx fs)) (cl : Cls K C) (ha : PySem.W.findIn K (.ref C) "__class__" = some (some (.builtin "object.__class__")))
      (hn : PySem.W.specialIn K (.builtin "object.__class__") "__get__" = some (some (.builtin "getset_descriptor.__get__"))) (htk : PySem.W.takesIn K (.builtin "object.__class__") = some true)
      (hm : PySem.W.mroIn K C (.type "object") = some true) : TyOf K H (.ref a) (.ref C)
/-- isinstance(x, c) for one class c, a built-in or an own one: kitOne's answer -/
theorem isinst_ok {x : V} {u t : Value} (I : Inv X pins σ H s) (rx : RelV x u) (ty : TyOf X.K H x t) (e : PySem.W.kitOne X.K t c = some b) (h : ∀ tk, Q (.bool b) { s with toks := tk }) :
    wpAny (model X.prog X.w) A (call (.builtin "isinstance") [u, c]) Q E s := by
  cases ty with
  | non => cases (show u = Value.none from rx); exact PySem.W.kia_one PySem.W.kitx_none I.kIn True.intro e (fun z => nomatch z) h
  | bl y => cases (show u = Value.bool y from rx); exact PySem.W.kia_one PySem.W.kitx_bool I.kIn True.intro e (fun z => nomatch z) h
  | int i => obtain ⟨t, q⟩ := (show ∃ t, u = Value.int i t from rx); cases q; exact PySem.W.kia_one PySem.W.kitx_int I.kIn True.intro e (fun z => nomatch z) h
  | str y => obtain ⟨t, q⟩ := (show ∃ t, u = Value.str y t from rx); cases q; exact PySem.W.kia_one PySem.W.kitx_str I.kIn True.intro e (fun z => nomatch z) h
  | flt y => obtain ⟨t, q⟩ := (show ∃ t, u = Value.float y t from rx); cases q; exact PySem.W.kia_one PySem.W.kitx_float I.kIn True.intro e (fun z => nomatch z) h
  | @lst a xs ea =>
    cases (show u = Value.ref a from rx)
    obtain ⟨_, _, n, _, h1⟩ := (show ObjOk X.prog X.w H s.heap a (.lst xs) from I.hok a _ ea)
    exact PySem.W.kia_one PySem.W.kitx_list I.kIn ⟨_, h1, rfl⟩ e (fun z => nomatch z) h
  | @frz a ob xs ea =>
    cases (show u = Value.ref a from rx)
    obtain ⟨_, _, _, n, _, h1⟩ := (show ObjOk X.prog X.w H s.heap a (.frz ob (.lst xs)) from I.hok a _ ea)
    exact PySem.W.kia_one PySem.W.kitx_list I.kIn ⟨_, h1, rfl⟩ e (fun z => nomatch z) h
  | @tup a xs ea =>
    cases (show u = Value.ref a from rx)
    obtain ⟨_, _, _, p⟩ := (show ObjOk X.prog X.w H s.heap a (.tup xs) from I.hok a _ ea)
    obtain ⟨o, h1, h2, _⟩ := p
    exact PySem.W.kia_one PySem.W.kitx_tuple I.kIn ⟨o, h1, h2⟩ e (fun z => nomatch z) h
  | @dK a kvs ea =>
    cases (show u = Value.ref a from rx)
    obtain ⟨_, _, vs, _, p⟩ := (show ObjOk X.prog X.w H s.heap a (.dK kvs) from I.hok a _ ea)
    obtain ⟨o, es, ep, h1, h2, _⟩ := p
    exact PySem.W.kia_one PySem.W.kitx_dict I.kIn ⟨o, h1, h2.1⟩ e (fun z => nomatch z) h
  | @dT a kvs ea =>
    cases (show u = Value.ref a from rx)
    obtain ⟨_, _, xs, _, o, es, ep, h1, h2, _⟩ := (show ObjOk X.prog X.w H s.heap a (.dT kvs) from I.hok a _ ea)
    exact PySem.W.kia_one PySem.W.kitx_dict I.kIn ⟨o, h1, h2.1⟩ e (fun z => nomatch z) h
  | @ins a C dx fs ea cl ha hn htk hm =>
    cases (show u = Value.ref a from rx)
    obtain ⟨mA, O, _⟩ := ins_get I.hok ea
    obtain ⟨od, J, _⟩ := O.look
    exact PySem.W.kia_one (PySem.W.kitx_own (cl.get _) cl.hd ha hn htk hm) I.kIn J e (fun z => nomatch z) h
end
end L2

namespace L2
open PySem PySem.Spec PyProof.Rows

/-! ### room -/
structure Room (k : Nat) (A : Around) : Prop where
  hd : A.handled = none
  dp : A.depth + 3 * k + 5 < recursionLimit
  un : A.units + 16 * k + 200 < cLine
theorem Room.mono {j k : Nat} {A : Around} (r : Room k A) (h : j ≤ k) : Room j A := ⟨r.hd, by have := r.dp; omega, by have := r.un; omega⟩
theorem Room.deeper {k : Nat} {A : Around} (r : Room (k + 1) A) (env : Env) : Room k (A.deeper env) :=
  ⟨r.hd, by have := r.dp; show A.depth + 1 + 3 * k + 5 < _; omega, by have := r.un; show A.units + 3 + 16 * k + 200 < _; omega⟩
theorem Room.in1 {k : Nat} {A : Around} (r : Room (k + 1) A) : Room k A.in1 :=
  ⟨r.hd, by have := r.dp; show A.depth + 3 * k + 5 < _; omega, by have := r.un; show A.units + 1 + 16 * k + 200 < _; omega⟩
theorem make_depth {A : Around} {C : Addr} {us : List Value} {kw : List (Str × Value)} : (A.under (.builtin "type.__call__" ⟨.ref C :: us, kw⟩)).depth = A.depth + 1 := by
  first | rfl | simp [Around.under, Code.weight, Code.isCreation, Code.isGuard, Code.isCaller, Code.frames, Code.isFrame, guardIds]
theorem make_units {A : Around} {C : Addr} {us : List Value} {kw : List (Str × Value)} : (A.under (.builtin "type.__call__" ⟨.ref C :: us, kw⟩)).units = A.units + 1 := by
  first | rfl | simp [Around.under, Code.cUnits, Code.frames, Code.isFrame]
theorem Room.make {k : Nat} {A : Around} (r : Room (k + 1) A) (C : Addr) (us : List Value) (kw : List (Str × Value)) : Room k (A.under (.builtin "type.__call__" ⟨.ref C :: us, kw⟩)) :=
  ⟨r.hd, by have := r.dp; rw [make_depth]; omega, by have := r.un; rw [make_units]; omega⟩
theorem Room.depth {k : Nat} {A : Around} (r : Room k A) : A.depth < recursionLimit := by have := r.dp; omega
theorem Room.units {k : Nat} {A : Around} (r : Room k A) : A.units + 64 < cLine := by have := r.un; omega
theorem Room.units0 {k : Nat} {A : Around} (r : Room k A) : A.units < cLine := by have := r.un; omega

/-! ### argument lists and displays -/
def tNil : TA := fun _ H Q => Q [] H
def tCons (ta : TE) (tr : TA) : TA := fun σ H Q => ta σ H fun x H1 => tr σ H1 fun xs H2 => Q (x :: xs) H2
section
variable {X : Cx} {e : Expr} {es : List Expr} {te : TE} {t : TA} {pos : Pos}
theorem pa_nil : PA X [] tNil := fun _ _ _ _ H Q I h => Calls.spliced_nil ⟨[], H, I, .nil, h⟩
theorem pa_cons (ha : PE X e te) (hr : PA X es t) (hs : starEach (e :: es) X.env = (false, eval e X.env) :: starEach es X.env := by rfl) : PA X (e :: es) (tCons te t) := by
  intro pos pins s σ H Q I h
  rw [hs]
  show wpAny _ _ (spliced ((false, eval e X.env) :: backTo pos (starEach es X.env))) _ _ s
  refine Calls.spliced_cons (thn (ha pins s σ H _ I h) fun u s1 ⟨x, H1, I1, r1, q1⟩ => ?_)
  exact thn (hr pos pins s1 σ H1 _ I1 q1) fun us s2 ⟨xs, H2, I2, r2, q2⟩ => ⟨x :: xs, H2, I2, .cons r1 r2, q2⟩

/-- a tuple, a list of written items -/
def tTup (t : TA) : TE := fun σ H Q => t σ H fun xs H1 => xs.length ≤ sizeLine ∧ ∀ p, H1 p = none → Q (.ref p) (upd H1 p (.tup xs))
def tLst (t : TA) : TE := fun σ H Q => t σ H fun xs H1 => xs.length ≤ sizeLine ∧ ∀ p, H1 p = none → Q (.ref p) (upd H1 p (.lst xs))
theorem pe_tup {x1} (h : PA X es t) : PE X (.Tuple es x1 pos) (tTup t) := by
  intro pins s σ H Q I hq
  refine wpAny_Tuple_spliced (thn (h pos pins s σ H _ I hq) fun us s1 ⟨xs, H1, I1, r, z, q⟩ => ⟨by rw [← r.length]; exact z, ?_⟩)
  have hf : H1 s1.heap.objs.size = none := I1.hok.fresh (Nat.le_refl _)
  refine ⟨.ref s1.heap.objs.size, upd H1 s1.heap.objs.size (.tup xs), I1.laid (t' := s1.toks) (fun b u e => Heap.get?_push_of_some _ e) (Nat.le_refl _) ?_, rfl, q _ hf⟩
  exact ⟨z, us, r, ⟨_, Heap.get?_push_size _ rfl, rfl, _, rfl⟩⟩
theorem pe_lst (h : PA X es t) : PE X (.List es pos) (tLst t) := by
  intro pins s σ H Q I hq
  refine wpAny_List_spliced (thn (h pos pins s σ H _ I hq) fun us s1 ⟨xs, H1, I1, r, z, q⟩ => ⟨by rw [← r.length]; exact z, ?_⟩)
  have hf : H1 s1.heap.objs.size = none := I1.hok.fresh (Nat.le_refl _)
  refine ⟨.ref s1.heap.objs.size, upd H1 s1.heap.objs.size (.lst xs), I1.laid (t' := s1.toks) (fun b u e => Heap.get?_push_of_some _ e) (Nat.le_refl _) ?_, rfl, q _ hf⟩
  exact ⟨z, us, 0, r, Heap.get?_push_size _ rfl⟩
end

/-! ### what a def promises -/
/-- a def's promise: the bound arguments in the parameters' order, the heap, the wanted end, the wanted exception -/
abbrev Sp := List V → Hp → VK → XK → Prop
/-- how an exception lies behind a call (file 08 gives it): the callers' frames, abstract heap and state ahead of the call, the wish, the exception, the state -/
abbrev CXT := List Env → Hp → Shared → XK → Value → Shared → Prop

/-- the state at a call -/
structure Env0 (P : Program) (w : World) (K : PySem.W.Frag) (mg : Str → Option Value) (base : Heap) (A : Around) (outer : List Env) (s : Shared) (H : Hp) : Prop where
  frames : A.frames = some outer
  mod : Mod K mg base
  bs : ∀ b o, base.get? b = some o → s.heap.get? b = some o ∧ H b = none
  bsz : base.objs.size ≤ s.heap.objs.size
  funs : s.heap.FunFrames base outer
  frf : ∀ b ∈ frs outer, H b = none
  hok : HOk P w H s.heap
  bare : AllBare s.gens
/-- a call's end -/
def CE (outer : List Env) (P : Program) (w : World) (H : Hp) (s : Shared) (Q : VK) (u : Value) (s' : Shared) : Prop :=
  ∃ v H', s'.os = s.os ∧ AllBare s'.gens ∧ Un (frs outer) [] H H' s.heap s'.heap ∧ HOk P w H' s'.heap ∧ RelV v u ∧ Q v H'
def CR (CX : CXT) (outer : List Env) (P : Program) (w : World) (H : Hp) (s : Shared) (Q : VK) (E : XK) (r : Result) (s' : Shared) : Prop :=
  match r with
  | .ok (.ret u) => CE outer P w H s Q u s'
  | .ok _ => False
  | .error e => CX outer H s E e s'
structure FnOk (P : Program) (w : World) (K : PySem.W.Frag) (mg : Str → Option Value) (base : Heap) (CX : CXT) (k : Nat) (f : Addr) (fd : FuncData) (ps : List Str) (sp : Sp) : Prop where
  len : ∀ vs H Q E, sp vs H Q E → vs.length = ps.length
  run : ∀ (A : Around) (outer : List Env) (s : Shared) (H : Hp) (args : Args) (us : List Value) (vs : List V) (Q : VK) (E : XK), Room k A → Env0 P w K mg base A outer s H → BindsTo s fd args (ps.zip us) → Vals vs us → sp vs H Q E →
    codeAny (model P w) A (.call (.ref f) args) (CR CX outer P w H s Q E) s
theorem FnOk.mono {P : Program} {w : World} {K : PySem.W.Frag} {mg : Str → Option Value} {base : Heap} {CX : CXT} {j k : Nat} {f : Addr} {fd : FuncData} {ps : List Str} {sp : Sp} (F : FnOk P w K mg base CX j f fd ps sp) (h : j ≤ k) :
    FnOk P w K mg base CX k f fd ps sp := ⟨F.len, fun A outer s H args us vs Q E hr => F.run A outer s H args us vs Q E (hr.mono h)⟩
/-- a weaker promise -/
theorem FnOk.imp {P : Program} {w : World} {K : PySem.W.Frag} {mg : Str → Option Value} {base : Heap} {CX : CXT} {k : Nat} {f : Addr} {fd : FuncData} {ps : List Str} {sp sp' : Sp} (F : FnOk P w K mg base CX k f fd ps sp)
    (h : ∀ vs H Q E, sp' vs H Q E → sp vs H Q E) : FnOk P w K mg base CX k f fd ps sp' :=
  ⟨fun vs H Q E q => F.len vs H Q E (h _ _ _ _ q), fun A outer s H args us vs Q E hr he hb hv hs => F.run A outer s H args us vs Q E hr he hb hv (h _ _ _ _ hs)⟩

theorem Env0.make {P : Program} {w : World} {K : PySem.W.Frag} {mg : Str → Option Value} {base : Heap} {A : Around} {outer : List Env} {s : Shared} {H : Hp} (e : Env0 P w K mg base A outer s H) (C : Addr) (us : List Value) (kw : List (Str × Value)) :
    Env0 P w K mg base (A.under (.builtin "type.__call__" ⟨.ref C :: us, kw⟩)) outer s H := ⟨by first | exact e.frames | (simpa [Around.under, Code.envs, Code.isFrame, pushEnvs] using e.frames), e.mod, e.bs, e.bsz, e.funs, e.frf, e.hok, e.bare⟩
theorem Env0.in1 {P : Program} {w : World} {K : PySem.W.Frag} {mg : Str → Option Value} {base : Heap} {A : Around} {outer : List Env} {s : Shared} {H : Hp} (e : Env0 P w K mg base A outer s H) :
    Env0 P w K mg base A.in1 outer s H := ⟨e.frames, e.mod, e.bs, e.bsz, e.funs, e.frf, e.hok, e.bare⟩

section
variable {X : Cx} {pins : List (Addr × Obj)} {σ : St} {H : Hp} {s s' : Shared}
/-- from a body: what a callee wants -/
theorem Inv.env0 (I : Inv X pins σ H s) : Env0 X.prog X.w X.K X.mg X.base X.A X.stack s H :=
  ⟨I.ok.frames, I.ok.mod, I.bs, Nat.le_trans I.ok.bsz I.sz, I.stack, I.stkFree, I.hok, I.bare⟩
/-- behind a call -/
theorem Inv.after {Q : VK} {u : Value} (I : Inv X pins σ H s) (h : CE X.stack X.prog X.w H s Q u s') : EP X pins σ Q u s' := by
  obtain ⟨v, H', os, bare, un, hok, r, q⟩ := h
  obtain ⟨hh, g, d, t, os'⟩ := s'
  obtain rfl : os' = s.os := os
  exact ⟨v, H', I.call (h' := hh) (g' := g) (d' := d) (t' := t) (ch := []) un hok bare (fun b z => absurd z (by simp)), r, q⟩
end

/-! ### calls -/
/-- f(..): the written arguments, then the defaults dvs; E: what is wanted of an exception -/
def tCall (sp : Sp) (dvs : List V) (E : XK) (t : TA) : TE := fun σ H Q => t σ H fun vs H1 => sp (vs ++ dvs) H1 Q E
/-- o.m(..) of an instance of the class at C -/
def tMeth (C : Addr) (m : Str) (sp : Sp) (dvs : List V) (E : XK) (ta : TE) (t : TA) : TE := fun σ H Q => ta σ H fun x H1 => ∃ a dx fs, x = .ref a ∧ H1 a = some (.ins C dx fs) ∧ fs.lookup m = none ∧
  t σ H1 fun vs H2 => sp (x :: (vs ++ dvs)) H2 Q E
/-- C(..): a new instance and its dict, then __init__ -/
def tMake (C : Addr) (sp : Sp) (dvs : List V) (E : XK) (t : TA) : TE := fun σ H Q => t σ H fun vs H1 => ∀ x dx, H1 x = none → H1 dx = none → dx ≠ x →
  sp (.ref x :: (vs ++ dvs)) (upd (upd H1 dx (.own x)) x (.ins C dx [])) (fun v H2 => v = .non ∧ Q (.ref x) H2) E

/-- how the parameters are bound: us the positional arguments, kw the keywords' values by name, ds the defaults that fill up -/
def Binds (K : PySem.W.Frag) (fd : FuncData) (ps : List Str) (ds : List Value) : Prop :=
  ∀ (s : Shared) (us : List Value), K.In s.heap → (us ++ ds).length = ps.length → BindsTo s fd ⟨us, []⟩ (ps.zip (us ++ ds))
/-- every parameter is given -/
theorem Binds.all {K : PySem.W.Frag} {fd : FuncData} {ps : List Str} (h : ∀ us : List Value, us.length = ps.length → bindArgs fd ⟨us, []⟩ = pure (ps.zip us)) : Binds K fd ps [] := fun s us _ hl => by
  rw [List.append_nil] at hl ⊢
  exact .of_eq (h us hl)

/-- an exception of a callee reaches what this body wants of exceptions -/
def Passes (CX : CXT) (X : Cx) (E : XK) : Prop := ∀ (pins : List (Addr × Obj)) (σ : St) (H : Hp) (s : Shared) (e : Value) (s' : Shared), Inv X pins σ H s → CX X.stack H s E e s' → X.xe e s'

section
variable {X : Cx} {CX : CXT} {k : Nat} {f C : Addr} {fd : FuncData} {ps : List Str} {sp : Sp} {dvs : List V} {ds : List Value} {E : XK} {x m : Str} {p pos apos : Pos} {e o : Expr} {es : List Expr} {ta : TE} {t : TA}

/-- the callee runs -/
theorem run_fn {pins : List (Addr × Obj)} {σ : St} {H : Hp} {s : Shared} {Q : VK} {us : List Value} {vs : List V} (F : FnOk X.prog X.w X.K X.mg X.base CX k f fd ps sp) (hr : Room k X.A) (hb : Binds X.K fd ps ds) (hd : Vals dvs ds) (hx : Passes CX X E)
    (I : Inv X pins σ H s) (r : Vals vs us) (h : sp (vs ++ dvs) H Q E) : wpAny (model X.prog X.w) X.A (call (.ref f) us) (EP X pins σ Q) X.xe s := by
  have r2 : Vals (vs ++ dvs) (us ++ ds) := r.append hd
  have hl : (us ++ ds).length = ps.length := by rw [← r2.length]; exact F.len _ _ _ _ h
  refine wpAny_call (codeAny_mono (F.run X.A X.stack s H ⟨us, []⟩ (us ++ ds) (vs ++ dvs) Q E hr I.env0 (hb s us I.kIn hl) r2 h) fun r s' hq => ?_)
  cases r with
  | error e => exact hx pins σ H s e s' I hq
  | ok fl =>
    cases fl with
    | ret u => exact I.after hq
    | next => exact False.elim hq
    | brk => exact False.elim hq
    | cont => exact False.elim hq

theorem pe_call (F : FnOk X.prog X.w X.K X.mg X.base CX k f fd ps sp) (hr : Room k X.A) (hg : Gl X x) (hm : X.mg x = some (.ref f)) (hk : PySem.W.keepIn X.K (.ref f) = true) (hb : Binds X.K fd ps ds) (hd : Vals dvs ds) (hx : Passes CX X E)
    (ha : PA X (e :: es) t) (hdb : (x == ("__debug__" : Str)) = false := by decide) (he : starEach (e :: es) X.env = (false, eval e X.env) :: starEach es X.env := by rfl) (hpl : (backTo pos (starEach es X.env)).any (·.1) = false := by rfl) :
    PE X (.Call (.Name x p) (e :: es) [] pos) (tCall sp dvs E t) := by
  intro pins s σ H Q I h
  refine wpAny_Call_Name_kw (ld_glob I hg hm ?_ hdb)
  refine PySem.W.callWith_K (h₀ := X.base) I.ok.mod.kin hk (thn (ha pos pins s σ H _ I h) fun us s1 ⟨vs, H1, I1, r, q⟩ => ⟨I1.kIn, ?_⟩) he hpl
  exact run_fn F hr hb hd hx I1 r q
theorem pe_call0 (F : FnOk X.prog X.w X.K X.mg X.base CX k f fd ps sp) (hr : Room k X.A) (hg : Gl X x) (hm : X.mg x = some (.ref f)) (hk : PySem.W.keepIn X.K (.ref f) = true) (hb : Binds X.K fd ps ds) (hd : Vals dvs ds) (hx : Passes CX X E)
    (hdb : (x == ("__debug__" : Str)) = false := by decide) : PE X (.Call (.Name x p) [] [] pos) (tCall sp dvs E tNil) := by
  intro pins s σ H Q I h
  refine wpAny_Call_Name_kw (ld_glob I hg hm ?_ hdb)
  exact PySem.W.callWith_K0 I.kIn hk (run_fn (us := []) F hr hb hd hx I .nil h)

/-- o.m(e, ..) -/
theorem pe_meth {pl : Sem Bool} (he : PE X o ta) (c : Cls X.K C) (hm : Meth X.K C m f) (F : FnOk X.prog X.w X.K X.mg X.base CX k f fd ps sp) (hr : Room k X.A) (hb : Binds X.K fd ps ds) (hd : Vals dvs ds) (hx : Passes CX X E) (ha : PA X (e :: es) t)
    (hst : starEach (e :: es) X.env = (false, eval e X.env) :: starEach es X.env := by rfl) (hpl : (backTo pos (starEach es X.env)).any (·.1) = false := by rfl)
    (ht : eval (.Call (.Attribute o m apos) (e :: es) [] pos) X.env = (do
      let ov ← eval o X.env
      standAt apos.atName
      let (f, first) ← holding [ov] (getMethod ov m pl)
      callWith pos f first (backTo pos (starEach (e :: es) X.env)) (backToKw pos (keywordEach [] X.env))) := by rfl) :
    PE X (.Call (.Attribute o m apos) (e :: es) [] pos) (tMeth C m sp dvs E ta t) := by
  intro pins s σ H Q I h
  refine PySem.W.methodCall_KW (pl := pl) (thn (he pins s σ H _ I h) fun u s1 ⟨x, H1, I1, rx, a, dx, fs, ex, ea, l, q⟩ => ?_) ht
  subst ex
  obtain rfl : u = Value.ref a := rx
  refine getmeth_ok I1 ea c hm l ?_
  refine PySem.W.callWith_K (first := [.ref a]) (h₀ := X.base) I.ok.mod.kin hm.kp (thn (ha pos pins s1 σ H1 _ I1 q) fun us s2 ⟨vs, H2, I2, r, q2⟩ => ⟨I2.kIn, ?_⟩) hst hpl
  exact run_fn (us := .ref a :: us) (vs := .ref a :: vs) F hr hb hd hx I2 (.cons rfl r) q2
/-- o.m() -/
theorem pe_meth0 {pl : Sem Bool} (he : PE X o ta) (c : Cls X.K C) (hm : Meth X.K C m f) (F : FnOk X.prog X.w X.K X.mg X.base CX k f fd ps sp) (hr : Room k X.A) (hb : Binds X.K fd ps ds) (hd : Vals dvs ds) (hx : Passes CX X E)
    (ht : eval (.Call (.Attribute o m apos) [] [] pos) X.env = (do
      let ov ← eval o X.env
      standAt apos.atName
      let (f, first) ← holding [ov] (getMethod ov m pl)
      callWith pos f first (backTo pos (starEach [] X.env)) (backToKw pos (keywordEach [] X.env))) := by rfl) :
    PE X (.Call (.Attribute o m apos) [] [] pos) (tMeth C m sp dvs E ta tNil) := by
  intro pins s σ H Q I h
  refine PySem.W.methodCall_KW (pl := pl) (thn (he pins s σ H _ I h) fun u s1 ⟨x, H1, I1, rx, a, dx, fs, ex, ea, l, q⟩ => ?_) ht
  subst ex
  obtain rfl : u = Value.ref a := rx
  refine getmeth_ok I1 ea c hm l ?_
  exact PySem.W.callWith_K0 (first := [.ref a]) I1.kIn hm.kp (run_fn (us := [.ref a]) (vs := [.ref a]) F hr hb hd hx I1 (.cons rfl .nil) q)

/-- what a class must have to be made -/
structure Mk (K : PySem.W.Frag) (C f : Addr) : Prop where
  makes : PySem.W.makesIn K C = true
  init : PySem.W.findIn K (.ref C) "__init__" = some (some (.ref f))
  fn : PySem.W.isFn K (.ref f) = true
  kp : PySem.W.keepIn K (.ref C) = true

theorem run_make {pins : List (Addr × Obj)} {σ : St} {H : Hp} {s : Shared} {Q : VK} {us : List Value} {vs : List V} (M : Mk X.K C f) (F : FnOk X.prog X.w X.K X.mg X.base CX k f fd ps sp) (hr : Room (k + 1) X.A) (hb : Binds X.K fd ps ds) (hd : Vals dvs ds)
    (hx : Passes CX X E) (I : Inv X pins σ H s) (r : Vals vs us)
    (h : ∀ x dx, H x = none → H dx = none → dx ≠ x → sp (.ref x :: (vs ++ dvs)) (upd (upd H dx (.own x)) x (.ins C dx [])) (fun v H2 => v = .non ∧ Q (.ref x) H2) E) :
    wpAny (model X.prog X.w) X.A (call (.ref C) us) (EP X pins σ Q) X.xe s := by
  have hq := h (s.heap.objs.size + 1) s.heap.objs.size (I.hok.fresh (Nat.le_succ _)) (I.hok.fresh (Nat.le_refl _)) (Nat.ne_of_lt (Nat.lt_succ_self _))
  have I2 := Inv.made (C := C) I
  have r2 : Vals (V.ref (s.heap.objs.size + 1) :: (vs ++ dvs)) (Value.ref (s.heap.objs.size + 1) :: (us ++ ds)) := .cons rfl (r.append hd)
  have hl : (Value.ref (s.heap.objs.size + 1) :: us ++ ds).length = ps.length := by
    have e := r2.length
    rw [F.len _ _ _ _ hq] at e
    exact e.symm
  refine wpAny_call (make_map (f := f) I.kIn M.makes M.init (beq_iff_eq.mp M.fn) (codeAny_mono (F.run _ X.stack _ _ ⟨Value.ref (s.heap.objs.size + 1) :: us, []⟩ (Value.ref (s.heap.objs.size + 1) :: (us ++ ds)) _ _ E (hr.make C us [])
    (I2.env0.make C us []) (hb _ (Value.ref (s.heap.objs.size + 1) :: us) I2.kIn hl) r2 hq) fun r s' hq' => ?_))
  cases r with
  | error e => exact hx pins σ _ _ e s' I2 hq'
  | ok fl =>
    cases fl with
    | ret u =>
      obtain ⟨v, H', I3, rv, ev, q3⟩ := I2.after hq'
      subst ev
      exact ⟨rv, ⟨V.ref (s.heap.objs.size + 1), H', I3, rfl, q3⟩⟩
    | next => exact False.elim hq'
    | brk => exact False.elim hq'
    | cont => exact False.elim hq'
theorem pe_make (M : Mk X.K C f) (F : FnOk X.prog X.w X.K X.mg X.base CX k f fd ps sp) (hr : Room (k + 1) X.A) (hg : Gl X x) (hm : X.mg x = some (.ref C)) (hb : Binds X.K fd ps ds) (hd : Vals dvs ds) (hx : Passes CX X E)
    (ha : PA X (e :: es) t) (hdb : (x == ("__debug__" : Str)) = false := by decide) (he : starEach (e :: es) X.env = (false, eval e X.env) :: starEach es X.env := by rfl) (hpl : (backTo pos (starEach es X.env)).any (·.1) = false := by rfl) :
    PE X (.Call (.Name x p) (e :: es) [] pos) (tMake C sp dvs E t) := by
  intro pins s σ H Q I h
  refine wpAny_Call_Name_kw (ld_glob I hg hm ?_ hdb)
  refine PySem.W.callWith_K (h₀ := X.base) I.ok.mod.kin M.kp (thn (ha pos pins s σ H _ I h) fun us s1 ⟨vs, H1, I1, r, q⟩ => ⟨I1.kIn, ?_⟩) he hpl
  exact run_make M F hr hb hd hx I1 r q
theorem pe_make0 (M : Mk X.K C f) (F : FnOk X.prog X.w X.K X.mg X.base CX k f fd ps sp) (hr : Room (k + 1) X.A) (hg : Gl X x) (hm : X.mg x = some (.ref C)) (hb : Binds X.K fd ps ds) (hd : Vals dvs ds) (hx : Passes CX X E)
    (hdb : (x == ("__debug__" : Str)) = false := by decide) : PE X (.Call (.Name x p) [] [] pos) (tMake C sp dvs E tNil) := by
  intro pins s σ H Q I h
  refine wpAny_Call_Name_kw (ld_glob I hg hm ?_ hdb)
  exact PySem.W.callWith_K0 I.kIn M.kp (run_make (us := []) M F hr hb hd hx I .nil h)
end

/-! ### keywords -/
/-- the values of the keywords, from the left -/
def PK (X : Cx) (kws : List Keyword) (t : TA) : Prop :=
  ∀ (pos : Pos) (pins : List (Addr × Obj)) (s : Shared) (σ : St) (H : Hp) (Q : List V → Hp → Prop), Inv X pins σ H s → t σ H Q → wpAny (model X.prog X.w) X.A (evalAll ((backToKw pos (keywordEach kws X.env)).map (·.2))) (AP X pins σ Q) X.xe s
section
variable {X : Cx} {CX : CXT} {k : Nat} {f C : Addr} {fd : FuncData} {ps ks : List Str} {sp : Sp} {E : XK} {x m : Str} {p pos apos kpos : Pos} {e o : Expr} {es : List Expr} {kws : List Keyword} {te ta : TE} {t tk : TA} {nm : Option Str}
theorem pk_nil : PK X [] tNil := fun _ _ _ _ H Q I h => wpAny_evalAll_nil ⟨[], H, I, .nil, h⟩
theorem pk_cons (ha : PE X e te) (hr : PK X kws t) : PK X (⟨nm, e, kpos⟩ :: kws) (tCons te t) := by
  intro pos pins s σ H Q I h
  show wpAny _ _ (evalAll ((do let v ← eval e X.env; standAt pos; pure v) :: (backToKw pos (keywordEach kws X.env)).map (·.2))) _ _ s
  refine wpAny_evalAll_cons (wpAny_bind (thn (ha pins s σ H _ I h) fun u s1 ⟨x, H1, I1, r1, q1⟩ => wpAny_bind (wpAny_standAt (wpAny_pure ?_))))
  exact thn (hr pos pins s1 σ H1 _ I1 q1) fun us s2 ⟨xs, H2, I2, r2, q2⟩ => ⟨x :: xs, H2, I2, .cons r1 r2, q2⟩

/-- how a call with keywords binds: g puts the positional values us and the keywords' values ws (names ks) in the parameters' order, defaults among them -/
structure KBinds (K : PySem.W.Frag) (fd : FuncData) (ps ks : List Str) (g : List Value → List Value → List Value) (gV : List V → List V → List V) : Prop where
  to : ∀ (s : Shared) (us ws : List Value), K.In s.heap → (g us ws).length = ps.length → BindsTo s fd ⟨us, ks.zip ws⟩ (ps.zip (g us ws))
  rel : ∀ {vs : List V} {us : List Value} {zs : List V} {ws : List Value}, Vals vs us → Vals zs ws → Vals (gV vs zs) (g us ws)
def tCallK (sp : Sp) (gV : List V → List V → List V) (E : XK) (t tk : TA) : TE := fun σ H Q => t σ H fun vs H1 => tk σ H1 fun zs H2 => sp (gV vs zs) H2 Q E
variable {g : List Value → List Value → List Value} {gV : List V → List V → List V}
theorem run_fnk {pins : List (Addr × Obj)} {σ : St} {H : Hp} {s : Shared} {Q : VK} {us ws : List Value} {vs zs : List V} (F : FnOk X.prog X.w X.K X.mg X.base CX k f fd ps sp) (hr : Room k X.A) (hb : KBinds X.K fd ps ks g gV) (hx : Passes CX X E)
    (I : Inv X pins σ H s) (r : Vals vs us) (rz : Vals zs ws) (h : sp (gV vs zs) H Q E) : wpAny (model X.prog X.w) X.A (call (.ref f) us (ks.zip ws)) (EP X pins σ Q) X.xe s := by
  have r2 := hb.rel r rz
  have hl : (g us ws).length = ps.length := by rw [← r2.length]; exact F.len _ _ _ _ h
  refine wpAny_call (codeAny_mono (F.run X.A X.stack s H ⟨us, ks.zip ws⟩ (g us ws) (gV vs zs) Q E hr I.env0 (hb.to s us ws I.kIn hl) r2 h) fun r s' hq => ?_)
  cases r with
  | error e => exact hx pins σ H s e s' I hq
  | ok fl =>
    cases fl with
    | ret u => exact I.after hq
    | next => exact False.elim hq
    | brk => exact False.elim hq
    | cont => exact False.elim hq
/-- f(e, .., k = v, ..) -/
theorem pe_callK (F : FnOk X.prog X.w X.K X.mg X.base CX k f fd ps sp) (hr : Room k X.A) (hg : Gl X x) (hm : X.mg x = some (.ref f)) (hk : PySem.W.keepIn X.K (.ref f) = true) (hb : KBinds X.K fd ps ks g gV) (hx : Passes CX X E)
    (ha : PA X (e :: es) t) (hkw : PK X kws tk) (hall : (backToKw pos (keywordEach kws X.env)).all (·.1.isSome) = true := by rfl) (hks : (backToKw pos (keywordEach kws X.env)).filterMap (·.1) = ks := by rfl)
    (hdb : (x == ("__debug__" : Str)) = false := by decide) (he : starEach (e :: es) X.env = (false, eval e X.env) :: starEach es X.env := by rfl)
    (hpl : ((backTo pos (starEach (e :: es) X.env)).any (·.1) || (backToKw pos (keywordEach kws X.env)).any (·.1.isNone)) = false := by rfl) :
    PE X (.Call (.Name x p) (e :: es) kws pos) (tCallK sp gV E t tk) := by
  intro pins s σ H Q I h
  refine wpAny_Call_Name_kw (ld_glob I hg hm ?_ hdb)
  refine PySem.W.callWith_KW (h₀ := X.base) I.ok.mod.kin hk hall (thn (ha pos pins s σ H _ I h) fun us s1 ⟨vs, H1, I1, r, q⟩ => ?_) hpl he
  refine thn (hkw pos pins s1 σ H1 _ I1 q) fun ws s2 ⟨zs, H2, I2, rz, q2⟩ => ⟨I2.kIn, ?_⟩
  rw [hks]
  exact run_fnk F hr hb hx I2 r rz q2
end

/-! ### a def's body keeps its promise -/
/-- names: the parameters first -/
structure FnScope (N P : List Str) (sc : Scope) : Prop where
  kind : sc.kind = .function
  co : sc.isCoroutine = false
  gen : sc.isGenerator = false
  nd : N.Nodup
  pre : N.take P.length = P
  par : ∀ x ∈ P, sc.names.lookup x = some .local ∨ sc.names.lookup x = some .cell
  nofree : ∀ y ∈ sc.names, y.2 ≠ .free

theorem bindL_out {kindOf : Str → Option NameKind} {x : Str} : ∀ {binds : List (Str × Value)} {m : Str → Option Value}, (∀ v, (x, v) ∉ binds) → bindL kindOf binds m x = m x
  | [], _, _ => rfl
  | (n, v) :: r, m, h => by
    unfold bindL
    rw [bindL_out fun w hw => h w (List.mem_cons_of_mem _ hw)]
    split
    · have : x ≠ n := by rintro rfl; exact h v List.mem_cons_self
      simp [this]
    · rfl
theorem bindC_out {kindOf : Str → Option NameKind} {x : Str} : ∀ {binds : List (Str × Value)} {m : Str → Option Value}, (∀ v, (x, v) ∉ binds) → bindC kindOf binds m x = m x
  | [], _, _ => rfl
  | (n, v) :: r, m, h => by
    unfold bindC
    rw [bindC_out fun w hw => h w (List.mem_cons_of_mem _ hw)]
    split
    · rfl
    · have : x ≠ n := by rintro rfl; exact h v List.mem_cons_self
      simp [this]
theorem bindL_get {kindOf : Str → Option NameKind} {x : Str} {v : Value} : ∀ {P : List Str} {vs : List Value} {i : Nat} {m : Str → Option Value}, P.Nodup → P[i]? = some x → vs[i]? = some v → kindOf x = some .local →
    bindL kindOf (P.zip vs) m x = some v
  | [], _, _, _, _, h, _, _ => by simp at h
  | _ :: _, [], _, _, _, _, h, _ => by simp at h
  | p :: P, w :: vs, 0, m, nd, h1, h2, hk => by
    simp at h1 h2; subst h1; subst h2
    show bindL kindOf ((p, w) :: P.zip vs) m p = _
    unfold bindL
    rw [bindL_out fun v hv => (List.nodup_cons.mp nd).1 (List.of_mem_zip hv).1, if_pos hk]
    simp
  | p :: P, w :: vs, i + 1, m, nd, h1, h2, hk => by
    show bindL kindOf ((p, w) :: P.zip vs) m x = _
    unfold bindL
    exact bindL_get (i := i) (List.nodup_cons.mp nd).2 (by simpa using h1) (by simpa using h2) hk
theorem bindC_get {kindOf : Str → Option NameKind} {x : Str} {v : Value} : ∀ {P : List Str} {vs : List Value} {i : Nat} {m : Str → Option Value}, P.Nodup → P[i]? = some x → vs[i]? = some v → kindOf x ≠ some .local →
    bindC kindOf (P.zip vs) m x = some v
  | [], _, _, _, _, h, _, _ => by simp at h
  | _ :: _, [], _, _, _, _, h, _ => by simp at h
  | p :: P, w :: vs, 0, m, nd, h1, h2, hk => by
    simp at h1 h2; subst h1; subst h2
    show bindC kindOf ((p, w) :: P.zip vs) m p = _
    unfold bindC
    rw [bindC_out fun v hv => (List.nodup_cons.mp nd).1 (List.of_mem_zip hv).1, if_neg hk]
    simp
  | p :: P, w :: vs, i + 1, m, nd, h1, h2, hk => by
    show bindC kindOf ((p, w) :: P.zip vs) m x = _
    unfold bindC
    exact bindC_get (i := i) (List.nodup_cons.mp nd).2 (by simpa using h1) (by simpa using h2) hk

/-- the names' values at the entry -/
def start (N : List Str) (vs : List V) : St := vs.map some ++ List.replicate (N.length - vs.length) none

/-- the context of a def's body, at its entry; an exception leaves the frame, then lies as CX says -/
def cxOf (CX : CXT) (P : Program) (w : World) (K : PySem.W.Frag) (mg : Str → Option Value) (base : Heap) (N : List Str) (qual : Str) (scope : Scope) (f : Addr) (cd : Value) (A : Around) (outer : List Env) (s : Shared) (H : Hp) (E : XK) : Cx where
  prog := P
  w := w
  K := K
  mg := mg
  base := base
  A := A.deeper (envOfC qual scope s.heap.objs.size f cd)
  N := N
  s₀ := s
  H₀ := H
  env := envOfC qual scope s.heap.objs.size f cd
  outer := outer
  stack := envOfC qual scope s.heap.objs.size f cd :: outer
  ex := []
  calm := true
  fn := fun _ => true
  pn := []
  xe := fun e s' => wpAny (model P w) (A.deeper (envOfC qual scope s.heap.objs.size f cd)) (leaving (envOfC qual scope s.heap.objs.size f cd) e) (fun _ s'' => CX outer H s E e s'') (fun e' s'' => CX outer H s E e' s'') s'

theorem cell_has {sc : Scope} {n : Nat} {x : Str} (h : sc.names.lookup x = some .cell) : ∃ c, (cellsFrom n sc.names []).lookup x = some c := by
  have q := PySem.W.cellsFrom_some sc.names n [] (.inl h)
  exact Option.isSome_iff_exists.mp q

theorem inv_start {CX : CXT} {P : Program} {w : World} {K : PySem.W.Frag} {mg : Str → Option Value} {base : Heap} {N ps : List Str} {qual : Str} {scope : Scope} {f : Addr} {cd : Value} {A : Around} {outer : List Env} {s s1 : Shared} {H : Hp} {E : XK} {us : List Value} {vs : List V}
    (S : FnScope N ps scope) (hd : A.handled = none) (e0 : Env0 P w K mg base A outer s H) (hl : vs.length = ps.length) (r : Vals vs us)
    (x : InCallC s s.heap.objs.size (bindL (envOfC qual scope s.heap.objs.size f cd).kindOf (ps.zip us) fun _ => none) (cellsFrom (s.heap.objs.size + 1) scope.names []) (bindC (envOfC qual scope s.heap.objs.size f cd).kindOf (ps.zip us) fun _ => none) s1) :
    Inv (cxOf CX P w K mg base N qual scope f cd A outer s H E) [] (start N vs) H s1 := by
  have hpl : ps.length ≤ N.length := by have := congrArg List.length S.pre; rw [List.length_take] at this; omega
  obtain ⟨h1, tk, rfl, hk⟩ := x.done
  have noA : ∀ b : Addr, b ∉ (cxOf CX P w K mg base N qual scope f cd A outer s H E).ex := fun b z => absurd (show b ∈ ([] : List Addr) from z) (by simp)
  refine ⟨⟨e0.mod, S.kind, rfl, rfl, Nat.le_refl _, fun y z c h1 h2 => ?_, fun y hy => ?_, fun y c _ h => ?_, fun _ => hd, Around.frames_deeper e0.frames, .inr ⟨rfl, rfl⟩, fun b z => absurd z (noA b), e0.bs, e0.bsz, fun b _ _ => noA b, fun b z => absurd z (noA b), e0.funs, e0.frf⟩,
    rfl, e0.bare, Un.kept hk, ⟨_, x.toInCall.ns, fun i y v h1 h2 h3 => ?_⟩, fun y c h => ⟨_, x.cell y c h⟩, e0.hok.fresh (Nat.le_refl _), fun y c h => ?_, fun p hp => absurd (show p ∈ ([] : List (Addr × Obj)) from hp) (by simp), e0.hok.kept hk, ?_⟩
  · exact name_of_addr x.apart (PySem.mem_of_lookup h1) (PySem.mem_of_lookup h2)
  · have hy : scope.names.lookup y = some .cell ∨ scope.names.lookup y = some .free := hy
    rcases hy with hy | hy
    · exact cell_has hy
    · exact absurd rfl (S.nofree _ (PySem.mem_of_lookup hy))
  · exact Nat.le_of_lt (x.above y c (PySem.mem_of_lookup h))
  · have hi : i < vs.length := by
      unfold start at h2
      by_cases hi : i < vs.length
      · exact hi
      · rw [List.getElem?_append_right (by simpa using hi)] at h2
        rw [List.getElem?_replicate] at h2
        split at h2 <;> cases h2
    have ha : vs[i]? = some v := by
      unfold start at h2
      rw [List.getElem?_append_left (by simpa using hi), List.getElem?_map] at h2
      cases e : vs[i]? with
      | none => rw [e] at h2; cases h2
      | some a => rw [e] at h2; cases h2; rfl
    obtain ⟨u, hu, rv⟩ := r.get ha
    have hp : ps[i]? = some y := by
      rw [← S.pre, List.getElem?_take_of_lt (by omega)]; exact h1
    have ndP : ps.Nodup := by rw [← S.pre]; exact S.nd.sublist (List.take_sublist _ _)
    refine ⟨u, rv, ?_⟩
    rcases S.par y (List.mem_of_getElem? hp) with k | k
    · exact .inl ⟨k, bindL_get ndP hp hu k⟩
    · obtain ⟨c, e⟩ := cell_has (n := s.heap.objs.size + 1) k
      refine .inr ⟨.inl k, c, e, ?_⟩
      have q := x.cell y c e
      rw [bindC_get ndP hp hu (by show scope.names.lookup y ≠ _; rw [k]; decide)] at q
      exact q
  · exact e0.hok.fresh (Nat.le_of_lt (x.above y c (PySem.mem_of_lookup h)))
  · unfold start
    show _ = N.length
    rw [List.length_append, List.length_map, List.length_replicate]
    omega

/-- THE RULE: a def (or a method) of the text, by its body. The body's reading t is chosen for each entry; it is run at the parameters' values -/
theorem fn_of {CX : CXT} {P : Program} {w : World} {K : PySem.W.Frag} {mg : Str → Option Value} {base : Heap} {k : Nat} {f : Addr} {name qual : Str} {params : Arguments} {body : List Stmt} {scope : Scope} {dV kV doc pm cdv ct oc : Value} {an od : Option Addr}
    {osl : Array (Option Value)} {N ps : List Str} {sp : Sp} (lk : K.lookup f = some ⟨oc, od, .func (PySem.W.fnOf name qual params body scope dV kV doc pm an cdv ct), osl⟩) (hcd : PySem.W.codeIn K cdv qual = true) (S : FnScope N ps scope)
    (len : ∀ vs H Q E, sp vs H Q E → vs.length = ps.length)
    (hbody : ∀ (A : Around) (outer : List Env) (s : Shared) (H : Hp) (vs : List V) (Q : VK) (E : XK), Room k (A.deeper (envOfC qual scope s.heap.objs.size f cdv)) → sp vs H Q E →
      ∃ t, PSs (cxOf CX P w K mg base N qual scope f cdv A outer s H E) body t ∧ t { nx := fun _ H' => Q .non H', rt := Q } (start N vs) H) :
    FnOk P w K mg base CX (k + 1) f (PySem.W.fnOf name qual params body scope dV kV doc pm an cdv ct) ps sp := by
  refine ⟨len, fun A outer s H args us vs Q E hr e0 hb r hsp => ?_⟩
  have hl := len _ _ _ _ hsp
  have KX : K.In s.heap := e0.mod.kin.keeps fun b o e => (e0.bs b o e).1
  have lim : s.heap.NoLimit := e0.mod.nolimit.keeps fun b o e => (e0.bs b o e).1
  have hkind : ∀ y ∈ ps.zip us, scope.names.lookup y.1 = some .local ∨ (scope.names.lookup y.1 = some .cell ∧ ((cellsFrom (s.heap.objs.size + 1) scope.names []).lookup y.1).isSome = true) := fun ⟨n, v⟩ hy => by
    rcases S.par n (List.of_mem_zip hy).1 with q | q
    · exact .inl q
    · exact .inr ⟨q, PySem.W.cellsFrom_some _ _ _ (.inl q)⟩
  refine codeAny_call_function hr.depth (KX _ _ lk) rfl S.co S.gen rfl (PySem.W.codeRec_of KX hcd) (hb _ _ _ _ ?_)
  refine wpAny_newFunctionEnv_cells S.kind hkind fun env he s1 x => ?_
  subst he
  refine ⟨lim.keeps x.toInCall.keep, codeAny_func ?_⟩
  obtain ⟨t, ht, hq⟩ := hbody A outer s H vs Q E (hr.deeper _) hsp
  have I : Inv (cxOf CX P w K mg base N qual scope f cdv A outer s H E) [] (start N vs) H s1 := inv_start S hr.hd e0 hl r x
  refine wpAny_mono (ht [] s1 (start N vs) H _ I hq) (fun fl s' hs => ?_) fun e s' hs => hs
  have fin : ∀ {σ' : St} {H' : Hp} {v : V} {u : Value}, Inv (cxOf CX P w K mg base N qual scope f cdv A outer s H E) [] σ' H' s' → RelV v u → Q v H' → CE outer P w H s Q u s' :=
    fun {σ' H' v u} J rv q => ⟨v, H', J.os, J.bare, J.base, J.hok, rv, q⟩
  cases fl with
  | ret u =>
    obtain ⟨v, σ', H', J, rv, q⟩ := hs
    exact fin J rv q
  | next =>
    obtain ⟨σ', H', J, q⟩ := hs
    exact fin (v := V.non) (u := Value.none) J rfl q
  | brk =>
    obtain ⟨_, _, _, q⟩ := hs
    exact False.elim q
  | cont =>
    obtain ⟨_, _, _, q⟩ := hs
    exact False.elim q
end L2

namespace L2
open PySem PySem.Spec PyProof.Rows
section
variable {X : Cx} {x : Str} {p pos : Pos} {e : Expr} {es : List Expr} {t : TA} {id T : String} {r : List V → Hp → VK → Prop}

def tCB (r : List V → Hp → VK → Prop) (t : TA) : TE := fun σ H Q => t σ H fun vs H1 => r vs H1 Q
/-- f(e, ..), f a built-in function -/
theorem pe_callB (hc : CallR X (.builtin id) r) (hg : Gl X x) (hm : X.mg x = none) (hv : bootBuiltins x = some (.builtin id)) (ha : PA X (e :: es) t) (hn : x ≠ "__name__" := by decide) (hdb : (x == ("__debug__" : Str)) = false := by decide)
    (he : starEach (e :: es) X.env = (false, eval e X.env) :: starEach es X.env := by rfl) (hpl : (backTo pos (starEach es X.env)).any (·.1) = false := by rfl) : PE X (.Call (.Name x p) (e :: es) [] pos) (tCB r t) := by
  intro pins s σ H Q I h
  refine wpAny_Call_Name_kw (ld_blt I hg hm hv ?_ hn hdb)
  exact PyProof.Rows.callWith_builtin1 (thn (ha pos pins s σ H _ I h) fun us s1 ⟨vs, H1, I1, r1, q1⟩ => hc pins s1 σ H1 vs us Q I1 r1 q1) he hpl
/-- T(e, ..), T a built-in type -/
theorem pe_callTy (hc : CallR X (.type T) r) (hg : Gl X x) (hm : X.mg x = none) (hv : bootBuiltins x = some (.type T)) (ha : PA X (e :: es) t) (hn : x ≠ "__name__" := by decide) (hdb : (x == ("__debug__" : Str)) = false := by decide)
    (he : starEach (e :: es) X.env = (false, eval e X.env) :: starEach es X.env := by rfl) (hpl : (backTo pos (starEach es X.env)).any (·.1) = false := by rfl) : PE X (.Call (.Name x p) (e :: es) [] pos) (tCB r t) := by
  intro pins s σ H Q I h
  refine wpAny_Call_Name_kw (ld_blt I hg hm hv ?_ hn hdb)
  exact PyProof.Rows.callWith_type1 (thn (ha pos pins s σ H _ I h) fun us s1 ⟨vs, H1, I1, r1, q1⟩ => hc pins s1 σ H1 vs us Q I1 r1 q1) he hpl
/-- T() -/
theorem pe_callTy0 (hc : CallR X (.type T) r) (hg : Gl X x) (hm : X.mg x = none) (hv : bootBuiltins x = some (.type T)) (hn : x ≠ "__name__" := by decide) (hdb : (x == ("__debug__" : Str)) = false := by decide) :
    PE X (.Call (.Name x p) [] [] pos) (tCB r tNil) := by
  intro pins s σ H Q I h
  refine wpAny_Call_Name_kw (ld_blt I hg hm hv ?_ hn hdb)
  exact PyProof.Rows.callWith_type0 (hc pins s σ H [] [] Q I .nil h)
end
end L2

namespace HT
open PySem PyProof.Rows

/-- t < u of tuples of ints -/
def lexLt : List Int → List Int → Bool
  | [], [] => false
  | [], _ :: _ => true
  | _ :: _, [] => false
  | x :: xs, y :: ys => if x = y then lexLt xs ys else decide (x < y)
theorem lexLt_cons (x y : Int) (xs ys : List Int) : lexLt (x :: xs) (y :: ys) = if x = y then lexLt xs ys else decide (x < y) := rfl
theorem lexLt_nil_nil : lexLt [] [] = false := rfl
theorem lexLt_nil_cons (y : Int) (ys : List Int) : lexLt [] (y :: ys) = true := rfl
theorem lexLt_cons_nil (x : Int) (xs : List Int) : lexLt (x :: xs) [] = false := rfl

theorem eqAt_int (A : Around) (s : Shared) (a : Int) (t : Tok) (c : Int) (u : Tok) : ∃ e, SeqAt.EqAt A s (.int a t) (.int c u) e ∧ (e = true ↔ a = c) :=
  ⟨(a == c), SeqAt.EqAt.int_int a t c u, by simp⟩
theorem rcLt_int (A : Around) (s : Shared) (a : Int) (t : Tok) (c : Int) (u : Tok) (prog : Program) (w : World) (E : Value → Shared → Prop) (Q : Value → Shared → Prop) (h : Q (.bool (decide (a < c))) s) :
    wpAny (model prog w) A (richCompare .Lt (.int a t) (.int c u)) Q E s :=
  (PyProof.Rows.lt_int h : wpAny (model prog w) A (compareOp .Lt (.int a t) (.int c u)) Q E s)

section
open PySem.SeqAt
open PySem.AutoSeq1 (wpAny_loadPart')
open PySem.MeetsSeq PySem.MeetsSeq2 PySem.MeetsSeq3

theorem tuple_lt_ints (l b : Addr) (items items2 : Array Value) (n n2 : Nat) (dd dd2 : Option Addr) (sl sl2 : Array (Option Value)) (ns ms : List Int) (hi : IntsAre items.toList ns) (hj : IntsAre items2.toList ms) :
    Meets (Builtin.«tuple.__lt__» ⟨[.ref l, .ref b], []⟩)
      (fun _ R s => s.heap.get? l = some { cls := .type "tuple", dict := dd, data := .seq items n, slots := sl } ∧ s.heap.get? b = some { cls := .type "tuple", dict := dd2, data := .seq items2 n2, slots := sl2 } ∧
        R (.ok (.ret (.bool (lexLt ns ms)))) s) :=
  .of_wp fun prog w A R s h => by
    obtain ⟨hp, g, d, tk, os⟩ := s; obtain ⟨hl, hb, h⟩ := h
    have f2 := AutoSeq1.sub_tuple_tuple
    have z1 : items.size = ns.length := by rw [← hi.length]; simp
    have z2 : items2.size = ms.length := by rw [← hj.length]; simp
    wp_walk using wpAny_loadPart' hl, wpAny_loadPart' hb, wpAny_forIn_list _ (fun rest b s' => b.1 = none ∧ s' = ⟨hp, g, d, tk, os⟩ ∧ ∃ (vs ws : List Value) (ns' ms' : List Int), rest = vs.zip ws ∧
      IntsAre vs ns' ∧ IntsAre ws ms' ∧ ns'.length + items2.size = ms'.length + items.size ∧ R (.ok (.ret (.bool (lexLt ns' ms')))) ⟨hp, g, d, tk, os⟩) _
    case turn =>
      rintro ⟨y, x⟩ rest b s' ⟨hb', rfl, vs, ws, ns', ms', hz, hvi, hwi, hlen, hR⟩
      cases hvi with
      | nil => rw [List.zip_nil_left] at hz; cases hz
      | cons a t hvi' =>
        cases hwi with
        | nil => rw [List.zip_nil_right] at hz; cases hz
        | cons c u hwi' =>
          rw [List.zip_cons_cons] at hz
          injection hz with hyx hrest
          injection hyx with hy hx
          subst hy hx
          rw [lexLt_cons] at hR
          simp only [List.length_cons] at hlen
          obtain ⟨e, he, hiff⟩ := eqAt_int A.in1 ⟨hp, g, d, tk, os⟩ a t c u
          refine wpAny_bind (he prog w _ _ ?_)
          cases e with
          | true =>
            rw [if_pos (hiff.mp rfl)] at hR
            wp_walk
            exact ⟨rfl, rfl, _, _, _, _, hrest, hvi', hwi', by omega, hR⟩
          | false =>
            rw [if_neg (fun q => absurd (hiff.mpr q) Bool.false_ne_true)] at hR
            have hri := rcLt_int A.in1 ⟨hp, g, d, tk, os⟩ a t c u prog w
            wp_walk using hri
            exact ⟨_, rfl, by simpa using hR⟩
    case fin =>
      rintro ⟨b1, b2⟩ s' ⟨hb', rfl, vs, ws, ns', ms', hz, hvi, hwi, hlen, hR⟩
      simp only at hb'
      subst hb'
      have hv : lexLt ns' ms' = decide (items.size < items2.size) := by
        cases hvi with
        | nil =>
          cases hwi with
          | nil =>
            simp only [List.length_nil] at hlen
            rw [lexLt_nil_nil]
            exact (decide_eq_false (by omega)).symm
          | cons c u hw =>
            simp only [List.length_nil, List.length_cons] at hlen
            rw [lexLt_nil_cons]
            exact (decide_eq_true (by omega)).symm
        | cons a t hv =>
          cases hwi with
          | nil =>
            simp only [List.length_nil, List.length_cons] at hlen
            rw [lexLt_cons_nil]
            exact (decide_eq_false (by omega)).symm
          | cons c u hw =>
            rw [List.zip_cons_cons] at hz
            cases hz
      rw [hv] at hR
      wp_walk
      exact ⟨_, rfl, by simpa [Builtin.Tuple.tupleCompareSizes] using hR⟩
    case h =>
      exact ⟨rfl, rfl, items.toList, items2.toList, ns, ms, rfl, hi, hj, by omega, h⟩
end

section
variable {prog : Program} {w : World} {A : Around} {E : Value → Shared → Prop} {s : Shared}

theorem lt_tupInts {l b : Addr} {items items2 : Array Value} {ns ms : List Int} {Q : Value → Shared → Prop} (hl : IsTup s.heap l items) (hb : IsTup s.heap b items2) (hi : IntsAre items.toList ns) (hj : IntsAre items2.toList ms)
    (hu : A.units < cLine) (h : Q (.bool (lexLt ns ms)) s) : wpAny (model prog w) A (compareOp .Lt (.ref l) (.ref b)) Q E s := by
  obtain ⟨⟨cls, dd, data, sl⟩, ho, hc, n, hd⟩ := id hl
  obtain ⟨⟨cls2, dd2, data2, sl2⟩, ho2, hc2, n2, hd2⟩ := id hb
  simp only at hc hd hc2 hd2
  subst hc hd hc2 hd2
  exact richCompare_meets_room (op := .Lt) ⟨_, ho, rfl⟩ ⟨_, ho2, rfl⟩ PySem.F.slot_tuple_lt PySem.F.entry_tuple_lt (PySem.F.args_tuple_lt_2 _ _) (tuple_lt_ints l b items items2 n n2 dd dd2 sl sl2 ns ms hi hj)
    ⟨ho, ho2, show Value.bool (lexLt ns ms) ≠ Value.notImplemented ∧ Q (.bool (lexLt ns ms)) s from ⟨(fun x => nomatch x), h⟩⟩ hu

/-- t + u, t not empty -/
theorem cat_tup {t b : Addr} {vs ws : List Value} {Q : Value → Shared → Prop} (ht : IsTup s.heap t vs.toArray) (hb : IsTup s.heap b ws.toArray) (hv : vs ≠ [])
    (h1 : ws = [] → Q (.ref t) s) (h2 : ws ≠ [] → Q (.ref s.heap.objs.size) { s with heap := s.heap.push { cls := .type "tuple", data := .seq (vs ++ ws).toArray } })
    (hsz : vs.length + ws.length ≤ sizeLine) : wpAny (model prog w) A (binaryOp .Add (.ref t) (.ref b)) Q E s := by
  obtain ⟨⟨cls, dd, data, sl⟩, ho, hc, n, hd⟩ := id ht
  obtain ⟨⟨cls2, dd2, data2, sl2⟩, ho2, hc2, n2, hd2⟩ := id hb
  simp only at hc hd hc2 hd2
  subst hc hd hc2 hd2
  have e : vs.toArray ++ ws.toArray = (vs ++ ws).toArray := by simp
  by_cases hw : ws = []
  · exact concat_meets ⟨_, ho, rfl⟩ ⟨_, ho2, rfl⟩ noFill_tuple_add seq_tuple_add PySem.F.slot_tuple_add PySem.F.entry_tuple_add (PySem.F.args_tuple_add_2 _ _)
      (tuple_addW1 t b vs.toArray ws.toArray n n2 dd dd2 sl sl2 (by simpa using hv) (by simp [hw])) ⟨ho, ho2, h1 hw⟩
  · refine concat_meets ⟨_, ho, rfl⟩ ⟨_, ho2, rfl⟩ noFill_tuple_add seq_tuple_add PySem.F.slot_tuple_add PySem.F.entry_tuple_add (PySem.F.args_tuple_add_2 _ _)
      (tuple_addW2 t b vs.toArray ws.toArray n n2 dd dd2 sl sl2 (by simpa using hv) (by simpa using hw) (by rw [List.size_toArray, List.size_toArray]; exact hsz)) ⟨ho, ho2, ?_⟩
    rw [e]
    exact h2 hw

/-! ### t[a:b], not the whole -/
/-- a slice's bound as a place among n (d where it is left out) -/
def sIx (n d : Nat) : Option Int → Nat
  | none => d
  | some v => if v < 0 then (v + (n : Int)).toNat else min v.toNat n
theorem sIx_none (n d : Nat) : sIx n d none = d := rfl
theorem sIx_nat (n d k : Nat) : sIx n d (some (k : Int)) = min k n := by
  show (if (k : Int) < 0 then ((k : Int) + (n : Int)).toNat else min (k : Int).toNat n) = min k n
  rw [if_neg (by omega), Int.toNat_natCast]
theorem sIx_le (n d : Nat) (hd : d ≤ n) (o : Option Int) : sIx n d o ≤ n := by
  cases o with
  | none => exact hd
  | some v =>
    show (if v < 0 then (v + (n : Int)).toNat else min v.toNat n) ≤ n
    by_cases hv : v < 0
    · rw [if_pos hv]; omega
    · rw [if_neg hv]; exact Nat.min_le_right _ _
theorem clip_eq (v : Int) (n d : Nat) : (if v < 0 then max (v + (n : Int)) 0 else min v (n : Int)) = ((sIx n d (some v) : Nat) : Int) := by
  show (if v < 0 then max (v + (n : Int)) 0 else min v (n : Int)) = (((if v < 0 then (v + (n : Int)).toNat else min v.toNat n) : Nat) : Int)
  by_cases hv : v < 0
  · simp only [if_pos hv]; omega
  · simp only [if_neg hv]; omega
theorem adjust_gen (lo hi : Option Int) (n : Nat) : Builtin.Slice.sliceAdjust lo hi 1 (n : Int) = (((sIx n 0 lo : Nat) : Int), ((sIx n n hi : Nat) : Int)) := by
  have h1 : ¬ ((1 : Int) < 0) := by omega
  unfold Builtin.Slice.sliceAdjust
  simp only [h1, if_false]
  refine Prod.ext ?_ ?_
  · cases lo with
    | none => rfl
    | some v => exact clip_eq v n 0
  · cases hi with
    | none => rfl
    | some v => exact clip_eq v n n
theorem places_gen (i j : Nat) : Builtin.Slice.slicePlaces (i : Int) (j : Int) 1 = j - i := by
  unfold Builtin.Slice.slicePlaces
  have h1 : (1 : Int) > 0 := by omega
  simp only [h1, if_true, Int.ediv_one]
  split <;> omega
theorem slicePart_ {v : Value} {o : Option Int} {Q : Option Int → Shared → Prop} (p : IsPart v o) (h : Q o s) : wpAny (model prog w) A (Builtin.Slice.slicePartIndex v) Q E s := by
  cases p with
  | none => exact slicePart_none h
  | int i t => exact slicePart_int h
theorem sliceApplied_gen {sl : Addr} {vl vu : Value} {lo hi : Option Int} {n : Nat} {Q : Int × Int × Nat → Shared → Prop} (hs : s.heap.IsSliceOf sl vl vu .none) (pl : IsPart vl lo) (pu : IsPart vu hi)
    (h : Q (((sIx n 0 lo : Nat) : Int), 1, sIx n n hi - sIx n 0 lo) s) : wpAny (model prog w) A (Builtin.Slice.sliceApplied (.ref sl) (pure (n : Int))) Q E s := by
  obtain ⟨os, hos, hcs, hds⟩ := id hs
  unfold Builtin.Slice.sliceApplied Builtin.Slice.sliceFields
  refine wpAny_bind (wpAny_bind (wpAny_field hos hds (x := vl) rfl (wpAny_bind (wpAny_field hos hds (x := vu) rfl (wpAny_bind (wpAny_field hos hds (x := .none) rfl (wpAny_pure ?_)))))))
  refine wpAny_bind (slicePart_none ?_)
  show wpAny _ _ (if ((1 : Int) == 0) = true then _ else _) _ _ s
  rw [if_neg (by decide)]
  refine wpAny_bind (slicePart_ pl (wpAny_bind (slicePart_ pu (wpAny_bind (wpAny_pure ?_)))))
  show wpAny _ _ (match Builtin.Slice.sliceAdjust lo hi 1 (n : Int) with | (lo, hi) => pure (lo, (1 : Int), Builtin.Slice.slicePlaces lo hi 1)) _ _ s
  rw [adjust_gen lo hi n]
  show wpAny _ _ (pure (((sIx n 0 lo : Nat) : Int), (1 : Int), Builtin.Slice.slicePlaces ((sIx n 0 lo : Nat) : Int) ((sIx n n hi : Nat) : Int) 1)) _ _ s
  rw [places_gen]
  exact wpAny_pure h
theorem pick_gen (xs : Array Value) (i k : Nat) : ((List.range k).filterMap fun (m : Nat) => xs[((i : Int) + (m : Int) * 1).toNat]?).toArray = ((xs.toList.drop i).take k).toArray := by
  have e : (fun (m : Nat) => xs[((i : Int) + (m : Int) * 1).toNat]?) = fun m => xs[i + m]? := by
    funext m
    have : ((i : Int) + (m : Int) * 1).toNat = i + m := by omega
    rw [this]
  rw [e]
  have := pick_run xs i k
  rw [List.filterMap_map] at this
  have e2 : ((fun x => xs[x]?) ∘ fun x => i + x) = fun m => xs[i + m]? := rfl
  rw [e2] at this
  rw [this]

theorem getItem_tuple_cut {t sl : Addr} {items : Array Value} {vl vu : Value} {lo hi : Option Int} {Q : Value → Shared → Prop} (ht : IsTup s.heap t items) (hs : s.heap.IsSliceOf sl vl vu .none) (pl : IsPart vl lo) (pu : IsPart vu hi)
    (hw : ¬ (sIx items.size 0 lo = 0 ∧ sIx items.size items.size hi = items.size))
    (h : Q (.ref s.heap.objs.size) { s with heap := s.heap.push { cls := .type "tuple", data := .seq ((items.toList.drop (sIx items.size 0 lo)).take (sIx items.size items.size hi - sIx items.size 0 lo)).toArray } })
    (hsz : items.size ≤ sizeLine) : wpAny (model prog w) A (getItem (.ref t) (.ref sl)) Q E s := by
  have htake : sizeOk (.seq ((items.toList.drop (sIx items.size 0 lo)).take (sIx items.size items.size hi - sIx items.size 0 lo)).toArray) := by
    show ((items.toList.drop (sIx items.size 0 lo)).take (sIx items.size items.size hi - sIx items.size 0 lo)).toArray.size ≤ sizeLine
    rw [List.size_toArray, List.length_take, List.length_drop, Array.length_toList]
    omega
  have hj : sIx items.size items.size hi ≤ items.size := sIx_le _ _ (Nat.le_refl _) hi
  obtain ⟨os, hos, hcs, hds⟩ := id hs
  have hTs : s.TypeIs (.ref sl) "slice" := ⟨os, hos, hcs⟩
  unfold getItem
  try with_reducible refine wpAny_holding ?_
  first | refine wpAny_bind (wpAny_pure ?_) | skip
  refine wpAny_bind (wpAny_sequenceKey ht.typeIs (by decide) ?_)
  refine wpAny_bind (wpAny_callSpecial?_slot (name := Str.ofString "__getitem__") ht.typeIs PyProof.Rows.slot_tuple_getitem
    (wpAny_call_entry PyProof.Rows.slot_tuple_getitem ht.typeIs entry_tuple_getitem ?_ (args_tuple_getitem _ _)))
  show wpAny _ _ (Builtin.Tuple.tupleItemsOf (.ref t) >>= _) _ _ s
  refine wpAny_bind (tupleItemsOf_ ht ?_)
  refine wpAny_bind (wpAny_typeOf hTs ?_)
  rw [if_pos (by decide)]
  refine wpAny_bind (sliceApplied_gen hs pl pu ?_)
  have hno : ¬ ((((sIx items.size 0 lo : Nat) : Int) == 0 && (1 : Int) == 1 && (sIx items.size items.size hi - sIx items.size 0 lo) == items.size) = true) := by
    intro q
    rw [Bool.and_eq_true, Bool.and_eq_true] at q
    have q1 : ((sIx items.size 0 lo : Nat) : Int) = 0 := eq_of_beq q.1.1
    have q2 : sIx items.size items.size hi - sIx items.size 0 lo = items.size := eq_of_beq q.2
    exact hw ⟨by omega, by omega⟩
  show wpAny _ _ (if (((sIx items.size 0 lo : Nat) : Int) == 0 && (1 : Int) == 1 && (sIx items.size items.size hi - sIx items.size 0 lo) == items.size) = true then _ else _) _ _ s
  rw [if_neg hno, pick_gen]
  first
    | exact wpAny_bind (m := Builtin.Tuple.tupleExact _) (wpAny_newObj_type (wpAny_pure ⟨_, rfl, wpAny_pure h⟩) htake)
    | exact wpAny_bind (m := Builtin.Tuple.tupleExact _) (wpAny_newObj_type (wpAny_bind (wpAny_pure (wpAny_pure ⟨_, rfl, wpAny_pure h⟩))) htake)
    | exact wpAny_bind (wpAny_bind (m := Builtin.Tuple.tupleExact _) (wpAny_newObj_type (wpAny_pure (wpAny_pure ⟨_, rfl, wpAny_pure h⟩)) htake))
    | exact wpAny_bind (wpAny_bind (m := Builtin.Tuple.tupleExact _) (wpAny_newObj_type (wpAny_pure ⟨_, rfl, wpAny_pure h⟩) htake))
end
end HT

namespace L2
open PySem PySem.Spec PyProof.Rows

/-! ### the parts of a slice -/
abbrev TO := St → Hp → (Option Int → Hp → Prop) → Prop
/-- a slice's part (left out, or an int) -/
def PO (X : Cx) (e : Option Expr) (t : TO) : Prop :=
  ∀ (pins : List (Addr × Obj)) (s : Shared) (σ : St) (H : Hp) (Q : Option Int → Hp → Prop), Inv X pins σ H s → t σ H Q →
    wpAny (model X.prog X.w) X.A (evalPart e X.env) (fun u s' => ∃ o H', Inv X pins σ H' s' ∧ IsPart u o ∧ Q o H') X.xe s
def tNoPart : TO := fun _ H Q => Q none H
def tPart (t : TE) : TO := fun σ H Q => t σ H fun x H1 => ∃ i, x = .int i ∧ Q (some i) H1

theorem intsAre_of {ns : List Int} : ∀ {us : List Value}, Vals (ns.map V.int) us → IntsAre us ns := by
  induction ns with
  | nil => intro us r; rw [List.map_nil] at r; cases r; exact .nil
  | cons n ns ih =>
    intro us r
    rw [List.map_cons] at r
    cases r with
    | cons r1 r2 =>
      obtain ⟨t, e⟩ := r1
      subst e
      exact .cons n t (ih r2)

section
variable {X : Cx} {e : Expr} {te : TE} {lo hi : Option Expr} {tl th : TO} {pos p2 : Pos}

theorem po_none : PO X none tNoPart := by
  intro pins s σ H Q I h
  rw [evalPart_none]
  exact wpAny_pure ⟨none, H, I, .none, h⟩
theorem po_some (h : PE X e te) : PO X (some e) (tPart te) := by
  intro pins s σ H Q I hw
  rw [evalPart_some]
  refine thn (h pins s σ H _ I hw) fun u s1 ⟨x, H1, I1, r1, q1⟩ => ?_
  obtain ⟨i, rfl, q⟩ := q1
  obtain ⟨t, rfl⟩ := r1
  exact ⟨some i, H1, I1, .int i t, q⟩

/-- what a slice of a value is, by values: the slice object stands at sl -/
def SlR (X : Cx) (r : V → Option Int → Option Int → Hp → VK → Prop) : Prop :=
  ∀ (pins : List (Addr × Obj)) (s : Shared) (σ : St) (H : Hp) (x : V) (v vl vu : Value) (lo hi : Option Int) (sl : Addr) (Q : VK), Inv X pins σ H s → RelV x v → s.heap.IsSliceOf sl vl vu .none → IsPart vl lo → IsPart vu hi → r x lo hi H Q →
    ∃ T id, typeLookup (.type T) "__getitem__" = pure (some (.builtin id)) ∧ s.TypeIs v T ∧ wpAny (model X.prog X.w) X.A (getItem v (.ref sl)) (EP X pins σ Q) X.xe s
theorem SlR.or {r r' : V → Option Int → Option Int → Hp → VK → Prop} (h : SlR X r) (h' : SlR X r') : SlR X (fun x lo hi H Q => r x lo hi H Q ∨ r' x lo hi H Q) := by
  intro pins s σ H x v vl vu lo hi sl Q I rx hs pl pu q
  rcases q with q | q
  · exact h pins s σ H x v vl vu lo hi sl Q I rx hs pl pu q
  · exact h' pins s σ H x v vl vu lo hi sl Q I rx hs pl pu q
def tSl (r : V → Option Int → Option Int → Hp → VK → Prop) (te : TE) (tl th : TO) : TE := fun σ H Q => te σ H fun x H1 => tl σ H1 fun l H2 => th σ H2 fun u H3 => r x l u H3 Q
/-- a[lo:hi], any a -/
theorem pe_slice {r : V → Option Int → Option Int → Hp → VK → Prop} (hr : SlR X r) (he : PE X e te) (hl : PO X lo tl) (hu : PO X hi th) : PE X (.Subscript e (.Slice lo hi none p2) pos) (tSl r te tl th) := by
  intro pins s σ H Q I h
  refine Subscript_ (thn (he pins s σ H _ I h) fun v s1 ⟨x, H1, I1, r1, q1⟩ => ?_)
  refine wpAny_Slice (thn (hl pins s1 σ H1 _ I1 q1) fun vl s2 ⟨l, H2, I2, pl, q2⟩ => thn (hu pins s2 σ H2 _ I2 q2) fun vu s3 ⟨u, H3, I3, pu, q3⟩ => ?_)
  rw [evalPart_none]
  refine wpAny_pure ?_
  have I4 : Inv X pins σ H3 { s3 with heap := s3.heap.push { cls := .type "slice", data := .fields #[vl, vu, .none] } } := I3.kept (t' := s3.toks) fun b ob q => Heap.get?_push_of_some _ q
  obtain ⟨T, id, hT, ht, hg⟩ := hr pins { s3 with heap := s3.heap.push { cls := .type "slice", data := .fields #[vl, vu, .none] } } σ H3 x v vl vu l u s3.heap.objs.size Q I4 r1 (Heap.IsSliceOf.new ..) pl pu q3
  show wpAny (model X.prog X.w) X.A (subscriptTail e (.Slice lo hi none p2) v (.ref s3.heap.objs.size)) (EP X pins σ Q) X.xe { s3 with heap := s3.heap.push { cls := .type "slice", data := .fields #[vl, vu, .none] } }
  exact tail_any (ops := [.ref s3.heap.objs.size, v]) ht hT hg (by with_unfolding_all rfl)

/-- the items of xs[lo:hi] -/
def cutV (xs : List V) (lo hi : Option Int) : List V := (xs.drop (HT.sIx xs.length 0 lo)).take (HT.sIx xs.length xs.length hi - HT.sIx xs.length 0 lo)
theorem cutV_length (xs : List V) (lo hi : Option Int) : (cutV xs lo hi).length ≤ xs.length := by
  unfold cutV
  rw [List.length_take, List.length_drop]
  omega
/-- t[lo:hi], not the whole of it (the whole would be t itself) -/
def rSlT (K : PySem.W.Frag) : V → Option Int → Option Int → Hp → VK → Prop := fun x lo hi H Q => ∃ a xs, x = .ref a ∧ SqT K H a xs ∧
  ¬ (HT.sIx xs.length 0 lo = 0 ∧ HT.sIx xs.length xs.length hi = xs.length) ∧ ∀ p, H p = none → Q (.ref p) (upd H p (.tup (cutV xs lo hi)))
theorem sl_tup : SlR X (rSlT X.K) := by
  intro pins s σ H x v vl vu lo hi sl Q I rx hs pl pu h
  obtain ⟨a, xs, rfl, hx, hw, q⟩ := h
  cases rx
  obtain ⟨its, r, ht, hz⟩ := I.tuple hx
  have hlen : its.toArray.size = xs.length := by rw [List.size_toArray]; exact r.length.symm
  refine ⟨"tuple", _, PyProof.Rows.slot_tuple_getitem.lookup, ht.typeIs, ?_⟩
  refine HT.getItem_tuple_cut ht hs pl pu (by rw [hlen]; exact hw) ?_ (by rw [hlen]; exact hz)
  rw [hlen]
  refine ⟨.ref s.heap.objs.size, _, I.laid (t' := s.toks) (o := .tup (cutV xs lo hi)) (fun b ob q => Heap.get?_push_of_some _ q) (Nat.le_refl _) ?_, rfl, q _ (I.hok.fresh (Nat.le_refl _))⟩
  exact ⟨Nat.le_trans (cutV_length xs lo hi) hz, _, (r.drop (HT.sIx xs.length 0 lo)).take (HT.sIx xs.length xs.length hi - HT.sIx xs.length 0 lo), IsTup.new _ _⟩

/-! ### t < u, t + u -/
def rLtT (K : PySem.W.Frag) : R2 := fun x y H Q => ∃ a b ns ms, x = .ref a ∧ y = .ref b ∧ SqT K H a (ns.map V.int) ∧ SqT K H b (ms.map V.int) ∧ Q (.bl (HT.lexLt ns ms)) H
theorem op_ltT (hu : X.A.units < cLine) : OpR X (compareOp .Lt) (rLtT X.K) := by
  intro pins s σ H x y v u Q I rx ry h
  obtain ⟨a, b, ns, ms, rfl, rfl, ha, hb, q⟩ := h
  cases rx
  cases ry
  obtain ⟨its, r1, p1, _⟩ := I.tuple ha
  obtain ⟨its2, r2, p2, _⟩ := I.tuple hb
  have i1 : IntsAre its.toArray.toList ns := intsAre_of r1
  have i2 : IntsAre its2.toArray.toList ms := intsAre_of r2
  exact HT.lt_tupInts p1 p2 i1 i2 hu ⟨.bl (HT.lexLt ns ms), H, I, rfl, q⟩
/-- t + u, t not empty: u empty gives t itself -/
def rCatT (K : PySem.W.Frag) : R2 := fun x y H Q => ∃ a b xs ys, x = .ref a ∧ y = .ref b ∧ SqT K H a xs ∧ SqT K H b ys ∧ xs ≠ [] ∧ xs.length + ys.length ≤ sizeLine ∧
  (ys = [] → Q (.ref a) H) ∧ (ys ≠ [] → ∀ p, H p = none → Q (.ref p) (upd H p (.tup (xs ++ ys))))
theorem Vals.nil_iff {xs : List V} {us : List Value} (r : Vals xs us) : us = [] ↔ xs = [] := by
  cases r with
  | nil => simp
  | cons _ _ => simp
theorem op_catT : OpR X (binaryOp .Add) (rCatT X.K) := by
  intro pins s σ H x y v u Q I rx ry h
  obtain ⟨a, b, xs, ys, rfl, rfl, ha, hb, hx, hz, q1, q2⟩ := h
  cases rx
  cases ry
  obtain ⟨its, r1, p1, _⟩ := I.tuple ha
  obtain ⟨its2, r2, p2, _⟩ := I.tuple hb
  refine HT.cat_tup p1 p2 (fun z => hx (r1.nil_iff.mp z)) (fun z => ⟨.ref a, H, I, rfl, q1 (r2.nil_iff.mp z)⟩) (fun z => ?_) (by rw [← r1.length, ← r2.length]; exact hz)
  refine ⟨.ref s.heap.objs.size, _, I.laid (t' := s.toks) (o := .tup (xs ++ ys)) (fun b ob q => Heap.get?_push_of_some _ q) (Nat.le_refl _) ?_, rfl, q2 (fun w => z (r2.nil_iff.mpr w)) _ (I.hok.fresh (Nat.le_refl _))⟩
  exact ⟨by rw [List.length_append]; exact hz, _, r1.append r2, IsTup.new _ _⟩
/-- tuple(t) -/
theorem call_tupleT : CallR X (.type "tuple") (fun xs H Q => ∃ a ys, xs = [.ref a] ∧ SqT X.K H a ys ∧ Q (.ref a) H) := by
  intro pins s σ H xs us Q I r h
  obtain ⟨a, ys, rfl, ha, q⟩ := h
  obtain ⟨u, rfl, ru⟩ := vals1 r
  cases ru
  obtain ⟨its, _, p1, _⟩ := I.tuple ha
  exact call_tuple_same (items := its.toArray) p1 ⟨.ref a, H, I, rfl, q⟩
end
end L2

namespace L2
open PySem PySem.Spec PyProof.Rows

/-! ### places -/
/-- the place that an index of any sign means -/
def ixN (n : Nat) (i : Int) : Option Nat := if 0 ≤ i then (if i < n then some i.toNat else none) else if -(n : Int) ≤ i then some (i + n).toNat else none
def atI {α : Type} (xs : List α) (i : Int) : Option α := (ixN xs.length i).bind fun j => xs[j]?
theorem ixN_seq {n : Nat} {i : Int} {j : Nat} (h : ixN n i = some j) : seqIndex? i n = some j ∧ j < n ∧ -(n : Int) ≤ i ∧ i < n := by
  unfold ixN at h
  by_cases h0 : 0 ≤ i
  · rw [if_pos h0] at h
    by_cases h1 : i < n
    · rw [if_pos h1] at h
      have e : i.toNat = j := Option.some.inj h
      exact ⟨by rw [seqIndex_of h0 h1, e], by omega, by omega, h1⟩
    · rw [if_neg h1] at h; cases h
  · rw [if_neg h0] at h
    by_cases h1 : -(n : Int) ≤ i
    · rw [if_pos h1] at h
      have e : (i + n).toNat = j := Option.some.inj h
      exact ⟨by rw [seqIndex_neg (by omega) h1, e], by omega, h1, by omega⟩
    · rw [if_neg h1] at h; cases h
theorem atI_get {α : Type} {xs : List α} {i : Int} {v : α} (h : atI xs i = some v) : ∃ j, seqIndex? i xs.length = some j ∧ xs[j]? = some v ∧ j < xs.length ∧ -(xs.length : Int) ≤ i ∧ i < xs.length := by
  unfold atI at h
  cases e : ixN xs.length i with
  | none => rw [e] at h; cases h
  | some j =>
    rw [e] at h
    obtain ⟨h1, h2, h3, h4⟩ := ixN_seq e
    exact ⟨j, h1, h, h2, h3, h4⟩
theorem atI_nat {α : Type} {xs : List α} {j : Nat} {v : α} (h : xs[j]? = some v) : atI xs (j : Int) = some v := by
  have hj : j < xs.length := (List.getElem?_eq_some_iff.mp h).1
  have e : ixN xs.length (j : Int) = some j := by
    unfold ixN
    rw [if_pos (by omega), if_pos (by omega)]; simp
  unfold atI; rw [e]; exact h
theorem atI_last {α : Type} (xs : List α) (v : α) : atI (xs ++ [v]) (-1) = some v := by
  have hl : (xs ++ [v]).length = xs.length + 1 := by simp
  have e : ixN (xs ++ [v]).length (-1) = some xs.length := by
    unfold ixN
    rw [hl, if_neg (by decide), if_pos (by omega)]
    congr 1
    omega
  unfold atI
  rw [e]
  show (xs ++ [v])[xs.length]? = some v
  simp

/-! ### what may be subscripted -/
/-- what stands as an index of a plain subscript -/
def PlainIx (b : Expr) : Prop := ∀ o i, subscripted b false o i = operate [o, i] (getItem o i)
/-- a subscript by values -/
def IxR (X : Cx) (r : R2) : Prop :=
  ∀ (value slice : Expr) (pins : List (Addr × Obj)) (s : Shared) (σ : St) (H : Hp) (x y : V) (v u : Value) (Q : VK), Inv X pins σ H s → RelV x v → RelV y u → r x y H Q →
    subscripted slice false v u = operate [v, u] (getItem v u) → wpAny (model X.prog X.w) X.A (subscriptTail value slice v u) (EP X pins σ Q) X.xe s
/-- a call of a builtin's method by values: the receiver, the arguments -/
def MtR (X : Cx) (id : String) (r : V → List V → Hp → VK → Prop) : Prop :=
  ∀ (pins : List (Addr × Obj)) (s : Shared) (σ : St) (H : Hp) (x : V) (xs : List V) (v : Value) (us : List Value) (Q : VK), Inv X pins σ H s → RelV x v → Vals xs us → r x xs H Q →
    wpAny (model X.prog X.w) X.A (call (.builtin id) (v :: us)) (EP X pins σ Q) X.xe s
section
variable {X : Cx} {a b : Expr} {ta tb : TE} {pos : Pos}
theorem IxR.or {r r' : R2} (h : IxR X r) (h' : IxR X r') : IxR X (fun x y H Q => r x y H Q ∨ r' x y H Q) := by
  intro value slice pins s σ H x y v u Q I rx ry q hs
  rcases q with q | q
  · exact h value slice pins s σ H x y v u Q I rx ry q hs
  · exact h' value slice pins s σ H x y v u Q I rx ry q hs
theorem MtR.or {id : String} {r r' : V → List V → Hp → VK → Prop} (h : MtR X id r) (h' : MtR X id r') : MtR X id (fun x xs H Q => r x xs H Q ∨ r' x xs H Q) := by
  intro pins s σ H x xs v us Q I rx rs q
  rcases q with q | q
  · exact h pins s σ H x xs v us Q I rx rs q
  · exact h' pins s σ H x xs v us Q I rx rs q
/-- a[b] -/
theorem pe_ix {r : R2} (hr : IxR X r) (ha : PE X a ta) (hb : PE X b tb) (hs : PlainIx b) : PE X (.Subscript a b pos) (tOp r ta tb) := by
  intro pins s σ H Q I h
  exact Subscript_ (binT ha hb I h fun v u s2 x y H2 I2 rx ry q => hr a b pins s2 σ H2 x y v u Q I2 rx ry q (hs _ _))

def rIxL (K : PySem.W.Frag) : R2 := fun x y H Q => ∃ p xs i v, x = .ref p ∧ y = .int i ∧ SqL K H p xs ∧ atI xs i = some v ∧ Q v H
def rIxT (K : PySem.W.Frag) : R2 := fun x y H Q => ∃ p xs i v, x = .ref p ∧ y = .int i ∧ SqT K H p xs ∧ atI xs i = some v ∧ Q v H
def rIxS : R2 := fun x y H Q => ∃ z i c, x = .str z ∧ y = .int i ∧ z.length ≤ sizeLine ∧ atI z.cps.toList i = some c ∧ Q (.str ⟨#[c]⟩) H
theorem ix_list : IxR X (rIxL X.K) := by
  intro value slice pins s σ H x y v u Q I rx ry h hs
  obtain ⟨p, xs, i, z, rfl, rfl, hq, he, q⟩ := h
  cases rx
  obtain ⟨t, rfl⟩ := ry
  obtain ⟨its, r, pl, hz⟩ := I.list hq
  obtain ⟨j, h1, h2, h3, h4, h5⟩ := atI_get he
  obtain ⟨w, ew, rw'⟩ := r.get h2
  have hl := r.length
  have hn := line63
  have fin : EP X pins σ Q w s := ⟨z, H, I, rw', q⟩
  by_cases h0 : 0 ≤ i
  · have hj : i.toNat = j := by
      rw [seqIndex_of h0 h5] at h1
      exact Option.some.inj h1
    exact item_listR pl.isList h0 (by omega) (by rw [hj]; simpa using ew) fin hs
  · have hj : (i + (its.toArray.size : Int)).toNat = j := by
      rw [seqIndex_neg (by omega) h4] at h1
      rw [List.size_toArray, ← hl]
      exact Option.some.inj h1
    exact subscriptTail_builtinR (x := w) pl.isList.typeIs slot_list_getitem.lookup
      (wpAny_getItem_list_neg (Q := fun r s' => r = w ∧ EP X pins σ Q r s') pl.isList (by omega) (by rw [List.size_toArray] <;> omega) (by omega) (by rw [hj]; simpa using ew) ⟨rfl, fin⟩) hs
theorem ix_tup : IxR X (rIxT X.K) := by
  intro value slice pins s σ H x y v u Q I rx ry h hs
  obtain ⟨p, xs, i, z, rfl, rfl, hq, he, q⟩ := h
  cases rx
  obtain ⟨t, rfl⟩ := ry
  obtain ⟨its, r, pl, hz⟩ := I.tuple hq
  obtain ⟨j, h1, h2, h3, h4, h5⟩ := atI_get he
  obtain ⟨w, ew, rw'⟩ := r.get h2
  have hl := r.length
  have hn := line63
  have fin : EP X pins σ Q w s := ⟨z, H, I, rw', q⟩
  exact subscriptTail_builtinR (x := w) pl.typeIs slot_tuple_getitem.lookup
    (getItem_tuple (j := j) (Q := fun r s' => r = w ∧ EP X pins σ Q r s') pl (by omega) (by omega) (by rw [List.size_toArray, ← hl]; exact h1) (by simpa using ew) ⟨rfl, fin⟩) hs
theorem ix_str : IxR X rIxS := by
  intro value slice pins s σ H x y v u Q I rx ry h hs
  obtain ⟨z, i, c, rfl, rfl, hz, he, q⟩ := h
  obtain ⟨t, rfl⟩ := rx
  obtain ⟨t', rfl⟩ := ry
  obtain ⟨j, h1, h2, h3, h4, h5⟩ := atI_get he
  have hl : z.cps.toList.length = z.length := by simp [Str.length]
  rw [hl] at h1 h4 h5
  have hn := line63
  exact tail_any (typeIs_str s z t) slot_str_getitem.lookup (getItem_str (c := c) (by
    have e1 : decide (i < -(2 ^ 63 : Int)) = false := decide_eq_false (by omega)
    have e2 : decide (i ≥ 2 ^ 63) = false := decide_eq_false (by omega)
    rw [e1, e2, Bool.or_false]) (by rw [h1]; simpa using h2) ⟨.str ⟨#[c]⟩, H, I.tok _, ⟨_, rfl⟩, q⟩) hs
/-- list, tuple or str -/
def rIx (K : PySem.W.Frag) : R2 := fun x y H Q => rIxL K x y H Q ∨ rIxT K x y H Q ∨ rIxS x y H Q
theorem ix_seq : IxR X (rIx X.K) := ix_list.or (ix_tup.or ix_str)

/-! ### xs[i] = v, any sign -/
/-- the list's object behind a store -/
theorem mapSeq_set (its : List Value) (n j : Nat) (u : Value) : Obj.mapSeq (·.setIfInBounds j u) { cls := .type "list", data := .seq its.toArray n } = { cls := .type "list", data := .seq (its.set j u).toArray n } := by
  simp [Obj.mapSeq]
theorem Inv.lst {pins : List (Addr × Obj)} {σ : St} {H : Hp} {s : Shared} {p : Addr} {xs : List V} (I : Inv X pins σ H s) (h : H p = some (.lst xs)) :
    ∃ (its : List Value) (n : Nat), Vals xs its ∧ s.heap.get? p = some { cls := .type "list", data := .seq its.toArray n } ∧ xs.length ≤ sizeLine := by
  obtain ⟨z, its, n, r, e⟩ := I.hok p _ h
  exact ⟨its, n, r, e, z⟩
/-- the list at p is written by an update of its object -/
theorem Inv.lstUpd {pins : List (Addr × Obj)} {σ : St} {H : Hp} {s : Shared} {p : Addr} {xs ys : List V} {its its' : List Value} {n n' : Nat} {f : Obj → Obj} (I : Inv X pins σ H s) (h : H p = some (.lst xs))
    (ho : s.heap.get? p = some { cls := .type "list", data := .seq its.toArray n }) (hf : f { cls := .type "list", data := .seq its.toArray n } = { cls := .type "list", data := .seq its'.toArray n' }) (r : Vals ys its') (hz : ys.length ≤ sizeLine) (t : Nat) :
    Inv X pins σ (upd H p (.lst ys)) { s with heap := s.heap.update p f, toks := t } := by
  have e : (s.heap.update p f).get? p = some { cls := .type "list", data := .seq its'.toArray n' } := by
    rw [Heap.get?_update_self f ho (by rw [hf] <;> rfl), hf]
  refine I.write (x := p) (e := p) (by rw [h]; trivial) (.inl rfl) (fun b u hb q => (Heap.get?_update_other _ _ (Ne.symm hb)).trans q) ⟨_, e⟩ ?_
  exact ⟨hz, its', n', r, e⟩
def rSetL : V → V → V → Hp → (Hp → Prop) → Prop := fun o i v H Q => ∃ p xs k j, o = .ref p ∧ i = .int k ∧ H p = some (.lst xs) ∧ ixN xs.length k = some j ∧ Q (upd H p (.lst (xs.set j v)))
theorem set_list : PSet X rSetL := by
  intro pins s σ H o i v ov iv u Q I ro ri rv h
  obtain ⟨p, xs, k, j, rfl, rfl, hp, hj, q⟩ := h
  cases ro
  obtain ⟨t, rfl⟩ := ri
  obtain ⟨its, n, r, ho, hz⟩ := I.lst hp
  obtain ⟨h1, h2, h3, h4⟩ := ixN_seq hj
  have hl := r.length
  have hn := line63
  have I' : Inv X pins σ (upd H p (.lst (xs.set j v))) { s with heap := s.heap.update p (Obj.mapSeq (·.setIfInBounds j u)) } :=
    I.lstUpd hp ho (mapSeq_set its n j u) (r.set rv j) (by rw [List.length_set]; exact hz) s.toks
  by_cases h0 : 0 ≤ k
  · have hk : k.toNat = j := by
      rw [seqIndex_of h0 h4] at h1
      exact Option.some.inj h1
    exact PySem.W.ki_setAt ho h0 (by omega) (by rw [List.size_toArray, ← hl]; exact h4) (by rw [hk]; exact ⟨_, I', q⟩)
  · have hk : (k + (its.toArray.size : Int)).toNat = j := by
      rw [seqIndex_neg (by omega) h3] at h1
      rw [List.size_toArray, ← hl]
      exact Option.some.inj h1
    exact PySem.W.ki_setBack ho (by omega) (by rw [List.size_toArray, ← hl]; exact h3) (by omega) (by rw [hk]; exact ⟨_, I', q⟩)

/-! ### slices -/
theorem slice_bounds (lo hi : Option Int) (n : Nat) : (sliceBounds lo hi none n).1 = ((HT.sIx n 0 lo : Nat) : Int) ∧ (sliceBounds lo hi none n).2.1 = ((HT.sIx n n hi : Nat) : Int) ∧ (sliceBounds lo hi none n).2.2 = 1 := by
  refine ⟨?_, ?_, rfl⟩
  · cases lo with
    | none => simp [sliceBounds, HT.sIx]
    | some i =>
      simp only [sliceBounds, HT.sIx, Option.getD_none, show (1 : Int) > 0 by decide, if_true]
      by_cases h : i < 0
      · simp only [h, if_true] <;> omega
      · simp only [h, if_false] <;> omega
  · cases hi with
    | none => simp [sliceBounds, HT.sIx]
    | some i =>
      simp only [sliceBounds, HT.sIx, Option.getD_none, show (1 : Int) > 0 by decide, if_true]
      by_cases h : i < 0
      · simp only [h, if_true] <;> omega
      · simp only [h, if_false] <;> omega
theorem slicePick_cut (its : List Value) (lo hi : Option Int) : slicePick its.toArray lo hi none = ((its.drop (HT.sIx its.length 0 lo)).take (HT.sIx its.length its.length hi - HT.sIx its.length 0 lo)).toArray := by
  obtain ⟨h1, h2, h3⟩ := slice_bounds lo hi its.toArray.size
  unfold slicePick
  rw [h1, h2, h3]
  simp only [sliceRange_one, pick_run, List.size_toArray] <;> rfl
/-- xs[lo:hi] of a list: a new list -/
def rSlL (K : PySem.W.Frag) : V → Option Int → Option Int → Hp → VK → Prop := fun x lo hi H Q => ∃ a xs, x = .ref a ∧ SqL K H a xs ∧ ∀ p, H p = none → Q (.ref p) (upd H p (.lst (cutV xs lo hi)))
theorem sl_list : SlR X (rSlL X.K) := by
  intro pins s σ H x v vl vu lo hi sl Q I rx hs pl pu h
  obtain ⟨a, xs, rfl, hx, q⟩ := h
  cases rx
  obtain ⟨its, r, ht, hz⟩ := I.list hx
  have hlen := r.length
  refine ⟨"list", _, slot_list_getitem.lookup, ht.isList.typeIs, ?_⟩
  refine wpAny_getItem_list_slice ht.isList hs pl pu .none (by simp) ?_ (by rw [List.size_toArray] <;> omega)
  rw [slicePick_cut, ← hlen]
  refine ⟨.ref s.heap.objs.size, _, I.laid (t' := s.toks) (o := .lst (cutV xs lo hi)) (fun b ob q => Heap.get?_push_of_some _ q) (Nat.le_refl _) ?_, rfl, q _ (I.hok.fresh (Nat.le_refl _))⟩
  exact ⟨Nat.le_trans (cutV_length xs lo hi) hz, _, 0, (r.drop (HT.sIx xs.length 0 lo)).take (HT.sIx xs.length xs.length hi - HT.sIx xs.length 0 lo), Heap.get?_push_size _ rfl⟩

/-! ### in, not in: flat items -/
def flatV : V → Bool
  | .non => true
  | .bl _ => true
  | .int _ => true
  | .str _ => true
  | _ => false
/-- == of flat values -/
def eqV : V → V → Bool
  | .non, .non => true
  | .bl a, .bl b => a == b
  | .bl a, .int b => (if a then 1 else 0) == b
  | .int a, .bl b => a == (if b then 1 else 0)
  | .int a, .int b => a == b
  | .str a, .str b => a == b
  | _, _ => false
theorem eqAt_V {A : Around} {s : Shared} {y x : V} {u v : Value} (ry : RelV y u) (rx : RelV x v) (fy : flatV y = true) (fx : flatV x = true) : SeqAt.EqAt A s u v (eqV y x) := by
  cases y with
  | non =>
    cases ry
    cases x with
    | non => cases rx; exact SeqAt.EqAt.same _
    | bl b => cases rx; exact SeqAt.EqAt.none_bool b
    | int b => obtain ⟨t, rfl⟩ := rx; exact SeqAt.EqAt.none_int b t
    | str b => obtain ⟨t, rfl⟩ := rx; exact SeqAt.EqAt.none_str b t
    | _ => exact absurd (show false = true from fx) Bool.false_ne_true
  | bl a =>
    cases ry
    cases x with
    | non => cases rx; exact SeqAt.EqAt.bool_none a
    | bl b => cases rx; exact SeqAt.EqAt.bool_bool a b
    | int b => obtain ⟨t, rfl⟩ := rx; exact SeqAt.EqAt.bool_int a b t
    | str b => obtain ⟨t, rfl⟩ := rx; exact SeqAt.EqAt.bool_str a b t
    | _ => exact absurd (show false = true from fx) Bool.false_ne_true
  | int a =>
    obtain ⟨t', rfl⟩ := ry
    cases x with
    | non => cases rx; exact SeqAt.EqAt.int_none a t'
    | bl b => cases rx; exact SeqAt.EqAt.int_bool a t' b
    | int b => obtain ⟨t, rfl⟩ := rx; exact SeqAt.EqAt.int_int a t' b t
    | str b => obtain ⟨t, rfl⟩ := rx; exact SeqAt.EqAt.int_str a t' b t
    | _ => exact absurd (show false = true from fx) Bool.false_ne_true
  | str a =>
    obtain ⟨t', rfl⟩ := ry
    cases x with
    | non => cases rx; exact SeqAt.EqAt.str_none a t'
    | bl b => cases rx; exact SeqAt.EqAt.str_bool a t' b
    | int b => obtain ⟨t, rfl⟩ := rx; exact SeqAt.EqAt.str_int a t' b t
    | str b => obtain ⟨t, rfl⟩ := rx; exact SeqAt.EqAt.str_str a t' b t
    | _ => exact absurd (show false = true from fx) Bool.false_ne_true
  | _ => exact absurd (show false = true from fy) Bool.false_ne_true
/-- the items' answers, read off the values (a value's own answer does not lean on its token) -/
def eqU (x : V) (u : Value) : Bool := match u with
  | .none => eqV .non x
  | .bool b => eqV (.bl b) x
  | .int i _ => eqV (.int i) x
  | .str z _ => eqV (.str z) x
  | _ => false
theorem eqU_of {x y : V} {u : Value} (r : RelV y u) (f : flatV y = true) : eqU x u = eqV y x := by
  cases y with
  | non => cases r; rfl
  | bl b => cases r; rfl
  | int i => obtain ⟨t, rfl⟩ := r; rfl
  | str z => obtain ⟨t, rfl⟩ := r; rfl
  | _ => exact absurd (show false = true from f) Bool.false_ne_true
theorem any_eqU {x : V} : ∀ {xs : List V} {us : List Value}, Vals xs us → xs.all flatV = true → us.any (eqU x) = xs.any fun y => eqV y x
  | _, _, .nil, _ => rfl
  | y :: xs, u :: us, .cons r t, f => by
    rw [List.all_cons, Bool.and_eq_true] at f
    rw [List.any_cons, List.any_cons, eqU_of r f.1, any_eqU t f.2]
theorem mem_eqAt {A : Around} {s : Shared} {x : V} {v : Value} (rx : RelV x v) (fx : flatV x = true) : ∀ {xs : List V} {us : List Value}, Vals xs us → xs.all flatV = true → ∀ u ∈ us, SeqAt.EqAt A s u v (eqU x u)
  | _, _, .nil, _ => fun u hu => by cases hu
  | y :: xs, u :: us, .cons r t, f => fun u' hu => by
    rw [List.all_cons, Bool.and_eq_true] at f
    rcases List.mem_cons.mp hu with rfl | hu
    · rw [eqU_of r f.1]; exact eqAt_V r rx f.1 fx
    · exact mem_eqAt rx fx t f.2 u' hu
def inV (x : V) (xs : List V) : Bool := xs.any fun y => eqV y x
/-- x in a list or tuple of flat items -/
def rIn (K : PySem.W.Frag) (neg : Bool) : R2 := fun x y H Q => ∃ p xs, y = .ref p ∧ (SqL K H p xs ∨ SqT K H p xs) ∧ flatV x = true ∧ xs.all flatV = true ∧ Q (.bl (if neg then !inV x xs else inV x xs)) H
theorem op_in_seq : OpR X (compareOp .In) (rIn X.K false) := by
  intro pins s σ H x y v u Q I rx ry h
  obtain ⟨p, xs, rfl, hq, fx, fs, q⟩ := h
  cases ry
  rcases hq with hq | hq
  · obtain ⟨its, r, pl, hz⟩ := I.list hq
    refine SeqAt.in_listAt (eqU x) pl.isList (fun w hw => mem_eqAt rx fx r fs w (by simpa using hw)) ⟨.bl _, H, I, rfl, ?_⟩
    rw [show its.toArray.any (eqU x) = its.any (eqU x) by simp, any_eqU r fs]
    exact q
  · obtain ⟨its, r, pl, hz⟩ := I.tuple hq
    refine SeqAt.in_tupleAt (eqU x) pl (fun w hw => mem_eqAt rx fx r fs w (by simpa using hw)) ⟨.bl _, H, I, rfl, ?_⟩
    rw [show its.toArray.any (eqU x) = its.any (eqU x) by simp, any_eqU r fs]
    exact q
theorem op_notIn_seq : OpR X (compareOp .NotIn) (rIn X.K true) := by
  intro pins s σ H x y v u Q I rx ry h
  obtain ⟨p, xs, rfl, hq, fx, fs, q⟩ := h
  cases ry
  rcases hq with hq | hq
  · obtain ⟨its, r, pl, hz⟩ := I.list hq
    refine SeqAt.notIn_listAt (eqU x) pl.isList (fun w hw => mem_eqAt rx fx r fs w (by simpa using hw)) ⟨.bl _, H, I, rfl, ?_⟩
    rw [show its.toArray.any (eqU x) = its.any (eqU x) by simp, any_eqU r fs]
    exact q
  · obtain ⟨its, r, pl, hz⟩ := I.tuple hq
    refine SeqAt.notIn_tupleAt (eqU x) pl (fun w hw => mem_eqAt rx fx r fs w (by simpa using hw)) ⟨.bl _, H, I, rfl, ?_⟩
    rw [show its.toArray.any (eqU x) = its.any (eqU x) by simp, any_eqU r fs]
    exact q
theorem op_notIn_str : OpR X (compareOp .NotIn) (fun x y H Q => ∃ i j, x = .str i ∧ y = .str j ∧ Q (.bl (!(!(Builtin.Str.occurrences j i 0 j.length 1).isEmpty))) H) := by
  intro pins s σ H x y v u Q I rx ry h
  obtain ⟨i, j, rfl, rfl, q⟩ := h
  obtain ⟨t, rfl⟩ := rx
  obtain ⟨t', rfl⟩ := ry
  exact notIn_str ⟨.bl _, H, I, rfl, q⟩

/-! ### len, list(x), tuple(x) of any list or tuple that is read -/
theorem call_len_seq : CallR X (.builtin "len") (fun xs H Q => ∃ p ys, xs = [.ref p] ∧ (SqL X.K H p ys ∨ SqT X.K H p ys) ∧ Q (.int ys.length) H) := by
  intro pins s σ H xs us Q I r h
  obtain ⟨p, ys, rfl, hq, q⟩ := h
  obtain ⟨u, rfl, rx⟩ := vals1 r
  cases rx
  have hn := line63
  rcases hq with hq | hq
  · obtain ⟨its, r', pl, hz⟩ := I.list hq
    have hlen := r'.length
    exact Calls.call_len_list pl.isList (by simp only [List.size_toArray] <;> omega) ⟨.int ys.length, H, I.tok _, ⟨s.toks + 1, by rw [List.size_toArray, hlen]⟩, q⟩
  · obtain ⟨its, r', pl, hz⟩ := I.tuple hq
    have hlen := r'.length
    exact len_tuple pl (by simp only [List.size_toArray] <;> omega) ⟨.int ys.length, H, I.tok _, ⟨s.toks + 1, by rw [List.size_toArray, hlen]⟩, q⟩
theorem call_len_str : CallR X (.builtin "len") (fun xs H Q => ∃ z, xs = [.str z] ∧ z.length ≤ sizeLine ∧ Q (.int z.length) H) := by
  intro pins s σ H xs us Q I r h
  obtain ⟨z, rfl, hz, q⟩ := h
  obtain ⟨u, rfl, t, rfl⟩ := vals1 r
  have hn := line63
  exact len_str (by omega) ⟨.int z.length, H, I.tok _, ⟨_, rfl⟩, q⟩
theorem CallR.or {f : Value} {r r' : List V → Hp → VK → Prop} (h : CallR X f r) (h' : CallR X f r') : CallR X f (fun xs H Q => r xs H Q ∨ r' xs H Q) := by
  intro pins s σ H xs us Q I rs q
  rcases q with q | q
  · exact h pins s σ H xs us Q I rs q
  · exact h' pins s σ H xs us Q I rs q
theorem call_list_of : CallR X (.type "list") (fun xs H Q => ∃ p ys, xs = [.ref p] ∧ (SqL X.K H p ys ∨ SqT X.K H p ys) ∧ ∀ l, H l = none → Q (.ref l) (upd H l (.lst ys))) := by
  intro pins s σ H xs us Q I r h
  obtain ⟨p, ys, rfl, hq, q⟩ := h
  obtain ⟨u, rfl, rx⟩ := vals1 r
  cases rx
  have fin : ∀ (its : List Value), Vals ys its → ys.length ≤ sizeLine → ∀ (h' : Heap) (c' : Nat), (∀ b o', s.heap.get? b = some o' → h'.get? b = some o') →
      h'.get? s.heap.objs.size = some { cls := .type "list", dict := none, data := .seq its.toArray c', slots := #[] } → EP X pins σ Q (.ref s.heap.objs.size) { s with heap := h' } := fun its r' hz h' c' kp e =>
    ⟨.ref s.heap.objs.size, _, I.laid (t' := s.toks) kp (Nat.le_refl _) (show ObjOk X.prog X.w _ h' _ (.lst ys) from ⟨hz, its, c', r', e⟩), rfl, q _ (I.hok.fresh (Nat.le_refl _))⟩
  rcases hq with hq | hq
  · obtain ⟨its, r', pl, hz⟩ := I.list hq
    have hlen := r'.length
    obtain ⟨o, ho, hc, n, hd⟩ := pl.isList
    exact call_list_seq p (.inl rfl) ho hc hd (fun h' c' kp e => fin its r' hz h' c' kp e) (by simp only [List.size_toArray] <;> omega)
  · obtain ⟨its, r', pl, hz⟩ := I.tuple hq
    have hlen := r'.length
    obtain ⟨o, ho, hc, n, hd⟩ := pl
    exact call_list_seq p (.inr rfl) ho hc hd (fun h' c' kp e => fin its r' hz h' c' kp e) (by simp only [List.size_toArray] <;> omega)
theorem call_tuple_of : CallR X (.type "tuple") (fun xs H Q => ∃ p ys, xs = [.ref p] ∧ ((SqL X.K H p ys ∧ ∀ l, H l = none → Q (.ref l) (upd H l (.tup ys))) ∨ (SqT X.K H p ys ∧ Q (.ref p) H))) := by
  intro pins s σ H xs us Q I r h
  obtain ⟨p, ys, rfl, h⟩ := h
  obtain ⟨u, rfl, rx⟩ := vals1 r
  cases rx
  rcases h with ⟨hq, q⟩ | ⟨hq, q⟩
  · obtain ⟨its, r', pl, hz⟩ := I.list hq
    have hlen := r'.length
    refine call_tuple_list pl.isList (fun h' kp => ?_) (by simp only [List.size_toArray] <;> omega)
    have I1 : Inv X pins σ H { s with heap := h' } := I.kept (t' := s.toks) kp
    have I2 : Inv X pins σ (upd H h'.objs.size (.tup ys)) { s with heap := h'.push { cls := .type "tuple", data := .seq its.toArray } } :=
      I1.laid (t' := s.toks) (fun b o e => Heap.get?_push_of_some _ e) (Nat.le_refl _) (show ObjOk X.prog X.w _ _ _ (.tup ys) from ⟨hz, its, r', IsTup.new _ _⟩)
    exact ⟨.ref h'.objs.size, _, I2, rfl, q _ (I1.hok.fresh (Nat.le_refl _))⟩
  · obtain ⟨its, r', pl, hz⟩ := I.tuple hq
    exact call_tuple_same pl ⟨.ref p, H, I, rfl, q⟩

/-! ### the call of a builtin's method: o.m(..) -/
/-- the value is of that builtin type -/
def tyV (K : PySem.W.Frag) (T : String) (x : V) (H : Hp) : Prop := match x with
  | .str _ => T = "str"
  | .int _ => T = "int"
  | .ref p => (T = "list" ∧ ∃ xs, SqL K H p xs) ∨ (T = "tuple" ∧ ∃ o, K.lookup p = some o ∧ o.cls = .type "tuple" ∧ o.dict = none) ∨
      (T = "dict" ∧ ((∃ kvs, H p = some (.dK kvs)) ∨ ∃ kvs, H p = some (.dT kvs))) ∨ (T = "set" ∧ ∃ S n, H p = some (.set S n))
  | _ => False
theorem tyV_is {pins : List (Addr × Obj)} {σ : St} {H : Hp} {s : Shared} {T : String} {x : V} {v : Value} (I : Inv X pins σ H s) (r : RelV x v) (ty : tyV X.K T x H) :
    s.TypeIs v T ∧ ∀ a, v = .ref a → ∃ ob, s.heap.get? a = some ob ∧ ob.dict = none := by
  cases x with
  | str z =>
    obtain ⟨t, rfl⟩ := r
    cases (show T = "str" from ty)
    exact ⟨typeIs_str s z t, fun _ e => nomatch e⟩
  | int i =>
    obtain ⟨t, rfl⟩ := r
    cases (show T = "int" from ty)
    exact ⟨typeIs_int s i t, fun _ e => nomatch e⟩
  | ref p =>
    cases r
    rcases ty with ⟨rfl, xs, hq⟩ | ⟨rfl, o, hk, hc, hd⟩ | ⟨rfl, hk⟩ | ⟨rfl, S, n, hk⟩
    · obtain ⟨its, _, pl, _⟩ := I.list hq
      refine ⟨pl.isList.typeIs, fun a e => ?_⟩
      cases e
      obtain ⟨o, n, e, c, hd, _⟩ := pl
      exact ⟨o, e, hd⟩
    · refine ⟨⟨o, I.kIn p o hk, hc⟩, fun a e => ?_⟩
      cases e
      exact ⟨o, I.kIn _ o hk, hd⟩
    · have z : ∃ o, s.heap.get? p = some o ∧ o.ExactDict := by
        rcases hk with ⟨kvs, hk⟩ | ⟨kvs, hk⟩
        · obtain ⟨_, _, _, _, o, _, _, e, ex, _⟩ := I.hok p _ hk
          exact ⟨o, e, ex⟩
        · obtain ⟨_, _, _, _, o, _, _, e, ex, _⟩ := I.hok p _ hk
          exact ⟨o, e, ex⟩
      obtain ⟨o, e, ex⟩ := z
      refine ⟨⟨o, e, ex.1⟩, fun a e2 => ?_⟩
      cases e2
      exact ⟨o, e, ex.2.1⟩
    · obtain ⟨o, _, _, _, e, ex, _⟩ := I.hok p _ hk
      refine ⟨⟨o, e, ex.1⟩, fun a e2 => ?_⟩
      cases e2
      exact ⟨o, e, ex.2.1⟩
  | _ => exact False.elim ty
def tBM0 (K : PySem.W.Frag) (T : String) (r : V → List V → Hp → VK → Prop) (to : TE) : TE := fun σ H Q => to σ H fun x H1 => tyV K T x H1 ∧ r x [] H1 Q
def tBM (K : PySem.W.Frag) (T : String) (r : V → List V → Hp → VK → Prop) (to : TE) (t : TA) : TE := fun σ H Q => to σ H fun x H1 => tyV K T x H1 ∧ t σ H1 fun xs H2 => r x xs H2 Q
variable {o e : Expr} {es : List Expr} {to : TE} {t : TA} {name : Str} {apos cpos : Pos} {T id : String} {r : V → List V → Hp → VK → Prop}
theorem pe_bm0 (pa : PlainAttrs T) (slot : Slot T name id) (hty : typeOf (.builtin id) = pure (.type "method_descriptor")) (hm : MtR X id r) (ho : PE X o to)
    (hbase : attributeBase o name X.env (eval o X.env) = eval o X.env := by rfl) (hline : (apos.endLine == cpos.line) = true := by rfl) : PE X (.Call (.Attribute o name apos) [] [] cpos) (tBM0 X.K T r to) := by
  intro pins s σ H Q I h
  refine wpAny_Call_method0_late hbase hline (thn (ho pins s σ H _ I h) fun v s1 ⟨x, H1, I1, r1, ty, q1⟩ => ?_)
  obtain ⟨h1, h2⟩ := tyV_is I1 r1 ty
  exact ⟨T, id, pa, slot, hty, h1, h2, Calls.callWith_builtin rfl (PySem.evalArgs_none (hm pins s1 σ H1 x [] v [] Q I1 r1 .nil q1))⟩
theorem pe_bm (pa : PlainAttrs T) (slot : Slot T name id) (hty : typeOf (.builtin id) = pure (.type "method_descriptor")) (hm : MtR X id r) (ho : PE X o to) (ha : PA X (e :: es) t)
    (hbase : attributeBase o name X.env (eval o X.env) = eval o X.env := by rfl)
    (hfew : ((backTo cpos (starEach (e :: es) X.env)).all (fun x => !x.1) && (backToKw cpos (keywordEach [] X.env)).all (fun x => x.1.isSome)
      && decide ((e :: es).length + ([] : List Keyword).length + (if ([] : List Keyword).isEmpty then 0 else 1) < 30)) = true := by rfl)
    (hline : (apos.endLine == cpos.line) = true := by rfl) (hs : starEach (e :: es) X.env = (false, eval e X.env) :: starEach es X.env := by rfl) (hplain : (backTo cpos (starEach es X.env)).any (·.1) = false := by rfl) :
    PE X (.Call (.Attribute o name apos) (e :: es) [] cpos) (tBM X.K T r to t) := by
  intro pins s σ H Q I h
  refine wpAny_Call_method_late hbase hfew hline rfl (thn (ho pins s σ H _ I h) fun v s1 ⟨x, H1, I1, r1, ty, q1⟩ => ?_)
  obtain ⟨h1, h2⟩ := tyV_is I1 r1 ty
  refine ⟨T, id, pa, slot, hty, h1, h2, ?_⟩
  have hA := ha cpos pins s1 σ H1 _ I1 q1
  rw [hs] at hA ⊢
  refine Calls.callWith_builtin (by show (false || (backTo cpos (starEach es X.env)).any (·.1)) = false; rw [hplain] <;> rfl) (Calls.evalArgs_plain ?_)
  exact thn hA fun us s2 ⟨vs, H2, I2, r2, q2⟩ => hm pins s2 σ H2 x vs v us Q I2 r1 r2 q2
/- xs.append(e), list.index on a module's tuple .. are MtR facts of 06m -/
end
end L2

namespace L2
open PySem PySem.Spec PyProof.Rows

def MtM (X : Cx) (id : String) (r : V → List V → Hp → VK → Prop) : Prop :=
  ∀ (pins : List (Addr × Obj)) (s : Shared) (σ : St) (H : Hp) (x : V) (xs : List V) (v : Value) (us : List Value) (Q : VK), Inv X pins σ H s → RelV x v → Vals xs us → r x xs H Q →
    wpAny (model X.prog X.w) X.A (call (.builtin id) (v :: us)) (EP X pins σ Q) X.xe s

/-! ### lists of values -/
theorem Vals.one : ∀ {x : V} {us : List Value}, Vals [x] us → ∃ u, us = [u] ∧ RelV x u
  | _, _, .cons r .nil => ⟨_, rfl, r⟩
theorem Vals.two : ∀ {x y : V} {us : List Value}, Vals [x, y] us → ∃ u v, us = [u, v] ∧ RelV x u ∧ RelV y v
  | _, _, _, .cons r (.cons q .nil) => ⟨_, _, rfl, r, q⟩
theorem Vals.zero : ∀ {us : List Value}, Vals [] us → us = []
  | _, .nil => rfl
theorem Vals.dropLast {xs : List V} {us : List Value} (h : Vals xs us) : Vals xs.dropLast us.dropLast := by
  induction h with
  | nil => exact .nil
  | cons r t ih =>
    cases t with
    | nil => exact .nil
    | cons q t' => exact .cons r ih
theorem Vals.eraseIdx : ∀ {xs : List V} {us : List Value} (i : Nat), Vals xs us → Vals (xs.eraseIdx i) (us.eraseIdx i)
  | _, _, _, .nil => .nil
  | _, _, 0, .cons _ t => t
  | _, _, i + 1, .cons r t => .cons r (Vals.eraseIdx i t)
theorem Vals.reverse {xs : List V} {us : List Value} (h : Vals xs us) : Vals xs.reverse us.reverse := by
  induction h with
  | nil => exact .nil
  | cons r t ih => rw [List.reverse_cons, List.reverse_cons]; exact Vals.append ih (.cons r .nil)
theorem Vals.rep {xs : List V} {us : List Value} (h : Vals xs us) : ∀ k : Nat, Vals (List.replicate k xs).flatten (List.replicate k us).flatten
  | 0 => .nil
  | k + 1 => by
    rw [List.replicate_succ, List.replicate_succ, List.flatten_cons, List.flatten_cons]
    exact Vals.append h (Vals.rep h k)
theorem erase_last {α : Type} (l : List α) : l.eraseIdx (l.length - 1) = l.dropLast := by
  induction l with
  | nil => rfl
  | cons a r ih =>
    cases r with
    | nil => rfl
    | cons b r =>
      have e : (a :: b :: r).length - 1 = ((b :: r).length - 1) + 1 := by
        have h1 : (a :: b :: r).length = r.length + 2 := rfl
        have h2 : (b :: r).length = r.length + 1 := rfl
        omega
      rw [e, List.eraseIdx_cons_succ, ih]
      all_goals rfl
theorem len_erase {α : Type} : ∀ (l : List α) (i : Nat), (l.eraseIdx i).length ≤ l.length
  | [], _ => Nat.le_refl _
  | _ :: _, 0 => Nat.le_succ _
  | _ :: r, i + 1 => Nat.succ_le_succ (len_erase r i)
theorem foldl_rep (its : List Value) : ∀ (k : Nat) (acc : List Value),
    List.foldl (fun x1 x2 => x1 ++ x2) acc.toArray (List.replicate k its.toArray) = (acc ++ (List.replicate k its).flatten).toArray
  | 0, acc => by simp
  | k + 1, acc => by
    have e : acc.toArray ++ its.toArray = (acc ++ its).toArray := by simp
    have e2 : (acc ++ its) ++ (List.replicate k its).flatten = acc ++ (List.replicate (k + 1) its).flatten := by
      rw [List.replicate_succ, List.flatten_cons, List.append_assoc]
    rw [← e2, ← foldl_rep its k (acc ++ its), ← e, List.replicate_succ, List.foldl_cons]

section
variable {X : Cx} {pins : List (Addr × Obj)} {σ : St} {H : Hp} {s : Shared} {l b : Addr} {xs ys zs : List V}

/-! ### the two steps: a tracked list is rewritten, a new list is laid -/
theorem Inv.lset {its its' : List Value} {n : Nat} {f : Array Value → Array Value} {t' : Nat} (I : Inv X pins σ H s) (hH : H l = some (.lst xs))
    (e : s.heap.get? l = some { cls := .type "list", data := .seq its.toArray n }) (hf : f its.toArray = its'.toArray) (hv : Vals ys its') (hz : ys.length ≤ sizeLine) :
    Inv X pins σ (upd H l (.lst ys)) { s with heap := s.heap.update l (Obj.mapSeq f), toks := t' } := by
  have q := PySem.IsL.update e f
  rw [hf] at q
  refine I.write (x := l) (e := l) (by rw [hH]; exact trivial) (.inl rfl) (fun b' u hb hu => (Heap.get?_update_other s.heap (Obj.mapSeq f) (Ne.symm hb)).trans hu) ⟨_, q⟩ ?_
  exact ⟨hz, its', _, hv, q⟩
theorem Inv.lnew {its : List Value} {t' : Nat} (I : Inv X pins σ H s) (hv : Vals ys its) (hz : ys.length ≤ sizeLine) :
    Inv X pins σ (upd H s.heap.objs.size (.lst ys)) { s with heap := s.heap.push { cls := .type "list", data := .seq its.toArray }, toks := t' } :=
  I.laid (fun _ _ q => Heap.get?_push_of_some _ q) (Nat.le_refl _) ⟨hz, its, 0, hv, Heap.get?_push_size _ rfl⟩
theorem Inv.fresh (I : Inv X pins σ H s) : H s.heap.objs.size = none := I.hok.fresh (Nat.le_refl _)
theorem Inv.lstM (I : Inv X pins σ H s) (hH : H l = some (.lst xs)) : xs.length ≤ sizeLine ∧ ∃ (its : List Value) (n : Nat), Vals xs its ∧ xs.length = its.length ∧ s.heap.get? l = some { cls := .type "list", data := .seq its.toArray n } := by
  obtain ⟨z, its, n, r, e⟩ := I.hok l _ hH
  exact ⟨z, its, n, r, r.length, e⟩

theorem notLongL {n : Nat} (h : n ≤ sizeLine) : Builtin.List.listTooLong n = false := by
  unfold Builtin.List.listTooLong
  exact decide_eq_false (by omega)
end

section
variable {X : Cx}

/-! ### methods -/
def rAppend : V → List V → Hp → VK → Prop := fun x vs H Q => ∃ l xs y, x = .ref l ∧ vs = [y] ∧ H l = some (.lst xs) ∧ xs.length < sizeLine ∧ Q .non (upd H l (.lst (xs ++ [y])))
theorem mt_append : MtM X "list.append" rAppend := by
  intro pins s σ H x vs v us Q I rx rv h
  obtain ⟨l, xs, y, rfl, rfl, hH, hz, q⟩ := h
  cases rx
  obtain ⟨u, rfl, ru⟩ := rv.one
  obtain ⟨z, its, n, r, hl, e⟩ := I.lstM hH
  refine call_meets F.slot_list_append ⟨_, e, rfl⟩ F.entry_list_append (F.args_list_append_2 _ _) (PySem.list_append l its.toArray n u (by rw [List.size_toArray]; omega)) ⟨e, ?_⟩
  refine ⟨.non, _, I.lset (its' := its ++ [u]) hH e (by simp) (r.append (.cons ru .nil)) ?_, rfl, q⟩
  rw [List.length_append, List.length_singleton]
  omega

def rExtend : V → List V → Hp → VK → Prop := fun x vs H Q => ∃ l b xs zs, x = .ref l ∧ vs = [.ref b] ∧ H l = some (.lst xs) ∧ H b = some (.lst zs) ∧ xs.length + zs.length ≤ sizeLine ∧ Q .non (upd H l (.lst (xs ++ zs)))
theorem mt_extend : MtM X "list.extend" rExtend := by
  intro pins s σ H x vs v us Q I rx rv h
  obtain ⟨l, b, xs, zs, rfl, rfl, hH, hB, hz, q⟩ := h
  cases rx
  obtain ⟨u, rfl, ru⟩ := rv.one
  cases ru
  obtain ⟨z, its, n, r, hl, e⟩ := I.lstM hH
  obtain ⟨z2, its2, n2, r2, hl2, e2⟩ := I.lstM hB
  have hsz : its.toArray.size + its2.toArray.size ≤ sizeLine := by rw [List.size_toArray, List.size_toArray]; omega
  have hlong : ¬ (!its.toArray.isEmpty && Builtin.List.listTooLong (its.toArray.size + its2.toArray.size)) = true := by
    rw [notLongL hsz, Bool.and_false]
    exact Bool.false_ne_true
  refine call_meets F.slot_list_extend ⟨_, e, rfl⟩ F.entry_list_extend (F.args_list_extend_2 _ _)
    (AutoSeq1.list_extend_list_list_0 l its.toArray n b its2.toArray n2 hlong (by rw [List.size_toArray]; omega) (by omega)) ⟨e, e2, ?_⟩
  refine ⟨.non, _, I.lset (its' := its ++ its2) hH e (by simp) (r.append r2) ?_, rfl, q⟩
  rw [List.length_append]
  omega

def rPop : V → List V → Hp → VK → Prop := fun x vs H Q => ∃ l xs y, x = .ref l ∧ vs = [] ∧ H l = some (.lst xs) ∧ xs[xs.length - 1]? = some y ∧ Q y (upd H l (.lst xs.dropLast))
theorem mt_pop : MtM X "list.pop" rPop := by
  intro pins s σ H x vs v us Q I rx rv h
  obtain ⟨l, xs, y, rfl, rfl, hH, hy, q⟩ := h
  cases rx
  have hus := rv.zero
  subst hus
  obtain ⟨z, its, n, r, hl, e⟩ := I.lstM hH
  obtain ⟨u, hu, ru⟩ := r.get hy
  have hy' : its.toArray[its.toArray.size - 1]? = some u := by
    show its.toArray[its.length - 1]? = some u
    rw [← Array.getElem?_toList, ← hl]
    exact hu
  refine call_meets F.slot_list_pop ⟨_, e, rfl⟩ F.entry_list_pop (F.args_list_pop_1 _) (MeetsSeq.list_pop_last l its.toArray n u hy' (by rw [List.size_toArray]; omega)) ⟨e, ?_⟩
  refine ⟨y, _, I.lset (its' := its.dropLast) hH e ?_ r.dropLast ?_, ru, q⟩
  · show its.toArray.eraseIdxIfInBounds (its.toArray.size - 1) = its.dropLast.toArray
    rw [List.size_toArray, List.eraseIdxIfInBounds_toArray, erase_last]
  · rw [List.length_dropLast]
    omega

def rPopAt : V → List V → Hp → VK → Prop := fun x vs H Q => ∃ l xs i k y, x = .ref l ∧ vs = [.int i] ∧ H l = some (.lst xs) ∧ -(2 ^ 63) ≤ i ∧ i < 2 ^ 63 ∧ seqIndex? i xs.length = some k ∧ xs[k]? = some y ∧ Q y (upd H l (.lst (xs.eraseIdx k)))
theorem mt_popAt : MtM X "list.pop" rPopAt := by
  intro pins s σ H x vs v us Q I rx rv h
  obtain ⟨l, xs, i, k, y, rfl, rfl, hH, h1, h2, hk, hy, q⟩ := h
  cases rx
  obtain ⟨u, rfl, ru⟩ := rv.one
  obtain ⟨t, rfl⟩ := ru
  obtain ⟨z, its, n, r, hl, e⟩ := I.lstM hH
  obtain ⟨w, hw, rw'⟩ := r.get hy
  refine call_meets F.slot_list_pop ⟨_, e, rfl⟩ F.entry_list_pop (F.args_list_pop_2 _ _)
    (MeetsSeq.list_pop_at l its.toArray n i t k w (fitsIndex_both h1 h2) (by rw [List.size_toArray, ← hl]; exact hk) (by rw [← Array.getElem?_toList]; exact hw) (by rw [List.size_toArray]; omega)) ⟨e, ?_⟩
  refine ⟨y, _, I.lset (its' := its.eraseIdx k) hH e ?_ (r.eraseIdx k) ?_, rw', q⟩
  · show its.toArray.eraseIdxIfInBounds k = (its.eraseIdx k).toArray
    rw [List.eraseIdxIfInBounds_toArray]
  · have := len_erase xs k
    omega

def rReverse : V → List V → Hp → VK → Prop := fun x vs H Q => ∃ l xs, x = .ref l ∧ vs = [] ∧ H l = some (.lst xs) ∧ Q .non (upd H l (.lst xs.reverse))
theorem mt_reverse : MtM X "list.reverse" rReverse := by
  intro pins s σ H x vs v us Q I rx rv h
  obtain ⟨l, xs, rfl, rfl, hH, q⟩ := h
  cases rx
  have hus := rv.zero
  subst hus
  obtain ⟨z, its, n, r, hl, e⟩ := I.lstM hH
  refine call_meets F.slot_list_reverse ⟨_, e, rfl⟩ F.entry_list_reverse (F.args_list_reverse_1 _) (AutoSeq1.list_reverse_list_0 l its.toArray n (by rw [List.size_toArray]; omega)) ⟨e, ?_⟩
  refine ⟨.non, _, I.lset (its' := its.reverse) hH e (by simp) r.reverse ?_, rfl, q⟩
  rw [List.length_reverse]
  omega

def rClear : V → List V → Hp → VK → Prop := fun x vs H Q => ∃ l xs, x = .ref l ∧ vs = [] ∧ H l = some (.lst xs) ∧ Q .non (upd H l (.lst []))
theorem mt_clear : MtM X "list.clear" rClear := by
  intro pins s σ H x vs v us Q I rx rv h
  obtain ⟨l, xs, rfl, rfl, hH, q⟩ := h
  cases rx
  have hus := rv.zero
  subst hus
  obtain ⟨z, its, n, r, hl, e⟩ := I.lstM hH
  refine call_meets F.slot_list_clear ⟨_, e, rfl⟩ F.entry_list_clear (F.args_list_clear_1 _) (AutoSeq1.list_clear_list_0 l its.toArray n (by rw [List.size_toArray]; omega)) ⟨e, ?_⟩
  exact ⟨.non, _, I.lset (its' := []) (ys := []) hH e rfl .nil (Nat.zero_le _), rfl, q⟩

/-! ### list + list, list += list, list * int -/
def rCat : R2 := fun x y H Q => ∃ l b xs zs, x = .ref l ∧ y = .ref b ∧ H l = some (.lst xs) ∧ H b = some (.lst zs) ∧ xs.length + zs.length ≤ sizeLine ∧ ∀ p, H p = none → Q (.ref p) (upd H p (.lst (xs ++ zs)))
theorem op_cat : OpR X (binaryOp .Add) rCat := by
  intro pins s σ H x y v u Q I rx ry h
  obtain ⟨l, b, xs, zs, rfl, rfl, hH, hB, hz, q⟩ := h
  cases rx
  cases ry
  obtain ⟨z, its, n, r, hl, e⟩ := I.lstM hH
  obtain ⟨z2, its2, n2, r2, hl2, e2⟩ := I.lstM hB
  refine PySem.P.add_list e e2 ?_ (by rw [List.size_toArray, List.size_toArray]; omega)
  have ea : its.toArray ++ its2.toArray = (its ++ its2).toArray := by simp
  rw [ea]
  exact ⟨.ref _, _, I.lnew (t' := s.toks) (r.append r2) (by rw [List.length_append]; omega), rfl, q _ I.fresh⟩
/-- a list times an int (a negative one is nothing) -/
def rRep : R2 := fun x y H Q => ∃ l k xs, x = .ref l ∧ y = .int k ∧ H l = some (.lst xs) ∧ -(2 ^ 63) ≤ k ∧ k < 2 ^ 63 ∧ xs.length * k.toNat ≤ sizeLine ∧
  ∀ p, H p = none → Q (.ref p) (upd H p (.lst (List.replicate k.toNat xs).flatten))
theorem len_rep {α : Type} (xs : List α) (k : Nat) : (List.replicate k xs).flatten.length = k * xs.length := by
  induction k with
  | zero => simp
  | succ k ih => rw [List.replicate_succ, List.flatten_cons, List.length_append, ih, Nat.succ_mul, Nat.add_comm]
theorem op_rep : OpR X (binaryOp .Mult) rRep := by
  intro pins s σ H x y v u Q I rx ry h
  obtain ⟨l, k, xs, rfl, rfl, hH, h1, h2, hz, q⟩ := h
  cases rx
  obtain ⟨t, rfl⟩ := ry
  obtain ⟨z, its, n, r, hl, e⟩ := I.lstM hH
  have hlen : its.toArray.size * k.toNat ≤ sizeLine := by rw [List.size_toArray, ← hl]; exact hz
  have hcap : ¬ its.toArray.size * k.toNat > (2 ^ 63 - 1) / 8 := by
    have : (sizeLine : Nat) ≤ (2 ^ 63 - 1) / 8 := by decide
    omega
  have hfit : ¬ (!Builtin.List.listFitsIndex k) = true := by
    rw [fitsIndex_both h1 h2]
    exact Bool.false_ne_true
  have hlong : ¬ Builtin.List.listTooLong (its.toArray.size * k.toNat) = true := by
    rw [notLongL hlen]
    exact Bool.false_ne_true
  have hnew : List.foldl (fun x1 x2 => x1 ++ x2) #[] (List.replicate (if its.toArray.isEmpty = true then 0 else k.toNat) its.toArray) = (List.replicate k.toNat its).flatten.toArray := by
    have f0 : ∀ m : Nat, List.foldl (fun x1 x2 => x1 ++ x2) #[] (List.replicate m its.toArray) = (List.replicate m its).flatten.toArray := fun m => by
      have := foldl_rep its m []
      rw [List.nil_append] at this
      exact this
    rw [f0]
    cases its with
    | nil => simp
    | cons a r' => rw [if_neg (by simp)]
  refine wpAny_binaryOp_repeat_ref (T := "list") (U := "int") (by decide) ⟨_, e, rfl⟩ (fun s' => typeIs_int s' k t) noFill_list_mul F.fills_int_mul F.slot_int_rmul repeat_list F.slot_int_index.lookup
    (call_meets F.slot_int_rmul (typeIs_int s k t) F.entry_int_rmul (F.args_int_rmul_2 _ _) (int___rmul___int_list k t l its.toArray n)
      ⟨e, rfl, ⟨_, e, rfl⟩, call_meets F.slot_list_mul ⟨_, e, rfl⟩ F.entry_list_mul (F.args_list_mul_2 _ _) (AutoListH.list___mul___list_int_3 l its.toArray n k t hfit hcap hlong) ⟨e, ?_⟩⟩)
  rw [hnew]
  exact ⟨.ref _, _, I.lnew (t' := s.toks) (r.rep k.toNat) (by rw [len_rep, Nat.mul_comm]; exact hz), rfl, q _ I.fresh⟩

/-! ### del xs[i] -/
theorem del_list {pins : List (Addr × Obj)} {s : Shared} {σ : St} {H : Hp} {l : Addr} {xs : List V} {i : Int} {t : Tok} {k : Nat} {Q : Unit → Shared → Prop} (I : Inv X pins σ H s) (hH : H l = some (.lst xs))
    (h1 : -(2 ^ 63) ≤ i) (h2 : i < 2 ^ 63) (hk : seqIndex? i xs.length = some k) (h : ∀ s', Inv X pins σ (upd H l (.lst (xs.eraseIdx k))) s' → Q () s') :
    wpAny (model X.prog X.w) X.A (delItem (.ref l) (.int i t)) Q X.xe s := by
  obtain ⟨z, its, n, r, hl, e⟩ := I.lstM hH
  refine PySem.P.delItem_list (k := k) e (fitsIndex_both h1 h2) (by rw [List.size_toArray, ← hl]; exact hk) (h _ ?_) (by rw [List.size_toArray]; omega)
  refine I.lset (its' := its.eraseIdx k) (t' := s.toks) hH e ?_ (r.eraseIdx k) ?_
  · show its.toArray.eraseIdxIfInBounds k = (its.eraseIdx k).toArray
    rw [List.eraseIdxIfInBounds_toArray]
  · have := len_erase xs k
    omega
end

/-! ### xs[a:b] = ys -/
section
variable {prog : Program} {w : World} {A : Around} {E : Value → Shared → Prop} {s : Shared}
theorem splice_eq (its its2 : List Value) (a c : Nat) : its.toArray.extract 0 a ++ its2.toArray ++ its.toArray.extract c its.toArray.size = (its.take a ++ its2 ++ its.drop c).toArray := by
  apply Array.toList_inj.mp
  first
    | (simp
       exact List.take_of_length_le (by simp))
    | simp [List.take_of_length_le]
    | simp
theorem bounds_run {a c n : Nat} (hac : a ≤ c) (hc : c ≤ n) : sliceBounds (some (a : Int)) (some (c : Int)) none n = ((a : Int), (c : Int), 1) := by
  simp only [sliceBounds, Option.getD_none]
  have h1 : ¬ ((a : Int) < 0) := by omega
  have h2 : ¬ ((c : Int) < 0) := by omega
  simp only [h1, h2, if_false, show (1 : Int) > 0 by decide, if_true]
  congr 1
  · omega
  · congr 1; omega
set_option maxRecDepth 100000 in
/-- list.__setitem__ with a slice of step one and another list -/
theorem setItem_slice {l b sl : Addr} {items new : Array Value} {n n2 : Nat} {vl vu : Value} {a c : Nat} {Q : Unit → Shared → Prop}
    (e : s.heap.get? l = some { cls := .type "list", data := .seq items n }) (e2 : s.heap.get? b = some { cls := .type "list", data := .seq new n2 }) (hne : l ≠ b)
    (hs : s.heap.IsSliceOf sl vl vu .none) (pl : IsPart vl (some (a : Int))) (pu : IsPart vu (some (c : Int))) (hac : a ≤ c) (hc : c ≤ items.size)
    (hsz : items.size + new.size ≤ sizeLine) (h : Q () { s with heap := s.heap.update l (Obj.mapSeq fun xs => xs.extract 0 a ++ new ++ xs.extract c xs.size) }) :
    wpAny (model prog w) A (setItem (.ref l) (.ref sl) (.ref b)) Q E s := by
  have hl : s.heap.IsList l items := PySem.IsL.isList e
  have hb : s.heap.IsList b new := PySem.IsL.isList e2
  obtain ⟨os, hos, hcs, hds⟩ := id hs
  have hTs : s.TypeIs (.ref sl) "slice" := ⟨os, hos, hcs⟩
  have hstep : ¬ ((rawPart none == rawInt 0) = true) := Bool.false_ne_true
  have hsame : Builtin.List.listSameRef (.ref l) (.ref b) = false := by
    unfold Builtin.List.listSameRef
    exact beq_eq_false_iff_ne.mpr hne
  have hmax : (max (a : Int) (c : Int)).toNat = c := by omega
  have hz' : ((fun xs : Array Value => xs.extract 0 a ++ new ++ xs.extract c xs.size) items).size ≤ sizeLine + 1 := by
    simp only [Array.size_append, Array.size_extract]
    omega
  unfold setItem
  try with_reducible refine wpAny_holding ?_
  first | refine wpAny_bind (wpAny_pure ?_) | skip
  refine wpAny_bind (wpAny_sequenceKey hl.typeIs (by decide) ?_)
  refine wpAny_bind (wpAny_callSpecial?_slot (name := Str.ofString "__setitem__") hl.typeIs slot_list_setitem
    (wpAny_call_entry slot_list_setitem hl.typeIs entry_list_setitem ?_ (args_list_setitem _ _ _)))
  show wpAny _ _ (Builtin.List.listSubscript? (.ref sl) >>= _) _ _ s
  refine wpAny_bind ?_
  unfold Builtin.List.listSubscript?
  refine wpAny_bind (wpAny_specialOf hTs slice_no_index ?_)
  simp only [Option.isNone_none, if_true]
  refine wpAny_pure ?_
  show wpAny _ _ (typeOf (.ref sl) >>= _) _ _ s
  refine wpAny_bind (wpAny_typeOf hTs ?_)
  first
    | rw [if_neg (by decide)]
    | refine PySem.W.KFB.if_not (by decide) ?_
  rw [listSliceParts_eq]
  refine wpAny_bind (wpAny_bind (wpAny_field hos hds (x := .none) rfl (wpAny_bind (wpAny_listPart .none ?_))))
  rw [if_neg hstep]
  refine wpAny_bind (wpAny_field hos hds (x := vl) rfl (wpAny_bind (wpAny_listPart pl ?_)))
  refine wpAny_bind (wpAny_field hos hds (x := vu) rfl (wpAny_bind (wpAny_listPart pu (wpAny_pure ?_))))
  first
    | simp only [hsame, Bool.false_eq_true, if_false]
    | refine PySem.W.KFB.if_not hsame ?_
    | (dsimp only
       rw [if_neg (by rw [hsame]; exact Bool.false_ne_true)])
  refine wpAny_bind (m := Builtin.List.listAllItems (.ref b) "must assign iterable to extended slice") ?_
  unfold Builtin.List.listAllItems
  refine wpAny_bind (wpAny_typeOf hb.typeIs ?_)
  first
    | refine PySem.W.KFB.if_so (by decide) ?_
    | rw [if_pos (by decide)]
    | simp only [beq_self_eq_true, Bool.true_or, if_true]
  unfold Builtin.List.listItems
  refine wpAny_bind (wpAny_seqItems e2 rfl (wpAny_pure ?_))
  refine wpAny_bind (wpAny_bind (wpAny_seqItems e rfl (wpAny_pure ?_)))
  refine wpAny_bind (wpAny_of_eq ((sliceIndices_raw (some (a : Int)) (some (c : Int)) none items.size (by simp)).trans (congrArg (pure : Int × Int × Int → Sem (Int × Int × Int)) (bounds_run hac hc))) ?_)
  show wpAny _ _ (if ((1 : Int) == 1) = true then _ else _) _ _ s
  rw [if_pos (by decide)]
  refine wpAny_bind (wpAny_rule ?_)
  first
    | simp only [notLongL hsz, Bool.false_eq_true, if_false]
    | refine PySem.W.KFB.if_not (notLongL hsz) ?_
  first | refine wpAny_bind (wpAny_pure ?_) | skip
  show wpAny _ _ (updateSeq l (fun xs => xs.extract 0 ((a : Int)).toNat ++ new ++ xs.extract (max (a : Int) (c : Int)).toNat xs.size) >>= _) _ _ s
  rw [hmax, Int.toNat_natCast]
  refine wpAny_bind (wpAny_updateSeq (hz := Nat.le_trans (Nat.le_add_right _ _) hsz) (_hz' := hz') e rfl ?_)
  refine wpAny_bind (wpAny_letGo ?_)
  first
    | exact wpAny_bind (wpAny_pure (wpAny_pure ⟨.none, rfl, wpAny_pure h⟩))
    | exact wpAny_pure ⟨.none, rfl, wpAny_pure h⟩
end

section
variable {X : Cx}
/-- xs[a:c] = ys of another list, at the value level: sl is the slice object that was just made -/
theorem set_slice {pins : List (Addr × Obj)} {s : Shared} {σ : St} {H : Hp} {l b sl : Addr} {xs ys : List V} {a c : Int} {vl vu : Value} {Q : Unit → Shared → Prop} (I : Inv X pins σ H s)
    (hH : H l = some (.lst xs)) (hB : H b = some (.lst ys)) (hne : l ≠ b) (hs : s.heap.IsSliceOf sl vl vu .none) (ra : RelV (.int a) vl) (rc : RelV (.int c) vu) (h0 : 0 ≤ a) (hac : a ≤ c) (hc : c ≤ xs.length)
    (hz : xs.length + ys.length ≤ sizeLine) (h : ∀ s', Inv X pins σ (upd H l (.lst (xs.take a.toNat ++ ys ++ xs.drop c.toNat))) s' → Q () s') :
    wpAny (model X.prog X.w) X.A (setItem (.ref l) (.ref sl) (.ref b)) Q X.xe s := by
  obtain ⟨ta, rfl⟩ := ra
  obtain ⟨tc, rfl⟩ := rc
  obtain ⟨z, its, n, r, hl, e⟩ := I.lstM hH
  obtain ⟨z2, its2, n2, r2, hl2, e2⟩ := I.lstM hB
  obtain ⟨a', rfl⟩ := Int.eq_ofNat_of_zero_le h0
  obtain ⟨c', rfl⟩ := Int.eq_ofNat_of_zero_le (Int.le_trans h0 hac)
  simp only [Int.toNat_natCast] at h
  refine setItem_slice (a := a') (c := c') e e2 hne hs (.int _ _) (.int _ _) (by omega) (by rw [List.size_toArray]; omega) (by rw [List.size_toArray, List.size_toArray]; omega) (h _ ?_)
  refine I.lset (its' := its.take a' ++ its2 ++ its.drop c') (t' := s.toks) hH e ?_ (Vals.append (Vals.append (r.take _) r2) (r.drop _)) ?_
  · exact splice_eq its its2 a' c'
  · rw [List.length_append, List.length_append, List.length_take, List.length_drop]
    omega
end
end L2

namespace Att
open PySem PySem.W PySem.Calls PyProof.Rows

/-! ### the script -/
theorem ints_of_wellAll {P : Params} {h : Heap} : ∀ (ns : List Int) (vs : List Value), WellAll P h vs (ns.map WData.int) → IntsAre vs ns := by
  intro ns
  induction ns with
  | nil =>
    intro vs w
    rw [List.map_nil] at w
    cases w
    exact .nil
  | cons n ns ih =>
    intro vs w
    rw [List.map_cons] at w
    cases w with
    | cons a b =>
      cases a
      exact .cons _ _ (ih _ b)

theorem script_of {l : OpenLaw} {n : Nat} (hn : l.most = some n) {P : Params} {h : Heap} {args : List WData} {vals : List Value}
    (hpre : l.row.toRowW.claim.pre args = true) (hwl : WellAll P h vals args) :
    ∃ a vs ns, vals = [Value.ref a] ∧ args = [WData.list (ns.map WData.int)] ∧ h.get? a = some { cls := .type "list", data := .seq vs.toArray } ∧ IntsAre vs ns ∧ ns.length ≤ n := by
  have hsh : WShape.hasAll [] args [.list .int] = true := (pre_splitW hpre).1
  have hc : l.pre.holds [] { args := args } = true := (pre_splitW hpre).2
  obtain ⟨d, r, rfl, h1, h2⟩ := hasAllW_cons hsh
  obtain rfl := hasAllW_nil h2
  obtain ⟨xs, rfl, h3⟩ := hasW_list h1
  obtain ⟨ns, rfl⟩ := items_int h3
  have hlen : ns.length ≤ n := by
    unfold OpenLaw.pre at hc
    have h4 : (WTm.not (.lt (.lit (.int (n : Int))) (.len (.arg 0)))).holds [] { args := [.list (ns.map .int)] } = true := by
      have h4 := (holds_andW hc).1
      rw [hn] at h4
      exact h4
    have h5 := condW_of h4 (w_not (w_lt w_lit (w_len_list (w_arg rfl))))
    rw [List.length_map] at h5
    refine Nat.le_of_not_lt fun q => ?_
    have q' : (n : Int) < ((ns.length : Nat) : Int) := by omega
    first
      | (rw [decide_eq_true q'] at h5; exact absurd h5 (by decide))
      | (simp at h5; omega)
  cases hwl with
  | cons w1 w2 =>
    cases w2
    cases w1 with
    | list ho hall => exact ⟨_, _, ns, rfl, rfl, ho, ints_of_wellAll ns _ hall, hlen⟩

theorem post_true (l : OpenLaw) (args : List WData) : l.row.toRowW.claim.post args (.bool true) args = true :=
  postW_of (r := l.row.toRowW) (X := (true == true))
    (show WShape.has [] (.bool true) .bool = true by first | rfl | decide | simp [WShape.has, WShape.arms, WShape.armsAll])
    (show (WTm.eq .res (.lit (.bool true))).value [] { args := args, res := some (.bool true), after := args } = some (.bool (true == true)) from w_eq_bool (w_res rfl) w_lit) rfl

/-! ### the attachment: holds_open's last premise (the goal 'hc' behind k_head) from a wpAny of the law's body -/
theorem attach {l : OpenLaw} {n : Nat} {q : Program} {loose : List Str} {XP : (Str → Option Value) → Heap → Prop} {YP : World → Heap → Prop} {d : DefRec} {x : Str}
    (hn : l.most = some n) (hdf : d.params.defaults = [])
    (hbind : ∀ pm cd doc v : Value, bindArgs (docDef d.name d.params d.body d.scope pm cd doc) ⟨[v], []⟩ = pure [(x, v)])
    (hx : d.scope.names.lookup x = some .local ∨ d.scope.names.lookup x = some .cell)
    (hk : d.scope.kind = .function) (hco : d.scope.isCoroutine = false) (hgen : d.scope.isGenerator = false)
    (body : ∀ (w : World) (s₀ s₁ s : Shared) (mg mb : Str → Option Value) (fa : Addr) (o : Obj) (pm cd doc : Value) (a : Addr) (vs : List Value) (ns : List Int),
      Ground q loose [] XP w s₀ mg mb s₁.heap → YP w s₁.heap →
      s₁.heap.get? fa = some o → o.data = .func (docDef d.name d.params d.body d.scope pm cd doc) → s₁.heap.CodeRec cd d.name → mg d.name = some (.ref fa) →
      s₁.heap.get? a = some { cls := .type "list", data := .seq vs.toArray } → IntsAre vs ns → ns.length ≤ n →
      s.gens = #[] → s.os = s₁.os →
      Fr s₁.heap s₁.heap.objs.size s.heap (bindL (envOfC d.name d.scope s₁.heap.objs.size fa cd).kindOf [(x, .ref a)] fun _ => none) →
      Cl s₁.heap.objs.size (cellsFrom (s₁.heap.objs.size + 1) d.scope.names []) s.heap (bindC (envOfC d.name d.scope s₁.heap.objs.size fa cd).kindOf [(x, .ref a)] fun _ => none) →
      wpAny (model l.prog w) (callerA.deeper (envOfC d.name d.scope s₁.heap.objs.size fa cd)) (execs d.body (envOfC d.name d.scope s₁.heap.objs.size fa cd))
        (fun f s' => f = .ret (.bool true) ∧ OldK s₁.heap s'.heap ∧ s'.os = s₁.os ∧ AllBare s'.gens) (fun _ _ => False) s) :
    WalkO q loose XP YP l.row.toRowW d [] (fun f vs => PySem.call f vs) := by
  intro w s₀ s₁ mg mb G Y fa o pm cd doc dV kV ho hd hcd hD hmg hg args vals as hpre hlay hrd hwl hlo
  obtain rfl : dV = .none := Dflts.none hD hdf
  obtain rfl : kV = .none := Dflts.noKw hD
  obtain ⟨a, vs, ns, rfl, rfl, hobj, hints, hlen⟩ := script_of hn hpre hwl
  refine enter_call ?_
  refine call_cells_ret (o := o) (by rw [depth_caller]; decide) ho (fd_plain hd) G.T.nolimit hcd (hbind pm cd doc (.ref a)) (fun y hy => ?_) (fun h₁ tk F X => ?_) hco hgen hk
  · obtain rfl : y = (x, Value.ref a) := List.mem_singleton.mp hy
    rcases hx with e | e
    · exact .inl e
    · exact .inr ⟨e, cellsFrom_some _ _ _ (.inl e)⟩
  · refine wpAny_mono (body w s₀ s₁ { s₁ with heap := h₁, toks := tk } mg mb fa o pm cd doc a vs ns G Y ho (fd_plain hd) hcd hmg hobj hints hlen hg rfl F X) (fun f s' hq => ?_) (fun _ _ hq => hq)
    obtain ⟨rfl, h2, h3, h4⟩ := hq
    exact ⟨.inl ⟨.bool true, .bool true, [], rfl, fun _ => rfl, .bool true, post_true l _, fun _ => ⟨List.Pairwise.nil, fun _ hm => (nomatch hm)⟩⟩, h2, h3, h4⟩

/-- the same from a codeAny of the CALL (for a layer whose function contracts speak of calls) -/
theorem attach_call {l : OpenLaw} {n : Nat} {q : Program} {loose : List Str} {XP : (Str → Option Value) → Heap → Prop} {YP : World → Heap → Prop} {d : DefRec}
    (hn : l.most = some n) (hdf : d.params.defaults = [])
    (call : ∀ (w : World) (s₀ s₁ : Shared) (mg mb : Str → Option Value) (fa : Addr) (o : Obj) (pm cd doc : Value) (a : Addr) (vs : List Value) (ns : List Int),
      Ground q loose [] XP w s₀ mg mb s₁.heap → YP w s₁.heap →
      s₁.heap.get? fa = some o → o.data = .func (docDef d.name d.params d.body d.scope pm cd doc) → s₁.heap.CodeRec cd d.name → mg d.name = some (.ref fa) →
      s₁.heap.get? a = some { cls := .type "list", data := .seq vs.toArray } → IntsAre vs ns → ns.length ≤ n → s₁.gens = #[] →
      codeAny (model l.prog w) callerA (.call (.ref fa) ⟨[.ref a], []⟩) (fun r s' => r = .ok (.ret (.bool true)) ∧ OldK s₁.heap s'.heap ∧ s'.os = s₁.os ∧ AllBare s'.gens) s₁) :
    WalkO q loose XP YP l.row.toRowW d [] (fun f vs => PySem.call f vs) := by
  intro w s₀ s₁ mg mb G Y fa o pm cd doc dV kV ho hd hcd hD hmg hg args vals as hpre hlay hrd hwl hlo
  obtain rfl : dV = .none := Dflts.none hD hdf
  obtain rfl : kV = .none := Dflts.noKw hD
  obtain ⟨a, vs, ns, rfl, rfl, hobj, hints, hlen⟩ := script_of hn hpre hwl
  refine enter_call (codeAny_mono (call w s₀ s₁ mg mb fa o pm cd doc a vs ns G Y ho (fd_plain hd) hcd hmg hobj hints hlen hg) fun r s' hq => ?_)
  obtain ⟨rfl, h2, h3, h4⟩ := hq
  exact ⟨.inl ⟨.bool true, .bool true, [], rfl, fun _ => rfl, .bool true, post_true l _, fun _ => ⟨List.Pairwise.nil, fun _ hm => (nomatch hm)⟩⟩, h2, h3, h4⟩

/-- the same where the top left finished generators (o_head chose holds_openN): nothing may have changed at all and no generator may be left -/
theorem attachN {l : OpenLaw} {n : Nat} {q : Program} {loose : List Str} {XP : (Str → Option Value) → Heap → Prop} {YP : World → Heap → Prop} {d : DefRec} {x : Str}
    (hn : l.most = some n) (hdf : d.params.defaults = [])
    (hbind : ∀ pm cd doc v : Value, bindArgs (docDef d.name d.params d.body d.scope pm cd doc) ⟨[v], []⟩ = pure [(x, v)])
    (hx : d.scope.names.lookup x = some .local ∨ d.scope.names.lookup x = some .cell)
    (hk : d.scope.kind = .function) (hco : d.scope.isCoroutine = false) (hgen : d.scope.isGenerator = false)
    (body : ∀ (w : World) (s₀ s₁ s : Shared) (mg mb : Str → Option Value) (fa : Addr) (o : Obj) (pm cd doc : Value) (a : Addr) (vs : List Value) (ns : List Int),
      Ground q loose [] XP w s₀ mg mb s₁.heap → YP w s₁.heap →
      s₁.heap.get? fa = some o → o.data = .func (docDef d.name d.params d.body d.scope pm cd doc) → s₁.heap.CodeRec cd d.name → mg d.name = some (.ref fa) →
      s₁.heap.get? a = some { cls := .type "list", data := .seq vs.toArray } → IntsAre vs ns → ns.length ≤ n →
      s.gens = #[] → s.os = s₁.os →
      Fr s₁.heap s₁.heap.objs.size s.heap (bindL (envOfC d.name d.scope s₁.heap.objs.size fa cd).kindOf [(x, .ref a)] fun _ => none) →
      Cl s₁.heap.objs.size (cellsFrom (s₁.heap.objs.size + 1) d.scope.names []) s.heap (bindC (envOfC d.name d.scope s₁.heap.objs.size fa cd).kindOf [(x, .ref a)] fun _ => none) →
      wpAny (model l.prog w) (callerA.deeper (envOfC d.name d.scope s₁.heap.objs.size fa cd)) (execs d.body (envOfC d.name d.scope s₁.heap.objs.size fa cd))
        (fun f s' => f = .ret (.bool true) ∧ (∀ b o, s₁.heap.get? b = some o → s'.heap.get? b = some o) ∧ s'.os = s₁.os ∧ s'.gens = #[]) (fun _ _ => False) s) :
    WalkN q loose XP YP l.row.toRowW d [] (fun f vs => PySem.call f vs) := by
  intro w s₀ s₁ mg mb G Y fa o pm cd doc dV kV ho hd hcd hD hmg hg args vals as hpre hlay hrd hwl hlo
  obtain rfl : dV = .none := Dflts.none hD hdf
  obtain rfl : kV = .none := Dflts.noKw hD
  obtain ⟨a, vs, ns, rfl, rfl, hobj, hints, hlen⟩ := script_of hn hpre hwl
  refine enter_callW ?_
  refine call_cells_ret (o := o) (by rw [depth_caller]; decide) ho (fd_plain hd) G.T.nolimit hcd (hbind pm cd doc (.ref a)) (fun y hy => ?_) (fun h₁ tk F X => ?_) hco hgen hk
  · obtain rfl : y = (x, Value.ref a) := List.mem_singleton.mp hy
    rcases hx with e | e
    · exact .inl e
    · exact .inr ⟨e, cellsFrom_some _ _ _ (.inl e)⟩
  · refine wpAny_mono (body w s₀ s₁ { s₁ with heap := h₁, toks := tk } mg mb fa o pm cd doc a vs ns G Y ho (fd_plain hd) hcd hmg hobj hints hlen hg rfl F X) (fun f s' hq => ?_) (fun _ _ hq => hq)
    obtain ⟨rfl, h2, h3, h4⟩ := hq
    exact ⟨.inl ⟨.bool true, .bool true, [], rfl, fun _ => rfl, .bool true, post_true l _, fun _ => ⟨List.Pairwise.nil, fun _ hm => (nomatch hm)⟩⟩, h2, h3, h4⟩

/-! ### rules over ANY heap (no ledger) from facts about the written part K: the library's own take a ledger (News) for what they write -/
section
variable {prog : Program} {w : World} {A : Around} {E : Value → Shared → Prop} {s : Shared} {K : Frag}

/-- a def of the module, or a method (qual 'C.m'), entered: the frame is the next address; cells behind it -/
theorem call_fn {R : Result → Shared → Prop} {name qual : Str} {params : Arguments} {body : List Stmt} {scope : Scope} {dV kV doc pm cdv ct oc : Value} {an od : Option Addr} {osl : Array (Option Value)} {f : Addr} {args : Args} {binds : List (Str × Value)}
    (X : K.In s.heap) (hlim : s.heap.NoLimit) (ho : K.lookup f = some ⟨oc, od, .func (fnOf name qual params body scope dV kV doc pm an cdv ct), osl⟩) (hcd : codeIn K cdv qual = true) (hroom : A.depth < recursionLimit)
    (hbind : BindsTo s (fnOf name qual params body scope dV kV doc pm an cdv ct) args binds)
    (hkind : (binds.all fun y => scope.names.lookup y.1 == some .local || scope.names.lookup y.1 == some .cell) = true)
    (h : ∀ s₁, InCallC s s.heap.objs.size (bindL (envOfC qual scope s.heap.objs.size f cdv).kindOf binds fun _ => none) (cellsFrom (s.heap.objs.size + 1) scope.names [])
        (bindC (envOfC qual scope s.heap.objs.size f cdv).kindOf binds fun _ => none) s₁ →
      wpAny (model prog w) (A.deeper (envOfC qual scope s.heap.objs.size f cdv)) (execs body (envOfC qual scope s.heap.objs.size f cdv))
        (fun fl s' => R (.ok (.ret (match fl with | .ret v => v | _ => .none))) s')
        (fun e s' => wpAny (model prog w) (A.deeper (envOfC qual scope s.heap.objs.size f cdv)) (leaving (envOfC qual scope s.heap.objs.size f cdv) e) (fun _ s'' => R (.error e) s'') (fun e' s'' => R (.error e') s'') s') s₁)
    (hco : scope.isCoroutine = false) (hgen : scope.isGenerator = false) (hk : scope.kind = .function) : codeAny (model prog w) A (.call (.ref f) args) R s := by
  refine codeAny_call_function hroom (X _ _ ho) rfl hco hgen rfl (codeRec_of X hcd) (hbind _ _ _ _ ?_)
  refine wpAny_newFunctionEnv_cells hk (kindsX hkind _) fun env he s₁ x => ?_
  subst he
  exact ⟨hlim.keeps x.toInCall.keep, codeAny_func (h s₁ x)⟩

/-- C(..): dict at size, instance at size + 1, then __init__ -/
theorem make_obj {R : Result → Shared → Prop} {C fI : Addr} {rest : List Value} {kw : List (Str × Value)}
    (X : K.In s.heap) (hm : makesIn K C = true) (hi : findIn K (.ref C) "__init__" = some (some (.ref fI))) (hf : isFn K (.ref fI) = true)
    (h : codeAny (model prog w) (A.under (.builtin "type.__call__" ⟨.ref C :: rest, kw⟩)) (.call (.ref fI) ⟨.ref (s.heap.objs.size + 1) :: rest, kw⟩) (InitBack (s.heap.objs.size + 1) R)
      { s with heap := (s.heap.push emptyDict).push (instObj C s.heap.objs.size) }) : codeAny (model prog w) A (.call (.ref C) ⟨rest, kw⟩) R s := by
  obtain ⟨hh, g, d, t, os⟩ := s
  exact make_core (makes_of X hm) (looks_findIn X hi) (fun self => bind_fn X self (beq_iff_eq.mp hf)) (.inl rfl) h

/-- x.name where the instance's dict holds the name and the class does not -/
theorem get_field {x C : Addr} {ox : Obj} {es : List DictEntry} {n : Nat} {name : Str} {expr : Bool} {v : Value} {Q : Value → Shared → Prop}
    (X : K.In s.heap) (I : PySem.W.InstAt s.heap x ox C (some (dictOf es n))) (hg : plainGet K C name = true) (hh : hasDictIn K C = true) (ha : findIn K (.ref C) name = some none)
    (hl : getL name es = some (some v)) (hv : handedIn v = true) (h : Q v { s with toks := s.toks + 1 }) : wpAny (model prog w) A (getAttr (.ref x) name expr) Q E s :=
  get_value X I (plainGet_of hg).1 (findObj_own hh ha rfl hl) hv h

/-- x.m(..): the method found in the class -/
theorem get_method {x C f : Addr} {ox : Obj} {es : List DictEntry} {n : Nat} {name : Str} {pl : Sem Bool} {Q : Value × List Value → Shared → Prop}
    (X : K.In s.heap) (I : PySem.W.InstAt s.heap x ox C (some (dictOf es n))) (hg : plainGet K C name = true) (hf : findIn K (.ref C) name = some (some (.ref f))) (ht : isFn K (.ref f) = true)
    (hl : getL name es = some none) (h : Q (.ref f, [.ref x]) s) : wpAny (model prog w) A (getMethod (.ref x) name pl) Q E s :=
  method_fn X I (plainGet_of hg).1 (plainGet_of hg).2 hf (beq_iff_eq.mp ht) (by show (lookIn name (dictOf es n)).map _ = _; rw [lookIn_dict, hl]; rfl) h

/-! the whole heap as the ledger: makes every rule that writes through a ledger a rule over any heap -/
def noObjs (h : Heap) : Heap := { h with objs := #[] }
theorem noObjs_get (h : Heap) (b : Addr) : (noObjs h).get? b = none := by
  cases e : (noObjs h).get? b with
  | none => rfl
  | some o => exact absurd (Heap.lt_size e) (Nat.not_lt_zero _)
def ledger (h : Heap) (L d : Addr) : List (Addr × Obj) := (List.range h.objs.size).filterMap fun a => if a = L ∨ a = d then none else (h.get? a).map fun o => (a, o)
theorem mem_ledger {h : Heap} {L d a : Addr} {o : Obj} : (a, o) ∈ ledger h L d ↔ a ≠ L ∧ a ≠ d ∧ h.get? a = some o := by
  unfold ledger
  rw [List.mem_filterMap]
  constructor
  · rintro ⟨b, _, e⟩
    split at e
    · cases e
    · rename_i hb
      obtain ⟨o', ho, e'⟩ := Option.map_eq_some_iff.mp e
      cases e'
      exact ⟨fun q => hb (.inl q), fun q => hb (.inr q), ho⟩
  · rintro ⟨n1, n2, ho⟩
    refine ⟨a, List.mem_range.mpr (Heap.lt_size ho), ?_⟩
    rw [if_neg (show ¬ (a = L ∨ a = d) from fun q => q.elim n1 n2), ho] <;> rfl
theorem news_ledger {h : Heap} {L d : Addr} {od : Obj} (hne : d ≠ L) (ho : h.get? d = some od) : News (noObjs h) L h ([] ++ (d, od) :: ledger h L d) := by
  rintro ⟨a, o⟩ hp
  rcases List.mem_cons.mp hp with e | hp
  · cases e
    exact ⟨ho, hne, noObjs_get _ _⟩
  · obtain ⟨n1, n2, e⟩ := mem_ledger.mp hp
    exact ⟨e, n1, noObjs_get _ _⟩
theorem fr_all {h : Heap} {L : Addr} {m : Str → Option Value} (n : h.Ns L m) : Fr (noObjs h) L h m :=
  ⟨n, fun b o e => (by rw [noObjs_get] at e; cases e), Nat.zero_le _⟩
/-- Upd of the head entry (for append_K, setItem_K ..) -/
theorem upd_ledger {h : Heap} {L d : Addr} {o o' : Obj} : Upd d o o' ((d, o) :: ledger h L d) ((d, o') :: ledger h L d) :=
  .head fun ⟨_, _⟩ hp => (mem_ledger.mp hp).2.1

/-- x.name = v over any heap: L is any namespace of the heap (the frame's, say): its map stays, its object is not told; all else but the dict stays -/
theorem set_field {x C dx L : Addr} {ox : Obj} {m : Str → Option Value} {es es' : List DictEntry} {n n' : Nat} {name : Str} {v : Value} {Q : Unit → Shared → Prop}
    (X : K.In s.heap) (I : PySem.W.InstAt s.heap x ox C (some (dictOf es n))) (hd : ox.dict = some dx) (hL : s.heap.Ns L m) (hne : dx ≠ L)
    (hs : findIn K (.ref C) "__setattr__" = some (some (.builtin "object.__setattr__"))) (hp : plainOver K C = true) (ht : takerIn K C name = some none) (hh : hasDictIn K C = true) (hl : (getL name es).isSome = true)
    (e : (putL name (PyData.keyHash w.params name) (.str name (s.toks + 1)) v es, putN name es n) = (es', n')) (hz : es'.length ≤ 1000)
    (h : ∀ h' : Heap, h'.Ns L m → h'.get? dx = some (dictOf es' n') → (∀ b o, b ≠ dx → b ≠ L → s.heap.get? b = some o → h'.get? b = some o) → Q () { s with heap := h', toks := s.toks + 2 }) :
    wpAny (model prog w) A (setAttr (.ref x) name v) Q E s := by
  obtain ⟨e1, e2⟩ := Prod.mk.inj e
  have hdx : s.heap.get? dx = some (dictOf es n) := by
    have := I.dict
    rw [hd] at this
    exact this
  refine set_plain X I hs (osa_dict (s := { s with toks := s.toks + 1 }) (h₀ := noObjs s.heap) (L := L) (m := m) (od := dictOf es n) (od' := dictOf es' n') (es := es') (n := n') (pre := []) (post := ledger s.heap L dx)
    (fr_all hL) (news_ledger hne hdx) X I hd hp ht hh hl (fun _ q => nomatch q) (fun ⟨_, _⟩ q => (mem_ledger.mp q).2.1) (by rw [putName_dict, e1, e2]) rfl hz fun h' F' N' => ?_)
  exact h h' F'.ns (N'.get (List.Mem.head _)) fun b o n1 n2 ho => N'.get (List.Mem.tail _ (mem_ledger.mpr ⟨n2, n1, ho⟩))
end
end Att

namespace L2
open PySem PySem.Spec PyProof.Rows

theorem vals_ints : ∀ {vs : List Value} {ns : List Int}, IntsAre vs ns → Vals (ns.map V.int) vs
  | _, _, .nil => .nil
  | _, _, .cons n t h => .cons ⟨t, rfl⟩ (vals_ints h)

/-- nothing is tracked but the script, known to the object (or it is an object of the module) -/
def Only (H : Hp) : Prop := ∀ b, H b = none ∨ ∃ o xs, H b = some (.frz o (.lst xs))

/-- THE HEAD: the law's promise, at the heap behind the top. F, the promise of the law's def, may use that base is part of the heap (so K.In base, base.Ns mainGlobals mg stand in Mod) -/
theorem law_call {P : Program} {w : World} {K : PySem.W.Frag} {mg mb : Str → Option Value} {CX : CXT} {k : Nat} {fa a : Addr} {fd : FuncData} {x : Str} {sp : Sp} {s₁ : Shared} {vs : List Value} {ns : List Int}
    (KX : K.In s₁.heap) (hns : s₁.heap.Ns mainGlobals mg) (hb : s₁.heap.Ns builtinsNs mb) (hbb : ∀ x : Str, x ≠ "__name__" → mb x = bootBuiltins x) (hlim : s₁.heap.NoLimit) (hg : s₁.gens = #[])
    (ha : s₁.heap.get? a = some { cls := .type "list", data := .seq vs.toArray }) (hi : IntsAre vs ns) (hl : ns.length ≤ sizeLine) (hr : Room k callerA)
    (F : ∀ base : Heap, K.In base → base.Ns mainGlobals mg → FnOk P w K mg base CX k fa fd [x] sp) (hbind : ∀ (s : Shared) (u : Value), BindsTo s fd ⟨[u], []⟩ [(x, u)])
    (hsp : ∀ H : Hp, Only H → SqL K H a (ns.map V.int) → sp [.ref a] H (fun v _ => v = .bl true) fun _ _ _ => False)
    (hCX : ∀ H e s', CX [] H s₁ (fun _ _ _ => False) e s' → False) :
    codeAny (model P w) callerA (.call (.ref fa) ⟨[.ref a], []⟩) (fun r s' => r = .ok (.ret (.bool true)) ∧ OldK s₁.heap s'.heap ∧ s'.os = s₁.os ∧ AllBare s'.gens) s₁ := by
  have rv := vals_ints hi
  have lenV := hi.length
  -- from an abstract heap in which nothing but the script may be tracked
  have core : ∀ H : Hp, Only H → SqL K H a (ns.map V.int) → HOk P w H s₁.heap → (∀ b, H b ≠ none → b = a) → (H a ≠ none → K.lookup a = none) →
      codeAny (model P w) callerA (.call (.ref fa) ⟨[.ref a], []⟩) (fun r s' => r = .ok (.ret (.bool true)) ∧ OldK s₁.heap s'.heap ∧ s'.os = s₁.os ∧ AllBare s'.gens) s₁ := by
    intro H hO hS hok hA hK
    have base_of : ∀ {b : Addr} {o : Obj}, s₁.heap.get? b = some o → H b = none → (hidT s₁.heap H).get? b = some o := fun e n => hidT_get e n
    have noA : ∀ {b : Addr} {o : Obj} {es : Array DictEntry} {ep : Nat}, s₁.heap.get? b = some o → o.data = .dict es ep → H b = none := fun {b o es ep} e d => by
      cases q : H b with
      | none => rfl
      | some u =>
        have e' : b = a := hA b (by rw [q]; simp)
        subst e'
        rw [ha] at e; cases e
        have d' : Data.seq vs.toArray _ = Data.dict es ep := d
        cases d'
    have nsK : ∀ {b : Addr} {m : Str → Option Value}, s₁.heap.Ns b m → (hidT s₁.heap H).Ns b m := fun {b m} ⟨o, es, ep, e, d, r⟩ => ⟨o, es, ep, base_of e (noA e d), d, r⟩
    have hKb : K.In (hidT s₁.heap H) := fun b o e => base_of (KX b o e) (by
      cases q : H b with
      | none => rfl
      | some u =>
        have e' : b = a := hA b (by rw [q]; simp)
        subst e'
        rw [hK (by rw [q]; simp)] at e; cases e)
    have hM : Mod K mg (hidT s₁.heap H) := ⟨hKb, nsK hns, ⟨mb, nsK hb, hbb⟩, let ⟨mc, h1, h2⟩ := hlim; ⟨mc, nsK h1, h2⟩⟩
    have e0 : Env0 P w K mg (hidT s₁.heap H) callerA [] s₁ H := ⟨rfl, hM, fun b o e => of_hidT e, Nat.le_of_eq (hidT_size _ _), trivial, fun b hb => absurd (show b ∈ ([] : List Addr) from hb) (by simp), hok, .of_eq hg⟩
    refine codeAny_mono ((F _ hKb (nsK hns)).run callerA [] s₁ H ⟨[.ref a], []⟩ [.ref a] [.ref a] _ _ hr e0 (hbind s₁ (.ref a)) (.cons rfl .nil) (hsp H hO hS)) fun r s' h => ?_
    cases r with
    | error e => exact (hCX H e s' h).elim
    | ok fl =>
      cases fl with
      | next => exact False.elim h
      | brk => exact False.elim h
      | cont => exact False.elim h
      | ret u =>
        obtain ⟨v, H', os, bare, un, hok', r', q⟩ := h
        have q' : v = .bl true := q
        subst q'
        obtain rfl : u = Value.bool true := r'
        refine ⟨rfl, OldK.of_keep fun b o e => ?_, os, bare⟩
        cases q : H b with
        | none => exact un.keep b o e q (by intro z; exact absurd (show b ∈ ([] : List Addr) from z) (by simp)) (by simp)
        | some u =>
          rcases hO b with z | ⟨ob, xs, z⟩
          · rw [q] at z; cases z
          · have z2 := un.frzs b ob _ z
            obtain ⟨e1, _⟩ := hok b _ z
            obtain ⟨e2, _⟩ := hok' b _ z2
            rw [e] at e1; cases e1
            exact e2
  cases hk : K.lookup a with
  | some o =>
    -- the script is one of the module's own objects
    have e := KX a o hk
    rw [ha] at e
    cases e
    refine core (fun _ => none) (fun _ => .inl rfl) (.inr ⟨_, vs.toArray, _, hk, rfl, rfl, rfl, by rw [List.size_toArray, lenV]; exact hl, by simpa using rv⟩) (fun b u z => by have z' : (none : Option HO) = some u := z; cases z') (fun b z => absurd rfl z) fun z => absurd rfl z
  | none =>
    refine core (fun b => if b = a then some (.frz { cls := .type "list", data := .seq vs.toArray } (.lst (ns.map V.int))) else none) (fun b => ?_) (.inl (.inr ⟨{ cls := .type "list", data := .seq vs.toArray }, if_pos rfl⟩)) (fun b u z => ?_) (fun b z => ?_) fun _ => hk
    · by_cases hb : b = a
      · exact .inr ⟨_, _, if_pos hb⟩
      · exact .inl (if_neg hb)
    · by_cases hb : b = a
      · have z' := (if_pos hb).symm.trans z
        cases z'
        subst hb
        exact ⟨ha, by rw [List.length_map]; exact hl, vs, _, rv, ha⟩
      · have z' := (if_neg hb).symm.trans z
        cases z'
    · by_cases hb : b = a
      · exact hb
      · exact absurd (if_neg hb) z
end L2

namespace L2
open PySem PySem.Spec PyProof.Rows

abbrev KOf {K : PySem.W.Frag} {h : Heap} (_ : K.In h) : PySem.W.Frag := K

/-- the goal that k_head leaves (case hc), from the law's promise. F gives the function object fd (K's own) once, then the promise over every base -/
theorem walk_of {l : PySem.W.OpenLaw} {n k : Nat} {q : Program} {loose : List Str} {XP : (Str → Option Value) → Heap → Prop} {YP : World → Heap → Prop} {d : DefRec} {K : Params → PySem.W.Frag} {CX : World → CXT} {sp : World → Sp} {x : Str}
    (hn : l.most = some n) (hn2 : n ≤ sizeLine) (hdf : d.params.defaults = []) (hr : Room k callerA)
    (hY : ∀ (w : World) (h : Heap), YP w h → (K w.params).In h)
    (F : ∀ (w : World) (mg : Str → Option Value) (fa : Addr) (h : Heap), (K w.params).In h → h.Ns mainGlobals mg → mg d.name = some (.ref fa) →
      ∃ fd : FuncData, (∀ (s : Shared) (u : Value), BindsTo s fd ⟨[u], []⟩ [(x, u)]) ∧
        ∀ base : Heap, (K w.params).In base → base.Ns mainGlobals mg → FnOk l.prog w (K w.params) mg base (CX w) k fa fd [x] (sp w))
    (hsp : ∀ (w : World) (H : Hp) (a : Addr) (ns : List Int), ns.length ≤ n → Only H → SqL (K w.params) H a (ns.map V.int) → sp w [.ref a] H (fun v _ => v = .bl true) fun _ _ _ => False)
    (hCX : ∀ (w : World) (H : Hp) (s : Shared) (e : Value) (s' : Shared), CX w [] H s (fun _ _ _ => False) e s' → False) :
    PySem.W.WalkO q loose XP YP l.row.toRowW d [] (fun f vs => PySem.call f vs) := by
  refine Att.attach_call hn hdf fun w s₀ s₁ mg mb fa o pm cd doc a vs ns G Y ho hd hcd hmg hobj hints hlen hg => ?_
  have KX := hY w _ Y
  obtain ⟨fd, hb, hF⟩ := F w mg fa _ KX G.T.g hmg
  exact law_call KX G.T.g G.T.b G.T.builtins G.T.nolimit hg hobj hints (Nat.le_trans hlen hn2) hr hF hb (fun H hO hS => hsp w H a ns hlen hO hS) fun H e s' => hCX w H s₁ e s'
/-- the same where the promise hangs on the written part alone: (sp := My.sp_law), no hole under a binder -/
theorem walk_ofK {l : PySem.W.OpenLaw} {n k : Nat} {q : Program} {loose : List Str} {XP : (Str → Option Value) → Heap → Prop} {YP : World → Heap → Prop} {d : DefRec} {K : Params → PySem.W.Frag} {CX : CXT} {sp : PySem.W.Frag → Sp} {x : Str}
    (hn : l.most = some n) (hn2 : n ≤ sizeLine) (hdf : d.params.defaults = []) (hr : Room k callerA)
    (hY : ∀ (w : World) (h : Heap), YP w h → (K w.params).In h)
    (F : ∀ (w : World) (mg : Str → Option Value) (fa : Addr) (h : Heap), (K w.params).In h → h.Ns mainGlobals mg → mg d.name = some (.ref fa) →
      ∃ fd : FuncData, (∀ (s : Shared) (u : Value), BindsTo s fd ⟨[u], []⟩ [(x, u)]) ∧
        ∀ base : Heap, (K w.params).In base → base.Ns mainGlobals mg → FnOk l.prog w (K w.params) mg base CX k fa fd [x] (sp (K w.params)))
    (hsp : ∀ (K : PySem.W.Frag) (H : Hp) (a : Addr) (ns : List Int), ns.length ≤ n → Only H → SqL K H a (ns.map V.int) → sp K [.ref a] H (fun v _ => v = .bl true) fun _ _ _ => False)
    (hCX : ∀ (H : Hp) (s : Shared) (e : Value) (s' : Shared), CX [] H s (fun _ _ _ => False) e s' → False) :
    PySem.W.WalkO q loose XP YP l.row.toRowW d [] (fun f vs => PySem.call f vs) :=
  walk_of (K := K) (CX := fun _ => CX) (sp := fun w => sp (K w.params)) hn hn2 hdf hr hY F (fun w H a ns h1 h2 h3 => hsp (K w.params) H a ns h1 h2 h3) fun _ H s e s' => hCX H s e s'
end L2

/- THE LAST THEOREM (shape; LID, My.* are yours):
   My.Adr: a structure of the addresses that your layer names (classes, functions); My.Txt K t: a structure (Prop) of the equations over K;
   My.txt_mk : {K} {implicit addresses ..} (e1 : nsIn K mainGlobals "law" = some (some (.ref f))) (e2 : K.lookup f = some ⟨oc, od, .func (fnOf "law" "law" params body scope dV kV doc pm an cdv ct), sl⟩) (e3 : codeIn K cdv "law" = true) .. : ∃ t, My.Txt K t

set_option maxRecDepth 100000 in
set_option maxHeartbeats 0 in
theorem PySem.Challenge.cw_LID_holds : PySem.Challenge.rw_LID.Holds := by
  w_on; o_law; k_head; (case hw => w_witness2)
  k_fill
  refine L2.walk_of (l := PySem.Challenge.rw_LID) (n := 63) (k := 40) (x := "script") (CX := fun w => ..) (sp := fun _ => My.sp_law) rfl (by decide) rfl ⟨rfl, by decide, by decide⟩ (fun w h Y => PySem.W.kIn_of Y) ?F ?S ?C
  case F =>
    intro w mg fa h KX G hmg
    have T : ∃ t, My.Txt (L2.KOf KX) t := by
      dsimp only [L2.KOf]                          -- K must stand as «<heap const> w.params» for k_is
      refine' My.txt_mk ?e1 ?e2 ?e3 ..
      (case e1 => PySem.W.k_is)                    -- in the order: a name -> its address -> its object -> its parts
      (case e2 => PySem.W.k_is)
      ..
    obtain ⟨t, T⟩ := T
    have e0 := hmg.symm.trans (PySem.W.mg_of KX G T.law)
    cases e0                                       -- fa is the law's own address
    exact ⟨_, fun s u => .of_eq rfl, fun base kb nb => My.law_fn T kb nb⟩     -- if «.of_eq rfl» comes too early: refine' ⟨_, ?b, fun base kb nb => My.law_fn T kb nb⟩; exact fun s u => .of_eq rfl
  case S => exact fun w H a ns hl hO hS => ..
  case C => exact ..
(the tactic k_is has no namespace: write k_is) -/

/-! SHORT WORDS over the layer: a def of the text, its body, what a loop and a test want. -/
namespace L2
open PySem PySem.Spec PyProof.Rows

/-! ### the text by places -/
/-- the j-th statement of a class's body -/
def inClass (s : Stmt) (j : Nat) : Stmt := match s with
  | .ClassDef _ _ _ body _ _ _ _ _ _ _ => body.getD j (.Pass ⟨0, 0, 0, 0⟩)
  | _ => .Pass ⟨0, 0, 0, 0⟩
def defArgs (s : Stmt) : Arguments := match s with
  | .FunctionDef _ a _ _ _ _ _ _ _ _ => a
  | _ => { posonlyargs := [], args := [], vararg := none, kwonlyargs := [], kw_defaults := [], kwarg := none, defaults := [] }
def defBody (s : Stmt) : List Stmt := match s with
  | .FunctionDef _ _ b _ _ _ _ _ _ _ => b
  | _ => []
def defScope (s : Stmt) : Scope := match s with
  | .FunctionDef _ _ _ _ _ _ sc _ _ _ => sc
  | _ => { kind := .function, names := [], isGenerator := false, isCoroutine := false }

/-! ### no exception leaves a def -/
abbrev CX0 : CXT := fun _ _ _ _ _ _ => False
abbrev E0 : XK := fun _ _ _ => False
theorem pass0 {X : Cx} : Passes CX0 X E0 := fun _ _ _ _ _ _ _ h => h.elim

/-! ### a def (or method) of the text as it stands behind the top -/
structure Fun (K : PySem.W.Frag) (x qual : Str) (st : Stmt) (f : Addr) (fd : FuncData) : Prop where
  ex : ∃ (oc : Value) (od : Option Addr) (kV doc pm : Value) (an : Option Addr) (cdv ct : Value) (osl : Array (Option Value)),
    fd = PySem.W.fnOf x qual (defArgs st) (defBody st) (defScope st) .none kV doc pm an cdv ct ∧ K.lookup f = some ⟨oc, od, .func fd, osl⟩ ∧ PySem.W.codeIn K cdv qual = true
  kp : PySem.W.keepIn K (.ref f) = true
section
variable {P : Program} {w : World} {K : PySem.W.Frag} {mg : Str → Option Value} {base : Heap}
/-- THE RULE for a def: its body as a term of rules, and the reading of that term -/
theorem Fun.ok {x qual : Str} {st : Stmt} {f : Addr} {fd : FuncData} {N ps : List Str} {k : Nat} {sp : Sp} (F : Fun K x qual st f fd) (S : FnScope N ps (defScope st)) (len : ∀ vs H Q E, sp vs H Q E → vs.length = ps.length)
    (hbody : ∀ (cdv : Value) (A : Around) (outer : List Env) (s : Shared) (H : Hp) (vs : List V) (Q : VK) (E : XK), Room k (A.deeper (envOfC qual (defScope st) s.heap.objs.size f cdv)) → sp vs H Q E →
      ∃ t, PSs (cxOf CX0 P w K mg base N qual (defScope st) f cdv A outer s H E).nox (defBody st) t ∧ t { nx := fun _ H' => Q .non H', rt := Q } (start N vs) H) : FnOk P w K mg base CX0 (k + 1) f fd ps sp := by
  obtain ⟨oc, od, kV, doc, pm, an, cdv, ct, osl, rfl, lk, hcd⟩ := F.ex
  refine fn_of lk hcd S len fun A outer s H vs Q E hr hsp => ?_
  obtain ⟨t, h, q⟩ := hbody cdv A outer s H vs Q E hr hsp
  exact ⟨t, h.nox, q⟩
/-- how its arguments bind (no defaults): h is «fun _ _ _ _ _ _ us hl => match us, hl with | [_, _], _ => rfl», one _ a parameter -/
theorem Fun.binds {x qual : Str} {st : Stmt} {f : Addr} {fd : FuncData} {ps : List Str} (F : Fun K x qual st f fd)
    (h : ∀ (kV doc pm : Value) (an : Option Addr) (cdv ct : Value) (us : List Value), us.length = ps.length → bindArgs (PySem.W.fnOf x qual (defArgs st) (defBody st) (defScope st) .none kV doc pm an cdv ct) ⟨us, []⟩ = pure (ps.zip us)) : Binds K fd ps [] := by
  obtain ⟨oc, od, kV, doc, pm, an, cdv, ct, osl, rfl, lk, hcd⟩ := F.ex
  exact .all (h kV doc pm an cdv ct)
theorem fun_mk {x qual : Str} {st : Stmt} {f : Addr} {oc : Value} {od an : Option Addr} {osl : Array (Option Value)} {kV doc pm cdv ct : Value} (l : K.lookup f = some ⟨oc, od, .func (PySem.W.fnOf x qual (defArgs st) (defBody st) (defScope st) .none kV doc pm an cdv ct), osl⟩)
    (c : PySem.W.codeIn K cdv qual = true) (k : PySem.W.keepIn K (.ref f) = true) : Fun K x qual st f (PySem.W.fnOf x qual (defArgs st) (defBody st) (defScope st) .none kV doc pm an cdv ct) := ⟨⟨oc, od, kV, doc, pm, an, cdv, ct, osl, rfl, l, c⟩, k⟩
end
theorem hu_of {A : Around} {k : Nat} (hr : Room k A) : A.units + 1 < cLine := Nat.lt_of_le_of_lt (Nat.add_le_add_left (by decide : 1 ≤ 64) _) hr.units
theorem small1000 {n : Nat} (h : n ≤ 1000) : n < sizeLine := Nat.lt_of_le_of_lt h (by decide)

/-! ### expressions in short: the name that stands in the i-th slot -/
section
variable {X : Cx}
theorem pv (i : Nat) {x : Str} {pos : Pos} (hN : X.N[i]? = some x := by rfl) (hv : Vis X.env.scope x := by first | exact Or.inl rfl | exact Or.inr (Or.inl rfl) | exact Or.inr (Or.inr rfl)) (hd : (x == ("__debug__" : Str)) = false := by decide)
    (hcd : (x == ("__classdict__" : Str)) = false := by decide) : PE X (.Name x pos) (tVar i) := pe_var hN hv hd hcd
end

/-! ### tests -/
theorem iteF {A B : Prop} (h : B) : if false = true then A else B := by
  rw [if_neg Bool.false_ne_true]
  exact h
theorem iteT {A B : Prop} (h : A) : if true = true then A else B := by
  rw [if_pos rfl]
  exact h
theorem ite2 {c A B : Prop} [Decidable c] (h1 : c → A) (h2 : ¬ c → B) : if c then A else B := by
  by_cases h : c
  · rw [if_pos h]
    exact h1 h
  · rw [if_neg h]
    exact h2 h
theorem iteNS {c A B : Prop} [Decidable c] (hc : c) (h : B) : if (!decide c) = true then A else B := by
  rw [decide_eq_true hc]
  exact iteF h

/-! ### heaps -/
/-- all that was tracked is as it was -/
def Same (H H' : Hp) : Prop := ∀ b o, H b = some o → H' b = some o
theorem Same.refl (H : Hp) : Same H H := fun _ _ h => h
theorem Same.trans {H H1 H2 : Hp} (a : Same H H1) (b : Same H1 H2) : Same H H2 := fun c o h => b c o (a c o h)
theorem Same.free {H H' : Hp} (e : Same H H') {l : Addr} (h : H' l = Option.none) : H l = Option.none := by
  cases q : H l with
  | none => rfl
  | some o =>
    rw [e l o q] at h
    cases h
theorem Same.seq {K : PySem.W.Frag} {H H' : Hp} {a : Addr} {xs : List V} (e : Same H H') (h : SqL K H a xs) : SqL K H' a xs := by
  rcases h with (h | ⟨o, h⟩) | h
  · exact .inl (.inl (e _ _ h))
  · exact .inl (.inr ⟨o, e _ _ h⟩)
  · exact .inr h

end L2

set_option Elab.async false
set_option linter.all false
set_option maxRecDepth 100000
set_option maxHeartbeats 4000000
namespace L2
open PySem PySem.Spec PyProof.Rows

/-! ### sum, min, sorted of a list of ints; index; a list turned round; == of int lists; isinstance -/
section
variable {X : Cx}
theorem items_nums {its : List Value} {ns : List Int} {xs : Array (Int × Tok)} (hi : IntsAre its ns) (hx : its.toArray = intItems xs) : ns = xs.toList.map (·.1) := by
  rw [← nums_intItems, ← hx]
  exact (show numsOf its.toArray.toList = ns from hi.numsOf).symm
theorem call_sum (hc : X.calm = true) : CallR X (.builtin "sum") (fun xs H Q => ∃ (p : Addr) (ns : List Int), xs = [.ref p] ∧ SqL X.K H p (ns.map V.int) ∧ Q (.int ns.sum) H) := by
  intro pins s σ H xs us Q I r h
  obtain ⟨p, ns, rfl, hq, q⟩ := h
  obtain ⟨u, rfl, rx⟩ := vals1 r
  cases rx
  obtain ⟨its, r', pl, hz⟩ := I.list hq
  have hi := intsAre_of r'
  obtain ⟨xs, hx⟩ := hi.allInts.items
  have hl' : s.heap.IsList p (intItems xs) := hx ▸ pl.isList
  refine sum_intListG (I.ok.hd hc) hl' fun h' tk t' hk => ?_
  have e1 := items_nums hi hx
  have e2 : preSum (numAt xs) xs.size = ns.sum := by
    rw [preSum_eq, List.take_of_length_le (by simp), e1]
  rw [e2]
  exact ⟨.int ns.sum, H, I.kept hk, ⟨t', rfl⟩, q⟩
theorem call_min (hc : X.calm = true) : CallR X (.builtin "min") (fun xs H Q => ∃ (p : Addr) (ns : List Int), xs = [.ref p] ∧ SqL X.K H p (ns.map V.int) ∧ 0 < ns.length ∧ ∀ M, M ∈ ns → (∀ a ∈ ns, M ≤ a) → Q (.int M) H) := by
  intro pins s σ H xs us Q I r h
  obtain ⟨p, ns, rfl, hq, hne, q⟩ := h
  obtain ⟨u, rfl, rx⟩ := vals1 r
  cases rx
  obtain ⟨its, r', pl, hz⟩ := I.list hq
  have hi := intsAre_of r'
  obtain ⟨xs, hx⟩ := hi.allInts.items
  have hl' : s.heap.IsList p (intItems xs) := hx ▸ pl.isList
  have hns := items_nums hi hx
  have hsz : 0 < xs.size := by
    have h3 := hne
    rw [hns, List.length_map, Array.length_toList] at h3
    exact h3
  refine min_intList (I.ok.hd hc) hl' hsz fun v h' tk hv hk => ?_
  obtain ⟨t, rfl⟩ := intItems_at hv
  obtain ⟨h1, h2⟩ := argBest_lt (numAt xs) (xs.size - 1)
  refine ⟨.int _, H, I.kept hk, ⟨t, rfl⟩, q _ ?_ fun a ha => ?_⟩
  · rw [hns, numAt_eq]
    exact getD_mem (by rw [List.length_map, Array.length_toList]; omega)
  · rw [hns] at ha
    obtain ⟨j, hj, rfl⟩ := mem_getD ha
    rw [List.length_map, Array.length_toList] at hj
    rw [← numAt_eq]
    exact h2 j (by omega)
theorem call_sorted : CallR X (.builtin "sorted") (fun xs H Q => ∃ (p : Addr) (ns : List Int), xs = [.ref p] ∧ SqL X.K H p (ns.map V.int) ∧ ns.length < 64 ∧ ∀ (ns' : List Int) (l : Addr), ns'.Perm ns → ns'.Pairwise (· ≤ ·) → H l = none → Q (.ref l) (upd H l (.lst (ns'.map V.int)))) := by
  intro pins s σ H xs us Q I r h
  obtain ⟨p, ns, rfl, hq, h64, q⟩ := h
  obtain ⟨u, rfl, rx⟩ := vals1 r
  cases rx
  obtain ⟨its, r', pl, hz⟩ := I.list hq
  have hi := intsAre_of r'
  have hlen := hi.length
  rw [List.length_map] at hz
  refine sorted_ints pl.isList hi (by omega) fun out ns' a1 a2 a3 => ?_
  obtain ⟨e, he⟩ := sortedAll_at s.heap its out
  have hp := a2.length_eq
  refine ⟨.ref (s.heap.objs.size + 1), _, I.laid (t' := s.toks) (o := .lst (ns'.map V.int)) (fun b ob z => sortedAll_old z) (Nat.le_succ _) ?_, rfl, q ns' _ a2 a3 (I.hok.fresh (Nat.le_succ _))⟩
  refine ⟨by rw [List.length_map, hp]; exact hz, out.toList, e, vals_ints a1, ?_⟩
  rw [Array.toArray_toList]
  exact he
def rIndex (K : PySem.W.Frag) : V → List V → Hp → VK → Prop := fun x vs H Q => ∃ (l : Addr) (ns : List Int) (k : Int), x = .ref l ∧ vs = [.int k] ∧ SqL K H l (ns.map V.int) ∧ k ∈ ns ∧ Q (.int (ns.idxOf k : Nat)) H
theorem mt_index : MtM X "list.index" (rIndex X.K) := by
  intro pins s σ H x vs v us Q I rx rv h
  obtain ⟨l, ns, k, rfl, rfl, hH, hk, q⟩ := h
  cases rx
  obtain ⟨u, rfl, t, rfl⟩ := rv.one
  obtain ⟨its, r, pl, hz⟩ := I.list hH
  have hi := intsAre_of r
  rw [List.length_map] at hz
  have hl := pl.isList
  obtain ⟨⟨cls, dd, data, sl⟩, ho, hc, n, hd⟩ := id hl
  simp only at hc hd
  subst hc hd
  have hlen := hi.length
  have hj : ns.idxOf k < ns.length := List.idxOf_lt_length_iff.mpr hk
  have hb := line63
  refine call_meets PySem.F.slot_list_index ⟨_, ho, rfl⟩ PySem.F.entry_list_index (PySem.F.args_list_index_2 _ _)
    (SeqAt.list_indexAt l its.toArray n dd sl (.int k t) (isInt k) (ns.idxOf k) (by simpa [hlen] using hj) (by omega) ?_ ?_) ⟨ho, fun y hy => (eq_isInt k t hi y (by simpa using hy)).at _ _, ?_⟩
  · show isInt k its[ns.idxOf k] = true
    rw [isInt_at k hi _ (by omega) hj]
    simpa using List.getElem_idxOf hj
  · intro j hjs hlt
    show isInt k its[j] = false
    rw [isInt_at k hi j (by simpa using hjs) (by omega)]
    exact ne_of_lt_idxOf hlt _
  · exact ⟨.int (ns.idxOf k : Nat), H, I.tok _, ⟨_, rfl⟩, q⟩
/-- == and != of two lists of ints -/
def rEqL (K : PySem.W.Frag) (f : Bool → Bool) : R2 := fun x y H Q => ∃ (a b : Addr) (ns ms : List Int), x = .ref a ∧ y = .ref b ∧ SqL K H a (ns.map V.int) ∧ SqL K H b (ms.map V.int) ∧ Q (.bl (f (decide (ns = ms)))) H
theorem op_eqL (hu : X.A.units + 64 < cLine) : OpR X (compareOp .Eq) (rEqL X.K id) := by
  intro pins s σ H x y v u Q I rx ry h
  obtain ⟨a, b, ns, ms, rfl, rfl, ha, hb, q⟩ := h
  cases rx
  cases ry
  obtain ⟨i1, r1, p1, _⟩ := I.list ha
  obtain ⟨i2, r2, p2, _⟩ := I.list hb
  exact PySem.W.eq_intsK p1.isList (intsAre_of r1) p2.isList (intsAre_of r2) hu ⟨.bl _, H, I, rfl, q⟩
theorem op_neL (hu : X.A.units + 64 < cLine) : OpR X (compareOp .NotEq) (rEqL X.K not) := by
  intro pins s σ H x y v u Q I rx ry h
  obtain ⟨a, b, ns, ms, rfl, rfl, ha, hb, q⟩ := h
  cases rx
  cases ry
  obtain ⟨i1, r1, p1, _⟩ := I.list ha
  obtain ⟨i2, r2, p2, _⟩ := I.list hb
  exact PySem.W.ne_intsK p1.isList (intsAre_of r1) p2.isList (intsAre_of r2) hu ⟨.bl _, H, I, rfl, q⟩
/-- isinstance(x, C), C a built-in type or an own class -/
def clsV : V → Option Value
  | .ty n => some (.type n)
  | .ref C => some (.ref C)
  | _ => none
theorem call_isinst : CallR X (.builtin "isinstance") (fun xs H Q => ∃ x c cv t b, xs = [x, c] ∧ clsV c = some cv ∧ TyOf X.K H x t ∧ PySem.W.kitOne X.K t cv = some b ∧ Q (.bl b) H) := by
  intro pins s σ H xs us Q I r h
  obtain ⟨x, c, cv, t, b, rfl, hcv, ty, e, q⟩ := h
  obtain ⟨u, w', rfl, rx, rc⟩ := vals2 r
  have ec : w' = cv := by
    cases c with
    | ty n => cases hcv; exact rc
    | ref C => cases hcv; exact rc
    | _ => cases hcv
  subst ec
  exact isinst_ok I rx ty e fun tk => ⟨.bl b, H, I.tok tk, rfl, q⟩
/-- e[::-1] -/
def tRev (K : PySem.W.Frag) (te ts : TE) : TE := fun σ H Q => te σ H fun x H1 => ts σ H1 fun k H2 => k = .int (-1) ∧ ∃ a xs, x = .ref a ∧ SqL K H2 a xs ∧ ∀ p, H2 p = none → Q (.ref p) (upd H2 p (.lst xs.reverse))
theorem pe_rev {e st : Expr} {te ts : TE} {p2 pos : Pos} (he : PE X e te) (hst : PE X st ts) : PE X (.Subscript e (.Slice none none (some st) p2) pos) (tRev X.K te ts) := by
  intro pins s σ H Q I h
  refine Subscript_ (thn (he pins s σ H _ I h) fun v s1 ⟨x, H1, I1, r1, q1⟩ => ?_)
  refine wpAny_Slice ?_
  rw [evalPart_none, evalPart_some]
  refine wpAny_pure (wpAny_pure (thn (hst pins s1 σ H1 _ I1 q1) fun vk s3 ⟨k, H3, I3, rk, q3⟩ => ?_))
  obtain ⟨rfl, a, xs, rfl, hx, q⟩ := q3
  obtain ⟨t, rfl⟩ := rk
  cases r1
  have I4 : Inv X pins σ H3 { s3 with heap := s3.heap.push { cls := .type "slice", data := .fields #[.none, .none, .int (-1) t] } } := I3.kept (t' := s3.toks) fun b ob q => Heap.get?_push_of_some _ q
  obtain ⟨its, r, ht, hz⟩ := I4.list hx
  have hlen := r.length
  show wpAny (model X.prog X.w) X.A (subscriptTail e (.Slice none none (some st) p2) (.ref a) (.ref s3.heap.objs.size)) (EP X pins σ Q) X.xe { s3 with heap := s3.heap.push { cls := .type "slice", data := .fields #[.none, .none, .int (-1) t] } }
  refine tail_any (ops := [.ref a, .ref s3.heap.objs.size]) ht.isList.typeIs slot_list_getitem.lookup (wpAny_getItem_list_slice ht.isList (Heap.IsSliceOf.new ..) .none .none (.int (-1) t) (by simp) ?_ (by rw [List.size_toArray] <;> omega)) (by with_unfolding_all rfl)
  rw [PySem.W.krv_pick]
  have hn := I4.hok.fresh (Nat.le_refl _)
  refine ⟨.ref _, _, I4.laid (t' := s3.toks) (o := .lst xs.reverse) (fun b ob q => Heap.get?_push_of_some _ q) (Nat.le_refl _) ?_, rfl, q _ hn⟩
  exact ⟨by rw [List.length_reverse]; exact hz, its.reverse, 0, r.reverse, Heap.get?_push_size _ rfl⟩
end
end L2

set_option Elab.async false
set_option linter.all false
set_option maxRecDepth 100000
set_option maxHeartbeats 4000000
namespace L2
open PySem PySem.Spec PyProof.Rows

/-! ### a list comprehension with one for over a name, its tests and its element; nothing is raised within -/
theorem closure_go (env : Env) : ∀ (names : List (Str × NameKind)) (acc : List (Str × Addr)), (∀ y ∈ names, y.2 = .free → ∃ c, env.cells.lookup y.1 = some c) → (∀ y c, acc.lookup y = some c → env.cells.lookup y = some c) →
    ∃ cl, (forIn names acc (fun (x : Str × NameKind) (r : List (Str × Addr)) => if (x.2 == NameKind.free) = true then (cellOf env x.1 >>= fun a => (pure (ForInStep.yield ((x.1, a) :: r)) : Sem _)) else pure (ForInStep.yield r)) : Sem (List (Str × Addr))) = pure cl ∧
      (∀ y c, cl.lookup y = some c → env.cells.lookup y = some c) ∧ (∀ y, (∃ c, acc.lookup y = some c) → ∃ c, cl.lookup y = some c) ∧ ∀ y ∈ names, y.2 = .free → ∃ c, cl.lookup y.1 = some c
  | [], acc, _, ha => ⟨acc, rfl, ha, fun _ z => z, fun _ z => nomatch z⟩
  | (n, k) :: r, acc, hn, ha => by
    have hr : ∀ y ∈ r, y.2 = .free → ∃ c, env.cells.lookup y.1 = some c := fun y hy => hn y (List.mem_cons_of_mem _ hy)
    by_cases hk : k = .free
    · subst hk
      obtain ⟨c, hc⟩ := hn (n, .free) List.mem_cons_self rfl
      have hc' : env.cells.lookup n = some c := hc
      have ha' : ∀ y c', ((n, c) :: acc).lookup y = some c' → env.cells.lookup y = some c' := fun y c' e => by
        rw [List.lookup_cons] at e
        cases hy : (y == n) with
        | true =>
          rw [hy] at e
          have e' : c = c' := Option.some.inj e
          have : y = n := eq_of_beq hy
          rw [this, ← e']
          exact hc'
        | false =>
          rw [hy] at e
          exact ha y c' e
      obtain ⟨cl, e1, e2, e3, e4⟩ := closure_go env r ((n, c) :: acc) hr ha'
      have self : ∃ c', ((n, c) :: acc).lookup n = some c' := ⟨c, by rw [List.lookup_cons, beq_self_eq_true]⟩
      refine ⟨cl, ?_, e2, fun y z => e3 y ?_, fun y hy hf => ?_⟩
      · rw [List.forIn_cons, ← e1]
        have ec : cellOf env n = pure c := by
          unfold cellOf
          rw [hc']
        show (if (NameKind.free == NameKind.free) = true then (cellOf env n >>= fun a => (pure (ForInStep.yield ((n, a) :: acc)) : Sem _)) else pure (ForInStep.yield acc)) >>= _ = _
        rw [if_pos (by decide), ec]
        rfl
      · obtain ⟨c', z⟩ := z
        rw [List.lookup_cons]
        cases hy : (y == n) with
        | true => exact ⟨c, rfl⟩
        | false => exact ⟨c', z⟩
      · rcases List.mem_cons.mp hy with e | hy
        · subst e
          exact e3 n self
        · exact e4 y hy hf
    · obtain ⟨cl, e1, e2, e3, e4⟩ := closure_go env r acc hr ha
      refine ⟨cl, ?_, e2, e3, fun y hy hf => ?_⟩
      · rw [List.forIn_cons, ← e1]
        have hb : ¬ ((k == NameKind.free) = true) := by simpa using hk
        show (if (k == NameKind.free) = true then (cellOf env n >>= fun a => (pure (ForInStep.yield ((n, a) :: acc)) : Sem _)) else pure (ForInStep.yield acc)) >>= _ = _
        rw [if_neg hb]
        rfl
      · rcases List.mem_cons.mp hy with e | hy
        · subst e
          exact absurd hf hk
        · exact e4 y hy hf
theorem closure_of {scope : Scope} {env : Env} (hn : ∀ y ∈ scope.names, y.2 = .free → ∃ c, env.cells.lookup y.1 = some c) :
    ∃ cl, closureFor scope env = pure cl ∧ (∀ y c, cl.lookup y = some c → env.cells.lookup y = some c) ∧ ∀ y ∈ scope.names, y.2 = .free → ∃ c, cl.lookup y.1 = some c := by
  obtain ⟨cl, e1, e2, _, e4⟩ := closure_go env scope.names [] hn (fun y c z => nomatch z)
  refine ⟨cl, ?_, e2, e4⟩
  exact (congrArg (fun m : Sem (List (Str × Addr)) => m >>= fun z => pure z) e1).trans rfl

/-- the block's context -/
def blockCx (X : Cx) (scope : Scope) (x : Str) (M : List Str) (cl : List (Str × Addr)) (pn : List (Addr × Obj)) (ex : List Addr) (s3 : Shared) (H3 : Hp) : Cx where
  prog := X.prog
  w := X.w
  K := X.K
  mg := X.mg
  base := X.base
  A := X.A
  N := M ++ [x]
  s₀ := s3
  H₀ := H3
  env := compEnvC scope cl s3.heap.objs.size X.env
  outer := X.stack
  stack := X.stack
  ex := ex
  fn := fun _ => false
  calm := X.calm
  pn := pn
  xe := fun _ _ => False

/-- the tests of a comprehension -/
def PIf (X : Cx) (ifs : List Expr) (t : TT) : Prop :=
  ∀ (pins : List (Addr × Obj)) (s : Shared) (σ : St) (H : Hp) (Q : Bool → Hp → Prop), Inv X pins σ H s → t σ H Q →
    wpAny (model X.prog X.w) X.A (forIn ifs true fun c r => if r = true then do let ok ← isTrue c X.env (eval c X.env); pure (ForInStep.yield ok) else pure (ForInStep.yield r)) (TP X pins σ Q) X.xe s
def tYes : TT := fun _ H Q => Q true H
theorem pif_nil {X : Cx} : PIf X [] tYes := fun _ _ _ H _ I h => wpAny_tests_nil ⟨H, I, h⟩
theorem pif_one {X : Cx} {c : Expr} {t : TT} (h : PT X c t) : PIf X [c] t := fun pins s σ H Q I hw => wpAny_tests_one (h pins s σ H Q I hw)

/-- the reading: W by the turn, a measure, the items so far, the heap -/
def wLC (tt : TT) (te : TE) (σ : St) (F : List V → Hp → Prop) (J : It) (H1 : Hp) : Prop := ∃ W : Nat → Nat → List V → Hp → Prop, (∃ m, W 0 m [] H1) ∧ ∀ i m ys H2, W i m ys H2 →
  (J.stop i H2 ∧ F ys H2) ∨ (J.go i H2 ∧ ys.length < sizeLine ∧ ∃ N : List V → Hp → Prop, (∀ ys' H', N ys' H' → ∃ m', m' < m ∧ W (i + 1) m' ys' H') ∧
    ∀ v H3, J.yld i H2 v H3 → tt (σ ++ [some v]) H3 fun ok H4 => if ok = true then te (σ ++ [some v]) H4 fun y H5 => N (ys ++ [y]) H5 else N ys H4)
def tLC (wi : TI) (tt : TT) (te : TE) : TE := fun σ H Q => wi σ H (wLC tt te σ fun ys H2 => ∀ D, H2 D = none → Q (.ref D) (upd H2 D (.lst ys)))

section
variable {X : Cx} {scope : Scope} {x : Str} {M : List Str} {px pos : Pos} {elt iter : Expr} {ifs : List Expr} {wi : TI} {tt : TT} {te : TE}

/-- what the scope of the block must be -/
structure LcScope (X : Cx) (scope : Scope) (x : Str) (M : List Str) : Prop where
  kind : scope.kind = .function
  nocell : ∀ y ∈ scope.names, y.2 ≠ .cell
  names : ∀ y ∈ scope.names, y.2 = .local → scope.names.lookup y.1 = some .local
  own : scope.names.lookup x = some .local
  new : x ∉ M
  loc : ∀ y ∈ M, scope.names.lookup y ≠ some .local
  mlen : M.length = X.N.length
  rel : ∀ (i : Nat) (y : Str), M[i]? = some y → X.N[i]? = some y ∨ scope.names.lookup y = none
  nodup : X.N.Nodup → M.Nodup
  free : ∀ y ∈ scope.names, y.2 = .free → X.env.kindOf y.1 = some .cell ∨ X.env.kindOf y.1 = some .free

theorem LcScope.mk' {N : List Str} {sc : Scope} (eN : X.N = N) (eS : X.env.scope = sc) (kind : scope.kind = .function) (nocell : ∀ y ∈ scope.names, y.2 ≠ .cell) (names : ∀ y ∈ scope.names, y.2 = .local → scope.names.lookup y.1 = some .local)
    (own : scope.names.lookup x = some .local) (new : x ∉ N) (loc : ∀ y ∈ N, scope.names.lookup y ≠ some .local) (free : ∀ y ∈ scope.names, y.2 = .free → sc.names.lookup y.1 = some .cell ∨ sc.names.lookup y.1 = some .free) : LcScope X scope x N := by
  subst eN eS
  exact ⟨kind, nocell, names, own, new, loc, rfl, fun _ _ e => .inl e, id, free⟩
/-- the block's own name is also one of the def's: that one is hidden within (M: the def's names, another in its place) -/
theorem LcScope.mkS {M N : List Str} {sc : Scope} (eN : X.N = N) (eS : X.env.scope = sc) (kind : scope.kind = .function) (nocell : ∀ y ∈ scope.names, y.2 ≠ .cell) (names : ∀ y ∈ scope.names, y.2 = .local → scope.names.lookup y.1 = some .local)
    (own : scope.names.lookup x = some .local) (new : x ∉ M) (loc : ∀ y ∈ M, scope.names.lookup y ≠ some .local) (mlen : M.length = N.length) (rel : ∀ i, i < M.length → M.getD i "" = N.getD i "" ∨ scope.names.lookup (M.getD i "") = none) (nd : M.Nodup)
    (free : ∀ y ∈ scope.names, y.2 = .free → sc.names.lookup y.1 = some .cell ∨ sc.names.lookup y.1 = some .free) : LcScope X scope x M := by
  subst eN eS
  refine ⟨kind, nocell, names, own, new, loc, mlen, fun i y e => ?_, fun _ => nd, free⟩
  obtain ⟨hi, ey⟩ := List.getElem?_eq_some_iff.mp e
  have h := rel i hi
  rw [List.getD_eq_getElem?_getD, e, List.getD_eq_getElem?_getD, List.getElem?_eq_getElem (by omega)] at h
  rcases h with h | h
  · left
    rw [List.getElem?_eq_getElem (by omega)]
    exact congrArg some h.symm
  · exact .inr h
theorem lookup_mem {α : Type} [DecidableEq α] {y : Str} {k : α} : ∀ {l : List (Str × α)}, l.lookup y = some k → (y, k) ∈ l
  | [], h => nomatch h
  | (n, j) :: r, h => by
    rw [List.lookup_cons] at h
    cases hy : (y == n) with
    | true =>
      rw [hy] at h
      have e : j = k := Option.some.inj h
      have e2 : y = n := eq_of_beq hy
      rw [e, e2]
      exact List.mem_cons_self
    | false =>
      rw [hy] at h
      exact List.mem_cons_of_mem _ (lookup_mem h)
/-- relabelled: what is a cell or free there was free -/
theorem relabel_look {env : Env} {y : Str} : ∀ {names : List (Str × NameKind)}, (∀ z ∈ names, z.2 ≠ .cell) →
    ((names.map fun (n, k) => if (k == NameKind.free && env.scope.kind == .function && env.kindOf n == some .cell) then (n, NameKind.cell) else (n, k)).lookup y = some .cell ∨
     (names.map fun (n, k) => if (k == NameKind.free && env.scope.kind == .function && env.kindOf n == some .cell) then (n, NameKind.cell) else (n, k)).lookup y = some .free) → names.lookup y = some .free
  | [], _, h => by rcases h with h | h <;> exact nomatch h
  | (n, k) :: r, hc, h => by
    have ih := @relabel_look env y r (fun z hz => hc z (List.mem_cons_of_mem _ hz))
    rw [List.map_cons] at h
    rw [List.lookup_cons]
    by_cases hq : (k == NameKind.free && env.scope.kind == .function && env.kindOf n == some .cell) = true
    · have hk : k = .free := by
        rw [Bool.and_eq_true, Bool.and_eq_true] at hq
        exact eq_of_beq hq.1.1
      simp only [hq, if_true, List.lookup_cons] at h
      cases hy : (y == n) with
      | true => rw [hk]
      | false =>
        rw [hy] at h
        exact ih h
    · simp only [hq, Bool.false_eq_true, if_false, List.lookup_cons] at h
      cases hy : (y == n) with
      | true =>
        rw [hy] at h
        rcases h with h | h
        · exact absurd (Option.some.inj h) (hc (n, k) List.mem_cons_self)
        · exact h
      | false =>
        rw [hy] at h
        exact ih h
theorem relabel_local {env : Env} {y : Str} : ∀ {names : List (Str × NameKind)},
    (names.map fun (n, k) => if (k == NameKind.free && env.scope.kind == .function && env.kindOf n == some .cell) then (n, NameKind.cell) else (n, k)).lookup y = some .local → names.lookup y = some .local
  | [], h => nomatch h
  | (n, k) :: r, h => by
    have ih := @relabel_local env y r
    rw [List.map_cons] at h
    rw [List.lookup_cons]
    by_cases hq : (k == NameKind.free && env.scope.kind == .function && env.kindOf n == some .cell) = true
    · simp only [hq, if_true, List.lookup_cons] at h
      cases hy : (y == n) with
      | true => rw [hy] at h; exact nomatch h
      | false =>
        rw [hy] at h
        exact ih h
    · simp only [hq, Bool.false_eq_true, if_false, List.lookup_cons] at h
      cases hy : (y == n) with
      | true => rw [hy] at h; exact h
      | false =>
        rw [hy] at h
        exact ih h

theorem FpOk.lt_stack {pins : List (Addr × Obj)} {σ : St} {H : Hp} {s : Shared} {b : Addr} (I : Inv X pins σ H s) (f : FpOk X pins H b) : b ∉ frs X.stack := fun hb => by
  rcases List.mem_cons.mp (I.stkSub b hb) with e | e
  · exact f.2.1 e
  · exact f.2.2.1 e

/-- the block begins -/
theorem block_start {pins : List (Addr × Obj)} {σ : St} {H : Hp} {s3 : Shared} {cl : List (Str × Addr)} {ex : List Addr} {h1 : Heap} {m1 : Str → Option Value} {tk : Nat} (S : LcScope X scope x M) (I : Inv X pins σ H s3)
    (c1 : ∀ y c, cl.lookup y = some c → X.env.cells.lookup y = some c) (c2 : ∀ y ∈ scope.names, y.2 = .free → ∃ c, cl.lookup y.1 = some c)
    (hex : ∀ b ∈ ex, FpOk X pins H b ∧ b < s3.heap.objs.size) (hn : h1.Ns s3.heap.objs.size m1) (hk : ∀ b o, s3.heap.get? b = some o → h1.get? b = some o) :
    Inv (blockCx X scope x M cl (X.pn ++ pins) ex s3 H) [] (σ ++ [none]) H { s3 with heap := h1, toks := tk } := by
  have szs : X.s₀.heap.objs.size ≤ s3.heap.objs.size := I.sz
  have hfresh : H s3.heap.objs.size = none := I.hok.fresh (Nat.le_refl _)
  refine ⟨⟨I.ok.mod, ?_, I.ok.glob, I.ok.blt, Nat.le_refl _, ?_, ?_, ?_, I.ok.hd, I.ok.frames, .inl rfl, ?_, I.bs, Nat.le_trans I.ok.bsz szs, ?_, ?_, I.stack, I.stkFree⟩, rfl, I.bare, Un.kept hk, ⟨m1, hn, ?_⟩, ?_, hfresh, ?_, ?_, I.hok.kept hk, ?_⟩
  · exact S.kind
  · exact fun y z c h1 h2 => I.ok.inj y z c (c1 y c h1) (c1 z c h2)
  · intro y hy
    have hy' := relabel_look (env := X.env) S.nocell hy
    exact c2 (y, .free) (lookup_mem hy') rfl
  · intro y c z _
    exact absurd z Bool.false_ne_true
  · intro b hb
    obtain ⟨f, hlt⟩ := hex b hb
    exact ⟨Nat.ne_of_lt hlt, fun y c e => f.2.2.2.2.1 y c (c1 y c e)⟩
  · intro b o e hb
    obtain ⟨f, _⟩ := hex b hb
    rcases f.2.2.2.1 with z | z
    · exact I.ok.noex b o e z
    · exact absurd (Nat.lt_of_lt_of_le (Heap.lt_size e) (Nat.le_trans I.ok.bsz z)) (Nat.lt_irrefl _)
  · intro b hb
    exact (hex b hb).1.lt_stack I
  · intro i y v e1 e2 e3
    have e1' : (M ++ [x])[i]? = some y := e1
    have hml := S.mlen
    have hil : i < X.N.length := by
      by_cases hi : i < X.N.length
      · exact hi
      · exfalso
        have hl := I.len
        rw [List.getElem?_append_right (by omega)] at e2
        cases hj : i - σ.length with
        | zero => rw [hj] at e2; exact nomatch e2
        | succ j => rw [hj] at e2; exact nomatch e2
    have e1' : M[i]? = some y := by
      rw [List.getElem?_append_left (by omega)] at e1'
      exact e1'
    have hyM : y ∈ M := List.mem_of_getElem? e1'
    have e2' : σ[i]? = some (some v) := by
      rw [List.getElem?_append_left (by rw [I.len]; exact hil)] at e2
      exact e2
    have hvis : scope.names.lookup y = some .free := by
      rcases e3 with e3 | e3
      · exact absurd (relabel_local e3) (S.loc y hyM)
      · exact relabel_look (env := X.env) S.nocell e3
    have e1' : X.N[i]? = some y := by
      rcases S.rel i y e1' with z | z
      · exact z
      · rw [hvis] at z
        cases z
    have hmem := lookup_mem hvis
    obtain ⟨c, hc⟩ := c2 (y, .free) hmem rfl
    have hcX := c1 y c hc
    have hkX := S.free (y, .free) hmem rfl
    obtain ⟨m, hm, hl⟩ := I.loc
    have visX : Vis X.env.scope y := by
      rcases hkX with z | z
      · exact .inr (.inl z)
      · exact .inr (.inr z)
    obtain ⟨u, ru, lk⟩ := hl i y v e1' e2' visX
    refine ⟨u, ru, .inr ⟨?_, c, hc, ?_⟩⟩
    · rcases e3 with e3 | e3
      · exact absurd (relabel_local e3) (S.loc y hyM)
      · exact e3
    · rcases lk with ⟨lk, _⟩ | ⟨_, c', hc', hcell⟩
      · exfalso
        rcases hkX with z | z <;> (rw [z] at lk; cases lk)
      · rw [hcX] at hc'
        cases hc'
        obtain ⟨o, ho, hd⟩ := hcell
        exact ⟨o, hk c o ho, hd⟩
  · intro y c e
    obtain ⟨v, o, ho, hd⟩ := I.cell y c (c1 y c e)
    exact ⟨v, o, hk c o ho, hd⟩
  · intro y c e
    exact I.freeC y c (c1 y c e)
  · intro p hp
    have hp' : p ∈ X.pn ++ pins := by simpa [blockCx] using hp
    obtain ⟨a1, a2, a3, a4, a5⟩ := I.pin p hp'
    refine ⟨hk _ _ a1, a2, Nat.ne_of_lt (Heap.lt_size a1), ?_, a5⟩
    intro hb
    rcases List.mem_cons.mp (I.stkSub p.1 hb) with e | e
    · exact a3 e
    · exact a4 e
  · show (σ ++ [none]).length = (M ++ [x]).length
    rw [List.length_append, List.length_append, I.len, S.mlen]
    rfl
/-- the block ends: the list at D is told -/
theorem block_end {pins bp : List (Addr × Obj)} {σ σ' : St} {H3 H : Hp} {s3 s : Shared} {cl : List (Str × Addr)} {pn : List (Addr × Obj)} {ex : List Addr} {D : Addr} {ys : List V} {its : List Value} {n : Nat} (I3 : Inv X pins σ H3 s3)
    (hex : ∀ b ∈ ex, FpOk X pins H3 b) (hD : D ∈ ex) (I : Inv (blockCx X scope x M cl pn ex s3 H3) bp σ' H s) (hDn : H D = none)
    (ho : s.heap.get? D = some { cls := .type "list", data := .seq its.toArray n }) (hv : Vals ys its) (hz : ys.length ≤ sizeLine) :
    Inv X pins σ (upd H D (.lst ys)) s ∧ FpOk X pins (upd H D (.lst ys)) s3.heap.objs.size := by
  have hDC : s3.heap.objs.size ≠ D := fun e => (I.ok.exf D hD).1 e.symm
  have un : Un (frs X.stack) ex H3 H s3.heap s.heap := I.base
  have un' : Un (frs X.stack) ex H3 (upd H D (.lst ys)) s3.heap s.heap := by
    have neD : ∀ b, b ∉ ex → b ≠ D := fun b hb z => hb (z ▸ hD)
    have neT : ∀ b u, H b = some u → b ≠ D := fun b u e z => by rw [z, hDn] at e; cases e
    refine ⟨un.keep, un.slot, fun b o e n hb => ?_, un.there, fun b xs e => ?_, fun b o u e => ?_, fun b ps e => ?_⟩
    · rw [upd_ne (neD b hb)]
      exact un.free b o e n hb
    · rw [upd_ne (neT b _ (un.tups b xs e))]
      exact un.tups b xs e
    · rw [upd_ne (neT b _ (un.frzs b o u e))]
      exact un.frzs b o u e
    · obtain ⟨more, e'⟩ := un.tbls b ps e
      exact ⟨more, by rw [upd_ne (neT b _ e')]; exact e'⟩
  have hok : HOk X.prog X.w (upd H D (.lst ys)) s.heap := fun b u e => by
    by_cases hb : b = D
    · subst hb
      rw [upd_same] at e
      cases e
      exact ⟨hz, its, n, hv, ho⟩
    · rw [upd_ne hb] at e
      have neT : ∀ b u, H b = some u → b ≠ D := fun b u e z => by rw [z, hDn] at e; cases e
      exact (I.hok b u e).stay (fun c v _ q => q) (fun c q => by rw [upd_ne (neT c _ q)]; exact q) fun c xs q => by rw [upd_ne (neT c _ q)]; exact q
  have J := Inv.call' (s' := s) (ch := ex) I3 I.os un' hok I.bare fun b hb => ⟨(hex b hb).2.2.2.1, (hex b hb).2.1, (hex b hb).2.2.2.2.1, (hex b hb).2.2.2.2.2⟩
  refine ⟨J, I3.fpOk (Nat.le_refl _) ?_⟩
  rw [upd_ne hDC]
  exact I.free

theorem Inv.pin_one {pins : List (Addr × Obj)} {σ : St} {H : Hp} {s : Shared} {D : Addr} {o : Obj} (I : Inv X [] σ H s) (h1 : s.heap.get? D = some o) (h2 : H D = none) (h3 : D ≠ X.env.locals) (h4 : D ∉ X.fs) (h5 : ∀ v, o.data ≠ .cell v) : Inv X [(D, o)] σ H s :=
  I.pins_of fun p hp => by
    obtain rfl : p = (D, o) := List.mem_singleton.mp hp
    exact ⟨h1, h2, h3, h4, h5⟩

/-- the loop of a comprehension -/
theorem lc_core {pins : List (Addr × Obj)} {σ : St} {H2 : Hp} {s2 : Shared} {it : Addr} {fp : List Addr} {tn : Nat → Heap → Prop} {J : It} {F : List V → Hp → Prop} {E : Value → Shared → Prop} {RR : Value → Addr → Result → Shared → Prop} {cl : List (Str × Addr)}
    (hc : X.calm = true) (nd : X.N.Nodup) (S : LcScope X scope x M) (c1 : ∀ y c, cl.lookup y = some c → X.env.cells.lookup y = some c) (c2 : ∀ y ∈ scope.names, y.2 = .free → ∃ c, cl.lookup y.1 = some c)
    (hif : ∀ cl pn ex s3 H3, PIf (blockCx X scope x M cl pn ex s3 H3) ifs tt) (he : ∀ cl pn ex s3 H3, PE (blockCx X scope x M cl pn ex s3 H3) elt te)
    (I2 : Inv X pins σ H2 s2) (T : Turn X.prog X.w X.K (.Name x px) J fp it tn) (st2 : tn 0 s2.heap) (f2 : ∀ b ∈ fp, FpOk X pins H2 b) (w : wLC tt te σ F J H2)
    (hfin : ∀ D C ys H' s', Inv X pins σ (upd H' D (.lst ys)) s' → FpOk X pins (upd H' D (.lst ys)) C → (∃ m, s'.heap.Ns C m) → H' D = none → F ys H' → RR (.ref D) C (.ok .next) s') :
    wpAny (model X.prog X.w) X.A (newList []) (fun acc s₃ => wpAny (model X.prog X.w) X.A (newFunctionEnv scope X.env.globals cl [] X.env.qual none .none (some X.env)) (fun cenv s₄ =>
      codeAny (model X.prog X.w) X.A (.compStart (.ListComp elt [⟨.Name x px, iter, ifs, 0⟩] scope pos) 0 (.ref it) acc { cenv with scope := relabel scope X.env }) (RR acc cenv.locals) s₄) E s₃) E s2 := by
  obtain ⟨W, ⟨m0, w0⟩, turn⟩ := w
  have hl : σ.length = X.N.length := I2.len
  refine wpAny_newObj_type (wpAny_newFunctionEnv S.nocell (by intro y hy; simp at hy) (fun h₁ hns₁ hsb₁ => ?_) S.kind)
  dsimp only at hns₁ hsb₁ ⊢
  have I3 : Inv X pins σ H2 { s2 with heap := s2.heap.push { cls := .type "list", dict := none, data := .seq ([] : List Value).toArray } } := I2.kept (t' := s2.toks) fun b ob q => Heap.get?_push_of_some _ q
  have hD3 : (s2.heap.push { cls := .type "list", dict := none, data := .seq ([] : List Value).toArray }).get? s2.heap.objs.size = some { cls := .type "list", dict := none, data := .seq ([] : List Value).toArray } := Heap.get?_push_size _ rfl
  have hC : (s2.heap.push { cls := .type "list", dict := none, data := .seq ([] : List Value).toArray }).objs.size = s2.heap.objs.size + 1 := Heap.size_push ..
  generalize hs3 : ({ s2 with heap := s2.heap.push { cls := .type "list", dict := none, data := .seq ([] : List Value).toArray } } : Shared) = s3 at I3
  have hh3 : s3.heap = s2.heap.push { cls := .type "list", dict := none, data := .seq ([] : List Value).toArray } := by rw [← hs3]
  have ht3 : s3.toks = s2.toks := by rw [← hs3]
  have hg3 : s3.gens = s2.gens := by rw [← hs3]
  have hd3 : s3.drawn = s2.drawn := by rw [← hs3]
  have ho3 : s3.os = s2.os := by rw [← hs3]
  rw [← hh3] at hns₁ hsb₁ hD3 hC ⊢
  have es : ({ s2 with heap := h₁, toks := s2.toks + ([] : List (Str × Value)).length } : Shared) = { s3 with heap := h₁, toks := s3.toks + ([] : List (Str × Value)).length } := by
    rw [← hs3]
  have hDlt : s2.heap.objs.size < s3.heap.objs.size := by rw [hC]; exact Nat.lt_succ_self _
  have fD : FpOk X pins H2 s2.heap.objs.size := I2.fpOk (Nat.le_refl _) (I2.hok.fresh (Nat.le_refl _))
  have hex : ∀ b ∈ s2.heap.objs.size :: fp, FpOk X pins H2 b ∧ b < s3.heap.objs.size := fun b hb => by
    rcases List.mem_cons.mp hb with e | hb
    · rw [e]
      exact ⟨fD, hDlt⟩
    · obtain ⟨o, ho, _⟩ := T.obj _ _ st2 b hb
      exact ⟨f2 b hb, Nat.lt_trans (Heap.lt_size ho) hDlt⟩
  have neD : ∀ b ∈ fp, s2.heap.objs.size ≠ b := fun b hb => by
    obtain ⟨o, ho, _⟩ := T.obj _ _ st2 b hb
    exact Nat.ne_of_gt (Heap.lt_size ho)
  have hk : ∀ b o, s3.heap.get? b = some o → h₁.get? b = some o := fun b o e => hsb₁.extBut b o (Nat.ne_of_lt (Heap.lt_size e)) (Heap.get?_push_of_some _ e)
  have hk2 : ∀ b o, s2.heap.get? b = some o → h₁.get? b = some o := fun b o e => hk b o (by rw [hh3]; exact Heap.get?_push_of_some _ e)
  have I4 : Inv (blockCx X scope x M cl (X.pn ++ pins) (s2.heap.objs.size :: fp) s3 H2) [] (σ ++ [none]) H2 { s3 with heap := h₁, toks := s3.toks + ([] : List (Str × Value)).length } := block_start S I3 c1 c2 hex hns₁ hk
  generalize hX : blockCx X scope x M cl (X.pn ++ pins) (s2.heap.objs.size :: fp) s3 H2 = Xb at I4
  have eP : Xb.prog = X.prog := by rw [← hX]; rfl
  have eW : Xb.w = X.w := by rw [← hX]; rfl
  have eK : Xb.K = X.K := by rw [← hX]; rfl
  have eA : Xb.A = X.A := by rw [← hX]; rfl
  have eE : Xb.env = compEnvC scope cl s3.heap.objs.size X.env := by rw [← hX]; rfl
  have eN : Xb.N = M ++ [x] := by rw [← hX]; rfl
  have eX : Xb.xe = fun _ _ => False := by rw [← hX]; rfl
  have eC : Xb.calm = true := by rw [← hX]; exact hc
  have eF : Xb.fs = frs X.stack := by rw [← hX]; rfl
  have ePn : Xb.pn = X.pn ++ pins := by rw [← hX]; rfl
  have eEx : Xb.ex = s2.heap.objs.size :: fp := by rw [← hX]; rfl
  have hif' : PIf Xb ifs tt := by rw [← hX]; exact hif _ _ _ _ _
  have he' : PE Xb elt te := by rw [← hX]; exact he _ _ _ _ _
  have ndb : Xb.N.Nodup := by
    rw [eN, List.nodup_append]
    refine ⟨S.nodup nd, by simp, fun a ha b hb => ?_⟩
    obtain rfl := List.mem_singleton.mp hb
    exact fun e => S.new (e ▸ ha)
  have hxb : Xb.N[X.N.length]? = some x := by rw [eN, ← S.mlen]; simp
  have hlx : Xb.env.scope.names.lookup x = some .local := by rw [eE]; exact lookup_relabel_local S.own
  have fpB : ∀ {H' : Hp} {pl : List (Addr × Obj)} {b : Addr}, b ∈ s2.heap.objs.size :: fp → H' b = none → (∀ p ∈ pl, p.1 ≠ b) → FpOk Xb pl H' b := fun {H' pl b} hb hn hp => by
    obtain ⟨f, hlt⟩ := hex b hb
    refine ⟨hn, ?_, ?_, .inl (by rw [eEx]; exact hb), fun y c e => ?_, fun p hp' => ?_⟩
    · rw [eE]
      exact Nat.ne_of_lt hlt
    · rw [eF]
      exact f.lt_stack I3
    · rw [eE] at e
      exact f.2.2.2.2.1 y c (c1 y c e)
    · rcases List.mem_append.mp hp' with z | z
      · rw [ePn] at z
        exact f.2.2.2.2.2 p z
      · exact hp p z
  have loop : ∀ s4 : Shared, s4 = { s3 with heap := h₁, toks := s3.toks + ([] : List (Str × Value)).length } →
      codeAny (model X.prog X.w) X.A (.compLoop (.ListComp elt [⟨.Name x px, iter, ifs, 0⟩] scope pos) 0 (.ref it) (.ref s2.heap.objs.size) (compEnvC scope cl s3.heap.objs.size X.env)) (RR (.ref s2.heap.objs.size) s3.heap.objs.size) s4 := by
    rintro s4 rfl
    refine codeAny_compLoop_tests (fun k s' => ∃ (i : Nat) (ys : List V) (o : Option V) (H' : Hp) (its : List Value) (n : Nat), Inv Xb [] (σ ++ [o]) H' s' ∧ tn i s'.heap ∧ (∀ b ∈ s2.heap.objs.size :: fp, H' b = none) ∧
      s'.heap.get? s2.heap.objs.size = some { cls := .type "list", data := .seq its.toArray n } ∧ Vals ys its ∧ ys.length ≤ sizeLine ∧ W i k ys H') ?_ m0
      ⟨0, [], none, H2, [], 0, I4, T.keep _ _ _ st2 fun b _ o e => hk2 b o e, fun b hb => (hex b hb).1.1, hk _ _ hD3, .nil, Nat.zero_le _, w0⟩
    rintro k s' ⟨i, ys, o, H', its, n, I', st', fr', hoD, hv, hz, w'⟩
    have fDb : FpOk Xb [] H' s2.heap.objs.size := fpB List.mem_cons_self (fr' _ List.mem_cons_self) (fun p hp => nomatch hp)
    have I'p : Inv Xb [(s2.heap.objs.size, { cls := .type "list", data := .seq its.toArray n })] (σ ++ [o]) H' s' := I'.pin_one (pins := []) hoD (fr' _ List.mem_cons_self) fDb.2.1 fDb.2.2.1 (fun v z => by
      have z' : Data.seq its.toArray n = Data.cell v := z
      cases z')
    have fpP : ∀ {H'' : Hp}, (∀ b ∈ fp, H'' b = none) → ∀ b ∈ fp, FpOk Xb [(s2.heap.objs.size, { cls := .type "list", data := .seq its.toArray n })] H'' b := fun hn b hb =>
      fpB (List.mem_cons_of_mem _ hb) (hn b hb) fun p hp => by
        obtain rfl := List.mem_singleton.mp hp
        exact neD b hb
    rcases turn i k ys H' w' with ⟨stop, qf⟩ | ⟨go, hlt, N, hN, step⟩
    · have hd := T.done Xb eP eW eK eC i [(s2.heap.objs.size, { cls := .type "list", data := .seq its.toArray n })] s' (σ ++ [o]) H' (notedBy (model X.prog X.w) X.A (compEnvC scope cl s3.heap.objs.size X.env) fun e s' => RR (.ref s2.heap.objs.size) s3.heap.objs.size (.error e) s') I'p (fpP fun b hb => fr' b (List.mem_cons_of_mem _ hb)) st' stop
      rw [eA] at hd
      refine wpAny_mono hd (fun r s1 ⟨hr, I1⟩ => ?_) fun _ _ e => e
      subst hr
      have hp1 := (I1.pin _ (List.mem_append_right _ List.mem_cons_self)).1
      rw [← hX] at I1
      obtain ⟨m1, hm1, _⟩ := I1.loc
      obtain ⟨J1, J2⟩ := block_end (ys := ys) (its := its) (n := n) I3 (fun b hb => (hex b hb).1) List.mem_cons_self I1 (fr' _ List.mem_cons_self) hp1 hv hz
      exact hfin _ _ ys H' s1 J1 J2 ⟨m1, hm1⟩ (fr' _ List.mem_cons_self) qf
    · have hi := T.item Xb eP eW eK eC i [(s2.heap.objs.size, { cls := .type "list", data := .seq its.toArray n })] s' (σ ++ [o]) H' (notedBy (model X.prog X.w) X.A (compEnvC scope cl s3.heap.objs.size X.env) fun e s' => RR (.ref s2.heap.objs.size) s3.heap.objs.size (.error e) s') I'p (fpP fun b hb => fr' b (List.mem_cons_of_mem _ hb)) st' go
      rw [eA] at hi
      refine wpAny_mono hi (fun r s1 ⟨u, hr, h4⟩ => ?_) fun _ _ e => e
      subst hr
      show wpAny _ _ (letOwnedTupleGo (.Name x px) (.ref it) u >>= fun _ => assign (.Name x px) (compEnvC scope cl s3.heap.objs.size X.env) u) _ _ s1
      refine wpAny_bind (wpAny_mono h4 (fun _ s5 ⟨v, H5, I5, r5, y5, st5, fr5⟩ => ?_) fun _ _ e => e)
      have I5' := I5.pinned (fp := fp) (fpP fr5) (T.obj _ _ st5)
      have hst := pg_name (X := Xb) (pos := px) (i := X.N.length) ndb hxb (Or.inl hlx) (.inr hlx) _ s5 (σ ++ [o]) H5 v u (fun σ2 H2 => σ2 = σ ++ [some v] ∧ H2 = H5) I5' r5 ⟨by rw [← hl, List.set_append_right _ _ (Nat.le_refl _), Nat.sub_self]; rfl, rfl⟩
      rw [eP, eW, eA, eE, eX] at hst
      refine wpAny_mono hst (fun _ s6 ⟨σ6, H6, I6, e1, e2⟩ => ?_) fun _ _ z => z.elim
      subst e1 e2
      have hte := hif' _ s6 (σ ++ [some v]) _ _ I6 (step v _ y5)
      rw [eP, eW, eA, eE, eX] at hte
      refine wpAny_mono hte (fun ok s7 ⟨H7, I7, q7⟩ => ?_) fun _ _ z => z.elim
      have again : ∀ {H8 : Hp} {s8 : Shared}, Inv Xb ([(s2.heap.objs.size, { cls := .type "list", data := .seq its.toArray n })] ++ pinsAt fp s5.heap) (σ ++ [some v]) H8 s8 → tn (i + 1) s8.heap ∧ (∀ b ∈ s2.heap.objs.size :: fp, H8 b = none) ∧ s8.heap.get? s2.heap.objs.size = some { cls := .type "list", data := .seq its.toArray n } := fun {H8 s8} I8 => by
        have pD := I8.pin _ (List.mem_append_right _ (List.mem_append_left _ List.mem_cons_self))
        refine ⟨T.keep _ _ _ st5 fun b hb o e => (I8.pin (b, o) (List.mem_append_right _ (List.mem_append_right _ (mem_pinsAt hb e)))).1, fun b hb => ?_, pD.1⟩
        rcases List.mem_cons.mp hb with e | hb
        · rw [e]
          exact pD.2.1
        · obtain ⟨o, e, d⟩ := T.obj _ _ st5 b hb
          exact (I8.pin (b, o) (List.mem_append_right _ (List.mem_append_right _ (mem_pinsAt hb e)))).2.1
      cases ok with
      | false =>
        obtain ⟨a1, a2, a3⟩ := again I7
        obtain ⟨m', hm', w7⟩ := hN _ _ q7
        exact ⟨m', hm', i + 1, ys, some v, H7, its, n, Inv.unpinned (pins := []) I7, a1, a2, a3, hv, hz, w7⟩
      | true =>
        have hel := he' _ s7 (σ ++ [some v]) _ _ I7 q7
        rw [eP, eW, eA, eE, eX] at hel
        refine wpAny_mono hel (fun y s8 ⟨yv, H8, I8, r8, q8⟩ => ?_) fun _ _ z => z.elim
        obtain ⟨m', hm', w8⟩ := hN _ _ q8
        obtain ⟨a1, a2, a3⟩ := again I8
        have hlen := hv.length
        refine call_meets PySem.F.slot_list_append ⟨_, a3, rfl⟩ PySem.F.entry_list_append (PySem.F.args_list_append_2 _ _) (PySem.list_append s2.heap.objs.size its.toArray n y (by rw [List.size_toArray]; omega)) ⟨a3, ?_⟩
        have q := PySem.IsL.update a3 (·.push y)
        have eq1 : its.toArray.push y = (its ++ [y]).toArray := by simp
        rw [eq1] at q
        have I8' : Inv Xb (pinsAt fp s5.heap) (σ ++ [some v]) H8 s8 := I8.pins_of fun p hp => I8.pin p (List.mem_append_right _ (List.mem_append_right _ hp))
        have f9 : FpOk Xb (pinsAt fp s5.heap) H8 s2.heap.objs.size := fpB List.mem_cons_self (a2 _ List.mem_cons_self) fun p hp => Ne.symm (neD _ (of_pinsAt hp).1)
        have I9 := Inv.turned (h' := s8.heap.update s2.heap.objs.size (Obj.mapSeq (·.push y))) (t' := s8.toks) I8' (fun b o hb e => (Heap.get?_update_other s8.heap _ (Ne.symm hb)).trans e) f9.1 f9.2.1 f9.2.2.2.1 f9.2.2.2.2.1 f9.2.2.2.2.2
        refine ⟨m', hm', i + 1, ys ++ [yv], some v, H8, its ++ [y], _, Inv.unpinned (pins := []) (pl := pinsAt fp s5.heap) I9, T.keep _ _ _ st5 fun b hb o e => (I9.pin (b, o) (List.mem_append_right _ (mem_pinsAt hb e))).1, a2, q, hv.append (.cons r8 .nil), ?_, w8⟩
        rw [List.length_append, List.length_singleton]
        omega
  rw [es]
  exact codeAny_compStart_list (loop _ rfl) (T.self X.A 0 _ _ _ (T.keep _ _ _ st2 fun b _ o e => hk2 b o e) (loop _ rfl))

/-- [elt for x in iter if ..] -/
theorem pe_lc (hc : X.calm = true) (nd : X.N.Nodup) (S : LcScope X scope x M) (hi : PI X (.Name x px) iter wi) (hif : ∀ cl pn ex s3 H3, PIf (blockCx X scope x M cl pn ex s3 H3) ifs tt) (he : ∀ cl pn ex s3 H3, PE (blockCx X scope x M cl pn ex s3 H3) elt te)
    (hs : ∀ v, foldedSetIterable iter X.env v = pure v := by intro _; rfl) : PE X (.ListComp elt [⟨.Name x px, iter, ifs, 0⟩] scope pos) (tLC wi tt te) := by
  intro pins s σ H Q I h
  obtain ⟨cl, c0, c1, c2⟩ := closure_of (scope := scope) (env := X.env) fun y hy hf => I.ok.has y.1 (S.free y hy hf)
  rw [eval_ListComp]
  refine wpAny_comprehension_free (use := none) rfl hs c0 S.kind S.names (thn (hi pins s σ H _ I h) fun v s1 h1 => thn h1 fun itv s2 h2 => ?_)
  obtain ⟨it, fp, tn, J, H2, e, I2, T, st2, f2, w⟩ := h2
  subst e
  refine lc_core (RR := fun acc C => compPost (model X.prog X.w) X.A X.xe none (EP X pins σ Q) acc C) hc nd S c1 c2 hif he I2 T st2 f2 w ?_
  intro D C ys H' s' J' fC ⟨m, hm⟩ hD q
  refine ⟨m, hm, fun h' hsb => ⟨.ref D, _, ?_, rfl, q D hD⟩⟩
  exact Inv.turned (h' := h') (t' := s'.toks) J' (fun b o hb e => (hsb.2 b hb).trans e) fC.1 fC.2.1 fC.2.2.2.1 fC.2.2.2.2.1 fC.2.2.2.2.2
/-- y = [elt for x in iter if ..] -/
theorem ps_setLC {i : Nat} {y : Str} {py spos : Pos} (hc : X.calm = true) (nd : X.N.Nodup) (hi' : X.N[i]? = some y) (hy : Loc X.env.scope y) (S : LcScope X scope x M) (hi : PI X (.Name x px) iter wi) (hif : ∀ cl pn ex s3 H3, PIf (blockCx X scope x M cl pn ex s3 H3) ifs tt) (he : ∀ cl pn ex s3 H3, PE (blockCx X scope x M cl pn ex s3 H3) elt te)
    (hsw : swapsWith (.ListComp elt [⟨.Name x px, iter, ifs, 0⟩] scope pos) (some (.Name y py)) spos.line X.env = pure true := by rfl)
    (hs : ∀ v, foldedSetIterable iter X.env v = pure v := by intro _; rfl) (hf : X.fn y = true ∨ X.env.scope.names.lookup y = some .local := by first | exact .inl rfl | exact .inr rfl | assumption) :
    PS X (.Assign [.Name y py] (.ListComp elt [⟨.Name x px, iter, ifs, 0⟩] scope pos) spos) (tAsg (tLC wi tt te) (gName i)) := by
  intro pins s σ H Dd I h
  obtain ⟨cl, c0, c1, c2⟩ := closure_of (scope := scope) (env := X.env) fun y hy hf => I.ok.has y.1 (S.free y hy hf)
  rw [exec_Assign_Name_used _ _ _ _ hsw]
  refine wpAny_bind (wpAny_standAt (wpAny_bind ?_))
  show wpAny _ X.A (do let _ ← comprehension (.ListComp elt [⟨.Name x px, iter, ifs, 0⟩] scope pos) scope X.env _ (newList []) false (eval iter X.env) (some (assign (.Name y py) X.env))) _ _ s
  refine wpAny_bind (wpAny_mono (wpAny_comprehension_free (use := some (assign (.Name y py) X.env)) (Q := fun _ s' => SP X pins Dd .next s') rfl hs c0 S.kind S.names
    (thn (hi pins s σ H _ I h) fun v s1 h1 => thn h1 fun itv s2 h2 => ?_)) (fun _ s' hq => wpAny_pure (wpAny_pure hq)) fun _ _ e => e)
  obtain ⟨it, fp, tn, J, H2, e, I2, T, st2, f2, w⟩ := h2
  subst e
  refine lc_core (RR := fun acc C => compPost (model X.prog X.w) X.A X.xe (some (assign (.Name y py) X.env)) (fun _ s' => SP X pins Dd .next s') acc C) hc nd S c1 c2 hif he I2 T st2 f2 w ?_
  intro D C ys H' s' J' fC ⟨m, hm⟩ hD q
  show wpAny _ X.A (assign (.Name y py) X.env (.ref D)) _ _ _
  obtain ⟨oC, es, ep, hoC, hdC, rC⟩ := hm
  have Jp := J'.pinned (fp := [C]) (fun b hb => by rw [List.mem_singleton.mp hb]; exact fC) (fun b hb => by
    rw [List.mem_singleton.mp hb]
    exact ⟨oC, hoC, fun v z => by rw [hdC] at z; cases z⟩)
  refine wpAny_assign_Name (store_ok Jp nd hi' hy (v := .ref D) rfl (fun s'' K' => ?_) hf)
  have hC'' := (K'.pin (C, oC) (List.mem_append_right _ (List.mem_append_right _ (mem_pinsAt (List.mem_singleton.mpr rfl) hoC)))).1
  refine ⟨m, ⟨oC, es, ep, hC'', hdC, rC⟩, fun h' hsb => ⟨_, _, ?_, q D hD⟩⟩
  exact Inv.turned (h' := h') (t' := s''.toks) K'.unpinned (fun b o hb e => (hsb.2 b hb).trans e) fC.1 fC.2.1 fC.2.2.2.1 fC.2.2.2.2.1 fC.2.2.2.2.2
end

/-- over a range, nothing tested -/
theorem lc_range {lo : Int} {n : Nat} {tt : TT} {te : TE} {σ : St} {F : List V → Hp → Prop} {H : Hp} (Pv : Nat → List V → Hp → Prop) (h0 : Pv 0 [] H) (hz : ∀ i ys H, Pv i ys H → ys.length ≤ i) (hn : n ≤ sizeLine)
    (hs : ∀ i ys H, i < n → Pv i ys H → tt (σ ++ [some (.int (lo + i))]) H fun ok H4 => if ok = true then te (σ ++ [some (.int (lo + i))]) H4 fun y H5 => Pv (i + 1) (ys ++ [y]) H5 else Pv (i + 1) ys H4)
    (hd : ∀ ys H, Pv n ys H → F ys H) : wLC tt te σ F (Itr lo n) H := by
  refine ⟨fun i m ys H => m = n - i ∧ i ≤ n ∧ Pv i ys H, ⟨n, by simp, Nat.zero_le _, h0⟩, ?_⟩
  rintro i m ys H ⟨rfl, hi, p⟩
  by_cases hlt : i < n
  · refine .inr ⟨hlt, Nat.lt_of_le_of_lt (hz i ys H p) (Nat.lt_of_lt_of_le hlt hn), Pv (i + 1), fun ys' H' q => ⟨n - (i + 1), by omega, rfl, hlt, q⟩, fun v H3 y => ?_⟩
    obtain ⟨e, y⟩ := y
    subst e y
    exact hs i ys _ hlt p
  · have e : i = n := by omega
    subst e
    exact .inl ⟨Nat.le_refl _, hd ys H p⟩
/-- over a list that stays -/
theorem lc_list {K : PySem.W.Frag} {a : Addr} {xs : List V} {tt : TT} {te : TE} {σ : St} {F : List V → Hp → Prop} {H : Hp} (Pv : Nat → List V → Hp → Prop) (h0 : Pv 0 [] H) (hz : ∀ i ys H, Pv i ys H → ys.length ≤ i) (hn : xs.length ≤ sizeLine)
    (hl : ∀ i ys H, i ≤ xs.length → Pv i ys H → SqL K H a xs)
    (hs : ∀ i x ys H, xs[i]? = some x → Pv i ys H → tt (σ ++ [some x]) H fun ok H4 => if ok = true then te (σ ++ [some x]) H4 fun y H5 => Pv (i + 1) (ys ++ [y]) H5 else Pv (i + 1) ys H4)
    (hd : ∀ ys H, Pv xs.length ys H → F ys H) : wLC tt te σ F (Itl K a) H := by
  refine ⟨fun i m ys H => m = xs.length - i ∧ i ≤ xs.length ∧ Pv i ys H, ⟨xs.length, by simp, Nat.zero_le _, h0⟩, ?_⟩
  rintro i m ys H ⟨rfl, hi, p⟩
  have q := hl i ys H hi p
  by_cases hlt : i < xs.length
  · refine .inr ⟨⟨xs, xs[i], q, by simp [hlt]⟩, Nat.lt_of_le_of_lt (hz i ys H p) (Nat.lt_of_lt_of_le hlt hn), Pv (i + 1), fun ys' H' q => ⟨xs.length - (i + 1), by omega, rfl, hlt, q⟩, fun v H3 y => ?_⟩
    obtain ⟨e, y⟩ := y
    subst e
    exact hs i v ys _ (y xs q) p
  · have e : i = xs.length := by omega
    subst e
    exact .inl ⟨⟨xs, q, Nat.le_refl _⟩, hd ys H p⟩

/-- nothing tested -/
theorem lc_range0 {lo : Int} {n : Nat} {te : TE} {σ : St} {F : List V → Hp → Prop} {H : Hp} (Pv : Nat → List V → Hp → Prop) (h0 : Pv 0 [] H) (hz : ∀ i ys H, Pv i ys H → ys.length ≤ i) (hn : n ≤ sizeLine)
    (hs : ∀ i ys H, i < n → Pv i ys H → te (σ ++ [some (.int (lo + i))]) H fun y H5 => Pv (i + 1) (ys ++ [y]) H5) (hd : ∀ ys H, Pv n ys H → F ys H) : wLC tYes te σ F (Itr lo n) H :=
  lc_range Pv h0 hz hn (fun i ys H1 hi p => iteT (B := Pv (i + 1) ys H1) (hs i ys H1 hi p)) hd
theorem lc_list0 {K : PySem.W.Frag} {a : Addr} {xs : List V} {te : TE} {σ : St} {F : List V → Hp → Prop} {H : Hp} (Pv : Nat → List V → Hp → Prop) (h0 : Pv 0 [] H) (hz : ∀ i ys H, Pv i ys H → ys.length ≤ i) (hn : xs.length ≤ sizeLine)
    (hl : ∀ i ys H, i ≤ xs.length → Pv i ys H → SqL K H a xs) (hs : ∀ i x ys H, xs[i]? = some x → Pv i ys H → te (σ ++ [some x]) H fun y H5 => Pv (i + 1) (ys ++ [y]) H5) (hd : ∀ ys H, Pv xs.length ys H → F ys H) : wLC tYes te σ F (Itl K a) H :=
  lc_list Pv h0 hz hn hl (fun i x ys H1 hi p => iteT (B := Pv (i + 1) ys H1) (hs i x ys H1 hi p)) hd
/-! ### the same rules with the fragment by name (within a block) -/
section
variable {X : Cx} {K : PySem.W.Frag}
theorem sl_listB (e : X.K = K) : SlR X (rSlL K) := e ▸ sl_list
theorem call_sumB (e : X.K = K) (hc : X.calm = true) : CallR X (.builtin "sum") (fun xs H Q => ∃ (p : Addr) (ns : List Int), xs = [.ref p] ∧ SqL K H p (ns.map V.int) ∧ Q (.int ns.sum) H) := e ▸ call_sum hc
theorem call_len_seqB (e : X.K = K) : CallR X (.builtin "len") (fun xs H Q => ∃ p ys, xs = [.ref p] ∧ (SqL K H p ys ∨ SqT K H p ys) ∧ Q (.int ys.length) H) := e ▸ call_len_seq
end
end L2

set_option Elab.async false
set_option linter.all false
set_option maxRecDepth 100000
set_option maxHeartbeats 4000000
namespace L2
open PySem PySem.Spec PyProof.Rows

/-! ### exceptions of own classes: raised, passed on, caught round one call -/
/-- what the heap B knows of the heap h: all that isn't tracked, frames aside; and all that is there at all -/
structure Bw (fs : List Addr) (H : Hp) (h B : Heap) : Prop where
  keep : ∀ b o, h.get? b = some o → H b = none → b ∉ fs → B.get? b = some o
  there : ∀ b o, h.get? b = some o → b ∉ fs → ∃ o', B.get? b = some o'
/-- how an exception lies behind a call: it flies over the callers' frames -/
def CXf (P : Program) (w : World) : CXT := fun outer H s E e s' => ∃ (a : Addr) (cls a0 : Value) (B : Heap) (H' : Hp), e = .ref a ∧ s'.os = s.os ∧ AllBare s'.gens ∧ Heap.FlyingW B outer a cls a0 s'.heap ∧
  Un (frs outer) [] H H' s.heap s'.heap ∧ HOk P w H' s'.heap ∧ Bw (frs outer) H s.heap B ∧ (∀ b u, H' b = some u → ∃ o, B.get? b = some o) ∧ E cls none H'
theorem passF0 {P : Program} {w : World} {X : Cx} : Passes (CXf P w) X E0 := fun _ _ _ _ _ _ _ h => by
  obtain ⟨_, _, _, _, _, _, _, _, _, _, _, _, _, z⟩ := h
  exact z.elim
theorem ObjOk.has {P : Program} {w : World} {H : Hp} {h : Heap} {a : Addr} {o : HO} (x : ObjOk P w H h a o) : ∃ ob, h.get? a = some ob := by
  cases o with
  | lst xs => obtain ⟨_, _, _, _, e⟩ := x; exact ⟨_, e⟩
  | tup xs => obtain ⟨_, _, _, ob, e, _⟩ := x; exact ⟨_, e⟩
  | dK kvs => obtain ⟨_, _, _, _, o, _, _, e, _⟩ := x; exact ⟨_, e⟩
  | dT kvs => obtain ⟨_, _, _, _, o, _, _, e, _⟩ := x; exact ⟨_, e⟩
  | set S n => obtain ⟨o, _, _, _, e, _⟩ := x; exact ⟨_, e⟩
  | ins C dx fs => obtain ⟨_, _, _, e, _⟩ := x; exact ⟨_, e⟩
  | own y => exact x
  | xd fs => obtain ⟨_, ⟨_, _, _, e, _⟩, _⟩ := x; exact ⟨_, e⟩
  | rng lo hi => obtain ⟨_, _, _, e⟩ := x; exact ⟨_, e⟩
  | frz ob u => obtain ⟨e, _⟩ := x; exact ⟨_, e⟩
  | tbl ps => exact ⟨_, (show h.get? a = some _ from x)⟩
  | met f y => exact ⟨_, (show h.get? a = some _ from x)⟩
  | ext φ => obtain ⟨_, ⟨_, e⟩, _⟩ := x; exact ⟨_, e⟩
theorem HOk.within {P : Program} {w : World} {H : Hp} {h h' B : Heap} (ok : HOk P w H h) (tr : ∀ b u, H b = some u → ∃ o, B.get? b = some o) (s1 : B.StaysIn h) (s2 : B.StaysIn h') : HOk P w H h' := fun a o e =>
  (ok a o e).stay (fun b u hb q => by
    have hb' : ∃ u', H b = some u' := by
      rcases hb with z | z
      · exact ⟨_, z ▸ e⟩
      · exact ⟨_, z⟩
    obtain ⟨u', hu⟩ := hb'
    obtain ⟨ob, eb⟩ := tr b u' hu
    have z := s1 b ob eb
    rw [q] at z
    cases z
    exact s2 b _ eb) (fun _ q => q) fun _ _ q => q
section
variable {X : Cx} {pins : List (Addr × Obj)} {σ : St} {H H' : Hp} {s : Shared} {h1 h2 B : Heap}
theorem Inv.notStack (I : Inv X pins σ H s) {b : Addr} {o : Obj} (e : X.s₀.heap.get? b = some o) (hb : b ∉ X.fs) : b ∉ frs X.stack := fun z => by
  rcases List.mem_cons.mp (I.stkSub b z) with q | q
  · exact absurd (Nat.lt_of_lt_of_le (Heap.lt_size e) I.ok.above) (by rw [q]; exact Nat.lt_irrefl _)
  · exact hb q
theorem Bw.back (x : Bw (frs X.stack) H s.heap B) (I : Inv X pins σ H s) (hex : X.ex = []) : Bw X.fs X.H₀ X.s₀.heap B := by
  have nx : ∀ b, b ∉ X.ex := fun b z => by rw [hex] at z; cases z
  refine ⟨fun b o e n hb => x.keep b o (I.base.keep b o e n hb (nx b)) (I.base.free b o e n (nx b)) (I.notStack e hb), fun b o e hb => ?_⟩
  obtain ⟨o1, e1⟩ := I.base.there b o e (nx b)
  exact x.there b o1 e1 (I.notStack e hb)
theorem un_out (I : Inv X pins σ H s) (hex : X.ex = []) (un : Un (frs X.stack) [] H H' s.heap h1) (x : Bw (frs X.stack) H s.heap B) (st : B.StaysIn h2) (up : h1.UpToSlots h2) (sub : ∀ b ∈ X.fs, b ∈ frs X.stack) : Un X.fs [] X.H₀ H' X.s₀.heap h2 := by
  have nx : ∀ b, b ∉ X.ex := fun b z => by rw [hex] at z; cases z
  have nn : ∀ b, b ∉ ([] : List Addr) := fun b z => nomatch z
  have y := x.back I hex
  have slot : ∀ b o, X.s₀.heap.get? b = some o → X.H₀ b = none → b ∈ X.fs → ∃ sl, h2.get? b = some { o with slots := sl } := fun b o e n hb => by
    obtain ⟨sl, e1⟩ := I.base.slot b o e n hb (nx b)
    obtain ⟨sl', e2⟩ := un.any e1 (I.base.free b o e n (nx b)) (nn b)
    obtain ⟨_, o', ho', hd⟩ := I.ok.funs.mem hb
    rw [e] at ho'
    cases ho'
    obtain ⟨sl'', e3⟩ := up b _ e2 hd
    exact ⟨sl'', e3⟩
  refine ⟨fun b o e n hb _ => st b o (y.keep b o e n hb), fun b o e n hb _ => slot b o e n hb, fun b o e n _ => ?_, fun b o e _ => ?_, fun b xs e => un.tups b xs (I.base.tups b xs e), fun b o u e => un.frzs b o u (I.base.frzs b o u e), fun b ps e => ?_⟩
  · obtain ⟨o1, e1⟩ := I.base.there b o e (nx b)
    exact un.free b o1 e1 (I.base.free b o e n (nx b)) (nn b)
  · by_cases hb : b ∈ X.fs
    · obtain ⟨sl, e1⟩ := slot b o e (I.ok.frf b hb) hb
      exact ⟨_, e1⟩
    · obtain ⟨o', e1⟩ := y.there b o e hb
      exact ⟨o', st b o' e1⟩
  · obtain ⟨m1, e1⟩ := I.base.tbls b ps e
    obtain ⟨m2, e2⟩ := un.tbls b _ e1
    exact ⟨m1 ++ m2, by rw [e2, Array.append_assoc]⟩
end
section
variable {P : Program} {w : World} {K : PySem.W.Frag} {mg : Str → Option Value} {base : Heap} {N : List Str} {qual : Str} {scope : Scope} {f : Addr} {cdv : Value} {A : Around} {outer : List Env} {s0 : Shared} {H0 : Hp} {E : XK}
/-- a raise in a def's body leaves it -/
theorem raise_out {pins : List (Addr × Obj)} {σ : St} {H : Hp} {s : Shared} {h' : Heap} {e : Addr} {cls : Value} {vs : List Value} (I : Inv (cxOf (CXf P w) P w K mg base N qual scope f cdv A outer s0 H0 E) pins σ H s)
    (hx : Heap.MadeExcOf s.heap h' e cls vs) (q : E cls none H) : (cxOf (CXf P w) P w K mg base N qual scope f cdv A outer s0 H0 E).xe (.ref e) { s with heap := h' } := by
  have hin : ∀ env ∈ (envOfC qual scope s0.heap.objs.size f cdv :: outer), ∀ b, env.frame = some b → b ∈ frs (envOfC qual scope s0.heap.objs.size f cdv :: outer) := fun env he b hb => List.mem_filterMap.mpr ⟨env, he, hb⟩
  have bw : Bw (frs (envOfC qual scope s0.heap.objs.size f cdv :: outer)) H s.heap (PySem.W.hideAll s.heap (frs (envOfC qual scope s0.heap.objs.size f cdv :: outer))) :=
    ⟨fun b o e _ hb => PySem.W.hideAll_get _ e hb, fun b o e hb => ⟨o, PySem.W.hideAll_get _ e hb⟩⟩
  refine wpAny_leaves_madeW (base := PySem.W.hideAll s.heap (frs (envOfC qual scope s0.heap.objs.size f cdv :: outer))) (h := s.heap) (s := { s with heap := h' }) I.ok.frames rfl (fun b o q => PySem.W.of_hideAll _ q) (PySem.W.funFrames_hide I.stack hin) hx fun h'' t fl _ _ up => ?_
  have tr : ∀ b u, H b = some u → ∃ o, (PySem.W.hideAll s.heap (frs (envOfC qual scope s0.heap.objs.size f cdv :: outer))).get? b = some o := fun b u eb => by
    obtain ⟨ob, e1⟩ := (I.hok b u eb).has
    refine ⟨ob, PySem.W.hideAll_get _ e1 fun hm => ?_⟩
    rw [I.stkFree b hm] at eb
    cases eb
  refine ⟨e, cls, .ref t, _, H, rfl, I.os, I.bare, fl, ?_, I.hok.within tr (fun b o q => PySem.W.of_hideAll _ q) fl.1, bw.back I rfl, tr, q⟩
  exact un_out I rfl (Un.kept hx.keeps) bw fl.1 up fun b hb => by
    show b ∈ frs (envOfC qual scope s0.heap.objs.size f cdv :: outer)
    unfold frs
    rw [List.filterMap_cons]
    exact List.mem_cons_of_mem _ hb
/-- an exception of a callee leaves a def's body -/
theorem pass_out : Passes (CXf P w) (cxOf (CXf P w) P w K mg base N qual scope f cdv A outer s0 H0 E) E := by
  intro pins σ H s e s' I h
  obtain ⟨a, cls, a0, B, H', rfl, ho, hb, fl, un, hok, bw, tr, q⟩ := h
  refine wpAny_leaves_onW (s := s') I.ok.frames rfl fl fun h'' fl' up => ?_
  refine ⟨a, cls, a0, B, H', rfl, ho.trans I.os, hb, fl', ?_, hok.within tr fl.1 fl'.1, bw.back I rfl, tr, q⟩
  exact un_out I rfl un bw fl'.1 up fun b hb => by
    show b ∈ frs (envOfC qual scope s0.heap.objs.size f cdv :: outer)
    unfold frs
    rw [List.filterMap_cons]
    exact List.mem_cons_of_mem _ hb
/-- a def that may raise -/
theorem Fun.okx {x : Str} {st : Stmt} {fd : FuncData} {ps : List Str} {k : Nat} {sp : Sp} (F : Fun K x qual st f fd) (S : FnScope N ps (defScope st)) (len : ∀ vs H Q E, sp vs H Q E → vs.length = ps.length)
    (hbody : ∀ (cdv : Value) (A : Around) (outer : List Env) (s : Shared) (H : Hp) (vs : List V) (Q : VK) (E : XK), Room k (A.deeper (envOfC qual (defScope st) s.heap.objs.size f cdv)) → sp vs H Q E →
      ∃ t, PSs (cxOf (CXf P w) P w K mg base N qual (defScope st) f cdv A outer s H E) (defBody st) t ∧ t { nx := fun _ H' => Q .non H', rt := Q } (start N vs) H) : FnOk P w K mg base (CXf P w) (k + 1) f fd ps sp := by
  obtain ⟨oc, od, kV, doc, pm, an, cdv, ct, osl, rfl, lk, hcd⟩ := F.ex
  exact fn_of lk hcd S len fun A outer s H vs Q E hr hsp => hbody cdv A outer s H vs Q E hr hsp
/-- one that doesn't, among such -/
theorem Fun.okn {x : Str} {st : Stmt} {fd : FuncData} {ps : List Str} {k : Nat} {sp : Sp} (F : Fun K x qual st f fd) (S : FnScope N ps (defScope st)) (len : ∀ vs H Q E, sp vs H Q E → vs.length = ps.length)
    (hbody : ∀ (cdv : Value) (A : Around) (outer : List Env) (s : Shared) (H : Hp) (vs : List V) (Q : VK) (E : XK), Room k (A.deeper (envOfC qual (defScope st) s.heap.objs.size f cdv)) → sp vs H Q E →
      ∃ t, PSs (cxOf (CXf P w) P w K mg base N qual (defScope st) f cdv A outer s H E).nox (defBody st) t ∧ t { nx := fun _ H' => Q .non H', rt := Q } (start N vs) H) : FnOk P w K mg base (CXf P w) (k + 1) f fd ps sp :=
  F.okx S len fun cdv A outer s H vs Q E hr h => by
    obtain ⟨t, h1, h2⟩ := hbody cdv A outer s H vs Q E hr h
    exact ⟨t, h1.nox, h2⟩
end

/-! ### raise C(text) -/
section
variable {X : Cx}
theorem exc_obj {K : PySem.W.Frag} {h : Heap} {C : Addr} {bmB : List Value} {newId : String} (Z : K.In h) (q : PySem.W.excIn K C bmB newId = true) :
    ∃ bm N nm qn bs hdct sn sub ab col dd k0 k1 k2 k3 k5 mN, h.get? C = some (excClassObj nm qn C N bs bm hdct sn sub ab col dd k0 k1 k2 k3 k5 newId) ∧ h.Ns N mN ∧ mN "__init__" = none ∧ OwnTail h bmB bm := by
  unfold PySem.W.excIn at q
  split at q
  · rename_i dd cd sl ho
    split at q
    · rename_i C' bm k0 k1 k2 k3 n k5 hm hs
      rw [Bool.and_eq_true, Bool.and_eq_true, Bool.and_eq_true, Bool.and_eq_true, Bool.and_eq_true] at q
      obtain ⟨⟨⟨⟨⟨q1, q2⟩, q3⟩, q4⟩, q5⟩, q6⟩ := q
      have e1 : C' = C := eq_of_beq q1
      have e2 : n = newId := eq_of_beq q2
      have e3 : cd.hasDel = false := by simpa using q3
      have e6 := eq_of_beq q6
      subst e1 e2
      obtain ⟨nm, bs, mro, ns, qn, hd, sn, sub, ab, col, del⟩ := cd
      dsimp only at hm e3 q5 e6
      subst hm e3
      have hsl : sl = #[k0, k1, k2, k3, some (.builtin n), k5] := by
        cases sl with
        | mk l => rw [show l = _ from hs]
      subst hsl
      exact ⟨bm, ns, nm, qn, bs, hd, sn, sub, ab, col, dd, k0, k1, k2, k3, k5, _, Z _ _ ho, .of_isNs (PySem.W.isNs_of_in Z q5), PySem.W.nsMap_none_of_in Z q5 e6, PySem.W.tail_of_in Z q4⟩
    · cases q
  · cases q
def tRaise (C : Addr) (E : XK) (t : TA) : TS := fun _ σ H => t σ H fun vs H1 => vs.length ≤ sizeLine ∧ E (.ref C) none H1
theorem ps_raise {x : Str} {C : Addr} {bmB bmN : List Value} {newId Bn inN B nid initId : String} {E : XK} {np cpos pos : Pos} {e : Expr} {es : List Expr} {t : TA} (hc : X.calm = true) (hg : Gl X x) (hm : X.mg x = some (.ref C))
    (qx : PySem.W.excIn X.K C bmB newId = true) (Fn : ExcBaseFacts Bn newId inN bmN) (hBn : bmB.contains (.type Bn) = true) (FB : ExcBaseFacts B nid initId bmB)
    (out : ∀ {pins : List (Addr × Obj)} {σ : St} {H : Hp} {s : Shared} {h' : Heap} {e : Addr} {vs : List Value}, Inv X pins σ H s → Heap.MadeExcOf s.heap h' e (.ref C) vs → E (.ref C) none H → X.xe (.ref e) { s with heap := h' })
    (ha : PA X (e :: es) t) (he : starEach (e :: es) X.env = (false, eval e X.env) :: starEach es X.env := by rfl) (hpl : (backTo cpos (starEach es X.env)).any (·.1) = false := by rfl) (hdb : (x == ("__debug__" : Str)) = false := by decide) :
    PS X (.Raise (some (.Call (.Name x np) (e :: es) [] cpos)) none pos) (tRaise C E t) := by
  intro pins s σ H D I h
  obtain ⟨bm, Nn, nm, qn, bs, hdct, sn, sub, ab, col, dd, k0, k1, k2, k3, k5, mN, hC, hN, hni, TL⟩ := exc_obj I.ok.mod.kin qx
  refine wpAny_Raise_call_subU (C := C) (nm := nm) (q := qn) (N := Nn) (bs := bs) (bm := bm) (hdct := hdct) (sn := sn) (sub := sub) (ab := ab) (col := col) (dd := dd) (k0 := k0) (k1 := k1) (k2 := k2) (k3 := k3) (k5 := k5)
    Fn hBn FB (mN := mN) (TL.hasType FB.hasBase) (I.ok.hd hc) (by rw [he]; exact hpl) hni (ld_glob I hg hm ⟨rfl, ?_⟩ hdb)
  have hA := ha cpos pins s σ H _ I h
  rw [he] at hA ⊢
  refine Calls.evalArgs_plain (wpAny_mono hA (fun us s2 ⟨vs, H1, I1, r, hz, q⟩ => ?_) fun _ _ y => y)
  exact ⟨rfl, by rw [← r.length]; exact hz, I1.bk _ _ hC, hN.keeps I1.bk, TL.keeps I1.bk, fun h' e1 hx => out I1 hx q⟩
end
end L2

set_option Elab.async false
set_option linter.all false
set_option maxRecDepth 100000
set_option maxHeartbeats 4000000
namespace L2
open PySem PySem.Spec PyProof.Rows

/-! ### f-strings of texts and ints -/
section
variable {X : Cx}
def PJ (X : Cx) (es : List Expr) (t : Str → TE) : Prop :=
  ∀ (acc : Str) (pins : List (Addr × Obj)) (s : Shared) (σ : St) (H : Hp) (Q : VK), Inv X pins σ H s → t acc σ H Q →
    PySem.Joins (model X.prog X.w) X.A X.xe (evalEach es X.env) acc (fun out s₁ => out.length ≤ sizeLine ∧ EP X pins σ Q (.str out s₁.toks) { s₁ with toks := s₁.toks + 1 }) s
def tJ0 : Str → TE := fun acc _ H Q => acc.length ≤ sizeLine ∧ Q (.str acc) H
def tJc (te : TE) (tr : Str → TE) : Str → TE := fun acc σ H Q => te σ H fun x H1 => ∃ y, x = .str y ∧ (acc ++ y).length ≤ sizeLine ∧ tr (acc ++ y) σ H1 Q
theorem pj_nil : PJ X [] tJ0 := fun acc _ _ _ H _ I h => ⟨h.1, .str acc, H, I.tok _, ⟨_, rfl⟩, h.2⟩
theorem pj_cons {e : Expr} {es : List Expr} {te : TE} {tr : Str → TE} (he : PE X e te) (hr : PJ X es tr) (hs : evalEach (e :: es) X.env = eval e X.env :: evalEach es X.env := by rfl) : PJ X (e :: es) (tJc te tr) := by
  intro acc pins s σ H Q I h
  rw [hs]
  refine thn (he pins s σ H _ I h) fun v s1 ⟨x, H1, I1, r, y, e1, hz, q⟩ => ?_
  subst e1
  obtain ⟨t, rfl⟩ := r
  exact ⟨y, t, rfl, hz, hr (acc ++ y) pins s1 σ H1 Q I1 q⟩
theorem pe_fstr {v1 v2 : Expr} {rest : List Expr} {pos : Pos} {t : Str → TE} (h : PJ X (v1 :: v2 :: rest) t) : PE X (.JoinedStr (v1 :: v2 :: rest) pos) (t Str.empty) :=
  fun pins s σ H Q I hw => PySem.wpAny_JoinedStr (h _ pins s σ H Q I hw)
def tFv (te : TE) : TE := fun σ H Q => te σ H fun x H1 => ∃ i : Int, x = .int i ∧ i.natAbs.log2 < 1920 ∧ Q (.str (toString i)) H1
theorem pe_fval {e : Expr} {te : TE} {pos : Pos} (he : PE X e te) : PE X (.FormattedValue e (-1) none pos) (tFv te) := by
  intro pins s σ H Q I h
  refine PySem.wpAny_FormattedValue_plain (thn (he pins s σ H _ I h) fun v s1 ⟨x, H1, I1, r, i, e1, hl, q⟩ => ?_)
  subst e1
  obtain ⟨t, rfl⟩ := r
  exact PySem.wpAny_formatField_int hl ⟨.str _, H1, I1.tok _, ⟨_, rfl⟩, q⟩
end

/-! ### isinstance of an own exception -/
/-- what the text's fragment tells of an own exception's class -/
structure ExcF (K : PySem.W.Frag) (C : Addr) : Prop where
  ga : PySem.W.findIn K (.ref C) "__getattribute__" = some (some (.builtin "BaseException.__getattribute__"))
  gt : PySem.W.findIn K (.ref C) "__getattr__" = some none
  cl : PySem.W.findIn K (.ref C) "__class__" = some (some (.builtin "object.__class__"))
  so : PySem.W.subIn K (.ref C) (.type "object") = some true
  sb : PySem.W.subIn K (.ref C) (.type "BaseException") = some true
  is : (PySem.W.clsIn K C).isSome = true
section
variable {prog : Program} {w : World} {A : Around} {E : Value → Shared → Prop} {h : Heap} {g : Array GenState} {d : Drawn} {t : Nat} {os : OsState} {a C : Addr} {o : Obj} {K : PySem.W.Frag}
theorem xc_get {R : Result → Shared → Prop} (Z : K.In h) (W : ExcF K C) (hx : h.get? a = some o) (hc : o.cls = .ref C) (hq : R (.ok (.ret (.ref C))) ⟨h, g, d, t, os⟩) :
    codeAny (model prog w) A (.call (.builtin "getset_descriptor.__get__") ⟨[.builtin "object.__class__", .ref a, .ref C], []⟩) R ⟨h, g, d, t, os⟩ := by
  have hT : (⟨h, g, d, t, os⟩ : Shared).TypeIs (.builtin "object.__class__") "getset_descriptor" := PySem.F.typeOf_object_class
  have LS : PySem.W.Looks (model prog w) h (isSubtype (.ref C) (.type (".".intercalate ("object.__class__".cutAt '.').dropLast))) true := by
    rw [PySem.F.owner_object_class]
    exact PySem.W.looks_subIn Z W.so
  refine codeAny_call_builtin PySem.F.slot_gs_get.plain PySem.F.entry_gs_get (PySem.F.slot_gs_get.check _ _ _ _ _ _ _ _ hT (PySem.F.args_gs_get _ _ _) ?_)
  repeat (any_goals (first | assumption | (with_reducible refine wpAny_loadPart_at hx ?_; rw [hc]) | with_reducible refine LS.at ?_ | wp_step))
  refine ⟨Code.quiet_builtin _ (by decide +kernel), codeAny_builtin PySem.F.entry_object_class ?_⟩
  repeat (any_goals (first | assumption | (with_reducible refine wpAny_loadPart_at hx ?_; rw [hc]) | wp_step))
theorem xc_entry {tk : Tok} {Q : Fin → Shared → Prop} (Z : K.In h) (W : ExcF K C) (hx : h.get? a = some o) (hc : o.cls = .ref C) (hq : Q (.done (.ret (.ref C))) ⟨h, g, d, t, os⟩) :
    wpAny (model prog w) A (Builtin.«object.__getattribute__» ⟨[.ref a, .str "__class__" tk], []⟩) Q E ⟨h, g, d, t, os⟩ := by
  have hT : (⟨h, g, d, t, os⟩ : Shared).TypeIs (.builtin "object.__class__") "getset_descriptor" := PySem.F.typeOf_object_class
  have f5 := PySem.F.typeOf_object_class
  have f6 := PySem.F.slot_gs_get.lookup
  have f7 := PySem.F.slot_gs_set.lookup
  have L1 := PySem.W.looks_findIn (M := model prog w) Z W.cl
  repeat (any_goals (first | assumption | (with_reducible refine wpAny_loadPart_at hx ?_; rw [hc]) | with_reducible refine L1.at ?_ | wp_step))
  refine xc_get Z W hx hc ?_
  repeat (any_goals (first | assumption | wp_step))
theorem xc_check {M : Model} {nameV : Value} {Q : Unit → Shared → Prop} (Z : K.In h) (W : ExcF K C) (hx : h.get? a = some o) (hc : o.cls = .ref C) (hq : Q () ⟨h, g, d, t, os⟩) :
    wpAny M A (checkBuiltinCall "BaseException.__getattribute__" ⟨[.ref a, nameV], []⟩) Q E ⟨h, g, d, t, os⟩ := by
  have e1 : builtinKind "BaseException.__getattribute__" = some .slot := by decide +kernel
  have e2 : splitId "BaseException.__getattribute__" = some ("BaseException", "__getattribute__") := by decide +kernel
  have LS := PySem.W.looks_subIn (M := M) Z W.sb
  have ha := PySem.F.args_bexc_ga (.ref a) nameV
  simp only [checkBuiltinCall, e1, e2]
  refine wpAny_bind ?_
  unfold isInstance
  repeat (first | (with_reducible refine wpAny_loadPart_at hx ?_; rw [hc]) | with_reducible refine LS.at ?_ | wp_step)
  exact hq
theorem xc_by {tk : Tok} {Q : Value → Shared → Prop} (Z : K.In h) (W : ExcF K C) (hx : h.get? a = some o) (hc : o.cls = .ref C) (hq : Q (.ref C) ⟨h, g, d, t, os⟩) :
    wpAny (model prog w) A (getAttrBy (.ref a) (.str "__class__" tk) false) Q E ⟨h, g, d, t, os⟩ := by
  have f3 := PySem.F.attr_ValueError.ga.bind (.ref a)
  have y2 : (Value.builtin "BaseException.__getattribute__" == Value.builtin "object.__getattribute__") = false := by decide +kernel
  have y1 : (onTheHeap (Value.ref C) && Value.builtin "BaseException.__getattribute__" == Value.builtin "object.__getattribute__") = false := by rw [y2]; rfl
  have L1 := PySem.W.looks_findIn (M := model prog w) Z W.ga
  have L2 := PySem.W.looks_findIn (M := model prog w) Z W.gt
  repeat (any_goals (first | assumption | (with_reducible refine wpAny_loadPart_at hx ?_; rw [hc]) | with_reducible refine L1.at ?_ | with_reducible refine L2.at ?_ | wp_step))
  refine codeAny_call_builtin PySem.F.attr_ValueError.ga.plain PySem.F.entry_bexc_ga (xc_check Z W hx hc (xc_entry Z W hx hc ?_))
  repeat (any_goals (first | assumption | wp_step))
theorem xc_attr {Q : Option Value → Shared → Prop} (Z : K.In h) (W : ExcF K C) (hx : h.get? a = some o) (hc : o.cls = .ref C) (hq : Q (some (.ref C)) ⟨h, g, d, t + 1, os⟩) : wpAny (model prog w) A (getAttr? (.ref a) "__class__") Q E ⟨h, g, d, t, os⟩ := by
  unfold getAttr? getAttrBy?
  repeat (any_goals (first | assumption | with_reducible apply xc_by Z W hx hc | wp_step))
end
def ExcAt (a C : Addr) (h : Heap) : Prop := ∃ o, h.get? a = some o ∧ o.cls = .ref C
theorem kitx_exc {K : PySem.W.Frag} {a C : Addr} (W : ExcF K C) : PySem.W.KitX K (.ref a) (.ref C) (ExcAt a C) where
  ty := fun M h _ p => by
    obtain ⟨o, h1, h2⟩ := p
    exact h2 ▸ (PySem.W.Looks.ld h1).andThen .now
  it := fun _ _ Z _ => by
    have hi := W.is
    unfold PySem.W.clsIn at hi
    split at hi
    · rename_i c' d' cd' sl' ho
      intro A' Q' E' s' k q
      unfold isType loadHead
      exact wpAny_bind (wpAny_loadPart (k _ _ (Z _ _ ho)) (wpAny_pure q))
    · cases hi
  ne := fun h tp dd its n sl Z htp => by
    have hi := W.is
    refine Bool.eq_false_iff.mpr fun q => ?_
    have e : C = tp := Value.ref.inj (beq_iff_eq.mp q)
    subst e
    unfold PySem.W.clsIn at hi
    split at hi
    · rename_i c' d' cd' sl' ho
      have z := (Z _ _ ho).symm.trans htp
      cases z
    · cases hi
  ca := fun {_ _ _ _ _ s} Z p k => by
    obtain ⟨h, g, d, t, os⟩ := s
    obtain ⟨o, h1, h2⟩ := p
    exact xc_attr Z W h1 h2 k
/-- an exception that is held -/
def excO (a C : Addr) : HO := .ext (ExcAt a C)
theorem excO_ok {P : Program} {w : World} {H : Hp} {h : Heap} {a C : Addr} (x : ExcAt a C h) : ObjOk P w H h a (excO a C) := by
  obtain ⟨o, h1, h2⟩ := id x
  exact ⟨x, ⟨o, h1⟩, fun _ _ ⟨o, e1, e2⟩ k => ⟨o, k o e1, e2⟩⟩
theorem call_isinstE {X : Cx} {K : PySem.W.Frag} (eK : X.K = K) : CallR X (.builtin "isinstance") (fun xs H Q => ∃ a c cv C b, xs = [.ref a, c] ∧ clsV c = some cv ∧ H a = some (excO a C) ∧ ExcF K C ∧ PySem.W.kitOne K (.ref C) cv = some b ∧ Q (.bl b) H) := by
  subst eK
  intro pins s σ H xs us Q I r h
  obtain ⟨a, c, cv, C, b, rfl, hcv, ha, W, e, q⟩ := h
  obtain ⟨u, w', rfl, rx, rc⟩ := vals2 r
  cases rx
  have ec : w' = cv := by
    cases c with
    | ty n => cases hcv; exact rc
    | ref C => cases hcv; exact rc
    | _ => cases hcv
  subst ec
  obtain ⟨p, _⟩ := (show ObjOk X.prog X.w H s.heap a (.ext (ExcAt a C)) from I.hok a _ ha)
  exact PySem.W.kia_one (kitx_exc W) I.kIn p e (fun z => nomatch z) fun tk => ⟨.bl b, H, I.tok tk, rfl, q⟩
end L2

set_option Elab.async false
set_option linter.all false
set_option maxRecDepth 100000
set_option maxHeartbeats 4000000
namespace L2
open PySem PySem.Spec PyProof.Rows

/-! ### try: f(..) / except T as e: .. -/
/-- a thing that was not tracked is tracked -/
theorem Inv.track {X : Cx} {pins : List (Addr × Obj)} {σ : St} {H : Hp} {s : Shared} {a : Addr} {o : HO} (I : Inv X pins σ H s) (h0 : X.s₀.heap.get? a = none) (hn : H a = none) (hL : a ≠ X.env.locals)
    (hC : ∀ x c, X.env.cells.lookup x = some c → c ≠ a) (hp : ∀ p ∈ X.pn ++ pins, p.1 ≠ a) (new : ObjOk X.prog X.w (upd H a o) s.heap a o) : Inv X pins σ (upd H a o) s := by
  have neT : ∀ b u, H b = some u → b ≠ a := fun b u e z => by rw [z, hn] at e; cases e
  refine ⟨I.ok, I.os, I.bare, ⟨I.base.keep, I.base.slot, fun b ob e n hx => ?_, I.base.there, fun b xs e => ?_, fun b ob u e => ?_, fun b ps e => ?_⟩, I.loc, I.cell, ?_, fun x c e => ?_, fun p hp' => ?_, fun b u e => ?_, I.len⟩
  · rw [upd_ne (fun z => by rw [z, h0] at e; cases e)]
    exact I.base.free b ob e n hx
  · have q := I.base.tups b xs e
    rw [upd_ne (neT b _ q)]
    exact q
  · have q := I.base.frzs b ob u e
    rw [upd_ne (neT b _ q)]
    exact q
  · obtain ⟨more, q⟩ := I.base.tbls b ps e
    exact ⟨more, by rw [upd_ne (neT b _ q)]; exact q⟩
  · rw [upd_ne (Ne.symm hL)]
    exact I.free
  · rw [upd_ne (hC x c e)]
    exact I.freeC x c e
  · obtain ⟨a1, a2, a3⟩ := I.pin p hp'
    exact ⟨a1, by rw [upd_ne (hp p hp')]; exact a2, a3⟩
  · by_cases hb : b = a
    · subst hb
      rw [upd_same] at e
      cases e
      exact new
    · rw [upd_ne hb] at e
      exact (I.hok b u e).stay (fun _ _ _ q => q) (fun c q => by rw [upd_ne (neT c _ q)]; exact q) fun c xs q => by rw [upd_ne (neT c _ q)]; exact q
/-- a name of the frame is gone -/
theorem Inv.unbound {X : Cx} {pins : List (Addr × Obj)} {σ : St} {H : Hp} {s : Shared} {h' : Heap} {tk : Nat} {n : Str} {i : Nat} {v : Option Value} {m : Str → Option Value} (I : Inv X pins σ H s) (nd : X.N.Nodup) (hi : X.N[i]? = some n) (hloc : X.env.scope.names.lookup n = some .local)
    (hm : s.heap.Ns X.env.locals m) (hn : h'.Ns X.env.locals (fun x => if x = n then v else m x)) (hs : Heap.SameBut X.env.locals s.heap h') : Inv X pins (σ.set i none) H { s with heap := h', toks := tk } := by
  obtain ⟨m', hm', hl⟩ := id I.loc
  have em : m' = m := by
    obtain ⟨o1, es1, ep1, ho1, hd1, _, f1⟩ := hm
    obtain ⟨o2, es2, ep2, ho2, hd2, _, f2⟩ := hm'
    rw [ho1] at ho2
    cases ho2
    rw [hd1] at hd2
    cases hd2
    funext x
    rw [← f1 x, ← f2 x]
  subst em
  have ne0 : ∀ b o, X.s₀.heap.get? b = some o → b ≠ X.env.locals := fun b o e => Nat.ne_of_lt (Nat.lt_of_lt_of_le (Heap.lt_size e) I.ok.above)
  refine ⟨I.ok, I.os, I.bare, ⟨fun b o e n hb hx => (hs.2 b (ne0 b o e)).trans (I.base.keep b o e n hb hx), fun b o e n hb hx => ?_, I.base.free, fun b o e hx => ?_, I.base.tups, I.base.frzs, I.base.tbls⟩, ⟨_, hn, fun j y u e1 e2 e3 => ?_⟩, fun x c e => ?_, I.free, I.freeC, fun p hp => ?_, fun b u e => ?_, by rw [List.length_set]; exact I.len⟩
  · obtain ⟨sl, q⟩ := I.base.slot b o e n hb hx
    exact ⟨sl, (hs.2 b (ne0 b o e)).trans q⟩
  · obtain ⟨o', q⟩ := I.base.there b o e hx
    exact ⟨o', (hs.2 b (ne0 b o e)).trans q⟩
  · by_cases hj : j = i
    · subst hj
      have hlt : j < σ.length := by rw [I.len]; exact (List.getElem?_eq_some_iff.mp hi).1
      rw [List.getElem?_set_self hlt] at e2
      cases e2
    · rw [List.getElem?_set_ne (Ne.symm hj)] at e2
      obtain ⟨u', r', q⟩ := hl j y u e1 e2 e3
      refine ⟨u', r', ?_⟩
      have hy : y ≠ n := fun z => hj (nodup_ix nd e1 (z ▸ hi))
      rcases q with ⟨k, q⟩ | ⟨k, c, q, z⟩
      · exact .inl ⟨k, by show (if y = n then v else m' y) = some u'; rw [if_neg hy]; exact q⟩
      · obtain ⟨oc, ho, hd⟩ := z
        exact .inr ⟨k, c, q, oc, (hs.2 c (I.cne y c q)).trans ho, hd⟩
  · obtain ⟨w', oc, ho, hd⟩ := I.cell x c e
    exact ⟨w', oc, (hs.2 c (I.cne x c e)).trans ho, hd⟩
  · obtain ⟨a1, a2, a3, a4⟩ := I.pin p hp
    exact ⟨(hs.2 p.1 a3).trans a1, a2, a3, a4⟩
  · refine (I.hok b u e).stay (fun c w' hc q => (hs.2 c ?_).trans q) (fun _ q => q) fun _ _ q => q
    intro z
    rcases hc with q' | q'
    · rw [← q', z, I.free] at e
      cases e
    · rw [z, I.free] at q'
      cases q'
/-- a suite behind except: something is being handled -/
def Cx.su (X : Cx) (e : Value) : Cx := { X with A := X.A.mark (some e), calm := false, xe := fun _ _ => False }
theorem Inv.su {X : Cx} {pins : List (Addr × Obj)} {σ : St} {H : Hp} {s : Shared} (I : Inv X pins σ H s) (e : Value) : Inv (X.su e) pins σ H s :=
  ⟨⟨I.ok.mod, I.ok.kind, I.ok.glob, I.ok.blt, I.ok.above, I.ok.inj, I.ok.has, I.ok.cab, fun z => absurd (show false = true from z) Bool.false_ne_true, I.ok.frames, I.ok.stk, I.ok.exf, I.ok.bs, I.ok.bsz, I.ok.noex, I.ok.exfs, I.ok.funs, I.ok.frf⟩,
    I.os, I.bare, I.base, I.loc, I.cell, I.free, I.freeC, I.pin, I.hok, I.len⟩
theorem Inv.unsu {X : Cx} {pins : List (Addr × Obj)} {σ : St} {H : Hp} {s : Shared} {e : Value} (I : Inv (X.su e) pins σ H s) (ok : X.Ok) : Inv X pins σ H s :=
  ⟨ok, I.os, I.bare, I.base, I.loc, I.cell, I.free, I.freeC, I.pin, I.hok, I.len⟩
theorem un_up {fs : List Addr} {H H' : Hp} {h h1 h2 B : Heap} (un : Un fs [] H H' h h1) (bw : Bw fs H h B) (st : B.StaysIn h2) (up : h1.UpToSlots h2) (hf : ∀ b ∈ fs, H b = none ∧ ∃ o, h.get? b = some o ∧ ∀ vs, o.data ≠ .fields vs) : Un fs [] H H' h h2 := by
  have slot : ∀ b o, h.get? b = some o → H b = none → b ∈ fs → ∃ sl, h2.get? b = some { o with slots := sl } := fun b o e n hb => by
    obtain ⟨sl, e1⟩ := un.slot b o e n hb (fun z => nomatch z)
    obtain ⟨_, o', ho', hd⟩ := hf b hb
    rw [e] at ho'
    cases ho'
    obtain ⟨sl', e2⟩ := up b _ e1 hd
    exact ⟨sl', e2⟩
  refine ⟨fun b o e n hb _ => st b o (bw.keep b o e n hb), fun b o e n hb _ => slot b o e n hb, un.free, fun b o e _ => ?_, un.tups, un.frzs, un.tbls⟩
  by_cases hb : b ∈ fs
  · obtain ⟨sl, q⟩ := slot b o e (hf b hb).1 hb
    exact ⟨_, q⟩
  · obtain ⟨o', q⟩ := bw.there b o e hb
    exact ⟨o', st b o' q⟩
section
variable {M : Model} {A : Around} {E : Value → Shared → Prop} {h : Heap} {g : Array GenState} {d : Drawn} {t : Nat} {os : OsState} {e C T : Addr} {oe : Obj} {K : PySem.W.Frag} {bm : List Value} {newId : String}
theorem exc_matches_up {Q : Bool → Shared → Prop} (Z : K.In h) (qt : PySem.W.excIn K T bm newId = true) (hb : bm.contains (.type "BaseException") = true) (he : h.get? e = some oe) (hc : oe.cls = .ref C) (up : PySem.W.subIn K (.ref C) (.ref T) = some true)
    (hq : Q true ⟨h, g, d, t, os⟩) : wpAny M A (excMatches (.ref e) (.ref T)) Q E ⟨h, g, d, t, os⟩ := by
  obtain ⟨tl, Nn, nm, qn, bs, hdct, sn, sub, ab, col, dd, k0, k1, k2, k3, k5, mN, hT, _, _, TL⟩ := exc_obj Z qt
  have cB : (Value.ref T :: tl).contains (.type "BaseException") = true := by rw [List.contains_cons, TL.hasType hb, Bool.or_true]
  have LS := PySem.W.looks_subIn (M := M) Z up
  have f := tc_notTuple
  unfold excMatches
  repeat (first | (with_reducible refine wpAny_loadPart_at he ?_; rw [hc]) | with_reducible refine wpAny_loadPart_at hT ?_ | with_reducible refine LS.at ?_ | (with_reducible refine wpAny_isSubtype_exc hT ?_; rw [cB]) | wp_step)
  exact hq
end
def tTry1 (K : PySem.W.Frag) (sp : Sp) (t : TA) (CT : Addr) (i : Nat) (tsu : TS) : TS := fun D σ H => t σ H fun vs H1 => sp vs H1 (fun _ H2 => D.nx σ H2) (fun cls _ H2 => ∃ C, cls = .ref C ∧ PySem.W.subIn K (.ref C) (.ref CT) = some true ∧
  ∀ a, H2 a = none → tsu { nx := fun σ' H' => D.nx (σ'.set i none) H', rt := fun _ _ => False } (σ.set i (some (.ref a))) (upd H2 a (excO a C)))
theorem ps_try1 {X : Cx} {x tx n : Str} {p cpos epos np hpos pos : Pos} {e : Expr} {es : List Expr} {b0 : Stmt} {suite : List Stmt} {t : TA} {k i : Nat} {f CT : Addr} {fd : FuncData} {ps : List Str} {sp : Sp} {tsu : TS} {bmT : List Value} {newT : String}
    (F : FnOk X.prog X.w X.K X.mg X.base (CXf X.prog X.w) k f fd ps sp) (hb : Binds X.K fd ps []) (hk : PySem.W.keepIn X.K (.ref f) = true) (hm : X.mg x = some (.ref f)) (hr : Room k X.A) (hg : Gl X x) (ha : PA X.nox (e :: es) t)
    (hex : X.ex = []) (sk : X.stack = X.env :: X.outer) (hfr : X.env.frame = some X.env.locals) (hgt : Gl X tx) (hmt : X.mg tx = some (.ref CT)) (qt : PySem.W.excIn X.K CT bmT newT = true) (hbT : bmT.contains (.type "BaseException") = true)
    (nd : X.N.Nodup) (hi : X.N[i]? = some n) (hn : X.env.scope.names.lookup n = some .local) (hs : ∀ a, PSs (X.su (.ref a)) (b0 :: suite) tsu)
    (hdb : (x == ("__debug__" : Str)) = false := by decide) (hdt : (tx == ("__debug__" : Str)) = false := by decide) (hst : starEach (e :: es) X.env = (false, eval e X.env) :: starEach es X.env := by rfl) (hpl : (backTo cpos (starEach es X.env)).any (·.1) = false := by rfl)
    (hsw : swapsWith (.Call (.Name x p) (e :: es) [] cpos) none epos.line X.env = pure false := by rfl) :
    PS X (.Try [.Expr (.Call (.Name x p) (e :: es) [] cpos) epos] [.ExceptHandler (some (.Name tx np)) (some n) (b0 :: suite) hpos] [] [] pos) (tTry1 X.K sp t CT i tsu) := by
  intro pins s σ H D I h
  refine wpAny_Try_except ?_
  refine wpAny_execs_cons (wpAny_Expr_any (wpAny_Call_Name_kw (ld_glob I hg hm ?_ hdb)) I.quiet hsw)
  refine PySem.W.callWith_K (h₀ := X.base) I.ok.mod.kin hk (wpAny_mono (ha cpos pins s σ H _ (I.wish _) h) (fun us s1 ⟨vs, H1, I1w, r, q⟩ => ⟨I1w.kIn, ?_⟩) fun _ _ z => False.elim z) hst hpl
  have I1 : Inv X pins σ H1 s1 := I1w.unwish
  have hlen : (us ++ []).length = ps.length := by rw [List.append_nil, ← r.length]; exact F.len _ _ _ _ q
  have bnd := hb s1 us I1.kIn hlen
  rw [List.append_nil] at bnd
  refine wpAny_call (codeAny_mono (F.run X.A X.stack s1 H1 ⟨us, []⟩ us vs _ _ hr I1.env0 bnd r q) fun res s' hq => ?_)
  cases res with
  | ok fl =>
    cases fl with
    | ret u =>
      obtain ⟨v, H2, I2, _, q2⟩ := I1.after hq
      exact wpAny_execs_nil (wpAny_execs_nil ⟨σ, H2, I2, q2⟩)
    | next => exact False.elim hq
    | brk => exact False.elim hq
    | cont => exact False.elim hq
  | error ev =>
    obtain ⟨a, cls, a0, B, H2, rfl, ho, hbare, fl, un, hok, bw, tr, C, rfl, up, q2⟩ := hq
    obtain ⟨hh, gg, dd, tk, os⟩ := s'
    have hfs : ∀ b ∈ frs X.stack, H1 b = none ∧ ∃ o, s1.heap.get? b = some o ∧ ∀ vs, o.data ≠ .fields vs := fun b hb => ⟨I1.stkFree b hb, (I1.stack.mem hb).2⟩
    have inv : ∀ {h2 : Heap} {tk : Nat}, B.StaysIn h2 → hh.UpToSlots h2 → Inv X pins σ H2 ⟨h2, gg, dd, tk, os⟩ := fun {h2 tk} st u2 =>
      Inv.call' (ch := []) I1 ho (un_up un bw st u2 hfs) (hok.within tr fl.1 st) hbare fun b z => nomatch z
    have fl' := fl
    rw [sk] at fl'
    refine wpAny_looks_onW (s := ⟨hh, gg, dd, tk, os⟩) (by rw [I.ok.frames, sk]) hfr fl' fun h4 held up4 => ?_
    refine wpAny_landsW held fun h5 fl5 up5 => ?_
    have J5 := inv (tk := tk) fl5.1 (up4.trans up5)
    refine wpAny_handleBy_cons (codeAny_handlers_test (ld_glob (J5.su (.ref a)) hgt hmt ?_ hdt)) (by intro q; cases q)
    obtain ⟨oe5, e5, c5⟩ := fl5.there
    refine exc_matches_up J5.kIn qt hbT e5 c5 up ?_
    show codeAny _ _ (.handlers (.ref a) [.ExceptHandler none (some n) (b0 :: suite) hpos] X.env) _ _
    refine codeAny_handlers_suite_as ?_
    refine lands_againW fl5 fun h6 fl6 up6 => ?_
    have J6 := inv (tk := tk) fl6.1 ((up4.trans up5).trans up6)
    obtain ⟨oe, ws, e6, c6, d6, _⟩ := fl6.first
    have nB := fl6.2.1
    have hn2 : H2 a = none := by
      cases z : H2 a with
      | none => rfl
      | some u =>
        obtain ⟨ob, eb⟩ := tr a u z
        rw [nB] at eb
        cases eb
    have nfr : ∀ b ob, h6.get? b = some ob → (∀ vs, ob.data ≠ .fields vs) → b ≠ a := fun b ob eb nb z => by
      rw [z, e6] at eb
      cases eb
      exact nb ws d6
    have nst : a ∉ frs X.stack := fun z => by
      obtain ⟨_, ob, eb, nb⟩ := J6.stack.mem z
      exact nfr a ob eb nb rfl
    have n0 : X.s₀.heap.get? a = none := by
      cases z : X.s₀.heap.get? a with
      | none => rfl
      | some ob =>
        obtain ⟨o1, e1⟩ := I1.base.there a ob z (by rw [hex]; exact fun q => nomatch q)
        obtain ⟨o2, e2⟩ := bw.there a o1 e1 nst
        rw [nB] at e2
        cases e2
    obtain ⟨m6, hm6, _⟩ := id J6.loc
    have nL : a ≠ X.env.locals := by
      obtain ⟨oL, es, ep, hoL, hdL, _⟩ := id hm6
      exact (nfr _ oL hoL fun vs z => by rw [hdL] at z; cases z).symm
    have J7 := J6.track (a := a) (o := excO a C) n0 hn2 nL (fun y c ec => by
      obtain ⟨v, oc, hoc, hdc⟩ := J6.cell y c ec
      exact nfr c oc hoc fun vs z => by rw [hdc] at z; cases z) (fun p' hp' z => by
      obtain ⟨b1, b2, b3, b4, b5⟩ := I1.pin p' hp'
      have := bw.keep p'.1 p'.2 b1 b2 (fun zz => by
        rcases List.mem_cons.mp (I1.stkSub _ zz) with q | q
        · exact b3 q
        · exact b4 q)
      rw [z, nB] at this
      cases this) (excO_ok ⟨oe, e6, c6⟩)
    refine store_ok J7 nd hi (Or.inl hn) (v := .ref a) rfl (fun s7 J8 => ?_) (.inr hn)
    refine wpAny_mono (hs a pins s7 _ _ _ (J8.su (.ref a)) (q2 a hn2)) (fun fw s8 q8 => ?_) fun _ _ z => False.elim z
    cases fw with
    | next =>
      obtain ⟨σ', H', J9, q9⟩ := q8
      have J9' := J9.unsu I.ok
      obtain ⟨m9, hm9, _⟩ := id J9'.loc
      refine wpAny_nameGoes_keeps hn hm9 (by rw [I.ok.kind]; rfl) fun h' v hN hsb => ?_
      exact ⟨σ'.set i none, H', J9'.unbound nd hi hn hm9 hN hsb, q9⟩
    | ret u =>
      obtain ⟨_, _, _, _, _, z⟩ := q8
      exact False.elim z
    | brk =>
      obtain ⟨_, _, _, z⟩ := q8
      exact False.elim z
    | cont =>
      obtain ⟨_, _, _, z⟩ := q8
      exact False.elim z
end L2

set_option Elab.async false
set_option linter.all false
set_option maxRecDepth 100000
set_option maxHeartbeats 4000000
namespace L2
open PySem PySem.Spec PyProof.Rows PySem.SeqAt
/-! ### == and != of two lists of bools -/
theorem readsAll_bls {h : Heap} : ∀ {bs : List Bool} {its : List Value}, Vals (bs.map V.bl) its → ReadsAll h its (bs.map PyData.bool) []
  | [], _, r => by
    rw [List.map_nil] at r
    cases r
    exact .nil
  | b :: bs, _, r => by
    rw [List.map_cons] at r
    cases r with
    | cons r1 r2 =>
      cases r1
      have q := ReadsAll.cons (Reads.bool (h := h) b) (readsAll_bls r2)
      simpa using q
def rEqB (K : PySem.W.Frag) (f : Bool → Bool) : R2 := fun x y H Q => ∃ (a b : Addr) (bs cs : List Bool), x = .ref a ∧ y = .ref b ∧ SqL K H a (bs.map V.bl) ∧ SqL K H b (cs.map V.bl) ∧
  shaped (.list (bs.map PyData.bool)) = true ∧ shaped (.list (cs.map PyData.bool)) = true ∧ noMix (.list (bs.map PyData.bool)) (.list (cs.map PyData.bool)) = true ∧ Q (.bl (f (PySem.Spec.same (.list (bs.map PyData.bool)) (.list (cs.map PyData.bool))))) H
section
variable {X : Cx}
theorem reads_bls {pins : List (Addr × Obj)} {σ : St} {H : Hp} {s : Shared} {a : Addr} {bs : List Bool} (I : Inv X pins σ H s) (h : SqL X.K H a (bs.map V.bl)) : Reads s.heap (.ref a) (.list (bs.map PyData.bool)) [a] := by
  obtain ⟨its, r, pl, _⟩ := I.list h
  obtain ⟨o, ho, hc, n, hd⟩ := pl.isList
  exact Reads.list ho hc hd (by simpa using readsAll_bls r)
theorem op_eqB (hu : X.A.units + 64 < cLine) : OpR X (compareOp .Eq) (rEqB X.K id) := by
  intro pins s σ H x y v u Q I rx ry h
  obtain ⟨a, b, bs, cs, rfl, rfl, ha, hb, s1, s2, nm, q⟩ := h
  cases rx
  cases ry
  exact eq_dataH_same (reads_bls I ha) (reads_bls I hb) s1 s2 hu nm ⟨.bl _, H, I, rfl, q⟩
theorem op_neB (hu : X.A.units + 64 < cLine) : OpR X (compareOp .NotEq) (rEqB X.K not) := by
  intro pins s σ H x y v u Q I rx ry h
  obtain ⟨a, b, bs, cs, rfl, rfl, ha, hb, s1, s2, nm, q⟩ := h
  cases rx
  cases ry
  exact ne_dataH_same (reads_bls I ha) (reads_bls I hb) s1 s2 hu nm ⟨.bl _, H, I, rfl, q⟩
end
end L2

namespace My
/-- the beginnings -/
def pre (t : Int) : List Int → List Int
  | [] => []
  | x :: r => (t + x) :: pre (t + x) r
theorem pre_len : ∀ (t : Int) (xs : List Int), (pre t xs).length = xs.length
  | _, [] => rfl
  | t, x :: r => by rw [pre, List.length_cons, List.length_cons, pre_len]
theorem pre_snoc : ∀ (t : Int) (xs : List Int) (y : Int), pre t (xs ++ [y]) = pre t xs ++ [t + xs.sum + y]
  | t, [], y => by simp [pre]
  | t, x :: r, y => by
    rw [List.cons_append, pre, pre, pre_snoc, List.cons_append, List.sum_cons]
    congr 3
    omega
def goodB (ns : List Int) : Bool := (pre 0 ns).all fun v => decide (0 < v)
theorem goodB_snoc (xs : List Int) (y : Int) : goodB (xs ++ [y]) = (goodB xs && decide (0 < xs.sum + y)) := by
  unfold goodB
  rw [pre_snoc, List.all_append]
  simp
/-- once not good, never again -/
theorem goodB_app (xs ys : List Int) (h : goodB xs = false) : goodB (xs ++ ys) = false := by
  unfold goodB at *
  have key : ∀ (t : Int) (a b : List Int), pre t (a ++ b) = pre t a ++ pre (t + a.sum) b := by
    intro t a
    induction a generalizing t with
    | nil => intro b; simp [pre]
    | cons x r ih =>
      intro b
      rw [List.cons_append, pre, pre, ih, List.cons_append, List.sum_cons]
      congr 3
      omega
  rw [key, List.all_append, h]
  rfl
theorem goodB_min {ns : List Int} {M : Int} (h1 : M ∈ pre 0 ns) (h2 : ∀ a ∈ pre 0 ns, M ≤ a) : decide (0 < M) = goodB ns := by
  unfold goodB
  by_cases h : 0 < M
  · rw [decide_eq_true h]
    symm
    rw [List.all_eq_true]
    intro a ha
    have := h2 a ha
    exact decide_eq_true (by omega)
  · rw [decide_eq_false h]
    symm
    rw [List.all_eq_false]
    exact ⟨M, h1, by simpa using h⟩
structure RowOk (ns : List Int) : Prop where
  l1 : 1 ≤ ns.length
  l2 : ns.length ≤ 60
  bd : ∀ v ∈ ns, -60 ≤ v ∧ v ≤ 1
theorem RowOk.rot {ns : List Int} (h : RowOk ns) (k : Nat) : RowOk (ns.drop k ++ ns.take k) := by
  have hl : (ns.drop k ++ ns.take k).length = ns.length := by
    rw [List.length_append, List.length_drop, List.length_take]
    omega
  refine ⟨by rw [hl]; exact h.l1, by rw [hl]; exact h.l2, fun v hv => ?_⟩
  rcases List.mem_append.mp hv with z | z
  · exact h.bd v (List.mem_of_mem_drop z)
  · exact h.bd v (List.mem_of_mem_take z)

/-! ### the turns that are good: just so many -/
def minW (S : Nat → Int) (k : Nat) : Nat → Int
  | 0 => S k
  | m + 1 => min (minW S k m) (S (k + (m + 1)))
theorem minW_le (S : Nat → Int) (k : Nat) : ∀ (m j : Nat), j ≤ m → minW S k m ≤ S (k + j)
  | 0, j, h => by
    have : j = 0 := by omega
    subst this
    exact Int.le_refl _
  | m + 1, j, h => by
    rw [minW]
    by_cases e : j = m + 1
    · subst e
      exact Int.min_le_right _ _
    · exact Int.le_trans (Int.min_le_left _ _) (minW_le S k m j (by omega))
theorem minW_mem (S : Nat → Int) (k : Nat) : ∀ m : Nat, ∃ j, j ≤ m ∧ minW S k m = S (k + j)
  | 0 => ⟨0, Nat.le_refl _, rfl⟩
  | m + 1 => by
    obtain ⟨j, h1, h2⟩ := minW_mem S k m
    rw [minW]
    by_cases h : minW S k m ≤ S (k + (m + 1))
    · exact ⟨j, by omega, by rw [Int.min_eq_left h]; exact h2⟩
    · exact ⟨m + 1, Nat.le_refl _, by rw [Int.min_eq_right (by omega)]⟩
/-- k is behind nothing of the next round -/
def Up (S : Nat → Int) (n k : Nat) : Prop := ∀ j, 1 ≤ j → j ≤ n → S k < S (k + j)
theorem step_up {S : Nat → Int} {n : Nat} {s : Int} (hn : 1 ≤ n) (hs : 0 < s) (per : ∀ i, S (i + n) = S i + s) (one : ∀ i, S (i + 1) ≤ S i + 1) (k : Nat) :
    (Up S n k → minW S (k + 1) (n - 1) = minW S k (n - 1) + 1) ∧ (¬ Up S n k → minW S (k + 1) (n - 1) = minW S k (n - 1)) := by
  obtain ⟨a, a1, a2⟩ := minW_mem S k (n - 1)
  obtain ⟨b, b1, b2⟩ := minW_mem S (k + 1) (n - 1)
  have la := fun j => minW_le S k (n - 1) j
  have lb := fun j => minW_le S (k + 1) (n - 1) j
  constructor
  · intro up
    have h0 := la 0 (by omega)
    have e0 : k + 0 = k := rfl
    rw [e0] at h0
    have hk : S k ≤ minW S k (n - 1) := by
      rw [a2]
      by_cases ha : a = 0
      · subst ha; exact Int.le_refl _
      · exact Int.le_of_lt (up a (by omega) (by omega))
    have h1 := lb 0 (by omega)
    have e1 : k + 1 + 0 = k + 1 := rfl
    rw [e1] at h1
    have h2 := one k
    have h3 := up (b + 1) (by omega) (by omega)
    have e3 : k + (b + 1) = k + 1 + b := by omega
    rw [e3, ← b2] at h3
    omega
  · intro nup
    have ex : ∃ j, 1 ≤ j ∧ j ≤ n - 1 ∧ S (k + j) ≤ S k := by
      have : ¬ ∀ j, 1 ≤ j → j ≤ n → S k < S (k + j) := nup
      have h1 : ∃ j, 1 ≤ j ∧ j ≤ n ∧ S (k + j) ≤ S k := by
        apply Classical.byContradiction
        intro hno
        apply this
        intro j j1 j2
        by_cases hj : S k < S (k + j)
        · exact hj
        · exact absurd ⟨j, j1, j2, by omega⟩ hno
      obtain ⟨j, j1, j2, j3⟩ := h1
      refine ⟨j, j1, ?_, j3⟩
      by_cases e : j = n
      · subst e
        rw [per] at j3
        omega
      · omega
    obtain ⟨j, j1, j2, j3⟩ := ex
    -- the least of the one window is not above the other's
    have hle : minW S (k + 1) (n - 1) ≤ minW S k (n - 1) := by
      by_cases ha : a = 0
      · have := lb (j - 1) (by omega)
        have e : k + 1 + (j - 1) = k + j := by omega
        rw [e] at this
        rw [a2, ha]
        exact Int.le_trans this j3
      · have := lb (a - 1) (by omega)
        have e : k + 1 + (a - 1) = k + a := by omega
        rw [e] at this
        rw [a2]
        exact this
    have hge : minW S k (n - 1) ≤ minW S (k + 1) (n - 1) := by
      by_cases hb : b = n - 1
      · have h1 := la j (by omega)
        have e : k + 1 + b = k + n := by omega
        rw [e, per] at b2
        rw [b2]
        omega
      · have h1 := la (b + 1) (by omega)
        have e : k + (b + 1) = k + 1 + b := by omega
        rw [e] at h1
        rw [b2]
        exact h1
    omega
theorem minW_per {S : Nat → Int} {n : Nat} {s : Int} (per : ∀ i, S (i + n) = S i + s) : ∀ (m k : Nat), minW S (k + n) m = minW S k m + s
  | 0, k => per k
  | m + 1, k => by
    have e : k + n + (m + 1) = k + (m + 1) + n := by omega
    rw [minW, minW, minW_per per m k, e, per]
    omega
/-- as many k below m with p as the least rises -/
theorem count_up {S : Nat → Int} {n : Nat} {s : Int} {p : Nat → Bool} (hn : 1 ≤ n) (hs : 0 < s) (per : ∀ i, S (i + n) = S i + s) (one : ∀ i, S (i + 1) ≤ S i + 1) :
    ∀ (m : Nat), m ≤ n → (∀ k, k < m → (p k = true ↔ Up S n k)) → (((List.range m).filter p).length : Int) = minW S m (n - 1) - minW S 0 (n - 1)
  | 0, _, _ => by simp
  | m + 1, hm, hp => by
    have ih := count_up hn hs per one m (by omega) fun k hk => hp k (by omega)
    obtain ⟨s1, s2⟩ := step_up hn hs per one m
    rw [List.range_succ, List.filter_append, List.length_append]
    cases hpm : p m with
    | true =>
      have := s1 ((hp m (by omega)).mp hpm)
      simp only [List.filter_cons, hpm, if_true, List.filter_nil, List.length_singleton]
      omega
    | false =>
      have : ¬ Up S n m := fun z => by
        have := (hp m (by omega)).mpr z
        rw [hpm] at this
        cases this
      have := s2 this
      simp only [List.filter_cons, hpm, Bool.false_eq_true, if_false, List.filter_nil, List.length_nil]
      omega
theorem count_all {S : Nat → Int} {n : Nat} {s : Int} {p : Nat → Bool} (hn : 1 ≤ n) (hs : 0 < s) (per : ∀ i, S (i + n) = S i + s) (one : ∀ i, S (i + 1) ≤ S i + 1) (hp : ∀ k, k < n → (p k = true ↔ Up S n k)) :
    (((List.range n).filter p).length : Int) = s := by
  have h1 := count_up hn hs per one n (Nat.le_refl _) hp
  have h2 := minW_per per (n - 1) 0
  rw [Nat.zero_add] at h2
  omega

/-! ### a row and its turns -/
def rot (ns : List Int) (k : Nat) : List Int := ns.drop k ++ ns.take k
def sumTo (ns : List Int) (i : Nat) : Int := ((i / ns.length : Nat) : Int) * ns.sum + (ns.take (i % ns.length)).sum
theorem sumTo_per {ns : List Int} (h : 1 ≤ ns.length) (i : Nat) : sumTo ns (i + ns.length) = sumTo ns i + ns.sum := by
  unfold sumTo
  rw [Nat.add_mod_right, Nat.add_div_right i (by omega)]
  push_cast
  rw [Int.add_mul]
  omega
theorem sum_take_succ : ∀ (ns : List Int) (i : Nat) (v : Int), ns[i]? = some v → (ns.take (i + 1)).sum = (ns.take i).sum + v
  | [], i, v, h => by simp at h
  | x :: r, 0, v, h => by
    simp at h
    subst h
    simp
  | x :: r, i + 1, v, h => by
    rw [List.take_succ_cons, List.take_succ_cons, List.sum_cons, List.sum_cons, sum_take_succ r i v (by simpa using h)]
    omega
theorem sumTo_one {ns : List Int} (h : 1 ≤ ns.length) (hb : ∀ v ∈ ns, v ≤ 1) (i : Nat) : sumTo ns (i + 1) ≤ sumTo ns i + 1 := by
  have hm : i % ns.length < ns.length := Nat.mod_lt _ (by omega)
  have hget : ns[i % ns.length]? = some (ns[i % ns.length]'hm) := List.getElem?_eq_getElem hm
  have hv := hb _ (List.getElem_mem hm)
  have ht := sum_take_succ ns (i % ns.length) _ hget
  have hdm := Nat.div_add_mod i ns.length
  by_cases e : i % ns.length + 1 = ns.length
  · have e1 : i + 1 = ns.length * (i / ns.length + 1) := by
      rw [Nat.mul_add]
      omega
    have e2 : (i + 1) / ns.length = i / ns.length + 1 := by
      rw [e1, Nat.mul_div_cancel_left _ (by omega)]
    have e3 : (i + 1) % ns.length = 0 := by
      rw [e1, Nat.mul_mod_right]
    unfold sumTo
    rw [e2, e3]
    rw [e, List.take_of_length_le (Nat.le_refl _)] at ht
    push_cast
    rw [Int.add_mul]
    simp only [List.take_zero, List.sum_nil]
    omega
  · have e1 : i + 1 = ns.length * (i / ns.length) + (i % ns.length + 1) := by omega
    have e2 : (i + 1) / ns.length = i / ns.length := by
      rw [e1, Nat.mul_add_div (by omega), Nat.div_eq_of_lt (show i % ns.length + 1 < ns.length by omega)]
      rfl
    have e3 : (i + 1) % ns.length = i % ns.length + 1 := by
      rw [e1, Nat.mul_add_mod, Nat.mod_eq_of_lt (by omega)]
    unfold sumTo
    rw [e2, e3, ht]
    omega
theorem goodB_iff (xs : List Int) : goodB xs = true ↔ ∀ j, 1 ≤ j → j ≤ xs.length → 0 < (xs.take j).sum := by
  have key : ∀ (t : Int) (a : List Int), ((pre t a).all fun v => decide (0 < v)) = true ↔ ∀ j, 1 ≤ j → j ≤ a.length → 0 < t + (a.take j).sum := by
    intro t a
    induction a generalizing t with
    | nil =>
      simp [pre]
      intro j h1 h2
      omega
    | cons x r ih =>
      rw [pre, List.all_cons, Bool.and_eq_true, ih]
      constructor
      · rintro ⟨h1, h2⟩ j j1 j2
        cases j with
        | zero => omega
        | succ j =>
          rw [List.take_succ_cons, List.sum_cons]
          cases j with
          | zero =>
            have := of_decide_eq_true h1
            simp
            exact this
          | succ j =>
            have := h2 (j + 1) (by omega) (by simp at j2; omega)
            omega
      · intro h
        refine ⟨decide_eq_true ?_, fun j j1 j2 => ?_⟩
        · have := h 1 (by omega) (by simp)
          simpa using this
        · have := h (j + 1) (by omega) (by simp; omega)
          rw [List.take_succ_cons, List.sum_cons] at this
          omega
  have := key 0 xs
  unfold goodB
  rw [this]
  simp
theorem rot_len {ns : List Int} (k : Nat) : (rot ns k).length = ns.length := by
  unfold rot
  rw [List.length_append, List.length_drop, List.length_take]
  omega
theorem sum_split (ns : List Int) (k : Nat) : ns.sum = (ns.take k).sum + (ns.drop k).sum := by
  rw [← List.sum_append, List.take_append_drop]
theorem rot_sum (ns : List Int) (k : Nat) : (rot ns k).sum = ns.sum := by
  unfold rot
  rw [List.sum_append, sum_split ns k]
  omega
theorem take_rot {ns : List Int} {k j : Nat} (hk : k < ns.length) (hj : j ≤ ns.length) : ((rot ns k).take j).sum = sumTo ns (k + j) - sumTo ns k := by
  have h0 : sumTo ns k = (ns.take k).sum := by
    unfold sumTo
    rw [Nat.div_eq_of_lt hk, Nat.mod_eq_of_lt hk]
    simp
  rw [h0]
  unfold rot
  by_cases h : k + j < ns.length
  · have e : sumTo ns (k + j) = (ns.take (k + j)).sum := by
      unfold sumTo
      rw [Nat.div_eq_of_lt h, Nat.mod_eq_of_lt h]
      simp
    rw [e, List.take_append_of_le_length (by rw [List.length_drop]; omega)]
    have := sum_split (ns.take (k + j)) k
    rw [List.take_take, List.drop_take] at this
    have e1 : min k (k + j) = k := by omega
    have e2 : k + j - k = j := by omega
    rw [e1, e2] at this
    omega
  · have e1 : (k + j) / ns.length = 1 := by
      have : k + j = ns.length * 1 + (k + j - ns.length) := by omega
      rw [this, Nat.mul_add_div (by omega), Nat.div_eq_of_lt (by omega)]
    have e2 : (k + j) % ns.length = k + j - ns.length := by
      have : k + j = ns.length * 1 + (k + j - ns.length) := by omega
      rw [this, Nat.mul_add_mod, Nat.mod_eq_of_lt (by omega)]
      omega
    have e : sumTo ns (k + j) = ns.sum + (ns.take (k + j - ns.length)).sum := by
      unfold sumTo
      rw [e1, e2]
      simp
    rw [e, List.take_append, List.sum_append, List.take_of_length_le (l := ns.drop k) (by rw [List.length_drop]; omega), List.take_take, List.length_drop]
    have e3 : min (j - (ns.length - k)) k = k + j - ns.length := by omega
    rw [e3, sum_split ns k]
    omega
def startB (ns : List Int) (k : Nat) : Bool := goodB (rot ns k)
def startsOf (ns : List Int) : List Nat := (List.range ns.length).filter (startB ns)
theorem startB_up {ns : List Int} {k : Nat} (hk : k < ns.length) : startB ns k = true ↔ Up (sumTo ns) ns.length k := by
  unfold startB Up
  rw [goodB_iff, rot_len]
  constructor
  · intro h j j1 j2
    have := h j j1 j2
    rw [take_rot hk j2] at this
    omega
  · intro h j j1 j2
    have := h j j1 j2
    rw [take_rot hk j2]
    omega
theorem starts_count {ns : List Int} (h : 1 ≤ ns.length) (hb : ∀ v ∈ ns, v ≤ 1) : ((startsOf ns).length : Int) = max 0 ns.sum := by
  by_cases hs : 0 < ns.sum
  · have := count_all (p := startB ns) h hs (sumTo_per h) (sumTo_one h hb) fun k hk => startB_up hk
    unfold startsOf
    rw [this, Int.max_eq_right (by omega)]
  · have : startsOf ns = [] := by
      unfold startsOf
      rw [List.filter_eq_nil_iff]
      intro k hk
      have hk' := List.mem_range.mp hk
      intro hg
      have := (goodB_iff _).mp hg ns.length h (by rw [rot_len]; exact Nat.le_refl _)
      rw [List.take_of_length_le (by rw [rot_len]; exact Nat.le_refl _), rot_sum] at this
      omega
    rw [this, Int.max_eq_left (by omega)]
    rfl
/-- turned by k first -/
theorem rot_rot {ns : List Int} {k i : Nat} (hk : k < ns.length) (hi : i < ns.length) : rot (rot ns k) i = rot ns ((k + i) % ns.length) := by
  unfold rot
  by_cases h : k + i < ns.length
  · rw [Nat.mod_eq_of_lt h, List.drop_append_of_le_length (by rw [List.length_drop]; omega), List.take_append_of_le_length (by rw [List.length_drop]; omega), List.drop_drop, List.append_assoc]
    congr 1
    have : ns.take (k + i) = ns.take k ++ (ns.drop k).take i := by
      rw [List.take_add]
    rw [this]
  · have e2 : (k + i) % ns.length = k + i - ns.length := by
      have : k + i = ns.length * 1 + (k + i - ns.length) := by omega
      rw [this, Nat.mul_add_mod, Nat.mod_eq_of_lt (by omega)]
      omega
    rw [e2, List.drop_append, List.take_append, List.length_drop, List.drop_drop, List.drop_eq_nil_of_le (as := ns) (by omega), List.nil_append,
      List.take_of_length_le (l := ns.drop k) (by rw [List.length_drop]; omega), List.drop_take, List.take_take]
    have e3 : i - (ns.length - k) = k + i - ns.length := by omega
    rw [e3]
    have e4 : min (k + i - ns.length) k = k + i - ns.length := by omega
    rw [e4, ← List.append_assoc]
    congr 1
    have e5 : k + i - ns.length + (k - (k + i - ns.length)) = k := by omega
    have := List.take_append_drop (k - (k + i - ns.length)) (ns.drop (k + i - ns.length))
    rw [List.drop_drop, e5] at this
    exact this
end My

namespace My
theorem lt_ext : ∀ {xs ys : List Int}, xs.Pairwise (· < ·) → ys.Pairwise (· < ·) → (∀ v, v ∈ xs ↔ v ∈ ys) → xs = ys
  | [], [], _, _, _ => rfl
  | [], y :: r, _, _, h => absurd ((h y).mpr List.mem_cons_self) (by simp)
  | x :: r, [], _, _, h => absurd ((h x).mp List.mem_cons_self) (by simp)
  | x :: r, y :: q, hx, hy, h => by
    have hx' := List.pairwise_cons.mp hx
    have hy' := List.pairwise_cons.mp hy
    have e : x = y := by
      have h1 := (h x).mp List.mem_cons_self
      have h2 := (h y).mpr List.mem_cons_self
      rcases List.mem_cons.mp h1 with h1 | h1
      · exact h1
      · rcases List.mem_cons.mp h2 with h2 | h2
        · exact h2.symm
        · have a := hy'.1 x h1
          have b := hx'.1 y h2
          omega
    subst e
    congr 1
    refine lt_ext hx'.2 hy'.2 fun v => ⟨fun hv => ?_, fun hv => ?_⟩
    · rcases List.mem_cons.mp ((h v).mp (List.mem_cons_of_mem _ hv)) with z | z
      · have := hx'.1 v hv
        omega
      · exact z
    · rcases List.mem_cons.mp ((h v).mpr (List.mem_cons_of_mem _ hv)) with z | z
      · have := hy'.1 v hv
        omega
      · exact z
theorem lt_of_le {xs : List Int} (h : xs.Pairwise (· ≤ ·)) (nd : xs.Nodup) : xs.Pairwise (· < ·) := by
  induction xs with
  | nil => exact .nil
  | cons x r ih =>
    have h' := List.pairwise_cons.mp h
    have nd' := List.nodup_cons.mp nd
    refine List.pairwise_cons.mpr ⟨fun v hv => ?_, ih h'.2 nd'.2⟩
    have := h'.1 v hv
    have : x ≠ v := fun e => nd'.1 (e ▸ hv)
    omega
/-- the starts as ints -/
def startsI (ns : List Int) : List Int := (startsOf ns).map fun (k : Nat) => (k : Int)
theorem range_lt (n : Nat) : (List.range n).Pairwise (· < ·) := List.pairwise_lt_range
theorem startsI_lt (ns : List Int) : (startsI ns).Pairwise (· < ·) := by
  unfold startsI startsOf
  rw [List.pairwise_map]
  exact ((range_lt ns.length).filter _).imp fun h => by omega
theorem mem_startsI {ns : List Int} {v : Int} : v ∈ startsI ns ↔ ∃ k : Nat, k < ns.length ∧ startB ns k = true ∧ v = (k : Int) := by
  unfold startsI startsOf
  simp only [List.mem_map, List.mem_filter, List.mem_range]
  constructor
  · rintro ⟨k, ⟨h1, h2⟩, rfl⟩
    exact ⟨k, h1, h2, rfl⟩
  · rintro ⟨k, h1, h2, rfl⟩
    exact ⟨k, ⟨h1, h2⟩, rfl⟩
theorem startsI_len {ns : List Int} (h : 1 ≤ ns.length) (hb : ∀ v ∈ ns, v ≤ 1) : ((startsI ns).length : Int) = max 0 ns.sum := by
  unfold startsI
  rw [List.length_map]
  exact starts_count h hb
theorem startsI_le (ns : List Int) : (startsI ns).length ≤ ns.length := by
  unfold startsI startsOf
  rw [List.length_map]
  exact Nat.le_trans (List.length_filter_le _ _) (by rw [List.length_range]; exact Nat.le_refl _)
theorem emod_shift {n k o : Nat} (hk : k < n) (ho : o < n) : ((o : Int) - (k : Int)) % (n : Int) = if k ≤ o then (o : Int) - k else (o : Int) - k + n := by
  split
  · rw [Int.emod_eq_of_lt (by omega) (by omega)]
  · have : ((o : Int) - k) % n = ((o : Int) - k + n) % n := by rw [Int.add_emod_right]
    rw [this, Int.emod_eq_of_lt (by omega) (by omega)]
theorem mod_two {n k i : Nat} (hk : k < n) (hi : i < n) : (k + i) % n = if k + i < n then k + i else k + i - n := by
  split
  · rename_i h
    exact Nat.mod_eq_of_lt h
  · rename_i h
    have : k + i = n * 1 + (k + i - n) := by omega
    rw [this, Nat.mul_add_mod, Nat.mod_eq_of_lt (by omega)]
    omega
theorem startB_rot {ns : List Int} {k i : Nat} (hk : k < ns.length) (hi : i < ns.length) : startB (rot ns k) i = startB ns ((k + i) % ns.length) := by
  unfold startB
  rw [rot_rot hk hi]
/-- turned by k, each start is k less -/
theorem starts_turned {ns : List Int} {k : Nat} (hk : k < ns.length) {xs : List Int} (hp : xs.Perm ((startsI ns).map fun o => (o - (k : Int)) % (ns.length : Int))) (hs : xs.Pairwise (· ≤ ·)) : startsI (rot ns k) = xs := by
  have inj : ((startsI ns).map fun o => (o - (k : Int)) % (ns.length : Int)).Nodup := by
    rw [List.nodup_iff_pairwise_ne, List.pairwise_map]
    have h1 := startsI_lt ns
    refine List.Pairwise.imp_of_mem (fun {a b} ha hb hlt => ?_) h1
    obtain ⟨i, i1, i2, rfl⟩ := mem_startsI.mp ha
    obtain ⟨j, j1, j2, rfl⟩ := mem_startsI.mp hb
    rw [emod_shift hk i1, emod_shift hk j1]
    split <;> split <;> omega
  refine lt_ext (startsI_lt _) (lt_of_le hs (hp.nodup_iff.mpr inj)) fun v => ?_
  rw [hp.mem_iff, mem_startsI, rot_len, List.mem_map]
  constructor
  · rintro ⟨i, i1, i2, rfl⟩
    rw [startB_rot hk i1] at i2
    refine ⟨(((k + i) % ns.length : Nat) : Int), mem_startsI.mpr ⟨_, Nat.mod_lt _ (by omega), i2, rfl⟩, ?_⟩
    have hlt : (k + i) % ns.length < ns.length := Nat.mod_lt _ (by omega)
    rw [emod_shift hk hlt, mod_two hk i1]
    split <;> split <;> omega
  · rintro ⟨o, ho, rfl⟩
    obtain ⟨j, j1, j2, rfl⟩ := mem_startsI.mp ho
    rw [emod_shift hk j1]
    split
    · refine ⟨j - k, by omega, ?_, by omega⟩
      rw [startB_rot hk (by omega), mod_two hk (by omega)]
      have e : k + (j - k) = j := by omega
      rw [e, if_pos j1]
      exact j2
    · refine ⟨j + ns.length - k, by omega, ?_, by omega⟩
      rw [startB_rot hk (by omega), mod_two hk (by omega)]
      have e : k + (j + ns.length - k) - ns.length = j := by omega
      rw [e, if_neg (by omega)]
      exact j2
end My

set_option Elab.async false
set_option linter.all false
set_option maxRecDepth 100000
set_option maxHeartbeats 4000000
namespace My
open PySem PySem.Spec PyProof.Rows L2
/-! ### a def of the text that may be called, and may raise -/
def Fn (P : Program) (w : World) (K : PySem.W.Frag) (mg : Str → Option Value) (base : Heap) (x : Str) (ps : List Str) (k : Nat) (sp : Sp) : Prop :=
  ∃ f fd, FnOk P w K mg base (CXf P w) k f fd ps sp ∧ Binds K fd ps [] ∧ PySem.W.keepIn K (.ref f) = true ∧ mg x = some (.ref f)
theorem pe_fx {X : Cx} {x : Str} {ps : List Str} {k : Nat} {sp : Sp} {p pos : Pos} {e : Expr} {es : List Expr} {t : TA} {E : XK} (F : Fn X.prog X.w X.K X.mg X.base x ps k sp) (hx : Passes (CXf X.prog X.w) X E) (hr : Room k X.A) (hg : Gl X x) (ha : PA X (e :: es) t)
    (hdb : (x == ("__debug__" : Str)) = false := by decide) (he : starEach (e :: es) X.env = (false, eval e X.env) :: starEach es X.env := by rfl) (hpl : (backTo pos (starEach es X.env)).any (·.1) = false := by rfl) :
    PE X (.Call (.Name x p) (e :: es) [] pos) (tCall sp [] E t) := by
  obtain ⟨f, fd, G, b, kp, m⟩ := F
  exact pe_call G hr hg m kp b .nil hx ha hdb he hpl
theorem pe_fn {X : Cx} {x : Str} {ps : List Str} {k : Nat} {sp : Sp} {p pos : Pos} {e : Expr} {es : List Expr} {t : TA} (F : Fn X.prog X.w X.K X.mg X.base x ps k sp) (hr : Room k X.A) (hg : Gl X x) (ha : PA X (e :: es) t)
    (hdb : (x == ("__debug__" : Str)) = false := by decide) (he : starEach (e :: es) X.env = (false, eval e X.env) :: starEach es X.env := by rfl) (hpl : (backTo pos (starEach es X.env)).any (·.1) = false := by rfl) :
    PE X (.Call (.Name x p) (e :: es) [] pos) (tCall sp [] E0 t) := pe_fx F passF0 hr hg ha hdb he hpl
theorem boot_ve : bootBuiltins "ValueError" = some (.type "ValueError") := by decide +kernel
theorem kit_self {K : PySem.W.Frag} {C : Addr} : PySem.W.kitOne K (.ref C) (.ref C) = some true := by
  unfold PySem.W.kitOne
  rw [if_pos (by simp)]
theorem small {n : Nat} (h : n ≤ 1000) : n ≤ sizeLine := Nat.le_of_lt (small1000 h)
theorem same_new {H : Hp} {p : Addr} (h : H p = none) (o : HO) : Same H (upd H p o) := fun b u q => by rw [upd_ne (ne_of_none q h)]; exact q
theorem same_upd {H H' : Hp} {p : Addr} (g : Same H H') (h : H p = none) (o : HO) : Same H (upd H' p o) := fun b u q => by rw [upd_ne (ne_of_none q h)]; exact g b u q
theorem sq_keep {K : PySem.W.Frag} {H0 H1 : Hp} {a p : Addr} {xs : List V} {o : HO} (h0 : SqL K H0 a xs) (hp : H0 p = none) (h1 : SqL K H1 a xs) : SqL K (upd H1 p o) a xs := by
  have ne : ∀ {u : HO}, H0 a = some u → a ≠ p := fun e => ne_of_none e hp
  rcases h0 with h0 | h0
  · have n : a ≠ p := by
      rcases h0 with h | ⟨_, h⟩
      · exact ne h
      · exact ne h
    rcases h1 with (h | ⟨u, h⟩) | h
    · exact .inl (.inl (by rw [upd_ne n]; exact h))
    · exact .inl (.inr ⟨u, by rw [upd_ne n]; exact h⟩)
    · exact .inr h
  · exact .inr h0
theorem at_get {ns : List Int} {k : Int} (h0 : 0 ≤ k) (h1 : k < (ns.length : Int)) : atI (ns.map V.int) k = some (.int (ns.getD k.toNat 0)) := by
  have hk : k.toNat < ns.length := by omega
  have ek : k = ((k.toNat : Nat) : Int) := by omega
  have q : atI (ns.map V.int) ((k.toNat : Nat) : Int) = some (.int (ns.getD k.toNat 0)) := atI_nat (by rw [List.getElem?_map, List.getD_eq_getElem?_getD, List.getElem?_eq_getElem hk] <;> rfl)
  rw [← ek] at q
  exact q
theorem at_mem {ns : List Int} {k : Int} (h0 : 0 ≤ k) (h1 : k < (ns.length : Int)) : ∃ v, atI (ns.map V.int) k = some (.int v) ∧ v ∈ ns := by
  have hk : k.toNat < ns.length := by omega
  refine ⟨_, at_get h0 h1, ?_⟩
  rw [List.getD_eq_getElem?_getD, List.getElem?_eq_getElem hk]
  exact List.getElem_mem hk
theorem getD_out {ns : List Int} {k : Int} (h : ¬ k < (ns.length : Int)) : ns.getD k.toNat 0 = 0 := by
  rw [List.getD_eq_getElem?_getD, List.getElem?_eq_none (by omega)]
  rfl
theorem int_of_map {ns : List Int} {i : Nat} {y : V} (h : (ns.map V.int)[i]? = some y) : ∃ z, y = .int z ∧ ns[i]? = some z := by
  rw [List.getElem?_map] at h
  cases e : ns[i]? with
  | none => rw [e] at h; cases h
  | some z => rw [e] at h; exact ⟨z, (Option.some.inj h).symm, rfl⟩
theorem map_snoc (ns : List Int) (v : Int) : ns.map V.int ++ [V.int v] = (ns ++ [v]).map V.int := by rw [List.map_append]; rfl
theorem take_snoc {ns : List Int} {i : Nat} {z : Int} (h : ns[i]? = some z) : ns.take (i + 1) = ns.take i ++ [z] := by
  rw [List.take_add_one, h]
  rfl
theorem cut_from {ns : List Int} {k : Nat} (h : k ≤ ns.length) : cutV (ns.map V.int) (some (k : Int)) none = (ns.drop k).map V.int := by
  unfold cutV
  rw [HT.sIx_nat, HT.sIx_none, List.length_map, Nat.min_eq_left h, List.take_of_length_le (by rw [List.length_drop, List.length_map]; exact Nat.le_refl _), List.map_drop]
theorem cut_to {ns : List Int} {k : Nat} : cutV (ns.map V.int) none (some (k : Int)) = (ns.take k).map V.int := by
  unfold cutV
  rw [HT.sIx_nat, HT.sIx_none, List.length_map, List.drop_zero, Nat.sub_zero, ← List.map_take]
  congr 1
  by_cases h : k ≤ ns.length
  · rw [Nat.min_eq_left h]
  · rw [Nat.min_eq_right (by omega), List.take_of_length_le (Nat.le_refl _), List.take_of_length_le (by omega)]
theorem map_inj {ns ms : List Int} (h : ns.map V.int = ms.map V.int) : ns = ms := by
  induction ns generalizing ms with
  | nil =>
    cases ms with
    | nil => rfl
    | cons y r => cases h
  | cons x q ih =>
    cases ms with
    | nil => cases h
    | cons y r =>
      rw [List.map_cons, List.map_cons] at h
      injection h with h1 h2
      injection h1 with h1
      rw [h1, ih h2]
end My

set_option Elab.async false
set_option linter.all false
set_option maxRecDepth 100000
set_option maxHeartbeats 4000000
namespace L2
open PySem PySem.Spec PyProof.Rows
/-! ### for k in range(a, b, -1) -/
def Itd (lo : Int) (n : Nat) : It := ⟨fun i _ => i < n, fun i H x H' => H' = H ∧ x = .int (lo - i), fun i _ => n ≤ i⟩
theorem turn_rangeD {P : Program} {w : World} {K : PySem.W.Frag} {tg : Expr} (it : Addr) (lo : Int) (n : Nat) : Turn P w K tg (Itd lo n) [it] it (fun i h => IsRangeIter h it (lo + (i : Nat) * (-1)) ((n : Int) - (i : Nat)) (-1)) where
  mem := by simp
  obj := fun i h st b hb => by
    have e : b = it := by simpa using hb
    subst e
    exact ⟨_, st, fun v z => by
      have z' : Data.fields _ = Data.cell v := z
      cases z'⟩
  keep := fun i h h' st k => k it (by simp) _ st
  item := by
    intro X hP hw hK hc i pins s σ H E I hf st hg
    subst hP hw hK
    obtain ⟨f0, f1, f2, f3, f4, f5⟩ := hf it (by simp)
    have W := Walks.range (prog := X.prog) (w := X.w) (I.ok.hd hc) it lo (-1) n
    refine W.item i s _ _ hg st fun v h' tk hv st' kk => ?_
    obtain ⟨t, rfl⟩ := hv
    have I1 : Inv X pins σ H { s with heap := h', toks := tk } := I.turned (fun b o hb e => kk b o (by simpa using hb) e) f0 f1 f3 f4 f5
    refine ⟨_, rfl, go_of (s := { s with heap := h', toks := tk }) (n := "range_iterator") st' rfl rfl (by decide) ⟨.int (lo - i), H, I1, ⟨t, ?_⟩, ⟨rfl, rfl⟩, st', fun b hb => (hf b hb).1⟩⟩
    rw [show lo + (i : Int) * (-1) = lo - i by omega]
  done := by
    intro X hP hw hK hc i pins s σ H E I hf st hg
    subst hP hw hK
    obtain ⟨f0, f1, f2, f3, f4, f5⟩ := hf it (by simp)
    exact wpAny_pyNext_range_end (I.ok.hd hc) st (by have : n ≤ i := hg; omega) fun h' eb => ⟨rfl, I.turned (t' := s.toks) (fun b o hb e => eb b o hb e) f0 f1 f3 f4 f5⟩
  self := fun _ _ _ _ _ st h => wpAny_pyIter_rangeiter st h
section
variable {X : Cx} {tg : Expr}
theorem range_itD {pins : List (Addr × Obj)} {σ : St} {H : Hp} {s : Shared} {R : It → Hp → Prop} {E : Value → Shared → Prop} {lo hi : Int} {t u v : Tok} {tk : Nat} (I : Inv X pins σ H s) (h1 : -(2 ^ 62) ≤ lo) (h2 : lo < 2 ^ 62) (h3 : -(2 ^ 62) ≤ hi) (h4 : hi < 2 ^ 62)
    (q : R (Itd lo (lo - hi).toNat) H) : wpAny (model X.prog X.w) X.A (pyIter (.ref s.heap.objs.size)) (PIE X pins σ tg R) E { s with heap := s.heap.push { cls := .type "range", data := .fields #[.int lo t, .int hi u, .int (-1) v] }, toks := tk } := by
  refine wpAny_pyIter_range (IsRange.new ..) (PySem.W.small_down h1 h2 h3 h4) ?_
  have I1 : Inv X pins σ H { s with heap := s.heap.push { cls := .type "range", data := .fields #[.int lo t, .int hi u, .int (-1) v] }, toks := tk } := I.kept fun b o e => Heap.get?_push_of_some _ e
  refine ⟨(s.heap.push { cls := .type "range", data := .fields #[.int lo t, .int hi u, .int (-1) v] }).objs.size, [(s.heap.push { cls := .type "range", data := .fields #[.int lo t, .int hi u, .int (-1) v] }).objs.size], _, _, H, rfl,
    I1.kept (t' := tk) fun b o e => Heap.get?_push_of_some _ e, turn_rangeD _ lo (lo - hi).toNat, ?_, fun b hb => ?_, q⟩
  · have e1 : lo + ((0 : Nat) : Int) * (-1) = lo := by simp
    have e2 : (((lo - hi).toNat : Nat) : Int) - ((0 : Nat) : Int) = Builtin.Range.rangeSize lo hi (-1) := by rw [PySem.W.rangeSize_downNat]; omega
    show IsRangeIter _ _ (lo + ((0 : Nat) : Int) * (-1)) ((((lo - hi).toNat : Nat) : Int) - ((0 : Nat) : Int)) (-1)
    rw [e1, e2]
    exact Heap.get?_push_size _ rfl
  · have e : b = (s.heap.push { cls := .type "range", data := .fields #[.int lo t, .int hi u, .int (-1) v] }).objs.size := by simpa using hb
    subst e
    exact I1.fpOk (Nat.le_refl _) (I1.hok.fresh (Nat.le_refl _))
def iRngD (ta : TA) : TI := fun σ H R => ta σ H fun vs H1 => ∃ i j : Int, vs = [.int i, .int j, .int (-1)] ∧ (-(2 ^ 62) ≤ i ∧ i < 2 ^ 62 ∧ -(2 ^ 62) ≤ j ∧ j < 2 ^ 62) ∧ R (Itd i (i - j).toNat) H1
theorem pi_rangeD {a : Expr} {es : List Expr} {ta : TA} {p pos : Pos} (hg : Gl X "range") (hm : X.mg "range" = none) (ha : PA X (a :: es) ta) (hs : starEach (a :: es) X.env = (false, eval a X.env) :: starEach es X.env := by rfl) (hpl : (backTo pos (starEach es X.env)).any (·.1) = false := by rfl) :
    PI X tg (.Call (.Name "range" p) (a :: es) [] pos) (iRngD ta) := by
  intro pins s σ H R I h
  refine Call_ (ld_blt I hg hm boot_range (PyProof.Rows.callWith_type1 (thn (ha pos pins s σ H _ I h) fun us s1 ⟨vs, H1, I1, r1, q1⟩ => ?_) hs hpl))
  obtain ⟨i, j, e, ⟨q1, q2, q3, q4⟩, q⟩ := q1
  subst e
  cases r1 with
  | cons r rr =>
    cases rr with
    | cons r' rr =>
      cases rr with
      | cons r'' rr =>
        cases rr
        obtain ⟨t, rfl⟩ := r
        obtain ⟨t', rfl⟩ := r'
        obtain ⟨t'', rfl⟩ := r''
        exact call_range_3 (by decide) (range_itD I1 q1 q2 q3 q4 q) (.inl (PyProof.noPylong_small (by decide)))
end
theorem for_rangeD {lo : Int} {n : Nat} {g : TG} {tb : TS} {D : Ends} {σ : St} {H : Hp} (Pv : Nat → St → Hp → Prop) (h0 : Pv 0 σ H)
    (hs : ∀ i σ H, i < n → Pv i σ H → g (.int (lo - i)) σ H fun σ2 H2 => tb { D with nx := Pv (i + 1), ct := Pv (i + 1), bk := D.nx } σ2 H2) (hd : ∀ σ H, Pv n σ H → D.nx σ H) :
    ∃ W : Nat → Nat → St → Hp → Prop, (∃ m, W 0 m σ H) ∧ ∀ i m σ H, W i m σ H →
      ((Itd lo n).stop i H ∧ D.nx σ H) ∨ ((Itd lo n).go i H ∧ ∃ N : St → Hp → Prop, (∀ σ' H', N σ' H' → ∃ m', m' < m ∧ W (i + 1) m' σ' H') ∧ ∀ x H', (Itd lo n).yld i H x H' → g x σ H' fun σ2 H2 => tb { D with nx := N, ct := N, bk := D.nx } σ2 H2) := by
  refine ⟨fun i m σ H => m = n - i ∧ i ≤ n ∧ Pv i σ H, ⟨n, by simp, Nat.zero_le _, h0⟩, ?_⟩
  rintro i m σ H ⟨rfl, hi, p⟩
  by_cases hlt : i < n
  · refine .inr ⟨hlt, Pv (i + 1), fun σ' H' p' => ⟨n - (i + 1), by omega, rfl, hlt, p'⟩, fun x H' y => ?_⟩
    obtain ⟨e, y⟩ := y
    subst e y
    exact hs i σ _ hlt p
  · have e : i = n := by omega
    subst e
    exact .inl ⟨Nat.le_refl _, hd σ H p⟩
end L2
namespace L2
open PySem PySem.Spec PyProof.Rows
section
variable {X : Cx}
theorem call_max (hc : X.calm = true) : CallR X (.builtin "max") (fun xs H Q => ∃ (p : Addr) (ns : List Int), xs = [.ref p] ∧ SqL X.K H p (ns.map V.int) ∧ 0 < ns.length ∧ ∀ M, M ∈ ns → (∀ a ∈ ns, a ≤ M) → Q (.int M) H) := by
  intro pins s σ H xs us Q I r h
  obtain ⟨p, ns, rfl, hq, hne, q⟩ := h
  obtain ⟨u, rfl, rx⟩ := vals1 r
  cases rx
  obtain ⟨its, r', pl, hz⟩ := I.list hq
  have hi := intsAre_of r'
  obtain ⟨xs, hx⟩ := hi.allInts.items
  have hl' : s.heap.IsList p (intItems xs) := hx ▸ pl.isList
  have hns := items_nums hi hx
  have hsz : 0 < xs.size := by
    have h3 := hne
    rw [hns, List.length_map, Array.length_toList] at h3
    exact h3
  refine max_intList (I.ok.hd hc) hl' hsz fun v h' tk hv hk => ?_
  obtain ⟨t, rfl⟩ := intItems_at hv
  obtain ⟨h1, h2⟩ := argBest_gt (numAt xs) (xs.size - 1)
  refine ⟨.int _, H, I.kept hk, ⟨t, rfl⟩, q _ ?_ fun a ha => ?_⟩
  · rw [hns, numAt_eq]
    exact getD_mem (by rw [List.length_map, Array.length_toList]; omega)
  · rw [hns] at ha
    obtain ⟨j, hj, rfl⟩ := mem_getD ha
    rw [List.length_map, Array.length_toList] at hj
    rw [← numAt_eq]
    exact h2 j (by omega)
end
end L2

namespace My
/-! ### groves: a grove is none, or a first tree (its boughs are a grove) and the others -/
inductive Gr where
  | nil
  | cons (b r : Gr)
  deriving DecidableEq
namespace Gr
def len : Gr → Nat
  | nil => 0
  | cons _ r => len r + 1
def size : Gr → Nat
  | nil => 0
  | cons b r => size b + size r + 1
def word : Gr → List Int
  | nil => []
  | cons b r => (len b : Int) :: (word b ++ word r)
def app : Gr → Gr → Gr
  | nil, g => g
  | cons b r, g => cons b (app r g)
def take : Nat → Gr → Gr
  | 0, _ => nil
  | _ + 1, nil => nil
  | n + 1, cons b r => cons b (take n r)
def drop : Nat → Gr → Gr
  | 0, g => g
  | _ + 1, nil => nil
  | n + 1, cons _ r => drop n r
def depth : Gr → Nat
  | nil => 0
  | cons b r => max (depth b + 1) (depth r)
theorem depth_le : ∀ g : Gr, depth g ≤ size g
  | nil => Nat.le_refl _
  | cons b r => by
    have := depth_le b
    have := depth_le r
    simp only [depth, size]
    omega
theorem len_le : ∀ g : Gr, len g ≤ size g
  | nil => Nat.le_refl _
  | cons b r => by
    have := len_le r
    simp only [len, size]
    omega
theorem word_len : ∀ g : Gr, (word g).length = size g
  | nil => rfl
  | cons b r => by
    simp only [word, size, List.length_cons, List.length_append]
    rw [word_len b, word_len r]
theorem word_sum : ∀ g : Gr, (word g).sum + len g = size g
  | nil => rfl
  | cons b r => by
    have := word_sum b
    have := word_sum r
    simp only [word, size, len, List.sum_cons, List.sum_append]
    omega
theorem word_nonneg : ∀ (g : Gr) (x : Int), x ∈ word g → 0 ≤ x
  | cons b r, x, h => by
    rcases List.mem_cons.mp h with h | h
    · omega
    · rcases List.mem_append.mp h with h | h
      · exact word_nonneg b x h
      · exact word_nonneg r x h
theorem word_lt : ∀ (g : Gr) (x : Int), x ∈ word g → x < size g
  | cons b r, x, h => by
    rcases List.mem_cons.mp h with h | h
    · have := len_le b
      simp only [size]
      omega
    · simp only [size]
      rcases List.mem_append.mp h with h | h
      · have := word_lt b x h
        omega
      · have := word_lt r x h
        omega
theorem app_len : ∀ a b : Gr, len (app a b) = len a + len b
  | nil, b => by simp [app, len]
  | cons x r, b => by
    simp only [app, len]
    rw [app_len]
    omega
theorem app_size : ∀ a b : Gr, size (app a b) = size a + size b
  | nil, b => by simp [app, size]
  | cons x r, b => by
    simp only [app, size]
    rw [app_size]
    omega
theorem app_word : ∀ a b : Gr, word (app a b) = word a ++ word b
  | nil, b => rfl
  | cons x r, b => by
    simp only [app, word, List.cons_append, List.append_assoc]
    rw [app_word]
theorem app_assoc : ∀ a b c : Gr, app (app a b) c = app a (app b c)
  | nil, _, _ => rfl
  | cons x r, b, c => by
    simp only [app]
    rw [app_assoc]
theorem app_nil : ∀ a : Gr, app a nil = a
  | nil => rfl
  | cons x r => by
    simp only [app]
    rw [app_nil]
theorem take_drop : ∀ (n : Nat) (g : Gr), app (take n g) (drop n g) = g
  | 0, _ => rfl
  | _ + 1, nil => rfl
  | n + 1, cons b r => by
    simp only [take, drop, app]
    rw [take_drop]
theorem take_len : ∀ (n : Nat) (g : Gr), n ≤ len g → len (take n g) = n
  | 0, _, _ => rfl
  | n + 1, nil, h => absurd h (by simp [len])
  | n + 1, cons b r, h => by
    simp only [take, len]
    rw [take_len n r (by simp only [len] at h; omega)]
theorem take_app : ∀ a b : Gr, take (len a) (app a b) = a
  | nil, _ => rfl
  | cons x r, b => by
    simp only [len, app, take]
    rw [take_app]
theorem drop_app : ∀ a b : Gr, drop (len a) (app a b) = b
  | nil, _ => rfl
  | cons x r, b => by
    simp only [len, app, drop]
    rw [drop_app]
/-- p trees are read: just these numbers -/
def chk : Nat → List Int → Bool
  | 0, [] => true
  | 0, _ :: _ => false
  | _ + 1, [] => false
  | p + 1, x :: r => decide (0 ≤ x) && chk (p + x.toNat) r
theorem chk_word : ∀ (g : Gr) (p : Nat) (r : List Int), chk (len g + p) (word g ++ r) = chk p r
  | nil, p, r => by simp [len, word]
  | cons b q, p, r => by
    have e : len (cons b q) + p = (len q + p) + 1 := by simp only [len]; omega
    rw [e]
    simp only [word, List.cons_append, List.append_assoc, chk]
    rw [decide_eq_true (by omega), Bool.true_and, Int.toNat_natCast, show len q + p + len b = len b + (len q + p) by omega, chk_word b, chk_word q]
theorem of_chk : ∀ (ws : List Int) (p : Nat), chk p ws = true → ∃ g, len g = p ∧ word g = ws
  | [], 0, _ => ⟨nil, rfl, rfl⟩
  | [], _ + 1, h => by simp [chk] at h
  | _ :: _, 0, h => by simp [chk] at h
  | x :: r, p + 1, h => by
    simp only [chk, Bool.and_eq_true, decide_eq_true_eq] at h
    obtain ⟨g, h1, h2⟩ := of_chk r _ h.2
    have h3 := take_len x.toNat g (by omega)
    refine ⟨cons (take x.toNat g) (drop x.toNat g), ?_, ?_⟩
    · have := app_len (take x.toNat g) (drop x.toNat g)
      rw [take_drop] at this
      simp only [len]
      omega
    · simp only [word]
      rw [← app_word, take_drop, h2, h3]
      congr 1
      omega
theorem chk_iff {p : Nat} {ws : List Int} : chk p ws = true ↔ ∃ g, len g = p ∧ word g = ws := by
  refine ⟨of_chk ws p, ?_⟩
  rintro ⟨g, rfl, rfl⟩
  have := chk_word g 0 []
  rw [List.append_nil, Nat.add_zero] at this
  rw [this]
  rfl
/-- two groves with the same word are the same -/
theorem word_inj' : ∀ (g g' : Gr) (r r' : List Int), len g = len g' → word g ++ r = word g' ++ r' → g = g' ∧ r = r'
  | nil, nil, r, r', _, h => ⟨rfl, h⟩
  | nil, cons _ _, _, _, h, _ => by simp [len] at h
  | cons _ _, nil, _, _, h, _ => by simp [len] at h
  | cons b q, cons b' q', r, r', hl, h => by
    simp only [word, List.cons_append, List.append_assoc, List.cons.injEq] at h
    simp only [len, Nat.add_right_cancel_iff] at hl
    obtain ⟨e1, h2⟩ := word_inj' b b' _ _ (by omega) h.2
    obtain ⟨e3, e4⟩ := word_inj' q q' _ _ hl h2
    exact ⟨by rw [e1, e3], e4⟩
theorem word_inj {g g' : Gr} (h : word g = word g') : g = g' := by
  have h1 := word_sum g
  have h2 := word_sum g'
  rw [← word_len g, h, word_len g'] at h1
  refine (word_inj' g g' [] [] (by omega) ?_).1
  rw [List.append_nil, List.append_nil, h]
/-- the law's reading, number by number: a new tree is begun where none is pending -/
def isw (p : Nat) : List Int → Bool
  | [] => p == 0
  | x :: r => decide (0 ≤ x) && isw ((if p = 0 then 1 else p) - 1 + x.toNat) r
theorem isw_chk : ∀ (ws : List Int) (p : Nat), isw p ws = true ↔ ∃ s, chk (p + s) ws = true ∧ (p = 0 → ws ≠ [] → 0 < s)
  | [], 0 => by
    refine ⟨fun _ => ⟨0, rfl, fun _ h => absurd rfl h⟩, fun _ => rfl⟩
  | [], p + 1 => by
    refine ⟨fun h => by simp [isw] at h, ?_⟩
    rintro ⟨s, h, _⟩
    rw [show p + 1 + s = (p + s) + 1 by omega] at h
    simp [chk] at h
  | x :: r, p => by
    have ih := isw_chk r
    simp only [isw, Bool.and_eq_true, decide_eq_true_eq]
    constructor
    · rintro ⟨h0, h1⟩
      obtain ⟨s, h2, h3⟩ := (ih _).mp h1
      by_cases hp : p = 0
      · subst hp
        refine ⟨s + 1, ?_, fun _ _ => Nat.succ_pos _⟩
        rw [show 0 + (s + 1) = s + 1 by omega]
        simp only [chk, Bool.and_eq_true, decide_eq_true_eq]
        rw [if_pos rfl] at h2
        exact ⟨h0, by rw [show s + x.toNat = 1 - 1 + x.toNat + s by omega]; exact h2⟩
      · rw [if_neg hp] at h2
        refine ⟨s, ?_, fun h => absurd h hp⟩
        rw [show p + s = (p - 1 + s) + 1 by omega]
        simp only [chk, Bool.and_eq_true, decide_eq_true_eq]
        exact ⟨h0, by rw [show p - 1 + s + x.toNat = p - 1 + x.toNat + s by omega]; exact h2⟩
    · rintro ⟨s, h, hs⟩
      by_cases hp : p = 0
      · subst hp
        have hs := hs rfl (by simp)
        rw [show 0 + s = (s - 1) + 1 by omega] at h
        simp only [chk, Bool.and_eq_true, decide_eq_true_eq] at h
        refine ⟨h.1, (ih _).mpr ?_⟩
        rw [if_pos rfl]
        by_cases hr : r = [] 
        · subst hr
          refine ⟨s - 1, by rw [show 1 - 1 + x.toNat + (s - 1) = s - 1 + x.toNat by omega]; exact h.2, fun _ z => absurd rfl z⟩
        · refine ⟨s - 1, by rw [show 1 - 1 + x.toNat + (s - 1) = s - 1 + x.toNat by omega]; exact h.2, fun hz _ => ?_⟩
          by_cases hs1 : s - 1 = 0
          · rw [hs1, show (0 : Nat) + x.toNat = 0 by omega] at h
            cases r with
            | nil => exact absurd rfl hr
            | cons y q => simp [chk] at h
          · omega
      · rw [show p + s = (p - 1 + s) + 1 by omega] at h
        simp only [chk, Bool.and_eq_true, decide_eq_true_eq] at h
        refine ⟨h.1, (ih _).mpr ?_⟩
        rw [if_neg hp]
        refine ⟨s, by rw [show p - 1 + x.toNat + s = p - 1 + s + x.toNat by omega]; exact h.2, fun hz hr => ?_⟩
        cases r with
        | nil => exact absurd rfl hr
        | cons y q =>
          by_cases hs0 : s = 0
          · rw [hs0, show p - 1 + 0 + x.toNat = 0 by omega] at h
            simp [chk] at h
          · omega
def isWord (ws : List Int) : Bool := decide (0 < ws.length) && isw 0 ws
theorem isWord_iff {ws : List Int} : isWord ws = true ↔ ∃ g, g ≠ nil ∧ word g = ws := by
  unfold isWord
  rw [Bool.and_eq_true, decide_eq_true_eq, isw_chk]
  constructor
  · rintro ⟨h0, s, h1, h2⟩
    obtain ⟨g, h3, h4⟩ := chk_iff.mp h1
    refine ⟨g, ?_, h4⟩
    rintro rfl
    rw [← h4] at h0
    simp [word] at h0
  · rintro ⟨g, hg, rfl⟩
    have h1 : 0 < len g := by
      cases g with
      | nil => exact absurd rfl hg
      | cons b r => simp [len]
    refine ⟨?_, len g, chk_iff.mpr ⟨g, by omega, rfl⟩, fun _ _ => h1⟩
    rw [word_len]
    have := len_le g
    omega
/-- from the last number to the first: so many trees are taken as boughs -/
def dec : List Int → Gr
  | [] => nil
  | x :: r => cons (take x.toNat (dec r)) (drop x.toNat (dec r))
theorem dec_word : ∀ g : Gr, ∀ r : List Int, dec (word g ++ r) = app g (dec r)
  | nil, r => rfl
  | cons b q, r => by
    simp only [word, List.cons_append, List.append_assoc, dec, Int.toNat_natCast, app]
    rw [dec_word b, take_app, drop_app, dec_word q]
theorem dec_of (g : Gr) : dec (word g) = g := by
  have := dec_word g []
  rw [List.append_nil] at this
  rw [this]
  exact app_nil g
end Gr
end My

namespace My
/-! ### point 7: a list is a word just where the row of one less each number, from the last to the first, is good -/
def mir (ws : List Int) : List Int := (ws.map fun x => 1 - x).reverse
theorem mir_len (ws : List Int) : (mir ws).length = ws.length := by unfold mir; rw [List.length_reverse, List.length_map]
theorem mir_cons (x : Int) (r : List Int) : mir (x :: r) = mir r ++ [1 - x] := by unfold mir; rw [List.map_cons, List.reverse_cons]
theorem mir_sum : ∀ ws : List Int, (mir ws).sum = (ws.length : Int) - ws.sum
  | [] => rfl
  | x :: r => by
    rw [mir_cons, List.sum_append, mir_sum r, List.length_cons, List.sum_cons, List.sum_cons, List.sum_nil]
    omega
theorem chk_good : ∀ (ws : List Int) (p : Nat), Gr.chk p ws = true ↔ (∀ x ∈ ws, 0 ≤ x) ∧ (p : Int) = (mir ws).sum ∧ goodB (mir ws) = true
  | [], p => by
    cases p with
    | zero => exact ⟨fun _ => ⟨(fun _ h => nomatch h), rfl, rfl⟩, fun _ => rfl⟩
    | succ n =>
      refine ⟨fun h => by simp [Gr.chk] at h, fun h => ?_⟩
      have := h.2.1
      rw [show (mir []).sum = 0 from rfl] at this
      omega
  | x :: r, p => by
    rw [mir_cons, goodB_snoc, List.sum_append, Bool.and_eq_true, decide_eq_true_eq, List.sum_cons, List.sum_nil]
    cases p with
    | zero =>
      refine ⟨fun h => by simp [Gr.chk] at h, fun h => ?_⟩
      have := h.2.1
      have := h.2.2.2
      omega
    | succ n =>
      simp only [Gr.chk, Bool.and_eq_true, decide_eq_true_eq]
      rw [chk_good r]
      constructor
      · rintro ⟨h0, h1, h2, h3⟩
        refine ⟨fun y hy => ?_, by omega, h3, by omega⟩
        rcases List.mem_cons.mp hy with h | h
        · omega
        · exact h1 y h
      · rintro ⟨h1, h2, h3, h4⟩
        have h0 := h1 x List.mem_cons_self
        exact ⟨h0, fun y hy => h1 y (List.mem_cons_of_mem _ hy), by omega, h3⟩
theorem isWord_good {ws : List Int} (h0 : ∀ x ∈ ws, 0 ≤ x) (h1 : 1 ≤ ws.length) : Gr.isWord ws = goodB (mir ws) := by
  rw [Bool.eq_iff_iff, Gr.isWord_iff]
  constructor
  · rintro ⟨g, hg, rfl⟩
    exact ((chk_good _ _).mp (Gr.chk_iff.mpr ⟨g, rfl, rfl⟩)).2.2
  · intro h
    have hp : 0 < (mir ws).sum := by
      have := (goodB_iff _).mp h (mir ws).length (by rw [mir_len]; exact h1) (Nat.le_refl _)
      rw [List.take_of_length_le (Nat.le_refl _)] at this
      exact this
    obtain ⟨g, g1, g2⟩ := Gr.chk_iff.mp ((chk_good ws (mir ws).sum.toNat).mpr ⟨h0, by omega, h⟩)
    refine ⟨g, ?_, g2⟩
    rintro rfl
    have : (0 : Nat) = (mir ws).sum.toNat := g1
    omega
/-- how many trees -/
theorem word_trees {g : Gr} {ws : List Int} (h : Gr.word g = ws) : (g.len : Int) = (ws.length : Int) - ws.sum := by
  have h1 := Gr.word_sum g
  have h2 := Gr.word_len g
  rw [h] at h1 h2
  omega
theorem mir_rot {ws : List Int} {k : Nat} (hk : k < ws.length) : mir (rot ws k) = rot (mir ws) ((ws.length - k) % ws.length) := by
  have e : mir (rot ws k) = (ws.take k |>.map fun x => 1 - x).reverse ++ (ws.drop k |>.map fun x => 1 - x).reverse := by
    unfold mir rot
    rw [List.map_append, List.reverse_append]
  rw [e]
  by_cases h : k = 0
  · subst h
    rw [Nat.sub_zero, Nat.mod_self]
    unfold rot mir
    simp
  · rw [Nat.mod_eq_of_lt (by omega)]
    unfold rot mir
    rw [List.drop_reverse, List.take_reverse, List.length_map, ← List.map_take, ← List.map_drop, show ws.length - (ws.length - k) = k by omega]
def wordB (ns : List Int) (k : Nat) : Bool := Gr.isWord (rot ns k)
def wordsI (ns : List Int) : List Int := ((List.range ns.length).filter (wordB ns)).map fun (k : Nat) => (k : Int)
theorem mem_rot {ns : List Int} {k : Nat} {x : Int} (h : x ∈ rot ns k) : x ∈ ns := by
  unfold rot at h
  rcases List.mem_append.mp h with h | h
  · exact List.mem_of_mem_drop h
  · exact List.mem_of_mem_take h
theorem wordB_start {ns : List Int} (h0 : ∀ x ∈ ns, 0 ≤ x) {k : Nat} (hk : k < ns.length) : wordB ns k = startB (mir ns) ((ns.length - k) % ns.length) := by
  unfold wordB startB
  rw [isWord_good (fun x hx => h0 x (mem_rot hx)) (by rw [rot_len]; omega), mir_rot hk]
theorem wordsI_lt (ns : List Int) : (wordsI ns).Pairwise (· < ·) := by
  unfold wordsI
  rw [List.pairwise_map]
  exact ((range_lt ns.length).filter _).imp fun h => by omega
theorem mem_wordsI {ns : List Int} {v : Int} : v ∈ wordsI ns ↔ ∃ k : Nat, k < ns.length ∧ wordB ns k = true ∧ v = (k : Int) := by
  unfold wordsI
  simp only [List.mem_map, List.mem_filter, List.mem_range]
  constructor
  · rintro ⟨k, ⟨h1, h2⟩, rfl⟩
    exact ⟨k, h1, h2, rfl⟩
  · rintro ⟨k, h1, h2, rfl⟩
    exact ⟨k, ⟨h1, h2⟩, rfl⟩
theorem neg_mod {n o : Nat} (ho : o < n) : ((n : Int) - (o : Int)) % (n : Int) = (((n - o) % n : Nat) : Int) := by
  rw [Int.natCast_emod, Int.ofNat_sub (Nat.le_of_lt ho)]
theorem twice_mod {n o : Nat} (ho : o < n) : (n - (n - o) % n) % n = o := by
  by_cases h : o = 0
  · subst h
    rw [Nat.sub_zero, Nat.mod_self, Nat.sub_zero, Nat.mod_self]
  · rw [Nat.mod_eq_of_lt (show n - o < n by omega), show n - (n - o) = o by omega, Nat.mod_eq_of_lt ho]
/-- the starts of the mirrored row tell the same -/
theorem words_starts {ns : List Int} (h0 : ∀ x ∈ ns, 0 ≤ x) {xs : List Int} (hp : xs.Perm ((startsI (mir ns)).map fun o => ((ns.length : Int) - o) % (ns.length : Int))) (hs : xs.Pairwise (· ≤ ·)) : xs = wordsI ns := by
  have inj : ((startsI (mir ns)).map fun o => ((ns.length : Int) - o) % (ns.length : Int)).Nodup := by
    rw [List.nodup_iff_pairwise_ne, List.pairwise_map]
    refine List.Pairwise.imp_of_mem (fun {a b} ha hb hlt => ?_) (startsI_lt (mir ns))
    obtain ⟨i, i1, i2, rfl⟩ := mem_startsI.mp ha
    obtain ⟨j, j1, j2, rfl⟩ := mem_startsI.mp hb
    rw [mir_len] at i1 j1
    rw [neg_mod i1, neg_mod j1]
    intro e
    have e' : (ns.length - i) % ns.length = (ns.length - j) % ns.length := by omega
    have := twice_mod i1
    rw [e', twice_mod j1] at this
    omega
  refine lt_ext (lt_of_le hs (hp.nodup_iff.mpr inj)) (wordsI_lt _) fun v => ?_
  rw [hp.mem_iff, mem_wordsI, List.mem_map]
  constructor
  · rintro ⟨o, ho, rfl⟩
    obtain ⟨j, j1, j2, rfl⟩ := mem_startsI.mp ho
    rw [mir_len] at j1
    have hlt : (ns.length - j) % ns.length < ns.length := Nat.mod_lt _ (by omega)
    exact ⟨_, hlt, by rw [wordB_start h0 hlt, twice_mod j1]; exact j2, neg_mod j1⟩
  · rintro ⟨k, k1, k2, rfl⟩
    have hlt : (ns.length - k) % ns.length < ns.length := Nat.mod_lt _ (by omega)
    rw [wordB_start h0 k1] at k2
    exact ⟨(((ns.length - k) % ns.length : Nat) : Int), mem_startsI.mpr ⟨_, by rw [mir_len]; exact hlt, k2, rfl⟩, by rw [neg_mod hlt, twice_mod k1]⟩
theorem sort_ex (xs : List Int) : ∃ ys : List Int, ys.Perm xs ∧ ys.Pairwise (· ≤ ·) :=
  ⟨xs.mergeSort (fun a b => decide (a ≤ b)), List.mergeSort_perm _ _, (List.pairwise_mergeSort (le := fun a b => decide (a ≤ b)) (fun a b c h1 h2 => by simp at *; omega) (fun a b => by simp; omega) xs).imp (by simp)⟩
theorem wordsI_len {ns : List Int} (h0 : ∀ x ∈ ns, 0 ≤ x) (h1 : 1 ≤ ns.length) : ((wordsI ns).length : Int) = max 0 ((ns.length : Int) - ns.sum) := by
  obtain ⟨ys, y1, y2⟩ := sort_ex ((startsI (mir ns)).map fun o => ((ns.length : Int) - o) % (ns.length : Int))
  have e := words_starts h0 y1 y2
  rw [← e, y1.length_eq, List.length_map, startsI_len (by rw [mir_len]; exact h1), mir_sum]
  intro v hv
  unfold mir at hv
  rw [List.mem_reverse, List.mem_map] at hv
  obtain ⟨x, hx, rfl⟩ := hv
  have := h0 x hx
  omega
end My

namespace My
/-! ### a grove by its nodes' parents -/
section
variable (T : Nat → Gr)
def mkG : List Nat → Gr
  | [] => .nil
  | j :: js => .cons (T j) (mkG js)
end
theorem mkG_len (T : Nat → Gr) : ∀ js : List Nat, (mkG T js).len = js.length
  | [] => rfl
  | j :: js => by rw [mkG, Gr.len, mkG_len T js]; rfl
theorem mkG_size (T : Nat → Gr) : ∀ js : List Nat, (mkG T js).size = (js.map fun j => (T j).size + 1).sum
  | [] => rfl
  | j :: js => by
    rw [mkG, Gr.size, mkG_size T js, List.map_cons, List.sum_cons]
    omega
theorem mkG_congr {T U : Nat → Gr} : ∀ {js : List Nat}, (∀ j ∈ js, T j = U j) → mkG T js = mkG U js
  | [], _ => rfl
  | j :: js, h => by rw [mkG, mkG, h j List.mem_cons_self, mkG_congr fun i hi => h i (List.mem_cons_of_mem _ hi)]
/-- the boughs of node p among the first i nodes; the trees of their own -/
def kids (par : Nat → Option Nat) (p i : Nat) : List Nat := (List.range i).filter fun k => par k == some p
def tops (par : Nat → Option Nat) (i : Nat) : List Nat := (List.range i).filter fun k => par k == none
/-- the trees after m nodes are done, the last one first -/
def trees (par : Nat → Option Nat) (n : Nat) : Nat → Nat → Gr
  | 0, _ => .nil
  | m + 1, k => if k = n - (m + 1) then mkG (trees par n m) (kids par k n) else trees par n m k
def sumW (n : Nat) (p : Nat → Bool) (f : Nat → Nat) : Nat := (((List.range n).filter p).map f).sum
theorem sum_split_or (f : Nat → Nat) (p q r : Nat → Bool) : ∀ l : List Nat, (∀ j ∈ l, r j = (p j || q j)) → (∀ j ∈ l, (p j && q j) = false) → ((l.filter r).map f).sum = ((l.filter p).map f).sum + ((l.filter q).map f).sum
  | [], _, _ => rfl
  | j :: l, h1, h2 => by
    have ih := sum_split_or f p q r l (fun i hi => h1 i (List.mem_cons_of_mem _ hi)) fun i hi => h2 i (List.mem_cons_of_mem _ hi)
    have e1 := h1 j List.mem_cons_self
    have e2 := h2 j List.mem_cons_self
    rw [List.filter_cons, List.filter_cons, List.filter_cons, e1]
    cases hp : p j <;> cases hq : q j
    · simpa using ih
    · simp only [Bool.or_true, Bool.false_eq_true, if_true, if_false, List.map_cons, List.sum_cons]
      omega
    · simp only [Bool.or_false, Bool.false_eq_true, if_true, if_false, List.map_cons, List.sum_cons]
      omega
    · rw [hp, hq] at e2
      cases e2
theorem sum_congr_filter (f g : Nat → Nat) (p q : Nat → Bool) : ∀ l : List Nat, (∀ j ∈ l, p j = q j) → (∀ j ∈ l, q j = true → f j = g j) → ((l.filter p).map f).sum = ((l.filter q).map g).sum
  | [], _, _ => rfl
  | j :: l, h1, h2 => by
    have ih := sum_congr_filter f g p q l (fun i hi => h1 i (List.mem_cons_of_mem _ hi)) fun i hi => h2 i (List.mem_cons_of_mem _ hi)
    have e1 := h1 j List.mem_cons_self
    have e2 := h2 j List.mem_cons_self
    rw [List.filter_cons, List.filter_cons, e1]
    cases hq : q j
    · simpa using ih
    · simp only [if_true, List.map_cons, List.sum_cons]
      rw [ih, e2 hq]
theorem filter_one (n k : Nat) (hk : k < n) : (List.range n).filter (fun j => decide (j = k)) = [k] := by
  induction n with
  | zero => omega
  | succ n ih =>
    rw [List.range_succ, List.filter_append]
    by_cases h : k < n
    · rw [ih h, List.filter_cons, if_neg (by simp; omega)]
      rfl
    · have e : k = n := by omega
      subst e
      rw [List.filter_eq_nil_iff.mpr (by intro a ha; have := List.mem_range.mp ha; simp; omega)]
      simp
/-- a root among the nodes from k on -/
def rootB (par : Nat → Option Nat) (k j : Nat) : Bool := decide (k ≤ j) && (match par j with | none => true | some p => decide (p < k))
theorem trees_sum {par : Nat → Option Nat} (hpar : ∀ k p, par k = some p → p < k) (n : Nat) : ∀ m, m ≤ n → sumW n (rootB par (n - m)) (fun j => (trees par n m j).size + 1) = m
  | 0, _ => by
    unfold sumW
    rw [List.filter_eq_nil_iff.mpr]
    · rfl
    · intro a ha
      have := List.mem_range.mp ha
      unfold rootB
      rw [Nat.sub_zero, decide_eq_false (by omega)]
      simp
  | m + 1, hm => by
    have ih := trees_sum hpar n m (by omega)
    have hk : n - (m + 1) < n := by omega
    have ek : n - m = n - (m + 1) + 1 := by omega
    generalize hkk : n - (m + 1) = k at *
    -- the new root k, and the roots that stay
    have e1 : sumW n (rootB par k) (fun j => (trees par n (m + 1) j).size + 1) = ((trees par n (m + 1) k).size + 1) + sumW n (fun j => rootB par k j && decide (k + 1 ≤ j)) (fun j => (trees par n m j).size + 1) := by
      unfold sumW
      rw [sum_split_or _ (fun j => decide (j = k)) (fun j => rootB par k j && decide (k + 1 ≤ j)) (rootB par k), filter_one n k hk]
      · simp only [List.map_cons, List.map_nil, List.sum_cons, List.sum_nil]
        rw [sum_congr_filter _ (fun j => (trees par n m j).size + 1) _ (fun j => rootB par k j && decide (k + 1 ≤ j))]
        · omega
        · exact fun _ _ => rfl
        · intro j _ hj
          rw [Bool.and_eq_true, decide_eq_true_eq] at hj
          simp only [trees]
          rw [if_neg (by omega)]
      · intro j _
        unfold rootB
        by_cases h : j = k
        · subst h
          rw [decide_eq_true (Nat.le_refl j), decide_eq_true rfl, Bool.true_and, Bool.true_or]
          cases hp : par j with
          | none => rfl
          | some p => exact decide_eq_true (hpar _ _ hp)
        · rw [decide_eq_false h, Bool.false_or]
          by_cases h2 : k ≤ j
          · rw [decide_eq_true (show k + 1 ≤ j by omega), Bool.and_true]
          · rw [decide_eq_false h2, Bool.false_and, Bool.false_and]
      · intro j _
        by_cases h : j = k
        · subst h
          rw [decide_eq_false (show ¬ j + 1 ≤ j by omega), Bool.and_false, Bool.and_false]
        · rw [decide_eq_false h, Bool.false_and]
    -- the boughs of k
    have e2 : (trees par n (m + 1) k).size = sumW n (fun j => par j == some k) (fun j => (trees par n m j).size + 1) := by
      simp only [trees]
      rw [if_pos hkk.symm, mkG_size]
      rfl
    have e3 : sumW n (rootB par (n - m)) (fun j => (trees par n m j).size + 1) = sumW n (fun j => par j == some k) (fun j => (trees par n m j).size + 1) + sumW n (fun j => rootB par k j && decide (k + 1 ≤ j)) (fun j => (trees par n m j).size + 1) := by
      unfold sumW
      rw [sum_split_or _ (fun j => par j == some k) (fun j => rootB par k j && decide (k + 1 ≤ j)) (rootB par (n - m))]
      · intro j _
        unfold rootB
        rw [ek]
        cases hp : par j with
        | none =>
          simp only [Bool.and_true]
          rw [show ((none : Option Nat) == some k) = false from rfl, Bool.false_or]
          by_cases h : k + 1 ≤ j
          · rw [decide_eq_true h, decide_eq_true (show k ≤ j by omega)]
            rfl
          · rw [decide_eq_false h, Bool.and_false]
        | some p =>
          have := hpar _ _ hp
          by_cases h : p = k
          · subst h
            dsimp only
            rw [decide_eq_true (show p + 1 ≤ j by omega), decide_eq_true (show p < p + 1 by omega)]
            simp
          · rw [show (some p == some k) = false by simpa using h, Bool.false_or]
            by_cases h1 : k + 1 ≤ j
            · rw [decide_eq_true h1, decide_eq_true (show k ≤ j by omega), Bool.true_and, Bool.true_and, Bool.and_true]
              dsimp only
              by_cases h2 : p < k
              · rw [decide_eq_true h2, decide_eq_true (by omega)]
              · rw [decide_eq_false h2, decide_eq_false (by omega)]
            · rw [decide_eq_false h1, Bool.and_false, Bool.false_and]
      · intro j _
        unfold rootB
        cases hp : par j with
        | none => rfl
        | some p =>
          by_cases h : p = k
          · subst h
            dsimp only
            rw [decide_eq_false (show ¬ p < p by omega)]
            simp
          · rw [show (some p == some k) = false by simpa using h, Bool.false_and]
    rw [e1, e2]
    omega
/-- the whole grove -/
def groveOf (par : Nat → Option Nat) (n : Nat) : Gr := mkG (trees par n n) (tops par n)
theorem groveOf_size {par : Nat → Option Nat} (hpar : ∀ k p, par k = some p → p < k) (n : Nat) : (groveOf par n).size = n := by
  have h := trees_sum hpar n n (Nat.le_refl _)
  unfold groveOf
  rw [mkG_size]
  unfold sumW at h
  rw [Nat.sub_self] at h
  refine Eq.trans (sum_congr_filter _ _ _ _ _ (fun j _ => ?_) fun _ _ _ => rfl) h
  unfold rootB
  rw [decide_eq_true (Nat.zero_le j), Bool.true_and]
  cases par j with
  | none => rfl
  | some p => rfl
theorem kids_lt {par : Nat → Option Nat} (hpar : ∀ k p, par k = some p → p < k) {p i j : Nat} (h : j ∈ kids par p i) : p < j ∧ j < i := by
  unfold kids at h
  rw [List.mem_filter, List.mem_range] at h
  exact ⟨hpar j p (by simpa using h.2), h.1⟩
theorem kids_succ (par : Nat → Option Nat) (p i : Nat) : kids par p (i + 1) = kids par p i ++ (if par i = some p then [i] else []) := by
  unfold kids
  rw [List.range_succ, List.filter_append, List.filter_cons]
  congr 1
  by_cases h : par i = some p
  · rw [if_pos h, if_pos (by simpa using h)]
    rfl
  · rw [if_neg h, if_neg (by simpa using h)]
    rfl
theorem tops_succ (par : Nat → Option Nat) (i : Nat) : tops par (i + 1) = tops par i ++ (if par i = none then [i] else []) := by
  unfold tops
  rw [List.range_succ, List.filter_append, List.filter_cons]
  congr 1
  by_cases h : par i = none
  · rw [if_pos h, if_pos (by simpa using h)]
    rfl
  · rw [if_neg h, if_neg (by simpa using h)]
    rfl
end My

set_option linter.all false
namespace My
/-! ### factorials, the number of lists with given counts -/
def fact : Nat → Nat
  | 0 => 1
  | n + 1 => (n + 1) * fact n
theorem fact_pos : ∀ n, 0 < fact n
  | 0 => Nat.one_pos
  | n + 1 => Nat.mul_pos (Nat.succ_pos n) (fact_pos n)
def prodF (c : List Nat) : Nat := (c.map fact).foldr (· * ·) 1
theorem prodF_cons (a : Nat) (c : List Nat) : prodF (a :: c) = fact a * prodF c := rfl
theorem prodF_pos : ∀ c : List Nat, 0 < prodF c
  | [] => Nat.one_pos
  | a :: c => Nat.mul_pos (fact_pos a) (prodF_pos c)
theorem prodF_snoc : ∀ (c : List Nat) (a : Nat), prodF (c ++ [a]) = prodF c * fact a
  | [], a => by simp [prodF]
  | b :: c, a => by rw [List.cons_append, prodF_cons, prodF_snoc c a, prodF_cons, Nat.mul_assoc]
theorem two_ex : ∀ a b : Nat, ∃ q, q * (fact a * fact b) = fact (a + b)
  | 0, b => ⟨1, by simp [fact]⟩
  | a + 1, 0 => ⟨1, by simp [fact]⟩
  | a + 1, b + 1 => by
    obtain ⟨q1, h1⟩ := two_ex a (b + 1)
    obtain ⟨q2, h2⟩ := two_ex (a + 1) b
    refine ⟨q1 + q2, ?_⟩
    rw [Nat.add_mul]
    have e1 : q1 * (fact (a + 1) * fact (b + 1)) = (a + 1) * fact (a + (b + 1)) := by
      rw [← h1]
      simp only [fact]
      generalize fact a = x
      generalize fact b = y
      simp only [Nat.mul_assoc, Nat.mul_left_comm, Nat.mul_comm]
    have e2 : q2 * (fact (a + 1) * fact (b + 1)) = (b + 1) * fact (a + 1 + b) := by
      rw [← h2]
      simp only [fact]
      generalize fact a = x
      generalize fact b = y
      simp only [Nat.mul_assoc, Nat.mul_left_comm, Nat.mul_comm]
    rw [e1, e2, show a + (b + 1) = a + b + 1 by omega, show a + 1 + b = a + b + 1 by omega, show a + 1 + (b + 1) = (a + b + 1) + 1 by omega, ← Nat.add_mul]
    conv => rhs; rw [fact]
    congr 1
    omega
theorem multi_ex : ∀ c : List Nat, ∃ q, q * prodF c = fact c.sum
  | [] => ⟨1, rfl⟩
  | a :: c => by
    obtain ⟨q1, h1⟩ := multi_ex c
    obtain ⟨q2, h2⟩ := two_ex a c.sum
    refine ⟨q1 * q2, ?_⟩
    rw [List.sum_cons, ← h2, ← h1, prodF_cons]
    simp only [Nat.mul_assoc, Nat.mul_left_comm, Nat.mul_comm]
def multi (c : List Nat) : Nat := fact c.sum / prodF c
theorem multi_mul (c : List Nat) : multi c * prodF c = fact c.sum := by
  obtain ⟨q, h⟩ := multi_ex c
  unfold multi
  rw [← h, Nat.mul_div_cancel _ (prodF_pos c)]
theorem multi_eq {c : List Nat} {q : Nat} (h : q * prodF c = fact c.sum) : q = multi c := by
  unfold multi
  rw [← h, Nat.mul_div_cancel _ (prodF_pos c)]
theorem multi_nil : multi [] = 1 := by decide
theorem multi_pos (c : List Nat) : 0 < multi c := by
  have h := multi_mul c
  have := fact_pos c.sum
  refine Nat.pos_of_ne_zero fun z => ?_
  rw [z, Nat.zero_mul] at h
  omega
/-- one less of the number i -/
def less (c : List Nat) (i : Nat) : List Nat := c.set i (c.getD i 0 - 1)
theorem less_len (c : List Nat) (i : Nat) : (less c i).length = c.length := by unfold less; rw [List.length_set]
theorem less_cons_zero (a : Nat) (c : List Nat) : less (a :: c) 0 = (a - 1) :: c := rfl
theorem less_cons_succ (a : Nat) (c : List Nat) (i : Nat) : less (a :: c) (i + 1) = a :: less c i := rfl
theorem less_sum : ∀ (c : List Nat) (i : Nat), 0 < c.getD i 0 → (less c i).sum + 1 = c.sum
  | [], i, h => by simp at h
  | a :: c, 0, h => by
    rw [less_cons_zero, List.sum_cons, List.sum_cons]
    have : 0 < a := h
    omega
  | a :: c, i + 1, h => by
    have := less_sum c i h
    rw [less_cons_succ, List.sum_cons, List.sum_cons]
    omega
theorem less_prodF : ∀ (c : List Nat) (i : Nat), 0 < c.getD i 0 → prodF (less c i) * c.getD i 0 = prodF c
  | [], i, h => by simp at h
  | a :: c, 0, h => by
    rw [less_cons_zero, prodF_cons, prodF_cons]
    have h' : 0 < a := h
    show fact (a - 1) * prodF c * a = fact a * prodF c
    obtain ⟨b, rfl⟩ : ∃ b, a = b + 1 := ⟨a - 1, by omega⟩
    rw [Nat.add_sub_cancel, fact]
    simp only [Nat.mul_assoc, Nat.mul_left_comm, Nat.mul_comm]
  | a :: c, i + 1, h => by
    rw [less_cons_succ, prodF_cons, prodF_cons, ← less_prodF c i h, Nat.mul_assoc]
    rfl
theorem multi_less {c : List Nat} {i : Nat} (h : 0 < c.getD i 0) : multi (less c i) * c.sum = multi c * c.getD i 0 := by
  have h1 := multi_mul c
  have h2 := multi_mul (less c i)
  have h3 := less_prodF c i h
  have h4 := less_sum c i h
  obtain ⟨n, hn⟩ : ∃ n, c.sum = n + 1 := ⟨c.sum - 1, by omega⟩
  have h5 : (less c i).sum = n := by omega
  rw [h5] at h2
  rw [hn] at h1 ⊢
  refine Nat.eq_of_mul_eq_mul_right (prodF_pos (less c i)) ?_
  calc multi (less c i) * (n + 1) * prodF (less c i) = (n + 1) * (multi (less c i) * prodF (less c i)) := by simp only [Nat.mul_assoc, Nat.mul_left_comm, Nat.mul_comm]
    _ = fact (n + 1) := by rw [h2, fact]
    _ = multi c * (prodF (less c i) * c.getD i 0) := by rw [h3, h1]
    _ = multi c * c.getD i 0 * prodF (less c i) := by simp only [Nat.mul_assoc, Nat.mul_left_comm, Nat.mul_comm]
/-- each count times its place, places from a on -/
def wt : Nat → List Nat → Nat
  | _, [] => 0
  | a, x :: c => a * x + wt (a + 1) c
theorem less_wt : ∀ (c : List Nat) (a i : Nat), 0 < c.getD i 0 → wt a (less c i) + (a + i) = wt a c
  | [], a, i, h => by simp at h
  | x :: c, a, 0, h => by
    have h' : 0 < x := h
    obtain ⟨y, rfl⟩ : ∃ y, x = y + 1 := ⟨x - 1, by omega⟩
    rw [less_cons_zero, wt, wt, Nat.add_sub_cancel, Nat.mul_add]
    omega
  | x :: c, a, i + 1, h => by
    have := less_wt c (a + 1) i h
    rw [less_cons_succ, wt, wt]
    omega
/-- the sum over the places of what is there -/
def sumI (n : Nat) (f : Nat → Nat) : Nat := ((List.range n).map f).sum
theorem sumI_succ (n : Nat) (f : Nat → Nat) : sumI (n + 1) f = sumI n f + f n := by
  unfold sumI
  rw [List.range_succ, List.map_append, List.sum_append]
  simp
theorem sumI_congr {f g : Nat → Nat} : ∀ {n : Nat}, (∀ i, i < n → f i = g i) → sumI n f = sumI n g
  | 0, _ => rfl
  | n + 1, h => by rw [sumI_succ, sumI_succ, sumI_congr fun i hi => h i (by omega), h n (by omega)]
theorem sumI_mul (a : Nat) (f : Nat → Nat) : ∀ n : Nat, a * sumI n f = sumI n fun i => a * f i
  | 0 => rfl
  | n + 1 => by rw [sumI_succ, sumI_succ, Nat.mul_add, sumI_mul a f n]
theorem sumI_shift (f : Nat → Nat) : ∀ n : Nat, sumI (n + 1) f = f 0 + sumI n fun i => f (i + 1)
  | 0 => by simp [sumI]
  | n + 1 => by rw [sumI_succ, sumI_shift f n, sumI_succ]; omega
theorem sumI_place : ∀ (c : List Nat) (p a : Nat), sumI c.length (fun i => (p + (a + i)) * c.getD i 0) = p * c.sum + wt a c
  | [], p, a => by simp [sumI, wt]
  | x :: c, p, a => by
    have ih := sumI_place c p (a + 1)
    rw [List.length_cons, sumI_shift, List.sum_cons, wt]
    have e : (sumI c.length fun i => (p + (a + (i + 1))) * (x :: c).getD (i + 1) 0) = sumI c.length fun i => (p + (a + 1 + i)) * c.getD i 0 :=
      sumI_congr fun i _ => by
        rw [show a + (i + 1) = a + 1 + i by omega]
        rfl
    rw [e, ih]
    show (p + (a + 0)) * x + _ = _
    rw [Nat.add_zero, Nat.add_mul, Nat.mul_add]
    omega
/-- how many ways there are on: n numbers with the counts c are still to be put, p trees are pending -/
def comp : Nat → Nat → List Nat → Nat
  | 0, p, _ => if p = 0 then 1 else 0
  | _ + 1, 0, _ => 0
  | n + 1, p + 1, c => sumI c.length fun i => if 0 < c.getD i 0 then comp n (p + i) (less c i) else 0
theorem comp_multi : ∀ (n p : Nat) (c : List Nat), c.sum = n → p + wt 0 c = n → n * comp n p c = p * multi c
  | 0, p, c, _, h2 => by
    rw [show p = 0 by omega, Nat.zero_mul, Nat.zero_mul]
  | n + 1, 0, c, _, _ => by rw [comp, Nat.mul_zero, Nat.zero_mul]
  | n + 1, p + 1, c, h1, h2 => by
    rw [comp]
    by_cases hn : n = 0
    · subst hn
      -- one number is left
      have hp : p = 0 := by omega
      subst hp
      have hw : wt 0 c = 0 := by omega
      have key : ∀ (c : List Nat) (a : Nat), c.sum = 1 → wt (a + 1) c = 0 → False := by
        intro c
        induction c with
        | nil => intro a h _; simp at h
        | cons x r ih =>
          intro a h hw
          rw [wt] at hw
          rw [List.sum_cons] at h
          have h1 : x = 0 := by
            rcases Nat.eq_zero_or_pos x with h | h
            · exact h
            · have : 0 < (a + 1) * x := Nat.mul_pos (by omega) h
              omega
          exact ih (a + 1) (by omega) (by omega)
      cases c with
      | nil => simp at h1
      | cons x r =>
        rw [wt, Nat.zero_mul, Nat.zero_add] at hw
        rw [List.sum_cons] at h1
        have hr : r.sum = 0 := by
          rcases Nat.eq_zero_or_pos r.sum with h | h
          · exact h
          · exact (key r 0 (by omega) hw).elim
        have hx : x = 1 := by omega
        subst hx
        have hz : ∀ i, r.getD i 0 = 0 := by
          have : ∀ (r : List Nat), r.sum = 0 → ∀ i, r.getD i 0 = 0 := by
            intro r
            induction r with
            | nil => intro _ i; simp
            | cons y q ih =>
              intro h i
              rw [List.sum_cons] at h
              cases i with
              | zero => show y = 0; omega
              | succ i => exact ih (by omega) i
          exact this r hr
        have hp : prodF r = 1 := by
          have : ∀ (r : List Nat), r.sum = 0 → prodF r = 1 := by
            intro r
            induction r with
            | nil => intro _; rfl
            | cons y q ih =>
              intro h
              rw [List.sum_cons] at h
              rw [prodF_cons, ih (by omega), show y = 0 by omega]
              rfl
          exact this r hr
        have hm : multi (1 :: r) = 1 := (multi_eq (c := 1 :: r) (q := 1) (by rw [prodF_cons, hp, List.sum_cons, hr]; rfl)).symm
        rw [hm, List.length_cons, sumI_shift, sumI_congr (g := fun _ => 0)]
        · have : ∀ m, sumI m (fun _ => 0) = 0 := by
            intro m
            induction m with
            | zero => rfl
            | succ m ih => rw [sumI_succ, ih]
          rw [this]
          rfl
        · intro i _
          show (if 0 < r.getD i 0 then _ else 0) = 0
          rw [hz i]
          rfl
    · have hpos : 0 < n := Nat.pos_of_ne_zero hn
      refine Nat.eq_of_mul_eq_mul_left hpos ?_
      calc n * ((n + 1) * sumI c.length fun i => if 0 < c.getD i 0 then comp n (p + i) (less c i) else 0)
          = sumI c.length fun i => multi c * ((p + (0 + i)) * c.getD i 0) := by
            rw [← Nat.mul_assoc, sumI_mul]
            refine sumI_congr fun i hi => ?_
            by_cases h : 0 < c.getD i 0
            · rw [if_pos h]
              have w1 := less_sum c i h
              have w2 := less_wt c 0 i h
              have ih := comp_multi n (p + i) (less c i) (by omega) (by omega)
              have hm := multi_less h
              rw [h1] at hm
              calc n * (n + 1) * comp n (p + i) (less c i) = (n + 1) * (n * comp n (p + i) (less c i)) := by simp only [Nat.mul_assoc, Nat.mul_left_comm, Nat.mul_comm]
                _ = (p + i) * (multi (less c i) * (n + 1)) := by rw [ih]; simp only [Nat.mul_assoc, Nat.mul_left_comm, Nat.mul_comm]
                _ = multi c * ((p + (0 + i)) * c.getD i 0) := by rw [hm, Nat.zero_add]; simp only [Nat.mul_assoc, Nat.mul_left_comm, Nat.mul_comm]
            · rw [if_neg h, show c.getD i 0 = 0 by omega, Nat.mul_zero, Nat.mul_zero, Nat.mul_zero]
        _ = multi c * (p * c.sum + wt 0 c) := by rw [← sumI_mul, sumI_place c p 0]
        _ = n * ((p + 1) * multi c) := by
            rw [h1, show p * (n + 1) + wt 0 c = n * (p + 1) by rw [Nat.mul_add, Nat.mul_add, Nat.mul_comm p n]; omega]
            simp only [Nat.mul_assoc, Nat.mul_left_comm, Nat.mul_comm]
/-- the program's or the law's quotient -/
theorem comp_div {n p : Nat} {c : List Nat} (h0 : 0 < n) (h1 : c.sum = n) (h2 : p + wt 0 c = n) : p * multi c / n = comp n p c := by
  rw [← comp_multi n p c h1 h2, Nat.mul_div_cancel_left _ h0]
/-- the law's way to the number of lists: one factor up, one down -/
theorem multi_step {c : List Nat} {k f : Nat} (h : f = multi (c ++ [k])) : f * ((c ++ [k]).sum + 1) / (k + 1) = multi (c ++ [k + 1]) := by
  have e : less (c ++ [k + 1]) c.length = c ++ [k] := by
    unfold less
    rw [List.set_append_right _ _ (Nat.le_refl _), Nat.sub_self, List.getD_eq_getElem?_getD, List.getElem?_append_right (Nat.le_refl _), Nat.sub_self]
    rfl
  have hg : (c ++ [k + 1]).getD c.length 0 = k + 1 := by
    rw [List.getD_eq_getElem?_getD, List.getElem?_append_right (Nat.le_refl _), Nat.sub_self]
    rfl
  have hm := multi_less (c := c ++ [k + 1]) (i := c.length) (by rw [hg]; exact Nat.succ_pos _)
  rw [e, hg] at hm
  have hs : (c ++ [k + 1]).sum = (c ++ [k]).sum + 1 := by simp; omega
  rw [hs] at hm
  rw [h, hm, Nat.mul_div_cancel _ (Nat.succ_pos k)]
theorem multi_zero (c : List Nat) : multi (c ++ [0]) = multi c := by
  refine (multi_eq ?_).symm
  rw [prodF_snoc, show fact 0 = 1 from rfl, Nat.mul_one, List.sum_append, List.sum_cons, List.sum_nil, Nat.add_zero, Nat.add_zero]
  exact multi_mul c
end My

set_option linter.all false
namespace My
/-! ### the boughs' counts of a word -/
def cntN (m : Nat) (ns : List Int) : List Nat := (List.range m).map fun (j : Nat) => ns.count (j : Int)
def cntI (m : Nat) (ns : List Int) : List Int := (List.range m).map fun (j : Nat) => (ns.count (j : Int) : Int)
theorem cntI_N (m : Nat) (ns : List Int) : cntI m ns = (cntN m ns).map fun (c : Nat) => (c : Int) := by unfold cntI cntN; rw [List.map_map]; rfl
theorem cntN_len (m : Nat) (ns : List Int) : (cntN m ns).length = m := by unfold cntN; rw [List.length_map, List.length_range]
theorem cntI_len (m : Nat) (ns : List Int) : (cntI m ns).length = m := by unfold cntI; rw [List.length_map, List.length_range]
theorem cntI_get {m : Nat} {ns : List Int} {j : Nat} (h : j < m) : (cntI m ns)[j]? = some (ns.count (j : Int) : Int) := by
  unfold cntI
  rw [List.getElem?_map, List.getElem?_range h]
  rfl
theorem cntN_getD {m : Nat} {ns : List Int} {j : Nat} (h : j < m) : (cntN m ns).getD j 0 = ns.count (j : Int) := by
  unfold cntN
  rw [List.getD_eq_getElem?_getD, List.getElem?_map, List.getElem?_range h]
  rfl
theorem cntI_snoc {m : Nat} {ns : List Int} {j : Nat} (h : j < m) : cntI m (ns ++ [(j : Int)]) = (cntI m ns).set j ((ns.count (j : Int) : Int) + 1) := by
  refine List.ext_getElem? fun i => ?_
  by_cases hi : i < m
  · rw [cntI_get hi, List.count_append]
    by_cases hij : j = i
    · subst hij
      rw [List.getElem?_set_self (by rw [cntI_len]; exact h)]
      simp
    · rw [List.getElem?_set_ne hij, cntI_get hi, List.count_singleton]
      rw [if_neg (by simp; omega)]
      rfl
  · rw [List.getElem?_eq_none (by rw [cntI_len]; omega), List.getElem?_eq_none (by rw [List.length_set, cntI_len]; omega)]
theorem cntN_nil (m : Nat) : cntN m [] = List.replicate m 0 := by
  unfold cntN
  refine List.ext_getElem (by simp) fun i h1 h2 => ?_
  simp
theorem cntI_nil (m : Nat) : cntI m [] = List.replicate m 0 := by
  unfold cntI
  refine List.ext_getElem (by simp) fun i h1 h2 => ?_
  simp
theorem cntN_cons {m : Nat} {r : List Int} {j : Nat} (h : j < m) : less (cntN m ((j : Int) :: r)) j = cntN m r ∧ (cntN m ((j : Int) :: r)).getD j 0 = r.count (j : Int) + 1 := by
  have e : (cntN m ((j : Int) :: r)).getD j 0 = r.count (j : Int) + 1 := by
    rw [cntN_getD h, List.count_cons_self]
  refine ⟨?_, e⟩
  unfold less
  rw [e, Nat.add_sub_cancel]
  refine List.ext_getElem? fun i => ?_
  by_cases hi : i < m
  · have g : ∀ ws : List Int, (cntN m ws)[i]? = some (ws.count (i : Int)) := fun ws => by
      unfold cntN
      rw [List.getElem?_map, List.getElem?_range hi]
      rfl
    by_cases hij : j = i
    · subst hij
      rw [List.getElem?_set_self (by rw [cntN_len]; exact h), g]
    · rw [List.getElem?_set_ne hij, g, g, List.count_cons, if_neg (by simp; omega)]
      rfl
  · rw [List.getElem?_eq_none (by rw [List.length_set, cntN_len]; omega), List.getElem?_eq_none (by rw [cntN_len]; omega)]
theorem cntN_sum : ∀ (m : Nat) (ns : List Int), (∀ x ∈ ns, 0 ≤ x ∧ x < m) → (cntN m ns).sum = ns.length
  | m, [], _ => by
    rw [cntN_nil]
    simp
  | m, x :: r, h => by
    have hx := h x List.mem_cons_self
    obtain ⟨j, rfl⟩ := Int.eq_ofNat_of_zero_le hx.1
    have hj : j < m := by omega
    obtain ⟨e1, e2⟩ := cntN_cons (r := r) hj
    have h1 := less_sum (cntN m ((j : Int) :: r)) j (by rw [e2]; omega)
    rw [e1, cntN_sum m r fun y hy => h y (List.mem_cons_of_mem _ hy)] at h1
    rw [← h1, List.length_cons]
theorem cntN_wt : ∀ (m : Nat) (ns : List Int), (∀ x ∈ ns, 0 ≤ x ∧ x < m) → (wt 0 (cntN m ns) : Int) = ns.sum
  | m, [], _ => by
    rw [cntN_nil]
    have : ∀ (m a : Nat), wt a (List.replicate m 0) = 0 := by
      intro m
      induction m with
      | zero => intro a; rfl
      | succ m ih => intro a; rw [List.replicate_succ, wt, ih]; rfl
    rw [this]
    rfl
  | m, x :: r, h => by
    have hx := h x List.mem_cons_self
    obtain ⟨j, rfl⟩ := Int.eq_ofNat_of_zero_le hx.1
    have hj : j < m := by omega
    obtain ⟨e1, e2⟩ := cntN_cons (r := r) hj
    have h1 := less_wt (cntN m ((j : Int) :: r)) 0 j (by rw [e2]; omega)
    have ih := cntN_wt m r fun y hy => h y (List.mem_cons_of_mem _ hy)
    rw [e1] at h1
    rw [List.sum_cons, ← ih]
    omega
end My

set_option linter.all false
namespace My
/-! ### the words with given counts, in order -/
def lexLt : List Int → List Int → Bool
  | [], [] => false
  | [], _ :: _ => true
  | _ :: _, [] => false
  | x :: r, y :: s => decide (x < y) || (decide (x = y) && lexLt r s)
theorem lexLt_irrefl : ∀ xs : List Int, lexLt xs xs = false
  | [] => rfl
  | x :: r => by simp [lexLt, lexLt_irrefl r]
def block (n p : Nat) (c : List Nat) (W : Nat → Nat → List Nat → List (List Int)) (i : Nat) : List (List Int) :=
  if 0 < c.getD i 0 then (W n (p + i) (less c i)).map fun r => (i : Int) :: r else []
def wordsL : Nat → Nat → List Nat → List (List Int)
  | 0, p, _ => if p = 0 then [[]] else []
  | _ + 1, 0, _ => []
  | n + 1, p + 1, c => ((List.range c.length).map fun i => if 0 < c.getD i 0 then (wordsL n (p + i) (less c i)).map fun r => (i : Int) :: r else []).flatten
theorem sum_map_len {α : Type} (f : Nat → List α) (n : Nat) : (((List.range n).map f).flatten).length = sumI n fun i => (f i).length := by
  unfold sumI
  rw [List.length_flatten, List.map_map]
  rfl
theorem wordsL_len : ∀ (n p : Nat) (c : List Nat), (wordsL n p c).length = comp n p c
  | 0, p, c => by
    rw [wordsL, comp]
    split <;> rfl
  | n + 1, 0, c => rfl
  | n + 1, p + 1, c => by
    rw [wordsL, comp, sum_map_len]
    refine sumI_congr fun i _ => ?_
    split
    · rw [List.length_map, wordsL_len]
    · rfl
theorem mem_wordsL : ∀ (n p : Nat) (c : List Nat) (ws : List Int), c.sum = n → (ws ∈ wordsL n p c ↔ Gr.chk p ws = true ∧ (∀ x ∈ ws, x < c.length) ∧ cntN c.length ws = c)
  | 0, p, c, ws, hn => by
    have hc : c = List.replicate c.length 0 := by
      have : ∀ c : List Nat, c.sum = 0 → c = List.replicate c.length 0 := by
        intro c
        induction c with
        | nil => intro _; rfl
        | cons x r ih =>
          intro h
          rw [List.sum_cons] at h
          rw [List.length_cons, List.replicate_succ, ← ih (by omega), show x = 0 by omega]
      exact this c hn
    constructor
    · intro h
      rw [wordsL] at h
      split at h
      · rename_i hp
        rw [List.mem_singleton.mp h, hp]
        refine ⟨rfl, (fun _ z => nomatch z), ?_⟩
        rw [cntN_nil, ← hc]
      · simp at h
    · rintro ⟨h1, h2, h3⟩
      cases ws with
      | nil =>
        cases p with
        | zero => simp [wordsL]
        | succ p => simp [Gr.chk] at h1
      | cons x r =>
        exfalso
        have hx : 0 ≤ x := by
          cases p with
          | zero => simp [Gr.chk] at h1
          | succ p =>
            simp only [Gr.chk, Bool.and_eq_true, decide_eq_true_eq] at h1
            exact h1.1
        have hxl := h2 x List.mem_cons_self
        obtain ⟨j, rfl⟩ := Int.eq_ofNat_of_zero_le hx
        have := (cntN_cons (m := c.length) (r := r) (j := j) (by omega)).2
        rw [h3, hc] at this
        simp only [List.getD_eq_getElem?_getD, List.getElem?_replicate] at this
        split at this <;> simp at this
  | n + 1, 0, c, ws, hn => by
    constructor
    · intro h
      simp [wordsL] at h
    · rintro ⟨h1, _, h3⟩
      cases ws with
      | nil =>
        rw [← h3, cntN_nil] at hn
        simp at hn
      | cons x r => simp [Gr.chk] at h1
  | n + 1, p + 1, c, ws, hn => by
    rw [wordsL, List.mem_flatten]
    constructor
    · rintro ⟨l, hl, hws⟩
      obtain ⟨i, hi, rfl⟩ := List.mem_map.mp hl
      have hi := List.mem_range.mp hi
      split at hws
      · rename_i hc
        obtain ⟨r, hr, rfl⟩ := List.mem_map.mp hws
        have h1 := less_sum c i hc
        obtain ⟨m1, m2, m3⟩ := (mem_wordsL n (p + i) (less c i) r (by omega)).mp hr
        rw [less_len] at m2 m3
        refine ⟨?_, fun x hx => ?_, ?_⟩
        · simp only [Gr.chk, Bool.and_eq_true, decide_eq_true_eq, Int.toNat_natCast]
          exact ⟨by omega, m1⟩
        · rcases List.mem_cons.mp hx with z | z
          · omega
          · exact m2 x z
        · obtain ⟨e1, e2⟩ := cntN_cons (r := r) hi
          rw [m3] at e1
          have e3 : r.count (i : Int) = c.getD i 0 - 1 := by
            rw [← cntN_getD hi, m3]
            unfold less
            rw [List.getD_eq_getElem?_getD, List.getElem?_set_self hi]
            rfl
          refine List.ext_getElem? fun k => ?_
          by_cases hk : k = i
          · subst hk
            have g : (cntN c.length ((k : Int) :: r))[k]? = some ((cntN c.length ((k : Int) :: r)).getD k 0) := by
              rw [List.getD_eq_getElem?_getD, List.getElem?_eq_getElem (by rw [cntN_len]; exact hi)]
              rfl
            rw [g, e2, e3, show c.getD k 0 - 1 + 1 = c.getD k 0 by omega, List.getD_eq_getElem?_getD, List.getElem?_eq_getElem hi]
            rfl
          · have h2 := congrArg (fun l => l[k]?) e1
            unfold less at h2
            simp only [List.getElem?_set_ne (Ne.symm hk)] at h2
            exact h2
      · simp at hws
    · rintro ⟨h1, h2, h3⟩
      cases ws with
      | nil => simp [Gr.chk] at h1
      | cons x r =>
        simp only [Gr.chk, Bool.and_eq_true, decide_eq_true_eq] at h1
        have hxl := h2 x List.mem_cons_self
        obtain ⟨i, rfl⟩ := Int.eq_ofNat_of_zero_le h1.1
        rw [Int.toNat_natCast] at h1
        have hi : i < c.length := by omega
        obtain ⟨e1, e2⟩ := cntN_cons (r := r) hi
        rw [h3] at e1 e2
        refine ⟨_, List.mem_map.mpr ⟨i, List.mem_range.mpr hi, rfl⟩, ?_⟩
        rw [if_pos (by omega)]
        have h4 := less_sum c i (by omega)
        refine List.mem_map.mpr ⟨r, (mem_wordsL n (p + i) (less c i) r (by omega)).mpr ⟨h1.2, fun y hy => ?_, ?_⟩, rfl⟩
        · rw [less_len]
          exact h2 y (List.mem_cons_of_mem _ hy)
        · rw [less_len, e1]
theorem pairwise_blocks {α : Type} {R : α → α → Prop} (f : Nat → List α) (h1 : ∀ i, (f i).Pairwise R) (h2 : ∀ i j, i < j → ∀ a ∈ f i, ∀ b ∈ f j, R a b) : ∀ n, (((List.range n).map f).flatten).Pairwise R
  | 0 => .nil
  | n + 1 => by
    rw [List.range_succ, List.map_append, List.flatten_append, List.pairwise_append]
    refine ⟨pairwise_blocks f h1 h2 n, by simpa using h1 n, fun a ha b hb => ?_⟩
    obtain ⟨l, hl, ha⟩ := List.mem_flatten.mp ha
    obtain ⟨i, hi, rfl⟩ := List.mem_map.mp hl
    have hi := List.mem_range.mp hi
    exact h2 i n hi a ha b (by simpa using hb)
theorem wordsL_lex : ∀ (n p : Nat) (c : List Nat), (wordsL n p c).Pairwise fun a b => lexLt a b = true
  | 0, p, c => by
    rw [wordsL]
    split
    · exact List.pairwise_singleton _ _
    · exact .nil
  | n + 1, 0, c => .nil
  | n + 1, p + 1, c => by
    rw [wordsL]
    refine pairwise_blocks _ (fun i => ?_) (fun i j hij a ha b hb => ?_) _
    · split
      · rw [List.pairwise_map]
        refine (wordsL_lex n (p + i) (less c i)).imp fun h => ?_
        simp [lexLt, h]
      · exact .nil
    · split at ha
      · split at hb
        · obtain ⟨r, _, rfl⟩ := List.mem_map.mp ha
          obtain ⟨s, _, rfl⟩ := List.mem_map.mp hb
          rw [lexLt, decide_eq_true (by omega), Bool.true_or]
        · simp at hb
      · simp at ha
/-- the place of a word: what stands ahead, number by number -/
def rankL : Nat → Nat → List Nat → List Int → Nat
  | n + 1, p + 1, c, x :: r => (sumI x.toNat fun i => if 0 < c.getD i 0 then comp n (p + i) (less c i) else 0) + rankL n (p + x.toNat) (less c x.toNat) r
  | _, _, _, _ => 0
theorem flatten_get {α : Type} (f : Nat → List α) : ∀ (n i k : Nat) (y : α), i < n → (f i)[k]? = some y → (((List.range n).map f).flatten)[(sumI i fun j => (f j).length) + k]? = some y
  | 0, i, k, y, h, _ => by omega
  | n + 1, i, k, y, h, e => by
    rw [List.range_succ, List.map_append, List.flatten_append]
    by_cases hi : i < n
    · have ih := flatten_get f n i k y hi e
      rw [List.getElem?_append_left (List.getElem?_eq_some_iff.mp ih).1]
      exact ih
    · have hin : i = n := by omega
      subst hin
      rw [List.getElem?_append_right (by rw [sum_map_len]; omega), sum_map_len, Nat.add_sub_cancel_left]
      simpa using e
theorem rankL_get : ∀ (n p : Nat) (c : List Nat) (ws : List Int), c.sum = n → ws ∈ wordsL n p c → (wordsL n p c)[rankL n p c ws]? = some ws
  | 0, p, c, ws, hn, h => by
    rw [wordsL] at h ⊢
    split at h
    · rw [if_pos (by assumption)]
      rw [List.mem_singleton.mp h]
      rfl
    · simp at h
  | n + 1, 0, c, ws, hn, h => by simp [wordsL] at h
  | n + 1, p + 1, c, ws, hn, h => by
    obtain ⟨h1, h2, h3⟩ := (mem_wordsL (n + 1) (p + 1) c ws hn).mp h
    cases ws with
    | nil => simp [Gr.chk] at h1
    | cons x r =>
      simp only [Gr.chk, Bool.and_eq_true, decide_eq_true_eq] at h1
      have hxl := h2 x List.mem_cons_self
      obtain ⟨i, rfl⟩ := Int.eq_ofNat_of_zero_le h1.1
      rw [Int.toNat_natCast] at h1
      have hi : i < c.length := by omega
      obtain ⟨e1, e2⟩ := cntN_cons (r := r) hi
      rw [h3] at e1 e2
      have h4 := less_sum c i (by omega)
      have hr : r ∈ wordsL n (p + i) (less c i) := (mem_wordsL n (p + i) (less c i) r (by omega)).mpr ⟨h1.2, fun y hy => by rw [less_len]; exact h2 y (List.mem_cons_of_mem _ hy), by rw [less_len, e1]⟩
      have ih := rankL_get n (p + i) (less c i) r (by omega) hr
      rw [wordsL, rankL, Int.toNat_natCast]
      have e3 : (sumI i fun i => if 0 < c.getD i 0 then comp n (p + i) (less c i) else 0) = sumI i fun i => ((fun i => if 0 < c.getD i 0 then (wordsL n (p + i) (less c i)).map fun r => (i : Int) :: r else []) i).length :=
        sumI_congr fun j _ => by
          dsimp only
          split
          · rw [List.length_map, wordsL_len]
          · rfl
      rw [e3]
      refine flatten_get _ c.length i _ _ hi ?_
      rw [if_pos (by omega), List.getElem?_map, ih]
      rfl
theorem rankL_lt {n p : Nat} {c : List Nat} {ws : List Int} (hn : c.sum = n) (h : ws ∈ wordsL n p c) : rankL n p c ws < comp n p c := by
  have := (List.getElem?_eq_some_iff.mp (rankL_get n p c ws hn h)).1
  rw [wordsL_len] at this
  exact this
theorem rankL_of_get {n p k : Nat} {c : List Nat} {ws : List Int} (hn : c.sum = n) (h : (wordsL n p c)[k]? = some ws) : rankL n p c ws = k := by
  have hm := List.mem_of_getElem? h
  have h1 := rankL_get n p c ws hn hm
  obtain ⟨l1, e1⟩ := List.getElem?_eq_some_iff.mp h
  obtain ⟨l2, e2⟩ := List.getElem?_eq_some_iff.mp h1
  have hp := List.pairwise_iff_getElem.mp (wordsL_lex n p c)
  rcases Nat.lt_trichotomy (rankL n p c ws) k with z | z | z
  · have := hp _ _ l2 l1 z
    rw [e1, e2, lexLt_irrefl] at this
    cases this
  · exact z
  · have := hp _ _ l1 l2 z
    rw [e1, e2, lexLt_irrefl] at this
    cases this
theorem lex_of_lt {n p i j : Nat} {c : List Nat} {a b : List Int} (h : i < j) (ha : (wordsL n p c)[i]? = some a) (hb : (wordsL n p c)[j]? = some b) : lexLt a b = true := by
  obtain ⟨l1, e1⟩ := List.getElem?_eq_some_iff.mp ha
  obtain ⟨l2, e2⟩ := List.getElem?_eq_some_iff.mp hb
  have := List.pairwise_iff_getElem.mp (wordsL_lex n p c) i j l1 l2 h
  rw [e1, e2] at this
  exact this
end My

set_option linter.all false
namespace My
/-! ### how many words there are; noughts at the counts' end -/
def hm (c : List Nat) : Nat := if wt 0 c < c.sum then comp c.sum (c.sum - wt 0 c) c else 0
def zs (z : Nat) : List Nat := List.replicate z 0
theorem zs_sum (z : Nat) : (zs z).sum = 0 := by unfold zs; simp
theorem zs_wt (z a : Nat) : wt a (zs z) = 0 := by
  unfold zs
  induction z generalizing a with
  | zero => rfl
  | succ z ih => rw [List.replicate_succ, wt, ih]; rfl
theorem wt_app : ∀ (c d : List Nat) (a : Nat), wt a (c ++ d) = wt a c + wt (a + c.length) d
  | [], d, a => by rw [List.nil_append, wt, List.length_nil, Nat.add_zero, Nat.zero_add]
  | x :: c, d, a => by
    rw [List.cons_append, wt, wt, wt_app c d (a + 1), List.length_cons, show a + 1 + c.length = a + (c.length + 1) by omega]
    omega
theorem getD_app {c : List Nat} {z i : Nat} : (c ++ zs z).getD i 0 = c.getD i 0 := by
  rw [List.getD_eq_getElem?_getD, List.getD_eq_getElem?_getD]
  by_cases h : i < c.length
  · rw [List.getElem?_append_left h]
  · rw [List.getElem?_append_right (by omega), List.getElem?_eq_none (Nat.le_of_not_lt h)]
    unfold zs
    rw [List.getElem?_replicate]
    split <;> rfl
theorem less_app {c : List Nat} {z i : Nat} (h : i < c.length) : less (c ++ zs z) i = less c i ++ zs z := by
  unfold less
  rw [getD_app, List.set_append_left _ _ h]
theorem sumI_zero {f : Nat → Nat} {n m : Nat} (h : ∀ i, n ≤ i → f i = 0) : sumI (n + m) f = sumI n f := by
  induction m with
  | zero => rfl
  | succ m ih => rw [← Nat.add_assoc, sumI_succ, ih, h _ (by omega), Nat.add_zero]
theorem comp_zs : ∀ (n p z : Nat) (c : List Nat), comp n p (c ++ zs z) = comp n p c
  | 0, p, z, c => rfl
  | n + 1, 0, z, c => rfl
  | n + 1, p + 1, z, c => by
    rw [comp, comp, List.length_append, show (zs z).length = z by unfold zs; simp, sumI_zero]
    · refine sumI_congr fun i hi => ?_
      rw [getD_app, less_app hi, comp_zs n]
    · intro i hi
      rw [getD_app, if_neg]
      rw [List.getD_eq_getElem?_getD, List.getElem?_eq_none hi]
      exact Nat.lt_irrefl 0
theorem wordsL_zs : ∀ (n p z : Nat) (c : List Nat), wordsL n p (c ++ zs z) = wordsL n p c
  | 0, p, z, c => rfl
  | n + 1, 0, z, c => rfl
  | n + 1, p + 1, z, c => by
    rw [wordsL, wordsL, List.length_append, show (zs z).length = z by unfold zs; simp]
    have key : ∀ m, ((List.range (c.length + m)).map fun i => if 0 < (c ++ zs z).getD i 0 then (wordsL n (p + i) (less (c ++ zs z) i)).map fun r => (i : Int) :: r else []).flatten =
        ((List.range c.length).map fun i => if 0 < c.getD i 0 then (wordsL n (p + i) (less c i)).map fun r => (i : Int) :: r else []).flatten := by
      intro m
      induction m with
      | zero =>
        rw [Nat.add_zero]
        congr 1
        refine List.map_congr_left fun i hi => ?_
        rw [getD_app, less_app (List.mem_range.mp hi), wordsL_zs n]
      | succ m ih =>
        rw [← Nat.add_assoc, List.range_succ, List.map_append, List.flatten_append, ih]
        have e : (c ++ zs z).getD (c.length + m) 0 = 0 := by
          rw [getD_app, List.getD_eq_getElem?_getD, List.getElem?_eq_none (by omega)]
          rfl
        rw [List.map_cons, List.map_nil, List.flatten_cons, List.flatten_nil, if_neg (by rw [e]; exact Nat.lt_irrefl 0), List.append_nil, List.append_nil]
    exact key z
theorem sum_zs (c : List Nat) (z : Nat) : (c ++ zs z).sum = c.sum := by rw [List.sum_append, zs_sum, Nat.add_zero]
theorem wt_zs (c : List Nat) (z : Nat) : wt 0 (c ++ zs z) = wt 0 c := by rw [wt_app, zs_wt, Nat.add_zero]
theorem hm_zs (c : List Nat) (z : Nat) : hm (c ++ zs z) = hm c := by
  unfold hm
  rw [sum_zs, wt_zs, comp_zs]
/-- a word and its counts -/
structure WC (ns : List Int) (M n p : Nat) : Prop where
  len : ns.length = n
  top : (M : Int) ∈ ns
  le : ∀ x ∈ ns, x ≤ (M : Int)
  ge : ∀ x ∈ ns, 0 ≤ x
  pos : 0 < p
  sum : ns.sum + (p : Int) = (n : Int)
  mem : ns ∈ wordsL n p (cntN (M + 1) ns)
namespace WC
variable {ns : List Int} {M n p : Nat} (h : WC ns M n p)
include h
theorem bd : ∀ x ∈ ns, 0 ≤ x ∧ x < (M + 1 : Nat) := fun x hx => ⟨h.ge x hx, by have := h.le x hx; omega⟩
theorem csum : (cntN (M + 1) ns).sum = n := by rw [cntN_sum _ _ h.bd, h.len]
theorem cwt : p + wt 0 (cntN (M + 1) ns) = n := by
  have := cntN_wt (M + 1) ns h.bd
  have := h.sum
  omega
theorem many : hm (cntN (M + 1) ns) = comp n p (cntN (M + 1) ns) := by
  have := h.cwt
  have := h.pos
  unfold hm
  rw [h.csum, if_pos (by omega), show n - wt 0 (cntN (M + 1) ns) = p by omega]
theorem wlt : n - ns.sum.toNat = p := by
  have h1 := h.cwt
  have h2 := cntN_wt (M + 1) ns h.bd
  omega
theorem word : Gr.isWord ns = true := by
  obtain ⟨h1, _, _⟩ := (mem_wordsL n p _ ns h.csum).mp h.mem
  obtain ⟨g, g1, g2⟩ := Gr.chk_iff.mp h1
  refine Gr.isWord_iff.mpr ⟨g, ?_, g2⟩
  rintro rfl
  have := h.pos
  have : (0 : Nat) = p := g1
  omega
/-- another word with the same counts -/
theorem other {ws : List Int} (hw : ws ∈ wordsL n p (cntN (M + 1) ns)) : WC ws M n p ∧ cntN (M + 1) ws = cntN (M + 1) ns := by
  obtain ⟨h1, h2, h3⟩ := (mem_wordsL n p _ ws h.csum).mp hw
  rw [cntN_len] at h2 h3
  have hge : ∀ x ∈ ws, 0 ≤ x := ((chk_good ws p).mp h1).1
  have hb : ∀ x ∈ ws, 0 ≤ x ∧ x < (M + 1 : Nat) := fun x hx => ⟨hge x hx, h2 x hx⟩
  have hl := cntN_sum (M + 1) ws hb
  rw [h3, h.csum] at hl
  have hs := cntN_wt (M + 1) ws hb
  rw [h3] at hs
  have hc := h.cwt
  refine ⟨⟨hl.symm, ?_, fun x hx => by have := h2 x hx; omega, hge, h.pos, by omega, by rw [h3]; exact hw⟩, h3⟩
  have e1 : (cntN (M + 1) ws).getD M 0 = (cntN (M + 1) ns).getD M 0 := by rw [h3]
  rw [cntN_getD (by omega), cntN_getD (by omega)] at e1
  refine List.count_pos_iff.mp ?_
  rw [e1]
  exact List.count_pos_iff.mpr h.top
theorem rank {ws : List Int} {k : Nat} (hk : (wordsL n p (cntN (M + 1) ns))[k]? = some ws) : rankL ws.length (ws.length - ws.sum.toNat) (cntN (M + 1) ws) ws = k := by
  obtain ⟨o, e⟩ := h.other (List.mem_of_getElem? hk)
  rw [o.len, o.wlt, e]
  exact rankL_of_get h.csum hk
end WC
theorem wc_grove {g : Gr} (hg : g ≠ .nil) {M : Nat} (h1 : (M : Int) ∈ g.word) (h2 : ∀ x ∈ g.word, x ≤ (M : Int)) : WC g.word M g.size g.len := by
  have hb : ∀ x ∈ g.word, 0 ≤ x ∧ x < (M + 1 : Nat) := fun x hx => ⟨g.word_nonneg x hx, by have := h2 x hx; omega⟩
  have hl := cntN_sum (M + 1) g.word hb
  rw [Gr.word_len] at hl
  refine ⟨g.word_len, h1, h2, fun x hx => (hb x hx).1, ?_, g.word_sum, (mem_wordsL _ _ _ _ hl).mpr ⟨Gr.chk_iff.mpr ⟨g, rfl, rfl⟩, fun x hx => ?_, ?_⟩⟩
  · cases g with
    | nil => exact absurd rfl hg
    | cons b r => simp [Gr.len]
  · rw [cntN_len]
    exact (hb x hx).2
  · rw [cntN_len]
end My

set_option Elab.async false
set_option linter.all false
set_option maxRecDepth 100000
set_option maxHeartbeats 4000000
namespace L2
open PySem PySem.Spec PyProof.Rows
section
variable {X : Cx} {K : PySem.W.Frag}
theorem ix_listB (e : X.K = K) : IxR X (rIxL K) := e ▸ ix_list
end
end L2
namespace My
open PySem PySem.Spec PyProof.Rows L2
/-! ### groves on the heap -/
def IsG (H : Hp) : Gr → List V → Prop
  | .nil, vs => vs = []
  | .cons b r, vs => ∃ (a : Addr) (ys us : List V), vs = .ref a :: us ∧ H a = some (.tup ys) ∧ IsG H b ys ∧ IsG H r us
/-- a tree: its boughs -/
def IsT (H : Hp) (g : Gr) (v : V) : Prop := ∃ (a : Addr) (ys : List V), v = .ref a ∧ H a = some (.tup ys) ∧ IsG H g ys
def Tups (H H' : Hp) : Prop := ∀ a ys, H a = some (.tup ys) → H' a = some (.tup ys)
theorem Tups.refl (H : Hp) : Tups H H := fun _ _ h => h
theorem Tups.trans {H H1 H2 : Hp} (a : Tups H H1) (b : Tups H1 H2) : Tups H H2 := fun c o h => b c o (a c o h)
theorem _root_.L2.Same.tups {H H' : Hp} (g : Same H H') : Tups H H' := fun a ys h => g a _ h
theorem tups_lst {H : Hp} {p : Addr} {xs ys : List V} (h : H p = some (.lst xs)) : Tups H (upd H p (.lst ys)) := fun a zs e => by
  rw [upd_ne (fun z => by rw [z, h] at e; cases e)]
  exact e
theorem IsG.mono {H H' : Hp} (t : Tups H H') : ∀ {g : Gr} {vs : List V}, IsG H g vs → IsG H' g vs
  | .nil, _, h => h
  | .cons b r, _, h => by
    obtain ⟨a, ys, us, e, h1, h2, h3⟩ := h
    exact ⟨a, ys, us, e, t _ _ h1, IsG.mono t h2, IsG.mono t h3⟩
theorem IsT.mono {H H' : Hp} (t : Tups H H') {g : Gr} {v : V} (h : IsT H g v) : IsT H' g v := by
  obtain ⟨a, ys, e, h1, h2⟩ := h
  exact ⟨a, ys, e, t _ _ h1, h2.mono t⟩
theorem IsG.length {H : Hp} : ∀ {g : Gr} {vs : List V}, IsG H g vs → vs.length = g.len
  | .nil, _, h => by rw [show _ = [] from h]; rfl
  | .cons b r, _, h => by
    obtain ⟨a, ys, us, rfl, h1, h2, h3⟩ := h
    rw [List.length_cons, IsG.length h3]
    rfl
theorem isG_cons {H : Hp} {b r : Gr} {v : V} {us : List V} : IsG H (.cons b r) (v :: us) ↔ IsT H b v ∧ IsG H r us := by
  constructor
  · rintro ⟨a, ys, us', e, h1, h2, h3⟩
    cases e
    exact ⟨⟨a, ys, rfl, h1, h2⟩, h3⟩
  · rintro ⟨⟨a, ys, rfl, h1, h2⟩, h3⟩
    exact ⟨a, ys, us, rfl, h1, h2, h3⟩
theorem IsG.app {H : Hp} : ∀ {a b : Gr} {us vs : List V}, IsG H a us → IsG H b vs → IsG H (a.app b) (us ++ vs)
  | .nil, b, us, vs, h1, h2 => by rw [show us = [] from h1]; exact h2
  | .cons x r, b, us, vs, h1, h2 => by
    cases us with
    | nil =>
      obtain ⟨_, _, _, e, _⟩ := h1
      cases e
    | cons u us =>
      rw [isG_cons] at h1
      show IsG H (.cons x (r.app b)) (u :: (us ++ vs))
      rw [isG_cons]
      exact ⟨h1.1, IsG.app h1.2 h2⟩
theorem IsG.cut {H : Hp} : ∀ {n : Nat} {g : Gr} {vs : List V}, IsG H g vs → IsG H (g.take n) (vs.take n) ∧ IsG H (g.drop n) (vs.drop n)
  | 0, g, vs, h => ⟨rfl, h⟩
  | n + 1, .nil, vs, h => by rw [show vs = [] from h]; exact ⟨rfl, rfl⟩
  | n + 1, .cons b r, [], h => by obtain ⟨_, _, _, e, _⟩ := h; cases e
  | n + 1, .cons b r, v :: vs, h => by
    rw [isG_cons] at h
    have := IsG.cut (n := n) h.2
    exact ⟨by rw [Gr.take, List.take_succ_cons, isG_cons]; exact ⟨h.1, this.1⟩, this.2⟩
theorem isG_mkG {H : Hp} {T : Nat → Gr} : ∀ {js : List Nat} {vs : List V}, vs.length = js.length → (∀ (i j : Nat) (v : V), js[i]? = some j → vs[i]? = some v → IsT H (T j) v) → IsG H (mkG T js) vs
  | [], [], _, _ => rfl
  | [], v :: vs, h, _ => by simp at h
  | j :: js, [], h, _ => by simp at h
  | j :: js, v :: vs, h, ht => by
    rw [mkG, isG_cons]
    exact ⟨ht 0 j v rfl rfl, isG_mkG (by simpa using h) fun i k u h1 h2 => ht (i + 1) k u h1 h2⟩
theorem Gr.app_depth : ∀ a b : Gr, (a.app b).depth = max a.depth b.depth
  | .nil, b => by simp [Gr.app, Gr.depth]
  | .cons x r, b => by
    simp only [Gr.app, Gr.depth]
    rw [Gr.app_depth r b]
    omega
/-- the tree at a place -/
structure At (g b : Gr) (i : Nat) : Prop where
  whole : g = (g.take i).app (.cons b (g.drop (i + 1)))
  next : g.take (i + 1) = (g.take i).app (.cons b .nil)
  left : g.drop i = .cons b (g.drop (i + 1))
theorem At.size {g b : Gr} {i : Nat} (h : At g b i) : (g.take i).size + b.size + 1 ≤ g.size := by
  have := congrArg Gr.size h.whole
  rw [Gr.app_size] at this
  simp only [Gr.size] at this
  omega
theorem At.depth {g b : Gr} {i : Nat} (h : At g b i) : b.depth + 1 ≤ g.depth := by
  have := congrArg Gr.depth h.whole
  rw [Gr.app_depth] at this
  simp only [Gr.depth] at this
  omega
theorem At.word {g b : Gr} {i : Nat} (h : At g b i) : (g.take (i + 1)).word = (g.take i).word ++ ((b.len : Int) :: b.word) := by
  rw [h.next, Gr.app_word]
  simp only [Gr.word, List.append_nil]
theorem IsG.get {H : Hp} : ∀ {g : Gr} {vs : List V}, IsG H g vs → ∀ {i : Nat} {v : V}, vs[i]? = some v → ∃ b, IsT H b v ∧ At g b i
  | .nil, vs, h, i, v, e => by rw [show vs = [] from h] at e; simp at e
  | .cons b r, [], h, i, v, e => by simp at e
  | .cons b r, u :: vs, h, 0, v, e => by
    rw [isG_cons] at h
    simp only [List.getElem?_cons_zero, Option.some.injEq] at e
    subst e
    exact ⟨b, h.1, rfl, by cases r <;> rfl, rfl⟩
  | .cons b r, u :: vs, h, i + 1, v, e => by
    rw [isG_cons] at h
    obtain ⟨c, c1, c2⟩ := IsG.get h.2 (i := i) (v := v) (by simpa using e)
    refine ⟨c, c1, ?_, ?_, c2.left⟩
    · simp only [Gr.take, Gr.drop, Gr.app]
      rw [← c2.whole]
    · show Gr.cons b (r.take (i + 1)) = .cons b ((r.take i).app _)
      rw [c2.next]
theorem Gr.take_all : ∀ (g : Gr) (n : Nat), g.len ≤ n → g.take n = g
  | .nil, 0, _ => rfl
  | .nil, _ + 1, _ => rfl
  | .cons b r, 0, h => by simp [Gr.len] at h
  | .cons b r, n + 1, h => by
    rw [Gr.take, Gr.take_all r n (by simp only [Gr.len] at h; omega)]
/-! ### numbers as values -/
def vi (js : List Nat) : List V := js.map fun (j : Nat) => V.int (j : Int)
theorem vi_len (js : List Nat) : (vi js).length = js.length := by unfold vi; rw [List.length_map]
theorem vi_snoc (js : List Nat) (j : Nat) : vi js ++ [V.int (j : Int)] = vi (js ++ [j]) := by unfold vi; rw [List.map_append]; rfl
theorem vi_get {js : List Nat} {i : Nat} {y : V} (h : (vi js)[i]? = some y) : ∃ j : Nat, y = .int (j : Int) ∧ js[i]? = some j := by
  unfold vi at h
  rw [List.getElem?_map] at h
  cases e : js[i]? with
  | none => rw [e] at h; cases h
  | some z => rw [e] at h; exact ⟨z, (Option.some.inj h).symm, rfl⟩
/-! ### the boughs' lists of the law's grove -/
def parOf (ns : List Int) (f rt : Int) (k : Nat) : Option Nat :=
  if k = 0 ∨ ns.getD (f + k).toNat 0 % rt = 1 then none
  else if rt = 99 ∧ 0 < ns.getD (f + k).toNat 0 % 16 then some 0
  else if ns.getD (f + k).toNat 0 / 64 % 3 = 0 then some (k - 1)
  else some (ns.getD (f + k).toNat 0 / 192 % k).toNat
theorem parOf_lt {ns : List Int} {f rt : Int} (k p : Nat) (h : parOf ns f rt k = some p) : p < k := by
  unfold parOf at h
  split at h
  · cases h
  · rename_i hk
    have hk0 : k ≠ 0 := fun z => hk (.inl z)
    split at h
    · cases h
      omega
    · split at h
      · cases h
        omega
      · cases h
        have := Int.emod_lt_of_pos (ns.getD (f + k).toNat 0 / 192) (show (0 : Int) < (k : Int) by omega)
        have := Int.emod_nonneg (ns.getD (f + k).toNat 0 / 192) (show (k : Int) ≠ 0 by omega)
        omega
structure BS (H : Hp) (D F : Addr) (bs : List Addr) : Prop where
  d : H D = none
  f : H F = none
  b : ∀ c ∈ bs, H c = none
  nd : bs.Nodup
  db : D ∉ bs
  fb : F ∉ bs
  df : D ≠ F
structure BInv (H H' : Hp) (D F : Addr) (bs : List Addr) (par : Nat → Option Nat) (i : Nat) : Prop where
  same : Same H H'
  d : H' D = some (.lst (bs.map V.ref))
  f : H' F = some (.lst (vi (tops par i)))
  b : ∀ p c, bs[p]? = some c → H' c = some (.lst (vi (kids par p i)))
theorem nodup_get {bs : List Addr} (nd : bs.Nodup) {p q : Nat} {c : Addr} (h1 : bs[p]? = some c) (h2 : bs[q]? = some c) : p = q := by
  obtain ⟨l1, e1⟩ := List.getElem?_eq_some_iff.mp h1
  obtain ⟨l2, e2⟩ := List.getElem?_eq_some_iff.mp h2
  have hp := List.pairwise_iff_getElem.mp (List.nodup_iff_pairwise_ne.mp nd)
  rcases Nat.lt_trichotomy p q with z | z | z
  · exact absurd (e1.trans e2.symm) (hp p q l1 l2 z)
  · exact z
  · exact absurd (e2.trans e1.symm) (hp q p l2 l1 z)
theorem BInv.push {H H' : Hp} {D F : Addr} {bs : List Addr} {par : Nat → Option Nat} {i p : Nat} {c : Addr} (I : BInv H H' D F bs par i) (S : BS H D F bs) (hp : par i = some p) (hc : bs[p]? = some c) :
    BInv H (upd H' c (.lst (vi (kids par p i) ++ [V.int (i : Int)]))) D F bs par (i + 1) := by
  have hm : c ∈ bs := List.mem_of_getElem? hc
  have nD : D ≠ c := fun z => S.db (z ▸ hm)
  have nF : F ≠ c := fun z => S.fb (z ▸ hm)
  refine ⟨same_upd I.same (S.b c hm) _, by rw [upd_ne nD]; exact I.d, ?_, fun q c' hq => ?_⟩
  · rw [upd_ne nF, I.f, tops_succ, if_neg (by rw [hp]; exact fun z => nomatch z), List.append_nil]
  · by_cases hcc : c' = c
    · subst hcc
      have hq' := nodup_get S.nd hq hc
      subst hq'
      rw [upd_same, vi_snoc, kids_succ, if_pos hp]
    · rw [upd_ne hcc, I.b q c' hq, kids_succ, if_neg, List.append_nil]
      intro z
      rw [hp] at z
      cases z
      rw [hq] at hc
      exact hcc (Option.some.inj hc)
theorem BInv.top {H H' : Hp} {D F : Addr} {bs : List Addr} {par : Nat → Option Nat} {i : Nat} (I : BInv H H' D F bs par i) (S : BS H D F bs) (hp : par i = none) :
    BInv H (upd H' F (.lst (vi (tops par i) ++ [V.int (i : Int)]))) D F bs par (i + 1) := by
  refine ⟨same_upd I.same S.f _, by rw [upd_ne S.df]; exact I.d, ?_, fun q c' hq => ?_⟩
  · rw [upd_same, vi_snoc, tops_succ, if_pos hp]
  · have hm : c' ∈ bs := List.mem_of_getElem? hq
    rw [upd_ne (show c' ≠ F from fun z => S.fb (z ▸ hm)), I.b q c' hq, kids_succ, if_neg (by rw [hp]; exact fun z => nomatch z), List.append_nil]
theorem kids_len {par : Nat → Option Nat} {p i : Nat} : (kids par p i).length ≤ i := Nat.le_trans (List.length_filter_le _ _) (by rw [List.length_range]; exact Nat.le_refl _)
theorem tops_len {par : Nat → Option Nat} {i : Nat} : (tops par i).length ≤ i := Nat.le_trans (List.length_filter_le _ _) (by rw [List.length_range]; exact Nat.le_refl _)
theorem ref_get {bs : List Addr} {p : Nat} {c : Addr} (h : bs[p]? = some c) : (bs.map V.ref)[p]? = some (V.ref c) := by rw [List.getElem?_map, h]; rfl
end My

set_option Elab.async false
set_option linter.all false
set_option maxRecDepth 100000
set_option maxHeartbeats 4000000
namespace L2
open PySem PySem.Spec PyProof.Rows PySem.SeqAt
/-! ### == and != of nested data -/
mutual
inductive RdD (H : Hp) : V → PyData → Prop
  | non : RdD H .non .none
  | bl (b : Bool) : RdD H (.bl b) (.bool b)
  | int (i : Int) : RdD H (.int i) (.int i)
  | str (x : Str) : RdD H (.str x) (.str x)
  | lst {a : Addr} {xs : List V} {ds : List PyData} : H a = some (.lst xs) → RdAll H xs ds → RdD H (.ref a) (.list ds)
  | tup {a : Addr} {xs : List V} {ds : List PyData} : H a = some (.tup xs) → RdAll H xs ds → RdD H (.ref a) (.tuple ds)
inductive RdAll (H : Hp) : List V → List PyData → Prop
  | nil : RdAll H [] []
  | cons {x : V} {xs : List V} {d : PyData} {ds : List PyData} : RdD H x d → RdAll H xs ds → RdAll H (x :: xs) (d :: ds)
end
section
variable {X : Cx}
mutual
theorem RdD.reads {pins : List (Addr × Obj)} {σ : St} {H : Hp} {s : Shared} (I : Inv X pins σ H s) : ∀ {x : V} {d : PyData} {u : Value}, RdD H x d → RelV x u → ∃ as, Reads s.heap u d as
  | _, _, _, .non, r => by cases r; exact ⟨_, .none⟩
  | _, _, _, .bl b, r => by cases r; exact ⟨_, .bool b⟩
  | _, _, _, .int i, r => by obtain ⟨t, rfl⟩ := r; exact ⟨_, .int i t⟩
  | _, _, _, .str x, r => by obtain ⟨t, rfl⟩ := r; exact ⟨_, .str x t⟩
  | _, _, _, .lst h hs, r => by
    cases r
    obtain ⟨its, rv, pl, _⟩ := I.list (SqL.of h)
    obtain ⟨o, ho, hc, n, hd⟩ := pl.isList
    obtain ⟨as, ra⟩ := RdAll.reads I hs rv
    exact ⟨_, Reads.list ho hc hd (by simpa using ra)⟩
  | _, _, _, .tup h hs, r => by
    cases r
    obtain ⟨its, rv, pl, _⟩ := I.tuple (SqT.of h)
    obtain ⟨o, ho, hc, n, hd⟩ := pl
    obtain ⟨as, ra⟩ := RdAll.reads I hs rv
    exact ⟨_, Reads.tuple ho hc hd (by simpa using ra)⟩
theorem RdAll.reads {pins : List (Addr × Obj)} {σ : St} {H : Hp} {s : Shared} (I : Inv X pins σ H s) : ∀ {xs : List V} {ds : List PyData} {us : List Value}, RdAll H xs ds → Vals xs us → ∃ as, ReadsAll s.heap us ds as
  | _, _, _, .nil, r => by cases r; exact ⟨_, .nil⟩
  | _, _, _, .cons h hs, r => by
    cases r with
    | cons r1 r2 =>
      obtain ⟨as, ra⟩ := RdD.reads I h r1
      obtain ⟨bs, rb⟩ := RdAll.reads I hs r2
      exact ⟨_, .cons ra rb⟩
end
def rEqD (f : Bool → Bool) : R2 := fun x y H Q => ∃ da db : PyData, RdD H x da ∧ RdD H y db ∧ shaped da = true ∧ shaped db = true ∧ noMix da db = true ∧ Q (.bl (f (PySem.Spec.same da db))) H
theorem op_eqD (hu : X.A.units + 64 < cLine) : OpR X (compareOp .Eq) (rEqD id) := by
  intro pins s σ H x y v u Q I rx ry h
  obtain ⟨da, db, ha, hb, s1, s2, nm, q⟩ := h
  obtain ⟨as, ra⟩ := ha.reads I rx
  obtain ⟨bs, rb⟩ := hb.reads I ry
  exact eq_dataH_same ra rb s1 s2 hu nm ⟨.bl _, H, I, rfl, q⟩
theorem op_neD (hu : X.A.units + 64 < cLine) : OpR X (compareOp .NotEq) (rEqD not) := by
  intro pins s σ H x y v u Q I rx ry h
  obtain ⟨da, db, ha, hb, s1, s2, nm, q⟩ := h
  obtain ⟨as, ra⟩ := ha.reads I rx
  obtain ⟨bs, rb⟩ := hb.reads I ry
  exact ne_dataH_same ra rb s1 s2 hu nm ⟨.bl _, H, I, rfl, q⟩
end
end L2
namespace My
open PySem PySem.Spec PyProof.Rows PySem.SeqAt L2
/-! ### groves as data -/
def dataG : Gr → List PyData
  | .nil => []
  | .cons b r => .tuple (dataG b) :: dataG r
theorem isG_rd {H : Hp} : ∀ {g : Gr} {vs : List V}, IsG H g vs → RdAll H vs (dataG g)
  | .nil, _, h => by rw [show _ = [] from h]; exact .nil
  | .cons b r, _, h => by
    obtain ⟨a, ys, us, rfl, h1, h2, h3⟩ := h
    exact .cons (.tup h1 (isG_rd h2)) (isG_rd h3)
theorem dataG_lay : ∀ g : Gr, PyData.canLayAll0 (dataG g) = true
  | .nil => by simp [dataG, PyData.canLayAll0]
  | .cons b r => by
    have h1 := dataG_lay b
    have h2 := dataG_lay r
    simp only [dataG, PyData.canLayAll0, PyData.canLay0, h1, h2, Bool.and_self]
theorem dataG_depth : ∀ g : Gr, PyData.depthAll (dataG g) = g.depth
  | .nil => by simp [dataG, PyData.depthAll, Gr.depth]
  | .cons b r => by
    have h1 := dataG_depth b
    have h2 := dataG_depth r
    simp only [dataG, PyData.depthAll, PyData.depth, Gr.depth, h1, h2]
theorem dataG_mix : ∀ g : Gr, noMixAll (dataG g) (dataG g) = true
  | .nil => by simp [dataG, noMixAll]
  | .cons b r => by
    have h1 := dataG_mix b
    have h2 := dataG_mix r
    simp only [dataG, noMixAll, noMix, h1, h2, Bool.and_self]
theorem shaped_grove {g : Gr} (h : g.size ≤ 60) : shaped (.list (dataG g)) = true := by
  have h1 := dataG_lay g
  have h2 := dataG_depth g
  have h3 := g.depth_le
  unfold shaped
  simp only [PyData.canLay0, PyData.depth, h1, h2, Bool.true_and, decide_eq_true_eq]
  omega
theorem rdAll_ints {H : Hp} : ∀ ns : List Int, RdAll H (ns.map V.int) (ns.map PyData.int)
  | [] => .nil
  | n :: r => .cons (.int n) (rdAll_ints r)
theorem ints_lay : ∀ ns : List Int, PyData.canLayAll0 (ns.map PyData.int) = true
  | [] => by simp [PyData.canLayAll0]
  | n :: r => by simp only [List.map_cons, PyData.canLayAll0, PyData.canLay0, ints_lay r, Bool.and_self]
theorem ints_depth : ∀ ns : List Int, PyData.depthAll (ns.map PyData.int) = 0
  | [] => by simp [PyData.depthAll]
  | n :: r => by simp only [List.map_cons, PyData.depthAll, PyData.depth, ints_depth r, Nat.max_self]
theorem ints_mix : ∀ ns ms : List Int, noMixAll (ns.map PyData.int) (ms.map PyData.int) = true
  | [], [] => by simp [noMixAll]
  | [], m :: s => by simp [noMixAll]
  | n :: r, [] => by simp [noMixAll]
  | n :: r, m :: s => by simp only [List.map_cons, noMixAll, noMix, ints_mix r s, Bool.and_self]
end My

set_option Elab.async false
set_option linter.all false
set_option maxRecDepth 100000
set_option maxHeartbeats 4000000
namespace L2
open PySem PySem.Spec PyProof.Rows
/-! ### try round statements that call -/
/-- statements of a try's body: the exceptions of their calls come with the names as they stood ahead -/
def PSx (X : Cx) (body : List Stmt) (t : XK → TS) : Prop :=
  ∀ (E : XK) (pins : List (Addr × Obj)) (s : Shared) (σ : St) (H : Hp) (D : Ends), Inv X pins σ H s → t E D σ H →
    wpAny (model X.prog X.w) X.A (execs body X.env) (SP X pins D) (fun ev s' => ∃ H1 s1, Inv X pins σ H1 s1 ∧ CXf X.prog X.w X.stack H1 s1 E ev s') s
section
variable {X : Cx} {x : Str} {p cpos epos pos : Pos} {e : Expr} {es : List Expr} {t : TA} {k i : Nat} {f : Addr} {fd : FuncData} {ps : List Str} {sp : Sp}
theorem call_x {E : XK} {pins : List (Addr × Obj)} {σ : St} {H : Hp} {s : Shared} {Q : VK} (F : FnOk X.prog X.w X.K X.mg X.base (CXf X.prog X.w) k f fd ps sp) (hb : Binds X.K fd ps []) (hk : PySem.W.keepIn X.K (.ref f) = true) (hm : X.mg x = some (.ref f)) (hr : Room k X.A) (hg : Gl X x) (ha : PA X.nox (e :: es) t)
    (I : Inv X pins σ H s) (h : t σ H fun vs H1 => sp vs H1 Q E)
    (hdb : (x == ("__debug__" : Str)) = false := by decide) (hst : starEach (e :: es) X.env = (false, eval e X.env) :: starEach es X.env := by rfl) (hpl : (backTo cpos (starEach es X.env)).any (·.1) = false := by rfl) :
    wpAny (model X.prog X.w) X.A (eval (.Call (.Name x p) (e :: es) [] cpos) X.env) (EP X pins σ Q) (fun ev s' => ∃ H1 s1, Inv X pins σ H1 s1 ∧ CXf X.prog X.w X.stack H1 s1 E ev s') s := by
  refine wpAny_Call_Name_kw (ld_glob I hg hm ?_ hdb)
  refine PySem.W.callWith_K (h₀ := X.base) I.ok.mod.kin hk (wpAny_mono (ha cpos pins s σ H _ (I.wish _) h) (fun us s1 ⟨vs, H1, I1w, r, q⟩ => ⟨I1w.kIn, ?_⟩) fun _ _ z => False.elim z) hst hpl
  have I1 : Inv X pins σ H1 s1 := I1w.unwish
  have hlen : (us ++ []).length = ps.length := by rw [List.append_nil, ← r.length]; exact F.len _ _ _ _ q
  have bnd := hb s1 us I1.kIn hlen
  rw [List.append_nil] at bnd
  refine wpAny_call (codeAny_mono (F.run X.A X.stack s1 H1 ⟨us, []⟩ us vs _ _ hr I1.env0 bnd r q) fun res s' hq => ?_)
  cases res with
  | ok fl =>
    cases fl with
    | ret u => exact I1.after hq
    | next => exact False.elim hq
    | brk => exact False.elim hq
    | cont => exact False.elim hq
  | error ev => exact ⟨H1, s1, I1, hq⟩
theorem psx_call (F : FnOk X.prog X.w X.K X.mg X.base (CXf X.prog X.w) k f fd ps sp) (hb : Binds X.K fd ps []) (hk : PySem.W.keepIn X.K (.ref f) = true) (hm : X.mg x = some (.ref f)) (hr : Room k X.A) (hg : Gl X x) (ha : PA X.nox (e :: es) t)
    (hdb : (x == ("__debug__" : Str)) = false := by decide) (hst : starEach (e :: es) X.env = (false, eval e X.env) :: starEach es X.env := by rfl) (hpl : (backTo cpos (starEach es X.env)).any (·.1) = false := by rfl)
    (hsw : swapsWith (.Call (.Name x p) (e :: es) [] cpos) none epos.line X.env = pure false := by rfl) :
    PSx X [.Expr (.Call (.Name x p) (e :: es) [] cpos) epos] (fun E D σ H => t σ H fun vs H1 => sp vs H1 (fun _ H2 => D.nx σ H2) E) := by
  intro E pins s σ H D I h
  refine wpAny_execs_cons (wpAny_Expr_any (wpAny_mono (call_x F hb hk hm hr hg ha I h hdb hst hpl) (fun u s1 ⟨v, H1, I1, _, q⟩ => ?_) fun _ _ z => z) I.quiet hsw)
  exact wpAny_execs_nil ⟨σ, H1, I1, q⟩
theorem psx_set {y : Str} {py spos : Pos} (F : FnOk X.prog X.w X.K X.mg X.base (CXf X.prog X.w) k f fd ps sp) (hb : Binds X.K fd ps []) (hk : PySem.W.keepIn X.K (.ref f) = true) (hm : X.mg x = some (.ref f)) (hr : Room k X.A) (hg : Gl X x) (ha : PA X.nox (e :: es) t)
    (nd : X.N.Nodup) (hi : X.N[i]? = some y) (hy : Loc X.env.scope y)
    (hdb : (x == ("__debug__" : Str)) = false := by decide) (hst : starEach (e :: es) X.env = (false, eval e X.env) :: starEach es X.env := by rfl) (hpl : (backTo cpos (starEach es X.env)).any (·.1) = false := by rfl)
    (hsw : swapsWith (.Call (.Name x p) (e :: es) [] cpos) (some (.Name y py)) spos.line X.env = pure false := by rfl) (hf : X.fn y = true ∨ X.env.scope.names.lookup y = some .local := by first | exact .inl rfl | exact .inr rfl | assumption) :
    PSx X [.Assign [.Name y py] (.Call (.Name x p) (e :: es) [] cpos) spos] (fun E D σ H => t σ H fun vs H1 => sp vs H1 (fun v H2 => D.nx (σ.set i (some v)) H2) E) := by
  intro E pins s σ H D I h
  refine wpAny_execs_cons (wpAny_Assign_Name (wpAny_mono (call_x F hb hk hm hr hg ha I h hdb hst hpl) (fun u s1 ⟨v, H1, I1, r1, q⟩ => ?_) fun _ _ z => z) hsw)
  exact store_ok I1 nd hi hy r1 (fun s2 I2 => wpAny_execs_nil ⟨_, H1, I2, q⟩) hf
theorem psx_if {c : Expr} {a b : List Stmt} {tc : TT} {ta tb : XK → TS} (hc : PT X.nox c tc) (ha : PSx X a ta) (hb : PSx X b tb) : PSx X [.If c a b pos] (fun E => tIfS tc (ta E) (tb E)) := by
  intro E pins s σ H D I h
  refine wpAny_execs_cons (wpAny_If (wpAny_mono (hc pins s σ H _ (I.wish _) h) (fun d s1 ⟨H1, I1w, q1⟩ => ?_) fun _ _ z => False.elim z))
  have I1 : Inv X pins σ H1 s1 := I1w.unwish
  have fin : ∀ {s2 : Shared} {fl : Flow}, SP X pins D fl s2 → (match fl with | .next => wpAny (model X.prog X.w) X.A (execs [] X.env) (SP X pins D) (fun ev s' => ∃ H1 s1, Inv X pins σ H1 s1 ∧ CXf X.prog X.w X.stack H1 s1 E ev s') s2 | fl => SP X pins D fl s2) := fun {s2 fl} q => by
    cases fl with
    | next => exact wpAny_execs_nil q
    | ret v => exact q
    | brk => exact q
    | cont => exact q
  cases d with
  | true => exact wpAny_mono (ha E pins s1 σ H1 D I1 (by simpa [tIfS] using q1)) (fun fl s2 q => fin q) fun _ _ z => z
  | false => exact wpAny_mono (hb E pins s1 σ H1 D I1 (by simpa [tIfS] using q1)) (fun fl s2 q => fin q) fun _ _ z => z
def tTryx (K : PySem.W.Frag) (tb : XK → TS) (CT : Addr) (i : Nat) (tsu : TS) : TS := fun D σ H => tb (fun cls _ H2 => ∃ C, cls = .ref C ∧ PySem.W.subIn K (.ref C) (.ref CT) = some true ∧
  ∀ a, H2 a = none → tsu { nx := fun σ' H' => D.nx (σ'.set i none) H', rt := fun _ _ => False } (σ.set i (some (.ref a))) (upd H2 a (excO a C))) D σ H
theorem ps_tryx {tx n : Str} {np hpos : Pos} {body suite : List Stmt} {b0 : Stmt} {tb : XK → TS} {CT : Addr} {tsu : TS} {bmT : List Value} {newT : String} (hbd : PSx X body tb)
    (hex : X.ex = []) (sk : X.stack = X.env :: X.outer) (hfr : X.env.frame = some X.env.locals) (hgt : Gl X tx) (hmt : X.mg tx = some (.ref CT)) (qt : PySem.W.excIn X.K CT bmT newT = true) (hbT : bmT.contains (.type "BaseException") = true)
    (nd : X.N.Nodup) (hi : X.N[i]? = some n) (hn : X.env.scope.names.lookup n = some .local) (hs : ∀ a, PSs (X.su (.ref a)) (b0 :: suite) tsu) (hdt : (tx == ("__debug__" : Str)) = false := by decide) :
    PS X (.Try body [.ExceptHandler (some (.Name tx np)) (some n) (b0 :: suite) hpos] [] [] pos) (tTryx X.K tb CT i tsu) := by
  intro pins s σ H D I h
  refine wpAny_Try_except (wpAny_mono (hbd _ pins s σ H D I h) (fun fl s1 q => ?_) fun ev s' hq => ?_)
  · cases fl with
    | next => exact wpAny_execs_nil q
    | ret v => exact q
    | brk => exact q
    | cont => exact q
  obtain ⟨H1, s1, I1, hq⟩ := hq
  obtain ⟨a, cls, a0, B, H2, rfl, ho, hbare, fl, un, hok, bw, tr, C, rfl, up, q2⟩ := hq
  obtain ⟨hh, gg, dd, tk, os⟩ := s'
  have hfs : ∀ b ∈ frs X.stack, H1 b = none ∧ ∃ o, s1.heap.get? b = some o ∧ ∀ vs, o.data ≠ .fields vs := fun b hb => ⟨I1.stkFree b hb, (I1.stack.mem hb).2⟩
  have inv : ∀ {h2 : Heap} {tk : Nat}, B.StaysIn h2 → hh.UpToSlots h2 → Inv X pins σ H2 ⟨h2, gg, dd, tk, os⟩ := fun {h2 tk} st u2 =>
    Inv.call' (ch := []) I1 ho (un_up un bw st u2 hfs) (hok.within tr fl.1 st) hbare fun b z => nomatch z
  have fl' := fl
  rw [sk] at fl'
  refine wpAny_looks_onW (s := ⟨hh, gg, dd, tk, os⟩) (by rw [I.ok.frames, sk]) hfr fl' fun h4 held up4 => ?_
  refine wpAny_landsW held fun h5 fl5 up5 => ?_
  have J5 := inv (tk := tk) fl5.1 (up4.trans up5)
  refine wpAny_handleBy_cons (codeAny_handlers_test (ld_glob (J5.su (.ref a)) hgt hmt ?_ hdt)) (by intro q; cases q)
  obtain ⟨oe5, e5, c5⟩ := fl5.there
  refine exc_matches_up J5.kIn qt hbT e5 c5 up ?_
  show codeAny _ _ (.handlers (.ref a) [.ExceptHandler none (some n) (b0 :: suite) hpos] X.env) _ _
  refine codeAny_handlers_suite_as ?_
  refine lands_againW fl5 fun h6 fl6 up6 => ?_
  have J6 := inv (tk := tk) fl6.1 ((up4.trans up5).trans up6)
  obtain ⟨oe, ws, e6, c6, d6, _⟩ := fl6.first
  have nB := fl6.2.1
  have hn2 : H2 a = none := by
    cases z : H2 a with
    | none => rfl
    | some u =>
      obtain ⟨ob, eb⟩ := tr a u z
      rw [nB] at eb
      cases eb
  have nfr : ∀ b ob, h6.get? b = some ob → (∀ vs, ob.data ≠ .fields vs) → b ≠ a := fun b ob eb nb z => by
    rw [z, e6] at eb
    cases eb
    exact nb ws d6
  have nst : a ∉ frs X.stack := fun z => by
    obtain ⟨_, ob, eb, nb⟩ := J6.stack.mem z
    exact nfr a ob eb nb rfl
  have n0 : X.s₀.heap.get? a = none := by
    cases z : X.s₀.heap.get? a with
    | none => rfl
    | some ob =>
      obtain ⟨o1, e1⟩ := I1.base.there a ob z (by rw [hex]; exact fun q => nomatch q)
      obtain ⟨o2, e2⟩ := bw.there a o1 e1 nst
      rw [nB] at e2
      cases e2
  obtain ⟨m6, hm6, _⟩ := id J6.loc
  have nL : a ≠ X.env.locals := by
    obtain ⟨oL, es, ep, hoL, hdL, _⟩ := id hm6
    exact (nfr _ oL hoL fun vs z => by rw [hdL] at z; cases z).symm
  have J7 := J6.track (a := a) (o := excO a C) n0 hn2 nL (fun y c ec => by
    obtain ⟨v, oc, hoc, hdc⟩ := J6.cell y c ec
    exact nfr c oc hoc fun vs z => by rw [hdc] at z; cases z) (fun p' hp' z => by
    obtain ⟨b1, b2, b3, b4, b5⟩ := I1.pin p' hp'
    have := bw.keep p'.1 p'.2 b1 b2 (fun zz => by
      rcases List.mem_cons.mp (I1.stkSub _ zz) with q | q
      · exact b3 q
      · exact b4 q)
    rw [z, nB] at this
    cases this) (excO_ok ⟨oe, e6, c6⟩)
  refine store_ok J7 nd hi (Or.inl hn) (v := .ref a) rfl (fun s7 J8 => ?_) (.inr hn)
  refine wpAny_mono (hs a pins s7 _ _ _ (J8.su (.ref a)) (q2 a hn2)) (fun fw s8 q8 => ?_) fun _ _ z => False.elim z
  cases fw with
  | next =>
    obtain ⟨σ', H', J9, q9⟩ := q8
    have J9' := J9.unsu I.ok
    obtain ⟨m9, hm9, _⟩ := id J9'.loc
    refine wpAny_nameGoes_keeps hn hm9 (by rw [I.ok.kind]; rfl) fun h' v hN hsb => ?_
    exact ⟨σ'.set i none, H', J9'.unbound nd hi hn hm9 hN hsb, q9⟩
  | ret u =>
    obtain ⟨_, _, _, _, _, z⟩ := q8
    exact False.elim z
  | brk =>
    obtain ⟨_, _, _, z⟩ := q8
    exact False.elim z
  | cont =>
    obtain ⟨_, _, _, z⟩ := q8
    exact False.elim z
end
end L2
namespace My
open PySem PySem.Spec PyProof.Rows L2
section
variable {X : Cx} {x : Str} {p cpos epos pos : Pos} {e : Expr} {es : List Expr} {t : TA} {k i : Nat} {ps : List Str} {sp : Sp}
theorem psx_fn (F : Fn X.prog X.w X.K X.mg X.base x ps k sp) (hr : Room k X.A) (hg : Gl X x) (ha : PA X.nox (e :: es) t)
    (hdb : (x == ("__debug__" : Str)) = false := by decide) (hst : starEach (e :: es) X.env = (false, eval e X.env) :: starEach es X.env := by rfl) (hpl : (backTo cpos (starEach es X.env)).any (·.1) = false := by rfl)
    (hsw : swapsWith (.Call (.Name x p) (e :: es) [] cpos) none epos.line X.env = pure false := by rfl) :
    PSx X [.Expr (.Call (.Name x p) (e :: es) [] cpos) epos] (fun E D σ H => t σ H fun vs H1 => sp vs H1 (fun _ H2 => D.nx σ H2) E) := by
  obtain ⟨f, fd, G, b, kp, m⟩ := F
  exact psx_call G b kp m hr hg ha hdb hst hpl hsw
theorem psx_setfn {y : Str} {py spos : Pos} (F : Fn X.prog X.w X.K X.mg X.base x ps k sp) (hr : Room k X.A) (hg : Gl X x) (ha : PA X.nox (e :: es) t) (nd : X.N.Nodup) (hi : X.N[i]? = some y) (hy : Loc X.env.scope y)
    (hdb : (x == ("__debug__" : Str)) = false := by decide) (hst : starEach (e :: es) X.env = (false, eval e X.env) :: starEach es X.env := by rfl) (hpl : (backTo cpos (starEach es X.env)).any (·.1) = false := by rfl)
    (hsw : swapsWith (.Call (.Name x p) (e :: es) [] cpos) (some (.Name y py)) spos.line X.env = pure false := by rfl) (hf : X.fn y = true ∨ X.env.scope.names.lookup y = some .local := by first | exact .inl rfl | exact .inr rfl | assumption) :
    PSx X [.Assign [.Name y py] (.Call (.Name x p) (e :: es) [] cpos) spos] (fun E D σ H => t σ H fun vs H1 => sp vs H1 (fun v H2 => D.nx (σ.set i (some v)) H2) E) := by
  obtain ⟨f, fd, G, b, kp, m⟩ := F
  exact psx_set G b kp m hr hg ha nd hi hy hdb hst hpl hsw hf
end
end My

set_option Elab.async false
set_option linter.all false
set_option maxRecDepth 100000
set_option maxHeartbeats 4000000
namespace L2
open PySem PySem.Spec PyProof.Rows
/-! ### < and <= of two lists of ints -/
def LO (le : Bool) (ns ms : List Int) : Bool := if le then !HT.lexLt ms ns else HT.lexLt ns ms
section
open PySem.SeqAt
open PySem.AutoSeq1 (wpAny_loadPart')
open PySem.MeetsSeq PySem.MeetsSeq2 PySem.MeetsSeq3
theorem LO_cons (le : Bool) (a c : Int) (xs ys : List Int) : LO le (a :: xs) (c :: ys) = if a = c then LO le xs ys else (if le then decide (a ≤ c) else decide (a < c)) := by
  unfold LO
  rw [HT.lexLt_cons, HT.lexLt_cons]
  cases le
  · simp only [Bool.false_eq_true, if_false]
  · simp only [if_true]
    by_cases h : a = c
    · rw [if_pos h, if_pos h.symm]
    · rw [if_neg h, if_neg (fun z => h z.symm)]
      by_cases h2 : c < a
      · rw [decide_eq_true h2, decide_eq_false (show ¬ a ≤ c by omega)]
        rfl
      · rw [decide_eq_false h2, decide_eq_true (show a ≤ c by omega)]
        rfl
theorem LO_end (le : Bool) (xs ys : List Int) (h : xs = [] ∨ ys = []) : LO le xs ys = if le then decide (xs.length ≤ ys.length) else decide (xs.length < ys.length) := by
  unfold LO
  cases le <;> cases xs <;> cases ys <;> simp_all [HT.lexLt]
theorem rcLe_int (A : Around) (s : Shared) (a : Int) (t : Tok) (c : Int) (u : Tok) (prog : Program) (w : World) (E : Value → Shared → Prop) (Q : Value → Shared → Prop) (h : Q (.bool (decide (a ≤ c))) s) :
    wpAny (model prog w) A (richCompare .LtE (.int a t) (.int c u)) Q E s :=
  (PyProof.Rows.le_int h : wpAny (model prog w) A (compareOp .LtE (.int a t) (.int c u)) Q E s)
theorem ord_loop0 (l b : Addr) (items items2 : Array Value) (n n2 : Nat) (dd dd2 : Option Addr) (sl sl2 : Array (Option Value)) (ns ms : List Int) (hi : IntsAre items.toList ns) (hj : IntsAre items2.toList ms) (k : Nat) :
    ∀ i : Nat, items.size - i = k → i ≤ items.size → i ≤ items2.size → Meets (Builtin.«list.__eq__.loop» ⟨[.ref l, .ref b, rawInt i, rawInt 0], []⟩)
      (fun A R s => s.heap.get? l = some { cls := .type "list", dict := dd, data := .seq items n, slots := sl } ∧ s.heap.get? b = some { cls := .type "list", dict := dd2, data := .seq items2 n2, slots := sl2 } ∧
        R (.ok (.ret (.bool (LO false (ns.drop i) (ms.drop i))))) s) := by
  have z1 : items.size = ns.length := by rw [← hi.length]; simp
  have z2 : items2.size = ms.length := by rw [← hj.length]; simp
  induction k with
  | zero =>
    intro i hk i1 i2 prog w A R s h
    obtain ⟨hp, g, d, tk, os⟩ := s; obtain ⟨hl, hb, h⟩ := h
    wp_walk using wpAny_loadPart' hl, wpAny_loadPart' hb
    have hi1 : items[((i : Nat) : Int).toNat]? = none := by simp; omega
    rw [hi1]
    rw [LO_end false _ _ (.inl (List.drop_eq_nil_of_le (by omega)))] at h
    have e : decide ((ns.drop i).length < (ms.drop i).length) = decide (items.size < items2.size) := by
      rw [List.length_drop, List.length_drop, z1, z2]
      congr 1
      rw [eq_iff_iff]
      omega
    simp only [Bool.false_eq_true, if_false] at h
    rw [e] at h
    wp_walk using wpAny_loadPart' hl, wpAny_loadPart' hb
    exact h
  | succ k ih =>
    intro i hk i1 i2 prog w A R s h
    obtain ⟨hp, g, d, tk, os⟩ := s; obtain ⟨hl, hb, h⟩ := h
    wp_walk using wpAny_loadPart' hl, wpAny_loadPart' hb
    have hlt : i < items.size := by omega
    have hi1 : items[((i : Nat) : Int).toNat]? = some items[i] := by simp [hlt]
    have hc : ((i : Int) + 1) = ((i + 1 : Nat) : Int) := by push_cast; rfl
    by_cases hlt2 : i < items2.size
    · have hi2 : items2[((i : Nat) : Int).toNat]? = some items2[i] := by simp [hlt2]
      obtain ⟨a, t, ea, na⟩ := hi.at i items[i] (by simp [hlt])
      obtain ⟨c, u, ec, nc⟩ := hj.at i items2[i] (by simp [hlt2])
      have d1 : ns.drop i = a :: ns.drop (i + 1) := by
        obtain ⟨h1, h2⟩ := List.getElem?_eq_some_iff.mp na
        rw [List.drop_eq_getElem_cons h1, h2]
      have d2 : ms.drop i = c :: ms.drop (i + 1) := by
        obtain ⟨h1, h2⟩ := List.getElem?_eq_some_iff.mp nc
        rw [List.drop_eq_getElem_cons h1, h2]
      rw [d1, d2, LO_cons] at h
      rw [hi1, hi2, ea, ec]
      obtain ⟨e, he, hiff⟩ := HT.eqAt_int A.in1 ⟨hp, g, d, tk, os⟩ a t c u
      refine wpAny_bind (he prog w _ _ ?_)
      cases e with
      | true =>
        rw [if_pos (hiff.mp rfl)] at h
        wp_walk
        rw [hc]
        exact ⟨plainId_quiet plain_eq_loop _, codeAny_builtin entry_eq_loop (by
          rw [Around.under_plainId plain_eq_loop _]
          exact ih (i + 1) (by omega) (by omega) (by omega) prog w A R _ ⟨hl, hb, h⟩)⟩
      | false =>
        rw [if_neg (fun q => absurd (hiff.mpr q) Bool.false_ne_true)] at h
        wp_walk using wpAny_loadPart' hl, wpAny_loadPart' hb
        rw [hi1, hi2, ea, ec]
        have hri := HT.rcLt_int A.in1 ⟨hp, g, d, tk, os⟩ a t c u prog w
        simp only [Bool.false_eq_true, if_false] at h
        wp_walk using hri
        exact h
    · have hi2 : items2[((i : Nat) : Int).toNat]? = none := by simp; omega
      rw [hi1, hi2]
      rw [LO_end false _ _ (.inr (List.drop_eq_nil_of_le (by omega)))] at h
      have e : decide ((ns.drop i).length < (ms.drop i).length) = decide (items.size < items2.size) := by
        rw [List.length_drop, List.length_drop, z1, z2]
        congr 1
        rw [eq_iff_iff]
        omega
      simp only [Bool.false_eq_true, if_false] at h
      rw [e] at h
      wp_walk using wpAny_loadPart' hl, wpAny_loadPart' hb
      exact h
theorem list_lt_ints (l b : Addr) (items items2 : Array Value) (n n2 : Nat) (dd dd2 : Option Addr) (sl sl2 : Array (Option Value)) (ns ms : List Int) (hi : IntsAre items.toList ns) (hj : IntsAre items2.toList ms) :
    Meets (Builtin.«list.__lt__» ⟨[.ref l, .ref b], []⟩)
      (fun A R s => s.heap.get? l = some { cls := .type "list", dict := dd, data := .seq items n, slots := sl } ∧ s.heap.get? b = some { cls := .type "list", dict := dd2, data := .seq items2 n2, slots := sl2 } ∧
        R (.ok (.ret (.bool (LO false ns ms)))) s) := by
  intro prog w A R s h
  obtain ⟨hp, g, d, tk, os⟩ := s; obtain ⟨hl, hb, h⟩ := h
  have f3 := AutoSeq1.sub_list_list
  wp_walk using wpAny_loadPart' hl, wpAny_loadPart' hb
  exact ⟨plainId_quiet plain_eq_loop _, codeAny_builtin entry_eq_loop (by
    rw [Around.under_plainId plain_eq_loop _]
    exact ord_loop0 l b items items2 n n2 dd dd2 sl sl2 ns ms hi hj _ 0 rfl (Nat.zero_le _) (Nat.zero_le _) prog w A R _ ⟨hl, hb, h⟩)⟩
theorem ord_loop1 (l b : Addr) (items items2 : Array Value) (n n2 : Nat) (dd dd2 : Option Addr) (sl sl2 : Array (Option Value)) (ns ms : List Int) (hi : IntsAre items.toList ns) (hj : IntsAre items2.toList ms) (k : Nat) :
    ∀ i : Nat, items.size - i = k → i ≤ items.size → i ≤ items2.size → Meets (Builtin.«list.__eq__.loop» ⟨[.ref l, .ref b, rawInt i, rawInt 1], []⟩)
      (fun A R s => s.heap.get? l = some { cls := .type "list", dict := dd, data := .seq items n, slots := sl } ∧ s.heap.get? b = some { cls := .type "list", dict := dd2, data := .seq items2 n2, slots := sl2 } ∧
        R (.ok (.ret (.bool (LO true (ns.drop i) (ms.drop i))))) s) := by
  have z1 : items.size = ns.length := by rw [← hi.length]; simp
  have z2 : items2.size = ms.length := by rw [← hj.length]; simp
  induction k with
  | zero =>
    intro i hk i1 i2 prog w A R s h
    obtain ⟨hp, g, d, tk, os⟩ := s; obtain ⟨hl, hb, h⟩ := h
    wp_walk using wpAny_loadPart' hl, wpAny_loadPart' hb
    have hi1 : items[((i : Nat) : Int).toNat]? = none := by simp; omega
    rw [hi1]
    rw [LO_end true _ _ (.inl (List.drop_eq_nil_of_le (by omega)))] at h
    have e : decide ((ns.drop i).length ≤ (ms.drop i).length) = decide (items.size ≤ items2.size) := by
      rw [List.length_drop, List.length_drop, z1, z2]
      congr 1
      rw [eq_iff_iff]
      omega
    simp only [if_true] at h
    rw [e] at h
    wp_walk using wpAny_loadPart' hl, wpAny_loadPart' hb
    exact h
  | succ k ih =>
    intro i hk i1 i2 prog w A R s h
    obtain ⟨hp, g, d, tk, os⟩ := s; obtain ⟨hl, hb, h⟩ := h
    wp_walk using wpAny_loadPart' hl, wpAny_loadPart' hb
    have hlt : i < items.size := by omega
    have hi1 : items[((i : Nat) : Int).toNat]? = some items[i] := by simp [hlt]
    have hc : ((i : Int) + 1) = ((i + 1 : Nat) : Int) := by push_cast; rfl
    by_cases hlt2 : i < items2.size
    · have hi2 : items2[((i : Nat) : Int).toNat]? = some items2[i] := by simp [hlt2]
      obtain ⟨a, t, ea, na⟩ := hi.at i items[i] (by simp [hlt])
      obtain ⟨c, u, ec, nc⟩ := hj.at i items2[i] (by simp [hlt2])
      have d1 : ns.drop i = a :: ns.drop (i + 1) := by
        obtain ⟨h1, h2⟩ := List.getElem?_eq_some_iff.mp na
        rw [List.drop_eq_getElem_cons h1, h2]
      have d2 : ms.drop i = c :: ms.drop (i + 1) := by
        obtain ⟨h1, h2⟩ := List.getElem?_eq_some_iff.mp nc
        rw [List.drop_eq_getElem_cons h1, h2]
      rw [d1, d2, LO_cons] at h
      rw [hi1, hi2, ea, ec]
      obtain ⟨e, he, hiff⟩ := HT.eqAt_int A.in1 ⟨hp, g, d, tk, os⟩ a t c u
      refine wpAny_bind (he prog w _ _ ?_)
      cases e with
      | true =>
        rw [if_pos (hiff.mp rfl)] at h
        wp_walk
        rw [hc]
        exact ⟨plainId_quiet plain_eq_loop _, codeAny_builtin entry_eq_loop (by
          rw [Around.under_plainId plain_eq_loop _]
          exact ih (i + 1) (by omega) (by omega) (by omega) prog w A R _ ⟨hl, hb, h⟩)⟩
      | false =>
        rw [if_neg (fun q => absurd (hiff.mpr q) Bool.false_ne_true)] at h
        wp_walk using wpAny_loadPart' hl, wpAny_loadPart' hb
        rw [hi1, hi2, ea, ec]
        have hri := rcLe_int A.in1 ⟨hp, g, d, tk, os⟩ a t c u prog w
        simp only [if_true] at h
        wp_walk using hri
        exact h
    · have hi2 : items2[((i : Nat) : Int).toNat]? = none := by simp; omega
      rw [hi1, hi2]
      rw [LO_end true _ _ (.inr (List.drop_eq_nil_of_le (by omega)))] at h
      have e : decide ((ns.drop i).length ≤ (ms.drop i).length) = decide (items.size ≤ items2.size) := by
        rw [List.length_drop, List.length_drop, z1, z2]
        congr 1
        rw [eq_iff_iff]
        omega
      simp only [if_true] at h
      rw [e] at h
      wp_walk using wpAny_loadPart' hl, wpAny_loadPart' hb
      exact h
theorem list_le_ints (l b : Addr) (items items2 : Array Value) (n n2 : Nat) (dd dd2 : Option Addr) (sl sl2 : Array (Option Value)) (ns ms : List Int) (hi : IntsAre items.toList ns) (hj : IntsAre items2.toList ms) :
    Meets (Builtin.«list.__le__» ⟨[.ref l, .ref b], []⟩)
      (fun A R s => s.heap.get? l = some { cls := .type "list", dict := dd, data := .seq items n, slots := sl } ∧ s.heap.get? b = some { cls := .type "list", dict := dd2, data := .seq items2 n2, slots := sl2 } ∧
        R (.ok (.ret (.bool (LO true ns ms)))) s) := by
  intro prog w A R s h
  obtain ⟨hp, g, d, tk, os⟩ := s; obtain ⟨hl, hb, h⟩ := h
  have f3 := AutoSeq1.sub_list_list
  wp_walk using wpAny_loadPart' hl, wpAny_loadPart' hb
  exact ⟨plainId_quiet plain_eq_loop _, codeAny_builtin entry_eq_loop (by
    rw [Around.under_plainId plain_eq_loop _]
    exact ord_loop1 l b items items2 n n2 dd dd2 sl sl2 ns ms hi hj _ 0 rfl (Nat.zero_le _) (Nat.zero_le _) prog w A R _ ⟨hl, hb, h⟩)⟩
end
section
variable {X : Cx}
def rOrdL (K : PySem.W.Frag) (le : Bool) : R2 := fun x y H Q => ∃ (a b : Addr) (ns ms : List Int), x = .ref a ∧ y = .ref b ∧ SqL K H a (ns.map V.int) ∧ SqL K H b (ms.map V.int) ∧ Q (.bl (LO le ns ms)) H
theorem op_ltL (hu : X.A.units + 64 < cLine) : OpR X (compareOp .Lt) (rOrdL X.K false) := by
  intro pins s σ H x y v u Q I rx ry h
  obtain ⟨a, b, ns, ms, rfl, rfl, ha, hb, q⟩ := h
  cases rx
  cases ry
  obtain ⟨i1, r1, p1, _⟩ := I.list ha
  obtain ⟨i2, r2, p2, _⟩ := I.list hb
  obtain ⟨⟨cls, dd, data, sl⟩, ho, hc, n, hd⟩ := p1.isList
  obtain ⟨⟨cls2, dd2, data2, sl2⟩, ho2, hc2, n2, hd2⟩ := p2.isList
  simp only at hc hd hc2 hd2
  subst hc hd hc2 hd2
  exact richCompare_meets_room (op := .Lt) ⟨_, ho, rfl⟩ ⟨_, ho2, rfl⟩ PySem.F.slot_list_lt PySem.F.entry_list_lt (PySem.F.args_list_lt_2 _ _) (list_lt_ints a b i1.toArray i2.toArray n n2 dd dd2 sl sl2 ns ms (intsAre_of r1) (intsAre_of r2))
    ⟨ho, ho2, show Value.bool (LO false ns ms) ≠ Value.notImplemented ∧ _ from ⟨(fun x => nomatch x), ⟨.bl _, H, I, rfl, q⟩⟩⟩ (by omega)
theorem op_leL (hu : X.A.units + 64 < cLine) : OpR X (compareOp .LtE) (rOrdL X.K true) := by
  intro pins s σ H x y v u Q I rx ry h
  obtain ⟨a, b, ns, ms, rfl, rfl, ha, hb, q⟩ := h
  cases rx
  cases ry
  obtain ⟨i1, r1, p1, _⟩ := I.list ha
  obtain ⟨i2, r2, p2, _⟩ := I.list hb
  obtain ⟨⟨cls, dd, data, sl⟩, ho, hc, n, hd⟩ := p1.isList
  obtain ⟨⟨cls2, dd2, data2, sl2⟩, ho2, hc2, n2, hd2⟩ := p2.isList
  simp only at hc hd hc2 hd2
  subst hc hd hc2 hd2
  exact richCompare_meets_room (op := .LtE) ⟨_, ho, rfl⟩ ⟨_, ho2, rfl⟩ PySem.F.slot_list_le PySem.F.entry_list_le (PySem.F.args_list_le_2 _ _) (list_le_ints a b i1.toArray i2.toArray n n2 dd dd2 sl sl2 ns ms (intsAre_of r1) (intsAre_of r2))
    ⟨ho, ho2, show Value.bool (LO true ns ms) ≠ Value.notImplemented ∧ _ from ⟨(fun x => nomatch x), ⟨.bl _, H, I, rfl, q⟩⟩⟩ (by omega)
end
end L2
namespace My
open L2
theorem lexLt_HT : ∀ xs ys : List Int, lexLt xs ys = HT.lexLt xs ys
  | [], [] => rfl
  | [], _ :: _ => rfl
  | _ :: _, [] => rfl
  | x :: r, y :: s => by
    rw [lexLt, HT.lexLt_cons, lexLt_HT r s]
    by_cases h : x = y
    · rw [if_pos h, decide_eq_false (show ¬ x < y by omega), decide_eq_true h]
      simp
    · rw [if_neg h, decide_eq_false h]
      simp
end My

set_option Elab.async false
set_option linter.all false
set_option maxRecDepth 100000
set_option maxHeartbeats 4000000
namespace L2
open PySem PySem.Spec PyProof.Rows
/-! ### texts: sign by sign, join, count -/
theorem strsAre_of : ∀ {ys : List Str} {its : List Value}, Vals (ys.map V.str) its → StrsAre its ys
  | [], _, r => by
    rw [List.map_nil] at r
    cases r
    exact .nil
  | y :: ys, _, r => by
    rw [List.map_cons] at r
    cases r with
    | cons r1 r2 =>
      obtain ⟨t, rfl⟩ := r1
      exact .cons y t (strsAre_of r2)
section
variable {X : Cx}
def rJoin (K : PySem.W.Frag) : V → List V → Hp → VK → Prop := fun x vs H Q => ∃ (sep : Str) (a : Addr) (ys : List Str), x = .str sep ∧ vs = [.ref a] ∧ SqL K H a (ys.map V.str) ∧ (ys.map (·.length)).sum + ys.length * sep.length ≤ 16777216 ∧ Q (.str (Txt.join sep ys)) H
theorem mt_str_join : MtR X "str.join" (rJoin X.K) := by
  intro pins s σ H x xs v us Q I rx rs h
  obtain ⟨sep, a, ys, rfl, rfl, hq, hz, q⟩ := h
  obtain ⟨t, rfl⟩ := rx
  obtain ⟨u, rfl, ru⟩ := vals1 rs
  cases ru
  obtain ⟨its, r, pl, _⟩ := I.list hq
  exact join_list pl.isList (by simpa using strsAre_of r) hz fun t' k => ⟨.str _, H, I.tok k, ⟨t', rfl⟩, q⟩
def rCountS : V → List V → Hp → VK → Prop := fun x vs H Q => ∃ z y : Str, x = .str z ∧ vs = [.str y] ∧ Q (.int (Txt.count z y)) H
theorem mt_str_count : MtR X "str.count" rCountS := by
  intro pins s σ H x xs v us Q I rx rs h
  obtain ⟨z, y, rfl, rfl, q⟩ := h
  obtain ⟨t, rfl⟩ := rx
  obtain ⟨u, rfl, ru⟩ := vals1 rs
  obtain ⟨t', rfl⟩ := ru
  exact SC.count ⟨.int _, H, I.tok _, ⟨_, rfl⟩, q⟩
end
def Its (z : Str) : It := ⟨fun i _ => i < z.cps.size, fun i H x H' => H' = H ∧ ∃ c, z.cps[i]? = some c ∧ x = .str ⟨#[c]⟩, fun i _ => i = z.cps.size⟩
theorem go_str {M : Model} {A : Around} {E : Value → Shared → Prop} {s : Shared} {tg : Expr} {it : Addr} {y : Str} {u : Tok} {Q : Unit → Shared → Prop} (hQ : Q () s) : wpAny M A (letOwnedTupleGo tg (.ref it) (.str y u)) Q E s := by
  unfold letOwnedTupleGo
  cases tg <;> exact wpAny_pure hQ
theorem turn_str {P : Program} {w : World} {K : PySem.W.Frag} {tg : Expr} {n : String} (z : Str) (t : Tok) (it : Addr) (W : ∀ A' : Around, A'.handled = none → Walks P w A' it [it] [it] z.cps.size (SignAt z) (fun i h => h.IsStrIter it n z t i))
    (hself : ∀ (A : Around) (i : Nat) (s : Shared) (Q : Value → Shared → Prop) (E : Value → Shared → Prop), s.heap.IsStrIter it n z t i → Q (.ref it) s → wpAny (model P w) A (pyIter (.ref it)) Q E s) :
    Turn P w K tg (Its z) [it] it (fun i h => h.IsStrIter it n z t i) where
  mem := by simp
  obj := fun i h st b hb => by
    have e : b = it := by simpa using hb
    subst e
    obtain ⟨o, e, c, d⟩ := st
    exact ⟨o, e, fun v z => by rw [d] at z; cases z⟩
  keep := fun i h h' st k => by
    obtain ⟨o, e, r⟩ := st
    exact ⟨o, k it (by simp) o e, r⟩
  item := by
    intro X hP hw hK hc i pins s σ H E I hf st hg
    subst hP hw hK
    obtain ⟨f0, f1, f2, f3, f4, f5⟩ := hf it (by simp)
    refine (W X.A (I.ok.hd hc)).item i s _ _ hg st fun v h' tk hv st' kk => ?_
    obtain ⟨c, u, hc', rfl⟩ := hv
    have I1 : Inv X pins σ H { s with heap := h', toks := tk } := I.turned (fun b o hb e => kk b o (by simpa using hb) e) f0 f1 f3 f4 f5
    exact ⟨_, rfl, go_str ⟨.str ⟨#[c]⟩, H, I1, ⟨u, rfl⟩, ⟨rfl, c, hc', rfl⟩, st', fun b hb => (hf b hb).1⟩⟩
  done := by
    intro X hP hw hK hc i pins s σ H E I hf st hg
    subst hP hw hK
    obtain ⟨f0, f1, f2, f3, f4, f5⟩ := hf it (by simp)
    have hi : i = z.cps.size := hg
    subst hi
    exact (W X.A (I.ok.hd hc)).done s _ _ st fun h' tk eb => ⟨rfl, I.turned (t' := tk) (fun b o hb e => eb b o (by simpa using hb) e) f0 f1 f3 f4 f5⟩
  self := fun A i s Q E st h => hself A i s Q E st h
section
variable {X : Cx} {tg : Expr}
def iStr (tl : TE) : TI := fun σ H R => tl σ H fun x H1 => ∃ z : Str, x = .str z ∧ R (Its z) H1
theorem pi_str {l : Expr} {tl : TE} (hl : PE X l tl) : PI X tg l (iStr tl) := by
  intro pins s σ H R I h
  refine thn (hl pins s σ H _ I h) fun v s1 ⟨x, H1, I1, r1, q1⟩ => ?_
  obtain ⟨z, rfl, q⟩ := q1
  obtain ⟨t, rfl⟩ := r1
  have fp : ∀ b ∈ [s1.heap.objs.size], FpOk X pins H1 b := fun b hb => by
    have e : b = s1.heap.objs.size := by simpa using hb
    subst e
    exact I1.fpOk (Nat.le_refl _) (I1.hok.fresh (Nat.le_refl _))
  cases ha : z.cps.all (· < 128)
  · refine wpAny_pyIter_wide ha ?_
    exact ⟨s1.heap.objs.size, [s1.heap.objs.size], _, _, H1, rfl, I1.kept (t' := s1.toks) fun b o e => Heap.get?_push_of_some _ e, turn_str z t _ (fun A' hA => Walks.strWide hA _ z t) (fun _ _ _ _ _ st h => wpAny_pyIter_striter_wide st h), ⟨_, Heap.get?_push_size _ rfl, rfl, rfl⟩, fp, q⟩
  · refine wpAny_pyIter_ascii ha ?_
    exact ⟨s1.heap.objs.size, [s1.heap.objs.size], _, _, H1, rfl, I1.kept (t' := s1.toks) fun b o e => Heap.get?_push_of_some _ e, turn_str z t _ (fun A' hA => Walks.strAscii hA _ z t) (fun _ _ _ _ _ st h => wpAny_pyIter_striter_ascii st h), ⟨_, Heap.get?_push_size _ rfl, rfl, rfl⟩, fp, q⟩
end
theorem for_str {z : Str} {g : TG} {tb : TS} {D : Ends} {σ : St} {H : Hp} (Pv : Nat → St → Hp → Prop) (h0 : Pv 0 σ H)
    (hs : ∀ i c σ H, z.cps[i]? = some c → Pv i σ H → g (.str ⟨#[c]⟩) σ H fun σ2 H2 => tb { D with nx := Pv (i + 1), ct := Pv (i + 1), bk := D.nx } σ2 H2) (hd : ∀ σ H, Pv z.cps.size σ H → D.nx σ H) :
    ∃ W : Nat → Nat → St → Hp → Prop, (∃ m, W 0 m σ H) ∧ ∀ i m σ H, W i m σ H →
      ((Its z).stop i H ∧ D.nx σ H) ∨ ((Its z).go i H ∧ ∃ N : St → Hp → Prop, (∀ σ' H', N σ' H' → ∃ m', m' < m ∧ W (i + 1) m' σ' H') ∧ ∀ x H', (Its z).yld i H x H' → g x σ H' fun σ2 H2 => tb { D with nx := N, ct := N, bk := D.nx } σ2 H2) := by
  refine ⟨fun i m σ H => m = z.cps.size - i ∧ i ≤ z.cps.size ∧ Pv i σ H, ⟨z.cps.size, by simp, Nat.zero_le _, h0⟩, ?_⟩
  rintro i m σ H ⟨rfl, hi, p⟩
  by_cases hlt : i < z.cps.size
  · refine .inr ⟨hlt, Pv (i + 1), fun σ' H' p' => ⟨z.cps.size - (i + 1), by omega, rfl, hlt, p'⟩, fun x H' y => ?_⟩
    obtain ⟨e, c, hc, rfl⟩ := y
    subst e
    exact hs i c σ _ hc p
  · have e : i = z.cps.size := by omega
    subst e
    exact .inl ⟨rfl, hd σ H p⟩
end L2
namespace My
open PySem PySem.Spec PyProof.Rows L2
/-! ### groves as texts -/
def tx (l : List Nat) : Str := ⟨l.toArray⟩
theorem tx_app (a b : List Nat) : tx a ++ tx b = tx (a ++ b) := by
  show Str.append (tx a) (tx b) = _
  unfold tx Str.append
  simp
theorem tx_len (a : List Nat) : (tx a).length = a.length := by
  show (tx a).cps.size = _
  unfold tx
  simp
theorem tx_open : (PySem.Str.ofString "(") = tx [40] := by decide +kernel
theorem tx_close : (PySem.Str.ofString ")") = tx [41] := by decide +kernel
theorem tx_none : (PySem.Str.ofString "") = tx [] := by decide +kernel
theorem tx_inj {a b : List Nat} (h : tx a = tx b) : a = b := by
  unfold tx at h
  injection h with h
  simpa using h
def txtG : Gr → List Nat
  | .nil => []
  | .cons b r => 40 :: (txtG b ++ 41 :: txtG r)
theorem txtG_len : ∀ g : Gr, (txtG g).length = 2 * g.size
  | .nil => rfl
  | .cons b r => by
    rw [txtG, List.length_cons, List.length_append, List.length_cons, txtG_len b, txtG_len r, Gr.size]
    omega
theorem txtG_app : ∀ a b : Gr, txtG (a.app b) = txtG a ++ txtG b
  | .nil, _ => rfl
  | .cons x r, b => by
    simp only [Gr.app, txtG, List.cons_append, List.append_assoc]
    rw [txtG_app r b]
/-- two groves with the same text are the same -/
theorem txtG_inj' : ∀ (g g' : Gr) (r r' : List Nat), (r = [] ∨ ∃ q, r = 41 :: q) → (r' = [] ∨ ∃ q, r' = 41 :: q) → txtG g ++ r = txtG g' ++ r' → g = g' ∧ r = r'
  | .nil, .nil, r, r', _, _, h => ⟨rfl, h⟩
  | .nil, .cons b q, r, r', h1, _, h => by
    simp only [txtG, List.nil_append, List.cons_append] at h
    rcases h1 with h1 | ⟨z, h1⟩ <;> rw [h1] at h <;> cases h
  | .cons b q, .nil, r, r', _, h2, h => by
    simp only [txtG, List.nil_append, List.cons_append] at h
    rcases h2 with h2 | ⟨z, h2⟩ <;> rw [h2] at h <;> cases h
  | .cons b q, .cons b' q', r, r', h1, h2, h => by
    simp only [txtG, List.cons_append, List.append_assoc, List.cons.injEq, true_and] at h
    obtain ⟨e1, e2⟩ := txtG_inj' b b' _ _ (.inr ⟨_, rfl⟩) (.inr ⟨_, rfl⟩) h
    simp only [List.cons.injEq, true_and] at e2
    obtain ⟨e3, e4⟩ := txtG_inj' q q' _ _ h1 h2 e2
    exact ⟨by rw [e1, e3], e4⟩
theorem txtG_inj {g g' : Gr} (h : txtG g = txtG g') : g = g' := (txtG_inj' g g' [] [] (.inl rfl) (.inl rfl) (by rw [h])).1
theorem At.text {g b : Gr} {i : Nat} (h : At g b i) : txtG (g.take (i + 1)) = txtG (g.take i) ++ (40 :: (txtG b ++ [41])) := by
  rw [h.next, txtG_app]
  simp only [txtG]
theorem join_tx : ∀ ls : List (List Nat), Txt.join (tx []) (ls.map tx) = tx ls.flatten := by
  intro ls
  have key : ∀ ls : List (List Nat), Str.join (tx []) (ls.map tx) = tx ls.flatten := by
    intro ls
    induction ls with
    | nil => rfl
    | cons a r ih =>
      cases r with
      | nil =>
        show tx a = _
        simp
      | cons b q =>
        show tx a ++ tx [] ++ Str.join (tx []) ((b :: q).map tx) = _
        rw [ih, tx_app, tx_app]
        simp
  have e : (Txt.join (tx []) (ls.map tx) == Str.join (tx []) (ls.map tx)) = true := join_closes rfl
  rw [eq_of_beq e, key]
end My

set_option Elab.async false
set_option linter.all false
set_option maxRecDepth 100000
set_option maxHeartbeats 4000000
namespace L2
open PySem PySem.Spec PyProof.Rows
/-! ### slices of texts, a text taken n times -/
section
variable {X : Cx}
def rSlS : V → Option Int → Option Int → Hp → VK → Prop := fun x lo hi H Q => ∃ z : Str, x = .str z ∧ z.length ≤ sizeLine ∧ Q (.str (Txt.slice z lo hi)) H
theorem sl_str : SlR X rSlS := by
  intro pins s σ H x v vl vu lo hi sl Q I rx hs pl pu h
  obtain ⟨z, rfl, hz, q⟩ := h
  obtain ⟨t, rfl⟩ := rx
  refine ⟨"str", _, PySem.F.slot_str_getitem.lookup, typeIs_str _ _ _, ?_⟩
  cases pl with
  | none =>
    cases pu with
    | none => exact wpAny_getItem_str_slice (l := none) (u := none) (st := none) hs rfl (post_val_or_str ⟨Nat.le_trans (Txt.slice_le z _ _) hz, fun t' k => ⟨.str _, H, I.tok k, ⟨t', rfl⟩, q⟩⟩)
    | int j uj => exact wpAny_getItem_str_slice (l := none) (u := some (j, uj)) (st := none) hs rfl (post_val_or_str ⟨Nat.le_trans (Txt.slice_le z _ _) hz, fun t' k => ⟨.str _, H, I.tok k, ⟨t', rfl⟩, q⟩⟩)
  | int i ui =>
    cases pu with
    | none => exact wpAny_getItem_str_slice (l := some (i, ui)) (u := none) (st := none) hs rfl (post_val_or_str ⟨Nat.le_trans (Txt.slice_le z _ _) hz, fun t' k => ⟨.str _, H, I.tok k, ⟨t', rfl⟩, q⟩⟩)
    | int j uj => exact wpAny_getItem_str_slice (l := some (i, ui)) (u := some (j, uj)) (st := none) hs rfl (post_val_or_str ⟨Nat.le_trans (Txt.slice_le z _ _) hz, fun t' k => ⟨.str _, H, I.tok k, ⟨t', rfl⟩, q⟩⟩)
theorem rev_le (n : Nat) : (Builtin.Str.strSliceIndices none none (-1) n).length ≤ n := by
  unfold Builtin.Str.strSliceIndices sliceRange
  simp only [show ¬ ((-1 : Int) > 0) by decide, if_false, List.length_map, List.length_range]
  split <;> (try simp only [Int.neg_neg, Int.ediv_one]) <;> omega
/-- e[::-1] of a text: another text, no longer -/
def tRevS (te ts : TE) : TE := fun σ H Q => te σ H fun x H1 => ts σ H1 fun k H2 => k = .int (-1) ∧ ∃ z : Str, x = .str z ∧ z.length ≤ sizeLine ∧ ∀ y : Str, y.length ≤ z.length → Q (.str y) H2
theorem pe_revS {e st : Expr} {te ts : TE} {p2 pos : Pos} (he : PE X e te) (hst : PE X st ts) : PE X (.Subscript e (.Slice none none (some st) p2) pos) (tRevS te ts) := by
  intro pins s σ H Q I h
  refine Subscript_ (thn (he pins s σ H _ I h) fun v s1 ⟨x, H1, I1, r1, q1⟩ => ?_)
  refine wpAny_Slice ?_
  rw [evalPart_none, evalPart_some]
  refine wpAny_pure (wpAny_pure (thn (hst pins s1 σ H1 _ I1 q1) fun vk s3 ⟨k, H3, I3, rk, q3⟩ => ?_))
  obtain ⟨rfl, z, rfl, hz, q⟩ := q3
  obtain ⟨t, rfl⟩ := rk
  obtain ⟨t1, rfl⟩ := r1
  have I4 : Inv X pins σ H3 { s3 with heap := s3.heap.push { cls := .type "slice", data := .fields #[.none, .none, .int (-1) t] } } := I3.kept (t' := s3.toks) fun b ob q => Heap.get?_push_of_some _ q
  show wpAny (model X.prog X.w) X.A (subscriptTail e (.Slice none none (some st) p2) (.str z t1) (.ref s3.heap.objs.size)) (EP X pins σ Q) X.xe { s3 with heap := s3.heap.push { cls := .type "slice", data := .fields #[.none, .none, .int (-1) t] } }
  refine tail_any (ops := [.ref s3.heap.objs.size, .str z t1]) (typeIs_str _ _ _) PySem.F.slot_str_getitem.lookup (wpAny_getItem_str_slice (l := none) (u := none) (st := some (-1, t)) ⟨_, Heap.get?_push_size _ rfl, rfl, rfl⟩ rfl ?_) (by with_unfolding_all rfl)
  have hl : (⟨((Builtin.Str.strSliceIndices none none (-1) z.length).filterMap (z.cps[·]?)).toArray⟩ : Str).length ≤ z.length := by
    show (List.filterMap _ (Builtin.Str.strSliceIndices none none (-1) z.length)).toArray.size ≤ z.length
    rw [List.size_toArray]
    exact Nat.le_trans (List.length_filterMap_le _ _) (rev_le z.length)
  exact ⟨Nat.le_trans hl hz, .str _, H3, I4.tok _, ⟨_, rfl⟩, q _ hl⟩
def rMulS : R2 := fun x y H Q => ∃ (z : Str) (n : Int), x = .str z ∧ y = .int n ∧ 2 ≤ n ∧ n ≤ 1000 ∧ 0 < z.length ∧ z.length ≤ 1000 ∧ Q (.str (Txt.mul z n)) H
theorem op_mulS : OpR X (binaryOp .Mult) rMulS := by
  intro pins s σ H x y v u Q I rx ry h
  obtain ⟨z, n, rfl, rfl, n0, n1, z0, z1, q⟩ := h
  obtain ⟨t, rfl⟩ := rx
  obtain ⟨t', rfl⟩ := ry
  have hs : sizeLine = 16777216 := sizeLine_eq
  have hm : z.length * n.toNat ≤ 1000 * 1000 := Nat.mul_le_mul z1 (by omega)
  refine SB.mul ⟨?_, fun _ _ => ?_, fun _ _ => ?_⟩ fun t' k => ⟨.str _, H, I.tok k, ⟨t', rfl⟩, ?_⟩
  · rw [decide_eq_false (by omega), decide_eq_false (by omega)]
    rfl
  · have : (1000 : Int) ≤ (2 ^ 63 - 1) / n := by
      rw [Int.le_ediv_iff_mul_le (by omega)]
      omega
    omega
  · unfold Builtin.Str.tooLong
    simp only [decide_eq_false_iff_not]
    omega
  · exact q
end
end L2
namespace My
open PySem PySem.Spec PyProof.Rows L2
/-! ### brackets, read one by one -/
def walkB (k : Nat) : List Nat → Option Nat
  | [] => some k
  | c :: r => if c = 40 then walkB (k + 1) r else if c = 41 then (if k = 0 then none else walkB (k - 1) r) else none
theorem walkB_txt : ∀ (g : Gr) (k : Nat) (r : List Nat), walkB k (txtG g ++ r) = walkB k r
  | .nil, _, _ => rfl
  | .cons b q, k, r => by
    simp only [txtG, List.cons_append, List.append_assoc]
    rw [walkB, if_pos rfl, walkB_txt b, walkB, if_neg (by decide), if_pos rfl, if_neg (by omega), Nat.add_sub_cancel, walkB_txt q]
/-- the text so far, by the groves that stand open -/
def stk : List Gr → List Nat
  | [] => []
  | [g] => txtG g
  | g :: g' :: r => txtG g ++ 40 :: stk (g' :: r)
theorem stk_snoc : ∀ (gs : List Gr) (g x : Gr), stk (gs ++ [g, x]) = stk (gs ++ [g]) ++ 40 :: txtG x
  | [], g, x => rfl
  | [a], g, x => by
    show txtG a ++ 40 :: (txtG g ++ 40 :: txtG x) = (txtG a ++ 40 :: txtG g) ++ 40 :: txtG x
    simp
  | a :: b :: r, g, x => by
    have ih := stk_snoc (b :: r) g x
    show txtG a ++ 40 :: stk (b :: r ++ [g, x]) = (txtG a ++ 40 :: stk (b :: r ++ [g])) ++ 40 :: txtG x
    rw [ih]
    simp
theorem stk_last : ∀ (gs : List Gr) (g x : Gr), stk (gs ++ [g.app x]) = stk (gs ++ [g]) ++ txtG x
  | [], g, x => txtG_app g x
  | [a], g, x => by
    show txtG a ++ 40 :: txtG (g.app x) = (txtG a ++ 40 :: txtG g) ++ txtG x
    rw [txtG_app]
    simp
  | a :: b :: r, g, x => by
    have ih := stk_last (b :: r) g x
    show txtG a ++ 40 :: stk (b :: r ++ [g.app x]) = (txtG a ++ 40 :: stk (b :: r ++ [g])) ++ txtG x
    rw [ih]
    simp
theorem walkB_stk : ∀ (gs : List Gr) (g : Gr) (k : Nat) (r : List Nat), walkB k (stk (gs ++ [g]) ++ r) = walkB (k + gs.length) r
  | [], g, k, r => walkB_txt g k r
  | [a], g, k, r => by
    show walkB k ((txtG a ++ 40 :: txtG g) ++ r) = _
    rw [List.append_assoc, walkB_txt, List.cons_append, walkB, if_pos rfl, walkB_txt]
    rfl
  | a :: b :: q, g, k, r => by
    have ih := walkB_stk (b :: q) g (k + 1) r
    show walkB k ((txtG a ++ 40 :: stk (b :: q ++ [g])) ++ r) = _
    rw [List.append_assoc, walkB_txt, List.cons_append, walkB, if_pos rfl, ih]
    congr 1
    simp only [List.length_cons]
    omega
theorem txtG_count : ∀ g : Gr, (txtG g).count 40 = g.size
  | .nil => rfl
  | .cons b r => by
    simp only [txtG, List.count_cons, List.count_append, Gr.size]
    rw [txtG_count b, txtG_count r]
    simp
theorem cnt_count (c : Nat) : ∀ l : List Nat, PyProof.Rows.cnt c l = (l.count c : Int)
  | [] => rfl
  | n :: r => by
    rw [cnt_cons, cnt_count c r, List.count_cons]
    by_cases h : n = c
    · rw [if_pos h, if_pos (by simpa using h)]
      omega
    · rw [if_neg h, if_neg (by simpa using h)]
      omega
theorem tx_list (z : Str) : tx z.cps.toList = z := by
  unfold tx
  simp
theorem list_tx (l : List Nat) : (tx l).cps.toList = l := by
  unfold tx
  simp
/-- a list's open levels -/
def Lv (H : Hp) : List Addr → List Gr → Prop
  | [], [] => True
  | b :: bs, g :: gs => (∃ xs, H b = some (.lst xs) ∧ IsG H g xs) ∧ Lv H bs gs
  | _, _ => False
theorem Lv.mono {H H' : Hp} (t : Tups H H') : ∀ {bs : List Addr} {gs : List Gr}, (∀ b ∈ bs, H' b = H b) → Lv H bs gs → Lv H' bs gs
  | [], [], _, _ => trivial
  | b :: bs, g :: gs, hb, ⟨⟨xs, h1, h2⟩, h3⟩ => ⟨⟨xs, by rw [hb b List.mem_cons_self]; exact h1, h2.mono t⟩, Lv.mono t (fun c hc => hb c (List.mem_cons_of_mem _ hc)) h3⟩
  | [], _ :: _, _, h => h.elim
  | _ :: _, [], _, h => h.elim
theorem Lv.snoc {H : Hp} {b : Addr} {g : Gr} (hx : ∃ xs, H b = some (.lst xs) ∧ IsG H g xs) : ∀ {bs : List Addr} {gs : List Gr}, Lv H bs gs → Lv H (bs ++ [b]) (gs ++ [g])
  | [], [], _ => ⟨hx, trivial⟩
  | _ :: _, _ :: _, ⟨h1, h2⟩ => ⟨h1, Lv.snoc hx h2⟩
  | [], _ :: _, h => h.elim
  | _ :: _, [], h => h.elim
theorem Lv.unsnoc {H : Hp} {b : Addr} : ∀ {bs : List Addr} {gs : List Gr}, Lv H (bs ++ [b]) gs → ∃ gs' g, gs = gs' ++ [g] ∧ Lv H bs gs' ∧ ∃ xs, H b = some (.lst xs) ∧ IsG H g xs
  | [], [g], ⟨h, _⟩ => ⟨[], g, rfl, trivial, h⟩
  | [], [], h => h.elim
  | [], _ :: _ :: _, ⟨_, h⟩ => h.elim
  | _ :: _, [], h => h.elim
  | c :: bs, g :: gs, ⟨h1, h2⟩ => by
    obtain ⟨gs', g', rfl, h3, h4⟩ := Lv.unsnoc (bs := bs) h2
    exact ⟨g :: gs', g', rfl, ⟨h1, h3⟩, h4⟩
theorem Lv.length {H : Hp} : ∀ {bs : List Addr} {gs : List Gr}, Lv H bs gs → bs.length = gs.length
  | [], [], _ => rfl
  | _ :: _, _ :: _, ⟨_, h⟩ => by rw [List.length_cons, List.length_cons, Lv.length h]
  | [], _ :: _, h => h.elim
  | _ :: _, [], h => h.elim
theorem at_last {α : Type} (xs : List α) (y : α) : atI (xs ++ [y]) (-1) = some y := by
  unfold atI ixN
  rw [if_neg (by omega), if_pos (by rw [List.length_append]; simp; omega)]
  simp only [List.length_append, List.length_cons, List.length_nil, Option.bind_some]
  rw [show (-1 + ((xs.length + (0 + 1) : Nat) : Int)).toNat = xs.length by omega]
  simp
theorem at_last2 {α : Type} (xs : List α) (x y : α) : atI (xs ++ [x, y]) (-2) = some x := by
  unfold atI ixN
  rw [if_neg (by omega), if_pos (by rw [List.length_append]; simp; omega)]
  simp only [List.length_append, List.length_cons, List.length_nil, Option.bind_some]
  rw [show (-2 + ((xs.length + (0 + 1 + 1) : Nat) : Int)).toNat = xs.length by omega]
  simp
theorem at_memV {xs : List V} {k : Int} (h0 : 0 ≤ k) (h1 : k < (xs.length : Int)) : ∃ v, atI xs k = some v ∧ v ∈ xs := by
  obtain ⟨j, rfl⟩ := Int.eq_ofNat_of_zero_le h0
  have hj : j < xs.length := by omega
  exact ⟨xs[j], atI_nat (List.getElem?_eq_getElem hj), List.getElem_mem hj⟩
end My

set_option Elab.async false
set_option linter.all false
set_option maxRecDepth 100000
set_option maxHeartbeats 4000000
namespace L2
open PySem PySem.Spec PyProof.Rows

/-! ### a comprehension over pairs -/
/-- the block's context -/
def blockCx2 (X : Cx) (scope : Scope) (x y : Str) (M : List Str) (cl : List (Str × Addr)) (pn : List (Addr × Obj)) (ex : List Addr) (s3 : Shared) (H3 : Hp) : Cx where
  prog := X.prog
  w := X.w
  K := X.K
  mg := X.mg
  base := X.base
  A := X.A
  N := M ++ [x, y]
  s₀ := s3
  H₀ := H3
  env := compEnvC scope cl s3.heap.objs.size X.env
  outer := X.stack
  stack := X.stack
  ex := ex
  fn := fun _ => false
  calm := X.calm
  pn := pn
  xe := fun _ _ => False

/-- the reading: the tuple that comes is taken apart -/
def wLC2 (K : PySem.W.Frag) (tt : TT) (te : TE) (σ : St) (F : List V → Hp → Prop) (J : It) (H1 : Hp) : Prop := ∃ W : Nat → Nat → List V → Hp → Prop, (∃ m, W 0 m [] H1) ∧ ∀ i m ys H2, W i m ys H2 →
  (J.stop i H2 ∧ F ys H2) ∨ (J.go i H2 ∧ ys.length < sizeLine ∧ ∃ N : List V → Hp → Prop, (∀ ys' H', N ys' H' → ∃ m', m' < m ∧ W (i + 1) m' ys' H') ∧
    ∀ v H3, J.yld i H2 v H3 → ∃ (t : Addr) (v1 v2 : V), v = .ref t ∧ SqT K H3 t [v1, v2] ∧ tt (σ ++ [some v1, some v2]) H3 fun ok H4 => if ok = true then te (σ ++ [some v1, some v2]) H4 fun y H5 => N (ys ++ [y]) H5 else N ys H4)
def tLC2 (K : PySem.W.Frag) (wi : TI) (tt : TT) (te : TE) : TE := fun σ H Q => wi σ H (wLC2 K tt te σ fun ys H2 => ∀ D, H2 D = none → Q (.ref D) (upd H2 D (.lst ys)))
section
variable {X : Cx} {scope : Scope} {x y : Str} {M : List Str} {px py pt pos : Pos} {kt : Nat} {elt iter : Expr} {ifs : List Expr} {wi : TI} {tt : TT} {te : TE}
structure LcScope2 (X : Cx) (scope : Scope) (x y : Str) (M : List Str) : Prop where
  kind : scope.kind = .function
  nocell : ∀ y ∈ scope.names, y.2 ≠ .cell
  names : ∀ y ∈ scope.names, y.2 = .local → scope.names.lookup y.1 = some .local
  own : scope.names.lookup x = some .local
  own2 : scope.names.lookup y = some .local
  ne : x ≠ y
  new : x ∉ M
  new2 : y ∉ M
  loc : ∀ z ∈ M, scope.names.lookup z ≠ some .local
  mlen : M.length = X.N.length
  rel : ∀ (i : Nat) (z : Str), M[i]? = some z → X.N[i]? = some z ∨ scope.names.lookup z = none
  nodup : X.N.Nodup → M.Nodup
  free : ∀ y ∈ scope.names, y.2 = .free → X.env.kindOf y.1 = some .cell ∨ X.env.kindOf y.1 = some .free
theorem LcScope2.mk' {N : List Str} {sc : Scope} (eN : X.N = N) (eS : X.env.scope = sc) (kind : scope.kind = .function) (nocell : ∀ y ∈ scope.names, y.2 ≠ .cell) (names : ∀ y ∈ scope.names, y.2 = .local → scope.names.lookup y.1 = some .local)
    (own : scope.names.lookup x = some .local) (own2 : scope.names.lookup y = some .local) (ne : x ≠ y) (new : x ∉ N) (new2 : y ∉ N) (loc : ∀ z ∈ N, scope.names.lookup z ≠ some .local) (free : ∀ y ∈ scope.names, y.2 = .free → sc.names.lookup y.1 = some .cell ∨ sc.names.lookup y.1 = some .free) : LcScope2 X scope x y N := by
  subst eN eS
  exact ⟨kind, nocell, names, own, own2, ne, new, new2, loc, rfl, fun _ _ e => .inl e, id, free⟩
/-- the block begins -/
theorem block_start2 {pins : List (Addr × Obj)} {σ : St} {H : Hp} {s3 : Shared} {cl : List (Str × Addr)} {ex : List Addr} {h1 : Heap} {m1 : Str → Option Value} {tk : Nat} (S : LcScope2 X scope x y M) (I : Inv X pins σ H s3)
    (c1 : ∀ y c, cl.lookup y = some c → X.env.cells.lookup y = some c) (c2 : ∀ y ∈ scope.names, y.2 = .free → ∃ c, cl.lookup y.1 = some c)
    (hex : ∀ b ∈ ex, FpOk X pins H b ∧ b < s3.heap.objs.size) (hn : h1.Ns s3.heap.objs.size m1) (hk : ∀ b o, s3.heap.get? b = some o → h1.get? b = some o) :
    Inv (blockCx2 X scope x y M cl (X.pn ++ pins) ex s3 H) [] (σ ++ [none, none]) H { s3 with heap := h1, toks := tk } := by
  have szs : X.s₀.heap.objs.size ≤ s3.heap.objs.size := I.sz
  have hfresh : H s3.heap.objs.size = none := I.hok.fresh (Nat.le_refl _)
  refine ⟨⟨I.ok.mod, ?_, I.ok.glob, I.ok.blt, Nat.le_refl _, ?_, ?_, ?_, I.ok.hd, I.ok.frames, .inl rfl, ?_, I.bs, Nat.le_trans I.ok.bsz szs, ?_, ?_, I.stack, I.stkFree⟩, rfl, I.bare, Un.kept hk, ⟨m1, hn, ?_⟩, ?_, hfresh, ?_, ?_, I.hok.kept hk, ?_⟩
  · exact S.kind
  · exact fun y z c h1 h2 => I.ok.inj y z c (c1 y c h1) (c1 z c h2)
  · intro y hy
    have hy' := relabel_look (env := X.env) S.nocell hy
    exact c2 (y, .free) (lookup_mem hy') rfl
  · intro y c z _
    exact absurd z Bool.false_ne_true
  · intro b hb
    obtain ⟨f, hlt⟩ := hex b hb
    exact ⟨Nat.ne_of_lt hlt, fun y c e => f.2.2.2.2.1 y c (c1 y c e)⟩
  · intro b o e hb
    obtain ⟨f, _⟩ := hex b hb
    rcases f.2.2.2.1 with z | z
    · exact I.ok.noex b o e z
    · exact absurd (Nat.lt_of_lt_of_le (Heap.lt_size e) (Nat.le_trans I.ok.bsz z)) (Nat.lt_irrefl _)
  · intro b hb
    exact (hex b hb).1.lt_stack I
  · intro i z9 v e1 e2 e3
    have e1' : (M ++ [x, y])[i]? = some z9 := e1
    have hml := S.mlen
    have hil : i < X.N.length := by
      by_cases hi : i < X.N.length
      · exact hi
      · exfalso
        have hl := I.len
        rw [List.getElem?_append_right (by omega)] at e2
        cases hj : i - σ.length with
        | zero => rw [hj] at e2; exact nomatch e2
        | succ j =>
          rw [hj] at e2
          cases j with
          | zero => exact nomatch e2
          | succ j => exact nomatch e2
    have e1' : M[i]? = some z9 := by
      rw [List.getElem?_append_left (by omega)] at e1'
      exact e1'
    have hyM : z9 ∈ M := List.mem_of_getElem? e1'
    have e2' : σ[i]? = some (some v) := by
      rw [List.getElem?_append_left (by rw [I.len]; exact hil)] at e2
      exact e2
    have hvis : scope.names.lookup z9 = some .free := by
      rcases e3 with e3 | e3
      · exact absurd (relabel_local e3) (S.loc z9 hyM)
      · exact relabel_look (env := X.env) S.nocell e3
    have e1' : X.N[i]? = some z9 := by
      rcases S.rel i z9 e1' with z | z
      · exact z
      · rw [hvis] at z
        cases z
    have hmem := lookup_mem hvis
    obtain ⟨c, hc⟩ := c2 (z9, .free) hmem rfl
    have hcX := c1 z9 c hc
    have hkX := S.free (z9, .free) hmem rfl
    obtain ⟨m, hm, hl⟩ := I.loc
    have visX : Vis X.env.scope z9 := by
      rcases hkX with z | z
      · exact .inr (.inl z)
      · exact .inr (.inr z)
    obtain ⟨u, ru, lk⟩ := hl i z9 v e1' e2' visX
    refine ⟨u, ru, .inr ⟨?_, c, hc, ?_⟩⟩
    · rcases e3 with e3 | e3
      · exact absurd (relabel_local e3) (S.loc z9 hyM)
      · exact e3
    · rcases lk with ⟨lk, _⟩ | ⟨_, c', hc', hcell⟩
      · exfalso
        rcases hkX with z | z <;> (rw [z] at lk; cases lk)
      · rw [hcX] at hc'
        cases hc'
        obtain ⟨o, ho, hd⟩ := hcell
        exact ⟨o, hk c o ho, hd⟩
  · intro y c e
    obtain ⟨v, o, ho, hd⟩ := I.cell y c (c1 y c e)
    exact ⟨v, o, hk c o ho, hd⟩
  · intro y c e
    exact I.freeC y c (c1 y c e)
  · intro p hp
    have hp' : p ∈ X.pn ++ pins := by simpa [blockCx2] using hp
    obtain ⟨a1, a2, a3, a4, a5⟩ := I.pin p hp'
    refine ⟨hk _ _ a1, a2, Nat.ne_of_lt (Heap.lt_size a1), ?_, a5⟩
    intro hb
    rcases List.mem_cons.mp (I.stkSub p.1 hb) with e | e
    · exact a3 e
    · exact a4 e
  · show (σ ++ [none, none]).length = (M ++ [x, y]).length
    rw [List.length_append, List.length_append, I.len, S.mlen]
    rfl
/-- the block ends: the list at D is told -/
theorem block_end2 {pins bp : List (Addr × Obj)} {σ σ' : St} {H3 H : Hp} {s3 s : Shared} {cl : List (Str × Addr)} {pn : List (Addr × Obj)} {ex : List Addr} {D : Addr} {ys : List V} {its : List Value} {n : Nat} (I3 : Inv X pins σ H3 s3)
    (hex : ∀ b ∈ ex, FpOk X pins H3 b) (hD : D ∈ ex) (I : Inv (blockCx2 X scope x y M cl pn ex s3 H3) bp σ' H s) (hDn : H D = none)
    (ho : s.heap.get? D = some { cls := .type "list", data := .seq its.toArray n }) (hv : Vals ys its) (hz : ys.length ≤ sizeLine) :
    Inv X pins σ (upd H D (.lst ys)) s ∧ FpOk X pins (upd H D (.lst ys)) s3.heap.objs.size := by
  have hDC : s3.heap.objs.size ≠ D := fun e => (I.ok.exf D hD).1 e.symm
  have un : Un (frs X.stack) ex H3 H s3.heap s.heap := I.base
  have un' : Un (frs X.stack) ex H3 (upd H D (.lst ys)) s3.heap s.heap := by
    have neD : ∀ b, b ∉ ex → b ≠ D := fun b hb z => hb (z ▸ hD)
    have neT : ∀ b u, H b = some u → b ≠ D := fun b u e z => by rw [z, hDn] at e; cases e
    refine ⟨un.keep, un.slot, fun b o e n hb => ?_, un.there, fun b xs e => ?_, fun b o u e => ?_, fun b ps e => ?_⟩
    · rw [upd_ne (neD b hb)]
      exact un.free b o e n hb
    · rw [upd_ne (neT b _ (un.tups b xs e))]
      exact un.tups b xs e
    · rw [upd_ne (neT b _ (un.frzs b o u e))]
      exact un.frzs b o u e
    · obtain ⟨more, e'⟩ := un.tbls b ps e
      exact ⟨more, by rw [upd_ne (neT b _ e')]; exact e'⟩
  have hok : HOk X.prog X.w (upd H D (.lst ys)) s.heap := fun b u e => by
    by_cases hb : b = D
    · subst hb
      rw [upd_same] at e
      cases e
      exact ⟨hz, its, n, hv, ho⟩
    · rw [upd_ne hb] at e
      have neT : ∀ b u, H b = some u → b ≠ D := fun b u e z => by rw [z, hDn] at e; cases e
      exact (I.hok b u e).stay (fun c v _ q => q) (fun c q => by rw [upd_ne (neT c _ q)]; exact q) fun c xs q => by rw [upd_ne (neT c _ q)]; exact q
  have J := Inv.call' (s' := s) (ch := ex) I3 I.os un' hok I.bare fun b hb => ⟨(hex b hb).2.2.2.1, (hex b hb).2.1, (hex b hb).2.2.2.2.1, (hex b hb).2.2.2.2.2⟩
  refine ⟨J, I3.fpOk (Nat.le_refl _) ?_⟩
  rw [upd_ne hDC]
  exact I.free

theorem codeAny_compLoop_tests2 {prog : Program} {w : World} {A : Around} {R : Result → Shared → Prop} {s : Shared} {elt target iter : Expr} {ifs : List Expr} {scope : Scope} {pos : Pos} {it acc : Value} {env : Env} (I : Nat → Shared → Prop)
    (turn : ∀ n s, I n s → wpAny (model prog w) A (pyNext it) (fun r s₁ => match r with
      | none => R (.ok .next) s₁
      | some v => wpAny (model prog w) A (letOwnedTupleGo target it v) (fun _ s₁' => wpAny (model prog w) A (assign target env v) (fun _ s₂ =>
          wpAny (model prog w) A (forIn ifs true fun c r => if r = true then do let ok ← isTrue c env (eval c env); pure (ForInStep.yield ok) else pure (ForInStep.yield r)) (fun ok s₃ =>
            if ok = true then wpAny (model prog w) A (eval elt env) (fun x s₄ =>
              wpAny (model prog w) A (call (.builtin "list.append") [acc, x]) (fun _ s₅ => ∃ m, m < n ∧ I m s₅) (notedBy (model prog w) A env fun e s' => R (.error e) s') s₄) (notedBy (model prog w) A env fun e s' => R (.error e) s') s₃
            else ∃ m, m < n ∧ I m s₃) (notedBy (model prog w) A env fun e s' => R (.error e) s') s₂) (notedBy (model prog w) A env fun e s' => R (.error e) s') s₁') (notedBy (model prog w) A env fun e s' => R (.error e) s') s₁) (notedBy (model prog w) A env fun e s' => R (.error e) s') s)
    (n : Nat) (h : I n s) : codeAny (model prog w) A (.compLoop (.ListComp elt [⟨target, iter, ifs, 0⟩] scope pos) 0 it acc env) R s := by
  refine codeAny_loop rfl I (fun n s hI => ?_) n h
  show wpAny _ A ((compTurn (.ListComp elt [⟨target, iter, ifs, 0⟩] scope pos) 0 it acc env).onRaise (fun x => do noteFrame x env; theTreesLotGoes x)) _ _ s
  refine wpAny_noted ?_
  rw [compTurn_list]
  refine wpAny_bind (wpAny_standAt (wpAny_bind (wpAny_mono (turn n s hI) (fun r s₁ h₁ => ?_) fun _ _ h' => h')))
  cases r with
  | none => exact wpAny_pure h₁
  | some v =>
    refine wpAny_bind (wpAny_mono h₁ (fun _ s₁' h₁' => ?_) fun _ _ h' => h')
    refine wpAny_bind (wpAny_mono h₁' (fun _ s₂ h₂ => wpAny_bind (wpAny_mono h₂ (fun ok s₃ h₃ => ?_) fun _ _ h' => h')) fun _ _ h' => h')
    cases ok with
    | false => exact wpAny_pure ⟨rfl, h₃⟩
    | true =>
      exact wpAny_bind (wpAny_bind (wpAny_mono h₃ (fun x s₄ h₄ => wpAny_bind (wpAny_mono h₄ (fun _ s₅ h₅ => wpAny_pure (wpAny_pure ⟨rfl, h₅⟩)) fun _ _ h' => h')) fun _ _ h' => h'))
/-- the loop of a comprehension -/
theorem lc_core2 {pins : List (Addr × Obj)} {σ : St} {H2 : Hp} {s2 : Shared} {it : Addr} {fp : List Addr} {tn : Nat → Heap → Prop} {J : It} {F : List V → Hp → Prop} {E : Value → Shared → Prop} {RR : Value → Addr → Result → Shared → Prop} {cl : List (Str × Addr)}
    (hc : X.calm = true) (nd : X.N.Nodup) (S : LcScope2 X scope x y M) (c1 : ∀ y c, cl.lookup y = some c → X.env.cells.lookup y = some c) (c2 : ∀ y ∈ scope.names, y.2 = .free → ∃ c, cl.lookup y.1 = some c)
    (hif : ∀ cl pn ex s3 H3, PIf (blockCx2 X scope x y M cl pn ex s3 H3) ifs tt) (he : ∀ cl pn ex s3 H3, PE (blockCx2 X scope x y M cl pn ex s3 H3) elt te)
    (I2 : Inv X pins σ H2 s2) (T : Turn X.prog X.w X.K (.Tuple [.Name x px, .Name y py] kt pt) J fp it tn) (st2 : tn 0 s2.heap) (f2 : ∀ b ∈ fp, FpOk X pins H2 b) (w : wLC2 X.K tt te σ F J H2)
    (hfin : ∀ D C ys H' s', Inv X pins σ (upd H' D (.lst ys)) s' → FpOk X pins (upd H' D (.lst ys)) C → (∃ m, s'.heap.Ns C m) → H' D = none → F ys H' → RR (.ref D) C (.ok .next) s') :
    wpAny (model X.prog X.w) X.A (newList []) (fun acc s₃ => wpAny (model X.prog X.w) X.A (newFunctionEnv scope X.env.globals cl [] X.env.qual none .none (some X.env)) (fun cenv s₄ =>
      codeAny (model X.prog X.w) X.A (.compStart (.ListComp elt [⟨.Tuple [.Name x px, .Name y py] kt pt, iter, ifs, 0⟩] scope pos) 0 (.ref it) acc { cenv with scope := relabel scope X.env }) (RR acc cenv.locals) s₄) E s₃) E s2 := by
  obtain ⟨W, ⟨m0, w0⟩, turn⟩ := w
  have hl : σ.length = X.N.length := I2.len
  refine wpAny_newObj_type (wpAny_newFunctionEnv S.nocell (by intro y hy; simp at hy) (fun h₁ hns₁ hsb₁ => ?_) S.kind)
  dsimp only at hns₁ hsb₁ ⊢
  have I3 : Inv X pins σ H2 { s2 with heap := s2.heap.push { cls := .type "list", dict := none, data := .seq ([] : List Value).toArray } } := I2.kept (t' := s2.toks) fun b ob q => Heap.get?_push_of_some _ q
  have hD3 : (s2.heap.push { cls := .type "list", dict := none, data := .seq ([] : List Value).toArray }).get? s2.heap.objs.size = some { cls := .type "list", dict := none, data := .seq ([] : List Value).toArray } := Heap.get?_push_size _ rfl
  have hC : (s2.heap.push { cls := .type "list", dict := none, data := .seq ([] : List Value).toArray }).objs.size = s2.heap.objs.size + 1 := Heap.size_push ..
  generalize hs3 : ({ s2 with heap := s2.heap.push { cls := .type "list", dict := none, data := .seq ([] : List Value).toArray } } : Shared) = s3 at I3
  have hh3 : s3.heap = s2.heap.push { cls := .type "list", dict := none, data := .seq ([] : List Value).toArray } := by rw [← hs3]
  have ht3 : s3.toks = s2.toks := by rw [← hs3]
  have hg3 : s3.gens = s2.gens := by rw [← hs3]
  have hd3 : s3.drawn = s2.drawn := by rw [← hs3]
  have ho3 : s3.os = s2.os := by rw [← hs3]
  rw [← hh3] at hns₁ hsb₁ hD3 hC ⊢
  have es : ({ s2 with heap := h₁, toks := s2.toks + ([] : List (Str × Value)).length } : Shared) = { s3 with heap := h₁, toks := s3.toks + ([] : List (Str × Value)).length } := by
    rw [← hs3]
  have hDlt : s2.heap.objs.size < s3.heap.objs.size := by rw [hC]; exact Nat.lt_succ_self _
  have fD : FpOk X pins H2 s2.heap.objs.size := I2.fpOk (Nat.le_refl _) (I2.hok.fresh (Nat.le_refl _))
  have hex : ∀ b ∈ s2.heap.objs.size :: fp, FpOk X pins H2 b ∧ b < s3.heap.objs.size := fun b hb => by
    rcases List.mem_cons.mp hb with e | hb
    · rw [e]
      exact ⟨fD, hDlt⟩
    · obtain ⟨o, ho, _⟩ := T.obj _ _ st2 b hb
      exact ⟨f2 b hb, Nat.lt_trans (Heap.lt_size ho) hDlt⟩
  have neD : ∀ b ∈ fp, s2.heap.objs.size ≠ b := fun b hb => by
    obtain ⟨o, ho, _⟩ := T.obj _ _ st2 b hb
    exact Nat.ne_of_gt (Heap.lt_size ho)
  have hk : ∀ b o, s3.heap.get? b = some o → h₁.get? b = some o := fun b o e => hsb₁.extBut b o (Nat.ne_of_lt (Heap.lt_size e)) (Heap.get?_push_of_some _ e)
  have hk2 : ∀ b o, s2.heap.get? b = some o → h₁.get? b = some o := fun b o e => hk b o (by rw [hh3]; exact Heap.get?_push_of_some _ e)
  have I4 : Inv (blockCx2 X scope x y M cl (X.pn ++ pins) (s2.heap.objs.size :: fp) s3 H2) [] (σ ++ [none, none]) H2 { s3 with heap := h₁, toks := s3.toks + ([] : List (Str × Value)).length } := block_start2 S I3 c1 c2 hex hns₁ hk
  generalize hX : blockCx2 X scope x y M cl (X.pn ++ pins) (s2.heap.objs.size :: fp) s3 H2 = Xb at I4
  have eP : Xb.prog = X.prog := by rw [← hX]; rfl
  have eW : Xb.w = X.w := by rw [← hX]; rfl
  have eK : Xb.K = X.K := by rw [← hX]; rfl
  have eA : Xb.A = X.A := by rw [← hX]; rfl
  have eE : Xb.env = compEnvC scope cl s3.heap.objs.size X.env := by rw [← hX]; rfl
  have eN : Xb.N = M ++ [x, y] := by rw [← hX]; rfl
  have eX : Xb.xe = fun _ _ => False := by rw [← hX]; rfl
  have eC : Xb.calm = true := by rw [← hX]; exact hc
  have eF : Xb.fs = frs X.stack := by rw [← hX]; rfl
  have ePn : Xb.pn = X.pn ++ pins := by rw [← hX]; rfl
  have eEx : Xb.ex = s2.heap.objs.size :: fp := by rw [← hX]; rfl
  have hif' : PIf Xb ifs tt := by rw [← hX]; exact hif _ _ _ _ _
  have he' : PE Xb elt te := by rw [← hX]; exact he _ _ _ _ _
  have ndb : Xb.N.Nodup := by
    rw [eN, List.nodup_append]
    refine ⟨S.nodup nd, by simp [S.ne], fun a ha b hb => ?_⟩
    simp only [List.mem_cons, List.not_mem_nil, or_false] at hb
    rcases hb with rfl | rfl
    · exact fun e => S.new (e ▸ ha)
    · exact fun e => S.new2 (e ▸ ha)
  have hxb : Xb.N[X.N.length]? = some x := by rw [eN, ← S.mlen]; simp
  have hyb : Xb.N[X.N.length + 1]? = some y := by rw [eN, ← S.mlen, List.getElem?_append_right (by omega)]; simp
  have hly : Xb.env.scope.names.lookup y = some .local := by rw [eE]; exact lookup_relabel_local S.own2
  have hlx : Xb.env.scope.names.lookup x = some .local := by rw [eE]; exact lookup_relabel_local S.own
  have fpB : ∀ {H' : Hp} {pl : List (Addr × Obj)} {b : Addr}, b ∈ s2.heap.objs.size :: fp → H' b = none → (∀ p ∈ pl, p.1 ≠ b) → FpOk Xb pl H' b := fun {H' pl b} hb hn hp => by
    obtain ⟨f, hlt⟩ := hex b hb
    refine ⟨hn, ?_, ?_, .inl (by rw [eEx]; exact hb), fun y c e => ?_, fun p hp' => ?_⟩
    · rw [eE]
      exact Nat.ne_of_lt hlt
    · rw [eF]
      exact f.lt_stack I3
    · rw [eE] at e
      exact f.2.2.2.2.1 y c (c1 y c e)
    · rcases List.mem_append.mp hp' with z | z
      · rw [ePn] at z
        exact f.2.2.2.2.2 p z
      · exact hp p z
  have loop : ∀ s4 : Shared, s4 = { s3 with heap := h₁, toks := s3.toks + ([] : List (Str × Value)).length } →
      codeAny (model X.prog X.w) X.A (.compLoop (.ListComp elt [⟨.Tuple [.Name x px, .Name y py] kt pt, iter, ifs, 0⟩] scope pos) 0 (.ref it) (.ref s2.heap.objs.size) (compEnvC scope cl s3.heap.objs.size X.env)) (RR (.ref s2.heap.objs.size) s3.heap.objs.size) s4 := by
    rintro s4 rfl
    refine codeAny_compLoop_tests2 (fun k s' => ∃ (i : Nat) (ys : List V) (o o2 : Option V) (H' : Hp) (its : List Value) (n : Nat), Inv Xb [] (σ ++ [o, o2]) H' s' ∧ tn i s'.heap ∧ (∀ b ∈ s2.heap.objs.size :: fp, H' b = none) ∧
      s'.heap.get? s2.heap.objs.size = some { cls := .type "list", data := .seq its.toArray n } ∧ Vals ys its ∧ ys.length ≤ sizeLine ∧ W i k ys H') ?_ m0
      ⟨0, [], none, none, H2, [], 0, I4, T.keep _ _ _ st2 fun b _ o e => hk2 b o e, fun b hb => (hex b hb).1.1, hk _ _ hD3, .nil, Nat.zero_le _, w0⟩
    rintro k s' ⟨i, ys, o, o2, H', its, n, I', st', fr', hoD, hv, hz, w'⟩
    have fDb : FpOk Xb [] H' s2.heap.objs.size := fpB List.mem_cons_self (fr' _ List.mem_cons_self) (fun p hp => nomatch hp)
    have I'p : Inv Xb [(s2.heap.objs.size, { cls := .type "list", data := .seq its.toArray n })] (σ ++ [o, o2]) H' s' := I'.pin_one (pins := []) hoD (fr' _ List.mem_cons_self) fDb.2.1 fDb.2.2.1 (fun v z => by
      have z' : Data.seq its.toArray n = Data.cell v := z
      cases z')
    have fpP : ∀ {H'' : Hp}, (∀ b ∈ fp, H'' b = none) → ∀ b ∈ fp, FpOk Xb [(s2.heap.objs.size, { cls := .type "list", data := .seq its.toArray n })] H'' b := fun hn b hb =>
      fpB (List.mem_cons_of_mem _ hb) (hn b hb) fun p hp => by
        obtain rfl := List.mem_singleton.mp hp
        exact neD b hb
    rcases turn i k ys H' w' with ⟨stop, qf⟩ | ⟨go, hlt, N, hN, step⟩
    · have hd := T.done Xb eP eW eK eC i [(s2.heap.objs.size, { cls := .type "list", data := .seq its.toArray n })] s' (σ ++ [o, o2]) H' (notedBy (model X.prog X.w) X.A (compEnvC scope cl s3.heap.objs.size X.env) fun e s' => RR (.ref s2.heap.objs.size) s3.heap.objs.size (.error e) s') I'p (fpP fun b hb => fr' b (List.mem_cons_of_mem _ hb)) st' stop
      rw [eA] at hd
      refine wpAny_mono hd (fun r s1 ⟨hr, I1⟩ => ?_) fun _ _ e => e
      subst hr
      have hp1 := (I1.pin _ (List.mem_append_right _ List.mem_cons_self)).1
      rw [← hX] at I1
      obtain ⟨m1, hm1, _⟩ := I1.loc
      obtain ⟨J1, J2⟩ := block_end2 (ys := ys) (its := its) (n := n) I3 (fun b hb => (hex b hb).1) List.mem_cons_self I1 (fr' _ List.mem_cons_self) hp1 hv hz
      exact hfin _ _ ys H' s1 J1 J2 ⟨m1, hm1⟩ (fr' _ List.mem_cons_self) qf
    · have hi := T.item Xb eP eW eK eC i [(s2.heap.objs.size, { cls := .type "list", data := .seq its.toArray n })] s' (σ ++ [o, o2]) H' (notedBy (model X.prog X.w) X.A (compEnvC scope cl s3.heap.objs.size X.env) fun e s' => RR (.ref s2.heap.objs.size) s3.heap.objs.size (.error e) s') I'p (fpP fun b hb => fr' b (List.mem_cons_of_mem _ hb)) st' go
      rw [eA] at hi
      refine wpAny_mono hi (fun r s1 ⟨u, hr, h4⟩ => ?_) fun _ _ e => e
      subst hr
      refine wpAny_mono h4 (fun _ s5 ⟨v, H5, I5, r5, y5, st5, fr5⟩ => ?_) fun _ _ e => e
      have I5' := I5.pinned (fp := fp) (fpP fr5) (T.obj _ _ st5)
      obtain ⟨ta, v1, v2, rfl, hta, stp⟩ := step v _ y5
      have hst := pg_tup (X := Xb) (pos := pt) (k := kt) eC (pgs_cons (pg_name (X := Xb) (pos := px) (i := X.N.length) ndb hxb (Or.inl hlx) (.inr hlx)) (pgs_cons (pg_name (X := Xb) (pos := py) (i := X.N.length + 1) ndb hyb (Or.inl hly) (.inr hly)) pgs_nil)) rfl rfl _ s5 (σ ++ [o, o2]) H5 (.ref ta) u (fun σ2 H2 => σ2 = σ ++ [some v1, some v2] ∧ H2 = H5) I5' r5
        ⟨ta, [v1, v2], rfl, by rw [eK]; exact hta, rfl, v1, [v2], rfl, v2, [], rfl, rfl, by
          rw [← hl, List.set_append_right _ _ (Nat.le_refl _), Nat.sub_self, List.set_append_right _ _ (by omega), show σ.length + 1 - σ.length = 1 by omega]
          rfl, rfl⟩
      rw [eP, eW, eA, eE, eX] at hst
      refine wpAny_mono hst (fun _ s6 ⟨σ6, H6, I6, e1, e2⟩ => ?_) fun _ _ z => z.elim
      subst e1 e2
      have hte := hif' _ s6 (σ ++ [some v1, some v2]) _ _ I6 stp
      rw [eP, eW, eA, eE, eX] at hte
      refine wpAny_mono hte (fun ok s7 ⟨H7, I7, q7⟩ => ?_) fun _ _ z => z.elim
      have again : ∀ {H8 : Hp} {s8 : Shared}, Inv Xb ([(s2.heap.objs.size, { cls := .type "list", data := .seq its.toArray n })] ++ pinsAt fp s5.heap) (σ ++ [some v1, some v2]) H8 s8 → tn (i + 1) s8.heap ∧ (∀ b ∈ s2.heap.objs.size :: fp, H8 b = none) ∧ s8.heap.get? s2.heap.objs.size = some { cls := .type "list", data := .seq its.toArray n } := fun {H8 s8} I8 => by
        have pD := I8.pin _ (List.mem_append_right _ (List.mem_append_left _ List.mem_cons_self))
        refine ⟨T.keep _ _ _ st5 fun b hb o e => (I8.pin (b, o) (List.mem_append_right _ (List.mem_append_right _ (mem_pinsAt hb e)))).1, fun b hb => ?_, pD.1⟩
        rcases List.mem_cons.mp hb with e | hb
        · rw [e]
          exact pD.2.1
        · obtain ⟨o, e, d⟩ := T.obj _ _ st5 b hb
          exact (I8.pin (b, o) (List.mem_append_right _ (List.mem_append_right _ (mem_pinsAt hb e)))).2.1
      cases ok with
      | false =>
        obtain ⟨a1, a2, a3⟩ := again I7
        obtain ⟨m', hm', w7⟩ := hN _ _ q7
        exact ⟨m', hm', i + 1, ys, some v1, some v2, H7, its, n, Inv.unpinned (pins := []) I7, a1, a2, a3, hv, hz, w7⟩
      | true =>
        have hel := he' _ s7 (σ ++ [some v1, some v2]) _ _ I7 q7
        rw [eP, eW, eA, eE, eX] at hel
        refine wpAny_mono hel (fun y s8 ⟨yv, H8, I8, r8, q8⟩ => ?_) fun _ _ z => z.elim
        obtain ⟨m', hm', w8⟩ := hN _ _ q8
        obtain ⟨a1, a2, a3⟩ := again I8
        have hlen := hv.length
        refine call_meets PySem.F.slot_list_append ⟨_, a3, rfl⟩ PySem.F.entry_list_append (PySem.F.args_list_append_2 _ _) (PySem.list_append s2.heap.objs.size its.toArray n y (by rw [List.size_toArray]; omega)) ⟨a3, ?_⟩
        have q := PySem.IsL.update a3 (·.push y)
        have eq1 : its.toArray.push y = (its ++ [y]).toArray := by simp
        rw [eq1] at q
        have I8' : Inv Xb (pinsAt fp s5.heap) (σ ++ [some v1, some v2]) H8 s8 := I8.pins_of fun p hp => I8.pin p (List.mem_append_right _ (List.mem_append_right _ hp))
        have f9 : FpOk Xb (pinsAt fp s5.heap) H8 s2.heap.objs.size := fpB List.mem_cons_self (a2 _ List.mem_cons_self) fun p hp => Ne.symm (neD _ (of_pinsAt hp).1)
        have I9 := Inv.turned (h' := s8.heap.update s2.heap.objs.size (Obj.mapSeq (·.push y))) (t' := s8.toks) I8' (fun b o hb e => (Heap.get?_update_other s8.heap _ (Ne.symm hb)).trans e) f9.1 f9.2.1 f9.2.2.2.1 f9.2.2.2.2.1 f9.2.2.2.2.2
        refine ⟨m', hm', i + 1, ys ++ [yv], some v1, some v2, H8, its ++ [y], _, Inv.unpinned (pins := []) (pl := pinsAt fp s5.heap) I9, T.keep _ _ _ st5 fun b hb o e => (I9.pin (b, o) (List.mem_append_right _ (mem_pinsAt hb e))).1, a2, q, hv.append (.cons r8 .nil), ?_, w8⟩
        rw [List.length_append, List.length_singleton]
        omega
  rw [es]
  exact codeAny_compStart_list (loop _ rfl) (T.self X.A 0 _ _ _ (T.keep _ _ _ st2 fun b _ o e => hk2 b o e) (loop _ rfl))

/-- [elt for x in iter if ..] -/
theorem pe_lc2 (hc : X.calm = true) (nd : X.N.Nodup) (S : LcScope2 X scope x y M) (hi : PI X (.Tuple [.Name x px, .Name y py] kt pt) iter wi) (hif : ∀ cl pn ex s3 H3, PIf (blockCx2 X scope x y M cl pn ex s3 H3) ifs tt) (he : ∀ cl pn ex s3 H3, PE (blockCx2 X scope x y M cl pn ex s3 H3) elt te)
    (hs : ∀ v, foldedSetIterable iter X.env v = pure v := by intro _; rfl) : PE X (.ListComp elt [⟨.Tuple [.Name x px, .Name y py] kt pt, iter, ifs, 0⟩] scope pos) (tLC2 X.K wi tt te) := by
  intro pins s σ H Q I h
  obtain ⟨cl, c0, c1, c2⟩ := closure_of (scope := scope) (env := X.env) fun y hy hf => I.ok.has y.1 (S.free y hy hf)
  rw [eval_ListComp]
  refine wpAny_comprehension_free (use := none) rfl hs c0 S.kind S.names (thn (hi pins s σ H _ I h) fun v s1 h1 => thn h1 fun itv s2 h2 => ?_)
  obtain ⟨it, fp, tn, J, H2, e, I2, T, st2, f2, w⟩ := h2
  subst e
  refine lc_core2 (RR := fun acc C => compPost (model X.prog X.w) X.A X.xe none (EP X pins σ Q) acc C) hc nd S c1 c2 hif he I2 T st2 f2 w ?_
  intro D C ys H' s' J' fC ⟨m, hm⟩ hD q
  refine ⟨m, hm, fun h' hsb => ⟨.ref D, _, ?_, rfl, q D hD⟩⟩
  exact Inv.turned (h' := h') (t' := s'.toks) J' (fun b o hb e => (hsb.2 b hb).trans e) fC.1 fC.2.1 fC.2.2.2.1 fC.2.2.2.2.1 fC.2.2.2.2.2
end
/-! ### enumerate(xs) -/
theorem Inv.turned2 {X : Cx} {pins : List (Addr × Obj)} {σ : St} {H : Hp} {s : Shared} {h' : Heap} {t' : Nat} {it e : Addr} (I : Inv X pins σ H s) (k : ∀ b o, b ≠ e → b ≠ it → s.heap.get? b = some o → h'.get? b = some o) (he : FpOk X pins H e) (hi : FpOk X pins H it) : Inv X pins σ H { s with heap := h', toks := t' } := by
  have ne : ∀ b u, H b = some u → b ≠ e := fun b u q z => by rw [z, he.1] at q; cases q
  have ni : ∀ b u, H b = some u → b ≠ it := fun b u q z => by rw [z, hi.1] at q; cases q
  have kk : ∀ b o, b ∉ [e, it] → s.heap.get? b = some o → h'.get? b = some o := fun b o hc q => k b o (fun z => hc (by simp [z])) (fun z => hc (by simp [z])) q
  refine I.step (g' := s.gens) (d' := s.drawn) (ch := [e, it]) (fun b hb => ?_) (fun b o _ _ hc e _ => kk b o hc e) (fun b o _ _ hc e _ => ⟨o.slots, kk b o hc e⟩) (fun _ _ _ _ n => n)
    (fun b o hc e => ⟨o, kk b o hc e⟩) (fun _ _ e => e) (fun _ _ _ e => e) (fun b ps e => ⟨#[], by rw [e]; simp⟩) (fun m hm => ?_) (fun b u q => ?_) I.bare
  · have hb' : b = e ∨ b = it := by simpa using hb
    rcases hb' with rfl | rfl
    · exact ⟨he.2.2.2.1, he.2.1, he.2.2.2.2.1, he.2.2.2.2.2⟩
    · exact ⟨hi.2.2.2.1, hi.2.1, hi.2.2.2.2.1, hi.2.2.2.2.2⟩
  · obtain ⟨o, es, ep, ho, r⟩ := hm
    exact ⟨o, es, ep, k _ o (Ne.symm he.2.1) (Ne.symm hi.2.1) ho, r⟩
  · refine (I.hok b u q).stay (fun c v hc q' => k c v ?_ ?_ q') (fun _ q => q) fun _ _ q => q
    · rcases hc with z | z
      · rw [z]; exact ne b u q
      · exact ne c _ z
    · rcases hc with z | z
      · rw [z]; exact ni b u q
      · exact ni c _ z
/-- at each turn a new pair: the place, the item -/
def Ite (K : PySem.W.Frag) (a : Addr) : It :=
  ⟨fun i H => ∃ xs x, SqL K H a xs ∧ xs[i]? = some x, fun i H v H' => ∃ (t : Addr) (x : V), v = .ref t ∧ H t = none ∧ H' = upd H t (.tup [.int i, x]) ∧ ∀ xs, SqL K H a xs → xs[i]? = some x, fun i H => ∃ xs, SqL K H a xs ∧ xs.length ≤ i⟩
theorem turn_enum {P : Program} {w : World} {K : PySem.W.Frag} {elts : List Expr} {x1 : Nat} {pos : Pos} (a it e : Addr) (hne : e ≠ it) : Turn P w K (.Tuple elts x1 pos) (Ite K a) [e, it] e (fun i h => (∃ old, IsEnum h e it (i : Nat) old) ∧ h.IsListIter it a i) where
  mem := by simp
  obj := fun i h st b hb => by
    have hb' : b = e ∨ b = it := by simpa using hb
    rcases hb' with rfl | rfl
    · obtain ⟨old, q⟩ := st.1
      exact ⟨_, q, fun v z => by
        have z' : Data.fields _ = Data.cell v := z
        cases z'⟩
    · obtain ⟨o, q, c, d⟩ := st.2
      exact ⟨o, q, fun v z => by rw [d] at z; cases z⟩
  keep := fun i h h' st k => ⟨by
    obtain ⟨old, q⟩ := st.1
    exact ⟨old, k e (by simp) _ q⟩, st.2.at fun o q => k it (by simp) o q⟩
  item := by
    intro X hP hw hK hc i pins s σ H E I hf st hg
    subst hP hw hK
    obtain ⟨xs, x, hq, hx⟩ := hg
    obtain ⟨its, rv, p, hz⟩ := I.list hq
    obtain ⟨u, hu, ru⟩ := rv.get hx
    obtain ⟨⟨old, hE⟩, hI⟩ := st
    have fe := hf e (by simp)
    have fi := hf it (by simp)
    refine wpAny_pyNext_enum_item hE hI p.isList (x := u) (by simpa using hu) hne fun h1 hE1 hI1 ht1 hz1 k1 => ?_
    refine ⟨_, rfl, wpAny_letOwnedTupleGo_enum hE1 fun h2 hE2 sb2 => ?_⟩
    have elt : e < s.heap.objs.size := Heap.lt_size hE
    obtain ⟨oi, hoi, _⟩ := id hI
    have ilt : it < s.heap.objs.size := Heap.lt_size hoi
    have nte : s.heap.objs.size ≠ e := Nat.ne_of_gt elt
    have nti : s.heap.objs.size ≠ it := Nat.ne_of_gt ilt
    have ht2 : h2.get? s.heap.objs.size = some { cls := .type "tuple", data := .seq #[.int i s.toks, u] } := (sb2.2 _ nte).trans ht1
    have hfr : H s.heap.objs.size = none := I.hok.fresh (Nat.le_refl _)
    have fT := I.fpOk (Nat.le_refl _) hfr
    have I1 : Inv X pins σ H { s with heap := h2, toks := s.toks + 1 } := I.turned2 (fun b o hb hb' q => (sb2.2 b hb).trans (k1 b o hb hb' q)) fe fi
    refine ⟨.ref s.heap.objs.size, upd H s.heap.objs.size (.tup [.int i, x]), I1.track (Heap.get?_none_of_le I.sz) hfr fT.2.1 fT.2.2.2.2.1 fT.2.2.2.2.2 ⟨by simp [sizeLine], [.int i s.toks, u], .cons ⟨_, rfl⟩ (.cons ru .nil), ⟨_, ht2, rfl, _, rfl⟩⟩, rfl, ⟨_, x, rfl, hfr, rfl, fun ys hy => by rw [I.list_inj hy hq]; exact hx⟩, ⟨⟨u, hE2⟩, ?_⟩, fun b hb => ?_⟩
    · exact hI1.at fun o q => (sb2.2 it (Ne.symm hne)).trans q
    · have hb' : b = e ∨ b = it := by simpa using hb
      rcases hb' with rfl | rfl
      · rw [upd_ne (Ne.symm nte)]; exact fe.1
      · rw [upd_ne (Ne.symm nti)]; exact fi.1
  done := by
    intro X hP hw hK hc i pins s σ H E I hf st hg
    subst hP hw hK
    obtain ⟨xs, hq, hx⟩ := hg
    obtain ⟨its, rv, p, hz⟩ := I.list hq
    obtain ⟨⟨old, hE⟩, hI⟩ := st
    obtain ⟨f0, f1, f2, f3, f4, f5⟩ := hf it (by simp)
    have hl := rv.length
    exact wpAny_pyNext_enum_end (I.ok.hd hc) hE hI p.isList (by simp; omega) fun h' eb => ⟨rfl, I.turned (t' := s.toks) (fun b o hb q => eb b o hb q) f0 f1 f3 f4 f5⟩
  self := fun _ _ _ _ _ st h => by
    obtain ⟨⟨old, hE⟩, _⟩ := st
    exact wpAny_pyIter_enum hE h
section
variable {X : Cx}
def iEnum (K : PySem.W.Frag) (ta : TA) : TI := fun σ H R => ta σ H fun vs H1 => ∃ a : Addr, vs = [.ref a] ∧ (∃ xs, SqL K H1 a xs) ∧ R (Ite K a) H1
theorem pi_enumerate {l : Expr} {ta : TA} {p pos : Pos} {elts : List Expr} {x1 : Nat} {p1 : Pos} (hg : Gl X "enumerate") (hm : X.mg "enumerate" = none) (ha : PA X [l] ta) (hs : starEach [l] X.env = [(false, eval l X.env)] := by rfl) :
    PI X (.Tuple elts x1 p1) (.Call (.Name "enumerate" p) [l] [] pos) (iEnum X.K ta) := by
  intro pins s σ H R I h
  refine Call_ (ld_blt I hg hm boot_enumerate (PyProof.Rows.callWith_type1 (thn (ha pos pins s σ H _ I h) fun us s1 ⟨vs, H1, I1, r1, q1⟩ => ?_) hs rfl))
  obtain ⟨a, e, ⟨xs, hq⟩, q⟩ := q1
  subst e
  cases r1 with
  | cons r rr =>
    cases rr
    cases r
    obtain ⟨its, rv, p, hz⟩ := I1.list hq
    refine call_enumerate_list p.isList fun h' hE hI hsz hk => wpAny_pyIter_enum hE ?_
    refine ⟨s1.heap.objs.size + 1, [s1.heap.objs.size + 1, s1.heap.objs.size], _, _, H1, rfl, I1.kept (t' := s1.toks) fun b o e => hk b o e, turn_enum a _ _ (Nat.succ_ne_self _), ⟨⟨_, hE⟩, hI⟩, fun b hb => ?_, q⟩
    have hb' : b = s1.heap.objs.size + 1 ∨ b = s1.heap.objs.size := by simpa using hb
    rcases hb' with rfl | rfl
    · exact I1.fpOk (Nat.le_succ _) (I1.hok.fresh (Nat.le_succ _))
    · exact I1.fpOk (Nat.le_refl _) (I1.hok.fresh (Nat.le_refl _))
end
/-- over enumerate(xs), nothing tested -/
theorem lc_enum0 {K : PySem.W.Frag} {a : Addr} {xs : List V} {te : TE} {σ : St} {F : List V → Hp → Prop} {H : Hp} (Pv : Nat → List V → Hp → Prop) (h0 : Pv 0 [] H) (hz : ∀ i ys H, Pv i ys H → ys.length ≤ i) (hn : xs.length ≤ sizeLine)
    (hl : ∀ i ys H, i ≤ xs.length → Pv i ys H → SqL K H a xs)
    (hs : ∀ i x ys H t, xs[i]? = some x → H t = none → Pv i ys H → te (σ ++ [some (.int (i : Nat)), some x]) (upd H t (.tup [.int (i : Nat), x])) fun y H5 => Pv (i + 1) (ys ++ [y]) H5)
    (hd : ∀ ys H, Pv xs.length ys H → F ys H) : wLC2 K tYes te σ F (Ite K a) H := by
  refine ⟨fun i m ys H => m = xs.length - i ∧ i ≤ xs.length ∧ Pv i ys H, ⟨xs.length, by simp, Nat.zero_le _, h0⟩, ?_⟩
  rintro i m ys H ⟨rfl, hi, p⟩
  have q := hl i ys H hi p
  by_cases hlt : i < xs.length
  · refine .inr ⟨⟨xs, xs[i], q, by simp [hlt]⟩, Nat.lt_of_le_of_lt (hz i ys H p) (Nat.lt_of_lt_of_le hlt hn), Pv (i + 1), fun ys' H' q => ⟨xs.length - (i + 1), by omega, rfl, hlt, q⟩, fun v H3 y => ?_⟩
    obtain ⟨t, x, rfl, ht, rfl, y⟩ := y
    exact ⟨t, _, _, rfl, SqT.of upd_same, iteT (B := Pv (i + 1) ys (upd H t (.tup [.int (i : Nat), x]))) (hs i x ys H t (y xs q) ht p)⟩
  · have e : i = xs.length := by omega
    subst e
    exact .inl ⟨⟨xs, q, Nat.le_refl _⟩, hd ys H p⟩
end L2

set_option linter.all false
namespace My
/-! ### all lists with given counts, by going through them -/
theorem lex_asym : ∀ a b : List Int, lexLt a b = true → lexLt b a = false
  | [], [], h => by cases h
  | [], _ :: _, _ => rfl
  | _ :: _, [], h => by cases h
  | x :: r, y :: s, h => by
    unfold lexLt at h ⊢
    simp only [Bool.or_eq_true, Bool.and_eq_true, decide_eq_true_eq] at h
    rcases h with h | ⟨rfl, h⟩
    · have h1 : ¬ y < x := by omega
      have h2 : ¬ y = x := by omega
      simp [h1, h2]
    · simp [lex_asym r s h]
theorem lexLt_app : ∀ (a b u v : List Int), a.length = b.length → lexLt a b = true → lexLt (a ++ u) (b ++ v) = true
  | [], [], _, _, _, h => by cases h
  | [], _ :: _, _, _, h, _ => by cases h
  | _ :: _, [], _, _, h, _ => by cases h
  | x :: r, y :: s, u, v, hl, h => by
    show (decide (x < y) || (decide (x = y) && lexLt (r ++ u) (s ++ v))) = true
    unfold lexLt at h
    simp only [Bool.or_eq_true, Bool.and_eq_true, decide_eq_true_eq] at h ⊢
    rcases h with h | ⟨h1, h⟩
    · exact .inl h
    · exact .inr ⟨h1, lexLt_app r s u v (by simpa using hl) h⟩
theorem lexLt_last (x y : Int) (h : x < y) : ∀ a : List Int, lexLt (a ++ [x]) (a ++ [y]) = true
  | [] => by simp [lexLt, h]
  | z :: r => by
    show (decide (z < z) || (decide (z = z) && lexLt (r ++ [x]) (r ++ [y]))) = true
    simp [lexLt_last x y h r]
theorem lex_ext : ∀ l1 l2 : List (List Int), (l1.Pairwise fun a b => lexLt a b = true) → (l2.Pairwise fun a b => lexLt a b = true) → (∀ x, x ∈ l1 ↔ x ∈ l2) → l1 = l2
  | [], [], _, _, _ => rfl
  | [], b :: s, _, _, h => absurd ((h b).mpr (by simp)) (by simp)
  | a :: r, [], _, _, h => absurd ((h a).mp (by simp)) (by simp)
  | a :: r, b :: s, p1, p2, h => by
    obtain ⟨a1, q1⟩ := List.pairwise_cons.mp p1
    obtain ⟨a2, q2⟩ := List.pairwise_cons.mp p2
    have e : a = b := by
      rcases List.mem_cons.mp ((h a).mp (by simp)) with e | e
      · exact e
      · rcases List.mem_cons.mp ((h b).mpr (by simp)) with e' | e'
        · exact e'.symm
        · have z1 := a2 a e
          have z2 := lex_asym _ _ (a1 b e')
          rw [z1] at z2
          cases z2
    subst e
    have ir : ∀ {l : List (List Int)} {x : List Int}, (∀ y ∈ l, lexLt a y = true) → x ∈ l → x ≠ a := fun h1 h2 e => by
      have := h1 _ h2
      rw [e, lexLt_irrefl] at this
      cases this
    rw [lex_ext r s q1 q2 fun x => ⟨fun hx => ?_, fun hx => ?_⟩]
    · rcases List.mem_cons.mp ((h x).mp (List.mem_cons_of_mem _ hx)) with e | e
      · exact absurd e (ir a1 hx)
      · exact e
    · rcases List.mem_cons.mp ((h x).mpr (List.mem_cons_of_mem _ hx)) with e | e
      · exact absurd e (ir a2 hx)
      · exact e
/-- the lists that are one number longer -/
def stepOne (c : List Nat) (one : List Int) : List (List Int) := ((List.range c.length).filter fun (i : Nat) => decide (one.count (i : Int) < c.getD i 0)).map fun i : Nat => one ++ [(i : Int)]
def listsT (c : List Nat) : Nat → List (List Int)
  | 0 => [[]]
  | t + 1 => (listsT c t).flatMap (stepOne c)
theorem count_one (i j : Nat) : [(i : Int)].count (j : Int) = if i = j then 1 else 0 := by
  rw [List.count_singleton]
  by_cases e : i = j
  · subst e
    simp
  · rw [if_neg e, if_neg (by simp; omega)]
theorem mem_stepOne {c : List Nat} {one x : List Int} : x ∈ stepOne c one ↔ ∃ i : Nat, i < c.length ∧ one.count (i : Int) < c.getD i 0 ∧ x = one ++ [(i : Int)] := by
  unfold stepOne
  rw [List.mem_map]
  constructor
  · rintro ⟨i, hi, rfl⟩
    obtain ⟨h1, h2⟩ := List.mem_filter.mp hi
    exact ⟨i, List.mem_range.mp h1, of_decide_eq_true h2, rfl⟩
  · rintro ⟨i, h1, h2, rfl⟩
    exact ⟨i, List.mem_filter.mpr ⟨List.mem_range.mpr h1, decide_eq_true h2⟩, rfl⟩
theorem mem_listsT (c : List Nat) : ∀ (t : Nat) (one : List Int), one ∈ listsT c t ↔ one.length = t ∧ (∀ x ∈ one, 0 ≤ x ∧ x < (c.length : Int)) ∧ ∀ i, i < c.length → one.count (i : Int) ≤ c.getD i 0
  | 0, one => by
    unfold listsT
    rw [List.mem_singleton]
    constructor
    · rintro rfl
      exact ⟨rfl, fun _ z => (nomatch z), fun i _ => Nat.zero_le _⟩
    · exact fun h => List.length_eq_zero_iff.mp h.1
  | t + 1, one => by
    unfold listsT
    rw [List.mem_flatMap]
    constructor
    · rintro ⟨a, ha, hx⟩
      obtain ⟨i, h1, h2, rfl⟩ := mem_stepOne.mp hx
      obtain ⟨k1, k2, k3⟩ := (mem_listsT c t a).mp ha
      refine ⟨by rw [List.length_append, k1]; rfl, fun x hx => ?_, fun j hj => ?_⟩
      · rcases List.mem_append.mp hx with z | z
        · exact k2 x z
        · rw [List.mem_singleton.mp z]
          exact ⟨by omega, by omega⟩
      · rw [List.count_append, count_one]
        have := k3 j hj
        by_cases e : i = j
        · subst e
          rw [if_pos rfl]
          omega
        · rw [if_neg e]
          exact this
    · rintro ⟨h1, h2, h3⟩
      have hne : one ≠ [] := fun e => by rw [e] at h1; cases h1
      have e := List.dropLast_concat_getLast hne
      have hl := h2 _ (List.getLast_mem hne)
      generalize one.getLast hne = y at e hl
      generalize one.dropLast = a at e
      subst e
      obtain ⟨i, rfl⟩ := Int.eq_ofNat_of_zero_le hl.1
      have hi : i < c.length := by omega
      refine ⟨a, (mem_listsT c t a).mpr ⟨by simpa using h1, fun x hx => h2 x (List.mem_append_left _ hx), fun j hj => ?_⟩, mem_stepOne.mpr ⟨i, hi, ?_, rfl⟩⟩
      · have := h3 j hj
        rw [List.count_append] at this
        omega
      · have := h3 i hi
        rw [List.count_append, count_one, if_pos rfl] at this
        omega
theorem listsT_lex (c : List Nat) : ∀ t : Nat, (listsT c t).Pairwise fun a b => lexLt a b = true
  | 0 => by
    unfold listsT
    exact List.pairwise_singleton ..
  | t + 1 => by
    unfold listsT
    rw [List.pairwise_flatMap]
    refine ⟨fun a _ => ?_, List.Pairwise.imp_of_mem (fun {a b} ha hb hab x hx y hy => ?_) (listsT_lex c t)⟩
    · unfold stepOne
      rw [List.pairwise_map]
      refine List.Pairwise.filter _ (List.Pairwise.imp (fun {i j} h => ?_) List.pairwise_lt_range)
      exact lexLt_last _ _ (by omega) a
    · obtain ⟨i, _, _, rfl⟩ := mem_stepOne.mp hx
      obtain ⟨j, _, _, rfl⟩ := mem_stepOne.mp hy
      exact lexLt_app _ _ _ _ (by rw [((mem_listsT c t a).mp ha).1, ((mem_listsT c t b).mp hb).1]) hab
theorem sum_le_eq : ∀ c d : List Nat, c.length = d.length → (∀ i, i < d.length → c.getD i 0 ≤ d.getD i 0) → c.sum ≤ d.sum ∧ (c.sum = d.sum → c = d)
  | [], [], _, _ => ⟨Nat.le_refl _, fun _ => rfl⟩
  | [], _ :: _, h, _ => by cases h
  | _ :: _, [], h, _ => by cases h
  | a :: c, b :: d, hl, h => by
    obtain ⟨h1, h2⟩ := sum_le_eq c d (by simpa using hl) fun i hi => by
      have := h (i + 1) (by simp; omega)
      simpa using this
    have h0 : a ≤ b := by
      have := h 0 (by simp)
      simpa using this
    rw [List.sum_cons, List.sum_cons]
    refine ⟨by omega, fun e => ?_⟩
    rw [h2 (by omega), show a = b by omega]
/-- with all counts used up -/
theorem mem_lists {c : List Nat} {ws : List Int} : ws ∈ listsT c c.sum ↔ (∀ x ∈ ws, 0 ≤ x ∧ x < (c.length : Int)) ∧ cntN c.length ws = c := by
  rw [mem_listsT]
  constructor
  · rintro ⟨h1, h2, h3⟩
    refine ⟨h2, (sum_le_eq _ _ (cntN_len _ _) fun i hi => ?_).2 ?_⟩
    · rw [cntN_getD hi]
      exact h3 i hi
    · rw [cntN_sum _ _ h2, h1]
  · rintro ⟨h2, h3⟩
    refine ⟨?_, h2, fun i hi => ?_⟩
    · rw [← cntN_sum _ _ h2, h3]
    · rw [← cntN_getD hi, h3]
      exact Nat.le_refl _
/-- all words with these counts, in order -/
def allW (c : List Nat) : List (List Int) := if wt 0 c < c.sum then wordsL c.sum (c.sum - wt 0 c) c else []
theorem allW_len (c : List Nat) : (allW c).length = hm c := by
  unfold allW hm
  split
  · exact wordsL_len _ _ _
  · rfl
theorem allW_lex (c : List Nat) : (allW c).Pairwise fun a b => lexLt a b = true := by
  unfold allW
  split
  · exact wordsL_lex _ _ _
  · exact List.Pairwise.nil
theorem allW_zs (c : List Nat) (z : Nat) : allW (c ++ zs z) = allW c := by
  unfold allW
  rw [sum_zs, wt_zs, wordsL_zs]
theorem lists_words {c : List Nat} {M : Nat} (hc : c.length = M + 1) (hM : 0 < c.getD M 0) : (listsT c c.sum).filter Gr.isWord = allW c := by
  refine lex_ext _ _ (List.Pairwise.filter _ (listsT_lex c _)) (allW_lex c) fun ws => ?_
  rw [List.mem_filter, mem_lists]
  constructor
  · rintro ⟨⟨h1, h2⟩, h3⟩
    obtain ⟨g, g1, rfl⟩ := Gr.isWord_iff.mp h3
    rw [hc] at h1 h2
    have ht : (M : Int) ∈ g.word := by
      refine List.count_pos_iff.mp ?_
      rw [← cntN_getD (m := M + 1) (by omega), h2]
      exact hM
    have wc := wc_grove g1 ht fun x hx => by have := (h1 x hx).2; omega
    have e1 := wc.csum
    have e2 := wc.cwt
    have e3 := wc.mem
    have e4 := wc.pos
    rw [h2] at e1 e2 e3
    unfold allW
    rw [if_pos (by omega), e1, show g.size - wt 0 c = g.len by omega]
    exact e3
  · intro h
    unfold allW at h
    split at h
    · rename_i hlt
      obtain ⟨h1, h2, h3⟩ := (mem_wordsL _ _ _ ws rfl).mp h
      obtain ⟨g, g1, rfl⟩ := Gr.chk_iff.mp h1
      refine ⟨⟨fun x hx => ⟨g.word_nonneg x hx, h2 x hx⟩, h3⟩, Gr.isWord_iff.mpr ⟨g, ?_, rfl⟩⟩
      rintro rfl
      have : (0 : Nat) = c.sum - wt 0 c := g1
      omega
    · cases h
theorem lists_trees {c : List Nat} {ws : List Int} (h : ws ∈ listsT c c.sum) : (ws.length : Int) - ws.sum = (c.sum : Int) - wt 0 c := by
  obtain ⟨h1, h2⟩ := mem_lists.mp h
  have e1 := cntN_sum _ _ h1
  have e2 := cntN_wt _ _ h1
  rw [h2] at e1 e2
  omega
theorem stepOne_len (c : List Nat) (one : List Int) : (stepOne c one).length ≤ c.length := by
  unfold stepOne
  rw [List.length_map]
  refine Nat.le_trans (List.length_filter_le _ _) ?_
  rw [List.length_range]
  exact Nat.le_refl _
theorem flatMap_le {α β : Type} (f : α → List β) (m : Nat) (h : ∀ a, (f a).length ≤ m) : ∀ l : List α, (l.flatMap f).length ≤ l.length * m
  | [] => by simp
  | a :: l => by
    rw [List.flatMap_cons, List.length_append, List.length_cons, Nat.add_mul, Nat.one_mul]
    have := h a
    have := flatMap_le f m h l
    omega
theorem listsT_len (c : List Nat) (m : Nat) (h : c.length ≤ m) : ∀ t : Nat, (listsT c t).length ≤ m ^ t
  | 0 => by simp [listsT]
  | t + 1 => by
    unfold listsT
    refine Nat.le_trans (flatMap_le _ m (fun a => Nat.le_trans (stepOne_len c a) h) _) ?_
    rw [Nat.pow_succ]
    exact Nat.mul_le_mul_right _ (listsT_len c m h t)
end My

set_option Elab.async false
set_option linter.all false
set_option maxRecDepth 100000
set_option maxHeartbeats 4000000
namespace L2
open PySem PySem.Spec PyProof.Rows
section
variable {X : Cx}
def rCountL (K : PySem.W.Frag) : V → List V → Hp → VK → Prop := fun x vs H Q => ∃ (l : Addr) (ns : List Int) (k : Int), x = .ref l ∧ vs = [.int k] ∧ SqL K H l (ns.map V.int) ∧ Q (.int (ns.count k : Nat)) H
/-- list.count of a number -/
theorem mt_count : MtM X "list.count" (rCountL X.K) := by
  intro pins s σ H x vs v us Q I rx rv h
  obtain ⟨l, ns, k, rfl, rfl, hH, q⟩ := h
  cases rx
  obtain ⟨u, rfl, t, rfl⟩ := rv.one
  obtain ⟨its, r, pl, hz⟩ := I.list hH
  have hi := intsAre_of r
  have hl := pl.isList
  obtain ⟨⟨cls, dd, data, sl⟩, ho, hc, n, hd⟩ := id hl
  simp only at hc hd
  subst hc hd
  refine call_meets PySem.F.slot_list_count ⟨_, ho, rfl⟩ PySem.F.entry_list_count (PySem.F.args_list_count_2 _ _)
    (SeqAt.list_countAt l its.toArray n dd sl (.int k t) (isInt k)) ⟨ho, fun y hy => (eq_isInt k t hi y (by simpa using hy)).at _ _, ?_⟩
  rw [show its.toArray.toList = its from rfl, countP_isInt k hi]
  exact ⟨.int (ns.count k : Nat), H, I.tok _, ⟨_, rfl⟩, q⟩
end
end L2
namespace My
open PySem PySem.Spec PyProof.Rows PySem.SeqAt L2
/-! ### lists of lists of numbers -/
def LL (H : Hp) : List V → List (List Int) → Prop
  | [], [] => True
  | v :: vs, w :: ws => (∃ b : Addr, v = .ref b ∧ H b = some (.lst (w.map V.int))) ∧ LL H vs ws
  | _, _ => False
theorem LL.same {H H' : Hp} (g : Same H H') : ∀ {vs : List V} {ws : List (List Int)}, LL H vs ws → LL H' vs ws
  | [], [], _ => trivial
  | _ :: _, _ :: _, ⟨⟨b, e, h⟩, r⟩ => ⟨⟨b, e, g _ _ h⟩, LL.same g r⟩
  | [], _ :: _, h => h.elim
  | _ :: _, [], h => h.elim
theorem LL.len {H : Hp} : ∀ {vs : List V} {ws : List (List Int)}, LL H vs ws → vs.length = ws.length
  | [], [], _ => rfl
  | _ :: _, _ :: _, ⟨_, r⟩ => by rw [List.length_cons, List.length_cons, LL.len r]
  | [], _ :: _, h => h.elim
  | _ :: _, [], h => h.elim
theorem LL.snoc {H : Hp} {b : Addr} {w : List Int} (hb : H b = some (.lst (w.map V.int))) : ∀ {vs : List V} {ws : List (List Int)}, LL H vs ws → LL H (vs ++ [.ref b]) (ws ++ [w])
  | [], [], _ => ⟨⟨b, rfl, hb⟩, trivial⟩
  | _ :: _, _ :: _, ⟨h, r⟩ => ⟨h, LL.snoc hb r⟩
  | [], _ :: _, h => h.elim
  | _ :: _, [], h => h.elim
theorem LL.get {H : Hp} : ∀ {vs : List V} {ws : List (List Int)} {i : Nat} {v : V}, LL H vs ws → vs[i]? = some v → ∃ (b : Addr) (w : List Int), v = .ref b ∧ H b = some (.lst (w.map V.int)) ∧ ws[i]? = some w
  | [], [], _, _, _, h => by cases h
  | x :: _, w :: _, 0, v, ⟨⟨b, e, h⟩, _⟩, hv => by
    cases hv
    exact ⟨b, w, e, h, rfl⟩
  | x :: vs, w :: ws, i + 1, v, ⟨_, r⟩, hv => by
    obtain ⟨b, w', e1, e2, e3⟩ := LL.get (i := i) r (by simpa using hv)
    exact ⟨b, w', e1, e2, by simpa using e3⟩
  | [], _ :: _, _, _, h, _ => h.elim
  | _ :: _, [], _, _, h, _ => h.elim
def dataL (ws : List (List Int)) : List PyData := ws.map fun w => .list (w.map PyData.int)
theorem LL.rd {H : Hp} : ∀ {vs : List V} {ws : List (List Int)}, LL H vs ws → RdAll H vs (dataL ws)
  | [], [], _ => .nil
  | _ :: _, _ :: _, ⟨⟨b, e, h⟩, r⟩ => by
    subst e
    exact .cons (.lst h (rdAll_ints _)) (LL.rd r)
  | [], _ :: _, h => h.elim
  | _ :: _, [], h => h.elim
theorem dataL_lay : ∀ ws : List (List Int), PyData.canLayAll0 (dataL ws) = true
  | [] => by simp [dataL, PyData.canLayAll0]
  | w :: r => by
    have h := dataL_lay r
    unfold dataL at h ⊢
    simp only [List.map_cons, PyData.canLayAll0, PyData.canLay0, ints_lay w, h, Bool.and_self]
theorem dataL_depth : ∀ ws : List (List Int), PyData.depthAll (dataL ws) ≤ 1
  | [] => by simp [dataL, PyData.depthAll]
  | w :: r => by
    have h := dataL_depth r
    unfold dataL at h ⊢
    simp only [List.map_cons, PyData.depthAll, PyData.depth, ints_depth w]
    omega
theorem dataL_mix : ∀ ws us : List (List Int), noMixAll (dataL ws) (dataL us) = true
  | [], [] => by simp [dataL, noMixAll]
  | [], _ :: _ => by simp [dataL, noMixAll]
  | _ :: _, [] => by simp [dataL, noMixAll]
  | w :: r, u :: s => by
    have h := dataL_mix r s
    unfold dataL at h ⊢
    simp only [List.map_cons, noMixAll, noMix, ints_mix w u, h, Bool.and_self]
theorem shaped_lists (ws : List (List Int)) : shaped (.list (dataL ws)) = true := by
  have h1 := dataL_lay ws
  have h2 := dataL_depth ws
  unfold shaped
  have h3 : PyData.depthAll (dataL ws) = 0 ∨ PyData.depthAll (dataL ws) = 1 := by omega
  rcases h3 with h3 | h3 <;> simp only [PyData.canLay0, PyData.depth, h1, h3, Bool.true_and, decide_eq_true_eq] <;> omega
/-- two lists of the same lists are equal -/
theorem eq_lists {H : Hp} {a b : Addr} {xs ys : List V} {ws : List (List Int)} {Q : VK} {f : Bool → Bool} (ha : H a = some (.lst xs)) (hb : H b = some (.lst ys)) (la : LL H xs ws) (lb : LL H ys ws) (q : Q (.bl (f true)) H) : rEqD f (.ref a) (.ref b) H Q := by
  refine ⟨_, _, .lst ha la.rd, .lst hb lb.rd, shaped_lists ws, shaped_lists ws, ?_, ?_⟩
  · simp only [noMix, dataL_mix]
  · rw [PySem.Spec.same_self]
    exact q
end My

set_option Elab.async false
set_option linter.all false
set_option maxRecDepth 100000
set_option maxHeartbeats 4000000
namespace PySem
section
variable {prog : Program} {w : World} {A : Around} {E : Value → Shared → Prop} {s : Shared} {R : Result → Shared → Prop}
variable {I : Addr} {fp wr : List Addr} {G : Array GenState → Array GenState → Prop} {n : Nat} {P : Nat → Value → Prop} {St : Nat → Shared → Prop}

/-- an iterator is asked how much is left, and nothing else happens -/
def HintOk (prog : Program) (w : World) (A : Around) (I : Addr) (St : Nat → Shared → Prop) : Prop :=
  ∀ (r : Shared) (Q : Bool → Shared → Prop) (E : Value → Shared → Prop), St 0 r → (∀ b tk, r.toks ≤ tk → Q b { r with toks := tk }) → wpAny (model prog w) A (Builtin.List.listLengthHint (.ref I)) Q E r

/-- room is made in an empty list -/
theorem touch_new {D : Addr} {c0 : Nat} {Q : Unit → Shared → Prop} (hD : s.heap.get? D = some { cls := .type "list", data := .seq #[] c0 })
    (q : ∀ h' c', h'.get? D = some { cls := .type "list", data := .seq #[] c' } → (∀ b o, b ≠ D → s.heap.get? b = some o → h'.get? b = some o) → Q () { s with heap := h' }) : wpAny (model prog w) A (Builtin.List.listTouch (.ref D)) Q E s := by
  show wpAny _ A (updateSeq D (fun x => x.push .none) >>= fun _ => updateSeq D (fun x => x.pop)) _ _ _
  refine wpAny_bind (wpAny_updateSeq hD rfl ?_)
  have d1 := Heap.get?_update_self (Obj.mapSeq (fun x => x.push Value.none)) hD rfl
  refine wpAny_updateSeq (hz := by seq_fits) d1 rfl ?_
  have d2 := Heap.get?_update_self (Obj.mapSeq (fun x => x.pop)) d1 rfl
  exact q _ _ d2 fun b o ne e => (Heap.get?_update_other _ _ (Ne.symm ne)).trans ((Heap.get?_update_other _ _ (Ne.symm ne)).trans e)

/-- an iterator's items into an empty list -/
theorem ext_by {T : String} (tm : T = "list_reverseiterator" ∨ T = "reversed") (W : WalksS prog w A.in1 I fp wr G n P St) (ty : ∀ i r, St i r → r.TypeIs (.ref I) T) (hi : HintOk prog w A.in1 I St) (D : Addr) (res : Value) (c0 : Nat) (st : St 0 s) (nf : D ∉ fp) (mi : I ∈ fp)
    (hD : s.heap.get? D = some { cls := .type "list", data := .seq #[] c0 })
    (k : ∀ s' acc c', Moved (D :: wr) G s s' → s'.heap.get? D = some { cls := .type "list", dict := none, data := .seq acc c', slots := #[] } → ItemsOf P acc n → R (.ok (.ret res)) s') (hn : n ≤ sizeLine) :
    wpAny (model prog w) A.in1 (Builtin.List.listExtendWith (.ref D) (.ref I) res)
      (fun fin r => match fin with | .done f => R (.ok f) r | .again d => d.quiet = true ∧ codeAny (model prog w) A d R r) (fun e r => R (.error e) r) s := by
  have ne : D ≠ I := fun e => nf (e ▸ mi)
  have h1 : Builtin.List.listSameRef (.ref D) (.ref I) = false := by simp [Builtin.List.listSameRef, ne]
  unfold Builtin.List.listExtendWith
  refine wpAny_bind (wpAny_typeOf (ty 0 _ st) ?_)
  rcases tm with rfl | rfl
  all_goals
    rw [if_neg (by rw [h1]; decide)]
    refine wpAny_bind (W.self 0 _ _ _ st ?_)
    refine wpAny_bind (wpAny_holding (hi _ _ _ st fun b tk htk => ?_))
    have st1 := W.frame 0 s s.heap tk st htk fun _ _ _ e => e
    have mv : Moved (D :: wr) G s { s with toks := tk } := (Moved.refl W.grefl).then_heap htk fun _ _ _ e => e
    cases b
    · rw [if_neg (by decide)]
      exact wpAny_pure ⟨plainId_quiet F.plain_extend_loop _, codeAny_extend_loopS W hn _ nf _ n 0 _ _ _ rfl (Nat.zero_le _) st1 hD (ItemsOf.nil P) fun s' acc c' m1 d1 i1 => k s' acc c' (Moved.trans W.gtrans mv m1) d1 i1⟩
    · rw [if_pos (by decide)]
      refine wpAny_bind (wpAny_rule ?_)
      refine wpAny_bind (touch_new (c0 := c0) hD fun h' c' d1 ot => ?_)
      have mv2 : Moved (D :: wr) G { s with toks := tk } { s with heap := h', toks := tk } := (Moved.refl W.grefl).then_heap (Nat.le_refl _) fun b o nb e => ot b o (fun z => nb (z ▸ List.mem_cons_self)) e
      have st2 := W.frame 0 _ h' tk st1 (Nat.le_refl _) fun b mb o e => ot b o (fun z => nf (z ▸ mb)) e
      exact wpAny_pure ⟨plainId_quiet F.plain_extend_loop _, codeAny_extend_loopS W hn _ nf _ n 0 _ _ _ rfl (Nat.zero_le _) st2 d1 (ItemsOf.nil P) fun s' acc c' m1 d1 i1 => k s' acc c' (Moved.trans W.gtrans (Moved.trans W.gtrans mv mv2) m1) d1 i1⟩
/-- list(it) -/
theorem list_by {Q : Value → Shared → Prop} {T : String} (tm : T = "list_reverseiterator" ∨ T = "reversed") (W : WalksS prog w A.in1.in1 I fp wr G n P St) (ty : ∀ i r, St i r → r.TypeIs (.ref I) T) (hi : HintOk prog w A.in1.in1 I St) (st : St 0 s) (lt : ∀ b ∈ fp, b < s.heap.objs.size) (mi : I ∈ fp)
    (q : ∀ s' acc c', Moved (s.heap.objs.size :: wr) G { s with heap := s.heap.push { cls := .type "list", data := .seq #[] } } s' →
      s'.heap.get? s.heap.objs.size = some { cls := .type "list", dict := none, data := .seq acc c', slots := #[] } → ItemsOf P acc n → Q (.ref s.heap.objs.size) s') (hn : n ≤ sizeLine) :
    wpAny (model prog w) A (call (.type "list") [.ref I]) Q E s := by
  have nf : s.heap.objs.size ∉ fp := fun z => Nat.lt_irrefl _ (lt _ z)
  refine callType_codes (Q₁ := fun x r => x = .ref s.heap.objs.size ∧ r = { s with heap := s.heap.push { cls := .type "list", data := .seq #[] } }) F.called_list (F.typeCall_list_1 _) F.entry_list_init (code_list_new _ ⟨rfl, rfl⟩) fun x r hx => ?_
  obtain ⟨rfl, rfl⟩ := hx
  have d0 : (s.heap.push { cls := .type "list", data := .seq #[] }).get? s.heap.objs.size = some { cls := .type "list", data := .seq #[] } := Heap.get?_push_size _ rfl
  refine ⟨⟨_, d0, rfl⟩, F.args_list_init_2 _ _, ?_⟩
  show wpAny _ A.in1.in1 (do let old ← Builtin.List.listItems (.ref s.heap.objs.size); Builtin.List.listUpdate (.ref s.heap.objs.size) (fun _ => #[]); letGo old.toList.reverse; Builtin.List.listExtendWith (.ref s.heap.objs.size) (.ref I) .none) _ _ _
  refine wpAny_bind ?_
  unfold Builtin.List.listItems
  refine wpAny_bind (wpAny_seqItems d0 rfl (wpAny_pure ?_))
  show wpAny _ A.in1.in1 (updateSeq s.heap.objs.size (fun _ => #[]) >>= fun _ => letGo (#[] : Array Value).toList.reverse >>= fun _ => Builtin.List.listExtendWith (.ref s.heap.objs.size) (.ref I) .none) _ _ _
  refine wpAny_bind (wpAny_updateSeq d0 rfl ?_)
  have d1 := Heap.get?_update_self (Obj.mapSeq (fun _ => (#[] : Array Value))) d0 rfl
  have ot : ∀ b o, b ≠ s.heap.objs.size → (s.heap.push { cls := .type "list", data := .seq #[] }).get? b = some o → ((s.heap.push { cls := .type "list", data := .seq #[] }).update s.heap.objs.size (Obj.mapSeq (fun _ => (#[] : Array Value)))).get? b = some o :=
    fun b o nb e => (Heap.get?_update_other _ _ (Ne.symm nb)).trans e
  have st0 := W.frame 0 s (s.heap.push { cls := .type "list", data := .seq #[] }) s.toks st (Nat.le_refl _) fun b _ o e => Heap.get?_push_of_some _ e
  refine wpAny_bind (wpAny_letGo ?_)
  refine ext_by tm W ty hi s.heap.objs.size .none _ (W.frame 0 ({ s with heap := s.heap.push { cls := .type "list", data := .seq #[] } } : Shared) _ s.toks st0 (Nat.le_refl _) fun b mb o e => ot b o (fun z => nf (z ▸ mb)) e) nf mi d1 (fun s' acc c' m1 d2 i1 => ⟨rfl, ?_⟩) hn
  exact q s' acc c' (Moved.trans W.gtrans ((Moved.refl W.grefl).then_heap (Nat.le_refl _) fun b o nb e => ot b o (fun z => nb (z ▸ List.mem_cons_self)) e) m1) d2 i1
/-- all items of an iterator -/
theorem collect_by {Q : List Value → Shared → Prop} {T : String} (tm : T = "list_reverseiterator" ∨ T = "reversed") (W : WalksS prog w A.in1 I fp wr G n P St) (ty : ∀ i r, St i r → r.TypeIs (.ref I) T) (hi : HintOk prog w A.in1 I St) (st : St 0 s) (lt : ∀ b ∈ fp, b < s.heap.objs.size) (mi : I ∈ fp)
    (q : ∀ s' acc, Moved wr G s s' → ItemsOf P acc n → Q acc.toList s') (hn : n ≤ sizeLine) : wpAny (model prog w) A (collect (.ref I)) Q E s := by
  have nf : s.heap.objs.size ∉ fp := fun z => Nat.lt_irrefl _ (lt _ z)
  unfold collect
  refine wpAny_bind (wpAny_runValue (codeAny_builtin F.entry_proto_collect ?_))
  rw [Around.under_plainId F.plain_proto_collect _]
  show wpAny _ A.in1 (newList [] >>= fun v => again (.builtin "list.__iadd__" ⟨[v, .ref I], []⟩)) _ _ s
  refine wpAny_bind (wpAny_newObj_type (wpAny_pure ⟨plainId_quiet F.plain_list_iadd _, codeAny_builtin F.entry_list_iadd ?_⟩))
  rw [Around.under_plainId F.plain_list_iadd _]
  have st0 := W.frame 0 s (s.heap.push { cls := .type "list", data := .seq ([] : List Value).toArray }) s.toks st (Nat.le_refl _) fun b _ o e => Heap.get?_push_of_some _ e
  have d0 : (s.heap.push { cls := .type "list", data := .seq ([] : List Value).toArray }).get? s.heap.objs.size = some { cls := .type "list", data := .seq #[] 0 } := Heap.get?_push_size _ rfl
  show wpAny _ A.in1 (Builtin.List.listExtendWith (.ref s.heap.objs.size) (.ref I) (.ref s.heap.objs.size)) _ _ _
  have fin : ∀ s' acc c', Moved (s.heap.objs.size :: wr) G { s with heap := s.heap.push { cls := .type "list", data := .seq ([] : List Value).toArray } } s' → s'.heap.get? s.heap.objs.size = some { cls := .type "list", dict := none, data := .seq acc c', slots := #[] } → ItemsOf P acc n →
      wpAny (model prog w) A (match Value.ref s.heap.objs.size with
        | Value.ref a => do
          match (← load a).data with
            | Data.seq xs _ => pure xs.toList
            | _ => unsupported "internal:collect"
        | _ => unsupported "internal:collect") Q E s' := fun s' acc c' m1 d1 i1 => by
    show wpAny _ A (load s.heap.objs.size >>= _) _ _ s'
    exact wpAny_bind (wpAny_load d1 (wpAny_pure (q s' acc (Moved.drop_new (o := { cls := .type "list", data := .seq ([] : List Value).toArray }) (tk := s.toks) m1 (Nat.le_refl _)) i1)))
  refine wpAny_mono (ext_by (A := A) (R := fun r s' => ∃ acc c', r = .ok (.ret (.ref s.heap.objs.size)) ∧ Moved (s.heap.objs.size :: wr) G { s with heap := s.heap.push { cls := .type "list", data := .seq ([] : List Value).toArray } } s' ∧ s'.heap.get? s.heap.objs.size = some { cls := .type "list", dict := none, data := .seq acc c', slots := #[] } ∧ ItemsOf P acc n)
    tm W ty hi s.heap.objs.size (.ref s.heap.objs.size) 0 st0 nf mi d0 (fun s' acc c' m1 d1 i1 => ⟨acc, c', rfl, m1, d1, i1⟩) hn) (fun f s' h => ?_) (fun e s' h => ?_)
  · cases f with
    | done f =>
      obtain ⟨acc, c', e, m1, d1, i1⟩ := h
      cases e
      exact fin s' acc c' m1 d1 i1
    | again d =>
      refine ⟨h.1, codeAny_mono h.2 fun r s2 hr => ?_⟩
      obtain ⟨acc, c', e, m1, d1, i1⟩ := hr
      cases e
      exact fin s2 acc c' m1 d1 i1
  · obtain ⟨_, _, e, _⟩ := h
    cases e
/-- tuple(it) -/
theorem tuple_by {Q : Value → Shared → Prop} {T : String} (tm : T = "list_reverseiterator" ∨ T = "reversed") (W : WalksS prog w A.in1.in1.in1 I fp wr G n P St) (ty : ∀ i r, St i r → r.TypeIs (.ref I) T) (hi : HintOk prog w A.in1.in1.in1 I St) (st : St 0 s) (lt : ∀ b ∈ fp, b < s.heap.objs.size) (mi : I ∈ fp)
    (q : ∀ s' acc, Moved wr G s s' → ItemsOf P acc n → Q (.ref s'.heap.objs.size) { s' with heap := s'.heap.push { cls := .type "tuple", data := .seq acc } }) (hn : n ≤ sizeLine) :
    wpAny (model prog w) A (call (.type "tuple") [.ref I]) Q E s := by
  refine callType_codes (Q₁ := fun x r => r.TypeIs x "tuple" ∧ Q x r) F.called_tuple (F.typeCall_tuple_1 _) F.entry_object_init ?_ fun x r hx => ⟨hx.1, F.args_object_init_2 x _, object_init_meets F.called_tuple.init.lookup F.called_tuple.made (by decide) prog w A.in1 _ r ⟨hx.1, rfl, hx.2⟩⟩
  refine codeAny_of_tree ?_
  show wpAny _ A.in1.in1 (do checkBuiltinCall "tuple.__new__" ⟨[.type "tuple", .ref I], []⟩; again (.builtin "tuple.__new__" ⟨[.type "tuple", .ref I], []⟩)) _ _ s
  refine wpAny_bind (wpAny_of_eq (F.newCall_tuple_1 _) (wpAny_pure ⟨plainId_quiet F.plain_tuple_new _, codeAny_builtin F.entry_tuple_new ?_⟩))
  rw [Around.under_plainId F.plain_tuple_new _]
  have e1 := sub_tuple_self
  have e2 := init_tuple_lookup
  have e3 := madeHere_tuple
  have e4 := ty 0 s st
  rcases tm with rfl | rfl
  all_goals
    wp_walk using wpAny_typeOf e4, collect_by (T := _) (by first | exact .inl rfl | exact .inr rfl) W ty hi st lt mi
    any_goals exact hn
    intro s' acc m1 i1
    show wpAny _ _ (Builtin.Tuple.tupleExact acc.toList.toArray >>= fun v => ret v) _ _ _
    unfold Builtin.Tuple.tupleExact
    refine wpAny_bind (wpAny_newObj_type ?_ (by show acc.toList.toArray.size ≤ sizeLine; rw [Array.toArray_toList, i1.1]; exact hn))
    refine wpAny_pure ?_
    rw [show acc.toList.toArray = acc by simp]
    exact ⟨⟨_, Heap.get?_push_size _ rfl, rfl⟩, q s' acc m1 i1⟩
end
end PySem

set_option Elab.async false
set_option linter.all false
set_option maxRecDepth 100000
set_option maxHeartbeats 4000000
namespace PySem
namespace F
theorem lri_nolen : typeLookup (.type "list_reverseiterator") "__len__" = pure none := by rw [typeLookup_type, builtinLookup_eq_fast]; kernel_rfl
theorem lri_hint : typeLookup (.type "list_reverseiterator") "__length_hint__" = pure (some (.builtin "list_reverseiterator.__length_hint__")) := by rw [typeLookup_type, builtinLookup_eq_fast]; kernel_rfl
end F
section
variable {prog : Program} {w : World} {A : Around} {E : Value → Shared → Prop} {s : Shared}
theorem hint_lri {I : Addr} {Q : Bool → Shared → Prop} (ty : s.TypeIs (.ref I) "list_reverseiterator") (q : Q false s) : wpAny (model prog w) A (Builtin.List.listLengthHint (.ref I)) Q E s := by
  unfold Builtin.List.listLengthHint
  refine wpAny_bind (wpAny_specialOf ty F.lri_nolen ?_)
  show wpAny _ A (specialOf (Value.ref I) (Str.ofString "__length_hint__") >>= fun _ => _) _ _ _
  refine wpAny_bind (wpAny_specialOf ty F.lri_hint ?_)
  generalize hid : ("list_reverseiterator.__length_hint__" : String) = z
  wp_delta
  rw [show splitId z = some ("list_reverseiterator", "__length_hint__") from by subst hid; decide +kernel]
  subst hid
  refine wpAny_bind (wpAny_isInstance (b := true) ty (by rw [isSubtype_type]; kernel_rfl) ?_)
  exact wpAny_pure q
theorem items_rev {items acc : Array Value} (h : ItemsOf (fun i v => items[items.size - 1 - i]? = some v) acc items.size) : acc.toList = items.toList.reverse := by
  obtain ⟨h1, h2⟩ := h
  apply List.ext_getElem?
  intro i
  by_cases hi : i < items.size
  · have e := h2 i acc[i] (by simp [h1, hi])
    rw [List.getElem?_reverse (by simpa using hi)]
    simp only [Array.getElem?_toList, Array.length_toList]
    rw [e, Array.getElem?_eq_getElem (by omega)]
  · rw [List.getElem?_eq_none (by simp; omega), List.getElem?_eq_none (by simp; omega)]
end
end PySem

namespace L2
open PySem PySem.Spec PyProof.Rows
/-- a list from its end, n of it -/
def Itv (K : PySem.W.Frag) (a : Addr) (n : Nat) : It :=
  ⟨fun i H => i < n ∧ ∃ xs x, SqL K H a xs ∧ xs[n - 1 - i]? = some x, fun i H x H' => H' = H ∧ ∀ xs, SqL K H a xs → xs[n - 1 - i]? = some x, fun i _ => i = n⟩
theorem turn_rev {P : Program} {w : World} {K : PySem.W.Frag} {tg : Expr} (a it : Addr) (n : Nat) : Turn P w K tg (Itv K a n) [it] it (fun i h => i ≤ n ∧ h.IsRevIter it a ((n : Int) - 1 - (i : Int))) where
  mem := by simp
  obj := fun i h st b hb => by
    cases List.mem_singleton.mp hb
    obtain ⟨_, o, e, c, d⟩ := st
    exact ⟨o, e, fun v z => by rw [d] at z; cases z⟩
  keep := fun i h h' st k => ⟨st.1, st.2.at fun o e => k it (by simp) o e⟩
  item := by
    intro X hP hw hK hc i pins s σ H E I hf st hg
    subst hP hw hK
    obtain ⟨hi, xs, x, hq, hx⟩ := hg
    obtain ⟨its, rv, p, hz⟩ := I.list hq
    obtain ⟨u, hu, ru⟩ := rv.get hx
    obtain ⟨f0, f1, f2, f3, f4, f5⟩ := hf it (by simp)
    have hit := st.2
    rw [show (n : Int) - 1 - (i : Int) = ((n - 1 - i : Nat) : Int) by omega] at hit
    refine wpAny_pyNext_rev_item hit p.isList (x := u) (by simpa using hu) fun h' st' sb => ?_
    rw [show ((n - 1 - i : Nat) : Int) - 1 = (n : Int) - 1 - ((i + 1 : Nat) : Int) by omega] at st'
    have I1 : Inv X pins σ H { s with heap := h' } := I.turned (t' := s.toks) (fun b o hb e => (sb.2 b hb).trans e) f0 f1 f3 f4 f5
    obtain ⟨o, e, c, d⟩ := id st'
    exact ⟨u, rfl, go_of (s := { s with heap := h' }) e c d (by decide) ⟨x, H, I1, ru, ⟨rfl, fun ys hy => by rw [I.list_inj hy hq]; exact hx⟩, ⟨hi, st'⟩, fun b hb => (hf b hb).1⟩⟩
  done := by
    intro X hP hw hK hc i pins s σ H E I hf st hg
    subst hP hw hK
    have hi : i = n := hg
    subst hi
    obtain ⟨f0, f1, f2, f3, f4, f5⟩ := hf it (by simp)
    have hit := st.2
    rw [show (i : Int) - 1 - (i : Int) = -1 by omega] at hit
    exact wpAny_pyNext_rev_end (I.ok.hd hc) hit fun h' eb => ⟨rfl, I.turned (t' := s.toks) (fun b o hb e => eb b o hb e) f0 f1 f3 f4 f5⟩
  self := fun _ _ _ _ _ st h => wpAny_pyIter_revIter st.2 h
section
variable {X : Cx} {tg : Expr}
def iRev (K : PySem.W.Frag) (ta : TA) : TI := fun σ H R => ta σ H fun vs H1 => ∃ (a : Addr) (xs : List V), vs = [.ref a] ∧ SqL K H1 a xs ∧ R (Itv K a xs.length) H1
theorem pi_reversed {l : Expr} {ta : TA} {p pos : Pos} (hg : Gl X "reversed") (hm : X.mg "reversed" = none) (ha : PA X [l] ta) (hs : starEach [l] X.env = [(false, eval l X.env)] := by rfl) :
    PI X tg (.Call (.Name "reversed" p) [l] [] pos) (iRev X.K ta) := by
  intro pins s σ H R I h
  refine Call_ (ld_blt I hg hm boot_reversed (PyProof.Rows.callWith_type1 (thn (ha pos pins s σ H _ I h) fun us s1 ⟨vs, H1, I1, r1, q1⟩ => ?_) hs rfl))
  obtain ⟨a, xs, rfl, hq, q⟩ := q1
  obtain ⟨u, rfl, rx⟩ := vals1 r1
  cases rx
  obtain ⟨its, rv, p, hz⟩ := I1.list hq
  have hl := rv.length
  refine call_reversed_list p.isList ?_
  have hit : (s1.heap.push (revObj a ((its.toArray.size : Int) - 1))).IsRevIter s1.heap.objs.size a ((its.toArray.size : Int) - 1) := ⟨_, Heap.get?_push_size _ rfl, rfl, rfl⟩
  refine wpAny_pyIter_revIter hit ?_
  refine ⟨s1.heap.objs.size, [s1.heap.objs.size], _, _, H1, rfl, I1.kept (t' := s1.toks) fun b o e => Heap.get?_push_of_some _ e, turn_rev a _ xs.length, ⟨Nat.zero_le _, ?_⟩, fun b hb => ?_, q⟩
  · rw [show (xs.length : Int) - 1 - ((0 : Nat) : Int) = (its.toArray.size : Int) - 1 by rw [List.size_toArray, hl]; omega]
    exact hit
  · cases List.mem_singleton.mp hb
    exact I1.fpOk (Nat.le_refl _) (I1.hok.fresh (Nat.le_refl _))
/-- over reversed(l), l a list that the body leaves as it is -/
theorem for_rev {K : PySem.W.Frag} {a : Addr} {xs : List V} {g : TG} {tb : TS} {D : Ends} {σ : St} {H : Hp} (Pv : Nat → St → Hp → Prop) (h0 : Pv 0 σ H) (hl : ∀ i σ H, i ≤ xs.length → Pv i σ H → SqL K H a xs)
    (hs : ∀ i x σ H, xs.reverse[i]? = some x → Pv i σ H → g x σ H fun σ2 H2 => tb { D with nx := Pv (i + 1), ct := Pv (i + 1), bk := D.nx } σ2 H2) (hd : ∀ σ H, Pv xs.length σ H → D.nx σ H) :
    ∃ W : Nat → Nat → St → Hp → Prop, (∃ m, W 0 m σ H) ∧ ∀ i m σ H, W i m σ H →
      ((Itv K a xs.length).stop i H ∧ D.nx σ H) ∨ ((Itv K a xs.length).go i H ∧ ∃ N : St → Hp → Prop, (∀ σ' H', N σ' H' → ∃ m', m' < m ∧ W (i + 1) m' σ' H') ∧ ∀ x H', (Itv K a xs.length).yld i H x H' → g x σ H' fun σ2 H2 => tb { D with nx := N, ct := N, bk := D.nx } σ2 H2) := by
  refine ⟨fun i m σ H => m = xs.length - i ∧ i ≤ xs.length ∧ Pv i σ H, ⟨xs.length, by simp, Nat.zero_le _, h0⟩, ?_⟩
  rintro i m σ H ⟨rfl, hi, p⟩
  have q := hl i σ H hi p
  by_cases hlt : i < xs.length
  · refine .inr ⟨⟨hlt, xs, xs[xs.length - 1 - i], q, List.getElem?_eq_getElem (by omega)⟩, Pv (i + 1), fun σ' H' p' => ⟨xs.length - (i + 1), by omega, rfl, hlt, p'⟩, fun x H' y => ?_⟩
    obtain ⟨e, y⟩ := y
    subst e
    exact hs i x σ _ (by rw [List.getElem?_reverse hlt]; exact y xs q) p
  · have e : i = xs.length := by omega
    subst e
    exact .inl ⟨rfl, hd σ H p⟩

/-- list(reversed(l)), tuple(reversed(l)), l a list -/
def tLrev (K : PySem.W.Frag) (ta : TA) : TE := fun σ H Q => ta σ H fun vs H1 => ∃ (a : Addr) (xs : List V), vs = [.ref a] ∧ SqL K H1 a xs ∧ ∀ p, H1 p = none → Q (.ref p) (upd H1 p (.lst xs.reverse))
def tTrev (K : PySem.W.Frag) (ta : TA) : TE := fun σ H Q => ta σ H fun vs H1 => ∃ (a : Addr) (xs : List V), vs = [.ref a] ∧ SqL K H1 a xs ∧ ∀ p, H1 p = none → Q (.ref p) (upd H1 p (.tup xs.reverse))
theorem pe_lrev {l : Expr} {ta : TA} {p p2 pos pos2 : Pos} (hc : X.calm = true) (hg : Gl X "list") (hm : X.mg "list" = none) (hg2 : Gl X "reversed") (hm2 : X.mg "reversed" = none) (ha : PA X [l] ta)
    (hs : starEach [l] X.env = [(false, eval l X.env)] := by rfl) (hs2 : starEach [Expr.Call (.Name "reversed" p2) [l] [] pos2] X.env = [(false, eval (Expr.Call (.Name "reversed" p2) [l] [] pos2) X.env)] := by rfl) :
    PE X (.Call (.Name "list" p) [.Call (.Name "reversed" p2) [l] [] pos2] [] pos) (tLrev X.K ta) := by
  intro pins s σ H Q I h
  refine wpAny_Call_Name_kw (ld_blt I hg hm boot_list (PyProof.Rows.callWith_type1 ?_ hs2 rfl))
  rw [hs2]
  refine Calls.spliced_cons (wpAny_Call_Name_kw (ld_blt I hg2 hm2 boot_reversed (PyProof.Rows.callWith_type1 (thn (ha pos2 pins s σ H _ I h) fun us s1 ⟨vs, H1, I1, r1, q1⟩ => ?_) hs rfl)))
  obtain ⟨a, xs, rfl, hq, q⟩ := q1
  obtain ⟨u, rfl, rx⟩ := vals1 r1
  cases rx
  obtain ⟨its, rv, pl, hz⟩ := I1.list hq
  have hl := rv.length
  have hlt : a < s1.heap.objs.size := by
    obtain ⟨o, ho, _⟩ := pl.isList
    exact Heap.lt_size ho
  refine call_reversed_list pl.isList (Calls.spliced_nil ?_)
  have hit : (s1.heap.push (revObj a ((its.toArray.size : Int) - 1))).IsRevIter s1.heap.objs.size a ((its.toArray.size : Int) - 1) := ⟨_, Heap.get?_push_size _ rfl, rfl, rfl⟩
  have W := (Walks.listRev (prog := X.prog) (w := X.w) (A := X.A.in1.in1) (I.ok.hd hc) s1.heap.objs.size a (Nat.ne_of_lt hlt) its.toArray).toS
  have sz1 : (s1.heap.push (revObj a ((its.toArray.size : Int) - 1))).objs.size = s1.heap.objs.size + 1 := by simp [Heap.push]
  refine list_by (.inl rfl) W (fun i r st => st.2.1.typeIs) (fun r Q2 E2 st k => hint_lri st.2.1.typeIs (k false r.toks (Nat.le_refl _))) ⟨Nat.zero_le _, ?_, pl.isList.at fun o e => Heap.get?_push_of_some _ e⟩ (fun b hb => ?_) (by simp) (fun s' acc c' m1 d1 i1 => ?_) (by rw [List.size_toArray]; omega)
  · rw [show (its.toArray.size : Int) - 1 - ((0 : Nat) : Int) = (its.toArray.size : Int) - 1 by omega]
    exact hit
  · show b < (s1.heap.push (revObj a ((its.toArray.size : Int) - 1))).objs.size
    rw [sz1]
    rcases List.mem_cons.mp hb with e | e
    · rw [e]
      exact Nat.lt_succ_self _
    · rw [List.mem_singleton.mp e]
      exact Nat.lt_succ_of_lt hlt
  obtain ⟨h', g', d', t', o'⟩ := s'
  obtain ⟨mh, mg', md, mo, mt⟩ := m1
  have eg : g' = s1.gens := mg'
  have ed : d' = s1.drawn := md
  have eo : o' = s1.os := mo
  subst eg ed eo
  have kp : ∀ b o, s1.heap.get? b = some o → h'.get? b = some o := fun b o e => by
    have hb := Heap.lt_size e
    refine mh b o ?_ (Heap.get?_push_of_some _ (Heap.get?_push_of_some _ e))
    intro z
    have z' : b = (s1.heap.push (revObj a ((its.toArray.size : Int) - 1))).objs.size ∨ b = s1.heap.objs.size := by simpa using z
    rw [sz1] at z'
    rcases z' with e | e
    · rw [e] at hb
      exact absurd hb (Nat.not_lt.mpr (Nat.le_succ _))
    · rw [e] at hb
      exact Nat.lt_irrefl _ hb
  have ea := items_rev i1
  have en : (s1.heap.push (revObj a ((its.toArray.size : Int) - 1))).objs.size = s1.heap.objs.size + 1 := sz1
  have hfr : H1 (s1.heap.push (revObj a ((its.toArray.size : Int) - 1))).objs.size = none := I1.hok.fresh (by rw [sz1]; exact Nat.le_succ _)
  refine ⟨.ref (s1.heap.push (revObj a ((its.toArray.size : Int) - 1))).objs.size, _, I1.laid (t' := t') (o := .lst xs.reverse) kp (by rw [sz1]; exact Nat.le_succ _) ?_, rfl, q _ hfr⟩
  refine ⟨by rw [List.length_reverse]; exact hz, acc.toList, c', ?_, ?_⟩
  · rw [ea]
    exact rv.reverse
  · rw [Array.toArray_toList]
    exact d1
theorem pe_trev {l : Expr} {ta : TA} {p p2 pos pos2 : Pos} (hc : X.calm = true) (hg : Gl X "tuple") (hm : X.mg "tuple" = none) (hg2 : Gl X "reversed") (hm2 : X.mg "reversed" = none) (ha : PA X [l] ta)
    (hs : starEach [l] X.env = [(false, eval l X.env)] := by rfl) (hs2 : starEach [Expr.Call (.Name "reversed" p2) [l] [] pos2] X.env = [(false, eval (Expr.Call (.Name "reversed" p2) [l] [] pos2) X.env)] := by rfl) :
    PE X (.Call (.Name "tuple" p) [.Call (.Name "reversed" p2) [l] [] pos2] [] pos) (tTrev X.K ta) := by
  intro pins s σ H Q I h
  refine wpAny_Call_Name_kw (ld_blt I hg hm boot_tuple (PyProof.Rows.callWith_type1 ?_ hs2 rfl))
  rw [hs2]
  refine Calls.spliced_cons (wpAny_Call_Name_kw (ld_blt I hg2 hm2 boot_reversed (PyProof.Rows.callWith_type1 (thn (ha pos2 pins s σ H _ I h) fun us s1 ⟨vs, H1, I1, r1, q1⟩ => ?_) hs rfl)))
  obtain ⟨a, xs, rfl, hq, q⟩ := q1
  obtain ⟨u, rfl, rx⟩ := vals1 r1
  cases rx
  obtain ⟨its, rv, pl, hz⟩ := I1.list hq
  have hl := rv.length
  have hlt : a < s1.heap.objs.size := by
    obtain ⟨o, ho, _⟩ := pl.isList
    exact Heap.lt_size ho
  refine call_reversed_list pl.isList (Calls.spliced_nil ?_)
  have hit : (s1.heap.push (revObj a ((its.toArray.size : Int) - 1))).IsRevIter s1.heap.objs.size a ((its.toArray.size : Int) - 1) := ⟨_, Heap.get?_push_size _ rfl, rfl, rfl⟩
  have W := (Walks.listRev (prog := X.prog) (w := X.w) (A := X.A.in1.in1.in1) (I.ok.hd hc) s1.heap.objs.size a (Nat.ne_of_lt hlt) its.toArray).toS
  have sz1 : (s1.heap.push (revObj a ((its.toArray.size : Int) - 1))).objs.size = s1.heap.objs.size + 1 := by simp [Heap.push]
  refine tuple_by (.inl rfl) W (fun i r st => st.2.1.typeIs) (fun r Q2 E2 st k => hint_lri st.2.1.typeIs (k false r.toks (Nat.le_refl _))) ⟨Nat.zero_le _, ?_, pl.isList.at fun o e => Heap.get?_push_of_some _ e⟩ (fun b hb => ?_) (by simp) (fun s' acc m1 i1 => ?_) (by rw [List.size_toArray]; omega)
  · rw [show (its.toArray.size : Int) - 1 - ((0 : Nat) : Int) = (its.toArray.size : Int) - 1 by omega]
    exact hit
  · show b < (s1.heap.push (revObj a ((its.toArray.size : Int) - 1))).objs.size
    rw [sz1]
    rcases List.mem_cons.mp hb with e | e
    · rw [e]
      exact Nat.lt_succ_self _
    · rw [List.mem_singleton.mp e]
      exact Nat.lt_succ_of_lt hlt
  obtain ⟨h', g', d', t', o'⟩ := s'
  obtain ⟨mh, mg', md, mo, mt⟩ := m1
  have eg : g' = s1.gens := mg'
  have ed : d' = s1.drawn := md
  have eo : o' = s1.os := mo
  subst eg ed eo
  have kp : ∀ b o, s1.heap.get? b = some o → h'.get? b = some o := fun b o e => by
    have hb := Heap.lt_size e
    refine mh b o ?_ (Heap.get?_push_of_some _ e)
    intro z
    have z' : b = s1.heap.objs.size := by simpa using z
    rw [z'] at hb
    exact Nat.lt_irrefl _ hb
  have ea := items_rev i1
  have I2 : Inv X pins σ H1 { s1 with heap := h', toks := t' } := I1.kept kp
  refine ⟨.ref h'.objs.size, _, I2.laid (t' := t') (o := .tup xs.reverse) (fun b o e => Heap.get?_push_of_some _ e) (Nat.le_refl _) ?_, rfl, q _ (I2.hok.fresh (Nat.le_refl _))⟩
  refine ⟨by rw [List.length_reverse]; exact hz, acc.toList, ?_, ?_⟩
  · rw [ea]
    exact rv.reverse
  · rw [Array.toArray_toList]
    exact IsTup.new _ _
end
end L2

set_option Elab.async false
set_option linter.all false
set_option maxRecDepth 100000
set_option maxHeartbeats 4000000
namespace PySem
namespace F
theorem rvd_nolen : typeLookup (.type "reversed") "__len__" = pure none := by rw [typeLookup_type, builtinLookup_eq_fast]; kernel_rfl
theorem rvd_hint : typeLookup (.type "reversed") "__length_hint__" = pure (some (.builtin "reversed.__length_hint__")) := by rw [typeLookup_type, builtinLookup_eq_fast]; kernel_rfl
theorem rvd_owner : Manifest.owners.lookup (String.ofList ['d', 'e', 's', 'r', 'e', 'v', 'e', 'r'].reverse) = some Manifest.sig_reversed := by kernel_rfl
theorem rvd_next : Slot "reversed" "__next__" "reversed.__next__" :=
  .of (owner := "reversed") (n := "__next__") (by rw [typeLookup_type, builtinLookup_eq_fast]; kernel_rfl) (by decide +kernel) (by decide +kernel) (by decide +kernel) (by first | exact .inl (by decide +kernel) | exact .inr (by decide +kernel)) (by rw [isSubtype_type]; kernel_rfl)
theorem rvd_iter : Slot "reversed" "__iter__" "reversed.__iter__" :=
  .of (owner := "reversed") (n := "__iter__") (by rw [typeLookup_type, builtinLookup_eq_fast]; kernel_rfl) (by decide +kernel) (by decide +kernel) (by decide +kernel) (by first | exact .inl (by decide +kernel) | exact .inr (by decide +kernel)) (by rw [isSubtype_type]; kernel_rfl)
theorem rvd_hintS : Slot "reversed" "__length_hint__" "reversed.__length_hint__" :=
  .of (owner := "reversed") (n := "__length_hint__") rvd_hint (by decide +kernel) (by decide +kernel) (by decide +kernel) (by first | exact .inl (by decide +kernel) | exact .inr (by decide +kernel)) (by rw [isSubtype_type]; kernel_rfl)
theorem rvd_init : Slot "reversed" "__init__" "object.__init__" :=
  .of (owner := "object") (n := "__init__") (by rw [typeLookup_type, builtinLookup_eq_fast]; kernel_rfl) (by decide +kernel) (by decide +kernel) (by decide +kernel) (by first | exact .inl (by decide +kernel) | exact .inr (by decide +kernel)) (by rw [isSubtype_type]; kernel_rfl)
theorem rvd_entry_next : entryFor table "reversed.__next__" = some Builtin.«reversed.__next__» := entryFor_of_tree (by kernel_rfl)
theorem rvd_entry_hint : entryFor table "reversed.__length_hint__" = some Builtin.«reversed.__length_hint__» := entryFor_of_tree (by kernel_rfl)
theorem rvd_args_next (a : Value) : argsOk "reversed.__next__" ⟨[a], []⟩ := by
  unfold argsOk; rw [signature?_of (id := "reversed.__next__") (n := ['_', '_', 't', 'x', 'e', 'n', '_', '_']) (o := ['d', 'e', 's', 'r', 'e', 'v', 'e', 'r']) (by kernel_rfl) rvd_owner]; kernel_rfl
theorem rvd_args_iter (a : Value) : argsOk "reversed.__iter__" ⟨[a], []⟩ := by
  unfold argsOk; rw [signature?_of (id := "reversed.__iter__") (n := ['_', '_', 'r', 'e', 't', 'i', '_', '_']) (o := ['d', 'e', 's', 'r', 'e', 'v', 'e', 'r']) (by kernel_rfl) rvd_owner]; kernel_rfl
theorem rvd_args_hint (a : Value) : argsOk "reversed.__length_hint__" ⟨[a], []⟩ := by
  unfold argsOk; rw [signature?_of (id := "reversed.__length_hint__") (n := ['_', '_', 't', 'n', 'i', 'h', '_', 'h', 't', 'g', 'n', 'e', 'l', '_', '_']) (o := ['d', 'e', 's', 'r', 'e', 'v', 'e', 'r']) (by kernel_rfl) rvd_owner]; kernel_rfl
theorem rvd_entry_iter : entryFor table "reversed.__iter__" = some Builtin.«dict_keyiterator.__iter__» :=
  entryFor_alias (id' := "dict_keyiterator.__iter__") (by kernel_rfl) (by first | rfl | decide +kernel | (unfold String.splitOn; simp +decide [String.splitOnAux])) (by decide +kernel) (by kernel_rfl)
theorem rvd_called : TypeCalled "reversed" "reversed.__new__" "object.__init__" := ⟨by decide +kernel, create_reversed, ⟨_, _, mro_reversed⟩, made_reversed, plain_reversed_new, sub_reversed_self, rvd_init⟩
theorem tup_norev : typeLookup (.type "tuple") "__reversed__" = pure none := by rw [typeLookup_type, builtinLookup_eq_fast]; kernel_rfl
theorem tup_nodict : isSubtype (.type "tuple") (.type "dict") = pure false := by rw [isSubtype_type]; kernel_rfl
end F
open PyProof.Rows
section
variable {prog : Program} {w : World} {A : Around} {E : Value → Shared → Prop} {s : Shared}
def Heap.IsRevd (h : Heap) (a l : Addr) (i : Int) : Prop := ∃ o, h.get? a = some o ∧ o.cls = .type "reversed" ∧ o.data = .fields #[.ref l, rawInt i]
theorem Heap.IsRevd.typeIs {a l : Addr} {i : Int} (x : s.heap.IsRevd a l i) : s.TypeIs (.ref a) "reversed" := let ⟨o, ho, hc, _⟩ := x; ⟨o, ho, hc⟩
theorem Heap.IsRevd.at {h h' : Heap} {a l : Addr} {i : Int} (x : h.IsRevd a l i) (e : ∀ o, h.get? a = some o → h'.get? a = some o) : h'.IsRevd a l i := let ⟨o, ho, r⟩ := x; ⟨o, e _ ho, r⟩
def rvdObj (l : Addr) (i : Int) : Obj := { cls := .type "reversed", data := .fields #[.ref l, rawInt i] }
theorem call_reversed_tup {t : Addr} {items : Array Value} {Q : Value → Shared → Prop} (ht : IsTup s.heap t items) (hf : (items.size : Int) < 2 ^ 63)
    (q : Q (.ref s.heap.objs.size) { s with heap := s.heap.push (rvdObj t ((items.size : Int) - 1)), toks := s.toks + 1 + 1 }) : wpAny (model prog w) A (call (.type "reversed") [.ref t]) Q E s := by
  refine callType_codes (Q₁ := fun x r => r.TypeIs x "reversed" ∧ Q x r) F.rvd_called (F.typeCall_reversed_1 _) F.entry_object_init ?_ fun x r hx => ⟨hx.1, F.args_object_init_2 x _, object_init_meets F.rvd_called.init.lookup F.rvd_called.made (by decide) prog w A.in1 _ r ⟨hx.1, rfl, hx.2⟩⟩
  refine codeAny_of_tree ?_
  show wpAny _ A.in1.in1 (do checkBuiltinCall "reversed.__new__" ⟨[.type "reversed", .ref t], []⟩; again (.builtin "reversed.__new__" ⟨[.type "reversed", .ref t], []⟩)) _ _ s
  refine wpAny_bind (wpAny_of_eq (F.newCall_reversed_1 _) (wpAny_pure ⟨plainId_quiet F.plain_reversed_new _, codeAny_builtin F.entry_reversed_new ?_⟩))
  rw [Around.under_plainId F.plain_reversed_new _]
  unfold Builtin.«reversed.__new__»
  refine wpAny_bind (wpAny_of_eq (newClass_reversed _) ?_)
  try dsimp only
  refine wpAny_bind (wpAny_of_eq (a := ()) (by first | rfl | kernel_rfl) ?_)
  refine wpAny_bind (wpAny_of_eq (a := ()) (by first | rfl | kernel_rfl) ?_)
  try dsimp only
  refine wpAny_bind (wpAny_specialOf ht.typeIs F.tup_norev ?_)
  try dsimp only
  refine wpAny_bind ?_
  wp_delta
  refine wpAny_bind (wpAny_isInstance (b := false) ht.typeIs F.tup_nodict ?_)
  rw [if_neg (by decide)]
  refine wpAny_bind (wpAny_specialOf ht.typeIs PyProof.Rows.slot_tuple_getitem.lookup ?_)
  dsimp only
  rw [if_pos (by decide)]
  refine wpAny_pure ?_
  rw [if_neg (by decide)]
  refine wpAny_bind (len_tuple ht hf ?_)
  refine wpAny_bind (m := asInt? (.int items.size _)) (wpAny_pure ?_)
  dsimp only
  refine wpAny_bind ?_
  show wpAny _ _ (newObj (.type "reversed") (.fields #[.ref t, rawInt ((items.size : Int) - 1)])) _ _ _
  refine wpAny_newObj_type (wpAny_pure ?_)
  exact ⟨⟨_, Heap.get?_push_size _ rfl, rfl⟩, q⟩
theorem next_rvd_item {it t : Addr} {i : Nat} {items : Array Value} {x : Value} {Q : Option Value → Shared → Prop} (hit : s.heap.IsRevd it t (i : Int)) (ht : IsTup s.heap t items) (hf : (items.size : Int) < 2 ^ 63) (hx : items[i]? = some x)
    (q : ∀ h', h'.IsRevd it t ((i : Int) - 1) → Heap.SameBut it s.heap h' → ∀ tk, Q (some x) { s with heap := h', toks := tk }) : wpAny (model prog w) A (pyNext (.ref it)) Q E s := by
  obtain ⟨o, ho, hc, hd⟩ := id hit
  have hlt : i < items.size := by
    rcases Nat.lt_or_ge i items.size with z | z
    · exact z
    · rw [Array.getElem?_eq_none z] at hx
      cases hx
  unfold pyNext
  refine wpAny_bind (wpAny_attempt (wpAny_callSpecial?_slot (name := Str.ofString "__next__") hit.typeIs F.rvd_next (wpAny_call_entry F.rvd_next hit.typeIs F.rvd_entry_next ?_ (F.rvd_args_next _))))
  unfold Builtin.«reversed.__next__»
  refine wpAny_bind (wpAny_of_eq (a := (Value.ref it, [])) rfl ?_)
  try dsimp only
  refine wpAny_bind (wpAny_field ho hd (x := .ref t) rfl ?_)
  refine wpAny_bind (wpAny_field ho hd (x := rawInt (i : Int)) rfl ?_)
  show wpAny _ _ (if (i : Int) < 0 then _ else _) _ _ s
  rw [if_neg (by omega)]
  refine wpAny_bind (wpAny_specialOf ht.typeIs PyProof.Rows.slot_tuple_getitem.lookup ?_)
  rw [if_neg (by decide)]
  refine wpAny_bind (wpAny_mkInt' ?_)
  refine wpAny_bind (wpAny_attempt (PyProof.Rows.getItem_tuple (s := { s with toks := s.toks + 1 }) (j := i) ht (by omega) (by omega) (by unfold seqIndex?; simp; omega) hx ?_))
  dsimp only
  refine wpAny_bind (wpAny_field (s := { s with toks := s.toks + 1 }) ho hd (x := rawInt (i : Int)) rfl ?_)
  show wpAny _ _ (setField (.ref it) 1 (rawInt ((i : Int) - 1)) >>= fun _ => ret x) _ _ _
  refine wpAny_bind (wpAny_setField (s := { s with toks := s.toks + 1 }) ho hd (by simp) ?_)
  refine wpAny_pure ⟨x, rfl, wpAny_pure (q _ ?_ (Heap.SameBut.update ..) _)⟩
  exact ⟨_, Heap.get?_update_self _ ho (Obj.isFreed_of_fields (Obj.data_mapFields hd _)), (Obj.cls_mapFields ..).trans hc, by rw [Obj.data_mapFields hd]; simp⟩
theorem next_rvd_end {it t : Addr} {Q : Option Value → Shared → Prop} (hh : A.handled = none) (hit : s.heap.IsRevd it t (-1))
    (q : ∀ h', Heap.ExtBut it s.heap h' → Q none { s with heap := h' }) : wpAny (model prog w) A (pyNext (.ref it)) Q E s := by
  obtain ⟨o, ho, hc, hd⟩ := id hit
  unfold pyNext
  refine wpAny_bind (wpAny_attempt (wpAny_callSpecial?_slot (name := Str.ofString "__next__") hit.typeIs F.rvd_next (wpAny_call_entry F.rvd_next hit.typeIs F.rvd_entry_next ?_ (F.rvd_args_next _))))
  unfold Builtin.«reversed.__next__»
  refine wpAny_bind (wpAny_of_eq (a := (Value.ref it, [])) rfl ?_)
  try dsimp only
  refine wpAny_bind (wpAny_field ho hd (x := .ref t) rfl ?_)
  refine wpAny_bind (wpAny_field ho hd (x := rawInt (-1)) rfl ?_)
  show wpAny _ _ (if (-1 : Int) < 0 then _ else _) _ _ s
  rw [if_pos (by decide)]
  refine wpAny_bind (wpAny_rule ?_)
  refine wpAny_bind ?_
  show wpAny _ _ (setField (.ref it) 1 (rawInt (-1)) >>= fun _ => setField (.ref it) 0 .none) _ _ _
  refine wpAny_bind (wpAny_setField ho hd (by simp) ?_)
  have h1 := Heap.get?_update_self (Obj.mapFields (·.set! 1 (rawInt (-1)))) ho (Obj.isFreed_of_fields (Obj.data_mapFields hd _))
  refine wpAny_setField h1 (Obj.data_mapFields hd _) (by simp) ?_
  have xb : Heap.ExtBut it s.heap ((s.heap.update it (Obj.mapFields (·.setIfInBounds 1 (rawInt (-1))))).update it (Obj.mapFields (·.setIfInBounds 0 Value.none))) :=
    fun b ob nb e => (Heap.get?_update_other _ _ (Ne.symm nb)).trans ((Heap.get?_update_other _ _ (Ne.symm nb)).trans e)
  generalize ((s.heap.update it (Obj.mapFields (·.setIfInBounds 1 (rawInt (-1))))).update it (Obj.mapFields (·.setIfInBounds 0 Value.none))) = h2 at xb ⊢
  refine wpAny_bind ?_
  show wpAny _ A.in1 (newExc (.type "StopIteration") [] >>= fun x => raiseNew x) _ _ { s with heap := h2 }
  refine wpAny_bind ?_
  simp only [newExc, newTuple]
  refine wpAny_bind (wpAny_newObj_type ?_ (by size_fits))
  refine wpAny_bind (m := firstArgMember _ _) (wpAny_of_eq (a := Value.none) (by first | rfl | (simp only [firstArgMember]; rfl)) (wpAny_newObj_type ?_ (by size_fits)))
  simp only [raiseNew]
  refine wpAny_bind (wpAny_handled ?_)
  first | rw [show A.in1.handled = none from hh] | rw [hh]
  refine wpAny_bind (wpAny_pure (wpAny_throw ?_))
  refine wpAny_bind (wpAny_isInstance (T := "StopIteration") (b := true) ⟨_, Heap.get?_push_size _ rfl, rfl⟩ isSubtype_stop (wpAny_pure (q _ ?_)))
  exact fun b ob nb e => Heap.get?_push_of_some _ (Heap.get?_push_of_some _ (xb b ob nb e))
theorem iter_rvd {it t : Addr} {i : Int} {Q : Value → Shared → Prop} (hit : s.heap.IsRevd it t i) (q : Q (.ref it) s) : wpAny (model prog w) A (pyIter (.ref it)) Q E s := by
  refine wpAny_pyIter_slot hit.typeIs F.rvd_iter (wpAny_call_entry F.rvd_iter hit.typeIs F.rvd_entry_iter ?_ (F.rvd_args_iter _))
  show wpAny _ _ (ret (.ref it)) _ _ s
  exact wpAny_pure ⟨_, rfl, "reversed", _, hit.typeIs, F.rvd_next.lookup, q⟩
theorem hint_rvd {it t : Addr} {i : Nat} {items : Array Value} {Q : Bool → Shared → Prop} (hit : s.heap.IsRevd it t ((i : Int) - 1)) (ht : IsTup s.heap t items) (hf : items.size ≤ sizeLine) (hi : i ≤ items.size) (q : ∀ b tk, s.toks ≤ tk → Q b { s with toks := tk }) :
    wpAny (model prog w) A (Builtin.List.listLengthHint (.ref it)) Q E s := by
  obtain ⟨o, ho, hc, hd⟩ := id hit
  have hs := sizeLine_eq
  unfold Builtin.List.listLengthHint
  refine wpAny_bind (wpAny_specialOf hit.typeIs F.rvd_nolen ?_)
  show wpAny _ A (specialOf (Value.ref it) (Str.ofString "__length_hint__") >>= fun _ => _) _ _ _
  refine wpAny_bind (wpAny_specialOf hit.typeIs F.rvd_hint ?_)
  generalize hid : ("reversed.__length_hint__" : String) = z
  wp_delta
  rw [show splitId z = some ("reversed", "__length_hint__") from by subst hid; decide +kernel]
  subst hid
  refine wpAny_bind (wpAny_isInstance (b := true) hit.typeIs (by rw [isSubtype_type]; kernel_rfl) ?_)
  rw [if_neg (by decide)]
  dsimp only
  rw [if_neg (by decide)]
  refine wpAny_bind (wpAny_rule ?_)
  refine wpAny_bind (wpAny_of_eq (F.rvd_hintS.bind _) ?_)
  dsimp only
  refine wpAny_bind (wpAny_attempt (wpAny_call_entry F.rvd_hintS hit.typeIs F.rvd_entry_hint ?_ (F.rvd_args_hint _)))
  unfold Builtin.«reversed.__length_hint__»
  refine wpAny_bind (wpAny_of_eq (a := Value.ref it) rfl ?_)
  refine wpAny_bind (wpAny_field ho hd (x := .ref t) rfl ?_)
  show wpAny _ _ (if (Value.ref t == Value.none) = true then _ else _) _ _ _
  rw [if_neg (show ¬ ((Value.ref t == Value.none) = true) from Bool.false_ne_true)]
  refine wpAny_bind (len_tuple ht (by omega) ?_)
  refine wpAny_bind (m := asInt? (.int items.size _)) (wpAny_pure ?_)
  dsimp only
  refine wpAny_bind (wpAny_field (s := { s with toks := s.toks + 1 + 1 }) ho hd (x := rawInt ((i : Int) - 1)) rfl ?_)
  show wpAny _ _ (if (items.size : Int) < (i : Int) - 1 + 1 then _ else _) _ _ _
  rw [if_neg (by omega)]
  show wpAny _ _ (mkInt ((i : Int) - 1 + 1) >>= fun v => ret v) _ _ _
  refine wpAny_bind (wpAny_mkInt' (wpAny_pure ⟨_, rfl, ?_⟩))
  dsimp only
  refine wpAny_bind (m := asInt? _) (wpAny_pure ?_)
  dsimp only
  rw [if_neg (by simp [Builtin.List.listFitsIndex]; omega), if_neg (by omega), if_neg (by simp [Builtin.List.listTooLong]; omega)]
  exact wpAny_pure (q _ _ (by show s.toks ≤ s.toks + 1 + 1 + 1; omega))
end
/-- reversed(t), t a tuple, walked -/
theorem Walks.tupRev {prog : Program} {w : World} {A : Around} (hh : A.handled = none) (I l : Addr) (hne : l ≠ I) (items : Array Value) (hf : items.size ≤ sizeLine) :
    Walks prog w A I [I, l] [I] items.size (fun i v => items[items.size - 1 - i]? = some v) (fun i h => i ≤ items.size ∧ h.IsRevd I l ((items.size : Int) - 1 - (i : Int)) ∧ IsTup h l items) where
  sub := fun b hb => by rw [List.mem_singleton.mp hb]; exact List.mem_cons_self
  frame := fun _ _ _ x hk => ⟨x.1, x.2.1.at fun o e => hk I (by simp) o e, let ⟨o, ho, r⟩ := x.2.2; ⟨o, hk l (by simp) o ho, r⟩⟩
  item := fun i s Q E hi x q => by
    have hs := sizeLine_eq
    have hit := x.2.1
    rw [show (items.size : Int) - 1 - (i : Int) = ((items.size - 1 - i : Nat) : Int) by omega] at hit
    have hx : items[items.size - 1 - i]? = some (items[items.size - 1 - i]'(by omega)) := Array.getElem?_eq_getElem (by omega)
    refine next_rvd_item hit x.2.2 (by omega) hx fun h' it' sb tk => ?_
    rw [show ((items.size - 1 - i : Nat) : Int) - 1 = (items.size : Int) - 1 - ((i + 1 : Nat) : Int) by omega] at it'
    exact q _ h' tk hx ⟨hi, it', let ⟨o, ho, r⟩ := x.2.2; ⟨o, (sb.2 l hne).trans ho, r⟩⟩ fun b o nb e => sb.extBut b o (fun z => nb (by simp [z])) e
  done := fun s Q E x q => by
    have hit := x.2.1
    rw [show (items.size : Int) - 1 - (items.size : Int) = -1 by omega] at hit
    exact next_rvd_end hh hit fun h' xb => q h' s.toks fun b o nb e => xb b o (fun z => nb (by simp [z])) e
  self := fun _ _ _ _ x q => iter_rvd x.2.1 q
end PySem
namespace L2
open PySem PySem.Spec PyProof.Rows
section
variable {X : Cx}
/-- list(reversed(t)), t a tuple -/
def tLrevT (K : PySem.W.Frag) (ta : TA) : TE := fun σ H Q => ta σ H fun vs H1 => ∃ (a : Addr) (xs : List V), vs = [.ref a] ∧ SqT K H1 a xs ∧ ∀ p, H1 p = none → Q (.ref p) (upd H1 p (.lst xs.reverse))
theorem pe_lrevT {l : Expr} {ta : TA} {p p2 pos pos2 : Pos} (hc : X.calm = true) (hg : Gl X "list") (hm : X.mg "list" = none) (hg2 : Gl X "reversed") (hm2 : X.mg "reversed" = none) (ha : PA X [l] ta)
    (hs : starEach [l] X.env = [(false, eval l X.env)] := by rfl) (hs2 : starEach [Expr.Call (.Name "reversed" p2) [l] [] pos2] X.env = [(false, eval (Expr.Call (.Name "reversed" p2) [l] [] pos2) X.env)] := by rfl) :
    PE X (.Call (.Name "list" p) [.Call (.Name "reversed" p2) [l] [] pos2] [] pos) (tLrevT X.K ta) := by
  intro pins s σ H Q I h
  refine wpAny_Call_Name_kw (ld_blt I hg hm boot_list (PyProof.Rows.callWith_type1 ?_ hs2 rfl))
  rw [hs2]
  refine Calls.spliced_cons (wpAny_Call_Name_kw (ld_blt I hg2 hm2 boot_reversed (PyProof.Rows.callWith_type1 (thn (ha pos2 pins s σ H _ I h) fun us s1 ⟨vs, H1, I1, r1, q1⟩ => ?_) hs rfl)))
  obtain ⟨a, xs, rfl, hq, q⟩ := q1
  obtain ⟨u, rfl, rx⟩ := vals1 r1
  cases rx
  obtain ⟨its, rv, pl, hz⟩ := I1.tuple hq
  have hl := rv.length
  have hlt : a < s1.heap.objs.size := pl.lt
  have hsl := sizeLine_eq
  have hz' : its.toArray.size ≤ sizeLine := by rw [List.size_toArray]; omega
  refine call_reversed_tup pl (by rw [List.size_toArray]; omega) (Calls.spliced_nil ?_)
  have hit : (s1.heap.push (rvdObj a ((its.toArray.size : Int) - 1))).IsRevd s1.heap.objs.size a ((its.toArray.size : Int) - 1) := ⟨_, Heap.get?_push_size _ rfl, rfl, rfl⟩
  have W := (Walks.tupRev (prog := X.prog) (w := X.w) (A := X.A.in1.in1) (I.ok.hd hc) s1.heap.objs.size a (Nat.ne_of_lt hlt) its.toArray hz').toS
  have sz1 : (s1.heap.push (rvdObj a ((its.toArray.size : Int) - 1))).objs.size = s1.heap.objs.size + 1 := by simp [Heap.push]
  refine list_by (.inr rfl) W (fun i r st => st.2.1.typeIs) (fun r Q2 E2 st k => hint_rvd (i := its.toArray.size) (by have := st.2.1; rw [show (its.toArray.size : Int) - 1 - ((0 : Nat) : Int) = (its.toArray.size : Int) - 1 by omega] at this; exact this) st.2.2 hz' (Nat.le_refl _) k) ⟨Nat.zero_le _, ?_, pl.push _⟩ (fun b hb => ?_) (by simp) (fun s' acc c' m1 d1 i1 => ?_) hz'
  · rw [show (its.toArray.size : Int) - 1 - ((0 : Nat) : Int) = (its.toArray.size : Int) - 1 by omega]
    exact hit
  · show b < (s1.heap.push (rvdObj a ((its.toArray.size : Int) - 1))).objs.size
    rw [sz1]
    rcases List.mem_cons.mp hb with e | e
    · rw [e]
      exact Nat.lt_succ_self _
    · rw [List.mem_singleton.mp e]
      exact Nat.lt_succ_of_lt hlt
  obtain ⟨h', g', d', t', o'⟩ := s'
  obtain ⟨mh, mg', md, mo, mt⟩ := m1
  have eg : g' = s1.gens := mg'
  have ed : d' = s1.drawn := md
  have eo : o' = s1.os := mo
  subst eg ed eo
  have kp : ∀ b o, s1.heap.get? b = some o → h'.get? b = some o := fun b o e => by
    have hb := Heap.lt_size e
    refine mh b o ?_ (Heap.get?_push_of_some _ (Heap.get?_push_of_some _ e))
    intro z
    have z' : b = (s1.heap.push (rvdObj a ((its.toArray.size : Int) - 1))).objs.size ∨ b = s1.heap.objs.size := by simpa using z
    rw [sz1] at z'
    rcases z' with e | e
    · rw [e] at hb
      exact absurd hb (Nat.not_lt.mpr (Nat.le_succ _))
    · rw [e] at hb
      exact Nat.lt_irrefl _ hb
  have ea := items_rev i1
  have hfr : H1 (s1.heap.push (rvdObj a ((its.toArray.size : Int) - 1))).objs.size = none := I1.hok.fresh (by rw [sz1]; exact Nat.le_succ _)
  refine ⟨.ref (s1.heap.push (rvdObj a ((its.toArray.size : Int) - 1))).objs.size, _, I1.laid (t' := t') (o := .lst xs.reverse) kp (by rw [sz1]; exact Nat.le_succ _) ?_, rfl, q _ hfr⟩
  refine ⟨by rw [List.length_reverse]; exact hz, acc.toList, c', ?_, ?_⟩
  · rw [ea]
    exact rv.reverse
  · rw [Array.toArray_toList]
    exact d1
end
end L2

set_option Elab.async false
set_option linter.all false
set_option maxRecDepth 100000
set_option maxHeartbeats 4000000
namespace L2
open PySem PySem.Spec PyProof.Rows
section
variable {X : Cx}
/-- // by a positive divisor that is not of thousands of digits -/
def CDivB (i j : Int) : Prop := 0 < j ∧ j.natAbs.log2 < 9000
theorem op_fdivB : OpR X (binaryOp .FloorDiv) (rI CDivB fun i j => .int (i / j)) := opI fun i j _ _ _ _ _ hc q => by
  have h1 : (0 : Int) < j := hc.1
  exact floordiv_int (by omega) (by rw [Int.fdiv_eq_ediv_of_nonneg i (by omega)]; exact q) (.inl (PyProof.noPylong_of_log2 hc.2))
end
end L2
namespace My
open PySem PySem.Spec PyProof.Rows PySem.SeqAt L2
theorem Fn.mono {P : Program} {w : World} {K : PySem.W.Frag} {mg : Str → Option Value} {base : Heap} {x : Str} {ps : List Str} {j k : Nat} {sp : Sp} (F : Fn P w K mg base x ps j sp) (h : j ≤ k) : Fn P w K mg base x ps k sp := by
  obtain ⟨f, fd, G, r⟩ := F
  exact ⟨f, fd, G.mono h, r⟩
theorem cutG_from {xs : List V} {k : Nat} (h : k ≤ xs.length) : cutV xs (some (k : Int)) none = xs.drop k := by
  unfold cutV
  rw [HT.sIx_nat, HT.sIx_none, Nat.min_eq_left h, List.take_of_length_le (by rw [List.length_drop]; exact Nat.le_refl _)]
theorem cutG_to {xs : List V} {k : Nat} (h : k ≤ xs.length) : cutV xs none (some (k : Int)) = xs.take k := by
  unfold cutV
  rw [HT.sIx_nat, HT.sIx_none, List.drop_zero, Nat.sub_zero, Nat.min_eq_left h]
theorem fact_lt : ∀ n : Nat, n ≤ 60 → fact n < 2 ^ 400 := by
  have h : ∀ n : Fin 61, fact n.val < 2 ^ 400 := by decide +kernel
  exact fun n hn => h ⟨n, by omega⟩
theorem fact_div {n : Nat} (h : n ≤ 60) (i : Int) : CDivB i (fact n : Nat) := by
  refine ⟨by have := fact_pos n; omega, ?_⟩
  rw [Int.natAbs_natCast]
  have h1 := fact_lt n h
  have h2 : (fact n).log2 < 400 := (Nat.log2_lt (Nat.pos_iff_ne_zero.mp (fact_pos n))).mpr h1
  omega
end My

set_option Elab.async false
set_option linter.all false
set_option maxRecDepth 100000
set_option maxHeartbeats 4000000
namespace My
open PySem PySem.Spec PyProof.Rows PySem.SeqAt L2
def top (i : Nat) : Stmt := PySem.Challenge.pw_turnrow_k10_words_and_their_numbers.main.body.getD i (.Pass ⟨0, 0, 0, 0⟩)
abbrev sIsWordP : Stmt := top 5
abbrev sCheckW : Stmt := top 6
abbrev sCountsOf : Stmt := top 8
abbrev sTreesOf : Stmt := top 9
abbrev sProdTo : Stmt := top 10
abbrev sListsWith : Stmt := top 11
abbrev sHowMany : Stmt := top 12
abbrev sWithout : Stmt := top 13
abbrev sBegun : Stmt := top 14
abbrev sNumberOf : Stmt := top 15
abbrev sNextN : Stmt := top 16
abbrev sWordAt : Stmt := top 17
abbrev sCell : Stmt := top 19
abbrev sWhole : Stmt := top 20
abbrev sGroveBy : Stmt := top 21
abbrev sWordT : Stmt := top 22
abbrev sWords : Stmt := top 23
abbrev sIsWord : Stmt := top 24
abbrev sNodes : Stmt := top 25
abbrev sNumbers : Stmt := top 26
abbrev sCounts : Stmt := top 27
abbrev sLaw : Stmt := top 29
structure Txt (mg : Str → Option Value) : Prop where
  len : mg "len" = none
  range : mg "range" = none
  min : mg "min" = none
  max : mg "max" = none
  sum : mg "sum" = none
  list : mg "list" = none
  isi : mg "isinstance" = none
  bool : mg "bool" = none
  int : mg "int" = none
  sorted : mg "sorted" = none
  ve : mg "ValueError" = none
  tuple : mg "tuple" = none
  str : mg "str" = none
  enumerate : mg "enumerate" = none
  reversed : mg "reversed" = none
structure RowC (mg : Str → Option Value) : Prop where
  most : ∃ t, mg "MOST_NUMBERS" = some (.int 60 t)
  least : ∃ t, mg "LEAST_NUMBER" = some (.int (-60) t)
  great : ∃ t, mg "GREATEST_NUMBER" = some (.int 1 t)
def bmV : List Value := [.type "ValueError", .type "Exception", .type "BaseException", .type "object"]
/-- a class of the text's own that may be raised -/
structure Rz (K : PySem.W.Frag) (mg : Str → Option Value) (nm : Str) (C : Addr) : Prop where
  m : mg nm = some (.ref C)
  x : PySem.W.excIn K C bmV "ValueError.__new__" = true
/-- an exception that is caught and asked: the class, the caught one, the other four -/
structure Rs (K : PySem.W.Frag) (C T o1 o2 o3 o4 : Addr) : Prop where
  f : ExcF K C
  u : PySem.W.subIn K (.ref C) (.ref T) = some true
  v : PySem.W.kitOne K (.ref C) (.type "ValueError") = some true
  n1 : PySem.W.kitOne K (.ref C) (.ref o1) = some false
  n2 : PySem.W.kitOne K (.ref C) (.ref o2) = some false
  n3 : PySem.W.kitOne K (.ref C) (.ref o3) = some false
  n4 : PySem.W.kitOne K (.ref C) (.ref o4) = some false
def okB : List Bool := [true, true, false, false, false, false]
/-! ### what the defs promise -/
def spCell (K : PySem.W.Frag) : Sp := fun vs H Q _ => ∃ (a : Addr) (ns : List Int) (k : Int), vs = [.ref a, .int k] ∧ SqL K H a (ns.map V.int) ∧ 0 ≤ k ∧ Q (.int (ns.getD k.toNat 0)) H
def spNodes (K : PySem.W.Frag) : Sp := fun vs H Q _ => ∃ (a : Addr) (ns : List Int), vs = [.ref a] ∧ SqL K H a (ns.map V.int) ∧ ∀ c : Int, 1 ≤ c → c ≤ 60 → Q (.int c) H
def spRowBy (K : PySem.W.Frag) : Sp := fun vs H Q _ => ∃ (a : Addr) (ns : List Int) (f c w : Int), vs = [.ref a, .int f, .int c, .int w] ∧ SqL K H a (ns.map V.int) ∧ 0 ≤ f ∧ 0 ≤ c ∧ c ≤ 60 ∧
  ∀ (r : Addr) (row : List Int) (H' : Hp), Same H H' → H r = none → H' r = some (.lst (row.map V.int)) → row.length = c.toNat → (∀ v ∈ row, -60 ≤ v ∧ v ≤ 1) → Q (.ref r) H'
def spGoodL (K : PySem.W.Frag) : Sp := fun vs H Q _ => ∃ (a : Addr) (ns : List Int), vs = [.ref a] ∧ SqL K H a (ns.map V.int) ∧ Q (.bl (goodB ns)) H
def spLaw (K : PySem.W.Frag) : Sp := fun vs H Q _ => ∃ (a : Addr) (ns : List Int), vs = [.ref a] ∧ SqL K H a (ns.map V.int) ∧ ns.length ≤ 63 ∧ ∀ H', Q (.bl true) H'
def spWhole (K : PySem.W.Frag) : Sp := fun vs H Q _ => ∃ i : Int, vs = [.int i] ∧ Q (.bl true) H
def spCheck (K : PySem.W.Frag) (B : Addr) : Sp := fun vs H Q E => ∃ (a : Addr) (ns : List Int), vs = [.ref a] ∧ SqL K H a (ns.map V.int) ∧ (RowOk ns → Q .non H) ∧ (¬ RowOk ns → E (.ref B) none H)
def spBeg (K : PySem.W.Frag) (B : Addr) : Sp := fun vs H Q E => ∃ (a : Addr) (ns : List Int), vs = [.ref a] ∧ SqL K H a (ns.map V.int) ∧
  (RowOk ns → ∀ (r : Addr) (H' : Hp), Same H H' → H r = none → H' r = some (.lst ((pre 0 ns).map V.int)) → Q (.ref r) H') ∧ (¬ RowOk ns → E (.ref B) none H)
def spGood (K : PySem.W.Frag) (B : Addr) : Sp := fun vs H Q E => ∃ (a : Addr) (ns : List Int), vs = [.ref a] ∧ SqL K H a (ns.map V.int) ∧ (RowOk ns → ∀ H' : Hp, Same H H' → Q (.bl (goodB ns)) H') ∧ (¬ RowOk ns → E (.ref B) none H)
def spTurned (K : PySem.W.Frag) (B N : Addr) : Sp := fun vs H Q E => ∃ (a : Addr) (ns : List Int) (k : Int), vs = [.ref a, .int k] ∧ SqL K H a (ns.map V.int) ∧
  (RowOk ns → 0 ≤ k → k < (ns.length : Int) → ∀ (r : Addr) (H' : Hp), Same H H' → H r = none → H' r = some (.lst ((rot ns k.toNat).map V.int)) → Q (.ref r) H') ∧
  (RowOk ns → ¬ (0 ≤ k ∧ k < (ns.length : Int)) → E (.ref N) none H) ∧ (¬ RowOk ns → E (.ref B) none H)
def spStarts (K : PySem.W.Frag) (B : Addr) : Sp := fun vs H Q E => ∃ (a : Addr) (ns : List Int), vs = [.ref a] ∧ SqL K H a (ns.map V.int) ∧
  (RowOk ns → ∀ (r : Addr) (H' : Hp), Same H H' → H r = none → H' r = some (.lst ((startsI ns).map V.int)) → Q (.ref r) H') ∧ (¬ RowOk ns → E (.ref B) none H)
def spNumbers (K : PySem.W.Frag) : Sp := fun vs H Q _ => ∃ (a b : Addr) (ns : List Int), vs = [.ref a, .ref b] ∧ H a = some (.lst (ns.map V.int)) ∧ SqL K H b (ns.map V.int) ∧ Q (.bl true) H
def spGroveBy (K : PySem.W.Frag) : Sp := fun vs H Q _ => ∃ (a : Addr) (ns : List Int) (f n rt : Int), vs = [.ref a, .int f, .int n, .int rt] ∧ SqL K H a (ns.map V.int) ∧ 0 ≤ f ∧ 1 ≤ n ∧ n ≤ 60 ∧ 0 < rt ∧
  ∀ (r : Addr) (xs : List V) (g : Gr) (H' : Hp), Same H H' → H r = none → H' r = some (.lst xs) → IsG H' g xs → g.size = n.toNat → g ≠ .nil → Q (.ref r) H'
def spWordT (d : Nat) : Sp := fun vs H Q _ => ∃ (a : Addr) (ys : List V) (g : Gr), vs = [.ref a] ∧ H a = some (.tup ys) ∧ IsG H g ys ∧ g.depth < d ∧ g.size ≤ 100 ∧
  ∀ (r : Addr) (H' : Hp), Same H H' → H r = none → H' r = some (.lst (((g.len : Int) :: g.word).map V.int)) → Q (.ref r) H'
def spWords : Sp := fun vs H Q _ => ∃ (a : Addr) (xs : List V) (g : Gr), vs = [.ref a] ∧ H a = some (.lst xs) ∧ IsG H g xs ∧ g.size ≤ 100 ∧
  ∀ (r : Addr) (H' : Hp), Same H H' → H r = none → H' r = some (.lst (g.word.map V.int)) → Q (.ref r) H'
def spIsTree (d : Nat) : Sp := fun vs H Q _ => ∃ (v : V) (g : Gr), vs = [v] ∧ IsT H g v ∧ g.depth < d ∧ Q (.bl true) H
def spIsGrove : Sp := fun vs H Q _ => ∃ (a b : Addr) (xs ys : List V) (g : Gr), vs = [.ref a, .ref b] ∧ H a = some (.lst xs) ∧ H b = some (.lst ys) ∧ IsG H g xs ∧ IsG H g ys ∧ g.size ≤ 60 ∧ Q (.bl true) H
def spIsWord (K : PySem.W.Frag) : Sp := fun vs H Q _ => ∃ (a : Addr) (ns : List Int), vs = [.ref a] ∧ SqL K H a (ns.map V.int) ∧ Q (.bl (Gr.isWord ns)) H
def spCounts (K : PySem.W.Frag) : Sp := fun vs H Q _ => ∃ (a : Addr) (ns : List Int), vs = [.ref a] ∧ SqL K H a (ns.map V.int) ∧ 0 < ns.length ∧ ns.length ≤ 1000 ∧ (∀ x ∈ ns, 0 ≤ x ∧ x < 1000) ∧
  ∀ (M : Nat), (M : Int) ∈ ns → (∀ x ∈ ns, x ≤ (M : Int)) → ∀ (r : Addr) (H' : Hp), Same H H' → H r = none → H' r = some (.lst ((cntI (M + 1) ns).map V.int)) → Q (.ref r) H'
def spMultiples (K : PySem.W.Frag) : Sp := fun vs H Q _ => ∃ (a : Addr) (c : List Nat), vs = [.ref a] ∧ SqL K H a (vi c) ∧ c.sum ≤ 1000 ∧ Q (.int (multi c : Nat)) H
/-! ### what the program's own defs promise -/
def spWordOf : Sp := fun vs H Q _ => ∃ (a : Addr) (xs : List V) (g : Gr), vs = [.ref a] ∧ H a = some (.lst xs) ∧ IsG H g xs ∧ g.size ≤ 60 ∧
  ∀ (r : Addr) (H' : Hp), Same H H' → H r = none → H' r = some (.lst (g.word.map V.int)) → Q (.ref r) H'
def spGroveOf (K : PySem.W.Frag) (cW : Addr) : Sp := fun vs H Q E => ∃ (a : Addr) (ns : List Int), vs = [.ref a] ∧ SqL K H a (ns.map V.int) ∧ ns.length ≤ 60 ∧ (∀ x ∈ ns, -60 ≤ x ∧ x ≤ 60) ∧
  (∀ g : Gr, g ≠ .nil → g.word = ns → ∀ (r : Addr) (xs : List V) (H' : Hp), Same H H' → H r = none → H' r = some (.lst xs) → IsG H' g xs → Q (.ref r) H') ∧ (Gr.isWord ns = false → E (.ref cW) none H)
def spWordsAmong (K : PySem.W.Frag) : Sp := fun vs H Q _ => ∃ (a : Addr) (ns : List Int), vs = [.ref a] ∧ SqL K H a (ns.map V.int) ∧ 1 ≤ ns.length ∧ ns.length ≤ 60 ∧ (∀ x ∈ ns, 0 ≤ x ∧ x ≤ 60) ∧
  ∀ (r : Addr) (H' : Hp), Same H H' → H r = none → H' r = some (.lst ((wordsI ns).map V.int)) → Q (.ref r) H'
def spCountsOf (K : PySem.W.Frag) (cW : Addr) : Sp := fun vs H Q E => ∃ (a : Addr) (ns : List Int), vs = [.ref a] ∧ SqL K H a (ns.map V.int) ∧ ns.length ≤ 60 ∧ (∀ x ∈ ns, -60 ≤ x ∧ x ≤ 60) ∧
  (Gr.isWord ns = true → ∀ M : Nat, (M : Int) ∈ ns → (∀ x ∈ ns, x ≤ (M : Int)) → ∀ (r : Addr) (H' : Hp), Same H H' → H r = none → H' r = some (.lst ((cntI (M + 1) ns).map V.int)) → Q (.ref r) H') ∧ (Gr.isWord ns = false → E (.ref cW) none H)
/-- the number of a word among those of its counts -/
def numberW (ns : List Int) (m : Nat) : Nat := rankL ns.length (ns.length - ns.sum.toNat) (cntN m ns) ns
def spNumberOf (K : PySem.W.Frag) (cW : Addr) : Sp := fun vs H Q E => ∃ (a : Addr) (ns : List Int), vs = [.ref a] ∧ SqL K H a (ns.map V.int) ∧ ns.length ≤ 60 ∧ (∀ x ∈ ns, -60 ≤ x ∧ x ≤ 60) ∧
  (Gr.isWord ns = true → ∀ M : Nat, (M : Int) ∈ ns → (∀ x ∈ ns, x ≤ (M : Int)) → ∀ H' : Hp, Same H H' → Q (.int (numberW ns (M + 1) : Nat)) H') ∧ (Gr.isWord ns = false → E (.ref cW) none H)
theorem cnt_vi (m : Nat) (ns : List Int) : (cntI m ns).map V.int = vi (cntN m ns) := by
  rw [cntI_N, List.map_map]
  rfl
def spHowMany (K : PySem.W.Frag) : Sp := fun vs H Q _ => ∃ (a : Addr) (c : List Nat), vs = [.ref a] ∧ SqL K H a (vi c) ∧ 1 ≤ c.length ∧ c.length ≤ 60 ∧ 1 ≤ c.sum ∧ c.sum ≤ 60 ∧ ∀ H' : Hp, Same H H' → Q (.int (hm c : Nat)) H'
def spWordAt (K : PySem.W.Frag) (cS : Addr) : Sp := fun vs H Q E => ∃ (a : Addr) (c : List Nat) (k : Int), vs = [.ref a, .int k] ∧ SqL K H a (vi c) ∧ 1 ≤ c.length ∧ c.length ≤ 60 ∧ 1 ≤ c.sum ∧ c.sum ≤ 60 ∧
  (∀ (j : Nat) (ws : List Int), k = (j : Int) → wt 0 c < c.sum → (wordsL c.sum (c.sum - wt 0 c) c)[j]? = some ws → ∀ (r : Addr) (H' : Hp), Same H H' → H r = none → H' r = some (.lst (ws.map V.int)) → Q (.ref r) H') ∧
  (k < 0 ∨ (hm c : Int) ≤ k → ∀ H' : Hp, Same H H' → E (.ref cS) none H')
def spText (d : Nat) : Sp := fun vs H Q _ => ∃ (a : Addr) (ys : List V) (g : Gr), vs = [.ref a] ∧ H a = some (.tup ys) ∧ IsG H g ys ∧ g.depth < d ∧ g.size ≤ 100 ∧ Q (.str (tx (40 :: (txtG g ++ [41])))) H
def spShown : Sp := fun vs H Q _ => ∃ (a : Addr) (xs : List V) (g : Gr), vs = [.ref a] ∧ H a = some (.lst xs) ∧ IsG H g xs ∧ g.size ≤ 60 ∧ ∀ H' : Hp, Same H H' → Q (.str (tx (txtG g))) H'
def spRead (cX : Addr) : Sp := fun vs H Q E => ∃ t : List Nat, vs = [.str (tx t)] ∧ t.length ≤ 300 ∧
  (∀ g : Gr, g ≠ .nil → g.size ≤ 60 → txtG g = t → ∀ (r : Addr) (xs : List V) (H' : Hp), Same H H' → H r = none → H' r = some (.lst xs) → IsG H' g xs → Q (.ref r) H') ∧
  ((¬ ∃ g : Gr, g ≠ .nil ∧ g.size ≤ 60 ∧ txtG g = t) → ∀ H' : Hp, Same H H' → E (.ref cX) none H')
/-! ### the landed program's own helpers -/
def spCheckW (K : PySem.W.Frag) (cW : Addr) : Sp := fun vs H Q E => ∃ (a : Addr) (ns : List Int), vs = [.ref a] ∧ SqL K H a (ns.map V.int) ∧ (Gr.isWord ns = true → Q .non H) ∧ (Gr.isWord ns = false → E (.ref cW) none H)
def spTreesOf (K : PySem.W.Frag) : Sp := fun vs H Q _ => ∃ (a : Addr) (c : List Nat), vs = [.ref a] ∧ SqL K H a (vi c) ∧ c.length ≤ 60 ∧ c.sum ≤ 60 ∧ ∀ H' : Hp, Same H H' → Q (.int ((c.sum : Int) - (wt 0 c : Nat))) H'
def spProdTo : Sp := fun vs H Q _ => ∃ n : Nat, vs = [.int n] ∧ n ≤ 60 ∧ Q (.int (fact n : Nat)) H
def spListsWith (K : PySem.W.Frag) : Sp := fun vs H Q _ => ∃ (a : Addr) (c : List Nat), vs = [.ref a] ∧ SqL K H a (vi c) ∧ c.length ≤ 60 ∧ c.sum ≤ 60 ∧ Q (.int (multi c : Nat)) H
def spWithout (K : PySem.W.Frag) : Sp := fun vs H Q _ => ∃ (a : Addr) (c : List Nat) (i : Nat), vs = [.ref a, .int i] ∧ SqL K H a (vi c) ∧ c.length ≤ 60 ∧ i < c.length ∧ 0 < c.getD i 0 ∧
  ∀ (r : Addr) (H' : Hp), Same H H' → H r = none → H' r = some (.lst (vi (less c i))) → Q (.ref r) H'
/-- how many words with the counts c begin with i -/
def beg (c : List Nat) (i : Nat) : Nat := if 0 < c.getD i 0 then comp (c.sum - 1) (c.sum - wt 0 c - 1 + i) (less c i) else 0
def spBegun (K : PySem.W.Frag) : Sp := fun vs H Q _ => ∃ (a : Addr) (c : List Nat) (i : Nat), vs = [.ref a, .int i] ∧ SqL K H a (vi c) ∧ c.length ≤ 60 ∧ i < c.length ∧ c.sum ≤ 60 ∧ wt 0 c < c.sum ∧ ∀ H' : Hp, Same H H' → Q (.int (beg c i : Nat)) H'
def spNextN (K : PySem.W.Frag) : Sp := fun vs H Q _ => ∃ (a : Addr) (c : List Nat) (k : Nat), vs = [.ref a, .int k] ∧ SqL K H a (vi c) ∧ c.length ≤ 60 ∧ c.sum ≤ 60 ∧ wt 0 c < c.sum ∧ k < sumI c.length (beg c) ∧
  ∀ i k' : Nat, i < c.length → k = sumI i (beg c) + k' → k' < beg c i → ∀ (t : Addr) (H' : Hp), Same H H' → H t = none → H' t = some (.tup [.int i, .int k']) → Q (.ref t) H'
theorem vi_getD {c : List Nat} {j : Nat} (h : j < c.length) : (vi c)[j]? = some (.int (c.getD j 0 : Nat)) := by
  unfold vi
  rw [List.getElem?_map, List.getElem?_eq_getElem h, List.getD_eq_getElem?_getD, List.getElem?_eq_getElem h]
  rfl
def ciN (c : List Nat) : List Int := c.map fun j : Nat => (j : Int)
theorem vi_ciN (c : List Nat) : vi c = (ciN c).map V.int := by unfold vi ciN; rw [List.map_map]; rfl
theorem ciN_sum : ∀ c : List Nat, (ciN c).sum = (c.sum : Int)
  | [] => rfl
  | x :: r => by
    show (x : Int) + (ciN r).sum = _
    rw [ciN_sum r, List.sum_cons]
    push_cast
    rfl
theorem mem_le_sum {c : List Nat} {x : Nat} (h : x ∈ c) : x ≤ c.sum := by
  induction c with
  | nil => cases h
  | cons y r ih =>
    rw [List.sum_cons]
    rcases List.mem_cons.mp h with e | e
    · omega
    · have := ih e
      omega
/-- what a walk over enumerate tells -/
def evs (f : Nat → Int → Int) : Nat → List Int → List Int
  | _, [] => []
  | k, x :: r => f k x :: evs f (k + 1) r
theorem evs_snoc (f : Nat → Int → Int) (x : Int) : ∀ (l : List Int) (k : Nat), evs f k (l ++ [x]) = evs f k l ++ [f (k + l.length) x]
  | [], k => rfl
  | a :: l, k => by
    show f k a :: evs f (k + 1) (l ++ [x]) = f k a :: (evs f (k + 1) l ++ [f (k + (l.length + 1)) x])
    rw [evs_snoc f x l (k + 1), show k + 1 + l.length = k + (l.length + 1) by omega]
theorem evs_len (f : Nat → Int → Int) : ∀ (l : List Int) (k : Nat), (evs f k l).length = l.length
  | [], k => rfl
  | a :: l, k => by
    show (evs f (k + 1) l).length + 1 = l.length + 1
    rw [evs_len f l (k + 1)]
theorem evs_sum : ∀ (c : List Nat) (k : Nat), (evs (fun i x => x * (1 - (i : Int))) k (c.map fun j : Nat => (j : Int))).sum = (c.sum : Int) - wt k c
  | [], k => rfl
  | a :: c, k => by
    show (a : Int) * (1 - (k : Int)) + (evs (fun i x => x * (1 - (i : Int))) (k + 1) (c.map fun j : Nat => (j : Int))).sum = (((a :: c).sum : Nat) : Int) - ((k * a + wt (k + 1) c : Nat) : Int)
    rw [evs_sum c (k + 1), List.sum_cons]
    push_cast
    rw [Int.mul_sub, Int.mul_one, Int.mul_comm (a : Int) (k : Int)]
    omega
section
variable {P : Program} {w : World} {K : PySem.W.Frag} {mg : Str → Option Value} {base : Heap} {f : Addr} {fd : FuncData} {cT cB cN cW cS cX : Addr}
theorem scIsWordP : FnScope ["numbers", "trees", "number"] ["numbers"] (defScope sIsWordP) := ⟨rfl, rfl, rfl, by decide +kernel, rfl, by decide +kernel, by decide +kernel⟩
theorem mir_rev (ns : List Int) : mir ns = ns.reverse.map fun x => 1 - x := by unfold mir; rw [List.map_reverse]
theorem isWord_neg {ns : List Int} {z : Int} (hz : z ∈ ns) (h : z < 0) : Gr.isWord ns = false := by
  cases e : Gr.isWord ns with
  | false => rfl
  | true =>
    obtain ⟨g, _, rfl⟩ := Gr.isWord_iff.mp e
    have := Gr.word_nonneg g z hz
    omega
theorem isWord_bad {ns : List Int} (h : goodB (mir ns) = false) : Gr.isWord ns = false := by
  cases e : Gr.isWord ns with
  | false => rfl
  | true =>
    obtain ⟨g, _, rfl⟩ := Gr.isWord_iff.mp e
    have := ((chk_good _ _).mp (Gr.chk_iff.mpr ⟨g, rfl, rfl⟩)).2.2
    rw [h] at this
    cases this
theorem ok_iswordP (F : Fun K "is_word" "is_word" sIsWordP f fd) (T : Txt mg) : FnOk P w K mg base (CXf P w) 1 f fd ["numbers"] (spIsWord K) := by
  refine F.okn scIsWordP (fun vs H Q E h => ?_) (fun cdv A outer s H vs Q E hr h => ?_)
  · obtain ⟨_, _, rfl, _⟩ := h
    rfl
  obtain ⟨a, ns, rfl, hS, q⟩ := h
  have hl : (ns.map V.int).length = ns.length := List.length_map _
  refine ⟨_, (pss_cons (ps_set (i := 1) scIsWordP.nd rfl (Or.inl rfl) pe_int)
    (pss_cons (ps_for PassesOwn.never rfl (pi_reversed rfl T.reversed (pa_cons (pv 0) pa_nil)) (pg_name (i := 2) scIsWordP.nd rfl (Or.inl rfl))
      (pss_cons (ps_set (i := 1) scIsWordP.nd rfl (Or.inl rfl) (pe_op op_sub (pe_op op_add (pv 1) pe_int) (pv 2)))
    (pss_one (ps_if (PW.pt (pw_or (pt_cmpR op_lt (pv 2) pe_int (nomark _)) (pw_or1 (pt_cmpR op_lt (pv 1) pe_int (nomark _))))) (pss_one (ps_ret pe_bl)) pss_nil))))
    (pss_one (ps_ret (pe_cmpR op_gt (pv 1) pe_int (nomark _)))))), ?_⟩
  refine ⟨_, rfl, a, _, rfl, hS, for_rev (K := K) (a := a) (xs := ns.map V.int) (fun i σ H2 => ∃ v : Option V, σ = [some (.ref a), some (.int ((mir ns).take i).sum), v] ∧ H2 = H ∧ (∀ x ∈ ns.reverse.take i, 0 ≤ x) ∧ goodB ((mir ns).take i) = true)
    ⟨none, rfl, rfl, (fun x hx => nomatch hx), rfl⟩ (fun i σ H2 _ ⟨_, _, e, _⟩ => e ▸ hS) ?_ ?_⟩
  · rintro i y σ H2 hi ⟨v, rfl, rfl, hp, hg⟩
    rw [← List.map_reverse] at hi
    obtain ⟨z, rfl, hz⟩ := int_of_map hi
    have hm : z ∈ ns := List.mem_reverse.mp (List.mem_of_getElem? hz)
    have hm1 : (mir ns)[i]? = some (1 - z) := by rw [mir_rev, List.getElem?_map, hz]; rfl
    have e1 : (mir ns).take (i + 1) = (mir ns).take i ++ [1 - z] := take_snoc hm1
    have e2 : ((mir ns).take (i + 1)).sum = ((mir ns).take i).sum + 1 - z := by
      rw [e1, List.sum_append, List.sum_cons, List.sum_nil]
      omega
    refine ⟨_, rfl, _, _, rfl, rfl, _, rfl, _, _, rfl, rfl, _, rfl, _, _, rfl, rfl, _, rfl, ite2 (fun c => iteT ?_) (fun c => ?_)⟩
    · have e : Gr.isWord ns = false := isWord_neg hm (of_decide_eq_true c)
      rw [e] at q
      exact q
    have c' : 0 ≤ z := by
      have : ¬ z < 0 := fun h => c (decide_eq_true h)
      omega
    refine ⟨_, rfl, _, _, rfl, rfl, _, rfl, ite2 (fun c1 => ?_) (fun c1 => ?_)⟩
    · have c1' : ((mir ns).take i).sum + 1 - z < 1 := of_decide_eq_true c1
      have hb : goodB ((mir ns).take (i + 1)) = false := by
        rw [e1, goodB_snoc, hg, Bool.true_and]
        exact decide_eq_false (by omega)
      have e : Gr.isWord ns = false := isWord_bad (by rw [← List.take_append_drop (i + 1) (mir ns)]; exact goodB_app _ _ hb)
      rw [e] at q
      exact q
    · have c1' : ¬ ((mir ns).take i).sum + 1 - z < 1 := fun h => c1 (decide_eq_true h)
      refine ⟨some (.int z), ?_, rfl, fun x hx => ?_, ?_⟩
      · rw [e2]
        rfl
      · rw [take_snoc hz] at hx
        rcases List.mem_append.mp hx with hx | hx
        · exact hp x hx
        · rw [List.mem_singleton.mp hx]
          exact c'
      · rw [e1, goodB_snoc, hg, Bool.true_and]
        exact decide_eq_true (by omega)
  · rintro σ H2 ⟨v, rfl, rfl, hp, hg⟩
    rw [hl] at hp hg ⊢
    have hml := mir_len ns
    rw [List.take_of_length_le (by omega)] at hg ⊢
    rw [List.take_of_length_le (by rw [List.length_reverse]; exact Nat.le_refl _)] at hp
    refine ⟨_, rfl, _, _, rfl, rfl, ?_⟩
    have e : Gr.isWord ns = decide (0 < (mir ns).sum) := by
      by_cases h0 : ns = []
      · subst h0
        rfl
      · have h1 : 1 ≤ ns.length := List.length_pos_iff.mpr h0
        rw [isWord_good (fun x hx => hp x (List.mem_reverse.mpr hx)) h1, hg]
        symm
        refine decide_eq_true ?_
        have := (goodB_iff (mir ns)).mp hg (mir ns).length (by omega) (Nat.le_refl _)
        rw [List.take_of_length_le (Nat.le_refl _)] at this
        exact this
    rw [e] at q
    exact q
theorem scCheckW : FnScope ["word"] ["word"] (defScope sCheckW) := ⟨rfl, rfl, rfl, by decide +kernel, rfl, by decide +kernel, by decide +kernel⟩
theorem ok_checkW (F : Fun K "check_word" "check_word" sCheckW f fd) (ZW : Rz K mg "NoWord" cW) (W : Fn P w K mg base "is_word" ["numbers"] 1 (spIsWord K)) : FnOk P w K mg base (CXf P w) 2 f fd ["word"] (spCheckW K cW) := by
  refine F.okx scCheckW (fun vs H Q E h => ?_) (fun cdv A outer s H vs Q E hr h => ?_)
  · obtain ⟨_, _, rfl, _⟩ := h
    rfl
  obtain ⟨a, ns, rfl, hS, q, qE⟩ := h
  refine ⟨_, (pss_one (ps_if (pt_not (pt_val (pe_fn W (hr.mono (by omega)) rfl (pa_cons (pv 0) pa_nil)))) (pss_one (ps_raise (E := E) rfl rfl ZW.m ZW.x PySem.F.excBase_ValueError (by decide +kernel) PySem.F.excBase_ValueError (fun I hx q => raise_out I hx q) (pa_cons pe_str pa_nil))) pss_nil)), ?_⟩
  refine ⟨_, rfl, a, ns, rfl, hS, _, rfl, ?_⟩
  cases e : Gr.isWord ns with
  | true => exact iteF (q e)
  | false => exact iteT ⟨by show 1 ≤ sizeLine; decide, qE e⟩
theorem scCountsOf : FnScope ["word", "counts", "number"] ["word"] (defScope sCountsOf) := ⟨rfl, rfl, rfl, by decide +kernel, rfl, by decide +kernel, by decide +kernel⟩
theorem rep_zero (n : Nat) : (List.replicate n [V.int 0]).flatten = (List.replicate n (0 : Int)).map V.int := by
  induction n with
  | zero => rfl
  | succ n ih => rw [List.replicate_succ, List.flatten_cons, ih, List.replicate_succ]; rfl
theorem ok_countsof (F : Fun K "counts_of" "counts_of" sCountsOf f fd) (T : Txt mg) (CW : Fn P w K mg base "check_word" ["word"] 2 (spCheckW K cW)) : FnOk P w K mg base (CXf P w) 3 f fd ["word"] (spCountsOf K cW) := by
  refine F.okx scCountsOf (fun vs H Q E h => ?_) (fun cdv A outer s H vs Q E hr h => ?_)
  · obtain ⟨_, _, rfl, _⟩ := h
    rfl
  obtain ⟨a, ns, rfl, hS, l1, bd, q, qE⟩ := h
  refine ⟨_, (pss_cons (ps_expr (pe_fx (E := E) CW pass_out (hr.mono (by omega)) rfl (pa_cons (pv 0) pa_nil)))
    (pss_cons (ps_set (i := 1) scCountsOf.nd rfl (Or.inl rfl) (pe_op op_rep (pe_lst (pa_cons pe_int pa_nil)) (pe_op op_add (pe_callB (call_max rfl) rfl T.max PyProof.Rows.boot_max (pa_cons (pv 0) pa_nil)) pe_int)))
    (pss_cons (ps_for PassesOwn.leaving rfl (pi_list (pv 0)) (pg_name (i := 2) scCountsOf.nd rfl (Or.inl rfl))
      (pss_one (ps_asg (pe_op op_add (pe_ix ix_list (pv 1) (pv 2) (fun _ _ => rfl)) pe_int) (pg_sub (pv 1) (pv 2) set_list))))
    (pss_one (ps_ret (pv 1)))))), ?_⟩
  refine ⟨_, rfl, a, ns, rfl, hS, fun ok => ?_, fun nok => qE nok⟩
  obtain ⟨g, gn, hgw⟩ := Gr.isWord_iff.mp ok
  have hb : ∀ x ∈ ns, 0 ≤ x := fun x hx => by
    rw [← hgw] at hx
    exact Gr.word_nonneg g x hx
  have h0 : 0 < ns.length := by
    rw [← hgw, Gr.word_len]
    cases g with
    | nil => exact absurd rfl gn
    | cons x y => simp only [Gr.size]; omega
  have hs : sizeLine = 16777216 := sizeLine_eq
  refine ⟨(by show 1 ≤ sizeLine; decide), fun z hz => ?_⟩
  have gz := same_new hz (.lst [V.int 0])
  refine ⟨_, rfl, a, ns, rfl, gz.seq hS, h0, fun M m1 m2 => ?_⟩
  obtain ⟨M, rfl⟩ := Int.eq_ofNat_of_zero_le (hb M m1)
  have hM := (bd _ m1).2
  have eM : ((M : Int) + 1).toNat = M + 1 := by omega
  refine ⟨_, _, rfl, rfl, z, _, _, rfl, rfl, upd_same, by omega, by omega, by rw [eM]; show 1 * (M + 1) ≤ sizeLine; omega, fun D hD => ?_⟩
  have gD := same_new hD (.lst (List.replicate ((M : Int) + 1).toNat [V.int 0]).flatten)
  have hD0 : H D = none := gz.free hD
  rw [eM, rep_zero, ← cntI_nil] at gD ⊢
  refine ⟨_, rfl, a, rfl, ⟨_, (gz.trans gD).seq hS⟩, for_list (K := K) (a := a) (xs := ns.map V.int) (fun i σ H3 => ∃ v : Option V, σ = [some (.ref a), some (.ref D), v] ∧ Same H H3 ∧ H3 D = some (.lst ((cntI (M + 1) (ns.take i)).map V.int)))
    ⟨none, rfl, gz.trans gD, upd_same⟩ (fun i σ H3 _ ⟨_, _, g, _⟩ => g.seq hS) ?_ ?_⟩
  · rintro i y σ H3 hi ⟨v, rfl, g, hD3⟩
    obtain ⟨z, rfl, hz⟩ := int_of_map hi
    have hm := List.mem_of_getElem? hz
    obtain ⟨j, rfl⟩ := Int.eq_ofNat_of_zero_le (hb z hm)
    have hj : j < M + 1 := by have := m2 _ hm; omega
    have hg : ((cntI (M + 1) (ns.take i)).map V.int)[j]? = some (.int ((ns.take i).count (j : Int) : Int)) := by rw [List.getElem?_map, cntI_get hj]; rfl
    have hix : ixN ((cntI (M + 1) (ns.take i)).map V.int).length ((j : Nat) : Int) = some j := by
      unfold ixN
      rw [List.length_map, cntI_len, if_pos (by omega), if_pos (by omega), Int.toNat_natCast]
    refine ⟨_, rfl, _, rfl, D, _, _, _, rfl, rfl, SqL.of hD3, atI_nat hg, _, _, rfl, rfl, _, rfl, _, rfl, D, _, (j : Int), j, rfl, rfl, hD3, hix, some (.int (j : Int)), rfl, same_upd g hD0 _, ?_⟩
    rw [upd_same, take_snoc hz, cntI_snoc hj, List.map_set]
  · rintro σ H3 ⟨v, rfl, g, hD3⟩
    rw [List.length_map, List.take_of_length_le (Nat.le_refl _)] at hD3
    exact ⟨_, rfl, q ok M m1 m2 D H3 g hD0 hD3⟩
theorem scTreesOf : FnScope ["counts"] ["counts"] (defScope sTreesOf) := ⟨rfl, rfl, rfl, by decide +kernel, rfl, by decide +kernel, by decide +kernel⟩
theorem ok_treesof (F : Fun K "trees_of" "trees_of" sTreesOf f fd) (T : Txt mg) : FnOk P w K mg base (CXf P w) 1 f fd ["counts"] (spTreesOf K) := by
  refine F.okn scTreesOf (fun vs H Q E h => ?_) (fun cdv A outer s H vs Q E hr h => ?_)
  · obtain ⟨_, _, rfl, _⟩ := h
    rfl
  obtain ⟨a, c, rfl, hS, l1, s1, q⟩ := h
  have el : (ciN c).length = c.length := by unfold ciN; rw [List.length_map]
  refine ⟨_, (pss_one (ps_ret (pe_callB (call_sum rfl) rfl T.sum PyProof.Rows.boot_sum (pa_cons (pe_lc2 rfl scTreesOf.nd (LcScope2.mk' (N := ["counts"]) (sc := defScope sTreesOf) rfl rfl rfl (by decide +kernel) (by decide +kernel) rfl rfl (by decide +kernel) (by decide +kernel) (by decide +kernel) (by decide +kernel) (by decide +kernel)) (pi_enumerate rfl T.enumerate (pa_cons (pv 0) pa_nil)) (fun _ _ _ _ _ => pif_nil) (fun _ _ _ _ _ => (pe_op op_mul (pv 2) (pe_op op_sub pe_int (pv 1))))) pa_nil)))), ?_⟩
  refine ⟨_, rfl, a, rfl, ⟨_, hS⟩, ?_⟩
  refine lc_enum0 (xs := vi c) (fun i ys H3 => ys = (evs (fun i x => x * (1 - (i : Int))) 0 ((ciN c).take i)).map V.int ∧ Same H H3) ⟨rfl, Same.refl _⟩ (fun i ys H3 ⟨e1, _⟩ => by
    rw [e1, List.length_map, evs_len, List.length_take]
    exact Nat.min_le_left _ _) (by rw [vi_len]; exact small (by omega)) (fun i ys H3 _ ⟨_, e⟩ => e.seq hS) ?_ ?_
  · rintro i x ys H5 t hi ht ⟨rfl, g5⟩
    rw [vi_ciN] at hi
    obtain ⟨z, rfl, hz⟩ := int_of_map hi
    have hil : i < (ciN c).length := (List.getElem?_eq_some_iff.mp hz).1
    rw [el] at hil
    refine ⟨_, rfl, _, rfl, _, _, rfl, rfl, _, _, rfl, rfl, .inr ⟨by omega, by omega⟩, ?_, g5.trans (same_new ht _)⟩
    rw [take_snoc hz, evs_snoc, List.map_append, List.length_take, Nat.min_eq_left (by rw [el]; omega), Nat.zero_add]
    rfl
  rintro ys H5 ⟨rfl, g5⟩ M hM
  rw [vi_len, List.take_of_length_le (by rw [el]; exact Nat.le_refl _)]
  refine ⟨M, _, rfl, SqL.of upd_same, ?_⟩
  have es : (evs (fun i x => x * (1 - (i : Int))) 0 (ciN c)).sum = (c.sum : Int) - wt 0 c := evs_sum c 0
  rw [es]
  exact q _ (g5.trans (same_new hM _))
theorem scProdTo : FnScope ["number", "product", "factor"] ["number"] (defScope sProdTo) := ⟨rfl, rfl, rfl, by decide +kernel, rfl, by decide +kernel, by decide +kernel⟩
theorem ok_prodto (F : Fun K "product_to" "product_to" sProdTo f fd) (T : Txt mg) : FnOk P w K mg base (CXf P w) 1 f fd ["number"] spProdTo := by
  refine F.okn scProdTo (fun vs H Q E h => ?_) (fun cdv A outer s H vs Q E hr h => ?_)
  · obtain ⟨_, rfl, _⟩ := h
    rfl
  obtain ⟨n, rfl, hn, q⟩ := h
  refine ⟨_, (pss_cons (ps_set (i := 1) scProdTo.nd rfl (Or.inl rfl) pe_int)
    (pss_cons (ps_for PassesOwn.never rfl (pi_range2 rfl T.range (pa_cons pe_int (pa_cons (pe_op op_add (pv 0) pe_int) pa_nil))) (pg_name (i := 2) scProdTo.nd rfl (Or.inl rfl))
      (pss_one (ps_set (i := 1) scProdTo.nd rfl (Or.inl rfl) (pe_op op_mul (pv 1) (pv 2)))))
    (pss_one (ps_ret (pv 1))))), ?_⟩
  refine ⟨_, rfl, _, _, rfl, rfl, 2, (n : Int) + 1, rfl, ⟨by omega, by omega, by omega, by omega⟩, for_range (lo := 2) (n := ((n : Int) + 1 - 2).toNat) (fun i σ H2 => ∃ v : Option V, σ = [some (.int (n : Int)), some (.int (fact (i + 1) : Nat)), v] ∧ H2 = H) ⟨none, rfl, rfl⟩ ?_ ?_⟩
  · rintro i σ H2 hi ⟨v, rfl, rfl⟩
    refine ⟨_, rfl, _, rfl, _, _, rfl, rfl, .inr ⟨by omega, by omega⟩, some (.int (2 + (i : Int))), ?_, rfl⟩
    show [some (V.int (n : Int)), some (V.int (((fact (i + 1) : Nat) : Int) * (2 + (i : Int)))), some (V.int (2 + (i : Int)))] = _
    rw [show ((fact (i + 1) : Nat) : Int) * (2 + (i : Int)) = ((fact (i + 1 + 1) : Nat) : Int) by
      rw [show fact (i + 1 + 1) = (i + 1 + 1) * fact (i + 1) from rfl, Int.mul_comm]
      push_cast
      rw [show (2 : Int) + i = (i : Int) + 1 + 1 by omega]]
  · rintro σ H2 ⟨v, rfl, rfl⟩
    refine ⟨_, rfl, ?_⟩
    have e : fact (((n : Int) + 1 - 2).toNat + 1) = fact n := by
      rcases n with _ | n
      · rfl
      · congr 1
        omega
    rw [e]
    exact q
theorem scListsWith : FnScope ["counts", "lists", "count"] ["counts"] (defScope sListsWith) := ⟨rfl, rfl, rfl, by decide +kernel, rfl, by decide +kernel, by decide +kernel⟩
theorem multi_part {c : List Nat} {i x : Nat} (hx : c[i]? = some x) : fact c.sum / prodF (c.take i) / fact x = fact c.sum / prodF (c.take (i + 1)) := by
  rw [List.take_add_one, hx]
  show _ = fact c.sum / prodF (c.take i ++ [x])
  rw [prodF_snoc, Nat.div_div_eq_div_mul]
theorem ok_listswith (F : Fun K "lists_with" "lists_with" sListsWith f fd) (T : Txt mg) (PT : Fn P w K mg base "product_to" ["number"] 1 spProdTo) : FnOk P w K mg base (CXf P w) 2 f fd ["counts"] (spListsWith K) := by
  refine F.okn scListsWith (fun vs H Q E h => ?_) (fun cdv A outer s H vs Q E hr h => ?_)
  · obtain ⟨_, _, rfl, _⟩ := h
    rfl
  obtain ⟨a, c, rfl, hS, l1, s1, q⟩ := h
  have hSi := hS
  rw [vi_ciN] at hSi
  refine ⟨_, (pss_cons (ps_set (i := 1) scListsWith.nd rfl (Or.inl rfl) (pe_fn PT (hr.mono (by omega)) rfl (pa_cons (pe_callB (call_sum rfl) rfl T.sum PyProof.Rows.boot_sum (pa_cons (pv 0) pa_nil)) pa_nil)))
    (pss_cons (ps_for PassesOwn.never rfl (pi_list (pv 0)) (pg_name (i := 2) scListsWith.nd rfl (Or.inl rfl))
      (pss_one (ps_set (i := 1) scListsWith.nd rfl (Or.inl rfl) (pe_op op_fdivB (pv 1) (pe_fn PT (hr.mono (by omega)) rfl (pa_cons (pv 2) pa_nil))))))
    (pss_one (ps_ret (pv 1))))), ?_⟩
  refine ⟨_, rfl, a, ciN c, rfl, hSi, ?_⟩
  rw [ciN_sum]
  refine ⟨c.sum, rfl, s1, ?_⟩
  refine ⟨_, rfl, a, rfl, ⟨_, hS⟩, for_list (K := K) (a := a) (xs := vi c) (fun i σ H2 => ∃ v : Option V, σ = [some (.ref a), some (.int (fact c.sum / prodF (c.take i) : Nat)), v] ∧ H2 = H) ⟨none, by rw [List.take_zero, show prodF [] = 1 from rfl, Nat.div_one]; rfl, rfl⟩ (fun i σ H2 _ ⟨_, _, e⟩ => e ▸ hS) ?_ ?_⟩
  · rintro i y σ H2 hi ⟨v, rfl, rfl⟩
    obtain ⟨x, rfl, hx⟩ := vi_get hi
    have hx60 : x ≤ 60 := Nat.le_trans (mem_le_sum (List.mem_of_getElem? hx)) s1
    refine ⟨_, rfl, _, rfl, x, rfl, hx60, _, _, rfl, rfl, fact_div hx60 _, some (.int (x : Int)), ?_, rfl⟩
    rw [← multi_part hx]
    rfl
  · rintro σ H2 ⟨v, rfl, rfl⟩
    rw [vi_len, List.take_of_length_le (Nat.le_refl _)]
    exact ⟨_, rfl, q⟩
theorem scHowMany : FnScope ["counts", "trees"] ["counts"] (defScope sHowMany) := ⟨rfl, rfl, rfl, by decide +kernel, rfl, by decide +kernel, by decide +kernel⟩
theorem ok_howmany (F : Fun K "how_many" "how_many" sHowMany f fd) (T : Txt mg) (TO : Fn P w K mg base "trees_of" ["counts"] 1 (spTreesOf K)) (LW : Fn P w K mg base "lists_with" ["counts"] 2 (spListsWith K)) : FnOk P w K mg base (CXf P w) 3 f fd ["counts"] (spHowMany K) := by
  refine F.okn scHowMany (fun vs H Q E h => ?_) (fun cdv A outer s H vs Q E hr h => ?_)
  · obtain ⟨_, _, rfl, _⟩ := h
    rfl
  obtain ⟨a, c, rfl, hS, l1, l2, s1, s2, q⟩ := h
  have hSi := hS
  rw [vi_ciN] at hSi
  have el : (ciN c).length = c.length := by unfold ciN; rw [List.length_map]
  refine ⟨_, (pss_cons (ps_set (i := 1) scHowMany.nd rfl (Or.inl rfl) (pe_fn TO (hr.mono (by omega)) rfl (pa_cons (pv 0) pa_nil)))
    (pss_cons (ps_if (PW.pt (pw_or (pt_cmpR op_lt (pv 1) pe_int (nomark _)) (pw_or1 (pt_cmpR op_lt (pe_callB (call_min rfl) rfl T.min PyProof.Rows.boot_min (pa_cons (pv 0) pa_nil)) pe_int (nomark _))))) (pss_one (ps_ret pe_int)) pss_nil)
    (pss_one (ps_ret (pe_op op_fdiv (pe_op op_mul (pv 1) (pe_fn LW (hr.mono (by omega)) rfl (pa_cons (pv 0) pa_nil))) (pe_callB (call_sum rfl) rfl T.sum PyProof.Rows.boot_sum (pa_cons (pv 0) pa_nil))))))), ?_⟩
  refine ⟨_, rfl, a, c, rfl, hS, l2, s2, fun H1 g1 => ?_⟩
  refine ⟨_, rfl, _, _, rfl, rfl, _, rfl, ite2 (fun e => iteT ?_) (fun e => ?_)⟩
  · have e' : (c.sum : Int) - (wt 0 c : Nat) < 1 := of_decide_eq_true e
    have : hm c = 0 := by unfold hm; rw [if_neg (by omega)]
    have q' := q H1 g1
    rw [this] at q'
    exact q'
  have e' : ¬ (c.sum : Int) - (wt 0 c : Nat) < 1 := fun z => e (decide_eq_true z)
  refine ⟨_, rfl, a, ciN c, rfl, g1.seq hSi, by omega, fun M h1 h2 => ?_⟩
  have hM : 0 ≤ M := by
    obtain ⟨j, _, rfl⟩ := List.mem_map.mp h1
    omega
  refine ⟨_, _, rfl, rfl, _, rfl, ?_⟩
  rw [decide_eq_false (by omega)]
  refine iteF ⟨_, rfl, _, rfl, a, c, rfl, g1.seq hS, l2, s2, _, _, rfl, rfl, .inl ⟨by omega, by omega⟩, _, rfl, a, ciN c, rfl, g1.seq hSi, ?_⟩
  rw [ciN_sum]
  refine ⟨_, _, rfl, rfl, ⟨by omega, by omega⟩, ?_⟩
  have hw : wt 0 c < c.sum := by omega
  have ed : (c.sum - wt 0 c) * multi c / c.sum = hm c := by
    unfold hm
    rw [if_pos hw, comp_div (by omega) rfl (by omega)]
  have e3 : ((c.sum : Int) - (wt 0 c : Nat)) * ((multi c : Nat) : Int) / (c.sum : Int) = ((hm c : Nat) : Int) := by
    rw [← ed, show (c.sum : Int) - (wt 0 c : Nat) = ((c.sum - wt 0 c : Nat) : Int) by omega]
    push_cast
    rfl
  show Q (.int (((c.sum : Int) - (wt 0 c : Nat)) * ((multi c : Nat) : Int) / (c.sum : Int))) H1
  rw [e3]
  exact q H1 g1
theorem scWithout : FnScope ["counts", "number"] ["counts", "number"] (defScope sWithout) := ⟨rfl, rfl, rfl, by decide +kernel, rfl, by decide +kernel, by decide +kernel⟩
theorem less_parts {c : List Nat} {i : Nat} (h : i < c.length) : less c i = c.take i ++ [c.getD i 0 - 1] ++ c.drop (i + 1) := by
  unfold less
  rw [List.set_eq_take_append_cons_drop, if_pos h]
  simp
theorem vi_take (c : List Nat) (i : Nat) : (vi c).take i = vi (c.take i) := by unfold vi; rw [List.map_take]
theorem vi_drop (c : List Nat) (i : Nat) : (vi c).drop i = vi (c.drop i) := by unfold vi; rw [List.map_drop]
theorem ok_without (F : Fun K "without" "without" sWithout f fd) : FnOk P w K mg base (CXf P w) 1 f fd ["counts", "number"] (spWithout K) := by
  refine F.okn scWithout (fun vs H Q E h => ?_) (fun cdv A outer s H vs Q E hr h => ?_)
  · obtain ⟨_, _, _, rfl, _⟩ := h
    rfl
  obtain ⟨a, c, i, rfl, hS, l1, hi, hp, q⟩ := h
  have hs : sizeLine = 16777216 := sizeLine_eq
  refine ⟨_, (pss_one (ps_ret (pe_op op_cat (pe_op op_cat (pe_slice sl_list (pv 0) po_none (po_some (pv 1))) (pe_lst (pa_cons (pe_op op_sub (pe_ix ix_list (pv 0) (pv 1) (fun _ _ => rfl)) pe_int) pa_nil))) (pe_slice sl_list (pv 0) (po_some (pe_op op_add (pv 1) pe_int)) po_none)))), ?_⟩
  refine ⟨_, rfl, _, rfl, _, rfl, a, _, rfl, hS, fun p1 hp1 => ?_⟩
  rw [cutG_to (by rw [vi_len]; omega)]
  have s1 := same_new hp1 (.lst ((vi c).take i))
  refine ⟨_, rfl, _, rfl, a, _, _, _, rfl, rfl, s1.seq hS, atI_nat (vi_getD hi), _, _, rfl, rfl, (by show 1 ≤ sizeLine; decide), fun p2 hp2 => ?_⟩
  have s2 := same_new hp2 (.lst [V.int ((c.getD i 0 : Nat) - 1 : Int)])
  refine ⟨p1, p2, _, _, rfl, rfl, s2 _ _ upd_same, upd_same, by rw [List.length_take, vi_len]; show _ + 1 ≤ sizeLine; omega, fun p3 hp3 => ?_⟩
  have s3 := same_new hp3 (.lst ((vi c).take i ++ [V.int ((c.getD i 0 : Nat) - 1 : Int)]))
  refine ⟨_, rfl, _, rfl, _, _, rfl, rfl, _, rfl, a, _, rfl, (s1.trans (s2.trans s3)).seq hS, fun p4 hp4 => ?_⟩
  have e4 : cutV (vi c) (some ((i : Int) + 1)) none = (vi c).drop (i + 1) := by
    rw [show (i : Int) + 1 = ((i + 1 : Nat) : Int) by omega]
    exact cutG_from (by rw [vi_len]; omega)
  rw [e4]
  have s4 := same_new hp4 (.lst ((vi c).drop (i + 1)))
  refine ⟨p3, p4, _, _, rfl, rfl, s4 _ _ upd_same, upd_same, ?_, fun p5 hp5 => ?_⟩
  · rw [List.length_append, List.length_take, List.length_drop, vi_len]
    show _ + 1 + _ ≤ sizeLine
    omega
  have s5 := same_new hp5 (.lst ((vi c).take i ++ [V.int ((c.getD i 0 : Nat) - 1 : Int)] ++ (vi c).drop (i + 1)))
  refine q p5 _ (s1.trans (s2.trans (s3.trans (s4.trans s5)))) (s1.free (s2.free (s3.free (s4.free hp5)))) ?_
  rw [upd_same, less_parts hi, vi_take, vi_drop]
  show some (HO.lst (vi (c.take i) ++ [V.int (((c.getD i 0 : Nat) : Int) - 1)] ++ vi (c.drop (i + 1)))) = _
  rw [show ((c.getD i 0 : Nat) : Int) - 1 = ((c.getD i 0 - 1 : Nat) : Int) by omega]
  unfold vi
  rw [List.map_append, List.map_append]
  rfl
theorem scBegun : FnScope ["left", "number", "rest"] ["left", "number"] (defScope sBegun) := ⟨rfl, rfl, rfl, by decide +kernel, rfl, by decide +kernel, by decide +kernel⟩
theorem ok_begun (F : Fun K "begun_with" "begun_with" sBegun f fd) (T : Txt mg) (WO : Fn P w K mg base "without" ["counts", "number"] 1 (spWithout K)) (HM : Fn P w K mg base "how_many" ["counts"] 3 (spHowMany K)) : FnOk P w K mg base (CXf P w) 4 f fd ["left", "number"] (spBegun K) := by
  refine F.okn scBegun (fun vs H Q E h => ?_) (fun cdv A outer s H vs Q E hr h => ?_)
  · obtain ⟨_, _, _, rfl, _⟩ := h
    rfl
  obtain ⟨a, c, i, rfl, hS, l1, hi, s1, hw, q⟩ := h
  refine ⟨_, (pss_cons (ps_if (pt_cmpR op_eq (pe_ix ix_list (pv 0) (pv 1) (fun _ _ => rfl)) pe_int (nomark _)) (pss_one (ps_ret pe_int)) pss_nil)
    (pss_cons (ps_set (i := 2) scBegun.nd rfl (Or.inl rfl) (pe_fn WO (hr.mono (by omega)) rfl (pa_cons (pv 0) (pa_cons (pv 1) pa_nil))))
    (pss_one (ps_ret (pe_ifExp (pt_cmpR op_eq (pe_callB (call_sum rfl) rfl T.sum PyProof.Rows.boot_sum (pa_cons (pv 2) pa_nil)) pe_int (nomark _)) pe_int (pe_fn HM (hr.mono (by omega)) rfl (pa_cons (pv 2) pa_nil))))))), ?_⟩
  refine ⟨_, rfl, _, rfl, a, _, _, _, rfl, rfl, hS, atI_nat (vi_getD hi), rfl, _, rfl, ite2 (fun e => ?_) (fun e => ?_)⟩
  · have e' : c.getD i 0 = 0 := by
      have := V.int.inj (of_decide_eq_true e)
      omega
    have q' := q H (Same.refl _)
    unfold beg at q'
    rw [e', if_neg (by omega)] at q'
    exact q'
  have hp : 0 < c.getD i 0 := by
    have : ¬ c.getD i 0 = 0 := fun z => e (decide_eq_true (by rw [z]; rfl))
    omega
  have hls := less_sum c i hp
  have hlw := less_wt c 0 i hp
  have hll := less_len c i
  refine ⟨_, rfl, _, rfl, a, c, i, rfl, hS, l1, hi, hp, fun r H1 g1 hr0 hr1 => ?_⟩
  have hri := hr1
  rw [vi_ciN] at hri
  refine ⟨_, rfl, r, ciN (less c i), rfl, SqL.of hri, ?_⟩
  rw [ciN_sum]
  have eb : beg c i = comp (c.sum - 1) (c.sum - wt 0 c - 1 + i) (less c i) := by unfold beg; rw [if_pos hp]
  refine ⟨rfl, _, rfl, ite2 (fun e2 => ?_) (fun e2 => ?_)⟩
  · have e2' : (less c i).sum = 0 := by
      have := V.int.inj (of_decide_eq_true e2)
      omega
    have q' := q H1 g1
    rw [eb, show c.sum - 1 = 0 by omega, show c.sum - wt 0 c - 1 + i = 0 by omega] at q'
    exact q'
  · have e2' : (less c i).sum ≠ 0 := fun z => e2 (decide_eq_true (by rw [z]; rfl))
    refine ⟨_, rfl, r, less c i, rfl, SqL.of hr1, by omega, by omega, by omega, by omega, fun H2 g2 => ?_⟩
    have q' := q H2 (g1.trans g2)
    have eh : hm (less c i) = beg c i := by
      rw [eb]
      unfold hm
      by_cases hlt : wt 0 (less c i) < (less c i).sum
      · rw [if_pos hlt]
        congr 1
        · omega
        · omega
      · rw [if_neg hlt, show c.sum - wt 0 c - 1 + i = 0 by omega, show c.sum - 1 = (c.sum - 2) + 1 by omega]
        rfl
    rw [← eh] at q'
    exact q'
theorem scNumberOf : FnScope ["word", "left", "ahead", "number"] ["word"] (defScope sNumberOf) := ⟨rfl, rfl, rfl, by decide +kernel, rfl, by decide +kernel, by decide +kernel⟩
/-- a word, and what the landed program keeps of it -/
theorem word_step {M p j : Nat} {r : List Int} (hb : ∀ x ∈ ((j : Int) :: r), 0 ≤ x ∧ x < ((M + 1 : Nat) : Int)) (hc : Gr.chk p ((j : Int) :: r) = true) :
    p = (cntN (M + 1) ((j : Int) :: r)).sum - wt 0 (cntN (M + 1) ((j : Int) :: r)) ∧ wt 0 (cntN (M + 1) ((j : Int) :: r)) < (cntN (M + 1) ((j : Int) :: r)).sum ∧ (cntN (M + 1) ((j : Int) :: r)).sum = r.length + 1 ∧ Gr.chk (p - 1 + j) r = true ∧
    rankL ((j : Int) :: r).length p (cntN (M + 1) ((j : Int) :: r)) ((j : Int) :: r) = sumI j (beg (cntN (M + 1) ((j : Int) :: r))) + rankL r.length (p - 1 + j) (cntN (M + 1) r) r := by
  have hj : j < M + 1 := by have := (hb (j : Int) (by simp)).2; omega
  have hsum := cntN_sum (M + 1) ((j : Int) :: r) hb
  have hwt := cntN_wt (M + 1) ((j : Int) :: r) hb
  obtain ⟨g, hg1, hg2⟩ := Gr.of_chk _ _ hc
  have hws := Gr.word_sum g
  have hwl := Gr.word_len g
  rw [hg2] at hws hwl
  rw [List.length_cons] at hsum hwl
  cases p with
  | zero => cases hc
  | succ p =>
    have hp : p + 1 = (cntN (M + 1) ((j : Int) :: r)).sum - wt 0 (cntN (M + 1) ((j : Int) :: r)) := by omega
    refine ⟨hp, by omega, hsum, ?_, ?_⟩
    · rw [Gr.chk, Bool.and_eq_true, Int.toNat_natCast] at hc
      exact hc.2
    · rw [List.length_cons, rankL, Int.toNat_natCast, (cntN_cons hj).1]
      congr 1
      refine sumI_congr fun i _ => ?_
      unfold beg
      rw [hsum, ← hsum, ← hp, hsum]
      rfl
theorem ok_numberof (F : Fun K "number_of" "number_of" sNumberOf f fd) (T : Txt mg) (CO : Fn P w K mg base "counts_of" ["word"] 3 (spCountsOf K cW)) (BW : Fn P w K mg base "begun_with" ["left", "number"] 4 (spBegun K)) (WO : Fn P w K mg base "without" ["counts", "number"] 1 (spWithout K)) :
    FnOk P w K mg base (CXf P w) 5 f fd ["word"] (spNumberOf K cW) := by
  refine F.okx scNumberOf (fun vs H Q E h => ?_) (fun cdv A outer s H vs Q E hr h => ?_)
  · obtain ⟨_, _, rfl, _⟩ := h
    rfl
  obtain ⟨a, ns, rfl, hS, l1, bd, q, qE⟩ := h
  refine ⟨_, (pss_cons (ps_set (i := 1) scNumberOf.nd rfl (Or.inr rfl) (pe_fx (E := E) CO pass_out (hr.mono (by omega)) rfl (pa_cons (pv 0) pa_nil)))
    (pss_cons (ps_set (i := 2) scNumberOf.nd rfl (Or.inl rfl) pe_int)
    (pss_cons (ps_for PassesOwn.leaving rfl (pi_list (pv 0)) (pg_name (i := 3) scNumberOf.nd rfl (Or.inl rfl))
      (pss_cons (ps_set (i := 2) scNumberOf.nd rfl (Or.inl rfl) (pe_op op_add (pv 2) (pe_callB (call_sum rfl) rfl T.sum PyProof.Rows.boot_sum (pa_cons (pe_lc rfl scNumberOf.nd (LcScope.mk' (N := ["word", "left", "ahead", "number"]) (sc := defScope sNumberOf) rfl rfl rfl (by decide +kernel) (by decide +kernel) rfl (by decide +kernel) (by decide +kernel) (by decide +kernel)) (pi_range1 rfl T.range (pa_cons (pv 3) pa_nil)) (fun _ _ _ _ _ => pif_nil) (fun _ _ _ _ _ => (pe_fn BW (hr.mono (by omega)) rfl (pa_cons (pv 1) (pa_cons (pv 4) pa_nil))))) pa_nil))))
    (pss_one (ps_set (i := 1) scNumberOf.nd rfl (Or.inr rfl) (pe_fn WO (hr.mono (by omega)) rfl (pa_cons (pv 1) (pa_cons (pv 3) pa_nil)))))))
    (pss_one (ps_ret (pv 2)))))), ?_⟩
  refine ⟨_, rfl, a, ns, rfl, hS, l1, bd, fun ok M m1 m2 L0 H0 g0 hL0 hL1 => ?_, fun nok => qE nok⟩
  obtain ⟨g, gn, hgw⟩ := Gr.isWord_iff.mp ok
  have hb : ∀ x ∈ ns, 0 ≤ x ∧ x < ((M + 1 : Nat) : Int) := fun x hx => ⟨by rw [← hgw] at hx; exact Gr.word_nonneg g x hx, by have := m2 x hx; omega⟩
  have hM : M + 1 ≤ 60 := by
    have h1 := Gr.word_lt g M (by rw [hgw]; exact m1)
    have h2 := Gr.word_len g
    rw [hgw] at h2
    omega
  have hchk : Gr.chk g.len ns = true := Gr.chk_iff.mpr ⟨g, rfl, hgw⟩
  have hgl : g.len = ns.length - ns.sum.toNat := by
    have h1 := Gr.word_sum g
    have h2 := Gr.word_len g
    have h3 := g.len_le
    rw [hgw] at h1 h2
    omega
  refine ⟨_, rfl, a, rfl, ⟨_, g0.seq hS⟩, for_list (K := K) (a := a) (xs := ns.map V.int) (fun i σ H2 => ∃ (L : Addr) (k p : Nat) (v : Option V), σ = [some (.ref a), some (.ref L), some (.int (k : Int)), v] ∧ Same H H2 ∧ H2 L = some (.lst (vi (cntN (M + 1) (ns.drop i)))) ∧ Gr.chk p (ns.drop i) = true ∧
      numberW ns (M + 1) = k + rankL (ns.drop i).length p (cntN (M + 1) (ns.drop i)) (ns.drop i))
    ⟨L0, 0, g.len, none, rfl, g0, by rw [List.drop_zero, ← cnt_vi]; exact hL1, hchk, by rw [List.drop_zero, hgl, Nat.zero_add]; rfl⟩ (fun i σ H2 _ ⟨_, _, _, _, _, e, _⟩ => e.seq hS) ?_ ?_⟩
  · rintro i y σ H2 hi ⟨L, k, p, v, rfl, e0, hL, hc, hn⟩
    obtain ⟨z, rfl, hz⟩ := int_of_map hi
    have hzm := List.mem_of_getElem? hz
    obtain ⟨j, rfl⟩ := Int.eq_ofNat_of_zero_le (hb z hzm).1
    have hj : j < M + 1 := by have := (hb _ hzm).2; omega
    have hdr : ns.drop i = (j : Int) :: ns.drop (i + 1) := by
      obtain ⟨h1, h2⟩ := List.getElem?_eq_some_iff.mp hz
      rw [List.drop_eq_getElem_cons h1, h2]
    rw [hdr] at hL hc hn
    have hbd : ∀ x ∈ ((j : Int) :: ns.drop (i + 1)), 0 ≤ x ∧ x < ((M + 1 : Nat) : Int) := fun x hx => hb x (by rw [← hdr] at hx; exact List.mem_of_mem_drop hx)
    obtain ⟨hp, hw, hsm, hc', hrk⟩ := word_step hbd hc
    have hl60 : (cntN (M + 1) ((j : Int) :: ns.drop (i + 1))).length = M + 1 := cntN_len _ _
    have hs60 : (cntN (M + 1) ((j : Int) :: ns.drop (i + 1))).sum ≤ 60 := by
      rw [hsm, ← List.length_cons (a := (j : Int)), ← hdr, List.length_drop]
      omega
    have hcn := cntN_cons (r := ns.drop (i + 1)) hj
    generalize hcc : cntN (M + 1) ((j : Int) :: ns.drop (i + 1)) = c at *
    refine ⟨_, rfl, _, rfl, _, rfl, by omega, by omega, ?_⟩
    rw [show ((j : Nat) : Int).toNat = j from Int.toNat_natCast j]
    refine lc_range0 (fun t ys H3 => ys = vi ((List.range t).map (beg c)) ∧ Same H2 H3) ⟨rfl, Same.refl _⟩ (fun t ys H3 ⟨e1, _⟩ => by rw [e1, vi_len, List.length_map, List.length_range]; exact Nat.le_refl _) (small (by omega)) ?_ ?_
    · rintro t ys H3 ht ⟨rfl, g3⟩
      rw [show (0 : Int) + (t : Int) = ((t : Nat) : Int) by omega]
      refine ⟨_, rfl, _, rfl, L, c, t, rfl, SqL.of (g3 _ _ hL), by omega, by omega, hs60, hw, fun H4 g4 => ⟨?_, g3.trans g4⟩⟩
      rw [List.range_succ, List.map_append, vi_snoc]
      rfl
    rintro ys H3 ⟨rfl, g3⟩ D hD
    refine ⟨D, ciN ((List.range j).map (beg c)), rfl, SqL.of (by rw [upd_same, vi_ciN]), ?_⟩
    rw [ciN_sum]
    have g4 := g3.trans (same_new hD (.lst (vi ((List.range j).map (beg c)))))
    refine ⟨_, _, rfl, rfl, _, rfl, _, rfl, L, c, j, rfl, SqL.of (g4 _ _ hL), by omega, by omega, by rw [hcn.2]; omega, fun r H5 g5 hr0 hr1 => ?_⟩
    refine ⟨r, k + sumI j (beg c), p - 1 + j, _, rfl, e0.trans (g4.trans g5), ?_, hc', ?_⟩
    · rw [hr1, hcn.1]
    · rw [hn, hrk, Nat.add_assoc]
  · rintro σ H2 ⟨L, k, p, v, rfl, e0, hL, hc, hn⟩
    rw [List.length_map, List.drop_of_length_le (Nat.le_refl _)] at hn
    refine ⟨_, rfl, ?_⟩
    have q' := q ok M m1 m2 H2 e0
    have : numberW ns (M + 1) = k := by
      rw [hn]
      rfl
    rw [this] at q'
    exact q'
theorem scNextN : FnScope ["left", "ahead", "number", "begun"] ["left", "ahead"] (defScope sNextN) := ⟨rfl, rfl, rfl, by decide +kernel, rfl, by decide +kernel, by decide +kernel⟩
def nextInv (H : Hp) (a : Addr) (c : List Nat) (k m : Nat) (σ : L2.St) (H2 : Hp) : Prop :=
  ∃ i k' : Nat, σ = [some (.ref a), some (.int (k' : Int)), some (.int (i : Int)), some (.int (beg c i : Nat))] ∧ Same H H2 ∧ i < c.length ∧ k = sumI i (beg c) + k' ∧ c.length - i = m
theorem ok_nextn (F : Fun K "next_number" "next_number" sNextN f fd) (BW : Fn P w K mg base "begun_with" ["left", "number"] 4 (spBegun K)) : FnOk P w K mg base (CXf P w) 5 f fd ["left", "ahead"] (spNextN K) := by
  refine F.okn scNextN (fun vs H Q E h => ?_) (fun cdv A outer s H vs Q E hr h => ?_)
  · obtain ⟨_, _, _, rfl, _⟩ := h
    rfl
  obtain ⟨a, c, k, rfl, hS, l1, s1, hw, hk, q⟩ := h
  have hc0 : 0 < c.length := by
    cases c with
    | nil => simp [sumI] at hk
    | cons x y => simp
  refine ⟨_, (pss_cons (ps_set (i := 2) scNextN.nd rfl (Or.inl rfl) pe_int)
    (pss_cons (ps_set (i := 3) scNextN.nd rfl (Or.inl rfl) (pe_fn BW (hr.mono (by omega)) rfl (pa_cons (pv 0) (pa_cons (pv 2) pa_nil))))
    (pss_cons (ps_while PassesOwn.never (pt_cmpR op_ge (pv 1) (pv 3) (nomark _))
      (pss_cons (ps_set (i := 1) scNextN.nd rfl (Or.inl rfl) (pe_op op_sub (pv 1) (pv 3)))
    (pss_cons (ps_set (i := 2) scNextN.nd rfl (Or.inl rfl) (pe_op op_add (pv 2) pe_int))
    (pss_one (ps_set (i := 3) scNextN.nd rfl (Or.inl rfl) (pe_fn BW (hr.mono (by omega)) rfl (pa_cons (pv 0) (pa_cons (pv 2) pa_nil))))))))
    (pss_one (ps_ret (pe_tup (pa_cons (pv 2) (pa_cons (pv 1) pa_nil)))))))), ?_⟩
  refine ⟨_, rfl, _, rfl, a, c, 0, rfl, hS, l1, hc0, s1, hw, fun H1 g1 => ?_⟩
  refine ⟨nextInv H a c k, ⟨c.length, 0, k, rfl, g1, hc0, (by show k = 0 + k; omega), rfl⟩, ?_⟩
  rintro m σ H2 ⟨i, k', rfl, e0, hi, hk', rfl⟩
  refine ⟨_, rfl, _, rfl, _, _, rfl, rfl, _, rfl, ite2 (fun e => ⟨fun σ' H' => ∃ m', m' < c.length - i ∧ nextInv H a c k m' σ' H', fun σ' H' h => h, ?_⟩) (fun e => ?_)⟩
  · have e' : (beg c i : Int) ≤ (k' : Int) := of_decide_eq_true e
    have hi1 : i + 1 < c.length := by
      rcases Nat.lt_or_ge (i + 1) c.length with h | h
      · exact h
      · have e1 : c.length = i + 1 := by omega
        rw [e1, sumI_succ] at hk
        omega
    refine ⟨_, rfl, _, rfl, _, _, rfl, rfl, _, rfl, _, _, rfl, rfl, _, rfl, _, rfl, a, c, i + 1, ?_, e0.seq hS, l1, hi1, s1, hw, fun H3 g3 => ?_⟩
    · rfl
    refine ⟨c.length - (i + 1), by omega, i + 1, k' - beg c i, ?_, e0.trans g3, hi1, by rw [sumI_succ]; omega, rfl⟩
    rw [show ((k' - beg c i : Nat) : Int) = (k' : Int) - (beg c i : Nat) by omega]
    rfl
  · have e' : ¬ (beg c i : Int) ≤ (k' : Int) := fun z => e (decide_eq_true z)
    refine ⟨_, rfl, _, rfl, (by show 2 ≤ sizeLine; decide), fun t ht => ?_⟩
    exact q i k' hi hk' (by omega) t _ (e0.trans (same_new ht _)) (e0.free ht) upd_same
theorem scWordAt : FnScope ["counts", "number", "word", "left", "ahead", "found"] ["counts", "number"] (defScope sWordAt) := ⟨rfl, rfl, rfl, by decide +kernel, rfl, by decide +kernel, by decide +kernel⟩
theorem words_beg {n p : Nat} {c : List Nat} (hn : c.sum = n + 1) (hp : p + 1 + wt 0 c = n + 1) : ∀ i, (if 0 < c.getD i 0 then (wordsL n (p + i) (less c i)).map fun r => (i : Int) :: r else []).length = beg c i := by
  intro i
  unfold beg
  split
  · rw [List.length_map, wordsL_len, hn, show n + 1 - 1 = n by omega, show n + 1 - wt 0 c - 1 = p by omega]
  · rfl
theorem words_sum {n p : Nat} {c : List Nat} (hn : c.sum = n + 1) (hp : p + 1 + wt 0 c = n + 1) : (wordsL (n + 1) (p + 1) c).length = sumI c.length (beg c) := by
  rw [wordsL, sum_map_len]
  exact sumI_congr fun i _ => words_beg hn hp i
theorem words_next {n p i k : Nat} {c : List Nat} (hn : c.sum = n + 1) (hp : p + 1 + wt 0 c = n + 1) (hi : i < c.length) (hk : k < beg c i) : 0 < c.getD i 0 ∧ ∃ r, (wordsL n (p + i) (less c i))[k]? = some r ∧ (wordsL (n + 1) (p + 1) c)[sumI i (beg c) + k]? = some ((i : Int) :: r) := by
  have hpos : 0 < c.getD i 0 := by
    unfold beg at hk
    split at hk
    · assumption
    · omega
  have hb := words_beg hn hp i
  rw [if_pos hpos, List.length_map] at hb
  refine ⟨hpos, _, List.getElem?_eq_getElem (by omega), ?_⟩
  have h1 := flatten_get (fun i => if 0 < c.getD i 0 then (wordsL n (p + i) (less c i)).map fun r => (i : Int) :: r else []) c.length i k ((i : Int) :: (wordsL n (p + i) (less c i))[k]'(by omega)) hi (by
    rw [if_pos hpos, List.getElem?_map, List.getElem?_eq_getElem (by omega)]
    rfl)
  rw [wordsL, ← h1]
  congr 2
  exact sumI_congr fun j _ => (words_beg hn hp j).symm
def wordAtInv (H : Hp) (a W : Addr) (kk : Int) (c : List Nat) (ws : List Int) (m : Nat) (σ : L2.St) (H2 : Hp) : Prop :=
  ∃ (v : Option V) (L : Addr) (k p : Nat) (d : List Nat) (w0 rest : List Int), σ = [some (.ref a), some (.int kk), some (.ref W), some (.ref L), some (.int (k : Int)), v] ∧ Same H H2 ∧ H2 W = some (.lst (w0.map V.int)) ∧ H2 L = some (.lst (vi d)) ∧ W ≠ L ∧
    d.length = c.length ∧ d.sum = m ∧ p + wt 0 d = m ∧ (wordsL m p d)[k]? = some rest ∧ w0 ++ rest = ws ∧ w0.length + m = c.sum
theorem ok_wordat (F : Fun K "word_at" "word_at" sWordAt f fd) (T : Txt mg) (ZS : Rz K mg "NoSuch" cS) (HM : Fn P w K mg base "how_many" ["counts"] 3 (spHowMany K)) (NN : Fn P w K mg base "next_number" ["left", "ahead"] 5 (spNextN K)) (WO : Fn P w K mg base "without" ["counts", "number"] 1 (spWithout K)) :
    FnOk P w K mg base (CXf P w) 6 f fd ["counts", "number"] (spWordAt K cS) := by
  refine F.okx scWordAt (fun vs H Q E h => ?_) (fun cdv A outer s H vs Q E hr h => ?_)
  · obtain ⟨_, _, _, rfl, _⟩ := h
    rfl
  obtain ⟨a, c, kk, rfl, hS, l1, l2, s1, s2, q, qE⟩ := h
  have hs : sizeLine = 16777216 := sizeLine_eq
  refine ⟨_, (pss_cons (ps_if (pt_not (pt_chain op_le op_lt pe_int (pv 1) (pe_fn HM (hr.mono (by omega)) rfl (pa_cons (pv 0) pa_nil)))) (pss_one (ps_raise (E := E) rfl rfl ZS.m ZS.x PySem.F.excBase_ValueError (by decide +kernel) PySem.F.excBase_ValueError (fun I hx q => raise_out I hx q) (pa_cons pe_str pa_nil))) pss_nil)
    (pss_cons (ps_set (i := 2) scWordAt.nd rfl (Or.inl rfl) (pe_lst pa_nil))
    (pss_cons (ps_set (i := 3) scWordAt.nd rfl (Or.inl rfl) (pe_callTy call_list_of rfl T.list PyProof.Rows.boot_list (pa_cons (pv 0) pa_nil)))
    (pss_cons (ps_set (i := 4) scWordAt.nd rfl (Or.inl rfl) (pv 1))
    (pss_cons (ps_while PassesOwn.leaving (pt_cmpR op_gt (pe_callB (call_sum rfl) rfl T.sum PyProof.Rows.boot_sum (pa_cons (pv 3) pa_nil)) pe_int (nomark _))
      (pss_cons (ps_set (i := 5) scWordAt.nd rfl (Or.inl rfl) (pe_fn NN (hr.mono (by omega)) rfl (pa_cons (pv 3) (pa_cons (pv 4) pa_nil))))
    (pss_cons (ps_expr (pe_bm PySem.F.plainAttrs_list PySem.F.slot_list_append PySem.F.type_list_append mt_append (pv 2) (pa_cons (pe_ix ix_tup (pv 5) pe_int (fun _ _ => rfl)) pa_nil)))
    (pss_cons (ps_set (i := 4) scWordAt.nd rfl (Or.inl rfl) (pe_ix ix_tup (pv 5) pe_int (fun _ _ => rfl)))
    (pss_one (ps_set (i := 3) scWordAt.nd rfl (Or.inl rfl) (pe_fn WO (hr.mono (by omega)) rfl (pa_cons (pv 3) (pa_cons (pe_ix ix_tup (pv 5) pe_int (fun _ _ => rfl)) pa_nil)))))))))
    (pss_one (ps_ret (pv 2)))))))), ?_⟩
  refine ⟨_, rfl, _, _, rfl, rfl, _, rfl, ?_⟩
  by_cases h0 : (0 : Int) ≤ kk
  rotate_left
  · rw [decide_eq_false h0]
    exact iteF ⟨_, rfl, iteT ⟨by show 1 ≤ sizeLine; decide, qE (.inl (by omega)) H (Same.refl _)⟩⟩
  rw [decide_eq_true h0]
  refine iteT ⟨_, rfl, a, c, rfl, hS, l1, l2, s1, s2, fun H1 g1 => ⟨_, _, rfl, rfl, _, rfl, ?_⟩⟩
  by_cases h1 : kk < (hm c : Int)
  rotate_left
  · rw [decide_eq_false h1]
    exact iteT ⟨by show 1 ≤ sizeLine; decide, qE (.inr (by omega)) H1 g1⟩
  rw [decide_eq_true h1]
  refine iteF ?_
  obtain ⟨k, rfl⟩ := Int.eq_ofNat_of_zero_le h0
  have hw : wt 0 c < c.sum := by
    unfold hm at h1
    split at h1
    · assumption
    · omega
  have hmc : hm c = (wordsL c.sum (c.sum - wt 0 c) c).length := by unfold hm; rw [if_pos hw, wordsL_len]
  obtain ⟨ws, hws⟩ : ∃ ws, (wordsL c.sum (c.sum - wt 0 c) c)[k]? = some ws := ⟨_, List.getElem?_eq_getElem (by omega)⟩
  refine ⟨(by show 0 ≤ sizeLine; decide), fun W hW => ?_⟩
  have g2 := same_new hW (.lst [])
  refine ⟨_, rfl, a, _, rfl, .inl ((g1.trans g2).seq hS), fun L hL => ?_⟩
  have g3 := same_new hL (.lst (vi c))
  have hWL : W ≠ L := ne_of_none (upd_same (H := H1) (a := W) (o := .lst [])) hL
  have hW0 : H W = none := g1.free hW
  refine ⟨_, rfl, ?_⟩
  refine ⟨wordAtInv H a W (k : Int) c ws, ⟨c.sum, none, L, k, c.sum - wt 0 c, c, [], ws, rfl, g1.trans (g2.trans g3), ?_, upd_same, hWL, rfl, rfl, by omega, hws, rfl, by simp⟩, ?_⟩
  · rw [upd_ne hWL]
    exact upd_same
  rintro m σ H2 ⟨v, L, k, p, d, w0, rest, rfl, e0, hW2, hL2, hWL, hdl, rfl, hpd, hrs, hwr, hwl⟩
  have hLi := hL2
  rw [vi_ciN] at hLi
  refine ⟨_, rfl, L, ciN d, rfl, SqL.of hLi, ?_⟩
  rw [ciN_sum]
  refine ⟨_, _, rfl, rfl, _, rfl, ite2 (fun e => ⟨fun σ' H' => ∃ m', m' < d.sum ∧ wordAtInv H a W _ c ws m' σ' H', fun σ' H' h => h, ?_⟩) (fun e => ?_)⟩
  · have e' : (0 : Int) < (d.sum : Int) := of_decide_eq_true e
    obtain ⟨n, hn⟩ : ∃ n, d.sum = n + 1 := ⟨d.sum - 1, by omega⟩
    cases p with
    | zero =>
      rw [hn] at hrs
      simp [wordsL] at hrs
    | succ p =>
      have hp1 : p + 1 + wt 0 d = n + 1 := by omega
      have hlt : k < (wordsL d.sum (p + 1) d).length := (List.getElem?_eq_some_iff.mp hrs).1
      rw [hn, words_sum hn hp1] at hlt
      refine ⟨_, rfl, _, rfl, L, d, k, rfl, SqL.of hL2, by omega, by omega, by omega, hlt, fun i k' hi hk hk' t H3 g3 ht0 ht => ?_⟩
      obtain ⟨hpos, r, hr1, hr2⟩ := words_next hn hp1 hi hk'
      have er : rest = (i : Int) :: r := by
        rw [hn, hk, hr2] at hrs
        exact (Option.some.inj hrs).symm
      subst er
      have hW3 := g3 _ _ hW2
      have hL3 := g3 _ _ hL2
      refine ⟨_, rfl, .inl ⟨rfl, _, SqL.of hW3⟩, _, rfl, t, _, 0, _, rfl, rfl, SqT.of ht, rfl, W, _, _, rfl, rfl, hW3, by rw [List.length_map]; omega, ?_⟩
      have ht4 : (upd H3 W (.lst (w0.map V.int ++ [V.int (i : Int)]))) t = some (.tup [.int (i : Int), .int (k' : Int)]) := by
        have : t ≠ W := fun z => by rw [z, hW3] at ht; cases ht
        rw [upd_ne this]
        exact ht
      have hL4 : (upd H3 W (.lst (w0.map V.int ++ [V.int (i : Int)]))) L = some (.lst (vi d)) := by rw [upd_ne hWL.symm]; exact hL3
      have e4 : Same H (upd H3 W (.lst (w0.map V.int ++ [V.int (i : Int)]))) := same_upd (e0.trans g3) hW0 _
      have hW4 : (upd H3 W (.lst (w0.map V.int ++ [V.int (i : Int)]))) W = some (.lst ((w0 ++ [(i : Int)]).map V.int)) := by rw [upd_same, map_snoc]
      refine ⟨_, rfl, t, _, 1, _, rfl, rfl, SqT.of ht4, rfl, _, rfl, _, rfl, t, _, 0, _, rfl, rfl, SqT.of ht4, rfl, L, d, i, rfl, SqL.of hL4, by omega, hi, hpos, fun L' H5 g5 hL0' hL' => ?_⟩
      have hls := less_sum d i hpos
      have hlw := less_wt d 0 i hpos
      refine ⟨n, by omega, some (.ref t), L', k', p + i, less d i, w0 ++ [(i : Int)], r, rfl, e4.trans g5, g5 _ _ hW4, hL', ?_, by rw [less_len]; exact hdl, by omega, by omega, hr1, by rw [List.append_assoc]; exact hwr, by rw [List.length_append]; simp only [List.length_cons, List.length_nil]; omega⟩
      exact ne_of_none hW4 hL0'
  · have hd0 : d.sum = 0 := by
      have : ¬ (0 : Int) < (d.sum : Int) := fun z => e (decide_eq_true z)
      omega
    have hp0 : p = 0 := by omega
    subst hp0
    rw [hd0] at hrs
    have hk0 : rest = [] := by
      have : (wordsL 0 0 d) = [[]] := rfl
      rw [this] at hrs
      cases k with
      | zero => simpa using hrs.symm
      | succ k => simp at hrs
    subst hk0
    rw [List.append_nil] at hwr
    subst hwr
    exact ⟨_, rfl, q _ w0 rfl hw hws W H2 e0 hW0 hW2⟩
theorem scCell : FnScope ["script", "k"] ["script", "k"] (defScope sCell) := ⟨rfl, rfl, rfl, by decide +kernel, rfl, by decide +kernel, by decide +kernel⟩
theorem ok_cell (F : Fun K "_law_cell_at" "_law_cell_at" sCell f fd) (T : Txt mg) : FnOk P w K mg base (CXf P w) 1 f fd ["script", "k"] (spCell K) := by
  refine F.okn scCell (fun vs H Q E h => ?_) (fun cdv A outer s H vs Q E hr h => ?_)
  · obtain ⟨a, ns, k, rfl, _⟩ := h
    rfl
  obtain ⟨a, ns, k, rfl, hS, h0, q⟩ := h
  refine ⟨_, pss_cons (ps_if (pt_cmpR op_lt (pv 1) (pe_callB call_len_seq rfl T.len PySem.boot_len (pa_cons (pv 0) pa_nil)) (nomark _)) (pss_one (ps_ret (pe_ix ix_list (pv 0) (pv 1) (fun _ _ => rfl)))) pss_nil)
    (pss_one (ps_ret pe_int)), ?_⟩
  have hl : (ns.map V.int).length = ns.length := List.length_map _
  refine ⟨_, rfl, _, rfl, a, _, rfl, .inl hS, _, _, rfl, rfl, _, rfl, ?_⟩
  refine ite2 (fun c => ?_) (fun c => ?_)
  · have c' : k < (((ns.map V.int).length : Nat) : Int) := of_decide_eq_true c
    rw [hl] at c'
    exact ⟨_, rfl, _, rfl, a, _, _, _, rfl, rfl, hS, at_get h0 c', q⟩
  · have c' : ¬ k < (((ns.map V.int).length : Nat) : Int) := of_decide_eq_false (Bool.eq_false_iff.mpr c)
    rw [hl] at c'
    rw [getD_out c'] at q
    exact q
theorem scWhole : FnScope ["found"] ["found"] (defScope sWhole) := ⟨rfl, rfl, rfl, by decide +kernel, rfl, by decide +kernel, by decide +kernel⟩
theorem ok_whole (F : Fun K "_law_whole" "_law_whole" sWhole f fd) (T : Txt mg) : FnOk P w K mg base (CXf P w) 1 f fd ["found"] (spWhole K) := by
  refine F.okn scWhole (fun vs H Q E h => ?_) (fun cdv A outer s H vs Q E hr h => ?_)
  · obtain ⟨i, rfl, _⟩ := h
    rfl
  obtain ⟨i, rfl, q⟩ := h
  refine ⟨_, pss_one (ps_ret (pe_and (pe_callB call_isinst rfl T.isi PyProof.Rows.boot_isinstance (pa_cons (pv 0) (pa_cons (pe_bltn (v := .ty "int") rfl T.int PyProof.Rows.boot_int rfl) pa_nil)))
    (pe_one (pe_not (pe_callB call_isinst rfl T.isi PyProof.Rows.boot_isinstance (pa_cons (pv 0) (pa_cons (pe_bltn (v := .ty "bool") rfl T.bool PyProof.Rows.boot_bool rfl) pa_nil))))))), ?_⟩
  refine ⟨_, rfl, .int i, .ty "int", .type "int", .type "int", true, rfl, rfl, .int i, ?_, _, rfl, iteT ?_⟩
  · unfold PySem.W.kitOne
    rw [if_pos (by decide)]
  refine ⟨_, rfl, .int i, .ty "bool", .type "bool", .type "int", false, rfl, rfl, .int i, ?_, _, rfl, q⟩
  rfl
theorem scGroveBy : FnScope ["script", "first", "nodes", "roots", "boughs", "firsts", "k", "cell", "trees"] ["script", "first", "nodes", "roots"] (defScope sGroveBy) := ⟨rfl, rfl, rfl, by decide +kernel, rfl, by decide +kernel, by decide +kernel⟩
theorem ok_groveby (F : Fun K "_law_grove_by" "_law_grove_by" sGroveBy f fd) (T : Txt mg) (C : Fn P w K mg base "_law_cell_at" ["script", "k"] 1 (spCell K)) : FnOk P w K mg base (CXf P w) 2 f fd ["script", "first", "nodes", "roots"] (spGroveBy K) := by
  refine F.okn scGroveBy (fun vs H Q E h => ?_) (fun cdv A outer s H vs Q E hr h => ?_)
  · obtain ⟨_, _, _, _, _, rfl, _⟩ := h
    rfl
  obtain ⟨a, ns, f', n, rt, rfl, hS, hf, hn1, hn2, hrt, q⟩ := h
  obtain ⟨N, rfl⟩ := Int.eq_ofNat_of_zero_le (show 0 ≤ n by omega)
  refine ⟨_, pss_cons (ps_setLC (i := 4) rfl scGroveBy.nd rfl (Or.inl rfl) (LcScope.mkS (M := ["script", "first", "nodes", "roots", "boughs", "firsts", "k0", "cell", "trees"]) (N := ["script", "first", "nodes", "roots", "boughs", "firsts", "k", "cell", "trees"]) (sc := defScope sGroveBy) rfl rfl rfl (by decide +kernel) (by decide +kernel) rfl (by decide +kernel) (by decide +kernel) rfl (by decide +kernel) (by decide +kernel) (by decide +kernel))
      (pi_range1 rfl T.range (pa_cons (pv 2) pa_nil)) (fun _ _ _ _ _ => pif_nil) (fun _ _ _ _ _ => pe_lst pa_nil))
    (pss_cons (ps_set (i := 5) scGroveBy.nd rfl (Or.inl rfl) (pe_lst pa_nil))
    (pss_cons (ps_for PassesOwn.never rfl (pi_range1 rfl T.range (pa_cons (pv 2) pa_nil)) (pg_name (i := 6) scGroveBy.nd rfl (Or.inl rfl))
      (pss_cons (ps_set (i := 7) scGroveBy.nd rfl (Or.inl rfl) (pe_fn C hr rfl (pa_cons (pv 0) (pa_cons (pe_op op_add (pv 1) (pv 6)) pa_nil))))
      (pss_one (ps_if (PW.pt (pw_or (pt_cmpR op_eq (pv 6) pe_int (nomark _)) (pw_or1 (pt_cmpR op_eq (pe_op op_mod (pv 7) (pv 3)) pe_int (nomark _)))))
        (pss_one (ps_expr (pe_bm PySem.F.plainAttrs_list PySem.F.slot_list_append PySem.F.type_list_append mt_append (pv 5) (pa_cons (pv 6) pa_nil))))
      (pss_one (ps_if (PW.pt (pw_and (pt_cmpR op_eq (pv 3) pe_int (nomark _)) (pw_and1 (pt_cmpR op_gt (pe_op op_mod (pv 7) pe_int) pe_int (nomark _)))))
        (pss_one (ps_expr (pe_bm PySem.F.plainAttrs_list PySem.F.slot_list_append PySem.F.type_list_append mt_append (pe_ix ix_list (pv 4) pe_int (fun _ _ => rfl)) (pa_cons (pv 6) pa_nil))))
      (pss_one (ps_if (pt_cmpR op_eq (pe_op op_mod (pe_op op_fdiv (pv 7) pe_int) pe_int) pe_int (nomark _))
        (pss_one (ps_expr (pe_bm PySem.F.plainAttrs_list PySem.F.slot_list_append PySem.F.type_list_append mt_append (pe_ix ix_list (pv 4) (pe_op op_sub (pv 6) pe_int) (fun _ _ => rfl)) (pa_cons (pv 6) pa_nil))))
        (pss_one (ps_expr (pe_bm PySem.F.plainAttrs_list PySem.F.slot_list_append PySem.F.type_list_append mt_append (pe_ix ix_list (pv 4) (pe_op op_mod (pe_op op_fdiv (pv 7) pe_int) (pv 6)) (fun _ _ => rfl)) (pa_cons (pv 6) pa_nil))))))))))))
    (pss_cons (ps_set (i := 8) scGroveBy.nd rfl (Or.inr rfl) (pe_lc rfl scGroveBy.nd (LcScope.mkS (M := ["script", "first", "nodes", "roots", "boughs", "firsts", "k0", "cell", "trees"]) (N := ["script", "first", "nodes", "roots", "boughs", "firsts", "k", "cell", "trees"]) (sc := defScope sGroveBy) rfl rfl rfl (by decide +kernel) (by decide +kernel) rfl (by decide +kernel) (by decide +kernel) rfl (by decide +kernel) (by decide +kernel) (by decide +kernel))
      (pi_range1 rfl T.range (pa_cons (pv 2) pa_nil)) (fun _ _ _ _ _ => pif_nil) (fun _ _ _ _ _ => pe_tup pa_nil)))
    (pss_cons (ps_for PassesOwn.never rfl (pi_rangeD rfl T.range (pa_cons (pe_op op_sub (pv 2) pe_int) (pa_cons (pe_un un_neg pe_int) (pa_cons (pe_un un_neg pe_int) pa_nil)))) (pg_name (i := 6) scGroveBy.nd rfl (Or.inl rfl))
      (pss_one (ps_asg (pe_callTy call_tuple_of rfl T.tuple PyProof.Rows.boot_tuple (pa_cons (pe_lc rfl scGroveBy.nd (LcScope.mk' (N := ["script", "first", "nodes", "roots", "boughs", "firsts", "k", "cell", "trees"]) (sc := defScope sGroveBy) rfl rfl rfl (by decide +kernel) (by decide +kernel) rfl (by decide +kernel) (by decide +kernel) (by decide +kernel))
        (pi_list (pe_ix ix_list (pv 4) (pv 6) (fun _ _ => rfl))) (fun _ _ _ _ _ => pif_nil) (fun _ _ _ _ _ => pe_ix (ix_listB (K := K) rfl) (pv 8) (pv 9) (fun _ _ => rfl))) pa_nil)) (pg_sub (pv 8) (pv 6) set_list))))
    (pss_one (ps_ret (pe_lc rfl scGroveBy.nd (LcScope.mkS (M := ["script", "first", "nodes", "roots", "boughs", "firsts", "k0", "cell", "trees"]) (N := ["script", "first", "nodes", "roots", "boughs", "firsts", "k", "cell", "trees"]) (sc := defScope sGroveBy) rfl rfl rfl (by decide +kernel) (by decide +kernel) rfl (by decide +kernel) (by decide +kernel) rfl (by decide +kernel) (by decide +kernel) (by decide +kernel))
      (pi_list (pv 5)) (fun _ _ _ _ _ => pif_nil) (fun _ _ _ _ _ => pe_ix (ix_listB (K := K) rfl) (pv 8) (pv 9) (fun _ _ => rfl))))))))), ?_⟩
  have hN : ((N : Nat) : Int).toNat = N := Int.toNat_natCast N
  have hpar := @parOf_lt ns f' rt
  -- boughs
  refine ⟨_, rfl, _, rfl, by omega, by omega, ?_⟩
  refine lc_range0 (fun i ys H2 => ∃ bs : List Addr, ys = bs.map V.ref ∧ bs.length = i ∧ Same H H2 ∧ bs.Nodup ∧ ∀ c ∈ bs, H c = none ∧ H2 c = some (.lst [])) ⟨[], rfl, rfl, Same.refl _, .nil, fun _ z => nomatch z⟩
    (fun i ys H2 ⟨bs, e1, e2, _⟩ => by rw [e1, List.length_map, e2]; exact Nat.le_refl _) (by rw [hN]; exact small (by omega)) ?_ ?_
  · rintro i ys H2 hi ⟨bs, rfl, hl, g, nd, hb⟩
    refine ⟨(by show 0 ≤ sizeLine; decide), fun p hp => ⟨bs ++ [p], by rw [List.map_append]; rfl, by rw [List.length_append, hl]; rfl, g.trans (same_new hp _), ?_, fun c hc => ?_⟩⟩
    · rw [List.nodup_append]
      refine ⟨nd, by simp, fun x hx y hy => ?_⟩
      rw [List.mem_singleton.mp hy]
      exact ne_of_none (hb x hx).2 hp
    · rcases List.mem_append.mp hc with z | z
      · exact ⟨(hb c z).1, by rw [upd_ne (ne_of_none (hb c z).2 hp)]; exact (hb c z).2⟩
      · rw [List.mem_singleton.mp z]
        exact ⟨g.free hp, upd_same⟩
  rintro ys H2 ⟨bs, rfl, hbl, g2, nd, hb⟩ D hD
  rw [hN] at hbl
  -- firsts
  refine ⟨(by show 0 ≤ sizeLine; decide), fun Fr hFr => ?_⟩
  have hDF : D ≠ Fr := ne_of_none (upd_same (H := H2) (a := D) (o := .lst (bs.map V.ref))) hFr
  have nDb : D ∉ bs := fun z => absurd (hb D z).2 (by rw [hD]; exact fun q => nomatch q)
  have nFb : Fr ∉ bs := fun z => ne_of_none ((same_new hD (.lst (bs.map V.ref))) _ _ (hb Fr z).2) hFr rfl
  have S : BS H D Fr bs := ⟨g2.free hD, (g2.trans (same_new hD _)).free hFr, fun c hc => (hb c hc).1, nd, nDb, nFb, hDF⟩
  refine ⟨_, rfl, _, rfl, by omega, by omega, for_range (n := ((N : Nat) : Int).toNat) (fun i σ H3 => ∃ u v : Option V, σ = [some (.ref a), some (.int f'), some (.int (N : Int)), some (.int rt), some (.ref D), some (.ref Fr), u, v, none] ∧ BInv H H3 D Fr bs (parOf ns f' rt) i)
    ⟨none, none, rfl, ?_⟩ ?_ ?_⟩
  · refine ⟨g2.trans ((same_new hD _).trans (same_new hFr _)), ?_, upd_same, fun p c hc => ?_⟩
    · rw [upd_ne hDF]
      exact upd_same
    · have := (same_new hFr (.lst [])) _ _ ((same_new hD (.lst (bs.map V.ref))) _ _ (hb c (List.mem_of_getElem? hc)).2)
      exact this
  · rintro i σ H3 hi ⟨u, v, rfl, I⟩
    rw [hN] at hi
    refine ⟨_, rfl, _, rfl, _, rfl, _, _, rfl, rfl, a, ns, f' + (0 + (i : Int)), rfl, I.same.seq hS, by omega, ?_⟩
    rw [Int.zero_add]
    have epar : parOf ns f' rt i = parOf ns f' rt i := rfl
    conv at epar => rhs; unfold parOf
    generalize ns.getD (f' + (i : Int)).toNat 0 = cell at epar ⊢
    have put : ∀ (p : Nat) (x : Int), parOf ns f' rt i = some p → x = (p : Int) → ∃ c, atI (bs.map V.ref) x = some (.ref c) ∧ H3 c = some (.lst (vi (kids (parOf ns f' rt) p i))) ∧ (vi (kids (parOf ns f' rt) p i)).length < sizeLine ∧
        BInv H (upd H3 c (.lst (vi (kids (parOf ns f' rt) p i) ++ [V.int (i : Int)]))) D Fr bs (parOf ns f' rt) (i + 1) := fun p x hp hx => by
      have hlt := hpar i p hp
      have hc : bs[p]? = some (bs[p]'(by omega)) := List.getElem?_eq_getElem _
      refine ⟨_, by rw [hx]; exact atI_nat (ref_get hc), I.b p _ hc, ?_, I.push S hp hc⟩
      rw [vi_len]
      exact small1000 (Nat.le_trans kids_len (by omega))
    refine ⟨_, rfl, rfl, _, rfl, ?_⟩
    have top : parOf ns f' rt i = none → ∃ u v : Option V, [some (V.ref a), some (.int f'), some (.int (N : Int)), some (.int rt), some (.ref D), some (.ref Fr), some (.int (i : Int)), some (.int cell), none] = [some (.ref a), some (.int f'), some (.int (N : Int)), some (.int rt), some (.ref D), some (.ref Fr), u, v, none] ∧
        BInv H (upd H3 Fr (.lst (vi (tops (parOf ns f' rt) i) ++ [V.int (i : Int)]))) D Fr bs (parOf ns f' rt) (i + 1) := fun hp => ⟨_, _, rfl, I.top S hp⟩
    have tsz : (vi (tops (parOf ns f' rt) i)).length < sizeLine := by
      rw [vi_len]
      exact small1000 (Nat.le_trans tops_len (by omega))
    refine ite2 (fun c0 => iteT ?_) (fun c0 => ?_)
    · have e0 : (i : Int) = 0 := by simpa using c0
      refine ⟨_, rfl, .inl ⟨rfl, _, SqL.of I.f⟩, _, rfl, Fr, _, _, rfl, rfl, I.f, tsz, ?_⟩
      exact top (by rw [epar, if_pos (.inl (by omega))])
    have n0 : i ≠ 0 := fun z => c0 (by rw [z]; rfl)
    refine ⟨_, rfl, _, rfl, _, _, rfl, rfl, hrt, rfl, _, rfl, ite2 (fun c1 => ?_) (fun c1 => ?_)⟩
    · have e1 : cell % rt = 1 := by simpa using c1
      refine ⟨_, rfl, .inl ⟨rfl, _, SqL.of I.f⟩, _, rfl, Fr, _, _, rfl, rfl, I.f, tsz, ?_⟩
      exact top (by rw [epar, if_pos (.inr e1)])
    have n1 : ¬ cell % rt = 1 := fun z => c1 (decide_eq_true (congrArg V.int z))
    rw [if_neg (fun z => z.elim n0 n1)] at epar
    by_cases n2 : rt = 99 ∧ 0 < cell % 16
    · rw [if_pos n2] at epar
      obtain ⟨c, h1, h2, h3, h4⟩ := put 0 0 epar rfl
      refine ⟨_, rfl, rfl, _, rfl, ite2 (fun _ => ?_) (fun c2 => absurd (decide_eq_true (congrArg V.int n2.1)) c2)⟩
      refine ⟨_, rfl, _, _, rfl, rfl, (by show (0 : Int) < 16; decide), _, _, rfl, rfl, _, rfl, ite2 (fun _ => ?_) (fun c3 => absurd (decide_eq_true n2.2) c3)⟩
      exact ⟨_, rfl, D, _, _, _, rfl, rfl, SqL.of I.d, h1, .inl ⟨rfl, _, SqL.of h2⟩, _, rfl, c, _, _, rfl, rfl, h2, h3, _, _, rfl, h4⟩
    rw [if_neg n2] at epar
    refine ⟨_, rfl, rfl, _, rfl, ite2 (fun c2 => ⟨_, rfl, _, _, rfl, rfl, (by show (0 : Int) < 16; decide), _, _, rfl, rfl, _, rfl, ite2 (fun c3 => absurd ⟨V.int.inj (of_decide_eq_true c2), of_decide_eq_true c3⟩ n2) (fun _ => ?_)⟩) (fun _ => iteF ?_)⟩
    all_goals
      refine ⟨_, rfl, _, _, rfl, rfl, ⟨by decide, by decide⟩, _, _, rfl, rfl, (by show (0 : Int) < 3; decide), rfl, _, rfl, ite2 (fun c3 => ?_) (fun c3 => ?_)⟩
      · have e3 : cell / 64 % 3 = 0 := V.int.inj (of_decide_eq_true c3)
        rw [if_pos e3] at epar
        obtain ⟨c, h1, h2, h3, h4⟩ := put (i - 1) ((i : Int) - 1) epar (by omega)
        exact ⟨_, rfl, _, rfl, _, _, rfl, rfl, D, _, _, _, rfl, rfl, SqL.of I.d, h1, .inl ⟨rfl, _, SqL.of h2⟩, _, rfl, c, _, _, rfl, rfl, h2, h3, _, _, rfl, h4⟩
      · have e3 : ¬ cell / 64 % 3 = 0 := fun z => c3 (decide_eq_true (congrArg V.int z))
        rw [if_neg e3] at epar
        obtain ⟨c, h1, h2, h3, h4⟩ := put (cell / 192 % (i : Int)).toNat (cell / 192 % (i : Int)) epar (by
          have := Int.emod_nonneg (cell / 192) (show (i : Int) ≠ 0 by omega)
          omega)
        exact ⟨_, rfl, _, rfl, _, _, rfl, rfl, ⟨by decide, by decide⟩, _, rfl, _, _, rfl, rfl, (by show (0 : Int) < (i : Int); omega), D, _, _, _, rfl, rfl, SqL.of I.d, h1, .inl ⟨rfl, _, SqL.of h2⟩, _, rfl, c, _, _, rfl, rfl, h2, h3, _, _, rfl, h4⟩
  rintro σ H3 ⟨u, v, rfl, I⟩
  rw [hN] at I
  -- trees
  refine ⟨_, rfl, _, rfl, by omega, by omega, ?_⟩
  refine lc_range0 (fun i ys H4 => ys.length = i ∧ Same H3 H4 ∧ ∀ y ∈ ys, IsT H4 .nil y) ⟨rfl, Same.refl _, fun _ z => nomatch z⟩ (fun i ys H2 ⟨e1, _⟩ => by rw [e1]; exact Nat.le_refl _) (by rw [hN]; exact small (by omega)) ?_ ?_
  · rintro i ys H4 hi ⟨hl, g4, ht⟩
    refine ⟨(by show 0 ≤ sizeLine; decide), fun p hp => ⟨by rw [List.length_append, hl]; rfl, g4.trans (same_new hp _), fun y hy => ?_⟩⟩
    rcases List.mem_append.mp hy with z | z
    · exact (ht y z).mono (same_new hp _).tups
    · rw [List.mem_singleton.mp z]
      exact ⟨p, [], rfl, upd_same, rfl⟩
  rintro tv0 H4 ⟨htl, g4, ht⟩ E hE
  rw [hN] at htl
  -- from the last node to the first
  have eN : ((N : Int) - 1 - -1).toNat = N := by omega
  refine ⟨_, rfl, _, _, rfl, rfl, _, rfl, _, rfl, (N : Int) - 1, -1, rfl, ⟨by omega, by omega, by omega, by omega⟩, for_rangeD (lo := (N : Int) - 1) (n := ((N : Int) - 1 - -1).toNat) (fun m σ H5 => ∃ (u : Option V) (tv : List V), σ = [some (.ref a), some (.int f'), some (.int (N : Int)), some (.int rt), some (.ref D), some (.ref Fr), u, v, some (.ref E)] ∧ Same H4 H5 ∧
    H5 E = some (.lst tv) ∧ tv.length = N ∧ ∀ j x, tv[j]? = some x → IsT H5 (trees (parOf ns f' rt) N m j) x) ?_ ?_ ?_⟩
  · exact ⟨u, tv0, rfl, same_new hE _, upd_same, htl, fun j x hx => (ht x (List.mem_of_getElem? hx)).mono (same_new hE _).tups⟩
  · rintro m σ H5 hm ⟨u, tv, rfl, g5, hE5, htl5, ht5⟩
    rw [eN] at hm
    have ek : (N : Int) - 1 - (m : Int) = ((N - (m + 1) : Nat) : Int) := by omega
    rw [ek]
    have hk : N - (m + 1) < N := by omega
    generalize hkk : N - (m + 1) = k at hk ⊢
    have hc : bs[k]? = some (bs[k]'(by omega)) := List.getElem?_eq_getElem _
    have hc5 := g5 _ _ (g4 _ _ (I.b k _ hc))
    have hkl : (kids (parOf ns f' rt) k N).length ≤ N := kids_len
    refine ⟨_, rfl, _, rfl, D, _, _, _, rfl, rfl, SqL.of (g5 _ _ (g4 _ _ I.d)), atI_nat (ref_get hc), _, rfl, ⟨_, SqL.of hc5⟩, ?_⟩
    refine lc_list0 (xs := vi (kids (parOf ns f' rt) k N)) (fun i ys H6 => H6 = H5 ∧ ys.length = i ∧ ∀ (i' j : Nat) (y : V), (kids (parOf ns f' rt) k N)[i']? = some j → ys[i']? = some y → IsT H5 (trees (parOf ns f' rt) N m j) y)
      ⟨rfl, rfl, fun _ _ _ _ z => by simp at z⟩ (fun i ys H2 ⟨_, e1, _⟩ => by rw [e1]; exact Nat.le_refl _) (by rw [vi_len]; exact small (by omega)) (fun i ys H6 _ ⟨e, _⟩ => e ▸ SqL.of hc5) ?_ ?_
    · rintro i x ys H6 hi ⟨rfl, hl, hy⟩
      obtain ⟨j, rfl, hj⟩ := vi_get hi
      have hjN := (kids_lt hpar (List.mem_of_getElem? hj)).2
      have hx : tv[j]? = some (tv[j]'(by omega)) := List.getElem?_eq_getElem _
      refine ⟨_, rfl, _, rfl, E, _, _, _, rfl, rfl, SqL.of hE5, atI_nat hx, rfl, by rw [List.length_append, hl]; rfl, fun i' j' y h1 h2 => ?_⟩
      by_cases hlt : i' < i
      · rw [List.getElem?_append_left (by omega)] at h2
        exact hy i' j' y h1 h2
      · rw [List.getElem?_append_right (by omega), hl] at h2
        have hi' : i' = i := by
          have := (List.getElem?_eq_some_iff.mp h2).1
          simp at this
          omega
        subst hi'
        rw [hj] at h1
        cases h1
        rw [Nat.sub_self] at h2
        cases h2
        exact ht5 j _ hx
    · rintro ys H6 ⟨rfl, hl, hy⟩ D2 hD2
      rw [vi_len] at hl
      refine ⟨D2, _, rfl, .inl ⟨SqL.of upd_same, fun t ht0 => ?_⟩⟩
      have g6 := same_new hD2 (.lst ys)
      have g7 := same_new ht0 (.tup ys)
      have hE7 := g7 _ _ (g6 _ _ hE5)
      have hix : ixN tv.length ((k : Nat) : Int) = some k := by
        unfold ixN
        rw [if_pos (by omega), if_pos (by omega), Int.toNat_natCast]
      refine ⟨_, rfl, _, rfl, E, tv, (k : Int), k, rfl, rfl, hE7, hix, ?_⟩
      have tt := (g6.trans g7).tups.trans (tups_lst (ys := tv.set k (V.ref t)) hE7)
      refine ⟨_, tv.set k (.ref t), rfl, same_upd (g5.trans (g6.trans g7)) hE _, upd_same, by rw [List.length_set]; exact htl5, fun j x hx => ?_⟩
      by_cases hj : j = k
      · subst hj
        rw [List.getElem?_set_self (by omega)] at hx
        cases hx
        refine ⟨t, ys, rfl, ?_, ?_⟩
        · rw [upd_ne (ne_of_none (g6 _ _ hE5) ht0).symm]
          exact upd_same
        · simp only [trees]
          rw [if_pos hkk.symm]
          exact (isG_mkG hl hy).mono tt
      · rw [List.getElem?_set_ne (Ne.symm hj)] at hx
        simp only [trees]
        rw [if_neg (by omega)]
        exact (ht5 j x hx).mono tt
  · rintro σ H5 ⟨u, tv, rfl, g5, hE5, htl5, ht5⟩
    rw [eN] at ht5
    have hF5 := g5 _ _ (g4 _ _ I.f)
    have hfl : (tops (parOf ns f' rt) N).length ≤ N := tops_len
    refine ⟨_, rfl, _, rfl, ⟨_, SqL.of hF5⟩, ?_⟩
    refine lc_list0 (xs := vi (tops (parOf ns f' rt) N)) (fun i ys H6 => H6 = H5 ∧ ys.length = i ∧ ∀ (i' j : Nat) (y : V), (tops (parOf ns f' rt) N)[i']? = some j → ys[i']? = some y → IsT H5 (trees (parOf ns f' rt) N N j) y)
      ⟨rfl, rfl, fun _ _ _ _ z => by simp at z⟩ (fun i ys H2 ⟨_, e1, _⟩ => by rw [e1]; exact Nat.le_refl _) (by rw [vi_len]; exact small (by omega)) (fun i ys H6 _ ⟨e, _⟩ => e ▸ SqL.of hF5) ?_ ?_
    · rintro i x ys H6 hi ⟨rfl, hl, hy⟩
      obtain ⟨j, rfl, hj⟩ := vi_get hi
      have hjN : j < N := by
        have := List.mem_of_getElem? hj
        unfold tops at this
        rw [List.mem_filter, List.mem_range] at this
        exact this.1
      have hx : tv[j]? = some (tv[j]'(by omega)) := List.getElem?_eq_getElem _
      refine ⟨_, rfl, _, rfl, E, _, _, _, rfl, rfl, SqL.of hE5, atI_nat hx, rfl, by rw [List.length_append, hl]; rfl, fun i' j' y h1 h2 => ?_⟩
      by_cases hlt : i' < i
      · rw [List.getElem?_append_left (by omega)] at h2
        exact hy i' j' y h1 h2
      · rw [List.getElem?_append_right (by omega), hl] at h2
        have hi' : i' = i := by
          have := (List.getElem?_eq_some_iff.mp h2).1
          simp at this
          omega
        subst hi'
        rw [hj] at h1
        cases h1
        rw [Nat.sub_self] at h2
        cases h2
        exact ht5 j _ hx
    · rintro ys H6 ⟨rfl, hl, hy⟩ D2 hD2
      rw [vi_len] at hl
      have hsz := groveOf_size hpar N
      refine q D2 ys (groveOf (parOf ns f' rt) N) _ (I.same.trans (g4.trans (g5.trans (same_new hD2 _)))) ((I.same.trans (g4.trans g5)).free hD2) upd_same ((isG_mkG hl hy).mono (same_new hD2 _).tups) (by rw [hsz, hN]) fun z => ?_
      rw [z] at hsz
      have : (0 : Nat) = N := hsz
      omega
theorem scWordT : FnScope ["tree", "found", "bough"] ["tree"] (defScope sWordT) := ⟨rfl, rfl, rfl, by decide +kernel, rfl, by decide +kernel, by decide +kernel⟩
theorem ok_wordT0 (F : Fun K "_law_word" "_law_word" sWordT f fd) : FnOk P w K mg base (CXf P w) 1 f fd ["tree"] (spWordT 0) := by
  refine F.okn scWordT (fun vs H Q E h => ?_) (fun cdv A outer s H vs Q E hr h => ?_)
  · obtain ⟨_, _, _, rfl, _⟩ := h
    rfl
  · obtain ⟨_, _, g, _, _, _, hd, _⟩ := h
    exact absurd hd (Nat.not_lt_zero _)
theorem ok_wordT (F : Fun K "_law_word" "_law_word" sWordT f fd) (T : Txt mg) {d : Nat} (W : Fn P w K mg base "_law_word" ["tree"] (d + 1) (spWordT d)) : FnOk P w K mg base (CXf P w) (d + 2) f fd ["tree"] (spWordT (d + 1)) := by
  refine F.okn scWordT (fun vs H Q E h => ?_) (fun cdv A outer s H vs Q E hr h => ?_)
  · obtain ⟨_, _, _, rfl, _⟩ := h
    rfl
  obtain ⟨a, ys, g, rfl, hA, hG, hd, hz, q⟩ := h
  have hl := hG.length
  refine ⟨_, pss_cons (ps_set (i := 1) scWordT.nd rfl (Or.inl rfl) (pe_lst (pa_cons (pe_callB call_len_seq rfl T.len PySem.boot_len (pa_cons (pv 0) pa_nil)) pa_nil)))
    (pss_cons (ps_for PassesOwn.never rfl (pi_tup (pv 0)) (pg_name (i := 2) scWordT.nd rfl (Or.inl rfl)) (pss_one (ps_set (i := 1) scWordT.nd rfl (Or.inl rfl) (pe_op op_cat (pv 1) (pe_fn W hr rfl (pa_cons (pv 2) pa_nil))))))
    (pss_one (ps_ret (pv 1)))), ?_⟩
  refine ⟨_, rfl, a, _, rfl, .inr (SqT.of hA), (by show 1 ≤ sizeLine; decide), fun r hr0 => ?_⟩
  rw [hl]
  refine ⟨_, rfl, a, rfl, ⟨_, SqT.of ((same_new hr0 _) _ _ hA)⟩, for_tup (K := K) (a := a) (xs := ys) (fun i σ H2 => ∃ (r : Addr) (v : Option V), σ = [some (.ref a), some (.ref r), v] ∧ Same H H2 ∧ H r = none ∧ H2 r = some (.lst (((g.len : Int) :: (g.take i).word).map V.int)))
    ⟨r, none, rfl, same_new hr0 _, hr0, upd_same⟩ (fun i σ H2 _ ⟨_, _, _, g2, _⟩ => SqT.of (g2 _ _ hA)) ?_ ?_⟩
  · rintro i y σ H2 hi ⟨r, v, rfl, g2, hr0, hrow⟩
    obtain ⟨b, hb, at'⟩ := hG.get hi
    obtain ⟨c, zs, rfl, hc, hbG⟩ := hb.mono g2.tups
    have hsz := at'.size
    have hdp := at'.depth
    refine ⟨_, rfl, _, rfl, c, zs, b, rfl, hc, hbG, by omega, by omega, fun r2 H3 g3 hr2 hrow2 => ?_⟩
    refine ⟨r, r2, _, _, rfl, rfl, g3 _ _ hrow, hrow2, ?_, fun p hp => ⟨p, _, rfl, g2.trans (g3.trans (same_new hp _)), (g2.trans g3).free hp, ?_⟩⟩
    · rw [List.length_map, List.length_map, List.length_cons, List.length_cons, Gr.word_len, Gr.word_len]
      exact small (by omega)
    · rw [upd_same, at'.word, ← List.map_append, List.cons_append]
  · rintro σ H2 ⟨r, v, rfl, g2, hr0, hrow⟩
    rw [Gr.take_all g ys.length (by omega)] at hrow
    exact ⟨_, rfl, q r H2 g2 hr0 hrow⟩
theorem scWords : FnScope ["grove", "found", "tree"] ["grove"] (defScope sWords) := ⟨rfl, rfl, rfl, by decide +kernel, rfl, by decide +kernel, by decide +kernel⟩
theorem ok_words (F : Fun K "_law_words" "_law_words" sWords f fd) (W : Fn P w K mg base "_law_word" ["tree"] 102 (spWordT 101)) : FnOk P w K mg base (CXf P w) 103 f fd ["grove"] spWords := by
  refine F.okn scWords (fun vs H Q E h => ?_) (fun cdv A outer s H vs Q E hr h => ?_)
  · obtain ⟨_, _, _, rfl, _⟩ := h
    rfl
  obtain ⟨a, ys, g, rfl, hA, hG, hz, q⟩ := h
  have hl := hG.length
  have hdg := g.depth_le
  refine ⟨_, pss_cons (ps_set (i := 1) scWords.nd rfl (Or.inl rfl) (pe_lst pa_nil))
    (pss_cons (ps_for PassesOwn.never rfl (pi_list (pv 0)) (pg_name (i := 2) scWords.nd rfl (Or.inl rfl)) (pss_one (ps_set (i := 1) scWords.nd rfl (Or.inl rfl) (pe_op op_cat (pv 1) (pe_fn W hr rfl (pa_cons (pv 2) pa_nil))))))
    (pss_one (ps_ret (pv 1)))), ?_⟩
  refine ⟨(by show 0 ≤ sizeLine; decide), fun r hr0 => ?_⟩
  refine ⟨_, rfl, a, rfl, ⟨_, SqL.of ((same_new hr0 _) _ _ hA)⟩, for_list (K := K) (a := a) (xs := ys) (fun i σ H2 => ∃ (r : Addr) (v : Option V), σ = [some (.ref a), some (.ref r), v] ∧ Same H H2 ∧ H r = none ∧ H2 r = some (.lst ((g.take i).word.map V.int)))
    ⟨r, none, rfl, same_new hr0 _, hr0, upd_same⟩ (fun i σ H2 _ ⟨_, _, _, g2, _⟩ => SqL.of (g2 _ _ hA)) ?_ ?_⟩
  · rintro i y σ H2 hi ⟨r, v, rfl, g2, hr0, hrow⟩
    obtain ⟨b, hb, at'⟩ := hG.get hi
    obtain ⟨c, zs, rfl, hc, hbG⟩ := hb.mono g2.tups
    have hsz := at'.size
    have hdp := at'.depth
    refine ⟨_, rfl, _, rfl, c, zs, b, rfl, hc, hbG, by omega, by omega, fun r2 H3 g3 hr2 hrow2 => ?_⟩
    refine ⟨r, r2, _, _, rfl, rfl, g3 _ _ hrow, hrow2, ?_, fun p hp => ⟨p, _, rfl, g2.trans (g3.trans (same_new hp _)), (g2.trans g3).free hp, ?_⟩⟩
    · rw [List.length_map, List.length_map, List.length_cons, Gr.word_len, Gr.word_len]
      exact small (by omega)
    · rw [upd_same, at'.word, ← List.map_append]
  · rintro σ H2 ⟨r, v, rfl, g2, hr0, hrow⟩
    rw [Gr.take_all g ys.length (by omega)] at hrow
    exact ⟨_, rfl, q r H2 g2 hr0 hrow⟩
theorem scIsWord : FnScope ["numbers", "pending", "number"] ["numbers"] (defScope sIsWord) := ⟨rfl, rfl, rfl, by decide +kernel, rfl, by decide +kernel, by decide +kernel⟩
theorem ok_isword (F : Fun K "_law_is_word" "_law_is_word" sIsWord f fd) (T : Txt mg) : FnOk P w K mg base (CXf P w) 1 f fd ["numbers"] (spIsWord K) := by
  refine F.okn scIsWord (fun vs H Q E h => ?_) (fun cdv A outer s H vs Q E hr h => ?_)
  · obtain ⟨_, _, rfl, _⟩ := h
    rfl
  obtain ⟨a, ns, rfl, hS, q⟩ := h
  have hl : (ns.map V.int).length = ns.length := List.length_map _
  refine ⟨_, pss_cons (ps_set (i := 1) scIsWord.nd rfl (Or.inl rfl) pe_int)
    (pss_cons (ps_for PassesOwn.never rfl (pi_list (pv 0)) (pg_name (i := 2) scIsWord.nd rfl (Or.inl rfl))
      (pss_cons (ps_if (pt_cmpR op_lt (pv 2) pe_int (nomark _)) (pss_one (ps_ret pe_bl)) pss_nil)
      (pss_cons (ps_if (pt_cmpR op_eq (pv 1) pe_int (nomark _)) (pss_one (ps_set (i := 1) scIsWord.nd rfl (Or.inl rfl) pe_int)) pss_nil)
      (pss_one (ps_set (i := 1) scIsWord.nd rfl (Or.inl rfl) (pe_op op_add (pe_op op_sub (pv 1) pe_int) (pv 2)))))))
    (pss_one (ps_ret (pe_and (pe_cmpR op_gt (pe_callB call_len_seq rfl T.len PySem.boot_len (pa_cons (pv 0) pa_nil)) pe_int (nomark _)) (pe_one (pe_cmpR op_eq (pv 1) pe_int (nomark _))))))), ?_⟩
  refine ⟨_, rfl, a, rfl, ⟨_, hS⟩, for_list (K := K) (a := a) (xs := ns.map V.int) (fun i σ H2 => ∃ (v : Option V) (p : Nat), σ = [some (.ref a), some (.int (p : Int)), v] ∧ H2 = H ∧ Gr.isw 0 ns = Gr.isw p (ns.drop i))
    ⟨none, 0, rfl, rfl, rfl⟩ (fun i σ H2 _ ⟨_, _, _, e, _⟩ => e ▸ hS) ?_ ?_⟩
  · rintro i y σ H2 hi ⟨v, p, rfl, rfl, hw⟩
    obtain ⟨z, rfl, hz⟩ := int_of_map hi
    obtain ⟨hlt, ez⟩ := List.getElem?_eq_some_iff.mp hz
    rw [List.drop_eq_getElem_cons hlt, ez, Gr.isw] at hw
    refine ⟨_, rfl, _, _, rfl, rfl, _, rfl, ite2 (fun c => ?_) (fun c => ?_)⟩
    · have c' : z < 0 := of_decide_eq_true c
      rw [decide_eq_false (by omega), Bool.false_and] at hw
      have e : Gr.isWord ns = false := by unfold Gr.isWord; rw [hw, Bool.and_false]
      rw [e] at q
      exact q
    have c' : ¬ z < 0 := fun h => c (decide_eq_true h)
    rw [decide_eq_true (show 0 ≤ z by omega), Bool.true_and] at hw
    refine ⟨_, rfl, rfl, _, rfl, ite2 (fun c1 => ?_) (fun c1 => ?_)⟩
    · have e1 : (p : Int) = 0 := by simpa using c1
      refine ⟨_, rfl, _, _, rfl, rfl, _, rfl, _, _, rfl, rfl, some (.int z), z.toNat, ?_, rfl, ?_⟩
      · show [some (V.ref a), some (V.int ((1 : Int) - 1 + z)), some (V.int z)] = _
        rw [show (1 : Int) - 1 + z = ((z.toNat : Nat) : Int) by omega]
      · rw [hw, if_pos (by omega), show 1 - 1 + z.toNat = z.toNat by omega]
    · have n1 : ¬ p = 0 := fun h => c1 (by rw [h]; rfl)
      refine ⟨_, rfl, _, _, rfl, rfl, _, rfl, _, _, rfl, rfl, some (.int z), p - 1 + z.toNat, ?_, rfl, ?_⟩
      · show [some (V.ref a), some (V.int ((p : Int) - 1 + z)), some (V.int z)] = _
        rw [show (p : Int) - 1 + z = ((p - 1 + z.toNat : Nat) : Int) by omega]
      · rw [hw, if_neg n1]
  · rintro σ H2 ⟨v, p, rfl, rfl, hw⟩
    rw [hl, List.drop_of_length_le (Nat.le_refl _)] at hw
    refine ⟨_, rfl, a, _, rfl, .inl hS, _, _, rfl, rfl, _, rfl, ?_⟩
    rw [hl]
    have e : Gr.isWord ns = (decide (0 < ns.length) && (p == 0)) := by unfold Gr.isWord; rw [hw]; rfl
    rw [e] at q
    by_cases h0 : 0 < ns.length
    · rw [decide_eq_true (show (0 : Int) < (ns.length : Int) by omega)]
      rw [decide_eq_true h0, Bool.true_and] at q
      refine iteT ⟨_, rfl, rfl, ?_⟩
      rw [show decide (V.int (p : Int) = V.int 0) = (p == 0) by
        rw [Bool.eq_iff_iff]
        simp]
      exact q
    · rw [decide_eq_false (show ¬ (0 : Int) < (ns.length : Int) by omega)]
      rw [decide_eq_false h0, Bool.false_and] at q
      exact iteF q
theorem scNodes : FnScope ["script", "head"] ["script"] (defScope sNodes) := ⟨rfl, rfl, rfl, by decide +kernel, rfl, by decide +kernel, by decide +kernel⟩
theorem ok_nodes (F : Fun K "_law_nodes" "_law_nodes" sNodes f fd) (C : Fn P w K mg base "_law_cell_at" ["script", "k"] 1 (spCell K)) : FnOk P w K mg base (CXf P w) 2 f fd ["script"] (spNodes K) := by
  refine F.okn scNodes (fun vs H Q E h => ?_) (fun cdv A outer s H vs Q E hr h => ?_)
  · obtain ⟨a, ns, rfl, _⟩ := h
    rfl
  obtain ⟨a, ns, rfl, hS, q⟩ := h
  refine ⟨_, pss_cons (ps_set (i := 1) scNodes.nd rfl (Or.inl rfl) (pe_fn C hr rfl (pa_cons (pv 0) (pa_cons pe_int pa_nil))))
    (pss_cons (ps_if (pt_cmpR op_eq (pe_op op_mod (pe_op op_fdiv (pv 1) pe_int) pe_int) pe_int (nomark _)) (pss_one (ps_ret (pe_op op_add pe_int (pe_op op_mod (pe_op op_fdiv (pv 1) pe_int) pe_int)))) pss_nil)
    (pss_one (ps_ret (pe_op op_add pe_int (pe_op op_mod (pv 1) pe_int))))), ?_⟩
  refine ⟨_, rfl, a, ns, 0, rfl, hS, Int.le_refl 0, ?_⟩
  refine ⟨_, rfl, _, _, rfl, rfl, ⟨by decide, by decide⟩, _, _, rfl, rfl, (by show (0 : Int) < 4; decide), rfl, _, rfl, ?_⟩
  refine ite2 (fun _ => ?_) (fun _ => ?_)
  · refine ⟨_, rfl, _, _, rfl, rfl, ⟨by decide, by decide⟩, _, _, rfl, rfl, (by show (0 : Int) < 60; decide), _, _, rfl, rfl, ?_⟩
    have h1 := Int.emod_nonneg (ns.getD (0 : Int).toNat 0 / 48) (show (60 : Int) ≠ 0 by decide)
    have h2 := Int.emod_lt_of_pos (ns.getD (0 : Int).toNat 0 / 48) (show (0 : Int) < 60 by decide)
    exact q _ (by omega) (by omega)
  · refine ⟨_, rfl, _, _, rfl, rfl, (by show (0 : Int) < 12; decide), _, _, rfl, rfl, ?_⟩
    have h1 := Int.emod_nonneg (ns.getD (0 : Int).toNat 0) (show (12 : Int) ≠ 0 by decide)
    have h2 := Int.emod_lt_of_pos (ns.getD (0 : Int).toNat 0) (show (0 : Int) < 12 by decide)
    exact q _ (by omega) (by omega)
theorem scNumbers : FnScope ["found", "due", "number"] ["found", "due"] (defScope sNumbers) := ⟨rfl, rfl, rfl, by decide +kernel, rfl, by decide +kernel, by decide +kernel⟩
theorem ok_numbers (F : Fun K "_law_numbers" "_law_numbers" sNumbers f fd) (T : Txt mg) (W : Fn P w K mg base "_law_whole" ["found"] 1 (spWhole K)) : FnOk P w K mg base (CXf P w) 2 f fd ["found", "due"] (spNumbers K) := by
  refine F.okn scNumbers (fun vs H Q E h => ?_) (fun cdv A outer s H vs Q E hr h => ?_)
  · obtain ⟨_, _, _, rfl, _⟩ := h
    rfl
  obtain ⟨a, b, ns, rfl, hA, hB, q⟩ := h
  refine ⟨_, pss_cons (ps_if (pt_not (pt_val (pe_callB call_isinst rfl T.isi PyProof.Rows.boot_isinstance (pa_cons (pv 0) (pa_cons (pe_bltn (v := .ty "list") rfl T.list PyProof.Rows.boot_list rfl) pa_nil))))) (pss_one (ps_ret pe_bl)) pss_nil)
    (pss_cons (ps_for PassesOwn.never rfl (pi_list (pv 0)) (pg_name (i := 2) scNumbers.nd rfl (Or.inl rfl)) (pss_one (ps_if (pt_not (pt_val (pe_fn W hr rfl (pa_cons (pv 2) pa_nil)))) (pss_one (ps_ret pe_bl)) pss_nil)))
    (pss_one (ps_ret (pe_cmpR (op_eqL hr.units) (pv 0) (pv 1) (nomark _))))), ?_⟩
  refine ⟨_, rfl, .ref a, .ty "list", .type "list", .type "list", true, rfl, rfl, .lst hA, ?_, _, rfl, iteF ?_⟩
  · unfold PySem.W.kitOne
    rw [if_pos (by decide)]
  refine ⟨_, rfl, a, rfl, ⟨_, SqL.of hA⟩, for_list (K := K) (a := a) (xs := ns.map V.int) (fun _ σ H2 => ∃ v : Option V, σ = [some (.ref a), some (.ref b), v] ∧ H2 = H) ⟨none, rfl, rfl⟩ (fun _ _ _ _ ⟨_, _, e⟩ => e ▸ SqL.of hA) ?_ ?_⟩
  · rintro i y σ H2 hi ⟨v, rfl, rfl⟩
    obtain ⟨z, rfl, hz⟩ := int_of_map hi
    exact ⟨_, rfl, z, rfl, _, rfl, iteF ⟨_, rfl, rfl⟩⟩
  · rintro σ H2 ⟨v, rfl, rfl⟩
    refine ⟨_, rfl, _, rfl, a, b, ns, ns, rfl, rfl, SqL.of hA, hB, ?_⟩
    rw [show id (decide (ns = ns)) = true from decide_eq_true rfl]
    exact q
theorem scCounts : FnScope ["word", "found", "number"] ["word"] (defScope sCounts) := ⟨rfl, rfl, rfl, by decide +kernel, rfl, by decide +kernel, by decide +kernel⟩
theorem ok_counts (F : Fun K "_law_counts" "_law_counts" sCounts f fd) (T : Txt mg) : FnOk P w K mg base (CXf P w) 1 f fd ["word"] (spCounts K) := by
  refine F.okn scCounts (fun vs H Q E h => ?_) (fun cdv A outer s H vs Q E hr h => ?_)
  · obtain ⟨_, _, rfl, _⟩ := h
    rfl
  obtain ⟨a, ns, rfl, hS, h0, h1, hb, q⟩ := h
  refine ⟨_, pss_cons (ps_setLC (i := 1) rfl scCounts.nd rfl (Or.inl rfl) (LcScope.mkS (M := ["word", "found", "number0"]) (N := ["word", "found", "number"]) (sc := defScope sCounts) rfl rfl rfl (by decide +kernel) (by decide +kernel) rfl (by decide +kernel) (by decide +kernel) rfl (by decide +kernel) (by decide +kernel) (by decide +kernel))
      (pi_range1 rfl T.range (pa_cons (pe_op op_add (pe_callB (call_max rfl) rfl T.max PyProof.Rows.boot_max (pa_cons (pv 0) pa_nil)) pe_int) pa_nil)) (fun _ _ _ _ _ => pif_nil) (fun _ _ _ _ _ => pe_int))
    (pss_cons (ps_for PassesOwn.never rfl (pi_list (pv 0)) (pg_name (i := 2) scCounts.nd rfl (Or.inl rfl))
      (pss_one (ps_asg (pe_op op_add (pe_ix ix_list (pv 1) (pv 2) (fun _ _ => rfl)) pe_int) (pg_sub (pv 1) (pv 2) set_list))))
    (pss_one (ps_ret (pv 1)))), ?_⟩
  refine ⟨_, rfl, a, ns, rfl, hS, h0, fun M m1 m2 => ?_⟩
  obtain ⟨M, rfl⟩ := Int.eq_ofNat_of_zero_le (hb M m1).1
  have hM := (hb _ m1).2
  have eM : ((M : Int) + 1).toNat = M + 1 := by omega
  refine ⟨_, _, rfl, rfl, _, rfl, by omega, by omega, ?_⟩
  refine lc_range0 (fun i ys H2 => ys = (List.replicate i (0 : Int)).map V.int ∧ H2 = H) ⟨rfl, rfl⟩ (fun i ys H2 ⟨e1, _⟩ => by rw [e1, List.length_map, List.length_replicate]; exact Nat.le_refl _) (by rw [eM]; exact small (by omega)) ?_ ?_
  · rintro i ys H2 hi ⟨rfl, rfl⟩
    refine ⟨?_, rfl⟩
    rw [List.replicate_succ', List.map_append]
    rfl
  rintro ys H2 ⟨rfl, rfl⟩ D hD
  rw [eM, ← cntI_nil]
  refine ⟨_, rfl, a, rfl, ⟨_, (same_new hD _).seq hS⟩, for_list (K := K) (a := a) (xs := ns.map V.int) (fun i σ H3 => ∃ v : Option V, σ = [some (.ref a), some (.ref D), v] ∧ Same H2 H3 ∧ H3 D = some (.lst ((cntI (M + 1) (ns.take i)).map V.int)))
    ⟨none, rfl, same_new hD _, upd_same⟩ (fun i σ H3 _ ⟨_, _, g, _⟩ => g.seq hS) ?_ ?_⟩
  · rintro i y σ H3 hi ⟨v, rfl, g, hD3⟩
    obtain ⟨z, rfl, hz⟩ := int_of_map hi
    have hm := List.mem_of_getElem? hz
    obtain ⟨j, rfl⟩ := Int.eq_ofNat_of_zero_le (hb z hm).1
    have hj : j < M + 1 := by have := m2 _ hm; omega
    have hg : ((cntI (M + 1) (ns.take i)).map V.int)[j]? = some (.int ((ns.take i).count (j : Int) : Int)) := by rw [List.getElem?_map, cntI_get hj]; rfl
    have hix : ixN ((cntI (M + 1) (ns.take i)).map V.int).length ((j : Nat) : Int) = some j := by
      unfold ixN
      rw [List.length_map, cntI_len, if_pos (by omega), if_pos (by omega), Int.toNat_natCast]
    refine ⟨_, rfl, _, rfl, D, _, _, _, rfl, rfl, SqL.of hD3, atI_nat hg, _, _, rfl, rfl, _, rfl, _, rfl, D, _, (j : Int), j, rfl, rfl, hD3, hix, some (.int (j : Int)), rfl, same_upd g hD _, ?_⟩
    rw [upd_same, take_snoc hz, cntI_snoc hj, List.map_set]
  · rintro σ H3 ⟨v, rfl, g, hD3⟩
    rw [List.length_map, List.take_of_length_le (Nat.le_refl _)] at hD3
    exact ⟨_, rfl, q M m1 m2 D H3 g hD hD3⟩
theorem scLaw : FnScope ["script", "word", "counts", "handed", "found", "many", "behind"] ["script"] (defScope sLaw) := ⟨rfl, rfl, rfl, by decide +kernel, rfl, by decide +kernel, by decide +kernel⟩
theorem ok_law (F : Fun K "law" "law" sLaw f fd) (T : Txt mg) (C : Fn P w K mg base "_law_cell_at" ["script", "k"] 1 (spCell K)) (N : Fn P w K mg base "_law_nodes" ["script"] 2 (spNodes K)) (G : Fn P w K mg base "_law_grove_by" ["script", "first", "nodes", "roots"] 2 (spGroveBy K))
    (W : Fn P w K mg base "_law_words" ["grove"] 103 spWords) (L : Fn P w K mg base "_law_is_word" ["numbers"] 1 (spIsWord K)) (LC : Fn P w K mg base "_law_counts" ["word"] 1 (spCounts K)) (LN : Fn P w K mg base "_law_numbers" ["found", "due"] 2 (spNumbers K)) (LW : Fn P w K mg base "_law_whole" ["found"] 1 (spWhole K))
    (CO : Fn P w K mg base "counts_of" ["word"] 120 (spCountsOf K cW)) (HM : Fn P w K mg base "how_many" ["counts"] 120 (spHowMany K)) (NO : Fn P w K mg base "number_of" ["word"] 120 (spNumberOf K cW)) (WAt : Fn P w K mg base "word_at" ["counts", "number"] 120 (spWordAt K cS)) :
    FnOk P w K mg base (CXf P w) 121 f fd ["script"] (spLaw K) := by
  refine F.okn scLaw (fun vs H Q E h => ?_) (fun cdv A outer s H vs Q E hr h => ?_)
  · obtain ⟨a, ns, rfl, _⟩ := h
    rfl
  obtain ⟨a, ns, rfl, hS, h63, q⟩ := h
  refine ⟨_, (pss_cons (ps_set (i := 1) scLaw.nd rfl (Or.inl rfl) (pe_fn W (hr.mono (by omega)) rfl (pa_cons (pe_fn G (hr.mono (by omega)) rfl (pa_cons (pv 0) (pa_cons pe_int (pa_cons (pe_fn N (hr.mono (by omega)) rfl (pa_cons (pv 0) pa_nil)) (pa_cons (pe_ix ix_list (pe_lst (pa_cons pe_int (pa_cons pe_int (pa_cons pe_int pa_nil)))) (pe_op op_mod (pe_fn C (hr.mono (by omega)) rfl (pa_cons (pv 0) (pa_cons pe_int pa_nil))) pe_int) (fun _ _ => rfl)) pa_nil))))) pa_nil)))
    (pss_cons (ps_set (i := 2) scLaw.nd rfl (Or.inl rfl) (pe_fn LC (hr.mono (by omega)) rfl (pa_cons (pv 1) pa_nil)))
    (pss_cons (ps_set (i := 3) scLaw.nd rfl (Or.inl rfl) (pe_callTy call_list_of rfl T.list PyProof.Rows.boot_list (pa_cons (pv 1) pa_nil)))
    (pss_cons (ps_if (PW.pt (pw_or (pt_not (pt_val (pe_fn LN (hr.mono (by omega)) rfl (pa_cons (pe_fn CO (hr.mono (by omega)) rfl (pa_cons (pv 3) pa_nil)) (pa_cons (pv 2) pa_nil))))) (pw_or1 (pt_cmpR (op_neL hr.units) (pv 3) (pv 1) (nomark _))))) (pss_one (ps_ret pe_bl)) pss_nil)
    (pss_cons (ps_set (i := 4) scLaw.nd rfl (Or.inl rfl) (pe_fn NO (hr.mono (by omega)) rfl (pa_cons (pv 3) pa_nil)))
    (pss_cons (ps_set (i := 5) scLaw.nd rfl (Or.inl rfl) (pe_fn HM (hr.mono (by omega)) rfl (pa_cons (pe_callTy call_list_of rfl T.list PyProof.Rows.boot_list (pa_cons (pv 2) pa_nil)) pa_nil)))
    (pss_cons (ps_if (PW.pt (pw_or (pt_cmpR (op_neL hr.units) (pv 3) (pv 1) (nomark _)) (pw_or (pt_not (pt_val (pe_fn LW (hr.mono (by omega)) rfl (pa_cons (pv 4) pa_nil)))) (pw_or (pt_cmpR op_lt (pv 4) pe_int (nomark _)) (pw_or1 (pt_cmpR op_ge (pv 4) (pv 5) (nomark _))))))) (pss_one (ps_ret pe_bl)) pss_nil)
    (pss_cons (ps_if (pt_not (pt_val (pe_fn LN (hr.mono (by omega)) rfl (pa_cons (pe_fn WAt (hr.mono (by omega)) rfl (pa_cons (pe_callTy call_list_of rfl T.list PyProof.Rows.boot_list (pa_cons (pv 2) pa_nil)) (pa_cons (pv 4) pa_nil))) (pa_cons (pv 1) pa_nil))))) (pss_one (ps_ret pe_bl)) pss_nil)
    (pss_cons (ps_if (pt_cmpR op_eq (pe_op op_add (pv 4) pe_int) (pv 5) (nomark _)) (pss_one (ps_ret pe_bl)) pss_nil)
    (pss_cons (ps_set (i := 6) scLaw.nd rfl (Or.inl rfl) (pe_fn WAt (hr.mono (by omega)) rfl (pa_cons (pv 2) (pa_cons (pe_op op_add (pv 4) pe_int) pa_nil))))
    (pss_cons (ps_if (PW.pt (pw_or (pt_not (pt_val (pe_fn LN (hr.mono (by omega)) rfl (pa_cons (pv 6) (pa_cons (pe_callTy call_list_of rfl T.list PyProof.Rows.boot_list (pa_cons (pv 6) pa_nil)) pa_nil))))) (pw_or (pt_not (pt_val (pe_fn L (hr.mono (by omega)) rfl (pa_cons (pv 6) pa_nil)))) (pw_or1 (pt_cmpR (op_leL hr.units) (pv 6) (pv 1) (nomark _)))))) (pss_one (ps_ret pe_bl)) pss_nil)
    (pss_one (ps_ret (pe_and (pe_cmpR (op_eqL hr.units) (pe_fn LC (hr.mono (by omega)) rfl (pa_cons (pv 6) pa_nil)) (pe_fn LC (hr.mono (by omega)) rfl (pa_cons (pv 1) pa_nil)) (nomark _)) (pe_one (pe_cmpR op_eq (pe_fn NO (hr.mono (by omega)) rfl (pa_cons (pv 6) pa_nil)) (pe_op op_add (pv 4) pe_int) (nomark _))))))))))))))))), ?_⟩
  refine ⟨_, rfl, _, rfl, a, ns, rfl, hS, fun n c1 c2 => ⟨(by show 3 ≤ sizeLine; decide), fun p0 hp0 => ?_⟩⟩
  have g0 := same_new hp0 (.lst ([3, 8, 99].map V.int))
  have m0 := Int.emod_nonneg (ns.getD (1 : Int).toNat 0) (show (3 : Int) ≠ 0 by decide)
  have m1 := Int.emod_lt_of_pos (ns.getD (1 : Int).toNat 0) (show (0 : Int) < 3 by decide)
  obtain ⟨x, hx, hm'⟩ := at_mem (ns := [3, 8, 99]) m0 m1
  refine ⟨_, rfl, a, ns, 1, rfl, g0.seq hS, by decide, _, _, rfl, rfl, (by show (0 : Int) < 3; decide), p0, _, _, _, rfl, rfl, SqL.of upd_same, hx, a, ns, 3, n, x, rfl, g0.seq hS, by decide, c1, c2, ?_, fun r xs g H1 g1 hr0 hr1 hG hsz hne => ?_⟩
  · simp only [List.mem_cons, List.not_mem_nil, or_false] at hm'
    omega
  refine ⟨r, xs, g, rfl, hr1, hG, by omega, fun wd H2 g2 hw0 hw => ?_⟩
  have hwl := g.word_len
  have hsz1 : 0 < g.size := by omega
  have bw : ∀ x ∈ g.word, -60 ≤ x ∧ x ≤ 60 := fun x hx => ⟨by have := g.word_nonneg x hx; omega, by have := g.word_lt x hx; omega⟩
  have bw2 : ∀ x ∈ g.word, 0 ≤ x ∧ x < 1000 := fun x hx => ⟨g.word_nonneg x hx, by have := g.word_lt x hx; omega⟩
  -- counts
  refine ⟨_, rfl, wd, g.word, rfl, SqL.of hw, by omega, by omega, bw2, fun M k1 k2 ct H3 g3 hc0 hct => ?_⟩
  have wc := wc_grove hne k1 k2
  have hML : M < g.size := by have := g.word_lt _ k1; omega
  have hw3 := g3 _ _ hw
  refine ⟨_, rfl, wd, _, rfl, .inl (SqL.of hw3), fun l hl0 => ?_⟩
  have g4 := same_new hl0 (.lst (g.word.map V.int))
  have hw4 := g4 _ _ hw3
  have hc4 := g4 _ _ hct
  refine ⟨_, rfl, l, g.word, rfl, SqL.of upd_same, by omega, bw, fun _ => fun M' k1' k2' co H5 g5 ho0 hco => ?_, fun z => ?_⟩
  rotate_left
  · rw [wc.word] at z
    cases z
  have eM : M' = M := by
    have := k2' _ k1
    have := k2 _ k1'
    omega
  subst eM
  have hl5 := g5 _ _ (upd_same (H := H3) (a := l) (o := .lst (g.word.map V.int)))
  have hw5 := g5 _ _ hw4
  have hc5 := g5 _ _ hc4
  refine ⟨_, rfl, co, ct, _, rfl, hco, SqL.of hc5, _, rfl, iteF ?_⟩
  refine ⟨_, rfl, _, rfl, l, wd, g.word, g.word, rfl, rfl, SqL.of hl5, SqL.of hw5, _, rfl, ?_⟩
  rw [decide_eq_true (show g.word = g.word from rfl)]
  refine iteF ?_
  -- its number
  refine ⟨_, rfl, l, g.word, rfl, SqL.of hl5, by omega, bw, fun _ => fun M'' k1'' k2'' H6 g6 => ?_, fun z => ?_⟩
  rotate_left
  · rw [wc.word] at z
    cases z
  have eM2 : M'' = M' := by
    have := k2'' _ k1
    have := k2 _ k1''
    omega
  subst eM2
  have hl6 := g6 _ _ hl5
  have hw6 := g6 _ _ hw5
  have hc6 := g6 _ _ hc5
  have ern : numberW g.word (M'' + 1) = rankL g.size g.len (cntN (M'' + 1) g.word) g.word := by
    unfold numberW
    rw [wc.len, wc.wlt]
  have hrk := rankL_get _ _ _ _ wc.csum wc.mem
  have hrl := rankL_lt wc.csum wc.mem
  rw [ern]
  generalize rankL g.size g.len (cntN (M'' + 1) g.word) g.word = k at hrk hrl
  -- how many
  refine ⟨_, rfl, ct, _, rfl, .inl (SqL.of hc6), fun l2 hl2 => ?_⟩
  have g7 := same_new hl2 (.lst ((cntI (M'' + 1) g.word).map V.int))
  have hcl : (cntN (M'' + 1) g.word).length = M'' + 1 := cntN_len _ _
  have hcs := wc.csum
  have hcw := wc.cwt
  have hpos := wc.pos
  refine ⟨l2, cntN (M'' + 1) g.word, rfl, SqL.of (by rw [upd_same, cnt_vi]), by omega, by omega, by omega, by omega, fun H8 g8 => ?_⟩
  rw [wc.many]
  have g78 := g7.trans g8
  have hl8 := g78 _ _ hl6
  have hw8 := g78 _ _ hw6
  have hc8 := g78 _ _ hc6
  refine ⟨_, rfl, _, rfl, l, wd, g.word, g.word, rfl, rfl, SqL.of hl8, SqL.of hw8, _, rfl, ?_⟩
  rw [decide_eq_true (show g.word = g.word from rfl)]
  refine iteF ⟨_, rfl, (k : Int), rfl, _, rfl, iteF ⟨_, rfl, _, _, rfl, rfl, _, rfl, ?_⟩⟩
  rw [decide_eq_false (show ¬ (k : Int) < 0 by omega)]
  refine iteF ⟨_, rfl, _, rfl, _, _, rfl, rfl, _, rfl, ?_⟩
  rw [decide_eq_false (show ¬ ((comp g.size g.len (cntN (M'' + 1) g.word) : Nat) : Int) ≤ (k : Int) by omega)]
  refine iteF ?_
  -- the word of this number
  have ep : (cntN (M'' + 1) g.word).sum - wt 0 (cntN (M'' + 1) g.word) = g.len := by omega
  refine ⟨_, rfl, ct, _, rfl, .inl (SqL.of hc8), fun l3 hl3 => ?_⟩
  have g9 := same_new hl3 (.lst ((cntI (M'' + 1) g.word).map V.int))
  have no : ∀ {P : Prop}, ¬ ((k : Int) < 0 ∨ (hm (cntN (M'' + 1) g.word) : Int) ≤ (k : Int)) := by
    intro _ z
    rw [wc.many] at z
    omega
  refine ⟨_, rfl, l3, cntN (M'' + 1) g.word, (k : Int), rfl, SqL.of (by rw [upd_same, cnt_vi]), by omega, by omega, by omega, by omega, fun j ws ej _ hj b1 H10 g10 hb0 hb => ?_, fun z => absurd z (no (P := True))⟩
  have ejk : j = k := by omega
  subst ejk
  rw [ep, hcs, hrk] at hj
  cases hj
  have g910 := g9.trans g10
  have hw10 := g910 _ _ hw8
  have hc10 := g910 _ _ hc8
  refine ⟨_, rfl, b1, wd, g.word, rfl, hb, SqL.of hw10, _, rfl, iteF ?_⟩
  refine ⟨_, rfl, _, _, rfl, rfl, _, rfl, rfl, _, rfl, ite2 (fun _ => q _) (fun cl => ?_)⟩
  -- the next one
  have hlt : j + 1 < comp g.size g.len (cntN (M'' + 1) g.word) := by
    have : ¬ (j : Int) + 1 = ((comp g.size g.len (cntN (M'' + 1) g.word) : Nat) : Int) := fun z => cl (decide_eq_true (congrArg V.int z))
    omega
  have hnx : (wordsL g.size g.len (cntN (M'' + 1) g.word))[j + 1]? = some ((wordsL g.size g.len (cntN (M'' + 1) g.word))[j + 1]'(by rw [wordsL_len]; exact hlt)) := List.getElem?_eq_getElem _
  generalize (wordsL g.size g.len (cntN (M'' + 1) g.word))[j + 1]'(by rw [wordsL_len]; exact hlt) = nx at hnx
  obtain ⟨wc2, ec2⟩ := wc.other (List.mem_of_getElem? hnx)
  have hlex := lex_of_lt (Nat.lt_succ_self j) hrk hnx
  have hrk2 := wc.rank hnx
  have no2 : ¬ (((j : Int) + 1) < 0 ∨ (hm (cntN (M'' + 1) g.word) : Int) ≤ (j : Int) + 1) := by
    intro z
    rw [wc.many] at z
    omega
  have nl := wc2.len
  have nb : ∀ x ∈ nx, -60 ≤ x ∧ x ≤ 60 := fun x hx => ⟨by have := wc2.ge x hx; omega, by have := wc2.le x hx; omega⟩
  have nb2 : ∀ x ∈ nx, 0 ≤ x ∧ x < 1000 := fun x hx => ⟨wc2.ge x hx, by have := wc2.le x hx; omega⟩
  refine ⟨_, rfl, _, rfl, _, _, rfl, rfl, ct, cntN (M'' + 1) g.word, (j : Int) + 1, rfl, SqL.of (by rw [hc10, cnt_vi]), by omega, by omega, by omega, by omega, fun j' ws ej _ hj b2 H11 g11 hb20 hb2 => ?_, fun z => absurd z no2⟩
  have ejk : j' = j + 1 := by omega
  subst ejk
  rw [ep, hcs, hnx] at hj
  cases hj
  have hw11 := g11 _ _ hw10
  refine ⟨_, rfl, _, rfl, b2, _, rfl, .inl (SqL.of hb2), fun l4 hl4 => ?_⟩
  have g12 := same_new hl4 (.lst (nx.map V.int))
  have hb12 := g12 _ _ hb2
  have hw12 := g12 _ _ hw11
  refine ⟨b2, l4, nx, rfl, hb12, SqL.of upd_same, _, rfl, iteF ?_⟩
  refine ⟨_, rfl, b2, nx, rfl, SqL.of hb12, _, rfl, ?_⟩
  rw [wc2.word]
  refine iteF ⟨_, rfl, _, rfl, b2, wd, nx, g.word, rfl, rfl, SqL.of hb12, SqL.of hw12, _, rfl, ?_⟩
  have eLO : LO true nx g.word = false := by
    unfold LO
    rw [if_pos rfl, ← lexLt_HT, hlex]
    rfl
  rw [eLO]
  refine iteF ?_
  refine ⟨_, rfl, b2, nx, rfl, SqL.of hb12, by omega, by omega, nb2, fun Ma a1 a2 r1 H13 g13 hr10 hr1' => ?_⟩
  have eMa : Ma = M'' := by
    have := a2 _ wc2.top
    have := wc2.le _ a1
    omega
  subst eMa
  have hw13 := g13 _ _ hw12
  refine ⟨_, rfl, wd, g.word, rfl, SqL.of hw13, by omega, by omega, bw2, fun Mb b1' b2' r2 H14 g14 hr20 hr2' => ?_⟩
  have eMb : Mb = Ma := by
    have := b2' _ wc.top
    have := wc.le _ b1'
    omega
  subst eMb
  have hb14 := g14 _ _ (g13 _ _ hb12)
  refine ⟨r1, r2, _, _, rfl, rfl, SqL.of (g14 _ _ hr1'), SqL.of hr2', _, rfl, ?_⟩
  rw [show id (decide (cntI (Mb + 1) nx = cntI (Mb + 1) g.word)) = true from decide_eq_true (by rw [cntI_N, cntI_N, ec2])]
  refine iteT ?_
  refine ⟨_, rfl, b2, nx, rfl, SqL.of hb14, by omega, nb, fun _ => fun Mc c1' c2' H15 g15 => ?_, fun z => ?_⟩
  rotate_left
  · rw [wc2.word] at z
    cases z
  have eMc : Mc = Mb := by
    have := c2' _ wc2.top
    have := wc2.le _ c1'
    omega
  subst eMc
  have en : numberW nx (Mc + 1) = j + 1 := hrk2
  rw [en]
  refine ⟨_, rfl, _, _, rfl, rfl, rfl, ?_⟩
  rw [decide_eq_true (show V.int ((j + 1 : Nat) : Int) = V.int ((j : Int) + 1) by rw [Int.natCast_add]; rfl)]
  exact q _
end
/-! ### the top -/
theorem all_mk {l : PySem.W.OpenLaw} {w : World} {K : PySem.W.Frag} {h : Heap} {mg : Str → Option Value} {fa cW cS f1 f2 f3 f4 f5 f6 f7 f8 f9 f10 f11 f12 f13 f14 f15 f16 f17 f18 f19 f20 f21 f22 : Addr} (X : K.In h) (G : h.Ns mainGlobals mg) (hfa : mg "law" = some (.ref fa))
    {od1 an1 od2 an2 od3 an3 od4 an4 od5 an5 od6 an6 od7 an7 od8 an8 od9 an9 od10 an10 od11 an11 od12 an12 od13 an13 od14 an14 od15 an15 od16 an16 od17 an17 od18 an18 od19 an19 od20 an20 od21 an21 od22 an22 : Option Addr} {sl1 sl2 sl3 sl4 sl5 sl6 sl7 sl8 sl9 sl10 sl11 sl12 sl13 sl14 sl15 sl16 sl17 sl18 sl19 sl20 sl21 sl22 : Array (Option Value)}
    {oc1 kV1 dc1 pm1 cd1 ct1 oc2 kV2 dc2 pm2 cd2 ct2 oc3 kV3 dc3 pm3 cd3 ct3 oc4 kV4 dc4 pm4 cd4 ct4 oc5 kV5 dc5 pm5 cd5 ct5 oc6 kV6 dc6 pm6 cd6 ct6 oc7 kV7 dc7 pm7 cd7 ct7 oc8 kV8 dc8 pm8 cd8 ct8 oc9 kV9 dc9 pm9 cd9 ct9 oc10 kV10 dc10 pm10 cd10 ct10 oc11 kV11 dc11 pm11 cd11 ct11 oc12 kV12 dc12 pm12 cd12 ct12 oc13 kV13 dc13 pm13 cd13 ct13 oc14 kV14 dc14 pm14 cd14 ct14 oc15 kV15 dc15 pm15 cd15 ct15 oc16 kV16 dc16 pm16 cd16 ct16 oc17 kV17 dc17 pm17 cd17 ct17 oc18 kV18 dc18 pm18 cd18 ct18 oc19 kV19 dc19 pm19 cd19 ct19 oc20 kV20 dc20 pm20 cd20 ct20 oc21 kV21 dc21 pm21 cd21 ct21 oc22 kV22 dc22 pm22 cd22 ct22 : Value}
    (a1 : PySem.W.nsIn K mainGlobals "is_word" = some (some (.ref f1))) (l1 : K.lookup f1 = some ⟨oc1, od1, .func (PySem.W.fnOf "is_word" "is_word" (defArgs sIsWordP) (defBody sIsWordP) (defScope sIsWordP) .none kV1 dc1 pm1 an1 cd1 ct1), sl1⟩) (c1 : PySem.W.codeIn K cd1 "is_word" = true) (k1 : PySem.W.keepIn K (.ref f1) = true)
    (a2 : PySem.W.nsIn K mainGlobals "check_word" = some (some (.ref f2))) (l2 : K.lookup f2 = some ⟨oc2, od2, .func (PySem.W.fnOf "check_word" "check_word" (defArgs sCheckW) (defBody sCheckW) (defScope sCheckW) .none kV2 dc2 pm2 an2 cd2 ct2), sl2⟩) (c2 : PySem.W.codeIn K cd2 "check_word" = true) (k2 : PySem.W.keepIn K (.ref f2) = true)
    (a3 : PySem.W.nsIn K mainGlobals "counts_of" = some (some (.ref f3))) (l3 : K.lookup f3 = some ⟨oc3, od3, .func (PySem.W.fnOf "counts_of" "counts_of" (defArgs sCountsOf) (defBody sCountsOf) (defScope sCountsOf) .none kV3 dc3 pm3 an3 cd3 ct3), sl3⟩) (c3 : PySem.W.codeIn K cd3 "counts_of" = true) (k3 : PySem.W.keepIn K (.ref f3) = true)
    (a4 : PySem.W.nsIn K mainGlobals "trees_of" = some (some (.ref f4))) (l4 : K.lookup f4 = some ⟨oc4, od4, .func (PySem.W.fnOf "trees_of" "trees_of" (defArgs sTreesOf) (defBody sTreesOf) (defScope sTreesOf) .none kV4 dc4 pm4 an4 cd4 ct4), sl4⟩) (c4 : PySem.W.codeIn K cd4 "trees_of" = true) (k4 : PySem.W.keepIn K (.ref f4) = true)
    (a5 : PySem.W.nsIn K mainGlobals "product_to" = some (some (.ref f5))) (l5 : K.lookup f5 = some ⟨oc5, od5, .func (PySem.W.fnOf "product_to" "product_to" (defArgs sProdTo) (defBody sProdTo) (defScope sProdTo) .none kV5 dc5 pm5 an5 cd5 ct5), sl5⟩) (c5 : PySem.W.codeIn K cd5 "product_to" = true) (k5 : PySem.W.keepIn K (.ref f5) = true)
    (a6 : PySem.W.nsIn K mainGlobals "lists_with" = some (some (.ref f6))) (l6 : K.lookup f6 = some ⟨oc6, od6, .func (PySem.W.fnOf "lists_with" "lists_with" (defArgs sListsWith) (defBody sListsWith) (defScope sListsWith) .none kV6 dc6 pm6 an6 cd6 ct6), sl6⟩) (c6 : PySem.W.codeIn K cd6 "lists_with" = true) (k6 : PySem.W.keepIn K (.ref f6) = true)
    (a7 : PySem.W.nsIn K mainGlobals "how_many" = some (some (.ref f7))) (l7 : K.lookup f7 = some ⟨oc7, od7, .func (PySem.W.fnOf "how_many" "how_many" (defArgs sHowMany) (defBody sHowMany) (defScope sHowMany) .none kV7 dc7 pm7 an7 cd7 ct7), sl7⟩) (c7 : PySem.W.codeIn K cd7 "how_many" = true) (k7 : PySem.W.keepIn K (.ref f7) = true)
    (a8 : PySem.W.nsIn K mainGlobals "without" = some (some (.ref f8))) (l8 : K.lookup f8 = some ⟨oc8, od8, .func (PySem.W.fnOf "without" "without" (defArgs sWithout) (defBody sWithout) (defScope sWithout) .none kV8 dc8 pm8 an8 cd8 ct8), sl8⟩) (c8 : PySem.W.codeIn K cd8 "without" = true) (k8 : PySem.W.keepIn K (.ref f8) = true)
    (a9 : PySem.W.nsIn K mainGlobals "begun_with" = some (some (.ref f9))) (l9 : K.lookup f9 = some ⟨oc9, od9, .func (PySem.W.fnOf "begun_with" "begun_with" (defArgs sBegun) (defBody sBegun) (defScope sBegun) .none kV9 dc9 pm9 an9 cd9 ct9), sl9⟩) (c9 : PySem.W.codeIn K cd9 "begun_with" = true) (k9 : PySem.W.keepIn K (.ref f9) = true)
    (a10 : PySem.W.nsIn K mainGlobals "number_of" = some (some (.ref f10))) (l10 : K.lookup f10 = some ⟨oc10, od10, .func (PySem.W.fnOf "number_of" "number_of" (defArgs sNumberOf) (defBody sNumberOf) (defScope sNumberOf) .none kV10 dc10 pm10 an10 cd10 ct10), sl10⟩) (c10 : PySem.W.codeIn K cd10 "number_of" = true) (k10 : PySem.W.keepIn K (.ref f10) = true)
    (a11 : PySem.W.nsIn K mainGlobals "next_number" = some (some (.ref f11))) (l11 : K.lookup f11 = some ⟨oc11, od11, .func (PySem.W.fnOf "next_number" "next_number" (defArgs sNextN) (defBody sNextN) (defScope sNextN) .none kV11 dc11 pm11 an11 cd11 ct11), sl11⟩) (c11 : PySem.W.codeIn K cd11 "next_number" = true) (k11 : PySem.W.keepIn K (.ref f11) = true)
    (a12 : PySem.W.nsIn K mainGlobals "word_at" = some (some (.ref f12))) (l12 : K.lookup f12 = some ⟨oc12, od12, .func (PySem.W.fnOf "word_at" "word_at" (defArgs sWordAt) (defBody sWordAt) (defScope sWordAt) .none kV12 dc12 pm12 an12 cd12 ct12), sl12⟩) (c12 : PySem.W.codeIn K cd12 "word_at" = true) (k12 : PySem.W.keepIn K (.ref f12) = true)
    (a13 : PySem.W.nsIn K mainGlobals "_law_cell_at" = some (some (.ref f13))) (l13 : K.lookup f13 = some ⟨oc13, od13, .func (PySem.W.fnOf "_law_cell_at" "_law_cell_at" (defArgs sCell) (defBody sCell) (defScope sCell) .none kV13 dc13 pm13 an13 cd13 ct13), sl13⟩) (c13 : PySem.W.codeIn K cd13 "_law_cell_at" = true) (k13 : PySem.W.keepIn K (.ref f13) = true)
    (a14 : PySem.W.nsIn K mainGlobals "_law_whole" = some (some (.ref f14))) (l14 : K.lookup f14 = some ⟨oc14, od14, .func (PySem.W.fnOf "_law_whole" "_law_whole" (defArgs sWhole) (defBody sWhole) (defScope sWhole) .none kV14 dc14 pm14 an14 cd14 ct14), sl14⟩) (c14 : PySem.W.codeIn K cd14 "_law_whole" = true) (k14 : PySem.W.keepIn K (.ref f14) = true)
    (a15 : PySem.W.nsIn K mainGlobals "_law_grove_by" = some (some (.ref f15))) (l15 : K.lookup f15 = some ⟨oc15, od15, .func (PySem.W.fnOf "_law_grove_by" "_law_grove_by" (defArgs sGroveBy) (defBody sGroveBy) (defScope sGroveBy) .none kV15 dc15 pm15 an15 cd15 ct15), sl15⟩) (c15 : PySem.W.codeIn K cd15 "_law_grove_by" = true) (k15 : PySem.W.keepIn K (.ref f15) = true)
    (a16 : PySem.W.nsIn K mainGlobals "_law_word" = some (some (.ref f16))) (l16 : K.lookup f16 = some ⟨oc16, od16, .func (PySem.W.fnOf "_law_word" "_law_word" (defArgs sWordT) (defBody sWordT) (defScope sWordT) .none kV16 dc16 pm16 an16 cd16 ct16), sl16⟩) (c16 : PySem.W.codeIn K cd16 "_law_word" = true) (k16 : PySem.W.keepIn K (.ref f16) = true)
    (a17 : PySem.W.nsIn K mainGlobals "_law_words" = some (some (.ref f17))) (l17 : K.lookup f17 = some ⟨oc17, od17, .func (PySem.W.fnOf "_law_words" "_law_words" (defArgs sWords) (defBody sWords) (defScope sWords) .none kV17 dc17 pm17 an17 cd17 ct17), sl17⟩) (c17 : PySem.W.codeIn K cd17 "_law_words" = true) (k17 : PySem.W.keepIn K (.ref f17) = true)
    (a18 : PySem.W.nsIn K mainGlobals "_law_is_word" = some (some (.ref f18))) (l18 : K.lookup f18 = some ⟨oc18, od18, .func (PySem.W.fnOf "_law_is_word" "_law_is_word" (defArgs sIsWord) (defBody sIsWord) (defScope sIsWord) .none kV18 dc18 pm18 an18 cd18 ct18), sl18⟩) (c18 : PySem.W.codeIn K cd18 "_law_is_word" = true) (k18 : PySem.W.keepIn K (.ref f18) = true)
    (a19 : PySem.W.nsIn K mainGlobals "_law_nodes" = some (some (.ref f19))) (l19 : K.lookup f19 = some ⟨oc19, od19, .func (PySem.W.fnOf "_law_nodes" "_law_nodes" (defArgs sNodes) (defBody sNodes) (defScope sNodes) .none kV19 dc19 pm19 an19 cd19 ct19), sl19⟩) (c19 : PySem.W.codeIn K cd19 "_law_nodes" = true) (k19 : PySem.W.keepIn K (.ref f19) = true)
    (a20 : PySem.W.nsIn K mainGlobals "_law_numbers" = some (some (.ref f20))) (l20 : K.lookup f20 = some ⟨oc20, od20, .func (PySem.W.fnOf "_law_numbers" "_law_numbers" (defArgs sNumbers) (defBody sNumbers) (defScope sNumbers) .none kV20 dc20 pm20 an20 cd20 ct20), sl20⟩) (c20 : PySem.W.codeIn K cd20 "_law_numbers" = true) (k20 : PySem.W.keepIn K (.ref f20) = true)
    (a21 : PySem.W.nsIn K mainGlobals "_law_counts" = some (some (.ref f21))) (l21 : K.lookup f21 = some ⟨oc21, od21, .func (PySem.W.fnOf "_law_counts" "_law_counts" (defArgs sCounts) (defBody sCounts) (defScope sCounts) .none kV21 dc21 pm21 an21 cd21 ct21), sl21⟩) (c21 : PySem.W.codeIn K cd21 "_law_counts" = true) (k21 : PySem.W.keepIn K (.ref f21) = true)
    (a22 : PySem.W.nsIn K mainGlobals "law" = some (some (.ref f22))) (l22 : K.lookup f22 = some ⟨oc22, od22, .func (PySem.W.fnOf "law" "law" (defArgs sLaw) (defBody sLaw) (defScope sLaw) .none kV22 dc22 pm22 an22 cd22 ct22), sl22⟩) (c22 : PySem.W.codeIn K cd22 "law" = true) (k22 : PySem.W.keepIn K (.ref f22) = true)
    (z1 : PySem.W.nsIn K mainGlobals "len" = some none)
    (z2 : PySem.W.nsIn K mainGlobals "range" = some none)
    (z3 : PySem.W.nsIn K mainGlobals "min" = some none)
    (z4 : PySem.W.nsIn K mainGlobals "max" = some none)
    (z5 : PySem.W.nsIn K mainGlobals "sum" = some none)
    (z6 : PySem.W.nsIn K mainGlobals "list" = some none)
    (z7 : PySem.W.nsIn K mainGlobals "isinstance" = some none)
    (z8 : PySem.W.nsIn K mainGlobals "bool" = some none)
    (z9 : PySem.W.nsIn K mainGlobals "int" = some none)
    (z10 : PySem.W.nsIn K mainGlobals "sorted" = some none)
    (z11 : PySem.W.nsIn K mainGlobals "ValueError" = some none)
    (z12 : PySem.W.nsIn K mainGlobals "tuple" = some none)
    (z13 : PySem.W.nsIn K mainGlobals "str" = some none)
    (z14 : PySem.W.nsIn K mainGlobals "enumerate" = some none)
    (z15 : PySem.W.nsIn K mainGlobals "reversed" = some none)
    (mNoWord : PySem.W.nsIn K mainGlobals "NoWord" = some (some (.ref cW)))
    (mNoSuch : PySem.W.nsIn K mainGlobals "NoSuch" = some (some (.ref cS)))
    (xNoWord : PySem.W.excIn K cW bmV "ValueError.__new__" = true)
    (xNoSuch : PySem.W.excIn K cS bmV "ValueError.__new__" = true)
    : ∃ fd : FuncData, (∀ (s : Shared) (v : Value), BindsTo s fd ⟨[v], []⟩ [("script", v)]) ∧ ∀ base : Heap, K.In base → base.Ns mainGlobals mg → FnOk l.prog w K mg base (CXf l.prog w) 121 fa fd ["script"] (spLaw K) := by
  have e := hfa.symm.trans (PySem.W.mg_of X G a22)
  cases e
  have T : Txt mg := ⟨PySem.W.mg_none_of X G z1, PySem.W.mg_none_of X G z2, PySem.W.mg_none_of X G z3, PySem.W.mg_none_of X G z4, PySem.W.mg_none_of X G z5, PySem.W.mg_none_of X G z6, PySem.W.mg_none_of X G z7, PySem.W.mg_none_of X G z8, PySem.W.mg_none_of X G z9, PySem.W.mg_none_of X G z10, PySem.W.mg_none_of X G z11, PySem.W.mg_none_of X G z12, PySem.W.mg_none_of X G z13, PySem.W.mg_none_of X G z14, PySem.W.mg_none_of X G z15⟩
  have MNoWord : mg "NoWord" = some (.ref cW) := PySem.W.mg_of X G mNoWord
  have MNoSuch : mg "NoSuch" = some (.ref cS) := PySem.W.mg_of X G mNoSuch
  have ZNoWord : Rz K mg "NoWord" cW := ⟨MNoWord, xNoWord⟩
  have ZNoSuch : Rz K mg "NoSuch" cS := ⟨MNoSuch, xNoSuch⟩
  have F1 := fun_mk (st := sIsWordP) l1 c1 k1
  have F2 := fun_mk (st := sCheckW) l2 c2 k2
  have F3 := fun_mk (st := sCountsOf) l3 c3 k3
  have F4 := fun_mk (st := sTreesOf) l4 c4 k4
  have F5 := fun_mk (st := sProdTo) l5 c5 k5
  have F6 := fun_mk (st := sListsWith) l6 c6 k6
  have F7 := fun_mk (st := sHowMany) l7 c7 k7
  have F8 := fun_mk (st := sWithout) l8 c8 k8
  have F9 := fun_mk (st := sBegun) l9 c9 k9
  have F10 := fun_mk (st := sNumberOf) l10 c10 k10
  have F11 := fun_mk (st := sNextN) l11 c11 k11
  have F12 := fun_mk (st := sWordAt) l12 c12 k12
  have F13 := fun_mk (st := sCell) l13 c13 k13
  have F14 := fun_mk (st := sWhole) l14 c14 k14
  have F15 := fun_mk (st := sGroveBy) l15 c15 k15
  have F16 := fun_mk (st := sWordT) l16 c16 k16
  have F17 := fun_mk (st := sWords) l17 c17 k17
  have F18 := fun_mk (st := sIsWord) l18 c18 k18
  have F19 := fun_mk (st := sNodes) l19 c19 k19
  have F20 := fun_mk (st := sNumbers) l20 c20 k20
  have F21 := fun_mk (st := sCounts) l21 c21 k21
  have F22 := fun_mk (st := sLaw) l22 c22 k22
  have b1 := F1.binds (ps := ["numbers"]) fun _ _ _ _ _ _ us hl => match us, hl with | [_], _ => rfl
  have b2 := F2.binds (ps := ["word"]) fun _ _ _ _ _ _ us hl => match us, hl with | [_], _ => rfl
  have b3 := F3.binds (ps := ["word"]) fun _ _ _ _ _ _ us hl => match us, hl with | [_], _ => rfl
  have b4 := F4.binds (ps := ["counts"]) fun _ _ _ _ _ _ us hl => match us, hl with | [_], _ => rfl
  have b5 := F5.binds (ps := ["number"]) fun _ _ _ _ _ _ us hl => match us, hl with | [_], _ => rfl
  have b6 := F6.binds (ps := ["counts"]) fun _ _ _ _ _ _ us hl => match us, hl with | [_], _ => rfl
  have b7 := F7.binds (ps := ["counts"]) fun _ _ _ _ _ _ us hl => match us, hl with | [_], _ => rfl
  have b8 := F8.binds (ps := ["counts", "number"]) fun _ _ _ _ _ _ us hl => match us, hl with | [_, _], _ => rfl
  have b9 := F9.binds (ps := ["left", "number"]) fun _ _ _ _ _ _ us hl => match us, hl with | [_, _], _ => rfl
  have b10 := F10.binds (ps := ["word"]) fun _ _ _ _ _ _ us hl => match us, hl with | [_], _ => rfl
  have b11 := F11.binds (ps := ["left", "ahead"]) fun _ _ _ _ _ _ us hl => match us, hl with | [_, _], _ => rfl
  have b12 := F12.binds (ps := ["counts", "number"]) fun _ _ _ _ _ _ us hl => match us, hl with | [_, _], _ => rfl
  have b13 := F13.binds (ps := ["script", "k"]) fun _ _ _ _ _ _ us hl => match us, hl with | [_, _], _ => rfl
  have b14 := F14.binds (ps := ["found"]) fun _ _ _ _ _ _ us hl => match us, hl with | [_], _ => rfl
  have b15 := F15.binds (ps := ["script", "first", "nodes", "roots"]) fun _ _ _ _ _ _ us hl => match us, hl with | [_, _, _, _], _ => rfl
  have b16 := F16.binds (ps := ["tree"]) fun _ _ _ _ _ _ us hl => match us, hl with | [_], _ => rfl
  have b17 := F17.binds (ps := ["grove"]) fun _ _ _ _ _ _ us hl => match us, hl with | [_], _ => rfl
  have b18 := F18.binds (ps := ["numbers"]) fun _ _ _ _ _ _ us hl => match us, hl with | [_], _ => rfl
  have b19 := F19.binds (ps := ["script"]) fun _ _ _ _ _ _ us hl => match us, hl with | [_], _ => rfl
  have b20 := F20.binds (ps := ["found", "due"]) fun _ _ _ _ _ _ us hl => match us, hl with | [_, _], _ => rfl
  have b21 := F21.binds (ps := ["word"]) fun _ _ _ _ _ _ us hl => match us, hl with | [_], _ => rfl
  refine ⟨PySem.W.fnOf "law" "law" (defArgs sLaw) (defBody sLaw) (defScope sLaw) .none kV22 dc22 pm22 an22 cd22 ct22, fun s v => .of_eq rfl, fun base _ _ => ?_⟩
  have B1 : Fn l.prog w K mg base "is_word" ["numbers"] 1 (spIsWord K) := ⟨_, _, ok_iswordP F1 T, b1, k1, PySem.W.mg_of X G a1⟩
  have N1 := B1.mono (k := 120) (by decide)
  have B2 : Fn l.prog w K mg base "check_word" ["word"] 2 (spCheckW K cW) := ⟨_, _, ok_checkW F2 ZNoWord B1, b2, k2, PySem.W.mg_of X G a2⟩
  have N2 := B2.mono (k := 120) (by decide)
  have B3 : Fn l.prog w K mg base "counts_of" ["word"] 3 (spCountsOf K cW) := ⟨_, _, ok_countsof F3 T B2, b3, k3, PySem.W.mg_of X G a3⟩
  have N3 := B3.mono (k := 120) (by decide)
  have B4 : Fn l.prog w K mg base "trees_of" ["counts"] 1 (spTreesOf K) := ⟨_, _, ok_treesof F4 T, b4, k4, PySem.W.mg_of X G a4⟩
  have N4 := B4.mono (k := 120) (by decide)
  have B5 : Fn l.prog w K mg base "product_to" ["number"] 1 (spProdTo) := ⟨_, _, ok_prodto F5 T, b5, k5, PySem.W.mg_of X G a5⟩
  have N5 := B5.mono (k := 120) (by decide)
  have B6 : Fn l.prog w K mg base "lists_with" ["counts"] 2 (spListsWith K) := ⟨_, _, ok_listswith F6 T B5, b6, k6, PySem.W.mg_of X G a6⟩
  have N6 := B6.mono (k := 120) (by decide)
  have B7 : Fn l.prog w K mg base "how_many" ["counts"] 3 (spHowMany K) := ⟨_, _, ok_howmany F7 T B4 B6, b7, k7, PySem.W.mg_of X G a7⟩
  have N7 := B7.mono (k := 120) (by decide)
  have B8 : Fn l.prog w K mg base "without" ["counts", "number"] 1 (spWithout K) := ⟨_, _, ok_without F8 , b8, k8, PySem.W.mg_of X G a8⟩
  have N8 := B8.mono (k := 120) (by decide)
  have B9 : Fn l.prog w K mg base "begun_with" ["left", "number"] 4 (spBegun K) := ⟨_, _, ok_begun F9 T B8 B7, b9, k9, PySem.W.mg_of X G a9⟩
  have N9 := B9.mono (k := 120) (by decide)
  have B10 : Fn l.prog w K mg base "number_of" ["word"] 5 (spNumberOf K cW) := ⟨_, _, ok_numberof F10 T B3 B9 B8, b10, k10, PySem.W.mg_of X G a10⟩
  have N10 := B10.mono (k := 120) (by decide)
  have B11 : Fn l.prog w K mg base "next_number" ["left", "ahead"] 5 (spNextN K) := ⟨_, _, ok_nextn F11 B9, b11, k11, PySem.W.mg_of X G a11⟩
  have N11 := B11.mono (k := 120) (by decide)
  have B12 : Fn l.prog w K mg base "word_at" ["counts", "number"] 6 (spWordAt K cS) := ⟨_, _, ok_wordat F12 T ZNoSuch B7 B11 B8, b12, k12, PySem.W.mg_of X G a12⟩
  have N12 := B12.mono (k := 120) (by decide)
  have N13 : Fn l.prog w K mg base "_law_cell_at" ["script", "k"] 1 (spCell K) := ⟨_, _, ok_cell F13 T, b13, k13, PySem.W.mg_of X G a13⟩
  have N14 : Fn l.prog w K mg base "_law_whole" ["found"] 1 (spWhole K) := ⟨_, _, ok_whole F14 T, b14, k14, PySem.W.mg_of X G a14⟩
  have N15 : Fn l.prog w K mg base "_law_grove_by" ["script", "first", "nodes", "roots"] 2 (spGroveBy K) := ⟨_, _, ok_groveby F15 T N13, b15, k15, PySem.W.mg_of X G a15⟩
  have R16 : ∀ d : Nat, Fn l.prog w K mg base "_law_word" ["tree"] (d + 1) (spWordT d) := by
    intro d
    induction d with
    | zero => exact ⟨_, _, ok_wordT0 F16, b16, k16, PySem.W.mg_of X G a16⟩
    | succ d ih => exact ⟨_, _, ok_wordT F16 T ih, b16, k16, PySem.W.mg_of X G a16⟩
  have N16 := R16 101
  have N17 : Fn l.prog w K mg base "_law_words" ["grove"] 103 (spWords) := ⟨_, _, ok_words F17 N16, b17, k17, PySem.W.mg_of X G a17⟩
  have N18 : Fn l.prog w K mg base "_law_is_word" ["numbers"] 1 (spIsWord K) := ⟨_, _, ok_isword F18 T, b18, k18, PySem.W.mg_of X G a18⟩
  have N19 : Fn l.prog w K mg base "_law_nodes" ["script"] 2 (spNodes K) := ⟨_, _, ok_nodes F19 N13, b19, k19, PySem.W.mg_of X G a19⟩
  have N20 : Fn l.prog w K mg base "_law_numbers" ["found", "due"] 2 (spNumbers K) := ⟨_, _, ok_numbers F20 T N14, b20, k20, PySem.W.mg_of X G a20⟩
  have N21 : Fn l.prog w K mg base "_law_counts" ["word"] 1 (spCounts K) := ⟨_, _, ok_counts F21 T, b21, k21, PySem.W.mg_of X G a21⟩
  exact ok_law F22 T N13 N19 N15 N17 N18 N21 N20 N14 N3 N7 N10 N12
theorem walk {l : PySem.W.OpenLaw} {q : Program} {loose : List Str} {XP : (Str → Option Value) → Heap → Prop} {YP : World → Heap → Prop} {d : DefRec} {K : Params → PySem.W.Frag} (hn : l.most = some 63) (hdf : d.params.defaults = [])
    (hY : ∀ (w : World) (h : Heap), YP w h → (K w.params).In h)
    (F : ∀ (w : World) (mg : Str → Option Value) (fa : Addr) (h : Heap), (K w.params).In h → h.Ns mainGlobals mg → mg d.name = some (.ref fa) →
      ∃ fd : FuncData, (∀ (s : Shared) (u : Value), BindsTo s fd ⟨[u], []⟩ [("script", u)]) ∧ ∀ base : Heap, (K w.params).In base → base.Ns mainGlobals mg → FnOk l.prog w (K w.params) mg base (CXf l.prog w) 121 fa fd ["script"] (spLaw (K w.params))) :
    PySem.W.WalkO q loose XP YP l.row.toRowW d [] (fun f vs => PySem.call f vs) :=
  L2.walk_of (n := 63) (k := 121) (x := "script") (CX := fun w => CXf l.prog w) (sp := fun w => spLaw (K w.params)) hn (by decide) hdf ⟨rfl, by decide, by decide⟩ hY F (fun _ _ a ns hl _ hS => ⟨a, ns, rfl, hS, hl, fun _ => rfl⟩) fun _ _ _ _ _ z => by
    obtain ⟨_, _, _, _, _, _, _, _, _, _, _, _, _, q⟩ := z
    exact q
end My
open PySem PySem.W PyProof.Rows
set_option maxRecDepth 100000 in
set_option maxHeartbeats 0 in
theorem PySem.Challenge.cw_turnrow_k10_words_and_their_numbers_holds : PySem.Challenge.rw_turnrow_k10_words_and_their_numbers.Holds := by
  w_on; o_law; k_head; (case hw => w_witness2)
  k_fill
  refine My.walk (l := PySem.Challenge.rw_turnrow_k10_words_and_their_numbers) rfl rfl (fun w h Y => PySem.W.kIn_of Y) ?F
  case F =>
    intro w mg fa h KX G hmg
    refine' My.all_mk KX G hmg ?a1 ?l1 ?c1 ?k1 ?a2 ?l2 ?c2 ?k2 ?a3 ?l3 ?c3 ?k3 ?a4 ?l4 ?c4 ?k4 ?a5 ?l5 ?c5 ?k5 ?a6 ?l6 ?c6 ?k6 ?a7 ?l7 ?c7 ?k7 ?a8 ?l8 ?c8 ?k8 ?a9 ?l9 ?c9 ?k9 ?a10 ?l10 ?c10 ?k10 ?a11 ?l11 ?c11 ?k11 ?a12 ?l12 ?c12 ?k12 ?a13 ?l13 ?c13 ?k13 ?a14 ?l14 ?c14 ?k14 ?a15 ?l15 ?c15 ?k15 ?a16 ?l16 ?c16 ?k16 ?a17 ?l17 ?c17 ?k17 ?a18 ?l18 ?c18 ?k18 ?a19 ?l19 ?c19 ?k19 ?a20 ?l20 ?c20 ?k20 ?a21 ?l21 ?c21 ?k21 ?a22 ?l22 ?c22 ?k22 ?z1 ?z2 ?z3 ?z4 ?z5 ?z6 ?z7 ?z8 ?z9 ?z10 ?z11 ?z12 ?z13 ?z14 ?z15 ?mNoWord ?mNoSuch ?xNoWord ?xNoSuch
    (case a1 => k_is)
    (case l1 => k_is)
    (case c1 => k_is)
    (case k1 => k_is)
    (case a2 => k_is)
    (case l2 => k_is)
    (case c2 => k_is)
    (case k2 => k_is)
    (case a3 => k_is)
    (case l3 => k_is)
    (case c3 => k_is)
    (case k3 => k_is)
    (case a4 => k_is)
    (case l4 => k_is)
    (case c4 => k_is)
    (case k4 => k_is)
    (case a5 => k_is)
    (case l5 => k_is)
    (case c5 => k_is)
    (case k5 => k_is)
    (case a6 => k_is)
    (case l6 => k_is)
    (case c6 => k_is)
    (case k6 => k_is)
    (case a7 => k_is)
    (case l7 => k_is)
    (case c7 => k_is)
    (case k7 => k_is)
    (case a8 => k_is)
    (case l8 => k_is)
    (case c8 => k_is)
    (case k8 => k_is)
    (case a9 => k_is)
    (case l9 => k_is)
    (case c9 => k_is)
    (case k9 => k_is)
    (case a10 => k_is)
    (case l10 => k_is)
    (case c10 => k_is)
    (case k10 => k_is)
    (case a11 => k_is)
    (case l11 => k_is)
    (case c11 => k_is)
    (case k11 => k_is)
    (case a12 => k_is)
    (case l12 => k_is)
    (case c12 => k_is)
    (case k12 => k_is)
    (case a13 => k_is)
    (case l13 => k_is)
    (case c13 => k_is)
    (case k13 => k_is)
    (case a14 => k_is)
    (case l14 => k_is)
    (case c14 => k_is)
    (case k14 => k_is)
    (case a15 => k_is)
    (case l15 => k_is)
    (case c15 => k_is)
    (case k15 => k_is)
    (case a16 => k_is)
    (case l16 => k_is)
    (case c16 => k_is)
    (case k16 => k_is)
    (case a17 => k_is)
    (case l17 => k_is)
    (case c17 => k_is)
    (case k17 => k_is)
    (case a18 => k_is)
    (case l18 => k_is)
    (case c18 => k_is)
    (case k18 => k_is)
    (case a19 => k_is)
    (case l19 => k_is)
    (case c19 => k_is)
    (case k19 => k_is)
    (case a20 => k_is)
    (case l20 => k_is)
    (case c20 => k_is)
    (case k20 => k_is)
    (case a21 => k_is)
    (case l21 => k_is)
    (case c21 => k_is)
    (case k21 => k_is)
    (case a22 => k_is)
    (case l22 => k_is)
    (case c22 => k_is)
    (case k22 => k_is)
    (case z1 => k_is)
    (case z2 => k_is)
    (case z3 => k_is)
    (case z4 => k_is)
    (case z5 => k_is)
    (case z6 => k_is)
    (case z7 => k_is)
    (case z8 => k_is)
    (case z9 => k_is)
    (case z10 => k_is)
    (case z11 => k_is)
    (case z12 => k_is)
    (case z13 => k_is)
    (case z14 => k_is)
    (case z15 => k_is)
    (case mNoWord => k_is)
    (case mNoSuch => k_is)
    (case xNoWord => k_exc)
    (case xNoSuch => k_exc)
