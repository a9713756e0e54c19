import PyProof.Rows.All
import Wide.All
import OpenK.AllK
import Wide.FinOn
import Lean
import PyProof.EqAt
import PyProof.EqKinds
import PyProof.TupleCall
import PySem.Challenge.RW_outlivers_k31_what_leaves_come_to
-- CHANGE: your row's module here, as the last of these rows
set_option Elab.async false
set_option linter.all false
set_option maxRecDepth 100000
/-! THE HAND LAYER, for ints, bools, texts, own classes, LISTS and tuples (index, slices, in, append, pop ..), calls, loops. Paste it whole ahead of your own text; what your proof does not reach may be deleted. -/
namespace L2
open PySem PySem.Spec PyProof.Rows

/-- a key: an int or a str -/
abbrev Key := Sum Int Str
def keyIs : Key → Value → Bool
  | .inl k, v => Value.isInt k v
  | .inr x, v => Value.isStrOf x v
def keyH (w : World) : Key → Int
  | .inl k => hashInt k
  | .inr x => hashStr w x
theorem keyIs_shape : ∀ {k : Key} {v : Value}, keyIs k v = true → (∃ i t, k = Sum.inl i ∧ v = Value.int i t) ∨ (∃ x t, k = Sum.inr x ∧ v = Value.str x t)
  | .inl i, v, h => by
    obtain ⟨t, e⟩ := Value.isInt_shape (k := i) (v := v) h
    exact .inl ⟨i, t, rfl, e⟩
  | .inr x, v, h => by
    obtain ⟨t, e⟩ := Value.isStrOf_shape (x := x) (v := v) h
    exact .inr ⟨x, t, rfl, e⟩
theorem keyIs_int (i : Int) (t : Tok) : keyIs (.inl i) (.int i t) = true := by simp [keyIs, Value.isInt]
theorem keyIs_str (x : Str) (t : Tok) : keyIs (.inr x) (.str x t) = true := by simp [keyIs, Value.isStrOf]
theorem key_ll (a b : Int) : decide ((Sum.inl a : Key) = Sum.inl b) = (a == b) := by
  by_cases e : a = b
  · subst e; simp
  · have h : ¬ (Sum.inl a : Key) = Sum.inl b := fun q => e (Sum.inl.inj q)
    rw [decide_eq_false h]
    exact (beq_eq_false_iff_ne.mpr e).symm
theorem key_rr (a b : Str) : decide ((Sum.inr a : Key) = Sum.inr b) = decide (a = b) := by
  by_cases e : a = b
  · subst e; simp
  · have h : ¬ (Sum.inr a : Key) = Sum.inr b := fun q => e (Sum.inr.inj q)
    rw [decide_eq_false h, decide_eq_false e]
theorem key_lr (a : Int) (b : Str) : decide ((Sum.inl a : Key) = Sum.inr b) = false := decide_eq_false (fun q => nomatch q)
theorem key_rl (a : Str) (b : Int) : decide ((Sum.inr a : Key) = Sum.inl b) = false := decide_eq_false (fun q => nomatch q)

def mixKind (prog : Program) (w : World) : PySem.KeyKind prog w Key where
  is := keyIs
  hash := keyH w
  inj := fun v a b ha hb => by
    rcases keyIs_shape ha with ⟨i, t, rfl, rfl⟩ | ⟨x, t, rfl, rfl⟩
    · rcases keyIs_shape hb with ⟨j, u, rfl, e⟩ | ⟨y, u, rfl, e⟩
      · injection e with e1 _; rw [e1]
      · exact nomatch e
    · rcases keyIs_shape hb with ⟨j, u, rfl, e⟩ | ⟨y, u, rfl, e⟩
      · exact nomatch e
      · injection e with e1 _; rw [e1]
  byValue := fun k v h => by
    rcases keyIs_shape h with ⟨i, t, rfl, rfl⟩ | ⟨x, t, rfl, rfl⟩ <;> rfl
  pyHash := fun hv h => by
    rcases keyIs_shape hv with ⟨i, t, rfl, rfl⟩ | ⟨x, t, rfl, rfl⟩
    · exact wpAny_pyHash_int h
    · exact wpAny_pyHash_str h
  eqBool := fun hu hv h => by
    rcases keyIs_shape hu with ⟨i, t, rfl, rfl⟩ | ⟨x, t, rfl, rfl⟩
    · rcases keyIs_shape hv with ⟨j, u, rfl, rfl⟩ | ⟨y, u, rfl, rfl⟩
      · rw [key_ll] at h; exact wpAny_eqBool_int h
      · rw [key_lr] at h; exact SeqAt.EqAt.int_str i t y u _ _ _ _ h
    · rcases keyIs_shape hv with ⟨j, u, rfl, rfl⟩ | ⟨y, u, rfl, rfl⟩
      · rw [key_rl] at h; exact SeqAt.EqAt.str_int x t j u _ _ _ _ h
      · rw [key_rr] at h; exact wpAny_eqBool_str h
  «strs» := fun k x t v h => by
    rcases keyIs_shape h with ⟨i, u, rfl, e⟩ | ⟨y, u, rfl, e⟩
    · exact nomatch e
    · injection e with e1 _
      subst e1
      cases v <;> rfl

theorem mixKind_is (prog : Program) (w : World) (k : Key) (v : Value) : (mixKind prog w).is k v = keyIs k v := rfl
theorem mixKind_int (prog : Program) (w : World) (i : Int) (t : Tok) : (mixKind prog w).is (.inl i) (.int i t) = true := keyIs_int i t
theorem mixKind_str (prog : Program) (w : World) (x : Str) (t : Tok) : (mixKind prog w).is (.inr x) (.str x t) = true := keyIs_str x t
end L2

namespace L2
open PySem PySem.Spec PyProof.Rows

/-- a value, without the heap -/
inductive V where
  | non | bl (b : Bool) | int (i : Int) | str (x : Str) | byt (b : Array UInt8) | flt (b : UInt64) | ref (a : Addr) | ty (n : String)
  deriving DecidableEq

def RelV : V → Value → Prop
  | .non, u => u = Value.none
  | .bl b, u => u = Value.bool b
  | .int i, u => ∃ t, u = Value.int i t
  | .str x, u => ∃ t, u = Value.str x t
  | .byt b, u => ∃ t, u = Value.bytes b t
  | .flt b, u => ∃ t, u = Value.float b t
  | .ref a, u => u = Value.ref a
  | .ty n, u => u = Value.type n

abbrev Vals : List V → List Value → Prop := Paired RelV
theorem Vals.length {xs : List V} {us : List Value} (r : Vals xs us) : xs.length = us.length := Paired.length r
theorem Vals.get : ∀ {xs : List V} {us : List Value} {i : Nat} {x : V}, Vals xs us → xs[i]? = some x → ∃ u, us[i]? = some u ∧ RelV x u
  | _, _, _, _, .nil, e => by simp at e
  | _, _, 0, _, .cons r _, e => by simp at e; subst e; exact ⟨_, rfl, r⟩
  | _, _, i + 1, x, .cons _ t, e => by
    obtain ⟨u, h1, h2⟩ := Vals.get (i := i) (x := x) t (by simpa using e)
    exact ⟨u, by simpa using h1, h2⟩
theorem Vals.set {x : V} {u : Value} (r : RelV x u) : ∀ {xs : List V} {us : List Value} (i : Nat), Vals xs us → Vals (xs.set i x) (us.set i u)
  | _, _, _, .nil => .nil
  | _, _, 0, .cons _ t => .cons r t
  | _, _, i + 1, .cons q t => .cons q (Vals.set r i t)
theorem Vals.append : ∀ {xs ys : List V} {us ws : List Value}, Vals xs us → Vals ys ws → Vals (xs ++ ys) (us ++ ws)
  | _, _, _, _, .nil, s => s
  | _, _, _, _, .cons r t, s => .cons r (Vals.append t s)
theorem Vals.take : ∀ {xs : List V} {us : List Value} (n : Nat), Vals xs us → Vals (xs.take n) (us.take n)
  | _, _, 0, _ => .nil
  | _, _, _ + 1, .nil => .nil
  | _, _, n + 1, .cons r t => .cons r (Vals.take n t)
theorem Vals.drop : ∀ {xs : List V} {us : List Value} (n : Nat), Vals xs us → Vals (xs.drop n) (us.drop n)
  | _, _, 0, r => r
  | _, _, _ + 1, .nil => .nil
  | _, _, n + 1, .cons _ t => Vals.drop n t
theorem Vals.none_of : ∀ {xs : List V} {us : List Value} {i : Nat}, Vals xs us → xs[i]? = none → us[i]? = none := fun {xs us i} r e => by
  have h1 := r.length
  have h2 : xs.length ≤ i := List.getElem?_eq_none_iff.mp e
  exact List.getElem?_eq_none_iff.mpr (by omega)

def RelO : Option V → Option Value → Prop
  | some v, some u => RelV v u
  | none, none => True
  | _, _ => False
def KV {κ : Type} : List (κ × V) → List (κ × Value) → Prop := Paired fun (p : κ × V) (q : κ × Value) => p.1 = q.1 ∧ RelV p.2 q.2

/-- a key of a dict (00_mix): an int or a text -/
def kV : Key → V
  | .inl i => .int i
  | .inr x => .str x

/-- what stands at a tracked address -/
inductive HO where
  /-- a list -/
  | lst (xs : List V)
  /-- a tuple (never changes) -/
  | tup (xs : List V)
  /-- a dict whose keys are ints and texts; one whose keys are tuples of ints and texts (the empty one is both) -/
  | dK (kvs : List (Key × V)) | dT (kvs : List (List Key × V))
  /-- a set of ints: its members, its size -/
  | set (S : Int → Bool) (n : Nat)
  /-- an instance of the class at C, its dict at dx, its attributes -/
  | ins (C dx : Addr) (fs : List (Str × V))
  /-- the dict of the instance at x -/
  | own (x : Addr)
  /-- the dict of an exception -/
  | xd (fs : List (Str × V))
  /-- a bound method, f of x -/
  | met (f x : Addr)
  /-- a range object lo, lo + 1, .. below hi -/
  | rng (lo hi : Int)
  /-- a thing that is known to the object (the script; a dict while a loop walks it): read, never written while it is so -/
  | frz (o : Obj) (u : HO)
  /-- a code object's table -/
  | tbl (ps : Array Value)
  /-- any other thing, by what is true of its one object (a def of one's own: SetO a S n := HO.ext fun h => ..) -/
  | ext (φ : Heap → Prop)

abbrev Hp := Addr → Option HO
def upd (H : Hp) (a : Addr) (o : HO) : Hp := fun b => if b = a then some o else H b
theorem upd_same {H : Hp} {a : Addr} {o : HO} : upd H a o a = some o := by unfold upd; rw [if_pos rfl]
theorem upd_ne {H : Hp} {a b : Addr} {o : HO} (h : b ≠ a) : upd H a o b = H b := by unfold upd; rw [if_neg h]
theorem upd_upd {H : Hp} {a : Addr} {o u : HO} : upd (upd H a o) a u = upd H a u := by
  funext b; unfold upd; split <;> rfl
/-- two objects of different content stand apart -/
theorem ne_of {H : Hp} {a b : Addr} {o u : HO} (h : H a = some o) (h' : H b = some u) (d : o ≠ u) : a ≠ b := by
  intro e; subst e; rw [h] at h'; exact d (Option.some.inj h')
theorem ne_of_none {H : Hp} {a b : Addr} {o : HO} (h : H a = some o) (h' : H b = none) : a ≠ b := by
  intro e; subst e; rw [h] at h'; cases h'

section
variable (P : Program) (w : World)
def ObjOk (H : Hp) (h : Heap) (a : Addr) : HO → Prop
  | .lst xs => xs.length ≤ sizeLine ∧ ∃ (its : List Value) (n : Nat), Vals xs its ∧ h.get? a = some { cls := .type "list", data := .seq its.toArray n }
  | .tup xs => xs.length ≤ sizeLine ∧ ∃ its : List Value, Vals xs its ∧ IsTup h a its.toArray
  | .dK kvs => kvs.length ≤ sizeLine ∧ (a == sysModules) = false ∧ ∃ vs, KV kvs vs ∧ h.DictOf (mixKind P w) a vs
  | .dT kvs => kvs.length ≤ sizeLine ∧ (a == sysModules) = false ∧ ∃ xs : List (List Key × Addr × Value),
      Paired (fun (p : List Key × V) (q : List Key × Addr × Value) => p.1 = q.1 ∧ H q.2.1 = some (.tup (p.1.map kV)) ∧ RelV p.2 q.2.2) kvs xs ∧
      ∃ o es ep, h.get? a = some o ∧ o.ExactDict ∧ o.data = .dict es ep ∧ es.toList = xs.map (entryOfKey (tupleKind (mixKind P w))) ∧ (xs.map (·.1)).Nodup
  | .set S n => h.SetOf (intKind P w) a S n
  | .ins C dx fs => H dx = some (.own a) ∧ fs.length ≤ 1000 ∧ dx ≠ a ∧ h.get? a = some (PySem.W.instObj C dx) ∧
      ∃ mA, h.Ns1 dx mA ∧ (∀ f, RelO (fs.lookup f) (mA f)) ∧ PySem.Within mA (fs.map (·.1))
  | .own _ => ∃ o, h.get? a = some o
  | .xd fs => ∃ mA, h.Ns1 a mA ∧ ∀ f, RelO (fs.lookup f) (mA f)
  | .rng lo hi => ∃ t u v, h.get? a = some { cls := .type "range", data := .fields #[.int lo t, .int hi u, .int 1 v] }
  | .frz o u => h.get? a = some o ∧ ObjOk H h a u
  | .tbl ps => h.get? a = some { cls := .none, data := .fields ps }
  | .met f x => h.get? a = some (PySem.W.methodObj (.ref f) (.ref x))
  | .ext φ => φ h ∧ (∃ o, h.get? a = some o) ∧ ∀ h1 h2 : Heap, φ h1 → (∀ o, h1.get? a = some o → h2.get? a = some o) → φ h2
/-- the abstract heap is held -/
def HOk (H : Hp) (h : Heap) : Prop := ∀ a o, H a = some o → ObjOk P w H h a o
end

section
variable {P : Program} {w : World} {H H' : Hp} {h h' : Heap} {a : Addr} {o : HO}
theorem ObjOk.lt (x : ObjOk P w H h a o) : a < h.objs.size := by
  cases o with
  | lst xs => obtain ⟨_, _, _, _, e⟩ := x; exact Heap.lt_size e
  | tup xs => obtain ⟨_, _, _, p⟩ := x; exact p.lt
  | dK kvs => obtain ⟨_, _, _, _, o, _, _, e, _⟩ := x; exact Heap.lt_size e
  | dT kvs => obtain ⟨_, _, _, _, o, _, _, e, _⟩ := x; exact Heap.lt_size e
  | set S n => obtain ⟨o, _, _, _, e, _⟩ := x; exact Heap.lt_size e
  | ins C dx fs => obtain ⟨_, _, _, e, _⟩ := x; exact Heap.lt_size e
  | own y => obtain ⟨_, e⟩ := x; exact Heap.lt_size e
  | xd fs => obtain ⟨_, ⟨_, _, _, e, _⟩, _⟩ := x; exact Heap.lt_size e
  | rng lo hi => obtain ⟨_, _, _, e⟩ := x; exact Heap.lt_size e
  | frz ob u => obtain ⟨e, _⟩ := x; exact Heap.lt_size e
  | tbl ps => exact Heap.lt_size (show h.get? a = some _ from x)
  | met f y => exact Heap.lt_size (show h.get? a = some _ from x)
  | ext φ => obtain ⟨_, ⟨_, e⟩, _⟩ := x; exact Heap.lt_size e
theorem Paired.mapP {α β : Type} {F G : α → β → Prop} : ∀ {l₁ : List α} {l₂ : List β}, Paired F l₁ l₂ → (∀ a b, F a b → G a b) → Paired G l₁ l₂
  | _, _, .nil, _ => .nil
  | _, _, .cons r t, f => .cons (f _ _ r) (Paired.mapP t f)
theorem Paired.imp' {α β : Type} {F G : α → β → Prop} (f : ∀ a b, F a b → G a b) {l₁ : List α} {l₂ : List β} (r : Paired F l₁ l₂) : Paired G l₁ l₂ := Paired.mapP r f
/-- what an object's description leans on: its own object, its own dict, the tuples -/
theorem ObjOk.stay (x : ObjOk P w H h a o) (k : ∀ b u, (b = a ∨ H b = some (.own a)) → h.get? b = some u → h'.get? b = some u)
    (ho : ∀ b, H b = some (.own a) → H' b = some (.own a)) (ht : ∀ b xs, H b = some (.tup xs) → H' b = some (.tup xs)) : ObjOk P w H' h' a o := by
  induction o with
  | lst xs => obtain ⟨z, its, n, r, e⟩ := x; exact ⟨z, its, n, r, k _ _ (.inl rfl) e⟩
  | tup xs => obtain ⟨z, its, r, ob, e, c⟩ := x; exact ⟨z, its, r, ob, k _ _ (.inl rfl) e, c⟩
  | dK kvs => obtain ⟨z, y, vs, r, ob, es, ep, e, c⟩ := x; exact ⟨z, y, vs, r, ob, es, ep, k _ _ (.inl rfl) e, c⟩
  | dT kvs =>
    obtain ⟨z, y, xs, r, ob, es, ep, e, c⟩ := x
    exact ⟨z, y, xs, Paired.mapP r fun p q z => ⟨z.1, ht _ _ z.2.1, z.2.2⟩, ob, es, ep, k _ _ (.inl rfl) e, c⟩
  | set S n => obtain ⟨ob, es, ep, t, e, c⟩ := x; exact ⟨ob, es, ep, t, k _ _ (.inl rfl) e, c⟩
  | ins C dx fs =>
    obtain ⟨d, z, ne, e, mA, ⟨od, es, ep, e2, c⟩, r⟩ := x
    exact ⟨ho _ d, z, ne, k _ _ (.inl rfl) e, mA, ⟨od, es, ep, k _ _ (.inr d) e2, c⟩, r⟩
  | own y => obtain ⟨ob, e⟩ := x; exact ⟨ob, k _ _ (.inl rfl) e⟩
  | xd fs => obtain ⟨mA, ⟨od, es, ep, e, c⟩, r⟩ := x; exact ⟨mA, ⟨od, es, ep, k _ _ (.inl rfl) e, c⟩, r⟩
  | rng lo hi => obtain ⟨t, u, v, e⟩ := x; exact ⟨t, u, v, k _ _ (.inl rfl) e⟩
  | frz ob u ih => obtain ⟨e, q⟩ := x; exact ⟨k _ _ (.inl rfl) e, ih q⟩
  | tbl ps =>
    have e : h.get? a = some { cls := .none, data := .fields ps } := x
    show h'.get? a = some { cls := .none, data := .fields ps }
    exact k a _ (.inl rfl) e
  | met f y =>
    have e : h.get? a = some (PySem.W.methodObj (.ref f) (.ref y)) := x
    show h'.get? a = some (PySem.W.methodObj (.ref f) (.ref y))
    exact k a _ (.inl rfl) e
  | ext φ => obtain ⟨p, ⟨o, e⟩, st⟩ := x; exact ⟨st _ _ p fun o q => k _ _ (.inl rfl) q, ⟨o, k _ _ (.inl rfl) e⟩, st⟩
theorem HOk.lt (x : HOk P w H h) (e : H a = some o) : a < h.objs.size := (x a o e).lt
theorem HOk.fresh (x : HOk P w H h) (e : h.objs.size ≤ a) : H a = none := by
  cases q : H a with
  | none => rfl
  | some u => exact absurd (Nat.lt_of_lt_of_le (x.lt q) e) (Nat.lt_irrefl _)
/-- every object of the heap is kept -/
theorem HOk.kept (x : HOk P w H h) (k : ∀ b u, h.get? b = some u → h'.get? b = some u) : HOk P w H h' := fun a o e =>
  (x a o e).stay (fun b u _ q => k b u q) (fun _ q => q) fun _ _ q => q
/-- a new object is laid and tracked -/
theorem HOk.laid (x : HOk P w H h) (k : ∀ b u, h.get? b = some u → h'.get? b = some u) (hp : h.objs.size ≤ a) (new : ObjOk P w (upd H a o) h' a o) : HOk P w (upd H a o) h' := fun b u e => by
  have hn := x.fresh hp
  by_cases hb : b = a
  · subst hb; rw [upd_same] at e; cases e; exact new
  · rw [upd_ne hb] at e
    exact (x b u e).stay (fun c v _ q => k c v q) (fun c q => by rw [upd_ne (ne_of_none q hn)]; exact q) fun c xs q => by rw [upd_ne (ne_of_none q hn)]; exact q
end

/-- what may be read as u: it is u, or a known u -/
def Rd (H : Hp) (a : Addr) (u : HO) : Prop := H a = some u ∨ ∃ o, H a = some (.frz o u)
theorem Rd.of {H : Hp} {a : Addr} {u : HO} (h : H a = some u) : Rd H a u := .inl h
theorem Rd.ok {P : Program} {w : World} {H : Hp} {h : Heap} {a : Addr} {u : HO} (r : Rd H a u) (x : HOk P w H h) : ObjOk P w H h a u := by
  rcases r with r | ⟨o, r⟩
  · exact x a u r
  · obtain ⟨_, q⟩ := x a _ r
    exact q
/-- what may be written -/
def Mut : Option HO → Prop
  | some (.lst _) => True
  | some (.dK _) => True
  | some (.dT _) => True
  | some (.set _ _) => True
  | some (.ins _ _ _) => True
  | some (.ext _) => True
  | _ => False
section
variable {P : Program} {w : World} {H : Hp} {h h' : Heap} {x e : Addr} {o' : HO}
/-- the object at e is changed: x itself, or the dict of the instance x -/
theorem HOk.write (ok : HOk P w H h) (mu : Mut (H x)) (he : e = x ∨ H e = some (.own x)) (k : ∀ b u, b ≠ e → h.get? b = some u → h'.get? b = some u) (heo : ∃ u, h'.get? e = some u)
    (new : ObjOk P w (upd H x o') h' x o') : HOk P w (upd H x o') h' := fun b u q => by
  have nown : ∀ c y, H c = some (.own y) → c ≠ x := fun c y r z => by subst z; rw [r] at mu; exact mu
  have ntup : ∀ c xs, H c = some (.tup xs) → c ≠ x := fun c xs r z => by subst z; rw [r] at mu; exact mu
  by_cases hb : b = x
  · subst hb; rw [upd_same] at q; cases q; exact new
  · rw [upd_ne hb] at q
    by_cases hbe : b = e
    · have q' : H b = some (.own x) := by
        rcases he with z | z
        · exact absurd (hbe.trans z) hb
        · rw [hbe]; exact z
      rw [q] at q'; cases q'
      obtain ⟨v, hv⟩ := heo
      exact ⟨v, by rw [hbe]; exact hv⟩
    · refine (ok b u q).stay (fun c v hc r => k c v ?_ r) (fun c r => by rw [upd_ne (nown c b r)]; exact r) fun c xs r => by rw [upd_ne (ntup c xs r)]; exact r
      rcases hc with rfl | hc
      · exact hbe
      · rintro rfl
        rcases he with z | z
        · exact nown c b hc z
        · rw [hc] at z; cases z; exact hb rfl
end

/-! ### kept unless tracked; of the frames at fs (the callers') the slots may change (an exception that passes writes there); of the records at ex (iterators) nothing is said -/
structure Un (fs ex : List Addr) (H H' : Hp) (h h' : Heap) : Prop where
  keep : ∀ b o, h.get? b = some o → H b = none → b ∉ fs → b ∉ ex → h'.get? b = some o
  slot : ∀ b o, h.get? b = some o → H b = none → b ∈ fs → b ∉ ex → ∃ sl, h'.get? b = some { o with slots := sl }
  free : ∀ b o, h.get? b = some o → H b = none → b ∉ ex → H' b = none
  there : ∀ b o, h.get? b = some o → b ∉ ex → ∃ o', h'.get? b = some o'
  tups : ∀ b xs, H b = some (.tup xs) → H' b = some (.tup xs)
  frzs : ∀ b o u, H b = some (.frz o u) → H' b = some (.frz o u)
  tbls : ∀ b ps, H b = some (.tbl ps) → ∃ more, H' b = some (.tbl (ps ++ more))
section
variable {fs fs' ex ex' : List Addr} {H H1 H2 : Hp} {h h1 h2 h' : Heap} {a x e : Addr} {o : HO}
theorem Un.any (u : Un fs ex H H1 h h1) {b : Addr} {ob : Obj} (q : h.get? b = some ob) (n : H b = none) (hx : b ∉ ex) : ∃ sl, h1.get? b = some { ob with slots := sl } := by
  by_cases hb : b ∈ fs
  · exact u.slot b ob q n hb hx
  · exact ⟨ob.slots, u.keep b ob q n hb hx⟩
theorem Un.trans (a : Un fs ex H H1 h h1) (b : Un fs ex H1 H2 h1 h2) : Un fs ex H H2 h h2 where
  keep := fun c ob q n hc hx => b.keep c ob (a.keep c ob q n hc hx) (a.free c ob q n hx) hc hx
  slot := fun c ob q n hc hx => by
    obtain ⟨sl, e1⟩ := a.slot c ob q n hc hx
    obtain ⟨sl', e2⟩ := b.slot c _ e1 (a.free c ob q n hx) hc hx
    exact ⟨sl', e2⟩
  free := fun c ob q n hx => by
    obtain ⟨o', e1⟩ := a.there c ob q hx
    exact b.free c o' e1 (a.free c ob q n hx) hx
  there := fun c ob q hx => by
    obtain ⟨o', e1⟩ := a.there c ob q hx
    exact b.there c o' e1 hx
  tups := fun c xs q => b.tups c xs (a.tups c xs q)
  frzs := fun c ob xs q => b.frzs c ob xs (a.frzs c ob xs q)
  tbls := fun c ps q => by
    obtain ⟨m1, e1⟩ := a.tbls c ps q
    obtain ⟨m2, e2⟩ := b.tbls c _ e1
    exact ⟨m1 ++ m2, by rw [e2, Array.append_assoc]⟩
theorem Un.kept (k : ∀ b u, h.get? b = some u → h'.get? b = some u) : Un fs ex H H h h' :=
  ⟨fun b ob q _ _ _ => k b ob q, fun b ob q _ _ _ => ⟨ob.slots, k b ob q⟩, fun _ _ _ n _ => n, fun b ob q _ => ⟨ob, k b ob q⟩, fun _ _ q => q, fun _ _ _ q => q, fun _ ps q => ⟨#[], by rw [q]; simp⟩⟩
theorem Un.refl : Un fs ex H H h h := Un.kept fun _ _ q => q
theorem Un.laid (k : ∀ b u, h.get? b = some u → h'.get? b = some u) (hp : h.objs.size ≤ a) (hn : H a = none) : Un fs ex H (upd H a o) h h' where
  keep := fun b u q _ _ _ => k b u q
  slot := fun b u q _ _ _ => ⟨u.slots, k b u q⟩
  free := fun b u q n _ => by rw [upd_ne (Nat.ne_of_lt (Nat.lt_of_lt_of_le (Heap.lt_size q) hp))]; exact n
  there := fun b u q _ => ⟨u, k b u q⟩
  tups := fun b xs q => by rw [upd_ne (ne_of_none q hn)]; exact q
  frzs := fun b u xs q => by rw [upd_ne (ne_of_none q hn)]; exact q
  tbls := fun b ps q => ⟨#[], by rw [upd_ne (ne_of_none q hn), q]; simp⟩
theorem Un.write (mu : Mut (H x)) (he : e = x ∨ H e = some (.own x)) (k : ∀ b u, b ≠ e → h.get? b = some u → h'.get? b = some u) (heo : ∃ u, h'.get? e = some u) : Un fs ex H (upd H x o) h h' := by
  have hx : ∀ b, H b = none → b ≠ x := fun b n z => by subst z; rw [n] at mu; exact mu
  have hb : ∀ b, H b = none → b ≠ e := fun b n z => by
    subst z
    rcases he with r | r
    · exact hx b n r
    · rw [n] at r; cases r
  have hm : ∀ b u, H b = some u → ¬ Mut (some u) → b ≠ x := fun b u q nm z => by subst z; rw [q] at mu; exact nm mu
  refine ⟨fun b u q n _ _ => k b u (hb b n) q, fun b u q n _ _ => ⟨u.slots, k b u (hb b n) q⟩, fun b u q n _ => by rw [upd_ne (hx b n)]; exact n, fun b u q _ => ?_,
    fun b xs q => by rw [upd_ne (hm b _ q fun z => z)]; exact q, fun b u xs q => by rw [upd_ne (hm b _ q fun z => z)]; exact q, fun b ps q => ⟨#[], by rw [upd_ne (hm b _ q fun z => z), q]; simp⟩⟩
  by_cases hbe : b = e
  · subst hbe; exact heo
  · exact ⟨u, k b u hbe q⟩
theorem Un.mono (u : Un fs ex H H1 h h1) (hs : ∀ b ∈ fs, b ∈ fs') (hx : ∀ b ∈ ex, b ∈ ex') : Un fs' ex' H H1 h h1 :=
  ⟨fun b ob q n hb he => u.keep b ob q n (fun z => hb (hs b z)) fun z => he (hx b z), fun _ _ q n _ he => u.any q n fun z => he (hx _ z), fun b ob q n he => u.free b ob q n fun z => he (hx b z), fun b ob q he => u.there b ob q fun z => he (hx b z), u.tups, u.frzs, u.tbls⟩
end

/-! ### the heap without what is tracked -/
def trk (h : Heap) (H : Hp) : List Addr := (List.range h.objs.size).filter fun a => (H a).isSome
def hidT (h : Heap) (H : Hp) : Heap := PySem.W.hideAll h (trk h H)
theorem hidT_size (h : Heap) (H : Hp) : (hidT h H).objs.size = h.objs.size := PySem.W.hideAll_size _ _
theorem hidT_get {h : Heap} {H : Hp} {b : Addr} {o : Obj} (e : h.get? b = some o) (n : H b = none) : (hidT h H).get? b = some o :=
  PySem.W.hideAll_get _ e fun hm => by
    have q : (H b).isSome = true := (List.mem_filter.mp hm).2
    rw [n] at q; simp at q
theorem of_hidT {h : Heap} {H : Hp} {b : Addr} {o : Obj} (e : (hidT h H).get? b = some o) : h.get? b = some o ∧ H b = none := by
  have e' : h.get? b = some o := PySem.W.of_hideAll (trk h H) e
  refine ⟨e', ?_⟩
  cases q : H b with
  | none => rfl
  | some x =>
    have hm : b ∈ trk h H := List.mem_filter.mpr ⟨List.mem_range.mpr (Heap.lt_size e'), by simp [q]⟩
    have z : (hidT h H).get? b = none := PySem.W.hideAll_none (trk h H) hm
    rw [z] at e; cases e

/-! ### OpenK's ledger, filled with every new object but one -/
def allNews (g h : Heap) (L : Addr) : List (Addr × Obj) := (List.range h.objs.size).filterMap fun a => if a = L ∨ (g.get? a).isSome = true then none else (h.get? a).map fun o => (a, o)
theorem mem_allNews {g h : Heap} {L a : Addr} {o : Obj} (h1 : a ≠ L) (h2 : g.get? a = none) (h3 : h.get? a = some o) : (a, o) ∈ allNews g h L :=
  List.mem_filterMap.mpr ⟨a, List.mem_range.mpr (Heap.lt_size h3), by simp [h1, h2, h3]⟩
theorem of_mem_allNews {g h : Heap} {L : Addr} {p : Addr × Obj} (hp : p ∈ allNews g h L) : p.1 ≠ L ∧ g.get? p.1 = none ∧ h.get? p.1 = some p.2 := by
  obtain ⟨b, _, e⟩ := List.mem_filterMap.mp hp
  split at e
  · cases e
  · rename_i hn
    cases q : h.get? b with
    | none => rw [q] at e; simp at e
    | some u =>
      rw [q] at e
      simp only [Option.map_some, Option.some.injEq] at e
      subst e
      refine ⟨fun z => hn (.inl z), ?_, q⟩
      show g.get? b = none
      cases r : g.get? b with
      | none => rfl
      | some v => exact (hn (.inr (by simp [r]))).elim
def rest (g h : Heap) (L d : Addr) : List (Addr × Obj) := (allNews g h L).filter fun p => decide (p.1 ≠ d)
theorem rest_ne {g h : Heap} {L d : Addr} : ∀ p ∈ rest g h L d, p.1 ≠ d := fun p hp => of_decide_eq_true (List.mem_filter.mp hp).2
theorem mem_rest {g h : Heap} {L d a : Addr} {o : Obj} (h1 : a ≠ L) (h2 : g.get? a = none) (h3 : h.get? a = some o) (h4 : a ≠ d) : (a, o) ∈ rest g h L d :=
  List.mem_filter.mpr ⟨mem_allNews h1 h2 h3, decide_eq_true h4⟩
theorem news_all {g h : Heap} {L : Addr} : News g L h (allNews g h L) := fun p hp => let ⟨a, b, c⟩ := of_mem_allNews hp; ⟨c, a, b⟩
theorem news_at {g h : Heap} {L d : Addr} {o : Obj} (h1 : d ≠ L) (h2 : g.get? d = none) (h3 : h.get? d = some o) : News g L h ((d, o) :: rest g h L d) := fun p hp => by
  rcases List.mem_cons.mp hp with rfl | hp
  · exact ⟨h3, h1, h2⟩
  · exact news_all p (List.mem_filter.mp hp).1
/-- behind a rule that changed d alone: all else but the frame is kept -/
theorem kept_of_news {g h h' : Heap} {L d : Addr} {m : Str → Option Value} (k : ∀ b o, g.get? b = some o → h.get? b = some o) (F : Fr g L h' m) (N : News g L h' (rest g h L d)) :
    ∀ b o, b ≠ L → b ≠ d → h.get? b = some o → h'.get? b = some o := fun b o h1 h2 e => by
  cases q : g.get? b with
  | some u =>
    have := k b u q
    rw [e] at this; cases this
    exact F.keep b _ q
  | none => exact (N (b, o) (mem_rest h1 q e h2)).1
end L2

namespace L2
open PySem PySem.Spec PyProof.Rows

/-- the module's facts, over the base: the heap at the law's entry without what is tracked there -/
structure Mod (K : PySem.W.Frag) (mg : Str → Option Value) (base : Heap) : Prop where
  kin : K.In base
  glob : base.Ns mainGlobals mg
  blt : ∃ mb, base.Ns builtinsNs mb ∧ ∀ x : Str, x ≠ "__name__" → mb x = bootBuiltins x
  nolimit : base.NoLimit

/-- the context: a def's body (or a comprehension's block) running. base: fixed through the whole law; s₀, H₀: the entry; outer: the frames whose slots others may change (a def's callers); stack: all frames that run;
   ex: iterators that were made ahead of the entry and are walked here (a comprehension's); fn: the names whose cells were made at the entry (a def: all; a comprehension's block: its own); calm: not within an except suite; pn: pins that every state bears; xe: what is wanted of an exception that leaves the code -/
structure Cx where
  prog : Program
  w : World
  K : PySem.W.Frag
  mg : Str → Option Value
  base : Heap
  A : Around
  N : List Str
  s₀ : Shared
  H₀ : Hp
  env : Env
  outer : List Env
  stack : List Env
  ex : List Addr
  fn : Str → Bool
  calm : Bool
  pn : List (Addr × Obj)
  xe : Value → Shared → Prop
/-- the callers' frames -/
def frs (l : List Env) : List Addr := l.filterMap (·.frame)
abbrev Cx.fs (X : Cx) : List Addr := frs X.outer

def Vis (sc : Scope) (x : Str) : Prop := sc.names.lookup x = some .local ∨ sc.names.lookup x = some .cell ∨ sc.names.lookup x = some .free
def Loc (sc : Scope) (x : Str) : Prop := sc.names.lookup x = some .local ∨ sc.names.lookup x = some .cell
def Look (env : Env) (h : Heap) (m : Str → Option Value) (x : Str) (u : Value) : Prop :=
  (env.kindOf x = some .local ∧ m x = some u) ∨ ((env.kindOf x = some .cell ∨ env.kindOf x = some .free) ∧ ∃ c, env.cells.lookup x = some c ∧ h.IsCell c (some u))

structure Cx.Ok (X : Cx) : Prop where
  mod : Mod X.K X.mg X.base
  kind : X.env.scope.kind = .function
  glob : X.env.globals = mainGlobals
  blt : X.env.builtins = builtinsNs
  above : X.s₀.heap.objs.size ≤ X.env.locals
  inj : ∀ x y c, X.env.cells.lookup x = some c → X.env.cells.lookup y = some c → x = y
  has : ∀ x, (X.env.kindOf x = some .cell ∨ X.env.kindOf x = some .free) → ∃ c, X.env.cells.lookup x = some c
  cab : ∀ x c, X.fn x = true → X.env.cells.lookup x = some c → X.s₀.heap.objs.size ≤ c
  hd : X.calm = true → X.A.handled = none
  frames : X.A.frames = some X.stack
  stk : X.stack = X.outer ∨ (X.stack = X.env :: X.outer ∧ X.env.frame = some X.env.locals)
  exf : ∀ b ∈ X.ex, b ≠ X.env.locals ∧ ∀ x c, X.env.cells.lookup x = some c → c ≠ b
  bs : ∀ b o, X.base.get? b = some o → X.s₀.heap.get? b = some o ∧ X.H₀ b = none
  bsz : X.base.objs.size ≤ X.s₀.heap.objs.size
  noex : ∀ b o, X.base.get? b = some o → b ∉ X.ex
  exfs : ∀ b ∈ X.ex, b ∉ X.fs
  funs : X.s₀.heap.FunFrames X.base X.outer
  frf : ∀ b ∈ X.fs, X.H₀ b = none

structure Inv (X : Cx) (pins : List (Addr × Obj)) (σ : List (Option V)) (H : Hp) (s : Shared) : Prop where
  ok : X.Ok
  os : s.os = X.s₀.os
  bare : AllBare s.gens
  base : Un X.fs X.ex X.H₀ H X.s₀.heap s.heap
  loc : ∃ m, s.heap.Ns X.env.locals m ∧ ∀ (i : Nat) (x : Str) (v : V), X.N[i]? = some x → σ[i]? = some (some v) → Vis X.env.scope x → ∃ u, RelV v u ∧ Look X.env s.heap m x u
  cell : ∀ x c, X.env.cells.lookup x = some c → ∃ v, s.heap.IsCell c v
  free : H X.env.locals = none
  freeC : ∀ x c, X.env.cells.lookup x = some c → H c = none
  pin : ∀ p ∈ X.pn ++ pins, s.heap.get? p.1 = some p.2 ∧ H p.1 = none ∧ p.1 ≠ X.env.locals ∧ p.1 ∉ X.fs ∧ ∀ v, p.2.data ≠ .cell v
  hok : HOk X.prog X.w H s.heap
  len : σ.length = X.N.length

section
variable {X : Cx} {pins : List (Addr × Obj)} {σ : List (Option V)} {H H' : Hp} {s : Shared} {h' : Heap}

theorem Cx.Ok.nofr (ok : X.Ok) {b : Addr} {o : Obj} (e : X.base.get? b = some o) : b ∉ X.fs := fun hb => by
  have := (ok.funs.mem hb).1
  rw [e] at this; cases this
theorem Inv.bs (I : Inv X pins σ H s) : ∀ b o, X.base.get? b = some o → s.heap.get? b = some o ∧ H b = none := fun b o e =>
  ⟨I.base.keep b o (I.ok.bs b o e).1 (I.ok.bs b o e).2 (I.ok.nofr e) (I.ok.noex b o e), I.base.free b o (I.ok.bs b o e).1 (I.ok.bs b o e).2 (I.ok.noex b o e)⟩
theorem Inv.bk (I : Inv X pins σ H s) : ∀ b o, X.base.get? b = some o → s.heap.get? b = some o := fun b o e => (I.bs b o e).1
theorem Inv.mod (I : Inv X pins σ H s) : Mod X.K X.mg X.base := I.ok.mod
theorem Inv.kIn (I : Inv X pins σ H s) : X.K.In s.heap := I.ok.mod.kin.keeps I.bk
theorem Inv.nolimit (I : Inv X pins σ H s) : s.heap.NoLimit := I.ok.mod.nolimit.keeps I.bk
/-- the frame over the base: for OpenK's rules (K.In X.base is I.mod.kin) -/
theorem Inv.fr (I : Inv X pins σ H s) : ∃ m, Fr X.base X.env.locals s.heap m :=
  let ⟨m, hn, _⟩ := I.loc
  ⟨m, hn, I.bk, Nat.le_trans I.ok.bsz I.ok.above⟩
theorem Inv.lt (I : Inv X pins σ H s) : X.env.locals < s.heap.objs.size := let ⟨_, hn, _⟩ := I.loc; hn.lt
theorem Inv.sz (I : Inv X pins σ H s) : X.s₀.heap.objs.size ≤ s.heap.objs.size := Nat.le_trans I.ok.above (Nat.le_of_lt I.lt)
theorem Inv.nofs (I : Inv X pins σ H s) {a : Addr} (h : s.heap.objs.size ≤ a) : a ∉ X.fs := fun hb => by
  obtain ⟨_, o, ho, _⟩ := I.ok.funs.mem hb
  exact absurd (Nat.lt_of_lt_of_le (Heap.lt_size ho) (Nat.le_trans I.sz h)) (Nat.lt_irrefl _)
theorem Inv.cne (I : Inv X pins σ H s) : ∀ x c, X.env.cells.lookup x = some c → c ≠ X.env.locals := fun x c e z => by
  obtain ⟨v, o, ho, hd⟩ := I.cell x c e
  obtain ⟨m, ⟨o', es, ep, ho', hd', _⟩, _⟩ := I.loc
  rw [z, ho'] at ho; cases ho; rw [hd'] at hd; cases hd
theorem Inv.funs (I : Inv X pins σ H s) : s.heap.FunFrames X.base X.outer := by
  have all : ∀ (l : List Env), (∀ b ∈ frs l, b ∈ X.fs) → X.s₀.heap.FunFrames X.base l → s.heap.FunFrames X.base l := by
    intro l
    induction l with
    | nil => intro _ _; trivial
    | cons env r ih =>
      intro hs hl
      obtain ⟨hk, ⟨L, o, hf, hn, ho, hd⟩, hr⟩ := hl
      have hL : L ∈ X.fs := hs L (by unfold frs; rw [List.filterMap_cons, hf]; exact List.mem_cons_self)
      obtain ⟨sl, e⟩ := I.base.slot L o ho (I.ok.frf L hL) hL fun z => I.ok.exfs L z hL
      exact ⟨hk, ⟨L, _, hf, hn, e, hd⟩, ih (fun b hb => hs b (by unfold frs; rw [List.filterMap_cons, hf]; exact List.mem_cons_of_mem _ hb)) hr⟩
  exact all X.outer (fun _ hb => hb) I.ok.funs

/-- the frames that run, for a call -/
theorem Inv.stack (I : Inv X pins σ H s) : s.heap.FunFrames X.base X.stack := by
  rcases I.ok.stk with e | ⟨e, hf⟩
  · rw [e]; exact I.funs
  · rw [e]
    obtain ⟨m, hn, _⟩ := I.loc
    refine .cons (by rw [I.ok.kind]; decide) hf hn ?_ I.funs
    exact Heap.get?_none_of_le (Nat.le_trans I.ok.bsz I.ok.above)
theorem Inv.stkSub (I : Inv X pins σ H s) : ∀ b ∈ frs X.stack, b ∈ X.env.locals :: X.fs := fun b hb => by
  rcases I.ok.stk with e | ⟨e, hf⟩
  · rw [e] at hb; exact List.mem_cons_of_mem _ hb
  · rw [e] at hb
    unfold frs at hb
    rw [List.filterMap_cons, hf] at hb
    exact hb
theorem Inv.stkFree (I : Inv X pins σ H s) : ∀ b ∈ frs X.stack, H b = none := fun b hb => by
  rcases List.mem_cons.mp (I.stkSub b hb) with e | hb
  · rw [e]; exact I.free
  · obtain ⟨_, o, ho, _⟩ := I.ok.funs.mem hb
    exact I.base.free b o ho (I.ok.frf b hb) fun z => I.ok.exfs b z hb

/-- THE STEP: the untracked objects but the frame and the records at ch are kept (the callers' frames up to slots), the frame's map is kept, the new abstract heap is held -/
theorem Inv.step {g' : Array GenState} {t' : Nat} {d' : Drawn} {ch : List Addr} (I : Inv X pins σ H s)
    (hch : ∀ b ∈ ch, (b ∈ X.ex ∨ X.s₀.heap.objs.size ≤ b) ∧ b ≠ X.env.locals ∧ (∀ x c, X.env.cells.lookup x = some c → c ≠ b) ∧ ∀ p ∈ X.pn ++ pins, p.1 ≠ b)
    (keep : ∀ b o, b ≠ X.env.locals → b ∉ X.fs → b ∉ ch → s.heap.get? b = some o → H b = none → h'.get? b = some o)
    (slot : ∀ b o, b ≠ X.env.locals → b ∈ X.fs → b ∉ ch → s.heap.get? b = some o → H b = none → ∃ sl, h'.get? b = some { o with slots := sl }) (free : ∀ b o, b ∉ ch → s.heap.get? b = some o → H b = none → H' b = none)
    (there : ∀ b o, b ∉ ch → s.heap.get? b = some o → ∃ o', h'.get? b = some o')
    (tups : ∀ b xs, H b = some (.tup xs) → H' b = some (.tup xs)) (frzs : ∀ b o u, H b = some (.frz o u) → H' b = some (.frz o u)) (tbls : ∀ b ps, H b = some (.tbl ps) → ∃ more, H' b = some (.tbl (ps ++ more)))
    (ns : ∀ m, s.heap.Ns X.env.locals m → h'.Ns X.env.locals m) (hok : HOk X.prog X.w H' h') (hg : AllBare g') :
    Inv X pins σ H' { s with heap := h', gens := g', drawn := d', toks := t' } := by
  have neL : ∀ b o, X.s₀.heap.get? b = some o → b ≠ X.env.locals := fun b o e => Nat.ne_of_lt (Nat.lt_of_lt_of_le (Heap.lt_size e) I.ok.above)
  have neC : ∀ b o, X.s₀.heap.get? b = some o → b ∉ X.ex → b ∉ ch := fun b o e hx hb => by
    rcases (hch b hb).1 with z | z
    · exact hx z
    · exact absurd (Nat.lt_of_lt_of_le (Heap.lt_size e) z) (Nat.lt_irrefl _)
  have cellK : ∀ x c, X.env.cells.lookup x = some c → ∀ v, s.heap.IsCell c v → h'.IsCell c v := fun x c e v ⟨o, ho, hd⟩ => by
    have nch : c ∉ ch := fun z => (hch c z).2.2.1 x c e rfl
    by_cases hc : c ∈ X.fs
    · obtain ⟨sl, q⟩ := slot c o (I.cne x c e) hc nch ho (I.freeC x c e)
      exact ⟨_, q, hd⟩
    · exact ⟨o, keep c o (I.cne x c e) hc nch ho (I.freeC x c e), hd⟩
  refine ⟨I.ok, I.os, hg, ⟨fun b o e n hb hx => ?_, fun b o e n hb hx => ?_, fun b o e n hx => ?_, fun b o e hx => ?_, fun b xs e => tups b xs (I.base.tups b xs e), fun b o xs e => frzs b o xs (I.base.frzs b o xs e), fun b ps e => ?_⟩, ?_, fun x c e => ?_, ?_, fun x c e => ?_, fun p hp => ?_, hok, I.len⟩
  · exact keep b o (neL b o e) hb (neC b o e hx) (I.base.keep b o e n hb hx) (I.base.free b o e n hx)
  · obtain ⟨sl, e1⟩ := I.base.slot b o e n hb hx
    obtain ⟨sl', e2⟩ := slot b _ (neL b o e) hb (neC b o e hx) e1 (I.base.free b o e n hx)
    exact ⟨sl', e2⟩
  · obtain ⟨o', e1⟩ := I.base.there b o e hx
    exact free b o' (neC b o e hx) e1 (I.base.free b o e n hx)
  · obtain ⟨o', e1⟩ := I.base.there b o e hx
    exact there b o' (neC b o e hx) e1
  · obtain ⟨m1, e1⟩ := I.base.tbls b ps e
    obtain ⟨m2, e2⟩ := tbls b _ e1
    exact ⟨m1 ++ m2, by rw [e2, Array.append_assoc]⟩
  · obtain ⟨m, hn, hl⟩ := I.loc
    refine ⟨m, ns m hn, fun i x v e1 e2 e3 => ?_⟩
    obtain ⟨u, r, l⟩ := hl i x v e1 e2 e3
    refine ⟨u, r, ?_⟩
    rcases l with l | ⟨k, c, e, z⟩
    · exact .inl l
    · exact .inr ⟨k, c, e, cellK x c e _ z⟩
  · obtain ⟨v, z⟩ := I.cell x c e
    exact ⟨v, cellK x c e v z⟩
  · obtain ⟨m, ⟨o, _, _, ho, _⟩, _⟩ := I.loc
    exact free _ o (fun z => (hch _ z).2.1 rfl) ho I.free
  · obtain ⟨v, o, ho, hd⟩ := I.cell x c e
    exact free c o (fun z => (hch c z).2.2.1 x c e rfl) ho (I.freeC x c e)
  · obtain ⟨e, n, ne, nf, d⟩ := I.pin p hp
    have nch : p.1 ∉ ch := fun z => (hch p.1 z).2.2.2 p hp rfl
    exact ⟨keep p.1 p.2 ne nf nch e n, free p.1 p.2 nch e n, ne, nf, d⟩
/-- .. where the frame's own object is kept too -/
theorem Inv.un {t' : Nat} (I : Inv X pins σ H s) (u : Un X.fs [] H H' s.heap h') (hok : HOk X.prog X.w H' h') : Inv X pins σ H' { s with heap := h', toks := t' } := by
  obtain ⟨m, ⟨o, es, ep, ho, r⟩, _⟩ := id I.loc
  obtain ⟨sl, hL⟩ := u.any ho I.free (by simp)
  exact I.step (g' := s.gens) (d' := s.drawn) (ch := []) (fun _ z => nomatch z) (fun b o _ hb _ e n => u.keep b o e n hb (by simp)) (fun b o _ hb _ e n => u.slot b o e n hb (by simp)) (fun b o _ e n => u.free b o e n (by simp)) (fun b o _ e => u.there b o e (by simp)) u.tups u.frzs u.tbls (fun m' hm => by
    obtain ⟨o', es', ep', ho', r'⟩ := hm
    rw [ho] at ho'; cases ho'
    exact ⟨_, es', ep', hL, r'⟩) hok I.bare
/-- behind a call (or a comprehension's block): the slots of this frame may have changed too, the records at ch may have turned -/
theorem Inv.call {g' : Array GenState} {t' : Nat} {d' : Drawn} {ch : List Addr} (I : Inv X pins σ H s) (u : Un (frs X.stack) ch H H' s.heap h') (hok : HOk X.prog X.w H' h') (hg : AllBare g')
    (hch : ∀ b ∈ ch, (b ∈ X.ex ∨ X.s₀.heap.objs.size ≤ b) ∧ b ≠ X.env.locals ∧ (∀ x c, X.env.cells.lookup x = some c → c ≠ b) ∧ ∀ p ∈ X.pn ++ pins, p.1 ≠ b) :
    Inv X pins σ H' { s with heap := h', gens := g', drawn := d', toks := t' } := by
  obtain ⟨m, ⟨o, es, ep, ho, r⟩, _⟩ := id I.loc
  obtain ⟨sl, hL⟩ := u.any ho I.free fun z => (hch _ z).2.1 rfl
  exact I.step (ch := ch) hch (fun b o hL hb hc e n => u.keep b o e n (fun z => (List.mem_cons.mp (I.stkSub b z)).elim hL hb) hc) (fun b o _ _ hc e n => u.any e n hc) (fun b o hc e n => u.free b o e n hc) (fun b o hc e => u.there b o e hc) u.tups u.frzs u.tbls (fun m' hm => by
    obtain ⟨o', es', ep', ho', r'⟩ := hm
    rw [ho] at ho'; cases ho'
    exact ⟨_, es', ep', hL, r'⟩) hok hg
/-- an untracked record of ours (an iterator) has turned -/
theorem Inv.turned {t' : Nat} {it : Addr} (I : Inv X pins σ H s) (k : ∀ b o, b ≠ it → s.heap.get? b = some o → h'.get? b = some o) (hn : H it = none) (hL : it ≠ X.env.locals)
    (h1 : it ∈ X.ex ∨ X.s₀.heap.objs.size ≤ it) (h2 : ∀ x c, X.env.cells.lookup x = some c → c ≠ it) (h3 : ∀ p ∈ X.pn ++ pins, p.1 ≠ it) : Inv X pins σ H { s with heap := h', toks := t' } := by
  have nit : ∀ b u, H b = some u → b ≠ it := fun b u e z => by rw [z, hn] at e; cases e
  refine I.step (g' := s.gens) (d' := s.drawn) (ch := [it]) (fun b hb => ?_) (fun b o _ _ hc e _ => k b o (fun z => hc (by simp [z])) e) (fun b o _ _ hc e _ => ⟨o.slots, k b o (fun z => hc (by simp [z])) e⟩) (fun _ _ _ _ n => n)
    (fun b o hc e => ⟨o, k b o (fun z => hc (by simp [z])) e⟩) (fun _ _ e => e) (fun _ _ _ e => e) (fun b ps e => ⟨#[], by rw [e]; simp⟩) (fun m hm => ?_) (fun b u e => ?_) I.bare
  · have e : b = it := by simpa using hb
    subst e
    exact ⟨h1, hL, h2, h3⟩
  · obtain ⟨o, es, ep, ho, r⟩ := hm
    exact ⟨o, es, ep, k _ o (Ne.symm hL) ho, r⟩
  · refine (I.hok b u e).stay (fun c v hc q => k c v ?_ q) (fun _ q => q) fun _ _ q => q
    rcases hc with z | z
    · rw [z]; exact nit b u e
    · exact nit c _ z
theorem Inv.tok (I : Inv X pins σ H s) (t : Nat) : Inv X pins σ H { s with toks := t } := I.un (h' := s.heap) (t' := t) Un.refl I.hok
/-- all objects kept -/
theorem Inv.kept {t' : Nat} (I : Inv X pins σ H s) (k : ∀ b u, s.heap.get? b = some u → h'.get? b = some u) : Inv X pins σ H { s with heap := h', toks := t' } := I.un (Un.kept k) (I.hok.kept k)
/-- a new object laid and tracked -/
theorem Inv.laid {a : Addr} {o : HO} {t' : Nat} (I : Inv X pins σ H s) (k : ∀ b u, s.heap.get? b = some u → h'.get? b = some u) (hp : s.heap.objs.size ≤ a) (new : ObjOk X.prog X.w (upd H a o) h' a o) :
    Inv X pins σ (upd H a o) { s with heap := h', toks := t' } := I.un (Un.laid k hp (I.hok.fresh hp)) (I.hok.laid k hp new)
/-- an object written -/
theorem Inv.write {x e : Addr} {o : HO} {t' : Nat} (I : Inv X pins σ H s) (mu : Mut (H x)) (he : e = x ∨ H e = some (.own x)) (k : ∀ b u, b ≠ e → s.heap.get? b = some u → h'.get? b = some u) (heo : ∃ u, h'.get? e = some u)
    (new : ObjOk X.prog X.w (upd H x o) h' x o) : Inv X pins σ (upd H x o) { s with heap := h', toks := t' } := I.un (Un.write mu he k heo) (I.hok.write mu he k heo new)
/-- forgetting slots, pins -/
theorem Inv.weak {σ' : List (Option V)} (I : Inv X pins σ H s) (hl : σ'.length = σ.length) (w : ∀ (i : Nat) v, σ'[i]? = some (some v) → σ[i]? = some (some v)) : Inv X pins σ' H s :=
  ⟨I.ok, I.os, I.bare, I.base, let ⟨m, hn, hl'⟩ := I.loc; ⟨m, hn, fun i x v e1 e2 e3 => hl' i x v e1 (w i v e2) e3⟩, I.cell, I.free, I.freeC, I.pin, I.hok, hl.trans I.len⟩
theorem Inv.pins_of {pins' : List (Addr × Obj)} (I : Inv X pins σ H s) (h : ∀ p ∈ pins', s.heap.get? p.1 = some p.2 ∧ H p.1 = none ∧ p.1 ≠ X.env.locals ∧ p.1 ∉ X.fs ∧ ∀ v, p.2.data ≠ .cell v) : Inv X pins' σ H s :=
  ⟨I.ok, I.os, I.bare, I.base, I.loc, I.cell, I.free, I.freeC, fun p hp => (List.mem_append.mp hp).elim (fun z => I.pin p (List.mem_append_left _ z)) (h p), I.hok, I.len⟩

theorem nodup_ix {N : List Str} (hN : N.Nodup) {i j : Nat} {x : Str} (a : N[i]? = some x) (b : N[j]? = some x) : i = j := by
  obtain ⟨h1, e1⟩ := List.getElem?_eq_some_iff.mp a
  obtain ⟨h2, e2⟩ := List.getElem?_eq_some_iff.mp b
  exact (List.getElem_inj hN).mp (e1.trans e2.symm)

/-- a name is stored; what changed -/
theorem store_ok2 {M : Model} {A : Around} {E : Value → Shared → Prop} {i : Nat} {x : Str} {v : V} {u : Value} {Q : Unit → Shared → Prop} (I : Inv X pins σ H s) (hN : X.N.Nodup) (hi : X.N[i]? = some x) (hx : Loc X.env.scope x) (r : RelV v u)
    (h : ∀ s', Inv X pins (σ.set i (some v)) H s' → (∃ a, Heap.SameBut a s.heap s'.heap ∧ (a = X.env.locals ∨ X.env.cells.lookup x = some a)) → Q () s') (hf : X.fn x = true ∨ X.env.scope.names.lookup x = some .local := by first | exact .inl rfl | exact .inr rfl | assumption) : wpAny M A (storeName X.env x u) Q E s := by
  obtain ⟨m, hn, hl⟩ := id I.loc
  have hcls : (X.env.scope.kind == .class || (X.env.scope.kind == .module && X.env.locals != X.env.globals)) = false := by rw [I.ok.kind]; rfl
  have hiσ : i < σ.length := by rw [I.len]; exact (List.getElem?_eq_some_iff.mp hi).1
  have cne := I.cne
  have tracked : ∀ {a : Addr} {h' : Heap}, (∃ o, s.heap.get? a = some o ∧ H a = none) → Heap.SameBut a s.heap h' → HOk X.prog X.w H h' := fun {a h'} ha hs b ob e => by
    obtain ⟨_, _, hfree⟩ := ha
    refine (I.hok b ob e).stay (fun c w' hc q => (hs.2 c ?_).trans q) (fun _ q => q) fun _ _ q => q
    rintro rfl
    rcases hc with rfl | hc
    · rw [hfree] at e; cases e
    · rw [hfree] at hc; cases hc
  rcases hx with hk | hk
  · refine wpAny_storeName_local hk hn (fun h' hn' hs => ?_) hcls
    obtain ⟨oL, _, _, hoL, _⟩ := id hn
    refine h _ ⟨I.ok, I.os, I.bare, ⟨fun b o e n hb hx => ?_, fun b o e n hb hx => ?_, I.base.free, fun b o e hx => ?_, I.base.tups, I.base.frzs, I.base.tbls⟩, ⟨_, hn', fun j y v' e1 e2 e3 => ?_⟩, fun y c e => ?_, I.free, I.freeC, fun p hp => ?_, tracked ⟨oL, hoL, I.free⟩ hs, by simpa using I.len⟩ ⟨_, hs, .inl rfl⟩
    · exact (hs.2 b (Nat.ne_of_lt (Nat.lt_of_lt_of_le (Heap.lt_size e) I.ok.above))).trans (I.base.keep b o e n hb hx)
    · obtain ⟨sl, e1⟩ := I.base.slot b o e n hb hx
      exact ⟨sl, (hs.2 b (Nat.ne_of_lt (Nat.lt_of_lt_of_le (Heap.lt_size e) I.ok.above))).trans e1⟩
    · obtain ⟨o', e1⟩ := I.base.there b o e hx
      exact ⟨o', (hs.2 b (Nat.ne_of_lt (Nat.lt_of_lt_of_le (Heap.lt_size e) I.ok.above))).trans e1⟩
    · by_cases hj : j = i
      · subst hj
        rw [hi] at e1; cases e1
        rw [List.getElem?_set_self hiσ] at e2
        cases e2
        exact ⟨u, r, .inl ⟨hk, by simp⟩⟩
      · rw [List.getElem?_set_ne (Ne.symm hj)] at e2
        obtain ⟨u', r', q⟩ := hl j y v' e1 e2 e3
        refine ⟨u', r', ?_⟩
        rcases q with ⟨k, e⟩ | ⟨k, c, e, z⟩
        · refine .inl ⟨k, ?_⟩
          have : y ≠ x := fun e => hj (nodup_ix hN e1 (e ▸ hi))
          simp [this, e]
        · exact .inr ⟨k, c, e, z.sameBut hs (cne y c e)⟩
    · obtain ⟨w', z⟩ := I.cell y c e
      exact ⟨w', z.sameBut hs (cne y c e)⟩
    · obtain ⟨e, n, ne, nf, d⟩ := I.pin p hp
      exact ⟨(hs.2 p.1 ne).trans e, n, ne, nf, d⟩
  · have hfn : X.fn x = true := by
      rcases hf with z | z
      · exact z
      · rw [z] at hk; cases hk
    obtain ⟨c, hc⟩ := I.ok.has x (.inl hk)
    obtain ⟨w', z⟩ := I.cell x c hc
    refine wpAny_storeName_cell I.ok.kind hk hc z (fun h' hc' hs => ?_)
    obtain ⟨oc, hoc, hocd⟩ := id z
    refine h { s with heap := h' } ⟨I.ok, I.os, I.bare, ⟨fun b o e n hb hx => ?_, fun b o e n hb hx => ?_, I.base.free, fun b o e hx => ?_, I.base.tups, I.base.frzs, I.base.tbls⟩, ⟨m, hn.sameBut hs (Ne.symm (cne x c hc)), fun j y v' e1 e2 e3 => ?_⟩, fun y c' e => ?_, I.free, I.freeC, fun p hp => ?_, tracked ⟨oc, hoc, I.freeC x c hc⟩ hs, by simpa using I.len⟩ ⟨c, hs, .inr hc⟩
    · exact (hs.2 b (Nat.ne_of_lt (Nat.lt_of_lt_of_le (Heap.lt_size e) (I.ok.cab x c hfn hc)))).trans (I.base.keep b o e n hb hx)
    · obtain ⟨sl, e1⟩ := I.base.slot b o e n hb hx
      exact ⟨sl, (hs.2 b (Nat.ne_of_lt (Nat.lt_of_lt_of_le (Heap.lt_size e) (I.ok.cab x c hfn hc)))).trans e1⟩
    · obtain ⟨o', e1⟩ := I.base.there b o e hx
      exact ⟨o', (hs.2 b (Nat.ne_of_lt (Nat.lt_of_lt_of_le (Heap.lt_size e) (I.ok.cab x c hfn hc)))).trans e1⟩
    · by_cases hj : j = i
      · subst hj
        rw [hi] at e1; cases e1
        rw [List.getElem?_set_self hiσ] at e2
        cases e2
        exact ⟨u, r, .inr ⟨.inl hk, c, hc, hc'⟩⟩
      · rw [List.getElem?_set_ne (Ne.symm hj)] at e2
        obtain ⟨u', r', q⟩ := hl j y v' e1 e2 e3
        refine ⟨u', r', ?_⟩
        rcases q with q | ⟨k, c', e, z'⟩
        · exact .inl q
        · refine .inr ⟨k, c', e, z'.sameBut hs ?_⟩
          rintro rfl
          exact hj (nodup_ix hN e1 (I.ok.inj _ _ _ e hc ▸ hi))
    · by_cases hcc : c' = c
      · subst hcc; exact ⟨_, hc'⟩
      · obtain ⟨w2, z2⟩ := I.cell y c' e
        exact ⟨w2, z2.sameBut hs hcc⟩
    · obtain ⟨e, n, ne, nf, d⟩ := I.pin p hp
      refine ⟨(hs.2 p.1 ?_).trans e, n, ne, nf, d⟩
      intro q
      rw [q, hoc] at e
      have q' : oc = p.2 := Option.some.inj e
      exact d w' (by rw [← q']; exact hocd)
theorem store_ok {M : Model} {A : Around} {E : Value → Shared → Prop} {i : Nat} {x : Str} {v : V} {u : Value} {Q : Unit → Shared → Prop} (I : Inv X pins σ H s) (hN : X.N.Nodup) (hi : X.N[i]? = some x) (hx : Loc X.env.scope x) (r : RelV v u)
    (h : ∀ s', Inv X pins (σ.set i (some v)) H s' → Q () s') (hf : X.fn x = true ∨ X.env.scope.names.lookup x = some .local := by first | exact .inl rfl | exact .inr rfl | assumption) : wpAny M A (storeName X.env x u) Q E s :=
  store_ok2 I hN hi hx r (fun s' I' _ => h s' I') hf
/-- behind a call or a block, the state as it is -/
theorem Inv.call' {s' : Shared} {ch : List Addr} (I : Inv X pins σ H s) (ho : s'.os = s.os) (u : Un (frs X.stack) ch H H' s.heap s'.heap) (hok : HOk X.prog X.w H' s'.heap) (hg : AllBare s'.gens)
    (hch : ∀ b ∈ ch, (b ∈ X.ex ∨ X.s₀.heap.objs.size ≤ b) ∧ b ≠ X.env.locals ∧ (∀ x c, X.env.cells.lookup x = some c → c ≠ b) ∧ ∀ p ∈ X.pn ++ pins, p.1 ≠ b) : Inv X pins σ H' s' := by
  obtain ⟨h', g', d', t', o'⟩ := s'
  have e : o' = s.os := ho
  subst e
  exact I.call (g' := g') (t' := t') (d' := d') u hok hg hch
end

/-! ### the judgements -/
/-- an exception: its class, its own dict's address (where it has one), the abstract heap behind it -/
abbrev XK := Value → Option Addr → Hp → Prop
abbrev St := List (Option V)
abbrev VK := V → Hp → Prop
/-- an expression's reading; a test's; an argument list's -/
abbrev TE := St → Hp → VK → Prop
abbrev TT := St → Hp → (Bool → Hp → Prop) → Prop
abbrev TA := St → Hp → (List V → Hp → Prop) → Prop
/-- what is wanted behind a statement -/
structure Ends where
  nx : St → Hp → Prop
  rt : VK
  bk : St → Hp → Prop := fun _ _ => False
  ct : St → Hp → Prop := fun _ _ => False
abbrev TS := Ends → St → Hp → Prop

def EP (X : Cx) (pins : List (Addr × Obj)) (σ : St) (Q : VK) (u : Value) (s' : Shared) : Prop := ∃ v H', Inv X pins σ H' s' ∧ RelV v u ∧ Q v H'
def TP (X : Cx) (pins : List (Addr × Obj)) (σ : St) (Q : Bool → Hp → Prop) (b : Bool) (s' : Shared) : Prop := ∃ H', Inv X pins σ H' s' ∧ Q b H'
def AP (X : Cx) (pins : List (Addr × Obj)) (σ : St) (Q : List V → Hp → Prop) (us : List Value) (s' : Shared) : Prop := ∃ vs H', Inv X pins σ H' s' ∧ Vals vs us ∧ Q vs H'
def SP (X : Cx) (pins : List (Addr × Obj)) (D : Ends) (f : Flow) (s' : Shared) : Prop :=
  match f with
  | .next => ∃ σ' H', Inv X pins σ' H' s' ∧ D.nx σ' H'
  | .brk => ∃ σ' H', Inv X pins σ' H' s' ∧ D.bk σ' H'
  | .cont => ∃ σ' H', Inv X pins σ' H' s' ∧ D.ct σ' H'
  | .ret u => ∃ v σ' H', Inv X pins σ' H' s' ∧ RelV v u ∧ D.rt v H'

def PE (X : Cx) (e : Expr) (t : TE) : Prop :=
  ∀ (pins : List (Addr × Obj)) (s : Shared) (σ : St) (H : Hp) (Q : VK), Inv X pins σ H s → t σ H Q → wpAny (model X.prog X.w) X.A (eval e X.env) (EP X pins σ Q) X.xe s
def PT (X : Cx) (e : Expr) (t : TT) : Prop :=
  ∀ (pins : List (Addr × Obj)) (s : Shared) (σ : St) (H : Hp) (Q : Bool → Hp → Prop), Inv X pins σ H s → t σ H Q → wpAny (model X.prog X.w) X.A (isTrue e X.env (eval e X.env)) (TP X pins σ Q) X.xe s
/-- a test whatever its 'whole' is (and, or) -/
def PW (X : Cx) (e : Expr) (t : TT) : Prop :=
  ∀ (whole : Sem Value) (pins : List (Addr × Obj)) (s : Shared) (σ : St) (H : Hp) (Q : Bool → Hp → Prop), Inv X pins σ H s → t σ H Q → wpAny (model X.prog X.w) X.A (isTrue e X.env whole) (TP X pins σ Q) X.xe s
theorem PW.pt {X : Cx} {e : Expr} {t : TT} (h : PW X e t) : PT X e t := h _
/-- an argument list (no star), from the left -/
def PA (X : Cx) (es : List Expr) (t : TA) : Prop :=
  ∀ (pos : Pos) (pins : List (Addr × Obj)) (s : Shared) (σ : St) (H : Hp) (Q : List V → Hp → Prop), Inv X pins σ H s → t σ H Q → wpAny (model X.prog X.w) X.A (spliced (backTo pos (starEach es X.env))) (AP X pins σ Q) X.xe s
def PS (X : Cx) (st : Stmt) (t : TS) : Prop :=
  ∀ (pins : List (Addr × Obj)) (s : Shared) (σ : St) (H : Hp) (D : Ends), Inv X pins σ H s → t D σ H → wpAny (model X.prog X.w) X.A (exec st X.env) (SP X pins D) X.xe s
def PSs (X : Cx) (st : List Stmt) (t : TS) : Prop :=
  ∀ (pins : List (Addr × Obj)) (s : Shared) (σ : St) (H : Hp) (D : Ends), Inv X pins σ H s → t D σ H → wpAny (model X.prog X.w) X.A (execs st X.env) (SP X pins D) X.xe s
/-- weaken the end -/
theorem thn {α : Type} {t : Sem α} {Q Q' : α → Shared → Prop} {M : Model} {A : Around} {E : Value → Shared → Prop} {s : Shared} (h : wpAny M A t Q E s) (hQ : ∀ a s, Q a s → Q' a s) : wpAny M A t Q' E s := wpAny_mono h hQ fun _ _ x => x
end L2

namespace L2
open PySem PySem.Spec PyProof.Rows
section
variable {X : Cx}

/-- two expressions in a row -/
theorem bin {a b : Expr} {ta tb : TE} (ha : PE X a ta) (hb : PE X b tb) {pins : List (Addr × Obj)} {s : Shared} {σ : St} {H : Hp} {R : V → V → Hp → Prop} (I : Inv X pins σ H s) (h : ta σ H fun x H1 => tb σ H1 fun y H2 => R x y H2)
    {α : Type} {Q : α → Shared → Prop} {f : Value → Value → Sem α}
    (hf : ∀ v u s2 x y H2, Inv X pins σ H2 s2 → RelV x v → RelV y u → R x y H2 → wpAny (model X.prog X.w) X.A (f v u) Q X.xe s2) :
    wpAny (model X.prog X.w) X.A (eval a X.env) (fun v s₁ => wpAny (model X.prog X.w) X.A (eval b X.env) (fun u s₂ => wpAny (model X.prog X.w) X.A (f v u) Q X.xe s₂) X.xe s₁) X.xe s := by
  refine thn (ha pins s σ H _ I h) fun v s1 ⟨x, H1, I1, r1, q1⟩ => ?_
  refine thn (hb pins s1 σ H1 _ I1 q1) fun u s2 ⟨y, H2, I2, r2, q2⟩ => ?_
  exact hf v u s2 x y H2 I2 r1 r2 q2

/-! ### names and constants -/
def tVar (i : Nat) : TE := fun σ H Q => ∃ v, σ[i]? = some (some v) ∧ Q v H
def tC (v : V) : TE := fun _ H Q => Q v H
theorem pe_var {i : Nat} {x : Str} {pos : Pos} (hN : X.N[i]? = some x) (hv : Vis X.env.scope x) (hd : (x == ("__debug__" : Str)) = false := by decide) (hcd : (x == ("__classdict__" : Str)) = false := by decide) : PE X (.Name x pos) (tVar i) := by
  intro pins s σ H Q I h
  obtain ⟨v, e, h⟩ := h
  obtain ⟨m, hn, hl⟩ := I.loc
  obtain ⟨u, r, l⟩ := hl i x v hN e hv
  have fin : EP X pins σ Q u s := ⟨v, H, I, r, h⟩
  rcases l with ⟨hk, hm⟩ | ⟨hk, c, hc, hcell⟩
  · exact wpAny_Name (wpAny_loadName_local I.ok.kind hk hn hm fin) hd
  · rcases hk with hk | hk
    · exact wpAny_Name (wpAny_loadName_cell I.ok.kind hk hc hcell fin) hd
    · exact wpAny_Name (wpAny_loadName_free I.ok.kind hk hc hcell fin hcd) hd
theorem pe_int {i j pos} : PE X (.Constant (.int i) j pos) (tC (.int i)) := fun _ _ _ H _ I h => wpAny_Constant_int ⟨.int i, H, I.tok _, ⟨_, rfl⟩, h⟩
theorem pe_bl {b j pos} : PE X (.Constant (.bool b) j pos) (tC (.bl b)) := fun _ _ _ H _ I h => Constant_bool ⟨.bl b, H, I, rfl, h⟩
theorem pe_non {j pos} : PE X (.Constant .none j pos) (tC .non) := fun _ _ _ H _ I h => Constant_none ⟨.non, H, I, rfl, h⟩
theorem pe_str {x j pos} : PE X (.Constant (.str x) j pos) (tC (.str x)) := fun _ _ _ H _ I h => Calls.Constant_str ⟨.str x, H, I.tok _, ⟨_, rfl⟩, h⟩

/-- a global name of the def -/
def Gl (X : Cx) (x : Str) : Prop := X.env.kindOf x = some .globalImplicit
theorem ld_glob {E : Value → Shared → Prop} {pins : List (Addr × Obj)} {s : Shared} {σ : St} {H : Hp} {x : Str} {u : Value} {pos : Pos} {Q : Value → Shared → Prop} (I : Inv X pins σ H s) (hg : Gl X x) (hm : X.mg x = some u) (h : Q u s)
    (hd : (x == ("__debug__" : Str)) = false := by decide) : wpAny (model X.prog X.w) X.A (eval (.Name x pos) X.env) Q E s :=
  Calls.Name_function_global I.ok.kind hg (Calls.loadGlobal_global (by rw [I.ok.glob]; exact I.mod.glob.keeps I.bk) hm h) hd
theorem ld_blt {E : Value → Shared → Prop} {pins : List (Addr × Obj)} {s : Shared} {σ : St} {H : Hp} {x : Str} {u : Value} {pos : Pos} {Q : Value → Shared → Prop} (I : Inv X pins σ H s) (hg : Gl X x) (hm : X.mg x = none) (hv : bootBuiltins x = some u) (h : Q u s)
    (hn : x ≠ "__name__" := by decide) (hd : (x == ("__debug__" : Str)) = false := by decide) : wpAny (model X.prog X.w) X.A (eval (.Name x pos) X.env) Q E s := by
  obtain ⟨mb, h1, h2⟩ := I.mod.blt
  exact Calls.Name_function_global I.ok.kind hg (Calls.loadGlobal_builtin (by rw [I.ok.glob]; exact I.mod.glob.keeps I.bk) hm (by rw [I.ok.blt]; exact h1.keeps I.bk) ((h2 x hn).trans hv) h) hd
/-- a module's constant, a class, a function, as a value -/
theorem pe_glob {x : Str} {v : V} {u : Value} {pos : Pos} (hg : Gl X x) (hm : X.mg x = some u) (r : RelV v u) (hd : (x == ("__debug__" : Str)) = false := by decide) : PE X (.Name x pos) (tC v) :=
  fun _ _ _ H _ I h => ld_glob I hg hm ⟨v, H, I, r, h⟩ hd
theorem pe_bltn {x : Str} {v : V} {u : Value} {pos : Pos} (hg : Gl X x) (hm : X.mg x = none) (hv : bootBuiltins x = some u) (r : RelV v u) (hn : x ≠ "__name__" := by decide) (hd : (x == ("__debug__" : Str)) = false := by decide) : PE X (.Name x pos) (tC v) :=
  fun _ _ _ H _ I h => ld_blt I hg hm hv ⟨v, H, I, r, h⟩ hn hd

/-! ### arithmetic -/
/-- two ints -/
def t2I (ta tb : TE) (k : Int → Int → Hp → Prop) : St → Hp → Prop := fun σ H => ta σ H fun x H1 => tb σ H1 fun y H2 => ∃ i j, x = .int i ∧ y = .int j ∧ k i j H2
def tAdd (ta tb : TE) : TE := fun σ H Q => t2I ta tb (fun i j H2 => Q (.int (i + j)) H2) σ H
def tSub (ta tb : TE) : TE := fun σ H Q => t2I ta tb (fun i j H2 => Q (.int (i - j)) H2) σ H
/-- the left factor below 2^64 -/
def tMul (ta tb : TE) : TE := fun σ H Q => t2I ta tb (fun i j H2 => (-(2 ^ 64) < i ∧ i < 2 ^ 64) ∧ Q (.int (i * j)) H2) σ H
variable {a b : Expr} {ta tb : TE} {pos : Pos}
theorem pe_add (ha : PE X a ta) (hb : PE X b tb) : PE X (.BinOp a .Add b pos) (tAdd ta tb) := by
  intro pins s σ H Q I h
  refine wpAny_BinOp (bin ha hb I h fun v u s2 x y H2 I2 rx ry q => ?_)
  obtain ⟨i, j, rfl, rfl, q⟩ := q
  obtain ⟨t, rfl⟩ := rx
  obtain ⟨t', rfl⟩ := ry
  exact add_int ⟨.int _, H2, I2.tok _, ⟨_, rfl⟩, q⟩
theorem pe_sub (ha : PE X a ta) (hb : PE X b tb) : PE X (.BinOp a .Sub b pos) (tSub ta tb) := by
  intro pins s σ H Q I h
  refine wpAny_BinOp (bin ha hb I h fun v u s2 x y H2 I2 rx ry q => ?_)
  obtain ⟨i, j, rfl, rfl, q⟩ := q
  obtain ⟨t, rfl⟩ := rx
  obtain ⟨t', rfl⟩ := ry
  exact sub_int ⟨.int _, H2, I2.tok _, ⟨_, rfl⟩, q⟩
theorem pe_mul (ha : PE X a ta) (hb : PE X b tb) : PE X (.BinOp a .Mult b pos) (tMul ta tb) := by
  intro pins s σ H Q I h
  refine wpAny_BinOp (bin ha hb I h fun v u s2 x y H2 I2 rx ry q => ?_)
  obtain ⟨i, j, rfl, rfl, ⟨q1, q2⟩, q⟩ := q
  obtain ⟨t, rfl⟩ := rx
  obtain ⟨t', rfl⟩ := ry
  exact mul_int ⟨.int _, H2, I2.tok _, ⟨_, rfl⟩, q⟩ (.of_left (intBits_le_64 q1 q2))

/-! ### comparisons -/
def PC (X : Cx) (op : CmpOp) (a b : Expr) (t : TE) : Prop :=
  ∀ (pins : List (Addr × Obj)) (s : Shared) (σ : St) (H : Hp) (Q : VK), Inv X pins σ H s → t σ H Q →
    wpAny (model X.prog X.w) X.A (eval a X.env) (fun v s₁ => wpAny (model X.prog X.w) X.A (eval b X.env) (fun u s₂ => wpAny (model X.prog X.w) X.A (compareOp op v u) (EP X pins σ Q) X.xe s₂) X.xe s₁) X.xe s
theorem nobehind (b : Expr) {op : CmpOp} (h : op ≠ .In) (h2 : op ≠ .NotIn) : behindInMarks op b = false := by
  have e1 : (op == CmpOp.In) = false := by cases op <;> first | rfl | exact absurd rfl h
  have e2 : (op == CmpOp.NotIn) = false := by cases op <;> first | rfl | exact absurd rfl h2
  cases b <;> simp [behindInMarks, e1, e2]
def tCmp (p : Int → Int → Bool) (ta tb : TE) : TE := fun σ H Q => t2I ta tb (fun i j H2 => Q (.bl (p i j)) H2) σ H
abbrev tLt : TE → TE → TE := tCmp fun i j => decide (i < j)
abbrev tLe : TE → TE → TE := tCmp fun i j => decide (i ≤ j)
abbrev tGt : TE → TE → TE := tCmp fun i j => decide (j < i)
abbrev tGe : TE → TE → TE := tCmp fun i j => decide (j ≤ i)
abbrev tEqI : TE → TE → TE := tCmp fun i j => decide (i = j)
abbrev tNeI : TE → TE → TE := tCmp fun i j => !decide (i = j)
/-- a comparison of two ints, by its rule -/
theorem pc_int {op : CmpOp} {p : Int → Int → Bool} (ha : PE X a ta) (hb : PE X b tb)
    (rule : ∀ (i j : Int) (t u : Tok) (Q : Value → Shared → Prop) (s : Shared), Q (.bool (p i j)) s → wpAny (model X.prog X.w) X.A (compareOp op (.int i t) (.int j u)) Q X.xe s) : PC X op a b (tCmp p ta tb) := by
  intro pins s σ H Q I h
  refine bin ha hb I h fun v u s2 x y H2 I2 rx ry q => ?_
  obtain ⟨i, j, rfl, rfl, q⟩ := q
  obtain ⟨t, rfl⟩ := rx
  obtain ⟨t', rfl⟩ := ry
  exact rule i j t t' _ s2 ⟨.bl _, H2, I2, rfl, q⟩
theorem pc_lt (ha : PE X a ta) (hb : PE X b tb) : PC X .Lt a b (tLt ta tb) := pc_int ha hb fun _ _ _ _ _ _ h => lt_int h
theorem pc_le (ha : PE X a ta) (hb : PE X b tb) : PC X .LtE a b (tLe ta tb) := pc_int ha hb fun _ _ _ _ _ _ h => le_int h
theorem pc_gt (ha : PE X a ta) (hb : PE X b tb) : PC X .Gt a b (tGt ta tb) := pc_int ha hb fun _ _ _ _ _ _ h => gt_int h
theorem pc_ge (ha : PE X a ta) (hb : PE X b tb) : PC X .GtE a b (tGe ta tb) := pc_int ha hb fun _ _ _ _ _ _ h => ge_int h
theorem pc_eqI (ha : PE X a ta) (hb : PE X b tb) : PC X .Eq a b (tEqI ta tb) := pc_int ha hb fun _ _ _ _ _ _ h => eq_int (by rw [Bool.beq_eq_decide_eq]; exact h)
theorem pc_neI (ha : PE X a ta) (hb : PE X b tb) : PC X .NotEq a b (tNeI ta tb) := pc_int ha hb fun _ _ _ _ _ _ h => ne_int (by rw [bne, Bool.beq_eq_decide_eq]; exact h)
/-- is None -/
def tIsN (ta : TE) : TE := fun σ H Q => ta σ H fun x H1 => Q (.bl (decide (x = .non))) H1
def tNotN (ta : TE) : TE := fun σ H Q => ta σ H fun x H1 => Q (.bl (!decide (x = .non))) H1
theorem RelV.none_iff {x : V} {v : Value} (r : RelV x v) : (v == Value.none) = decide (x = .non) := by
  cases x with
  | non => cases r; rfl
  | bl _ => cases r; rfl
  | int _ => obtain ⟨t, rfl⟩ := r; rfl
  | str _ => obtain ⟨t, rfl⟩ := r; rfl
  | byt _ => obtain ⟨t, rfl⟩ := r; rfl
  | flt _ => obtain ⟨t, rfl⟩ := r; rfl
  | ref _ => cases r; rfl
  | ty _ => cases r; rfl
theorem pc_isN {j pos'} (ha : PE X a ta) : PC X .Is a (.Constant .none j pos') (tIsN ta) := by
  intro pins s σ H Q I h
  refine thn (ha pins s σ H _ I h) fun v s1 ⟨x, H1, I1, r1, q1⟩ => ?_
  exact Constant_none (is_none_gen ⟨.bl _, H1, I1, by rw [r1.none_iff]; rfl, q1⟩)
theorem pc_notN {j pos'} (ha : PE X a ta) : PC X .IsNot a (.Constant .none j pos') (tNotN ta) := by
  intro pins s σ H Q I h
  refine thn (ha pins s σ H _ I h) fun v s1 ⟨x, H1, I1, r1, q1⟩ => ?_
  exact Constant_none (isnot_none_gen ⟨.bl _, H1, I1, by rw [r1.none_iff]; rfl, q1⟩)
/-- a comparison as a value, as a test -/
def tB (t : TE) : TT := fun σ H Q => t σ H fun x H1 => ∃ c, x = .bl c ∧ Q c H1
theorem pe_cmp {op : CmpOp} {t : TE} (h : PC X op a b t) (h1 : behindInMarks op b = false := by first | exact nobehind _ (by decide) (by decide) | rfl) : PE X (.Compare a [op] [b] pos) t := fun pins s σ H Q I hw => wpAny_Compare1 (h pins s σ H Q I hw) h1
theorem pt_cmp {op : CmpOp} {t : TE} (h : PC X op a b t) (h1 : behindInMarks op b = false := by first | exact nobehind _ (by decide) (by decide) | rfl) : PT X (.Compare a [op] [b] pos) (tB t) := by
  intro pins s σ H Q I hw
  refine wpAny_isTrue_Compare1 (thn (h pins s σ H _ I hw) fun v s1 h1 => thn h1 fun u s2 h2 => thn h2 fun c s3 ⟨x, H1, I1, r1, q1⟩ => ?_) h1
  obtain ⟨d, rfl, q⟩ := q1
  cases r1
  exact wpAny_truthy_bool ⟨H1, I1, q⟩
/-- an expression whose value is a bool, as a test -/
theorem pt_val {e : Expr} {t : TE} (h : PE X e t) (he : ∀ whole, isTrue e X.env whole = (do let v ← whole; standAt e.pos; holding [v] (truthy v)) := by intro _; rfl) : PT X e (tB t) := by
  intro pins s σ H Q I hw
  refine isTrue_plain (thn (h pins s σ H _ I hw) fun v s1 ⟨x, H1, I1, r1, q1⟩ => ?_) (he _)
  obtain ⟨d, rfl, q⟩ := q1
  cases r1
  exact wpAny_truthy_bool ⟨H1, I1, q⟩

/-! ### and, or, not -/
variable {tA tB' : TT} {rest : List Expr}
def tAnd (t u : TT) : TT := fun σ H Q => t σ H fun c H1 => if c = true then u σ H1 Q else Q false H1
def tOr (t u : TT) : TT := fun σ H Q => t σ H fun c H1 => if c = true then Q true H1 else u σ H1 Q
def tNot (t : TT) : TT := fun σ H Q => t σ H fun c H1 => Q (!c) H1
theorem pw_and1 (ha : PT X a tA) : PW X (.BoolOp .And [a] pos) tA := by
  intro wh pins s σ H Q I h
  refine isTrue_and (thn (ha pins s σ H Q I h) fun c s1 e => ?_)
  cases c with
  | true => exact isTrue_and_nil e
  | false => exact e
theorem pw_or1 (ha : PT X a tA) : PW X (.BoolOp .Or [a] pos) tA := by
  intro wh pins s σ H Q I h
  refine isTrue_or (thn (ha pins s σ H Q I h) fun c s1 e => ?_)
  cases c with
  | false => exact isTrue_or_nil e
  | true => exact e
theorem pw_and (ha : PT X a tA) (hb : PW X (.BoolOp .And (b :: rest) pos) tB') : PW X (.BoolOp .And (a :: b :: rest) pos) (tAnd tA tB') := by
  intro wh pins s σ H Q I h
  refine isTrue_and (thn (ha pins s σ H _ I h) fun c s1 ⟨H1, I1, q1⟩ => ?_)
  cases c with
  | true => exact hb wh pins s1 σ H1 Q I1 q1
  | false => exact ⟨H1, I1, q1⟩
theorem pw_or (ha : PT X a tA) (hb : PW X (.BoolOp .Or (b :: rest) pos) tB') : PW X (.BoolOp .Or (a :: b :: rest) pos) (tOr tA tB') := by
  intro wh pins s σ H Q I h
  refine isTrue_or (thn (ha pins s σ H _ I h) fun c s1 ⟨H1, I1, q1⟩ => ?_)
  cases c with
  | true => exact ⟨H1, I1, q1⟩
  | false => exact hb wh pins s1 σ H1 Q I1 q1
theorem pt_not (ha : PT X a tA) : PT X (.UnaryOp .Not a pos) (tNot tA) := by
  intro pins s σ H Q I h
  exact isTrue_not (ha pins s σ H (fun c H1 => Q (!c) H1) I h)
/-- .. as values (bools) -/
def tAndV (ta tb : TE) : TE := fun σ H Q => ta σ H fun x H1 => ∃ c, x = .bl c ∧ if c = true then tb σ H1 Q else Q (.bl false) H1
def tOrV (ta tb : TE) : TE := fun σ H Q => ta σ H fun x H1 => ∃ c, x = .bl c ∧ if c = true then Q (.bl true) H1 else tb σ H1 Q
def tNotV (ta : TE) : TE := fun σ H Q => ta σ H fun x H1 => ∃ c, x = .bl c ∧ Q (.bl (!c)) H1
theorem pe_one {op} {t : TE} (h : PE X a t) : PE X (.BoolOp op [a] pos) t := fun pins s σ H Q I hw => BoolOp_one (h pins s σ H Q I hw)
theorem pe_and (ha : PE X a ta) (hb : PE X (.BoolOp .And (b :: rest) pos) tb) : PE X (.BoolOp .And (a :: b :: rest) pos) (tAndV ta tb) := by
  intro pins s σ H Q I h
  refine BoolOp_and (thn (ha pins s σ H _ I h) fun v s1 ⟨x, H1, I1, r1, q1⟩ => ?_)
  obtain ⟨c, rfl, q1⟩ := q1
  cases r1
  refine wpAny_truthy_bool ?_
  cases c with
  | true => exact hb pins s1 σ H1 Q I1 q1
  | false => exact ⟨.bl false, H1, I1, rfl, q1⟩
theorem pe_or (ha : PE X a ta) (hb : PE X (.BoolOp .Or (b :: rest) pos) tb) : PE X (.BoolOp .Or (a :: b :: rest) pos) (tOrV ta tb) := by
  intro pins s σ H Q I h
  refine BoolOp_or (thn (ha pins s σ H _ I h) fun v s1 ⟨x, H1, I1, r1, q1⟩ => ?_)
  obtain ⟨c, rfl, q1⟩ := q1
  cases r1
  refine wpAny_truthy_bool ?_
  cases c with
  | false => exact hb pins s1 σ H1 Q I1 q1
  | true => exact ⟨.bl true, H1, I1, rfl, q1⟩
theorem pe_not (ha : PE X a ta) : PE X (.UnaryOp .Not a pos) (tNotV ta) := by
  intro pins s σ H Q I h
  refine UnaryOp_ (thn (ha pins s σ H _ I h) fun v s1 ⟨x, H1, I1, r1, q1⟩ => ?_)
  obtain ⟨c, rfl, q1⟩ := q1
  cases r1
  exact not_of (wpAny_truthy_bool ⟨.bl (!c), H1, I1, rfl, q1⟩)
/-- a if t else b -/
def tIf (t : TT) (ta tb : TE) : TE := fun σ H Q => t σ H fun c H1 => if c = true then ta σ H1 Q else tb σ H1 Q
theorem pe_ifExp {c : Expr} (hc : PT X c tA) (ha : PE X a ta) (hb : PE X b tb) : PE X (.IfExp c a b pos) (tIf tA ta tb) := by
  intro pins s σ H Q I h
  refine wpAny_IfExp (thn (hc pins s σ H _ I h) fun d s1 ⟨H1, I1, q1⟩ => ?_)
  cases d with
  | true => exact ha pins s1 σ H1 Q I1 q1
  | false => exact hb pins s1 σ H1 Q I1 q1
end
end L2

namespace L2
open PySem PySem.Spec PyProof.Rows

/-! ### a list, a tuple that is read: tracked, frozen, or an object of the module -/
def SqL (K : PySem.W.Frag) (H : Hp) (a : Addr) (xs : List V) : Prop :=
  Rd H a (.lst xs) ∨
    ∃ (o : Obj) (its : Array Value) (n : Nat), K.lookup a = some o ∧ o.cls = .type "list" ∧ o.dict = none ∧ o.data = .seq its n ∧ its.size ≤ sizeLine ∧ Vals xs its.toList
def SqT (K : PySem.W.Frag) (H : Hp) (a : Addr) (xs : List V) : Prop :=
  Rd H a (.tup xs) ∨
    ∃ (o : Obj) (its : Array Value) (n : Nat), K.lookup a = some o ∧ o.cls = .type "tuple" ∧ o.data = .seq its n ∧ its.size ≤ sizeLine ∧ Vals xs its.toList
def absV : Value → Option V
  | .none => some .non
  | .bool b => some (.bl b)
  | .int i _ => some (.int i)
  | .str x _ => some (.str x)
  | .bytes b _ => some (.byt b)
  | .float b _ => some (.flt b)
  | .ref a => some (.ref a)
  | .type n => some (.ty n)
  | _ => none
theorem RelV.abs {x : V} {u : Value} (r : RelV x u) : absV u = some x := by
  cases x with
  | non => cases r; rfl
  | bl _ => cases r; rfl
  | int _ => obtain ⟨t, rfl⟩ := r; rfl
  | str _ => obtain ⟨t, rfl⟩ := r; rfl
  | byt _ => obtain ⟨t, rfl⟩ := r; rfl
  | flt _ => obtain ⟨t, rfl⟩ := r; rfl
  | ref _ => cases r; rfl
  | ty _ => cases r; rfl
theorem RelV.inj {x y : V} {u : Value} (r : RelV x u) (q : RelV y u) : x = y := Option.some.inj (r.abs.symm.trans q.abs)
theorem Vals.inj : ∀ {xs ys : List V} {us : List Value}, Vals xs us → Vals ys us → xs = ys
  | _, _, _, .nil, .nil => rfl
  | _, _, _, .cons r t, .cons r' t' => by rw [r.inj r', Vals.inj t t']
section
variable {X : Cx} {pins : List (Addr × Obj)} {σ : St} {H : Hp} {s : Shared} {a : Addr} {xs ys : List V}
theorem SqL.of {K : PySem.W.Frag} (h : H a = some (.lst xs)) : SqL K H a xs := .inl (.inl h)
theorem SqT.of {K : PySem.W.Frag} (h : H a = some (.tup xs)) : SqT K H a xs := .inl (.inl h)
theorem Inv.list (I : Inv X pins σ H s) (h : SqL X.K H a xs) : ∃ its : List Value, Vals xs its ∧ PlainL s.heap a its.toArray ∧ xs.length ≤ sizeLine := by
  rcases h with h | ⟨o, its, n, hk, hc, hd, hs, hz, r⟩
  · obtain ⟨z, its, n, r, e⟩ := h.ok I.hok
    exact ⟨its, r, ⟨_, n, e, rfl, rfl, rfl⟩, z⟩
  · refine ⟨its.toList, r, ⟨o, n, I.kIn a o hk, hc, hd, by simpa using hs⟩, ?_⟩
    have e := r.length
    simp only [Array.length_toList] at e
    omega
theorem Inv.tuple (I : Inv X pins σ H s) (h : SqT X.K H a xs) : ∃ its : List Value, Vals xs its ∧ IsTup s.heap a its.toArray ∧ xs.length ≤ sizeLine := by
  rcases h with h | ⟨o, its, n, hk, hc, hs, hz, r⟩
  · obtain ⟨z, its, r, p⟩ := h.ok I.hok
    exact ⟨its, r, p, z⟩
  · refine ⟨its.toList, r, ⟨o, I.kIn a o hk, hc, n, by simpa using hs⟩, ?_⟩
    have e := r.length
    simp only [Array.length_toList] at e
    omega
theorem Inv.list_inj (I : Inv X pins σ H s) (h : SqL X.K H a xs) (h' : SqL X.K H a ys) : xs = ys := by
  obtain ⟨its, r, ⟨o, n, e, _, _, d⟩, _⟩ := I.list h
  obtain ⟨its', r', ⟨o', n', e', _, _, d'⟩, _⟩ := I.list h'
  rw [e] at e'; cases e'
  rw [d] at d'
  injection d' with d1 _
  have : its = its' := by simpa using congrArg Array.toList d1
  subst this
  exact r.inj r'
theorem Inv.tuple_inj (I : Inv X pins σ H s) (h : SqT X.K H a xs) (h' : SqT X.K H a ys) : xs = ys := by
  obtain ⟨its, r, ⟨o, e, _, n, d⟩, _⟩ := I.tuple h
  obtain ⟨its', r', ⟨o', e', _, n', d'⟩, _⟩ := I.tuple h'
  rw [e] at e'; cases e'
  rw [d] at d'
  injection d' with d1 _
  have : its = its' := by simpa using congrArg Array.toList d1
  subst this
  exact r.inj r'
end

/-! ### another wish about exceptions -/
abbrev Cx.wish (X : Cx) (E : Value → Shared → Prop) : Cx := { X with xe := E }
/-- no exception leaves -/
abbrev Cx.nox (X : Cx) : Cx := X.wish fun _ _ => False
theorem Cx.Ok.wish {X : Cx} (ok : X.Ok) (E : Value → Shared → Prop) : (X.wish E).Ok :=
  ⟨ok.mod, ok.kind, ok.glob, ok.blt, ok.above, ok.inj, ok.has, ok.cab, ok.hd, ok.frames, ok.stk, ok.exf, ok.bs, ok.bsz, ok.noex, ok.exfs, ok.funs, ok.frf⟩
theorem Cx.Ok.unwish {X : Cx} {E : Value → Shared → Prop} (ok : (X.wish E).Ok) : X.Ok :=
  ⟨ok.mod, ok.kind, ok.glob, ok.blt, ok.above, ok.inj, ok.has, ok.cab, ok.hd, ok.frames, ok.stk, ok.exf, ok.bs, ok.bsz, ok.noex, ok.exfs, ok.funs, ok.frf⟩
section
variable {X : Cx} {pins : List (Addr × Obj)} {σ : St} {H : Hp} {s : Shared} {E : Value → Shared → Prop}
theorem Inv.wish (I : Inv X pins σ H s) (E : Value → Shared → Prop) : Inv (X.wish E) pins σ H s := ⟨I.ok.wish E, I.os, I.bare, I.base, I.loc, I.cell, I.free, I.freeC, I.pin, I.hok, I.len⟩
theorem Inv.unwish (I : Inv (X.wish E) pins σ H s) : Inv X pins σ H s := ⟨I.ok.unwish, I.os, I.bare, I.base, I.loc, I.cell, I.free, I.freeC, I.pin, I.hok, I.len⟩
theorem SP.unwish {D : Ends} {f : Flow} {s' : Shared} (h : SP (X.wish E) pins D f s') : SP X pins D f s' := by
  cases f with
  | next => obtain ⟨σ', H', I, q⟩ := h; exact ⟨σ', H', I.unwish, q⟩
  | brk => obtain ⟨σ', H', I, q⟩ := h; exact ⟨σ', H', I.unwish, q⟩
  | cont => obtain ⟨σ', H', I, q⟩ := h; exact ⟨σ', H', I.unwish, q⟩
  | ret u => obtain ⟨v, σ', H', I, r, q⟩ := h; exact ⟨v, σ', H', I.unwish, r, q⟩
theorem PE.nox {e : Expr} {t : TE} (h : PE X.nox e t) : PE X e t := fun pins s σ H Q I hw =>
  wpAny_mono (h pins s σ H Q (I.wish _) hw) (fun _ _ ⟨v, H', I', r, q⟩ => ⟨v, H', I'.unwish, r, q⟩) fun _ _ z => False.elim z
theorem PT.nox {e : Expr} {t : TT} (h : PT X.nox e t) : PT X e t := fun pins s σ H Q I hw =>
  wpAny_mono (h pins s σ H Q (I.wish _) hw) (fun _ _ ⟨H', I', q⟩ => ⟨H', I'.unwish, q⟩) fun _ _ z => False.elim z
theorem PSs.nox {st : List Stmt} {t : TS} (h : PSs X.nox st t) : PSs X st t := fun pins s σ H D I hw =>
  wpAny_mono (h pins s σ H D (I.wish _) hw) (fun _ _ q => q.unwish) fun _ _ z => False.elim z
end

/-! ### blocks and small statements -/
section
variable {X : Cx} {st : Stmt} {rest : List Stmt} {t u : TS} {e : Expr} {te : TE} {pos : Pos}
def tNext : TS := fun D σ H => D.nx σ H
def tSeq (t u : TS) : TS := fun D σ H => t { D with nx := u D } σ H
theorem pss_nil : PSs X [] tNext := fun _ _ σ H _ I h => wpAny_execs_nil ⟨σ, H, I, h⟩
theorem pss_cons (h1 : PS X st t) (h2 : PSs X rest u) : PSs X (st :: rest) (tSeq t u) := by
  intro pins s σ H D I h
  refine wpAny_execs_cons (thn (h1 pins s σ H { D with nx := u D } I h) fun f s1 q => ?_)
  cases f with
  | next =>
    obtain ⟨σ', H', I', q⟩ := q
    exact h2 pins s1 σ' H' D I' q
  | ret v => exact q
  | brk => exact q
  | cont => exact q
theorem pss_one (h1 : PS X st t) : PSs X [st] t := by
  intro pins s σ H D I h
  refine wpAny_execs_cons (thn (h1 pins s σ H D I h) fun f s1 q => ?_)
  cases f with
  | next => exact wpAny_execs_nil q
  | ret v => exact q
  | brk => exact q
  | cont => exact q
def tBreak : TS := fun D σ H => D.bk σ H
def tCont : TS := fun D σ H => D.ct σ H
theorem ps_pass : PS X (.Pass pos) tNext := fun _ _ σ H _ I h => wpAny_Pass ⟨σ, H, I, h⟩
theorem ps_break : PS X (.Break pos) tBreak := fun _ _ σ H _ I h => wpAny_Break ⟨σ, H, I, h⟩
theorem ps_continue : PS X (.Continue pos) tCont := fun _ _ σ H _ I h => wpAny_Continue ⟨σ, H, I, h⟩
/-- in a def's body nothing is shown -/
theorem Inv.quiet {pins : List (Addr × Obj)} {σ : St} {H : Hp} {s : Shared} (I : Inv X pins σ H s) : interactive X.env = false := by simp [interactive, I.ok.kind]
/-- a docstring -/
theorem ps_doc {x j pos pos'} : PS X (.Expr (.Constant (.str x) j pos) pos') tNext := fun _ s σ H _ I h => wpAny_Expr (Calls.Constant_str (show SP X _ _ .next { s with toks := s.toks + 1 } from ⟨σ, H, I.tok _, h⟩)) I.quiet
/-- an expression whose value is dropped -/
def tDrop (te : TE) : TS := fun D σ H => te σ H fun _ H1 => D.nx σ H1
theorem ps_expr (he : PE X e te) (hs : swapsWith e none pos.line X.env = pure false := by rfl) : PS X (.Expr e pos) (tDrop te) := by
  intro pins s σ H D I h
  exact wpAny_Expr_any (thn (he pins s σ H _ I h) fun v s1 ⟨x, H1, I1, r1, q1⟩ => ⟨σ, H1, I1, q1⟩) I.quiet hs
def tRet (te : TE) : TS := fun D σ H => te σ H D.rt
theorem ps_ret (he : PE X e te) : PS X (.Return (some e) pos) (tRet te) := by
  intro pins s σ H D I h
  exact wpAny_Return_some (thn (he pins s σ H _ I h) fun v s1 ⟨x, H1, I1, r1, q1⟩ => ⟨x, σ, H1, I1, r1, q1⟩)
def tRetN : TS := fun D _ H => D.rt .non H
theorem ps_retN : PS X (.Return none pos) tRetN := fun _ _ σ H _ I h => wpAny_Return_none ⟨.non, σ, H, I, rfl, h⟩
def tIfS (c : TT) (t u : TS) : TS := fun D σ H => c σ H fun b H1 => if b = true then t D σ H1 else u D σ H1
theorem ps_if {c : Expr} {a b : List Stmt} {tc : TT} (hc : PT X c tc) (ha : PSs X a t) (hb : PSs X b u) : PS X (.If c a b pos) (tIfS tc t u) := by
  intro pins s σ H D I h
  refine wpAny_If (thn (hc pins s σ H _ I h) fun d s1 ⟨H1, I1, q1⟩ => ?_)
  cases d with
  | true => exact ha pins s1 σ H1 D I1 q1
  | false => exact hb pins s1 σ H1 D I1 q1
/-- code that the proof never comes to -/
def tNever : TS := fun _ _ _ => False
theorem ps_never : PS X st tNever := fun _ _ _ _ _ _ h => h.elim
theorem pss_never {sts : List Stmt} : PSs X sts tNever := fun _ _ _ _ _ _ h => h.elim
end

/-! ### targets -/
abbrev TG := V → St → Hp → (St → Hp → Prop) → Prop
abbrev TGs := List V → St → Hp → (St → Hp → Prop) → Prop
def PG (X : Cx) (target : Expr) (t : TG) : Prop :=
  ∀ (pins : List (Addr × Obj)) (s : Shared) (σ : St) (H : Hp) (v : V) (u : Value) (Q : St → Hp → Prop), Inv X pins σ H s → RelV v u → t v σ H Q →
    wpAny (model X.prog X.w) X.A (assign target X.env u) (fun _ s' => ∃ σ' H', Inv X pins σ' H' s' ∧ Q σ' H') X.xe s
/-- several targets, one after another -/
def PGs (X : Cx) (ts : List Expr) (t : TGs) : Prop :=
  ∀ (pins : List (Addr × Obj)) (s : Shared) (σ : St) (H : Hp) (vs : List V) (us : List Value) (Q : St → Hp → Prop), Inv X pins σ H s → Vals vs us → t vs σ H Q →
    wpAny (model X.prog X.w) X.A (assignInOrder ((assignEach ts X.env).map (·.2)) us) (fun _ s' => ∃ σ' H', Inv X pins σ' H' s' ∧ Q σ' H') X.xe s
/-- o[i] = v, by values -/
abbrev TSet := V → V → V → Hp → (Hp → Prop) → Prop
def PSet (X : Cx) (t : TSet) : Prop :=
  ∀ (pins : List (Addr × Obj)) (s : Shared) (σ : St) (H : Hp) (o i v : V) (ov iv u : Value) (Q : Hp → Prop), Inv X pins σ H s → RelV o ov → RelV i iv → RelV v u → t o i v H Q →
    wpAny (model X.prog X.w) X.A (setItem ov iv u) (fun _ s' => ∃ H', Inv X pins σ H' s' ∧ Q H') X.xe s
/-- a op= b, by values -/
abbrev TIp := V → V → Hp → VK → Prop
def PIp (X : Cx) (op : Operator) (t : TIp) : Prop :=
  ∀ (pins : List (Addr × Obj)) (s : Shared) (σ : St) (H : Hp) (x y : V) (v u : Value) (Q : VK), Inv X pins σ H s → RelV x v → RelV y u → t x y H Q →
    wpAny (model X.prog X.w) X.A (inplaceOp op v u) (EP X pins σ Q) X.xe s
section
variable {X : Cx} {pos : Pos}
def gName (i : Nat) : TG := fun v σ H Q => Q (σ.set i (some v)) H
theorem pg_name {i : Nat} {x : Str} (hN : X.N.Nodup) (hi : X.N[i]? = some x) (hx : Loc X.env.scope x) (hf : X.fn x = true ∨ X.env.scope.names.lookup x = some .local := by first | exact .inl rfl | exact .inr rfl | assumption) : PG X (.Name x pos) (gName i) := by
  intro pins s σ H v u Q I r h
  exact wpAny_assign_Name (store_ok I hN hi hx r (fun s' I' => ⟨_, H, I', h⟩) hf)
def gNil : TGs := fun vs σ H Q => vs = [] ∧ Q σ H
def gCons (t : TG) (u : TGs) : TGs := fun vs σ H Q => ∃ v r, vs = v :: r ∧ t v σ H fun σ' H' => u r σ' H' Q
theorem pgs_nil : PGs X [] gNil := by
  intro pins s σ H vs us Q I r h
  obtain ⟨e, h⟩ := h
  subst e
  cases r
  exact assignInOrder_nil ⟨σ, H, I, h⟩
theorem pgs_cons {e : Expr} {es : List Expr} {t : TG} {u : TGs} (h1 : PG X e t) (h2 : PGs X es u)
    (hs : (assignEach (e :: es) X.env).map (·.2) = assign e X.env :: (assignEach es X.env).map (·.2) := by rfl) : PGs X (e :: es) (gCons t u) := by
  intro pins s σ H vs us Q I r h
  obtain ⟨v, vr, e1, h⟩ := h
  subst e1
  cases r with
  | cons r rr =>
    rw [hs]
    refine assignInOrder_cons (thn (h1 pins s σ H _ _ _ I r h) fun _ s1 ⟨σ1, H1, I1, q1⟩ => ?_)
    exact h2 pins s1 σ1 H1 _ _ Q I1 rr q1
/-- (a, b, ..) = a tuple of that length -/
def gTup (K : PySem.W.Frag) (n : Nat) (t : TGs) : TG := fun v σ H Q => ∃ a xs, v = .ref a ∧ SqT K H a xs ∧ xs.length = n ∧ t xs σ H Q
theorem pg_tup {es : List Expr} {k : Nat} {t : TGs} {n : Nat} (hc : X.calm = true) (h : PGs X es t)
    (hn : (assignEach es X.env).length = n := by rfl) (hst : (assignEach es X.env).findIdx? (·.1) = none := by rfl) : PG X (.Tuple es k pos) (gTup X.K n t) := by
  intro pins s σ H v u Q I r hw
  obtain ⟨a, xs, e1, hq, hl, hw⟩ := hw
  subst e1
  cases r
  obtain ⟨its, rv, ht, hz⟩ := I.tuple hq
  refine assign_Tuple_tuple (I.ok.hd hc) ht (by simp [hn, ← hl, rv.length]) hst fun h' hx => ?_
  have I1 : Inv X pins σ H { s with heap := h' } := I.kept (t' := s.toks) fun b o e => hx b o (Nat.ne_of_lt (Heap.lt_size e)) e
  exact h pins _ σ H xs _ Q I1 (by simpa using rv) hw
/-- o[i] = .. -/
def gSub (to ti : TE) (t : TSet) : TG := fun v σ H Q => to σ H fun o H1 => ti σ H1 fun i H2 => t o i v H2 fun H3 => Q σ H3
theorem pg_sub {o i : Expr} {to ti : TE} {t : TSet} (ho : PE X o to) (hi : PE X i ti) (hs : PSet X t)
    (ha : ∀ v, assign (.Subscript o i pos) X.env v = (do
      let ov ← holding [v] (eval o X.env)
      let iv ← holding [v, ov] (eval i X.env)
      standAt pos
      holding [v, ov, iv] (setItem ov iv v)
      release [v, ov, iv] []) := by intro _; rfl) : PG X (.Subscript o i pos) (gSub to ti t) := by
  intro pins s σ H v u Q I r h
  rw [ha]
  refine wpAny_bind (wpAny_holding (thn (ho pins s σ H _ I h) fun ov s1 ⟨x, H1, I1, r1, q1⟩ => ?_))
  refine wpAny_bind (wpAny_holding (thn (hi pins s1 σ H1 _ I1 q1) fun iv s2 ⟨y, H2, I2, r2, q2⟩ => ?_))
  refine wpAny_bind (wpAny_standAt (wpAny_bind (wpAny_holding (thn (hs pins s2 σ H2 x y v ov iv u _ I2 r1 r2 r q2) fun _ s3 ⟨H3, I3, q3⟩ => ?_))))
  exact wpAny_release ⟨σ, H3, I3, q3⟩
/-- target = value -/
def tAsg (te : TE) (g : TG) : TS := fun D σ H => te σ H fun x H1 => g x σ H1 D.nx
theorem ps_asg {tg e : Expr} {te : TE} {g : TG} (he : PE X e te) (hg : PG X tg g) (hs : swapsWithSole [tg] e pos.line X.env = pure false := by rfl) (hw : swappedStores [tg] e X.env = pure none := by rfl)
    (h1 : (assignEach [tg] X.env).map (·.2) = [assign tg X.env] := by rfl) : PS X (.Assign [tg] e pos) (tAsg te g) := by
  intro pins s σ H D I h
  refine wpAny_Assign_stores (thn (he pins s σ H _ I h) fun v s1 ⟨x, H1, I1, r1, q1⟩ => ?_) hs hw
  rw [h1]
  exact thn (hg pins s1 σ H1 x v _ I1 r1 q1) fun _ s2 q => q
/-- name = value -/
theorem ps_set {i : Nat} {x : Str} {e : Expr} {te : TE} {pos' : Pos} (hN : X.N.Nodup) (hi : X.N[i]? = some x) (hx : Loc X.env.scope x) (he : PE X e te) (hs : swapsWith e (some (.Name x pos')) pos.line X.env = pure false := by rfl) (hf : X.fn x = true ∨ X.env.scope.names.lookup x = some .local := by first | exact .inl rfl | exact .inr rfl | assumption) :
    PS X (.Assign [.Name x pos'] e pos) (tAsg te (gName i)) := by
  intro pins s σ H D I h
  refine wpAny_Assign_Name (thn (he pins s σ H _ I h) fun v s1 ⟨y, H1, I1, r1, q1⟩ => ?_) hs
  exact store_ok I1 hN hi hx r1 (fun s2 I2 => ⟨_, H1, I2, q1⟩) hf
/-- a, b = x, y with plain local names: stored from the right; the pair itself is not tracked (the opening rows as in PyProof/Rows/TupAssign.lean:23) -/
def tPar (i j : Nat) (ta : TA) : TS := fun D σ H => ta σ H fun vs H1 => ∃ v w, vs = [v, w] ∧ D.nx ((σ.set i (some v)).set j (some w)) H1
theorem ps_par {i j : Nat} {x y : Str} {a b : Expr} {ta : TA} {px py pt : Pos} {kt k2 pt2} (hc : X.calm = true) (hN : X.N.Nodup) (hi : X.N[i]? = some x) (hj : X.N[j]? = some y) (hij : i ≠ j)
    (hx : X.env.scope.names.lookup x = some .local) (hy : X.env.scope.names.lookup y = some .local) (ha : PA X [a, b] ta)
    (hw : swappedStores [.Tuple [.Name x px, .Name y py] kt pt] (.Tuple [a, b] k2 pt2) X.env = pure (some [x, y]))
    (hs : swapsWithSole [.Tuple [.Name x px, .Name y py] kt pt] (.Tuple [a, b] k2 pt2) pos.line X.env = pure false := by rfl) :
    PS X (.Assign [.Tuple [.Name x px, .Name y py] kt pt] (.Tuple [a, b] k2 pt2) pos) (tPar i j ta) := by
  intro pins s σ H D I h
  rw [exec_Assign_arm]
  refine wpAny_bind (wpAny_standAt ?_)
  rw [hs]
  refine wpAny_bind (wpAny_pure ?_)
  rw [if_neg (by decide)]
  refine wpAny_bind (Tuple_ (thn (ha _ pins s σ H _ I h) fun us s1 ⟨vs, H1, I1, r1, q1⟩ => ?_))
  obtain ⟨v, w, e1, q1⟩ := q1
  subst e1
  obtain ⟨u1, u2, rfl, rv, rw'⟩ : ∃ u1 u2, us = [u1, u2] ∧ RelV v u1 ∧ RelV w u2 := by
    cases r1 with
    | cons p q =>
      cases q with
      | cons p' q' =>
        cases q'
        exact ⟨_, _, rfl, p, p'⟩
  refine wpAny_newObj_type ?_ (by show 2 ≤ sizeLine; decide)
  have I2 : Inv X pins σ H1 { s1 with heap := s1.heap.push { cls := .type "tuple", data := .seq [u1, u2].toArray } } := I1.kept (t' := s1.toks) fun b o e => Heap.get?_push_of_some _ e
  rw [hw]
  refine wpAny_bind (wpAny_pure ?_)
  show wpAny (model X.prog X.w) X.A (do rule "assign.swapped-stores"; let items ← unpackItems (.ref s1.heap.objs.size) 2 none; assignInOrder [fun v => bindName X.env y v, fun v => bindName X.env x v] items.reverse; pure Flow.next) _ _ _
  refine wpAny_bind (wpAny_rule (wpAny_bind (unpackItems_tuple (items := #[u1, u2]) (I.ok.hd hc) (IsTup.new s1.heap _) fun h' hx' => ?_)))
  have I3 := I2.kept (h' := h') (t' := s1.toks) fun b o e => hx' b o (Nat.ne_of_lt (Heap.lt_size e)) e
  show wpAny _ _ (assignInOrder [fun v => bindName X.env y v, fun v => bindName X.env x v] [u2, u1] >>= fun _ => pure Flow.next) _ _ _
  refine wpAny_bind (assignInOrder_cons (wpAny_bindName (store_ok I3 hN hj (.inl hy) rw' (fun s2 I4 => ?_) (.inr hy))))
  refine assignInOrder_cons (wpAny_bindName (store_ok I4 hN hi (.inl hx) rv (fun s3 I5 => assignInOrder_nil (wpAny_pure ?_)) (.inr hx)))
  rw [List.set_comm _ _ (Ne.symm hij)] at I5
  exact ⟨_, H1, I5, q1⟩
/-- name op= e -/
def tAug (i : Nat) (te : TE) (ti : TIp) : TS := fun D σ H => ∃ x, σ[i]? = some (some x) ∧ te σ H fun y H1 => ti x y H1 fun z H2 => D.nx (σ.set i (some z)) H2
theorem ps_aug {i : Nat} {x : Str} {e : Expr} {te : TE} {op : Operator} {ti : TIp} {pos' : Pos} (hN : X.N.Nodup) (hi : X.N[i]? = some x) (hx : Loc X.env.scope x) (he : PE X e te) (ho : PIp X op ti) (hf : X.fn x = true ∨ X.env.scope.names.lookup x = some .local := by first | exact .inl rfl | exact .inr rfl | assumption) :
    PS X (.AugAssign (.Name x pos') op e pos) (tAug i te ti) := by
  intro pins s σ H D I h
  obtain ⟨v, e1, h⟩ := h
  obtain ⟨m, hn, hl⟩ := I.loc
  have vis : Vis X.env.scope x := by rcases hx with k | k; exact .inl k; exact .inr (.inl k)
  obtain ⟨u, r, l⟩ := hl i x v hi e1 vis
  refine wpAny_AugAssign_Name ?_
  have go : wpAny (model X.prog X.w) X.A (eval e X.env) (fun w s₂ => wpAny (model X.prog X.w) X.A (inplaceOp op u w) (fun r s₃ => wpAny (model X.prog X.w) X.A (storeName X.env x r) (fun _ => SP X pins D .next) X.xe s₃) X.xe s₂) X.xe s := by
    refine thn (he pins s σ H _ I h) fun w s1 ⟨y, H1, I1, r1, q1⟩ => ?_
    refine thn (ho pins s1 σ H1 v y u w _ I1 r r1 q1) fun z s2 ⟨zv, H2, I2, r2, q2⟩ => ?_
    exact store_ok I2 hN hi hx r2 (fun s3 I3 => ⟨_, H2, I3, q2⟩) hf
  rcases l with ⟨hk, hm⟩ | ⟨hk, c, hc, hcell⟩
  · exact wpAny_loadName_local I.ok.kind hk hn hm go
  · rcases hk with hk | hk
    · exact wpAny_loadName_cell I.ok.kind hk hc hcell go
    · rcases hx with k | k
      · have : X.env.scope.names.lookup x = some .free := hk
        rw [k] at this; cases this
      · have : X.env.scope.names.lookup x = some .free := hk
        rw [k] at this; cases this
/-- o[i] op= e -/
def tAugS (to ti te : TE) (tget : V → V → Hp → VK → Prop) (tip : TIp) (tset : TSet) : TS := fun D σ H => to σ H fun o H1 => ti σ H1 fun i H2 => tget o i H2 fun x H3 => te σ H3 fun y H4 => tip x y H4 fun z H5 => tset o i z H5 fun H6 => D.nx σ H6
/-- o[i], by values -/
def PGet (X : Cx) (t : V → V → Hp → VK → Prop) : Prop :=
  ∀ (pins : List (Addr × Obj)) (s : Shared) (σ : St) (H : Hp) (o i : V) (ov iv : Value) (Q : VK), Inv X pins σ H s → RelV o ov → RelV i iv → t o i H Q →
    wpAny (model X.prog X.w) X.A (getItem ov iv) (EP X pins σ Q) X.xe s
theorem ps_augS {o i e : Expr} {to ti te : TE} {tget : V → V → Hp → VK → Prop} {tip : TIp} {tset : TSet} {op : Operator} {tpos : Pos} (ho : PE X o to) (hi : PE X i ti) (hg : PGet X tget) (he : PE X e te) (hp : PIp X op tip) (hs : PSet X tset)
    (ha : ∀ ov iv new, augStore i ov iv new = (do holding [new, ov, iv] (setItem ov iv new); release [new, ov, iv] []; pure .next) := by intros; rfl) : PS X (.AugAssign (.Subscript o i tpos) op e pos) (tAugS to ti te tget tip tset) := by
  intro pins s σ H D I h
  refine wpAny_AugAssign_SubscriptAny (thn (ho pins s σ H _ I h) fun ov s1 ⟨x1, H1, I1, r1, q1⟩ => ?_) ha
  refine thn (hi pins s1 σ H1 _ I1 q1) fun iv s2 ⟨x2, H2, I2, r2, q2⟩ => ?_
  refine thn (hg pins s2 σ H2 x1 x2 ov iv _ I2 r1 r2 q2) fun old s3 ⟨x3, H3, I3, r3, q3⟩ => ?_
  refine thn (he pins s3 σ H3 _ I3 q3) fun v s4 ⟨x4, H4, I4, r4, q4⟩ => ?_
  refine thn (hp pins s4 σ H4 x3 x4 old v _ I4 r3 r4 q4) fun new s5 ⟨x5, H5, I5, r5, q5⟩ => ?_
  exact thn (hs pins s5 σ H5 x1 x2 x5 ov iv new _ I5 r1 r2 r5 q5) fun _ s6 ⟨H6, I6, q6⟩ => ⟨σ, H6, I6, q6⟩
/-- ints -/
def ipI (f : Int → Int → Int) : TIp := fun x y H Q => ∃ i j, x = .int i ∧ y = .int j ∧ Q (.int (f i j)) H
theorem ip_add : PIp X .Add (ipI fun i j => i + j) := by
  intro pins s σ H x y v u Q I r1 r2 h
  obtain ⟨i, j, e1, e2, q⟩ := h
  subst e1; subst e2
  obtain ⟨t, rfl⟩ := r1
  obtain ⟨t', rfl⟩ := r2
  exact iadd_int ⟨.int _, H, I.tok _, ⟨_, rfl⟩, q⟩
theorem ip_sub : PIp X .Sub (ipI fun i j => i - j) := by
  intro pins s σ H x y v u Q I r1 r2 h
  obtain ⟨i, j, e1, e2, q⟩ := h
  subst e1; subst e2
  obtain ⟨t, rfl⟩ := r1
  obtain ⟨t', rfl⟩ := r2
  exact isub_int ⟨.int _, H, I.tok _, ⟨_, rfl⟩, q⟩
end

/-! ### while -/
section
variable {X : Cx} {pos : Pos}
/-- the invariant W with its measure -/
def tWhile (c : TT) (tb : TS) : TS := fun D σ H => ∃ W : Nat → St → Hp → Prop, (∃ m, W m σ H) ∧ ∀ m σ H, W m σ H →
  c σ H fun b H1 => if b = true then ∃ N : St → Hp → Prop, (∀ σ' H', N σ' H' → ∃ m', m' < m ∧ W m' σ' H') ∧ tb { D with nx := N, ct := N, bk := D.nx } σ H1 else D.nx σ H1
theorem ps_while {c : Expr} {body : List Stmt} {tc : TT} {tb : TS} (hp : PassesOwn (model X.prog X.w) X.A X.env X.xe) (hc : PT X c tc) (hb : PSs X body tb) : PS X (.While c body [] pos) (tWhile tc tb) := by
  intro pins s σ H D I h
  obtain ⟨W, ⟨m0, w0⟩, turn⟩ := h
  refine wpAny_While (codeAny_whileLoop (fun n s' => ∃ σ' H', Inv X pins σ' H' s' ∧ W n σ' H') ?_ m0 ⟨σ, H, I, w0⟩)
  rintro n s1 ⟨σ1, H1, I1, w1⟩
  refine wpAny_passesOwn hp (thn (hc pins s1 σ1 H1 _ I1 (turn n σ1 H1 w1)) fun b s2 ⟨H2, I2, q2⟩ => ?_)
  cases b with
  | true =>
    obtain ⟨N, hN, q2⟩ := q2
    rw [if_pos rfl]
    refine wpAny_passesOwn hp (thn (hb pins s2 σ1 H2 _ I2 q2) fun f s3 q3 => ?_)
    cases f with
    | next =>
      obtain ⟨σ3, H3, I3, n3⟩ := q3
      obtain ⟨m', hm, w3⟩ := hN σ3 H3 n3
      exact ⟨m', hm, σ3, H3, I3, w3⟩
    | cont =>
      obtain ⟨σ3, H3, I3, n3⟩ := q3
      obtain ⟨m', hm, w3⟩ := hN σ3 H3 n3
      exact ⟨m', hm, σ3, H3, I3, w3⟩
    | brk => exact q3
    | ret v => exact q3
  | false =>
    rw [if_neg Bool.false_ne_true]
    exact wpAny_execs_nil ⟨σ1, H2, I2, q2⟩
end

/-! ### what a loop or a comprehension walks -/
/-- at turn i: it yields x (the heap may grow), or it stops -/
structure It where
  go : Nat → Hp → Prop
  yld : Nat → Hp → V → Hp → Prop
  stop : Nat → Hp → Prop
/-- the iterator's own objects may turn: they are not the frame's, not pinned, younger than the entry (or a comprehension's own) -/
def FpOk (X : Cx) (pins : List (Addr × Obj)) (H : Hp) (b : Addr) : Prop :=
  H b = none ∧ b ≠ X.env.locals ∧ b ∉ X.fs ∧ (b ∈ X.ex ∨ X.s₀.heap.objs.size ≤ b) ∧ (∀ x c, X.env.cells.lookup x = some c → c ≠ b) ∧ ∀ p ∈ X.pn ++ pins, p.1 ≠ b
theorem Inv.fpOk {X : Cx} {pins : List (Addr × Obj)} {σ : St} {H H' : Hp} {s : Shared} {b : Addr} (I : Inv X pins σ H s) (hb : s.heap.objs.size ≤ b) (hn : H' b = none) : FpOk X pins H' b := by
  refine ⟨hn, Nat.ne_of_gt (Nat.lt_of_lt_of_le I.lt hb), I.nofs hb, .inr (Nat.le_trans I.sz hb), fun x c e z => ?_, fun p hp z => ?_⟩
  · obtain ⟨v, q⟩ := I.cell x c e
    exact absurd (Nat.lt_of_lt_of_le q.lt (by rw [z]; exact hb)) (Nat.lt_irrefl _)
  · exact absurd (Nat.lt_of_lt_of_le (Heap.lt_size (I.pin p hp).1) (by rw [z]; exact hb)) (Nat.lt_irrefl _)
structure Turn (P : Program) (w : World) (K : PySem.W.Frag) (tg : Expr) (J : It) (fp : List Addr) (it : Addr) (tn : Nat → Heap → Prop) : Prop where
  mem : it ∈ fp
  obj : ∀ i h, tn i h → ∀ b ∈ fp, ∃ o, h.get? b = some o ∧ ∀ v, o.data ≠ .cell v
  keep : ∀ i h h', tn i h → (∀ b ∈ fp, ∀ o, h.get? b = some o → h'.get? b = some o) → tn i h'
  item : ∀ (X : Cx), X.prog = P → X.w = w → X.K = K → X.calm = true → ∀ (i : Nat) (pins : List (Addr × Obj)) (s : Shared) (σ : St) (H : Hp) (E : Value → Shared → Prop), Inv X pins σ H s → (∀ b ∈ fp, FpOk X pins H b) → tn i s.heap → J.go i H →
    wpAny (model P w) X.A (pyNext (.ref it)) (fun r s1 => ∃ u, r = some u ∧
      wpAny (model P w) X.A (letOwnedTupleGo tg (.ref it) u) (fun _ s2 => ∃ x H', Inv X pins σ H' s2 ∧ RelV x u ∧ J.yld i H x H' ∧ tn (i + 1) s2.heap ∧ ∀ b ∈ fp, H' b = none) E s1) E s
  done : ∀ (X : Cx), X.prog = P → X.w = w → X.K = K → X.calm = true → ∀ (i : Nat) (pins : List (Addr × Obj)) (s : Shared) (σ : St) (H : Hp) (E : Value → Shared → Prop), Inv X pins σ H s → (∀ b ∈ fp, FpOk X pins H b) → tn i s.heap → J.stop i H →
    wpAny (model P w) X.A (pyNext (.ref it)) (fun r s1 => r = none ∧ Inv X pins σ H s1) E s
  self : ∀ (A : Around) (i : Nat) (s : Shared) (Q : Value → Shared → Prop) (E : Value → Shared → Prop), tn i s.heap → Q (.ref it) s → wpAny (model P w) A (pyIter (.ref it)) Q E s
abbrev TI := St → Hp → (It → Hp → Prop) → Prop
/-- an iterator has come -/
def PIE (X : Cx) (pins : List (Addr × Obj)) (σ : St) (tg : Expr) (R : It → Hp → Prop) (itv : Value) (s2 : Shared) : Prop :=
  ∃ (it : Addr) (fp : List Addr) (tn : Nat → Heap → Prop) (J : It) (H' : Hp), itv = .ref it ∧ Inv X pins σ H' s2 ∧ Turn X.prog X.w X.K tg J fp it tn ∧ tn 0 s2.heap ∧ (∀ b ∈ fp, FpOk X pins H' b) ∧ R J H'
def PI (X : Cx) (tg iter : Expr) (wi : TI) : Prop :=
  ∀ (pins : List (Addr × Obj)) (s : Shared) (σ : St) (H : Hp) (R : It → Hp → Prop), Inv X pins σ H s → wi σ H R →
    wpAny (model X.prog X.w) X.A (eval iter X.env) (fun v s1 => wpAny (model X.prog X.w) X.A (pyIter v) (PIE X pins σ tg R) X.xe s1) X.xe s

/-- the step ahead of the store is nothing for an iterator that keeps no tuple -/
theorem go_of {M : Model} {A : Around} {E : Value → Shared → Prop} {s : Shared} {tg : Expr} {it : Addr} {u : Value} {o : Obj} {n : String} {vs : Array Value} {Q : Unit → Shared → Prop} (ho : s.heap.get? it = some o) (hc : o.cls = .type n) (hd : o.data = .fields vs)
    (hn : ["enumerate", "zip", "dict_itemiterator", "dict_reverseitemiterator", "odict_iterator", "itertools.zip_longest", "itertools.pairwise"].contains n = false) (hQ : Q () s) : wpAny M A (letOwnedTupleGo tg (.ref it) u) Q E s := by
  unfold letOwnedTupleGo
  cases tg <;> first
    | exact wpAny_pure hQ
    | (cases u <;> first
        | exact wpAny_pure hQ
        | (refine wpAny_bind (wpAny_load ho ?_)
           rw [hc, hd]
           show wpAny M A (if (["enumerate", "zip", "dict_itemiterator", "dict_reverseitemiterator", "odict_iterator", "itertools.zip_longest", "itertools.pairwise"].contains n && vs[0]? == some (rawInt _)) = true then _ else _) Q E s
           rw [if_neg (by intro h; rw [hn, Bool.false_and] at h; cases h)]
           exact wpAny_pure hQ))

/-- the list at a, as it stands at each turn (a loop may append to it) -/
def Itl (K : PySem.W.Frag) (a : Addr) : It :=
  ⟨fun i H => ∃ xs x, SqL K H a xs ∧ xs[i]? = some x, fun i H x H' => H' = H ∧ ∀ xs, SqL K H a xs → xs[i]? = some x, fun i H => ∃ xs, SqL K H a xs ∧ xs.length ≤ i⟩
def Itt (K : PySem.W.Frag) (a : Addr) : It :=
  ⟨fun i H => ∃ xs x, SqT K H a xs ∧ xs[i]? = some x, fun i H x H' => H' = H ∧ ∀ xs, SqT K H a xs → xs[i]? = some x, fun i H => ∃ xs, SqT K H a xs ∧ xs.length ≤ i⟩
/-- lo, lo + 1, .. (n of them) -/
def Itr (lo : Int) (n : Nat) : It := ⟨fun i _ => i < n, fun i H x H' => H' = H ∧ x = .int (lo + i), fun i _ => n ≤ i⟩
theorem turn_list {P : Program} {w : World} {K : PySem.W.Frag} {tg : Expr} (a it : Addr) : Turn P w K tg (Itl K a) [it] it (fun i h => h.IsListIter it a i) where
  mem := by simp
  obj := fun i h st b hb => by
    have e : b = it := by simpa using hb
    subst e
    obtain ⟨o, e, c, d⟩ := st
    exact ⟨o, e, fun v z => by rw [d] at z; cases z⟩
  keep := fun i h h' st k => st.at fun o e => k it (by simp) o e
  item := by
    intro X hP hw hK hc i pins s σ H E I hf st hg
    subst hP hw hK
    obtain ⟨xs, x, hq, hx⟩ := hg
    obtain ⟨its, rv, p, hz⟩ := I.list hq
    obtain ⟨u, hu, ru⟩ := rv.get hx
    obtain ⟨f0, f1, f2, f3, f4, f5⟩ := hf it (by simp)
    refine wpAny_pyNext_list_item st p.isList (x := u) (by simpa using hu) fun h' st' sb => ?_
    have I1 : Inv X pins σ H { s with heap := h' } := I.turned (t' := s.toks) (fun b o hb e => (sb.2 b hb).trans e) f0 f1 f3 f4 f5
    obtain ⟨o, e, c, d⟩ := id st'
    exact ⟨u, rfl, go_of (s := { s with heap := h' }) e c d (by decide) ⟨x, H, I1, ru, ⟨rfl, fun ys hy => by rw [I.list_inj hy hq]; exact hx⟩, st', fun b hb => (hf b hb).1⟩⟩
  done := by
    intro X hP hw hK hc i pins s σ H E I hf st hg
    subst hP hw hK
    obtain ⟨xs, hq, hx⟩ := hg
    obtain ⟨its, rv, p, hz⟩ := I.list hq
    obtain ⟨f0, f1, f2, f3, f4, f5⟩ := hf it (by simp)
    have hl := rv.length
    exact wpAny_pyNext_list_end (I.ok.hd hc) st p.isList (by simp; omega) fun h' eb => ⟨rfl, I.turned (t' := s.toks) (fun b o hb e => eb b o hb e) f0 f1 f3 f4 f5⟩
  self := fun _ _ _ _ _ st h => wpAny_pyIter_listiter st h
theorem turn_tuple {P : Program} {w : World} {K : PySem.W.Frag} {tg : Expr} (a it : Addr) : Turn P w K tg (Itt K a) [it] it (fun i h => h.IsTupleIter it a i) where
  mem := by simp
  obj := fun i h st b hb => by
    have e : b = it := by simpa using hb
    subst e
    obtain ⟨o, e, c, d⟩ := st
    exact ⟨o, e, fun v z => by rw [d] at z; cases z⟩
  keep := fun i h h' st k => st.at fun o e => k it (by simp) o e
  item := by
    intro X hP hw hK hc i pins s σ H E I hf st hg
    subst hP hw hK
    obtain ⟨xs, x, hq, hx⟩ := hg
    obtain ⟨its, rv, p, hz⟩ := I.tuple hq
    obtain ⟨u, hu, ru⟩ := rv.get hx
    obtain ⟨f0, f1, f2, f3, f4, f5⟩ := hf it (by simp)
    refine wpAny_pyNext_tuple_item st (show s.heap.IsTuple a its.toArray from p) (x := u) (by simpa using hu) fun h' st' sb => ?_
    have I1 : Inv X pins σ H { s with heap := h' } := I.turned (t' := s.toks) (fun b o hb e => (sb.2 b hb).trans e) f0 f1 f3 f4 f5
    obtain ⟨o, e, c, d⟩ := id st'
    exact ⟨u, rfl, go_of (s := { s with heap := h' }) e c d (by decide) ⟨x, H, I1, ru, ⟨rfl, fun ys hy => by rw [I.tuple_inj hy hq]; exact hx⟩, st', fun b hb => (hf b hb).1⟩⟩
  done := by
    intro X hP hw hK hc i pins s σ H E I hf st hg
    subst hP hw hK
    obtain ⟨xs, hq, hx⟩ := hg
    obtain ⟨its, rv, p, hz⟩ := I.tuple hq
    obtain ⟨f0, f1, f2, f3, f4, f5⟩ := hf it (by simp)
    have hl := rv.length
    exact wpAny_pyNext_tuple_end (I.ok.hd hc) st (show s.heap.IsTuple a its.toArray from p) (by simp; omega) fun h' eb => ⟨rfl, I.turned (t' := s.toks) (fun b o hb e => eb b o hb e) f0 f1 f3 f4 f5⟩
  self := fun _ _ _ _ _ st h => wpAny_pyIter_tupleiter st h
theorem turn_range {P : Program} {w : World} {K : PySem.W.Frag} {tg : Expr} (it : Addr) (lo : Int) (n : Nat) : Turn P w K tg (Itr lo n) [it] it (fun i h => IsRangeIter h it (lo + (i : Nat) * 1) ((n : Int) - (i : Nat)) 1) where
  mem := by simp
  obj := fun i h st b hb => by
    have e : b = it := by simpa using hb
    subst e
    exact ⟨_, st, fun v z => by
      have z' : Data.fields _ = Data.cell v := z
      cases z'⟩
  keep := fun i h h' st k => k it (by simp) _ st
  item := by
    intro X hP hw hK hc i pins s σ H E I hf st hg
    subst hP hw hK
    obtain ⟨f0, f1, f2, f3, f4, f5⟩ := hf it (by simp)
    have W := Walks.range (prog := X.prog) (w := X.w) (I.ok.hd hc) it lo 1 n
    refine W.item i s _ _ hg st fun v h' tk hv st' kk => ?_
    obtain ⟨t, rfl⟩ := hv
    have I1 : Inv X pins σ H { s with heap := h', toks := tk } := I.turned (fun b o hb e => kk b o (by simpa using hb) e) f0 f1 f3 f4 f5
    refine ⟨_, rfl, go_of (s := { s with heap := h', toks := tk }) (n := "range_iterator") st' rfl rfl (by decide) ⟨.int (lo + i), H, I1, ⟨t, ?_⟩, ⟨rfl, rfl⟩, st', fun b hb => (hf b hb).1⟩⟩
    rw [Int.mul_one]
  done := by
    intro X hP hw hK hc i pins s σ H E I hf st hg
    subst hP hw hK
    obtain ⟨f0, f1, f2, f3, f4, f5⟩ := hf it (by simp)
    exact wpAny_pyNext_range_end (I.ok.hd hc) st (by have : n ≤ i := hg; omega) fun h' eb => ⟨rfl, I.turned (t' := s.toks) (fun b o hb e => eb b o hb e) f0 f1 f3 f4 f5⟩
  self := fun _ _ _ _ _ st h => wpAny_pyIter_rangeiter st h
end L2

namespace L2
open PySem PySem.Spec PyProof.Rows
section
variable {X : Cx} {tg : Expr}
def iList (K : PySem.W.Frag) (tl : TE) : TI := fun σ H R => tl σ H fun x H1 => ∃ a, x = .ref a ∧ (∃ xs, SqL K H1 a xs) ∧ R (Itl K a) H1
def iTup (K : PySem.W.Frag) (tl : TE) : TI := fun σ H R => tl σ H fun x H1 => ∃ a, x = .ref a ∧ (∃ xs, SqT K H1 a xs) ∧ R (Itt K a) H1
theorem pi_list {l : Expr} {tl : TE} (hl : PE X l tl) : PI X tg l (iList X.K tl) := by
  intro pins s σ H R I h
  refine thn (hl pins s σ H _ I h) fun v s1 ⟨x, H1, I1, r1, q1⟩ => ?_
  obtain ⟨a, e, ⟨xs, hq⟩, q⟩ := q1
  subst e
  cases r1
  obtain ⟨its, rv, p, hz⟩ := I1.list hq
  refine wpAny_pyIter_list p.isList ?_
  refine ⟨s1.heap.objs.size, [s1.heap.objs.size], _, _, H1, rfl, I1.kept (t' := s1.toks) fun b o e => Heap.get?_push_of_some _ e, turn_list a _, ⟨_, Heap.get?_push_size _ rfl, rfl, rfl⟩, fun b hb => ?_, q⟩
  have e : b = s1.heap.objs.size := by simpa using hb
  subst e
  exact I1.fpOk (Nat.le_refl _) (I1.hok.fresh (Nat.le_refl _))
theorem pi_tup {l : Expr} {tl : TE} (hl : PE X l tl) : PI X tg l (iTup X.K tl) := by
  intro pins s σ H R I h
  refine thn (hl pins s σ H _ I h) fun v s1 ⟨x, H1, I1, r1, q1⟩ => ?_
  obtain ⟨a, e, ⟨xs, hq⟩, q⟩ := q1
  subst e
  cases r1
  obtain ⟨its, rv, p, hz⟩ := I1.tuple hq
  refine wpAny_pyIter_tuple (show s1.heap.IsTuple a its.toArray from p) ?_
  refine ⟨s1.heap.objs.size, [s1.heap.objs.size], _, _, H1, rfl, I1.kept (t' := s1.toks) fun b o e => Heap.get?_push_of_some _ e, turn_tuple a _, ⟨_, Heap.get?_push_size _ rfl, rfl, rfl⟩, fun b hb => ?_, q⟩
  have e : b = s1.heap.objs.size := by simpa using hb
  subst e
  exact I1.fpOk (Nat.le_refl _) (I1.hok.fresh (Nat.le_refl _))
/-- a range object just made, walked -/
theorem range_it {pins : List (Addr × Obj)} {σ : St} {H : Hp} {s : Shared} {R : It → Hp → Prop} {E : Value → Shared → Prop} {lo hi : Int} {t u v : Tok} {tk : Nat} (I : Inv X pins σ H s) (h1 : -(2 ^ 62) ≤ lo) (h2 : lo < 2 ^ 62) (h3 : -(2 ^ 62) ≤ hi) (h4 : hi < 2 ^ 62)
    (q : R (Itr lo (hi - lo).toNat) H) : wpAny (model X.prog X.w) X.A (pyIter (.ref s.heap.objs.size)) (PIE X pins σ tg R) E { s with heap := s.heap.push { cls := .type "range", data := .fields #[.int lo t, .int hi u, .int 1 v] }, toks := tk } := by
  refine wpAny_pyIter_range (IsRange.new ..) (small_one h1 h2 h3 h4) ?_
  have I1 : Inv X pins σ H { s with heap := s.heap.push { cls := .type "range", data := .fields #[.int lo t, .int hi u, .int 1 v] }, toks := tk } := I.kept fun b o e => Heap.get?_push_of_some _ e
  refine ⟨(s.heap.push { cls := .type "range", data := .fields #[.int lo t, .int hi u, .int 1 v] }).objs.size, [(s.heap.push { cls := .type "range", data := .fields #[.int lo t, .int hi u, .int 1 v] }).objs.size], _, _, H, rfl,
    I1.kept (t' := tk) fun b o e => Heap.get?_push_of_some _ e, turn_range _ lo (hi - lo).toNat, ?_, fun b hb => ?_, q⟩
  · have e1 : lo + ((0 : Nat) : Int) * 1 = lo := by simp
    have e2 : (((hi - lo).toNat : Nat) : Int) - ((0 : Nat) : Int) = Builtin.Range.rangeSize lo hi 1 := by rw [rangeSize_one]; split <;> omega
    show IsRangeIter _ _ (lo + ((0 : Nat) : Int) * 1) ((((hi - lo).toNat : Nat) : Int) - ((0 : Nat) : Int)) 1
    rw [e1, e2]
    exact Heap.get?_push_size _ rfl
  · have e : b = (s.heap.push { cls := .type "range", data := .fields #[.int lo t, .int hi u, .int 1 v] }).objs.size := by simpa using hb
    subst e
    exact I1.fpOk (Nat.le_refl _) (I1.hok.fresh (Nat.le_refl _))
def iRng1 (ta : TA) : TI := fun σ H R => ta σ H fun vs H1 => ∃ j : Int, vs = [.int j] ∧ -(2 ^ 62) ≤ j ∧ j < 2 ^ 62 ∧ R (Itr 0 j.toNat) H1
def iRng2 (ta : TA) : TI := fun σ H R => ta σ H fun vs H1 => ∃ i j : Int, vs = [.int i, .int j] ∧ (-(2 ^ 62) ≤ i ∧ i < 2 ^ 62 ∧ -(2 ^ 62) ≤ j ∧ j < 2 ^ 62) ∧ R (Itr i (j - i).toNat) H1
theorem pi_range1 {a : Expr} {ta : TA} {p pos : Pos} (hg : Gl X "range") (hm : X.mg "range" = none) (ha : PA X [a] ta) (hs : starEach [a] X.env = [(false, eval a X.env)] := by rfl) : PI X tg (.Call (.Name "range" p) [a] [] pos) (iRng1 ta) := by
  intro pins s σ H R I h
  refine Call_ (ld_blt I hg hm boot_range (PyProof.Rows.callWith_type1 (thn (ha pos pins s σ H _ I h) fun us s1 ⟨vs, H1, I1, r1, q1⟩ => ?_) hs rfl))
  obtain ⟨j, e, q1, q2, q⟩ := q1
  subst e
  cases r1 with
  | cons r rr =>
    cases rr
    obtain ⟨t, rfl⟩ := r
    exact call_range_1 (range_it I1 (by omega) (by omega) q1 q2 (by simpa using q))
theorem pi_range2 {a b : Expr} {ta : TA} {p pos : Pos} (hg : Gl X "range") (hm : X.mg "range" = none) (ha : PA X [a, b] ta) (hs : starEach [a, b] X.env = [(false, eval a X.env), (false, eval b X.env)] := by rfl) (hs2 : starEach [b] X.env = [(false, eval b X.env)] := by rfl) :
    PI X tg (.Call (.Name "range" p) [a, b] [] pos) (iRng2 ta) := by
  intro pins s σ H R I h
  refine Call_ (ld_blt I hg hm boot_range (PyProof.Rows.callWith_type1 (thn (ha pos pins s σ H _ I h) fun us s1 ⟨vs, H1, I1, r1, q1⟩ => ?_) (by rw [hs, hs2]) (by rw [hs2]; rfl)))
  obtain ⟨i, j, e, ⟨q1, q2, q3, q4⟩, q⟩ := q1
  subst e
  cases r1 with
  | cons r rr =>
    cases rr with
    | cons r' rr =>
      cases rr
      obtain ⟨t, rfl⟩ := r
      obtain ⟨t', rfl⟩ := r'
      exact call_range_2 (range_it I1 q1 q2 q3 q4 q)

/-! ### for -/
/-- W: the invariant by the turn and a measure; N: what the body is to reach -/
def tFor (wi : TI) (g : TG) (tb : TS) : TS := fun D σ H => wi σ H fun J H1 => ∃ W : Nat → Nat → St → Hp → Prop, (∃ m, W 0 m σ H1) ∧ ∀ i m σ H, W i m σ H →
  (J.stop i H ∧ D.nx σ H) ∨ (J.go i H ∧ ∃ N : St → Hp → Prop, (∀ σ' H', N σ' H' → ∃ m', m' < m ∧ W (i + 1) m' σ' H') ∧ ∀ x H', J.yld i H x H' → g x σ H' fun σ2 H2 => tb { D with nx := N, ct := N, bk := D.nx } σ2 H2)
/-- the records at fp as they stand -/
def pinsAt (fp : List Addr) (h : Heap) : List (Addr × Obj) := fp.filterMap fun b => (h.get? b).map fun o => (b, o)
theorem mem_pinsAt {fp : List Addr} {h : Heap} {b : Addr} {o : Obj} (hb : b ∈ fp) (e : h.get? b = some o) : (b, o) ∈ pinsAt fp h := List.mem_filterMap.mpr ⟨b, hb, by rw [e]; rfl⟩
theorem of_pinsAt {fp : List Addr} {h : Heap} {p : Addr × Obj} (hp : p ∈ pinsAt fp h) : p.1 ∈ fp ∧ h.get? p.1 = some p.2 := by
  obtain ⟨b, hb, e⟩ := List.mem_filterMap.mp hp
  cases q : h.get? b with
  | none => rw [q] at e; cases e
  | some o =>
    rw [q] at e
    have e' : (b, o) = p := Option.some.inj e
    subst e'
    exact ⟨hb, q⟩
theorem Inv.pinned {pins : List (Addr × Obj)} {σ : St} {H : Hp} {s : Shared} {fp : List Addr} (I : Inv X pins σ H s) (hf : ∀ b ∈ fp, FpOk X pins H b) (ho : ∀ b ∈ fp, ∃ o, s.heap.get? b = some o ∧ ∀ v, o.data ≠ .cell v) : Inv X (pins ++ pinsAt fp s.heap) σ H s :=
  I.pins_of fun p hp => (List.mem_append.mp hp).elim (fun z => I.pin p (List.mem_append_right _ z)) fun z => by
    obtain ⟨hb, e⟩ := of_pinsAt z
    obtain ⟨f0, f1, f2, _⟩ := hf p.1 hb
    obtain ⟨o, e', d⟩ := ho p.1 hb
    rw [e] at e'; cases e'
    exact ⟨e, f0, f1, f2, d⟩
theorem Inv.unpinned {pins pl : List (Addr × Obj)} {σ : St} {H : Hp} {s : Shared} (I : Inv X (pins ++ pl) σ H s) : Inv X pins σ H s := I.pins_of fun p hp => I.pin p (List.mem_append_right _ (List.mem_append_left _ hp))
theorem ps_for {iter : Expr} {body : List Stmt} {wi : TI} {g : TG} {tb : TS} {pos : Pos} (hp : PassesOwn (model X.prog X.w) X.A X.env X.xe) (hc : X.calm = true) (hi : PI X tg iter wi) (hg : PG X tg g) (hb : PSs X body tb)
    (hs : ∀ x, foldedSetIterable iter X.env x = pure x := by intro _; rfl) : PS X (.For tg iter body [] pos) (tFor wi g tb) := by
  intro pins s σ H D I h
  refine wpAny_For (thn (hi pins s σ H _ I h) fun v s1 h1 => thn h1 fun itv s2 h2 => ?_) hs
  obtain ⟨it, fp, tn, J, H2, e, I2, T, st2, f2, W, ⟨m0, w0⟩, turn⟩ := h2
  subst e
  -- what stays true of the iterator's objects through the loop
  have stat : ∀ {H' : Hp}, (∀ b ∈ fp, H' b = none) → ∀ b ∈ fp, FpOk X pins H' b := fun hn b hb => ⟨hn b hb, (f2 b hb).2⟩
  refine codeAny_forLoop_any (fun n s' => ∃ i σ' H', Inv X pins σ' H' s' ∧ tn i s'.heap ∧ (∀ b ∈ fp, H' b = none) ∧ W i n σ' H') ?_ m0 ⟨0, σ, H2, I2, st2, fun b hb => (f2 b hb).1, w0⟩
  rintro n s3 ⟨i, σ3, H3, I3, st3, fr3, w3⟩
  rcases turn i n σ3 H3 w3 with ⟨stop, qn⟩ | ⟨go, N, hN, step⟩
  · refine wpAny_passesOwn hp (thn (T.done X rfl rfl rfl hc i pins s3 σ3 H3 X.xe I3 (stat fr3) st3 stop) fun r s4 ⟨hr, I4⟩ => ?_)
    subst hr
    exact wpAny_execs_nil ⟨σ3, H3, I4, qn⟩
  · refine wpAny_passesOwn hp (thn (T.item X rfl rfl rfl hc i pins s3 σ3 H3 X.xe I3 (stat fr3) st3 go) fun r s4 ⟨u, hr, h4⟩ => ?_)
    subst hr
    refine wpAny_passesOwn hp (thn h4 fun _ s5 ⟨x, H5, I5, r5, y5, st5, fr5⟩ => ?_)
    have I5' := I5.pinned (stat fr5) (T.obj _ _ st5)
    refine wpAny_passesOwn hp (thn (hg _ s5 σ3 H5 x u _ I5' r5 (step x H5 y5)) fun _ s6 ⟨σ6, H6, I6, q6⟩ => ?_)
    refine wpAny_passesOwn hp (thn (hb _ s6 σ6 H6 _ I6 q6) fun f s7 q7 => ?_)
    have again : ∀ {σ7 : St} {H7 : Hp}, Inv X (pins ++ pinsAt fp s5.heap) σ7 H7 s7 → N σ7 H7 → ∃ m, m < n ∧ ∃ i σ' H', Inv X pins σ' H' s7 ∧ tn i s7.heap ∧ (∀ b ∈ fp, H' b = none) ∧ W i m σ' H' := fun {σ7 H7} I7 n7 => by
      obtain ⟨m', hm, w7⟩ := hN σ7 H7 n7
      refine ⟨m', hm, i + 1, σ7, H7, I7.unpinned, T.keep _ _ _ st5 fun b hb o e => (I7.pin (b, o) (List.mem_append_right _ (List.mem_append_right _ (mem_pinsAt hb e)))).1, fun b hb => ?_, w7⟩
      obtain ⟨o, e, d⟩ := T.obj _ _ st5 b hb
      exact (I7.pin (b, o) (List.mem_append_right _ (List.mem_append_right _ (mem_pinsAt hb e)))).2.1
    cases f with
    | next => obtain ⟨σ7, H7, I7, n7⟩ := q7; exact again I7 n7
    | cont => obtain ⟨σ7, H7, I7, n7⟩ := q7; exact again I7 n7
    | brk => obtain ⟨σ7, H7, I7, q7⟩ := q7; exact ⟨σ7, H7, I7.unpinned, q7⟩
    | ret v => obtain ⟨x7, σ7, H7, I7, r7, q7⟩ := q7; exact ⟨x7, σ7, H7, I7.unpinned, r7, q7⟩
end

/-! ### the forms one uses -/
/-- over a list that the body leaves as it is -/
theorem for_list {K : PySem.W.Frag} {a : Addr} {xs : List V} {g : TG} {tb : TS} {D : Ends} {σ : St} {H : Hp} (Pv : Nat → St → Hp → Prop) (h0 : Pv 0 σ H) (hl : ∀ i σ H, i ≤ xs.length → Pv i σ H → SqL K H a xs)
    (hs : ∀ i x σ H, xs[i]? = some x → Pv i σ H → g x σ H fun σ2 H2 => tb { D with nx := Pv (i + 1), ct := Pv (i + 1), bk := D.nx } σ2 H2) (hd : ∀ σ H, Pv xs.length σ H → D.nx σ H) :
    ∃ W : Nat → Nat → St → Hp → Prop, (∃ m, W 0 m σ H) ∧ ∀ i m σ H, W i m σ H →
      ((Itl K a).stop i H ∧ D.nx σ H) ∨ ((Itl K a).go i H ∧ ∃ N : St → Hp → Prop, (∀ σ' H', N σ' H' → ∃ m', m' < m ∧ W (i + 1) m' σ' H') ∧ ∀ x H', (Itl K a).yld i H x H' → g x σ H' fun σ2 H2 => tb { D with nx := N, ct := N, bk := D.nx } σ2 H2) := by
  refine ⟨fun i m σ H => m = xs.length - i ∧ i ≤ xs.length ∧ Pv i σ H, ⟨xs.length, by simp, Nat.zero_le _, h0⟩, ?_⟩
  rintro i m σ H ⟨rfl, hi, p⟩
  have q := hl i σ H hi p
  by_cases hlt : i < xs.length
  · refine .inr ⟨⟨xs, xs[i], q, by simp [hlt]⟩, Pv (i + 1), fun σ' H' p' => ⟨xs.length - (i + 1), by omega, rfl, hlt, p'⟩, fun x H' y => ?_⟩
    obtain ⟨e, y⟩ := y
    subst e
    exact hs i x σ _ (y xs q) p
  · have e : i = xs.length := by omega
    subst e
    exact .inl ⟨⟨xs, q, Nat.le_refl _⟩, hd σ H p⟩
theorem for_tup {K : PySem.W.Frag} {a : Addr} {xs : List V} {g : TG} {tb : TS} {D : Ends} {σ : St} {H : Hp} (Pv : Nat → St → Hp → Prop) (h0 : Pv 0 σ H) (hl : ∀ i σ H, i ≤ xs.length → Pv i σ H → SqT K H a xs)
    (hs : ∀ i x σ H, xs[i]? = some x → Pv i σ H → g x σ H fun σ2 H2 => tb { D with nx := Pv (i + 1), ct := Pv (i + 1), bk := D.nx } σ2 H2) (hd : ∀ σ H, Pv xs.length σ H → D.nx σ H) :
    ∃ W : Nat → Nat → St → Hp → Prop, (∃ m, W 0 m σ H) ∧ ∀ i m σ H, W i m σ H →
      ((Itt K a).stop i H ∧ D.nx σ H) ∨ ((Itt K a).go i H ∧ ∃ N : St → Hp → Prop, (∀ σ' H', N σ' H' → ∃ m', m' < m ∧ W (i + 1) m' σ' H') ∧ ∀ x H', (Itt K a).yld i H x H' → g x σ H' fun σ2 H2 => tb { D with nx := N, ct := N, bk := D.nx } σ2 H2) := by
  refine ⟨fun i m σ H => m = xs.length - i ∧ i ≤ xs.length ∧ Pv i σ H, ⟨xs.length, by simp, Nat.zero_le _, h0⟩, ?_⟩
  rintro i m σ H ⟨rfl, hi, p⟩
  have q := hl i σ H hi p
  by_cases hlt : i < xs.length
  · refine .inr ⟨⟨xs, xs[i], q, by simp [hlt]⟩, Pv (i + 1), fun σ' H' p' => ⟨xs.length - (i + 1), by omega, rfl, hlt, p'⟩, fun x H' y => ?_⟩
    obtain ⟨e, y⟩ := y
    subst e
    exact hs i x σ _ (y xs q) p
  · have e : i = xs.length := by omega
    subst e
    exact .inl ⟨⟨xs, q, Nat.le_refl _⟩, hd σ H p⟩
theorem for_range {lo : Int} {n : Nat} {g : TG} {tb : TS} {D : Ends} {σ : St} {H : Hp} (Pv : Nat → St → Hp → Prop) (h0 : Pv 0 σ H)
    (hs : ∀ i σ H, i < n → Pv i σ H → g (.int (lo + i)) σ H fun σ2 H2 => tb { D with nx := Pv (i + 1), ct := Pv (i + 1), bk := D.nx } σ2 H2) (hd : ∀ σ H, Pv n σ H → D.nx σ H) :
    ∃ W : Nat → Nat → St → Hp → Prop, (∃ m, W 0 m σ H) ∧ ∀ i m σ H, W i m σ H →
      ((Itr lo n).stop i H ∧ D.nx σ H) ∨ ((Itr lo n).go i H ∧ ∃ N : St → Hp → Prop, (∀ σ' H', N σ' H' → ∃ m', m' < m ∧ W (i + 1) m' σ' H') ∧ ∀ x H', (Itr lo n).yld i H x H' → g x σ H' fun σ2 H2 => tb { D with nx := N, ct := N, bk := D.nx } σ2 H2) := by
  refine ⟨fun i m σ H => m = n - i ∧ i ≤ n ∧ Pv i σ H, ⟨n, by simp, Nat.zero_le _, h0⟩, ?_⟩
  rintro i m σ H ⟨rfl, hi, p⟩
  by_cases hlt : i < n
  · refine .inr ⟨hlt, Pv (i + 1), fun σ' H' p' => ⟨n - (i + 1), by omega, rfl, hlt, p'⟩, fun x H' y => ?_⟩
    obtain ⟨e, y⟩ := y
    subst e y
    exact hs i σ _ hlt p
  · have e : i = n := by omega
    subst e
    exact .inl ⟨Nat.le_refl _, hd σ H p⟩
/-- while, by a word and a measure of the state -/
theorem while_by {c : TT} {tb : TS} {D : Ends} {σ : St} {H : Hp} (Pv : St → Hp → Prop) (μ : St → Hp → Nat) (h0 : Pv σ H)
    (hs : ∀ σ H, Pv σ H → c σ H fun b H1 => if b = true then tb { D with nx := fun σ' H' => Pv σ' H' ∧ μ σ' H' < μ σ H, ct := fun σ' H' => Pv σ' H' ∧ μ σ' H' < μ σ H, bk := D.nx } σ H1 else D.nx σ H1)
    (mono : ∀ σ H Q Q', (∀ b H1, Q b H1 → Q' b H1) → c σ H Q → c σ H Q') : tWhile c tb D σ H := by
  refine ⟨fun m σ H => m = μ σ H ∧ Pv σ H, ⟨_, rfl, h0⟩, ?_⟩
  rintro m σ H ⟨rfl, p⟩
  refine mono σ H _ _ (fun b H1 q => ?_) (hs σ H p)
  cases b with
  | true => exact ⟨_, fun σ' H' ⟨p', l⟩ => ⟨_, l, rfl, p'⟩, q⟩
  | false => exact q
end L2

namespace L2
open PySem PySem.Spec PyProof.Rows

abbrev R2 := V → V → Hp → VK → Prop
/-- a two-place operation on values: f is binaryOp op, inplaceOp op or compareOp op -/
def OpR (X : Cx) (f : Value → Value → Sem Value) (r : R2) : Prop :=
  ∀ (pins : List (Addr × Obj)) (s : Shared) (σ : St) (H : Hp) (x y : V) (v u : Value) (Q : VK), Inv X pins σ H s → RelV x v → RelV y u → r x y H Q →
    wpAny (model X.prog X.w) X.A (f v u) (EP X pins σ Q) X.xe s
/-- a one-place operation -/
def UnR (X : Cx) (f : Value → Sem Value) (r : V → Hp → VK → Prop) : Prop :=
  ∀ (pins : List (Addr × Obj)) (s : Shared) (σ : St) (H : Hp) (x : V) (v : Value) (Q : VK), Inv X pins σ H s → RelV x v → r x H Q →
    wpAny (model X.prog X.w) X.A (f v) (EP X pins σ Q) X.xe s
/-- a call of a value that is known (a builtin, a type) with values -/
def CallR (X : Cx) (f : Value) (r : List V → Hp → VK → Prop) : Prop :=
  ∀ (pins : List (Addr × Obj)) (s : Shared) (σ : St) (H : Hp) (xs : List V) (us : List Value) (Q : VK), Inv X pins σ H s → Vals xs us → r xs H Q →
    wpAny (model X.prog X.w) X.A (call f us) (EP X pins σ Q) X.xe s
/-- a value's truth -/
def TruR (X : Cx) (r : V → Hp → (Bool → Hp → Prop) → Prop) : Prop :=
  ∀ (pins : List (Addr × Obj)) (s : Shared) (σ : St) (H : Hp) (x : V) (v : Value) (Q : Bool → Hp → Prop), Inv X pins σ H s → RelV x v → r x H Q →
    wpAny (model X.prog X.w) X.A (truthy v) (TP X pins σ Q) X.xe s

def tOp (r : R2) (ta tb : TE) : TE := fun σ H Q => ta σ H fun x H1 => tb σ H1 fun y H2 => r x y H2 Q
def tUn (r : V → Hp → VK → Prop) (ta : TE) : TE := fun σ H Q => ta σ H fun x H1 => r x H1 Q
/-- ints in, under C, and a value out -/
def rI (C : Int → Int → Prop) (g : Int → Int → V) : R2 := fun x y H Q => ∃ i j, x = .int i ∧ y = .int j ∧ C i j ∧ Q (g i j) H
def rI0 (g : Int → Int → V) : R2 := fun x y H Q => ∃ i j, x = .int i ∧ y = .int j ∧ Q (g i j) H
def rU (g : Int → V) : V → Hp → VK → Prop := fun x H Q => ∃ i, x = .int i ∧ Q (g i) H

section
variable {X : Cx} {a b c : Expr} {ta tb tc : TE} {pos : Pos}

theorem binT (ha : PE X a ta) (hb : PE X b tb) {pins : List (Addr × Obj)} {s : Shared} {σ : St} {H : Hp} {R : V → V → Hp → Prop} (I : Inv X pins σ H s)
    (h : ta σ H fun x H1 => tb σ H1 fun y H2 => R x y H2) {Q : Value → Shared → Prop} {f : Value → Value → Sem Value}
    (hf : ∀ v u s2 x y H2, Inv X pins σ H2 s2 → RelV x v → RelV y u → R x y H2 → wpAny (model X.prog X.w) X.A (f v u) Q X.xe s2) :
    wpAny (model X.prog X.w) X.A (eval a X.env) (fun v s₁ => wpAny (model X.prog X.w) X.A (eval b X.env) (fun u s₂ => wpAny (model X.prog X.w) X.A (f v u) Q X.xe s₂) X.xe s₁) X.xe s := by
  refine thn (ha pins s σ H _ I h) fun v s1 ⟨x, H1, I1, r1, q1⟩ => ?_
  refine thn (hb pins s1 σ H1 _ I1 q1) fun u s2 ⟨y, H2, I2, r2, q2⟩ => ?_
  exact hf v u s2 x y H2 I2 r1 r2 q2

theorem pe_op {op : Operator} {r : R2} (ho : OpR X (binaryOp op) r) (ha : PE X a ta) (hb : PE X b tb) : PE X (.BinOp a op b pos) (tOp r ta tb) := by
  intro pins s σ H Q I h
  exact wpAny_BinOp (binT ha hb I h fun v u s2 x y H2 I2 rx ry q => ho pins s2 σ H2 x y v u Q I2 rx ry q)
theorem pe_un {op : UnaryOp} {r : V → Hp → VK → Prop} (ho : UnR X (unaryOp op) r) (ha : PE X a ta) : PE X (.UnaryOp op a pos) (tUn r ta) := by
  intro pins s σ H Q I h
  exact UnaryOp_ (thn (ha pins s σ H _ I h) fun v s1 ⟨x, H1, I1, r1, q1⟩ => ho pins s1 σ H1 x v Q I1 r1 q1)
/-- a op= e at a name: the name's slot i -/
theorem augR {op : Operator} {r : R2} (ho : OpR X (inplaceOp op) r) {pins : List (Addr × Obj)} {s : Shared} {σ : St} {H : Hp} {x y : V} {v u : Value} {Q : VK} (I : Inv X pins σ H s)
    (rx : RelV x v) (ry : RelV y u) (q : r x y H Q) : wpAny (model X.prog X.w) X.A (inplaceOp op v u) (EP X pins σ Q) X.xe s := ho pins s σ H x y v u Q I rx ry q

/-! ### ints -/
theorem opI {f : Value → Value → Sem Value} {C : Int → Int → Prop} {g : Int → Int → Int}
    (rule : ∀ (i j : Int) (t u : Tok) (s : Shared) (Q : Value → Shared → Prop) (E : Value → Shared → Prop), C i j → Q (.int (g i j) s.toks) { s with toks := s.toks + 1 } → wpAny (model X.prog X.w) X.A (f (.int i t) (.int j u)) Q E s) :
    OpR X f (rI C fun i j => .int (g i j)) := by
  intro pins s σ H x y v u Q I rx ry h
  obtain ⟨i, j, rfl, rfl, hc, q⟩ := h
  obtain ⟨t, rfl⟩ := rx
  obtain ⟨t', rfl⟩ := ry
  exact rule i j t t' s _ _ hc ⟨.int (g i j), H, I.tok _, ⟨_, rfl⟩, q⟩
theorem opI0 {f : Value → Value → Sem Value} {g : Int → Int → Int}
    (rule : ∀ (i j : Int) (t u : Tok) (s : Shared) (Q : Value → Shared → Prop) (E : Value → Shared → Prop), Q (.int (g i j) s.toks) { s with toks := s.toks + 1 } → wpAny (model X.prog X.w) X.A (f (.int i t) (.int j u)) Q E s) :
    OpR X f (rI0 fun i j => .int (g i j)) := by
  intro pins s σ H x y v u Q I rx ry h
  obtain ⟨i, j, rfl, rfl, q⟩ := h
  obtain ⟨t, rfl⟩ := rx
  obtain ⟨t', rfl⟩ := ry
  exact rule i j t t' s _ _ ⟨.int (g i j), H, I.tok _, ⟨_, rfl⟩, q⟩
theorem opB0 {f : Value → Value → Sem Value} {g : Int → Int → Bool}
    (rule : ∀ (i j : Int) (t u : Tok) (s : Shared) (Q : Value → Shared → Prop) (E : Value → Shared → Prop), Q (.bool (g i j)) s → wpAny (model X.prog X.w) X.A (f (.int i t) (.int j u)) Q E s) :
    OpR X f (rI0 fun i j => .bl (g i j)) := by
  intro pins s σ H x y v u Q I rx ry h
  obtain ⟨i, j, rfl, rfl, q⟩ := h
  obtain ⟨t, rfl⟩ := rx
  obtain ⟨t', rfl⟩ := ry
  exact rule i j t t' s _ _ ⟨.bl (g i j), H, I, rfl, q⟩

def CDiv (i j : Int) : Prop := 0 < j ∧ j < 1073741824
def CDivN (i j : Int) : Prop := j ≠ 0 ∧ j.natAbs < 1073741824
def CPow (i j : Int) : Prop := 0 ≤ j ∧ j ≤ 1000000 ∧ i.natAbs < 2 ^ 64
def CMul (i j : Int) : Prop := (-(2 ^ 64) < i ∧ i < 2 ^ 64) ∨ (-(2 ^ 64) < j ∧ j < 2 ^ 64)
theorem CMul.ok {i j : Int} (h : CMul i j) : IntMulOk i j := by
  rcases h with ⟨h1, h2⟩ | ⟨h1, h2⟩
  · exact .of_left (intBits_le_64 h1 h2)
  · exact .of_right (intBits_le_64 h1 h2)
theorem two_pow_nn (k : Nat) : (0 : Int) ≤ 2 ^ k := by
  rw [two_pow_cast]
  exact Int.natCast_nonneg _

theorem op_add : OpR X (binaryOp .Add) (rI0 fun i j => .int (i + j)) := opI0 fun _ _ _ _ _ _ _ q => add_int q
theorem op_sub : OpR X (binaryOp .Sub) (rI0 fun i j => .int (i - j)) := opI0 fun _ _ _ _ _ _ _ q => sub_int q
theorem op_mul : OpR X (binaryOp .Mult) (rI CMul fun i j => .int (i * j)) := opI fun _ _ _ _ _ _ _ hc q => mul_int q hc.ok
/-- // by a positive divisor -/
theorem op_fdiv : OpR X (binaryOp .FloorDiv) (rI CDiv fun i j => .int (i / j)) := opI fun i j _ _ _ _ _ hc q => by
  have h1 : (0 : Int) < j := hc.1
  have h2 : j < 1073741824 := hc.2
  exact floordiv_int (by omega) (by rw [Int.fdiv_eq_ediv_of_nonneg i (by omega)]; exact q) (.inl (PyProof.noPylong_small (by omega)))
theorem op_fdivN : OpR X (binaryOp .FloorDiv) (rI CDivN fun i j => .int (i.fdiv j)) := opI fun _ _ _ _ _ _ _ hc q => floordiv_int hc.1 q (.inl (PyProof.noPylong_small hc.2))
/-- % by a positive divisor of any size -/
theorem op_mod : OpR X (binaryOp .Mod) (rI (fun _ j => 0 < j) fun i j => .int (i % j)) := opI fun i j _ _ _ _ _ hc q => by
  have h1 : (0 : Int) < j := hc
  exact mod_int' (by omega) (by rw [Int.fmod_eq_emod_of_nonneg i (by omega)]; exact q)
theorem op_modN : OpR X (binaryOp .Mod) (rI (fun _ j => j ≠ 0) fun i j => .int (i.fmod j)) := opI fun _ _ _ _ _ _ _ hc q => mod_int' hc q
theorem op_pow : OpR X (binaryOp .Pow) (rI CPow fun i j => .int (i ^ j.toNat)) := opI fun _ _ _ _ _ _ _ hc q => pow_int_small hc.1 hc.2.1 hc.2.2 q
theorem op_shl : OpR X (binaryOp .LShift) (rI CPow fun i j => .int (i * 2 ^ j.toNat)) := opI fun _ _ _ _ _ _ _ hc q => lshift_int_small hc.1 hc.2.1 hc.2.2 q
theorem op_shr : OpR X (binaryOp .RShift) (rI (fun _ j => 0 ≤ j) fun i j => .int (i / 2 ^ j.toNat)) := opI fun i j _ _ _ _ _ hc q =>
  rshift_int hc (by rw [Int.fdiv_eq_ediv_of_nonneg i (two_pow_nn _)]; exact q)
theorem op_and : OpR X (binaryOp .BitAnd) (rI0 fun i j => .int (Builtin.bitAnd i j)) := opI0 fun _ _ _ _ _ _ _ q => and_int q
theorem op_or : OpR X (binaryOp .BitOr) (rI0 fun i j => .int (Builtin.bitOr i j)) := opI0 fun _ _ _ _ _ _ _ q => or_int q
theorem op_xor : OpR X (binaryOp .BitXor) (rI0 fun i j => .int (Builtin.bitXor i j)) := opI0 fun _ _ _ _ _ _ _ q => xor_int q

theorem iop_add : OpR X (inplaceOp .Add) (rI0 fun i j => .int (i + j)) := opI0 fun _ _ _ _ _ _ _ q => iadd_int q
theorem iop_sub : OpR X (inplaceOp .Sub) (rI0 fun i j => .int (i - j)) := opI0 fun _ _ _ _ _ _ _ q => isub_int q
theorem iop_mul : OpR X (inplaceOp .Mult) (rI CMul fun i j => .int (i * j)) := opI fun _ _ _ _ _ _ _ hc q => imul_int q hc.ok
theorem iop_fdiv : OpR X (inplaceOp .FloorDiv) (rI CDiv fun i j => .int (i / j)) := opI fun i j _ _ _ _ _ hc q => by
  have h1 : (0 : Int) < j := hc.1
  have h2 : j < 1073741824 := hc.2
  exact ifloordiv_int (by omega) (by rw [Int.fdiv_eq_ediv_of_nonneg i (by omega)]; exact q) (.inl (PyProof.noPylong_small (by omega)))
theorem iop_mod : OpR X (inplaceOp .Mod) (rI (fun _ j => 0 < j) fun i j => .int (i % j)) := opI fun i j _ _ _ _ _ hc q => by
  have h1 : (0 : Int) < j := hc
  exact imod_int (by omega) (by rw [Int.fmod_eq_emod_of_nonneg i (by omega)]; exact q)
theorem iop_shl : OpR X (inplaceOp .LShift) (rI CPow fun i j => .int (i * 2 ^ j.toNat)) := opI fun _ _ _ _ _ _ _ hc q => ilshift_int_small hc.1 hc.2.1 hc.2.2 q
theorem iop_shr : OpR X (inplaceOp .RShift) (rI (fun _ j => 0 ≤ j) fun i j => .int (i / 2 ^ j.toNat)) := opI fun i j _ _ _ _ _ hc q =>
  irshift_int hc (by rw [Int.fdiv_eq_ediv_of_nonneg i (two_pow_nn _)]; exact q)
theorem iop_and : OpR X (inplaceOp .BitAnd) (rI0 fun i j => .int (Builtin.bitAnd i j)) := opI0 fun _ _ _ _ _ _ _ q => iand_int q
theorem iop_or : OpR X (inplaceOp .BitOr) (rI0 fun i j => .int (Builtin.bitOr i j)) := opI0 fun _ _ _ _ _ _ _ q => ior_int q
theorem iop_xor : OpR X (inplaceOp .BitXor) (rI0 fun i j => .int (Builtin.bitXor i j)) := opI0 fun _ _ _ _ _ _ _ q => ixor_int q

theorem unI {f : Value → Sem Value} {g : Int → Int}
    (rule : ∀ (i : Int) (t : Tok) (s : Shared) (Q : Value → Shared → Prop) (E : Value → Shared → Prop), Q (.int (g i) s.toks) { s with toks := s.toks + 1 } → wpAny (model X.prog X.w) X.A (f (.int i t)) Q E s) :
    UnR X f (rU fun i => .int (g i)) := by
  intro pins s σ H x v Q I rx h
  obtain ⟨i, rfl, q⟩ := h
  obtain ⟨t, rfl⟩ := rx
  exact rule i t s _ _ ⟨.int (g i), H, I.tok _, ⟨_, rfl⟩, q⟩
theorem un_neg : UnR X (unaryOp .USub) (rU fun i => .int (-i)) := unI fun _ _ _ _ _ q => neg_int q
theorem un_inv : UnR X (unaryOp .Invert) (rU fun i => .int (Builtin.bitNot i)) := unI fun _ _ _ _ _ q => invert_int q

/-! ### bools among ints: n += (a < b) -/
theorem op_add_ib : OpR X (binaryOp .Add) (fun x y H Q => ∃ i k, x = .int i ∧ y = .bl k ∧ Q (.int (i + b2i k)) H) := by
  intro pins s σ H x y v u Q I rx ry h
  obtain ⟨i, k, rfl, rfl, q⟩ := h
  obtain ⟨t, rfl⟩ := rx
  cases ry
  exact add_int_bool ⟨.int (i + b2i k), H, I.tok _, ⟨_, rfl⟩, q⟩
end

/-! ### comparisons -/
/-- the scalars that == tells apart as data does -/
def scal : V → V → Bool
  | .non, .non => true | .non, .int _ => true | .int _, .non => true | .non, .bl _ => true | .bl _, .non => true | .non, .str _ => true | .str _, .non => true
  | .int _, .int _ => true | .bl _, .bl _ => true | .str _, .str _ => true | .byt _, .byt _ => true
  | .int _, .str _ => true | .str _, .int _ => true | .bl _, .str _ => true | .str _, .bl _ => true
  | _, _ => false
def rEq : R2 := fun x y H Q => scal x y = true ∧ Q (.bl (decide (x = y))) H
def rNe : R2 := fun x y H Q => scal x y = true ∧ Q (.bl (!decide (x = y))) H

theorem dec_int {i j : Int} : decide (V.int i = V.int j) = (i == j) := by
  rw [Bool.eq_iff_iff]
  simp
theorem dec_bl {i j : Bool} : decide (V.bl i = V.bl j) = (i == j) := by
  rw [Bool.eq_iff_iff]
  simp
theorem dec_str {i j : Str} : decide (V.str i = V.str j) = (i == j) := by
  rw [Bool.eq_iff_iff]
  simp
theorem dec_byt {i j : Array UInt8} : decide (V.byt i = V.byt j) = (i.toList == j.toList) := by
  rw [Bool.eq_iff_iff]
  cases i
  cases j
  simp

section
variable {X : Cx} {a b c : Expr} {ta tb tc : TE} {pos : Pos}
theorem fin_bl {pins : List (Addr × Obj)} {σ : St} {H : Hp} {s : Shared} {Q : VK} {k k' : Bool} (I : Inv X pins σ H s) (q : Q (.bl k) H) (e : k = k') : EP X pins σ Q (.bool k') s := by
  subst e
  exact ⟨.bl k, H, I, rfl, q⟩
theorem op_eq : OpR X (compareOp .Eq) rEq := by
  intro pins s σ H x y v u Q I rx ry h
  obtain ⟨hs, q⟩ := h
  cases x with
  | non =>
    cases rx
    cases y with
    | non => cases ry; exact PySem.EqNone.eq_none_none (fin_bl I q (by simp))
    | bl j => cases ry; exact PySem.EqNone.eq_none_bool (fin_bl I q (by simp))
    | int j => obtain ⟨t', rfl⟩ := ry; exact PySem.EqNone.eq_none_int (fin_bl I q (by simp))
    | str j => obtain ⟨t', rfl⟩ := ry; exact PySem.EqNone.eq_none_str (fin_bl I q (by simp))
    | _ => exact absurd (show false = true from hs) Bool.false_ne_true
  | bl i =>
    cases rx
    cases y with
    | non => cases ry; exact PySem.EqNone.eq_bool_none (fin_bl I q (by simp))
    | bl j => cases ry; exact eq_bool (fin_bl I q dec_bl)
    | str j => obtain ⟨t', rfl⟩ := ry; exact PySem.EqMixed.eq_bool_str (fin_bl I q (by simp))
    | _ => exact absurd (show false = true from hs) Bool.false_ne_true
  | int i =>
    obtain ⟨t, rfl⟩ := rx
    cases y with
    | non => cases ry; exact PySem.EqNone.eq_int_none (fin_bl I q (by simp))
    | int j => obtain ⟨t', rfl⟩ := ry; exact eq_int (fin_bl I q dec_int)
    | str j => obtain ⟨t', rfl⟩ := ry; exact PySem.EqMixed.eq_int_str (fin_bl I q (by simp))
    | _ => exact absurd (show false = true from hs) Bool.false_ne_true
  | str i =>
    obtain ⟨t, rfl⟩ := rx
    cases y with
    | non => cases ry; exact PySem.EqNone.eq_str_none (fin_bl I q (by simp))
    | bl j => cases ry; exact PySem.EqMixed.eq_str_bool (fin_bl I q (by simp))
    | int j => obtain ⟨t', rfl⟩ := ry; exact PySem.EqMixed.eq_str_int (fin_bl I q (by simp))
    | str j => obtain ⟨t', rfl⟩ := ry; exact eq_str (fin_bl I q dec_str)
    | _ => exact absurd (show false = true from hs) Bool.false_ne_true
  | byt i =>
    obtain ⟨t, rfl⟩ := rx
    cases y with
    | byt j => obtain ⟨t', rfl⟩ := ry; exact PySem.W.eq_bytes (fin_bl I q dec_byt)
    | _ => exact absurd (show false = true from hs) Bool.false_ne_true
  | _ => cases y <;> exact absurd (show false = true from hs) Bool.false_ne_true
theorem op_ne : OpR X (compareOp .NotEq) rNe := by
  intro pins s σ H x y v u Q I rx ry h
  obtain ⟨hs, q⟩ := h
  cases x with
  | non =>
    cases rx
    cases y with
    | non => cases ry; exact PySem.EqNone.ne_none_none (fin_bl I q (by simp))
    | bl j => cases ry; exact PySem.EqNone.ne_none_bool (fin_bl I q (by simp))
    | int j => obtain ⟨t', rfl⟩ := ry; exact PySem.EqNone.ne_none_int (fin_bl I q (by simp))
    | str j => obtain ⟨t', rfl⟩ := ry; exact PySem.EqNone.ne_none_str (fin_bl I q (by simp))
    | _ => exact absurd (show false = true from hs) Bool.false_ne_true
  | bl i =>
    cases rx
    cases y with
    | non => cases ry; exact PySem.EqNone.ne_bool_none (fin_bl I q (by simp))
    | bl j => cases ry; exact ne_bool (fin_bl I q (congrArg not dec_bl))
    | str j => obtain ⟨t', rfl⟩ := ry; exact PySem.EqMixed.ne_bool_str (fin_bl I q (by simp))
    | _ => exact absurd (show false = true from hs) Bool.false_ne_true
  | int i =>
    obtain ⟨t, rfl⟩ := rx
    cases y with
    | non => cases ry; exact PySem.EqNone.ne_int_none (fin_bl I q (by simp))
    | int j => obtain ⟨t', rfl⟩ := ry; exact ne_int (fin_bl I q (congrArg not dec_int))
    | str j => obtain ⟨t', rfl⟩ := ry; exact PySem.EqMixed.ne_int_str (fin_bl I q (by simp))
    | _ => exact absurd (show false = true from hs) Bool.false_ne_true
  | str i =>
    obtain ⟨t, rfl⟩ := rx
    cases y with
    | non => cases ry; exact PySem.EqNone.ne_str_none (fin_bl I q (by simp))
    | bl j => cases ry; exact PySem.EqMixed.ne_str_bool (fin_bl I q (by simp))
    | int j => obtain ⟨t', rfl⟩ := ry; exact PySem.EqMixed.ne_str_int (fin_bl I q (by simp))
    | str j => obtain ⟨t', rfl⟩ := ry; exact ne_str (fin_bl I q (congrArg not dec_str))
    | _ => exact absurd (show false = true from hs) Bool.false_ne_true
  | byt i =>
    obtain ⟨t, rfl⟩ := rx
    cases y with
    | byt j => obtain ⟨t', rfl⟩ := ry; exact PySem.W.ne_bytes (fin_bl I q (congrArg not dec_byt))
    | _ => exact absurd (show false = true from hs) Bool.false_ne_true
  | _ => cases y <;> exact absurd (show false = true from hs) Bool.false_ne_true

theorem op_lt : OpR X (compareOp .Lt) (rI0 fun i j => .bl (decide (i < j))) := opB0 fun _ _ _ _ _ _ _ q => lt_int q
theorem op_le : OpR X (compareOp .LtE) (rI0 fun i j => .bl (decide (i ≤ j))) := opB0 fun _ _ _ _ _ _ _ q => le_int q
theorem op_gt : OpR X (compareOp .Gt) (rI0 fun i j => .bl (decide (j < i))) := opB0 fun _ _ _ _ _ _ _ q => gt_int q
theorem op_ge : OpR X (compareOp .GtE) (rI0 fun i j => .bl (decide (j ≤ i))) := opB0 fun _ _ _ _ _ _ _ q => ge_int q
theorem op_lt_str : OpR X (compareOp .Lt) (fun x y H Q => ∃ i j, x = .str i ∧ y = .str j ∧ Q (.bl (decide (i.cps.toList < j.cps.toList))) H) := by
  intro pins s σ H x y v u Q I rx ry h
  obtain ⟨i, j, rfl, rfl, q⟩ := h
  obtain ⟨t, rfl⟩ := rx
  obtain ⟨t', rfl⟩ := ry
  exact lt_str (fin_bl I q rfl)
/-- the one string within the other -/
theorem op_in_str : OpR X (compareOp .In) (fun x y H Q => ∃ i j, x = .str i ∧ y = .str j ∧ Q (.bl (!(Builtin.Str.occurrences j i 0 j.length 1).isEmpty)) H) := by
  intro pins s σ H x y v u Q I rx ry h
  obtain ⟨i, j, rfl, rfl, q⟩ := h
  obtain ⟨t, rfl⟩ := rx
  obtain ⟨t', rfl⟩ := ry
  exact in_str (fin_bl I q rfl)

/-- is None, is not None: the right side a value none -/
theorem op_isN : OpR X (compareOp .Is) (fun x y H Q => y = .non ∧ Q (.bl (decide (x = .non))) H) := by
  intro pins s σ H x y v u Q I rx ry h
  obtain ⟨rfl, q⟩ := h
  cases ry
  refine is_none_gen (fin_bl I q ?_)
  cases x <;> first
    | (cases rx; rfl)
    | (obtain ⟨t, rfl⟩ := rx; rfl)
theorem op_notN : OpR X (compareOp .IsNot) (fun x y H Q => y = .non ∧ Q (.bl (!decide (x = .non))) H) := by
  intro pins s σ H x y v u Q I rx ry h
  obtain ⟨rfl, q⟩ := h
  cases ry
  refine isnot_none_gen (fin_bl I q ?_)
  cases x <;> first
    | (cases rx; rfl)
    | (obtain ⟨t, rfl⟩ := rx; rfl)

theorem op_notin_str : OpR X (compareOp .NotIn) (fun x y H Q => ∃ i j, x = .str i ∧ y = .str j ∧ Q (.bl (!(!(Builtin.Str.occurrences j i 0 j.length 1).isEmpty))) H) := by
  intro pins s σ H x y v u Q I rx ry h
  obtain ⟨i, j, rfl, rfl, q⟩ := h
  obtain ⟨t, rfl⟩ := rx
  obtain ⟨t', rfl⟩ := ry
  exact notIn_str (fin_bl I q rfl)
/-- is, is not of two objects that are tracked lists or instances -/
def isObj : HO → Bool
  | .lst _ => true
  | .ins _ _ _ => true
  | _ => false
theorem obj_there {pins : List (Addr × Obj)} {s : Shared} {σ : St} {H : Hp} {a : Addr} {o : HO} (I : Inv X pins σ H s) (h : H a = some o) (p : isObj o = true) : ∃ ob, s.heap.get? a = some ob ∧ ob.cls ≠ .type "tuple" := by
  cases o with
  | lst xs =>
    obtain ⟨_, its, n, _, e⟩ : xs.length ≤ sizeLine ∧ ∃ (its : List Value) (n : Nat), Vals xs its ∧ s.heap.get? a = some { cls := .type "list", data := .seq its.toArray n } := I.hok a _ h
    exact ⟨_, e, (by show Value.type "list" ≠ .type "tuple"; decide +kernel)⟩
  | ins C dx fs =>
    have x := I.hok a _ h
    obtain ⟨_, _, _, e, _⟩ := x
    exact ⟨_, e, (by show Value.ref C ≠ .type "tuple"; exact fun z => by cases z)⟩
  | _ => exact absurd (show false = true from p) Bool.false_ne_true
theorem op_is_ref : OpR X (compareOp .Is) (fun x y H Q => ∃ a b oa ob, x = .ref a ∧ y = .ref b ∧ H a = some oa ∧ isObj oa = true ∧ H b = some ob ∧ isObj ob = true ∧ Q (.bl (decide (a = b))) H) := by
  intro pins s σ H x y v u Q I rx ry h
  obtain ⟨a, b, oa, ob, rfl, rfl, ha, pa, hb, pb, q⟩ := h
  cases rx
  cases ry
  obtain ⟨o1, e1, n1⟩ := obj_there I ha pa
  obtain ⟨o2, e2, _⟩ := obj_there I hb pb
  by_cases z : a = b
  · subst z
    exact wpAny_is_ref_self (fin_bl I q (by simp))
  · exact wpAny_is_ref_other z e1 e2 n1 (fin_bl I q (by simp [z]))
theorem op_isnot_ref : OpR X (compareOp .IsNot) (fun x y H Q => ∃ a b oa ob, x = .ref a ∧ y = .ref b ∧ H a = some oa ∧ isObj oa = true ∧ H b = some ob ∧ isObj ob = true ∧ Q (.bl (!decide (a = b))) H) := by
  intro pins s σ H x y v u Q I rx ry h
  obtain ⟨a, b, oa, ob, rfl, rfl, ha, pa, hb, pb, q⟩ := h
  cases rx
  cases ry
  obtain ⟨o1, e1, n1⟩ := obj_there I ha pa
  obtain ⟨o2, e2, _⟩ := obj_there I hb pb
  by_cases z : a = b
  · subst z
    exact wpAny_isNot_ref_self (fin_bl I q (by simp))
  · exact wpAny_isNot_ref_other z e1 e2 n1 (fin_bl I q (by simp [z]))

/-- two rules for one operation: by cases -/
theorem OpR.or {f : Value → Value → Sem Value} {r r' : R2} (h : OpR X f r) (h' : OpR X f r') : OpR X f (fun x y H Q => r x y H Q ∨ r' x y H Q) := by
  intro pins s σ H x y v u Q I rx ry q
  rcases q with q | q
  · exact h pins s σ H x y v u Q I rx ry q
  · exact h' pins s σ H x y v u Q I rx ry q

theorem nomark (b : Expr) {op : CmpOp} (h : op ≠ .In := by decide) (h2 : op ≠ .NotIn := by decide) : behindInMarks op b = false := by
  have e1 : (op == CmpOp.In) = false := by cases op <;> first | rfl | exact absurd rfl h
  have e2 : (op == CmpOp.NotIn) = false := by cases op <;> first | rfl | exact absurd rfl h2
  cases b <;> simp [behindInMarks, e1, e2]
/-- a comparison as a value; hm: nomark b, or (for in, not in) by with_unfolding_all rfl -/
theorem pe_cmpR {op : CmpOp} {r : R2} (ho : OpR X (compareOp op) r) (ha : PE X a ta) (hb : PE X b tb) (hm : behindInMarks op b = false) : PE X (.Compare a [op] [b] pos) (tOp r ta tb) := by
  intro pins s σ H Q I h
  exact wpAny_Compare1 (binT ha hb I h fun v u s2 x y H2 I2 rx ry q => ho pins s2 σ H2 x y v u Q I2 rx ry q) hm
/-- a reading of a value as a test -/
def tTest (t : TE) : TT := fun σ H Q => t σ H fun x H' => ∃ k, x = .bl k ∧ Q k H'
theorem pt_cmpR {op : CmpOp} {r : R2} (ho : OpR X (compareOp op) r) (ha : PE X a ta) (hb : PE X b tb) (hm : behindInMarks op b = false) : PT X (.Compare a [op] [b] pos) (tTest (tOp r ta tb)) := by
  intro pins s σ H Q I h
  refine wpAny_isTrue_Compare1 (thn (ha pins s σ H _ I h) fun v s1 ⟨x, H1, I1, r1, q1⟩ => thn (hb pins s1 σ H1 _ I1 q1) fun u s2 ⟨y, H2, I2, r2, q2⟩ =>
    thn (ho pins s2 σ H2 x y v u _ I2 r1 r2 q2) fun c s3 ⟨z, H3, I3, r3, k, e, q3⟩ => ?_) hm
  subst e
  cases r3
  exact wpAny_truthy_bool ⟨H3, I3, q3⟩
/-- a op1 b op2 c -/
def tChain (r r' : R2) (ta tb tc : TE) : TE := fun σ H Q => ta σ H fun x H1 => tb σ H1 fun y H2 => r x y H2 fun z H3 => ∃ k, z = .bl k ∧
  (if k = true then tc σ H3 fun w' H4 => r' y w' H4 Q else Q (.bl false) H3)
theorem pe_chain {op op' : CmpOp} {r r' : R2} (ho : OpR X (compareOp op) r) (ho' : OpR X (compareOp op') r') (ha : PE X a ta) (hb : PE X b tb) (hc : PE X c tc)
    (hm : lastMarks [op, op'] [b, c] = false := by with_unfolding_all rfl) : PE X (.Compare a [op, op'] [b, c] pos) (tChain r r' ta tb tc) := by
  intro pins s σ H Q I h
  refine Compare_chain (thn (ha pins s σ H _ I h) fun v s1 ⟨x, H1, I1, r1, q1⟩ => chain_link (thn (hb pins s1 σ H1 _ I1 q1) fun u s2 ⟨y, H2, I2, r2, q2⟩ =>
    thn (ho pins s2 σ H2 x y v u _ I2 r1 r2 q2) fun d s3 ⟨z, H3, I3, r3, k, e, q3⟩ => ?_)) hm
  subst e
  cases r3
  refine wpAny_truthy_bool ?_
  cases k with
  | false => exact ite_ff ⟨.bl false, H3, I3, rfl, q3⟩
  | true => exact ite_tt (chain_last (thn (hc pins s3 σ H3 _ I3 q3) fun w' s4 ⟨z', H4, I4, r4, q4⟩ => ho' pins s4 σ H4 y z' u w' Q I4 r2 r4 q4))
theorem pt_chain {op op' : CmpOp} {r r' : R2} (ho : OpR X (compareOp op) r) (ho' : OpR X (compareOp op') r') (ha : PE X a ta) (hb : PE X b tb) (hc : PE X c tc)
    (hm : lastMarks [op, op'] [b, c] = false := by with_unfolding_all rfl) : PT X (.Compare a [op, op'] [b, c] pos) (tTest (tChain r r' ta tb tc)) := by
  intro pins s σ H Q I h
  refine isTrue_chain (thn (ha pins s σ H _ I h) fun v s1 ⟨x, H1, I1, r1, q1⟩ => test_link (thn (hb pins s1 σ H1 _ I1 q1) fun u s2 ⟨y, H2, I2, r2, q2⟩ =>
    thn (ho pins s2 σ H2 x y v u _ I2 r1 r2 q2) fun d s3 ⟨z, H3, I3, r3, k, e, q3⟩ => ?_)) hm
  subst e
  cases r3
  refine wpAny_truthy_bool ?_
  cases k with
  | false =>
    obtain ⟨k', e', q'⟩ := q3
    cases e'
    exact ite_ff ⟨H3, I3, q'⟩
  | true =>
    refine ite_tt (test_last (thn (hc pins s3 σ H3 _ I3 q3) fun w' s4 ⟨z', H4, I4, r4, q4⟩ => thn (ho' pins s4 σ H4 y z' u w' _ I4 r2 r4 q4) fun d' s5 ⟨z2, H5, I5, r5, k2, e2, q5⟩ => ?_))
    subst e2
    cases r5
    exact wpAny_truthy_bool ⟨H5, I5, q5⟩

/-! ### truth -/
/-- a value's truth by the abstract heap -/
def TruV (K : PySem.W.Frag) (x : V) (H : Hp) (k : Bool) : Prop :=
  match x with
  | .non => k = false
  | .bl b => k = b
  | .int i => k = (i != 0)
  | .str y => y.length ≤ sizeLine ∧ k = ((y.length : Int) != 0)
  | .byt y => y.size ≤ sizeLine ∧ k = ((y.size : Int) != 0)
  | .ref p => (∃ xs, SqL K H p xs ∧ k = !xs.isEmpty) ∨ (∃ xs, SqT K H p xs ∧ k = !xs.isEmpty) ∨ ∃ kvs, H p = some (.dK kvs) ∧ k = !kvs.isEmpty
  | _ => False
theorem isEmpty_kv {κ : Type} {kvs : List (κ × V)} {vs : List (κ × Value)} (r : KV kvs vs) : (!vs.isEmpty) = !kvs.isEmpty := by
  cases r <;> rfl
theorem isEmpty_of {xs : List V} {its : List Value} (r : Vals xs its) : (!its.toArray.isEmpty) = !xs.isEmpty := by
  cases r <;> simp
theorem line63 : (sizeLine : Nat) < 2 ^ 63 := by rw [sizeLine_eq]; decide
theorem tru_ok : TruR X (fun x H Q => ∃ k, TruV X.K x H k ∧ Q k H) := by
  intro pins s σ H x v Q I rx h
  obtain ⟨k, e, q⟩ := h
  have hl := line63
  have hs : sizeLine = 16777216 := sizeLine_eq
  cases x with
  | non =>
    cases rx
    have e' : k = false := e
    subst e'
    exact truthy_none ⟨H, I, q⟩
  | bl b =>
    cases rx
    have e' : k = b := e
    subst e'
    exact wpAny_truthy_bool ⟨H, I, q⟩
  | int i =>
    obtain ⟨t, rfl⟩ := rx
    have e' : k = (i != 0) := e
    subst e'
    exact PySem.P.truthy_int ⟨H, I, q⟩
  | str y =>
    obtain ⟨t, rfl⟩ := rx
    obtain ⟨hy, e'⟩ : y.length ≤ sizeLine ∧ k = ((y.length : Int) != 0) := e
    subst e'
    exact PySem.P.truthy_str (by omega) ⟨H, I.tok _, q⟩
  | byt y =>
    obtain ⟨t, rfl⟩ := rx
    obtain ⟨hy, e'⟩ : y.size ≤ sizeLine ∧ k = ((y.size : Int) != 0) := e
    subst e'
    exact PySem.W.truthy_bytes (by omega) ⟨H, I.tok _, q⟩
  | ref p =>
    cases rx
    have e' : (∃ xs, SqL X.K H p xs ∧ k = !xs.isEmpty) ∨ (∃ xs, SqT X.K H p xs ∧ k = !xs.isEmpty) ∨ ∃ kvs, H p = some (.dK kvs) ∧ k = !kvs.isEmpty := e
    rcases e' with ⟨xs, hx, e'⟩ | ⟨xs, hx, e'⟩ | ⟨kvs, hx, e'⟩
    · subst e'
      obtain ⟨its, r, pl, hz⟩ := I.list hx
      have hlen := r.length
      exact wpAny_truthy_list pl.isList (by simp only [List.size_toArray]; omega) ⟨H, I.tok _, by rw [isEmpty_of r]; exact q⟩
    · subst e'
      obtain ⟨its, r, pl, hz⟩ := I.tuple hx
      have hlen := r.length
      exact truthy_tuple pl (by simp only [List.size_toArray]; omega) ⟨H, I.tok _, by rw [isEmpty_of r]; exact q⟩
    · subst e'
      obtain ⟨hz, hS, vs, r, m⟩ : kvs.length ≤ sizeLine ∧ (p == sysModules) = false ∧ ∃ vs, KV kvs vs ∧ s.heap.DictOf (mixKind X.prog X.w) p vs := I.hok p _ hx
      have hlen : kvs.length = vs.length := Paired.length r
      exact wpAny_truthy_dict hS m (by omega) ⟨H, I.tok _, by rw [isEmpty_kv r]; exact q⟩
  | _ => exact (show False from e).elim
/-- any expression whose test is its value's truth (a name, a call, a subscript, a field ..: he by fun _ => rfl) -/
theorem pt_truth (ha : PE X a ta) (he : ∀ whole, isTrue a X.env whole = (do let v ← whole; standAt a.pos; holding [v] (truthy v))) :
    PT X a (fun σ H Q => ta σ H fun x H' => ∃ k, TruV X.K x H' k ∧ Q k H') := by
  intro pins s σ H Q I h
  exact isTrue_plain (thn (ha pins s σ H _ I h) fun v s1 ⟨x, H1, I1, r1, q1⟩ => tru_ok pins s1 σ H1 x v Q I1 r1 q1) (he _)

/-! ### strs and bytes -/
theorem pe_byt {x : List UInt8} {k : Nat} : PE X (.Constant (.bytes x) k pos) (fun _ H Q => Q (.byt x.toArray) H) := fun _ _ _ H _ I h => PySem.W.Constant_bytes ⟨.byt x.toArray, H, I.tok _, ⟨_, rfl⟩, h⟩
theorem op_add_str : OpR X (binaryOp .Add) (fun x y H Q => ∃ i j, x = .str i ∧ y = .str j ∧ i.length + j.length ≤ sizeLine ∧ Q (.str (i ++ j)) H) := by
  intro pins s σ H x y v u Q I rx ry h
  obtain ⟨i, j, rfl, rfl, hz, q⟩ := h
  obtain ⟨t, rfl⟩ := rx
  obtain ⟨t', rfl⟩ := ry
  exact add_str (fun t' tk => ⟨.str (i ++ j), H, I.tok _, ⟨_, rfl⟩, q⟩) hz
theorem iop_add_str : OpR X (inplaceOp .Add) (fun x y H Q => ∃ i j, x = .str i ∧ y = .str j ∧ i.length + j.length ≤ sizeLine ∧ Q (.str (i ++ j)) H) := by
  intro pins s σ H x y v u Q I rx ry h
  obtain ⟨i, j, rfl, rfl, hz, q⟩ := h
  obtain ⟨t, rfl⟩ := rx
  obtain ⟨t', rfl⟩ := ry
  exact iadd_str (fun t' tk => ⟨.str (i ++ j), H, I.tok _, ⟨_, rfl⟩, q⟩) hz
theorem op_add_byt : OpR X (binaryOp .Add) (fun x y H Q => ∃ i j, x = .byt i ∧ y = .byt j ∧ i.size + j.size ≤ 16777216 ∧ Q (.byt (i ++ j)) H) := by
  intro pins s σ H x y v u Q I rx ry h
  obtain ⟨i, j, rfl, rfl, hz, q⟩ := h
  obtain ⟨t, rfl⟩ := rx
  obtain ⟨t', rfl⟩ := ry
  exact PySem.W.KBy.add_bytes hz (fun t' tk => ⟨.byt (i ++ j), H, I.tok _, ⟨_, rfl⟩, q⟩)

def PlainIxT (b : Expr) : Prop := ∀ o i, subscripted b false o i = operate [o, i] (getItem o i)
/-- s[i], 0 ≤ i < len -/
theorem pe_item_str (ha : PE X a ta) (hb : PE X b tb) (hs : PlainIxT b) :
    PE X (.Subscript a b pos) (tOp (fun x y H Q => ∃ z i c, x = .str z ∧ y = .int i ∧ 0 ≤ i ∧ i < 2 ^ 63 ∧ i < z.length ∧ z.cps[i.toNat]? = some c ∧ Q (.str ⟨#[c]⟩) H) ta tb) := by
  intro pins s σ H Q I h
  refine Subscript_ (binT ha hb I h fun v u s2 x y H2 I2 rx ry q => ?_)
  obtain ⟨z, i, c, rfl, rfl, h0, h63, h1, hc, q⟩ := q
  obtain ⟨t, rfl⟩ := rx
  obtain ⟨t', rfl⟩ := ry
  have e : seqIndex? i z.length = some i.toNat := PySem.StrLaws.seqIndex_nonneg h0 h1
  exact tail_any (typeIs_str s2 z t) slot_str_getitem.lookup (getItem_str (c := c) (by
    have e1 : decide (i < -(2 ^ 63 : Int)) = false := decide_eq_false (by omega)
    have e2 : decide (i ≥ 2 ^ 63) = false := decide_eq_false (by omega)
    rw [e1, e2] <;> rfl) (by rw [e]; exact hc) ⟨.str ⟨#[c]⟩, H2, I2.tok _, ⟨_, rfl⟩, q⟩) (hs _ _)
/-- b[i], 0 ≤ i < len -/
theorem pe_item_byt (ha : PE X a ta) (hb : PE X b tb) (hs : PlainIxT b) :
    PE X (.Subscript a b pos) (tOp (fun x y H Q => ∃ (z : List UInt8) (i : Int), x = .byt z.toArray ∧ y = .int i ∧ z.length ≤ sizeLine ∧ 0 ≤ i ∧ i < z.length ∧ Q (.int ((z.getD i.toNat 0).toNat : Nat)) H) ta tb) := by
  intro pins s σ H Q I h
  refine Subscript_ (binT ha hb I h fun v u s2 x y H2 I2 rx ry q => ?_)
  obtain ⟨z, i, rfl, rfl, hz, h0, h1, q⟩ := q
  obtain ⟨t, rfl⟩ := rx
  obtain ⟨t', rfl⟩ := ry
  have hl : sizeLine = 16777216 := sizeLine_eq
  exact tail_any (PySem.W.typeIs_bytes s2 z.toArray t) PySem.W.FB.slot_bytes_getitem.lookup (PySem.W.getItem_bytes (by omega) h0 h1 ⟨.int ((z.getD i.toNat 0).toNat : Nat), H2, I2.tok _, ⟨_, rfl⟩, q⟩) (hs _ _)

/-! ### scalar builtins, by CallR -/
theorem vals1 {x : V} {us : List Value} (r : Vals [x] us) : ∃ u, us = [u] ∧ RelV x u := by
  cases r with
  | cons r1 r2 => cases r2; exact ⟨_, rfl, r1⟩
theorem vals2 {x y : V} {us : List Value} (r : Vals [x, y] us) : ∃ u w', us = [u, w'] ∧ RelV x u ∧ RelV y w' := by
  cases r with
  | cons r1 r2 =>
    cases r2 with
    | cons r3 r4 => cases r4; exact ⟨_, _, rfl, r1, r3⟩
theorem call_abs : CallR X (.builtin "abs") (fun xs H Q => ∃ i, xs = [.int i] ∧ Q (.int (if i < 0 then -i else i)) H) := by
  intro pins s σ H xs us Q I r h
  obtain ⟨i, rfl, q⟩ := h
  obtain ⟨u, rfl, t, rfl⟩ := vals1 r
  exact call_abs_int fun u tk => ⟨.int (if i < 0 then -i else i), H, I.tok _, ⟨_, rfl⟩, q⟩
theorem call_max2 (hc : X.calm = true) : CallR X (.builtin "max") (fun xs H Q => ∃ i j, xs = [.int i, .int j] ∧ Q (.int (if j > i then j else i)) H) := by
  intro pins s σ H xs us Q I r h
  obtain ⟨i, j, rfl, q⟩ := h
  obtain ⟨u, w', rfl, ⟨t, rfl⟩, ⟨t', rfl⟩⟩ := vals2 r
  refine max_two_ints (I.ok.hd hc) fun h' tk k => ⟨_, H, I.kept k, ?_, q⟩
  by_cases hj : j > i
  · rw [if_pos hj, if_pos hj]; exact ⟨_, rfl⟩
  · rw [if_neg hj, if_neg hj]; exact ⟨_, rfl⟩
theorem call_min2 (hc : X.calm = true) : CallR X (.builtin "min") (fun xs H Q => ∃ i j, xs = [.int i, .int j] ∧ Q (.int (if j < i then j else i)) H) := by
  intro pins s σ H xs us Q I r h
  obtain ⟨i, j, rfl, q⟩ := h
  obtain ⟨u, w', rfl, ⟨t, rfl⟩, ⟨t', rfl⟩⟩ := vals2 r
  refine min_two_ints (I.ok.hd hc) fun h' tk k => ⟨_, H, I.kept k, ?_, q⟩
  by_cases hj : j < i
  · rw [if_pos hj, if_pos hj]; exact ⟨_, rfl⟩
  · rw [if_neg hj, if_neg hj]; exact ⟨_, rfl⟩
theorem call_int1 : CallR X (.type "int") (fun xs H Q => (∃ i, xs = [.int i] ∧ Q (.int i) H) ∨ ∃ k, xs = [.bl k] ∧ Q (.int (if k then 1 else 0)) H) := by
  intro pins s σ H xs us Q I r h
  rcases h with ⟨i, rfl, q⟩ | ⟨k, rfl, q⟩
  · obtain ⟨u, rfl, t, rfl⟩ := vals1 r
    exact call_int_int ⟨.int i, H, I, ⟨_, rfl⟩, q⟩
  · obtain ⟨u, rfl, r1⟩ := vals1 r
    cases r1
    exact call_int_bool ⟨.int (if k then 1 else 0), H, I.tok _, ⟨_, rfl⟩, q⟩
theorem call_bool1 : CallR X (.type "bool") (fun xs H Q => (∃ i, xs = [.int i] ∧ Q (.bl (i != 0)) H) ∨ ∃ k, xs = [.bl k] ∧ Q (.bl k) H) := by
  intro pins s σ H xs us Q I r h
  rcases h with ⟨i, rfl, q⟩ | ⟨k, rfl, q⟩
  · obtain ⟨u, rfl, t, rfl⟩ := vals1 r
    exact call_bool_int ⟨.bl (i != 0), H, I, rfl, q⟩
  · obtain ⟨u, rfl, r1⟩ := vals1 r
    cases r1
    exact call_bool_bool ⟨.bl k, H, I, rfl, q⟩
theorem call_str_int : CallR X (.type "str") (fun xs H Q => ∃ i, xs = [.int i] ∧ i.natAbs.log2 < 1920 ∧ Q (.str (toString i)) H) := by
  intro pins s σ H xs us Q I r h
  obtain ⟨i, rfl, hz, q⟩ := h
  obtain ⟨u, rfl, t, rfl⟩ := vals1 r
  exact PySem.P.str_of_int hz ⟨.str _, H, I.tok _, ⟨_, rfl⟩, q⟩
theorem call_ord : CallR X (.builtin "ord") (fun xs H Q => ∃ x, xs = [.str x] ∧ x.length = 1 ∧ Q (.int (x.cps.getD 0 0 : Nat)) H) := by
  intro pins s σ H xs us Q I r h
  obtain ⟨x, rfl, hz, q⟩ := h
  obtain ⟨u, rfl, t, rfl⟩ := vals1 r
  exact ord_of_one hz ⟨.int _, H, I.tok _, ⟨_, rfl⟩, q⟩
theorem call_chr : CallR X (.builtin "chr") (fun xs H Q => ∃ i, xs = [.int i] ∧ 0 ≤ i ∧ i ≤ 1114111 ∧ Q (.str ⟨#[i.toNat]⟩) H) := by
  intro pins s σ H xs us Q I r h
  obtain ⟨i, rfl, h0, h1, q⟩ := h
  obtain ⟨u, rfl, t, rfl⟩ := vals1 r
  exact chr_of_range h0 h1 ⟨.str _, H, I.tok _, ⟨_, rfl⟩, q⟩
/-- len of a str, a bytes, a list, a tuple -/
def LenV (K : PySem.W.Frag) (x : V) (H : Hp) (n : Nat) : Prop :=
  match x with
  | .str y => y.length ≤ sizeLine ∧ n = y.length
  | .byt y => y.size ≤ sizeLine ∧ n = y.size
  | .ref p => (∃ xs, SqL K H p xs ∧ n = xs.length) ∨ ∃ xs, SqT K H p xs ∧ n = xs.length
  | _ => False
theorem call_len : CallR X (.builtin "len") (fun xs H Q => ∃ x n, xs = [x] ∧ LenV X.K x H n ∧ Q (.int n) H) := by
  intro pins s σ H xs us Q I r h
  obtain ⟨x, n, rfl, e, q⟩ := h
  obtain ⟨u, rfl, rx⟩ := vals1 r
  have hl := line63
  have hs : sizeLine = 16777216 := sizeLine_eq
  cases x with
  | str y =>
    obtain ⟨t, rfl⟩ := rx
    obtain ⟨hy, e'⟩ : y.length ≤ sizeLine ∧ n = y.length := e
    subst e'
    exact len_str (by omega) ⟨.int _, H, I.tok _, ⟨_, rfl⟩, q⟩
  | byt y =>
    obtain ⟨t, rfl⟩ := rx
    obtain ⟨hy, e'⟩ : y.size ≤ sizeLine ∧ n = y.size := e
    subst e'
    exact PySem.W.len_bytes (by omega) ⟨.int _, H, I.tok _, ⟨_, rfl⟩, q⟩
  | ref p =>
    cases rx
    have e' : (∃ xs, SqL X.K H p xs ∧ n = xs.length) ∨ ∃ xs, SqT X.K H p xs ∧ n = xs.length := e
    rcases e' with ⟨xs, hx, e'⟩ | ⟨xs, hx, e'⟩
    · subst e'
      obtain ⟨its, r', pl, hz⟩ := I.list hx
      have hlen := r'.length
      exact Calls.call_len_list pl.isList (by simp only [List.size_toArray]; omega) ⟨.int xs.length, H, I.tok _, ⟨_, by simp only [List.size_toArray]; rw [hlen]⟩, q⟩
    · subst e'
      obtain ⟨its, r', pl, hz⟩ := I.tuple hx
      have hlen := r'.length
      exact len_tuple pl (by simp only [List.size_toArray]; omega) ⟨.int xs.length, H, I.tok _, ⟨_, by simp only [List.size_toArray]; rw [hlen]⟩, q⟩
  | _ => exact (show False from e).elim
/-- divmod: a new tuple -/
theorem call_divmod : CallR X (.builtin "divmod") (fun xs H Q => ∃ i j, xs = [.int i, .int j] ∧ CDiv i j ∧ ∀ p, H p = none → Q (.ref p) (upd H p (.tup [.int (i / j), .int (i % j)]))) := by
  intro pins s σ H xs us Q I r h
  obtain ⟨i, j, rfl, ⟨h1, h2⟩, q⟩ := h
  obtain ⟨u, w', rfl, ⟨t, rfl⟩, ⟨t', rfl⟩⟩ := vals2 r
  refine divmod_int (by omega) ?_ (.inl (PyProof.noPylong_small (by omega)))
  rw [Int.fdiv_eq_ediv_of_nonneg i (by omega), Int.fmod_eq_emod_of_nonneg i (by omega)]
  have hn : H s.heap.objs.size = none := I.hok.fresh (Nat.le_refl _)
  refine ⟨.ref s.heap.objs.size, _, ?_, rfl, q _ hn⟩
  refine I.laid (fun b o e => Heap.get?_push_of_some _ e) (Nat.le_refl _) ⟨by simp only [List.length_cons, List.length_nil]; rw [sizeLine_eq]; decide, [.int (i / j) s.toks, .int (i % j) (s.toks + 1)], .cons ⟨_, rfl⟩ (.cons ⟨_, rfl⟩ .nil), ?_⟩
  exact ⟨_, Heap.get?_push_size s.heap rfl, rfl, 0, rfl⟩
end
end L2

namespace L2
open PySem PySem.Spec PyProof.Rows

/-! ### an instance, its attributes a map -/
structure ObjM (h : Heap) (x dx C : Addr) (mA : Str → Option Value) : Prop where
  obj : h.get? x = some (PySem.W.instObj C dx)
  ns : h.Ns1 dx mA
  ne : dx ≠ x

theorem lookIn_ns {h : Heap} {dx : Addr} {mA : Str → Option Value} (n : h.Ns1 dx mA) : ∃ od, h.get? dx = some od ∧ ∀ name, PySem.W.lookIn name od = some (mA name) := by
  obtain ⟨o, es, ep, ho, hd, hk, _, hm⟩ := n
  refine ⟨o, ho, fun name => ?_⟩
  have e := hm name
  unfold nsFind findBy at e
  rw [← Array.find?_toList] at e
  unfold PySem.W.lookIn
  rw [hd]
  dsimp only
  split
  · rename_i y q
    rw [q] at e
    exact congrArg some e
  · rename_i q
    rw [q] at e
    have a : es.toList.any (·.refKey) = false := by
      rw [List.any_eq_false]
      intro y hy
      obtain ⟨z, t, hkey⟩ := hk y (Array.mem_toList_iff.mp hy)
      simp [DictEntry.refKey, hkey]
    have a' : ¬ es.toList.any (·.refKey) = true := by rw [a]; exact Bool.false_ne_true
    rw [if_neg a']
    exact congrArg some e

theorem ObjM.look {h : Heap} {x dx C : Addr} {mA : Str → Option Value} (I : ObjM h x dx C mA) : ∃ od, PySem.W.InstAt h x (PySem.W.instObj C dx) C (some od) ∧ ∀ name, PySem.W.lookIn name od = some (mA name) :=
  let ⟨od, ho, hl⟩ := lookIn_ns I.ns
  ⟨od, ⟨I.obj, rfl, rfl, ho⟩, hl⟩

section
variable {prog : Program} {w : World} {A : Around} {E : Value → Shared → Prop} {s : Shared} {K : PySem.W.Frag} {x dx C f : Addr} {mA : Str → Option Value} {name : Str} {v : Value}

theorem get_map {expr : Bool} {Q : Value → Shared → Prop} (X : K.In s.heap) (I : ObjM s.heap x dx C mA) (hg : PySem.W.plainGet K C name = true) (hh : PySem.W.hasDictIn K C = true)
    (ha : PySem.W.findIn K (.ref C) name = some none) (hv : mA name = some v) (hv' : PySem.W.handedIn v = true) (h : Q v { s with toks := s.toks + 1 }) :
    wpAny (model prog w) A (getAttr (.ref x) name expr) Q E s := by
  obtain ⟨od, J, hl⟩ := I.look
  exact PySem.W.get_value X J (PySem.W.plainGet_of hg).1 (PySem.W.findObj_own hh ha rfl (by rw [hl, hv])) hv' h

theorem get_const {expr : Bool} {a : Value} {Q : Value → Shared → Prop} (X : K.In s.heap) (I : ObjM s.heap x dx C mA) (hg : PySem.W.plainGet K C name = true) (hh : PySem.W.hasDictIn K C = true)
    (ha : PySem.W.findIn K (.ref C) name = some (some a)) (hn : PySem.W.specialIn K a "__get__" = some none) (hc : PySem.W.copiedNames.contains name = false) (hv : mA name = none) (hv' : PySem.W.handedIn a = true)
    (h : Q a { s with toks := s.toks + 1 }) : wpAny (model prog w) A (getAttr (.ref x) name expr) Q E s := by
  obtain ⟨od, J, hl⟩ := I.look
  exact PySem.W.get_value X J (PySem.W.plainGet_of hg).1 (PySem.W.findObj_cls hh ha hn hv' hc (by rw [hl, hv])) hv' h

theorem get_meth {pl : Sem Bool} {Q : Value × List Value → Shared → Prop} (X : K.In s.heap) (I : ObjM s.heap x dx C mA) (hg : PySem.W.plainGet K C name = true)
    (hf : PySem.W.findIn K (.ref C) name = some (some (.ref f))) (ht : PySem.W.isFn K (.ref f) = true) (hv : mA name = none) (h : Q (.ref f, [.ref x]) s) :
    wpAny (model prog w) A (getMethod (.ref x) name pl) Q E s := by
  obtain ⟨od, J, hl⟩ := I.look
  exact PySem.W.method_fn X J (PySem.W.plainGet_of hg).1 (PySem.W.plainGet_of hg).2 hf (beq_iff_eq.mp ht) (by show (PySem.W.lookIn name od).map (·.isSome) = some false; rw [hl, hv]; rfl) h

theorem set_map {ns : List Str} {Q : Unit → Shared → Prop} (X : K.In s.heap) (I : ObjM s.heap x dx C mA)
    (hs : PySem.W.findIn K (.ref C) "__setattr__" = some (some (.builtin "object.__setattr__"))) (hp : PySem.W.plainOver K C = true) (ht : PySem.W.takerIn K C name = some none) (hh : PySem.W.hasDictIn K C = true)
    (hw : PySem.Within mA ns) (hsz : ns.length ≤ sizeLine)
    (h : ∀ h', ObjM h' x dx C (fun y => if y = name then some v else mA y) → Heap.SameBut dx s.heap h' → Q () { s with heap := h', toks := s.toks + 2 }) :
    wpAny (model prog w) A (setAttr (.ref x) name v) Q E s := by
  obtain ⟨od, J, hl⟩ := I.look
  refine PySem.W.set_plain X J hs (PySem.W.osa_open (s := { s with toks := s.toks + 1 }) (r := none) X J hp ht fun b => ?_)
  obtain ⟨cd, hc, hd'⟩ := PySem.W.any_some hh
  have hx : s.heap.get? x = some ⟨.ref C, some dx, .plain, #[]⟩ := I.obj
  refine wpAny_bind (wpAny_pure (wpAny_bind (wpAny_bind (wpAny_loadPart hx (wpAny_bind (PySem.W.Looks.here (s := { s with toks := s.toks + 1 }) (PySem.W.looks_clsIn X hc) ?_))))))
  rw [hd']
  refine wpAny_pure (a := some dx) (wpAny_bind (wpAny_pure (wpAny_bind ?_)))
  refine wpAny_nsSet1 (s := { s with toks := s.toks + 1 }) I.ns fun h' hn2 hs2 => ?_
  obtain ⟨oD, esD, epD, hoD, hdD, hcD⟩ := hn2.count (PySem.Within.cons name v hw)
  refine wpAny_bind (wpAny_lookBehind hoD (by rw [hdD]; exact pastItsLine_dict (Nat.le_trans hcD (by rw [List.length_cons]; omega))) ?_)
  exact wpAny_pure (h _ ⟨(hs2.2 _ (Ne.symm I.ne)).trans I.obj, hn2, I.ne⟩ hs2)

/-- C(..): the dict at the heap's end, the instance behind it; then its __init__ -/
theorem make_map {R : Result → Shared → Prop} {vs : List Value} {kw : List (Str × Value)} (X : K.In s.heap) (hm : PySem.W.makesIn K C = true)
    (hi : PySem.W.findIn K (.ref C) "__init__" = some (some (.ref f))) (hf : PySem.W.typeIn K (.ref f) = some (.type "function"))
    (h : codeAny (model prog w) (A.under (.builtin "type.__call__" ⟨.ref C :: vs, kw⟩)) (.call (.ref f) ⟨.ref (s.heap.objs.size + 1) :: vs, kw⟩) (PySem.W.InitBack (s.heap.objs.size + 1) R)
      { s with heap := (s.heap.push PySem.W.emptyDict).push (PySem.W.instObj C s.heap.objs.size) }) :
    codeAny (model prog w) A (.call (.ref C) ⟨vs, kw⟩) R s := by
  obtain ⟨hh, g, d, t, os⟩ := s
  exact PySem.W.make_core (PySem.W.makes_of X hm) (PySem.W.looks_findIn X hi) (fun self => PySem.W.bind_fn X self hf) (.inl rfl) h
/-- C() where there is no __init__ but object's -/
theorem make_map0 {R : Result → Shared → Prop} (X : K.In s.heap) (hm : PySem.W.makesIn K C = true)
    (hi : PySem.W.findIn K (.ref C) "__init__" = some (some (.builtin "object.__init__")))
    (hb : ∀ self, PySem.W.Looks (model prog w) s.heap (bindSpecial (.builtin "object.__init__") self) (.builtin "object.__init__", [self]))
    (h : codeAny (model prog w) (A.under (.builtin "type.__call__" ⟨[.ref C], []⟩)) (.call (.builtin "object.__init__") ⟨[.ref (s.heap.objs.size + 1)], []⟩) (PySem.W.InitBack (s.heap.objs.size + 1) R)
      { s with heap := (s.heap.push PySem.W.emptyDict).push (PySem.W.instObj C s.heap.objs.size) }) :
    codeAny (model prog w) A (.call (.ref C) ⟨[], []⟩) R s := by
  obtain ⟨hh, g, d, t, os⟩ := s
  exact PySem.W.make_core (PySem.W.makes_of X hm) (PySem.W.looks_findIn X hi) hb (.inr ⟨rfl, rfl⟩) h
end

/-! ### the attributes as a list of pairs -/
def putF (f : Str) (v : V) : List (Str × V) → List (Str × V)
  | [] => [(f, v)]
  | (g, x) :: r => if g = f then (g, v) :: r else (g, x) :: putF f v r
theorem lookup_putF (f g : Str) (v : V) : ∀ fs : List (Str × V), (putF f v fs).lookup g = if g = f then some v else fs.lookup g
  | [] => by
    show List.lookup g [(f, v)] = _
    by_cases h : g = f
    · have hb : (g == f) = true := beq_iff_eq.mpr h
      simp only [List.lookup, hb, if_pos h]
    · have hb : (g == f) = false := beq_eq_false_iff_ne.mpr h
      simp only [List.lookup, hb, if_neg h]
  | (k, x) :: r => by
    have ih := lookup_putF f g v r
    rw [show putF f v ((k, x) :: r) = (if k = f then (k, v) :: r else (k, x) :: putF f v r) from rfl]
    by_cases hk : k = f
    · rw [if_pos hk]
      by_cases h : g = k
      · have hb : (g == k) = true := beq_iff_eq.mpr h
        simp only [List.lookup, hb, if_pos (h.trans hk)]
      · have hb : (g == k) = false := beq_eq_false_iff_ne.mpr h
        simp only [List.lookup, hb, if_neg (fun e : g = f => h (e.trans hk.symm))]
    · rw [if_neg hk]
      by_cases h : g = k
      · have hb : (g == k) = true := beq_iff_eq.mpr h
        simp only [List.lookup, hb, if_neg (fun e : g = f => hk (h.symm.trans e))]
      · have hb : (g == k) = false := beq_eq_false_iff_ne.mpr h
        simp only [List.lookup, hb]
        exact ih
theorem keys_putF (f : Str) (v : V) : ∀ fs : List (Str × V), f ∈ (putF f v fs).map (·.1) ∧ ∀ g, g ∈ fs.map (·.1) → g ∈ (putF f v fs).map (·.1)
  | [] => ⟨by simp [putF], fun g h => by simp at h⟩
  | (k, x) :: r => by
    obtain ⟨i1, i2⟩ := keys_putF f v r
    rw [show putF f v ((k, x) :: r) = (if k = f then (k, v) :: r else (k, x) :: putF f v r) from rfl]
    by_cases hk : k = f
    · rw [if_pos hk]
      subst hk
      exact ⟨by simp, fun g h => by simpa using h⟩
    · rw [if_neg hk]
      refine ⟨?_, fun g h => ?_⟩
      · rw [List.map_cons]
        exact List.mem_cons_of_mem _ i1
      · rw [List.map_cons] at h ⊢
        rcases List.mem_cons.mp h with e | e
        · exact List.mem_cons.mpr (.inl e)
        · exact List.mem_cons_of_mem _ (i2 g e)
theorem length_putF (f : Str) (v : V) : ∀ fs : List (Str × V), (putF f v fs).length ≤ fs.length + 1
  | [] => by simp [putF]
  | (k, x) :: r => by
    have ih := length_putF f v r
    rw [show putF f v ((k, x) :: r) = (if k = f then (k, v) :: r else (k, x) :: putF f v r) from rfl]
    by_cases hk : k = f
    · rw [if_pos hk, List.length_cons, List.length_cons]; omega
    · rw [if_neg hk, List.length_cons, List.length_cons]; omega

theorem RelO.some_of {v : V} {o : Option Value} (r : RelO (some v) o) : ∃ u, o = some u ∧ RelV v u := by
  cases o with
  | none => exact (show False from r).elim
  | some u => exact ⟨u, rfl, r⟩
theorem RelO.none_of {o : Option Value} (r : RelO none o) : o = none := by
  cases o with
  | none => rfl
  | some u => exact (show False from r).elim
theorem handed_of {v : V} {u : Value} (r : RelV v u) : PySem.W.handedIn u = true := by
  cases v with
  | non => cases (show u = Value.none from r); rfl
  | bl b => cases (show u = Value.bool b from r); rfl
  | int i => obtain ⟨t, e⟩ := (show ∃ t, u = Value.int i t from r); cases e; rfl
  | str x => obtain ⟨t, e⟩ := (show ∃ t, u = Value.str x t from r); cases e; rfl
  | byt b => obtain ⟨t, e⟩ := (show ∃ t, u = Value.bytes b t from r); cases e; rfl
  | flt b => obtain ⟨t, e⟩ := (show ∃ t, u = Value.float b t from r); cases e; rfl
  | ref a => cases (show u = Value.ref a from r); rfl
  | ty n => cases (show u = Value.type n from r); rfl

section
variable {P : Program} {w : World} {H H' : Hp} {h h' : Heap} {a C dx : Addr} {fs fs' : List (Str × V)}
theorem ins_get (hok : HOk P w H h) (e : H a = some (.ins C dx fs)) : ∃ mA, ObjM h a dx C mA ∧ (∀ f, RelO (fs.lookup f) (mA f)) ∧ PySem.Within mA (fs.map (·.1)) ∧ fs.length ≤ 1000 ∧ H dx = some (.own a) := by
  obtain ⟨d, z, ne, ob, mA, n, r, q⟩ := (show ObjOk P w H h a (.ins C dx fs) from hok a _ e)
  exact ⟨mA, ⟨ob, n, ne⟩, r, q, z, d⟩
end

/-! ### what of the text a class must have -/
structure Cls (K : PySem.W.Frag) (C : Addr) : Prop where
  pg : PySem.W.plainGet K C Str.empty = true
  hd : PySem.W.hasDictIn K C = true
  po : PySem.W.plainOver K C = true
  sa : PySem.W.findIn K (.ref C) "__setattr__" = some (some (.builtin "object.__setattr__"))
theorem Cls.get {K : PySem.W.Frag} {C : Addr} (c : Cls K C) (f : Str) : PySem.W.plainGet K C f = true := c.pg
/-- no class of it has the name -/
def NoAttr (K : PySem.W.Frag) (C : Addr) (f : Str) : Prop := PySem.W.findIn K (.ref C) f = some none
theorem NoAttr.taker {K : PySem.W.Frag} {C : Addr} {f : Str} (n : NoAttr K C f) : PySem.W.takerIn K C f = some none := by
  unfold PySem.W.takerIn
  rw [show PySem.W.findIn K (.ref C) f = some none from n]
  rfl
/-- a constant of the class -/
structure Con (K : PySem.W.Frag) (C : Addr) (f : Str) (v : V) (u : Value) : Prop where
  at_ : PySem.W.findIn K (.ref C) f = some (some u)
  rel : RelV v u
  get : PySem.W.specialIn K u "__get__" = some none
  cp : PySem.W.copiedNames.contains f = false
/-- a method: a plain def of the class or of one above it -/
structure Meth (K : PySem.W.Frag) (C : Addr) (m : Str) (f : Addr) : Prop where
  at_ : PySem.W.findIn K (.ref C) m = some (some (.ref f))
  fn : PySem.W.isFn K (.ref f) = true
  kp : PySem.W.keepIn K (.ref f) = true

section
variable {X : Cx} {pins : List (Addr × Obj)} {σ : St} {H : Hp} {s : Shared} {a C dx : Addr} {fs : List (Str × V)} {f : Str} {v : V} {A : Around} {E : Value → Shared → Prop}

theorem getattr_ok {b : Bool} {Q : Value → Shared → Prop} (I : Inv X pins σ H s) (e : H a = some (.ins C dx fs)) (c : Cls X.K C) (n : NoAttr X.K C f) (l : fs.lookup f = some v)
    (h : ∀ u s', Inv X pins σ H s' → RelV v u → Q u s') : wpAny (model X.prog X.w) A (getAttr (.ref a) f b) Q E s := by
  obtain ⟨mA, O, r, _, _, _⟩ := ins_get I.hok e
  obtain ⟨u, hu, ru⟩ := RelO.some_of (v := v) (o := mA f) (by rw [← l]; exact r f)
  exact get_map I.kIn O (c.get f) c.hd n hu (handed_of ru) (h u _ (I.tok _) ru)

theorem getcon_ok {b : Bool} {u : Value} {Q : Value → Shared → Prop} (I : Inv X pins σ H s) (e : H a = some (.ins C dx fs)) (c : Cls X.K C) (k : Con X.K C f v u) (l : fs.lookup f = none)
    (h : ∀ s', Inv X pins σ H s' → Q u s') : wpAny (model X.prog X.w) A (getAttr (.ref a) f b) Q E s := by
  obtain ⟨mA, O, r, _, _, _⟩ := ins_get I.hok e
  have hn : mA f = none := RelO.none_of (by rw [← l]; exact r f)
  exact get_const I.kIn O (c.get f) c.hd k.at_ k.get k.cp hn (handed_of k.rel) (h _ (I.tok _))

theorem getmeth_ok {m : Str} {g : Addr} {pl : Sem Bool} {Q : Value × List Value → Shared → Prop} (I : Inv X pins σ H s) (e : H a = some (.ins C dx fs)) (c : Cls X.K C) (k : Meth X.K C m g) (l : fs.lookup m = none)
    (h : Q (.ref g, [.ref a]) s) : wpAny (model X.prog X.w) A (getMethod (.ref a) m pl) Q E s := by
  obtain ⟨mA, O, r, _, _, _⟩ := ins_get I.hok e
  have hn : mA m = none := RelO.none_of (by rw [← l]; exact r m)
  exact get_meth I.kIn O (c.get m) k.at_ k.fn hn h

theorem setattr_ok {y : V} {u : Value} {Q : Unit → Shared → Prop} (I : Inv X pins σ H s) (e : H a = some (.ins C dx fs)) (c : Cls X.K C) (n : NoAttr X.K C f) (hl : fs.length < 1000) (ry : RelV y u)
    (h : ∀ s', Inv X pins σ (upd H a (.ins C dx (putF f y fs))) s' → Q () s') : wpAny (model X.prog X.w) A (setAttr (.ref a) f u) Q E s := by
  obtain ⟨mA, O, r, wi, _, ho⟩ := ins_get I.hok e
  have hz : (fs.map (·.1)).length ≤ sizeLine := by rw [List.length_map, sizeLine_eq]; omega
  refine set_map I.kIn O c.sa c.po n.taker c.hd wi hz fun h' O' sb => h _ ?_
  have hd : ∃ o, h'.get? dx = some o := let ⟨o, _, _, e', _⟩ := O'.ns; ⟨o, e'⟩
  refine I.write (x := a) (e := dx) (by rw [e]; exact True.intro) (.inr ho) (fun b q hb z => (sb.2 b hb).trans z) hd ?_
  refine ⟨by rw [upd_ne O.ne]; exact ho, ?_, O.ne, O'.obj, _, O'.ns, fun g => ?_, fun g hg => ?_⟩
  · have := length_putF f y fs; omega
  · show RelO ((putF f y fs).lookup g) (if g = f then some u else mA g)
    rw [lookup_putF]
    by_cases q : g = f
    · rw [if_pos q, if_pos q]; exact ry
    · rw [if_neg q, if_neg q]; exact r g
  · by_cases q : g = f
    · rw [q]; exact (keys_putF f y fs).1
    · refine (keys_putF f y fs).2 g (wi g fun z => hg ?_)
      show (if g = f then some u else mA g) = none
      rw [if_neg q]; exact z

/-- a new instance, tracked, without attributes -/
theorem Inv.made (I : Inv X pins σ H s) : Inv X pins σ (upd (upd H s.heap.objs.size (.own (s.heap.objs.size + 1))) (s.heap.objs.size + 1) (.ins C s.heap.objs.size []))
    { s with heap := (s.heap.push PySem.W.emptyDict).push (PySem.W.instObj C s.heap.objs.size) } := by
  have e1 : (s.heap.push PySem.W.emptyDict).get? s.heap.objs.size = some PySem.W.emptyDict := Heap.get?_push_size s.heap rfl
  have e2 : ((s.heap.push PySem.W.emptyDict).push (PySem.W.instObj C s.heap.objs.size)).get? (s.heap.objs.size + 1) = some (PySem.W.instObj C s.heap.objs.size) := by
    have := Heap.get?_push_size (s.heap.push PySem.W.emptyDict) (o := PySem.W.instObj C s.heap.objs.size) rfl
    rwa [Heap.size_push] at this
  have e3 : (s.heap.push PySem.W.emptyDict).Ns s.heap.objs.size (fun _ => none) := ⟨PySem.W.emptyDict, #[], _, e1, rfl, (fun e he => absurd he (by simp)), fun _ => rfl⟩
  have I1 := I.laid (a := s.heap.objs.size) (o := .own (s.heap.objs.size + 1)) (h' := s.heap.push PySem.W.emptyDict) (t' := s.toks) (fun b u q => Heap.get?_push_of_some _ q) (Nat.le_refl _) ⟨_, e1⟩
  refine I1.laid (a := s.heap.objs.size + 1) (o := .ins C s.heap.objs.size []) (t' := s.toks) (fun b u q => Heap.get?_push_of_some _ q) (Nat.le_of_eq (Heap.size_push _ _)) ?_
  have ne : s.heap.objs.size ≠ s.heap.objs.size + 1 := Nat.ne_of_lt (Nat.lt_succ_self _)
  refine ⟨by rw [upd_ne ne, upd_same], Nat.zero_le _, ne, e2, fun _ => none, (Heap.Ns1.of_empty e3).at fun o q => Heap.get?_push_of_some _ q, fun _ => True.intro, fun y hy => absurd rfl hy⟩

/-- e.f where nothing but the object is asked: through attributeBase (super) and the last hold -/
theorem attr_of {prog : Program} {w : World} {env : Env} {e : Expr} {f : Str} {pos : Pos} {s : Shared} {Q : Value → Shared → Prop} (hb : attributeBase e f env (eval e env) = eval e env)
    (h : wpAny (model prog w) A (eval e env) (fun o s₁ => wpAny (model prog w) A (getAttr o f true) Q E s₁) E s) : wpAny (model prog w) A (eval (.Attribute e f pos) env) Q E s :=
  Attribute_any_ h (by rw [arm_eval_Attribute, hb])
end

/-! ### readings and rules -/
/-- e.f, an attribute of the instance -/
def tFld (K : PySem.W.Frag) (ta : TE) (f : Str) : TE := fun σ H Q => ta σ H fun x H1 => ∃ a C dx fs v, x = .ref a ∧ H1 a = some (.ins C dx fs) ∧ Cls K C ∧ NoAttr K C f ∧ fs.lookup f = some v ∧ Q v H1
/-- e.f, a constant of the class -/
def tCon (K : PySem.W.Frag) (ta : TE) (f : Str) : TE := fun σ H Q => ta σ H fun x H1 => ∃ a C dx fs v u, x = .ref a ∧ H1 a = some (.ins C dx fs) ∧ Cls K C ∧ Con K C f v u ∧ fs.lookup f = none ∧ Q v H1
/-- e.f = value -/
def sFld (K : PySem.W.Frag) (ta tv : TE) (f : Str) : TS := fun D σ H => tv σ H fun y H1 => ta σ H1 fun x H2 => ∃ a C dx fs, x = .ref a ∧ H2 a = some (.ins C dx fs) ∧ Cls K C ∧ NoAttr K C f ∧ fs.length < 1000 ∧
  D.nx σ (upd H2 a (.ins C dx (putF f y fs)))
/-- an augmented operator on two values -/
def InOp (X : Cx) (op : Operator) (rd : V → V → Hp → VK → Prop) : Prop :=
  ∀ (pins : List (Addr × Obj)) (s : Shared) (σ : St) (H : Hp) (x y : V) (u v : Value) (Q : VK), Inv X pins σ H s → RelV x u → RelV y v → rd x y H Q → wpAny (model X.prog X.w) X.A (inplaceOp op u v) (EP X pins σ Q) X.xe s
/-- e.f op= value -/
def sFldAug (K : PySem.W.Frag) (ta tv : TE) (rd : V → V → Hp → VK → Prop) (f : Str) : TS := fun D σ H => ta σ H fun x H1 => ∃ a C dx fs v, x = .ref a ∧ H1 a = some (.ins C dx fs) ∧ Cls K C ∧ NoAttr K C f ∧ fs.lookup f = some v ∧
  tv σ H1 fun y H2 => rd v y H2 fun z H3 => ∃ dx' fs', H3 a = some (.ins C dx' fs') ∧ fs'.length < 1000 ∧ D.nx σ (upd H3 a (.ins C dx' (putF f z fs')))

section
variable {X : Cx} {o e value : Expr} {f : Str} {pos pos' tpos : Pos} {ta tv : TE}
theorem pe_fld (he : PE X e ta) (hb : attributeBase e f X.env (eval e X.env) = eval e X.env) : PE X (.Attribute e f pos) (tFld X.K ta f) := by
  intro pins s σ H Q I h
  refine attr_of hb (thn (he pins s σ H _ I h) fun u s1 ⟨x, H1, I1, rx, a, C, dx, fs, v, ex, ea, c, n, l, q⟩ => ?_)
  subst ex
  obtain rfl : u = Value.ref a := rx
  exact getattr_ok I1 ea c n l fun u' s2 I2 ru => ⟨v, H1, I2, ru, q⟩
theorem pe_con (he : PE X e ta) (hb : attributeBase e f X.env (eval e X.env) = eval e X.env) : PE X (.Attribute e f pos) (tCon X.K ta f) := by
  intro pins s σ H Q I h
  refine attr_of hb (thn (he pins s σ H _ I h) fun u s1 ⟨x, H1, I1, rx, a, C, dx, fs, v, u0, ex, ea, c, k, l, q⟩ => ?_)
  subst ex
  obtain rfl : u = Value.ref a := rx
  exact getcon_ok I1 ea c k l fun s2 I2 => ⟨v, H1, I2, k.rel, q⟩
theorem ps_fld (ha : PE X o ta) (hv : PE X value tv) (hs : swapsWith value (some (.Attribute o f pos')) pos.line X.env = pure false) : PS X (.Assign [.Attribute o f pos'] value pos) (sFld X.K ta tv f) := by
  intro pins s σ H D I h
  refine plainObj_wpAny_Assign_Attribute (thn (hv pins s σ H _ I h) fun u s1 ⟨y, H1, I1, ry, q⟩ => thn (ha pins s1 σ H1 _ I1 q) fun ov s2 ⟨x, H2, I2, rx, a, C, dx, fs, ex, ea, c, n, l, q2⟩ => ?_) hs
  subst ex
  obtain rfl : ov = Value.ref a := rx
  exact setattr_ok I2 ea c n l ry fun s3 I3 => ⟨σ, _, I3, q2⟩
theorem ps_fldaug {op : Operator} {rd : V → V → Hp → VK → Prop} (ha : PE X o ta) (hv : PE X value tv) (hop : InOp X op rd) : PS X (.AugAssign (.Attribute o f tpos) op value pos) (sFldAug X.K ta tv rd f) := by
  intro pins s σ H D I h
  refine wpAny_AugAssign_AttributeAny (thn (ha pins s σ H _ I h) fun ov s1 ⟨x, H1, I1, rx, a, C, dx, fs, v, ex, ea, c, n, l, q⟩ => ?_)
  subst ex
  obtain rfl : ov = Value.ref a := rx
  refine getattr_ok I1 ea c n l fun u s2 I2 ru => thn (hv pins s2 σ H1 _ I2 q) fun w3 s3 ⟨y, H2, I3, ry, q3⟩ => thn (hop pins s3 σ H2 v y u w3 _ I3 ru ry q3) fun w4 s4 ⟨z, H3, I4, rz, dx', fs', ea', l', q4⟩ => ?_
  exact setattr_ok I4 ea' c n l' rz fun s5 I5 => ⟨σ, _, I5, q4⟩
def rAdd : V → V → Hp → VK → Prop := fun x y H Q => ∃ i j, x = .int i ∧ y = .int j ∧ Q (.int (i + j)) H
def rSub : V → V → Hp → VK → Prop := fun x y H Q => ∃ i j, x = .int i ∧ y = .int j ∧ Q (.int (i - j)) H
theorem in_add : InOp X .Add rAdd := by
  rintro pins s σ H x y u v Q I rx ry ⟨i, j, rfl, rfl, q⟩
  obtain ⟨t, rfl⟩ := (show ∃ t, u = Value.int i t from rx)
  obtain ⟨t', rfl⟩ := (show ∃ t', v = Value.int j t' from ry)
  exact PyProof.Rows.iadd_int ⟨.int (i + j), H, I.tok _, ⟨_, rfl⟩, q⟩
theorem in_sub : InOp X .Sub rSub := by
  rintro pins s σ H x y u v Q I rx ry ⟨i, j, rfl, rfl, q⟩
  obtain ⟨t, rfl⟩ := (show ∃ t, u = Value.int i t from rx)
  obtain ⟨t', rfl⟩ := (show ∃ t', v = Value.int j t' from ry)
  exact PyProof.Rows.isub_int ⟨.int (i - j), H, I.tok _, ⟨_, rfl⟩, q⟩

/-- what is between an instance and its method: the tree of a method call -/
theorem methcall_of {pl : Sem Bool} {m : Str} {apos : Pos} {args : List Expr} {pins : List (Addr × Obj)} {s : Shared} {σ : St} {H : Hp} {Q : Value → Shared → Prop} {te : TE} (he : PE X e te) (I : Inv X pins σ H s)
    (h : te σ H fun x H1 => ∃ a C dx fs g, x = .ref a ∧ H1 a = some (.ins C dx fs) ∧ Cls X.K C ∧ Meth X.K C m g ∧ fs.lookup m = none ∧
      ∀ s1, Inv X pins σ H1 s1 → wpAny (model X.prog X.w) X.A (callWith pos (.ref g) [.ref a] (backTo pos (starEach args X.env)) (backToKw pos (keywordEach [] X.env))) Q X.xe s1)
    (ht : eval (.Call (.Attribute e m apos) args [] pos) X.env = (do
      let ov ← eval e X.env
      standAt apos.atName
      let (f, first) ← holding [ov] (getMethod ov m pl)
      callWith pos f first (backTo pos (starEach args X.env)) (backToKw pos (keywordEach [] X.env)))) :
    wpAny (model X.prog X.w) X.A (eval (.Call (.Attribute e m apos) args [] pos) X.env) Q X.xe s := by
  refine PySem.W.methodCall_KW (pl := pl) (thn (he pins s σ H _ I h) fun u s1 ⟨x, H1, I1, rx, a, C, dx, fs, g, ex, ea, c, k, l, q⟩ => ?_) ht
  subst ex
  obtain rfl : u = Value.ref a := rx
  exact getmeth_ok I1 ea c k l (q s1 I1)
end

/-! ### isinstance -/
section
variable {X : Cx} {pins : List (Addr × Obj)} {σ : St} {H : Hp} {s : Shared} {A : Around} {E : Value → Shared → Prop} {Q : Value → Shared → Prop} {c : Value} {b : Bool}
/-- the type of a value, as the fragment's deciders take it; for an instance its class -/
inductive TyOf (K : PySem.W.Frag) (H : Hp) : V → Value → Prop where
  | non : TyOf K H .non (.type "NoneType")
  | bl (x : Bool) : TyOf K H (.bl x) (.type "bool")
  | int (i : Int) : TyOf K H (.int i) (.type "int")
  | str (x : Str) : TyOf K H (.str x) (.type "str")
  | flt (x : UInt64) : TyOf K H (.flt x) (.type "float")
  | lst {a : Addr} {xs : List V} (e : H a = some (.lst xs)) : TyOf K H (.ref a) (.type "list")
  | frz {a : Addr} {o : Obj} {xs : List V} (e : H a = some (.frz o (.lst xs))) : TyOf K H (.ref a) (.type "list")
  | tup {a : Addr} {xs : List V} (e : H a = some (.tup xs)) : TyOf K H (.ref a) (.type "tuple")
  | dK {a : Addr} {kvs : List (Key × V)} (e : H a = some (.dK kvs)) : TyOf K H (.ref a) (.type "dict")
  | dT {a : Addr} {kvs : List (List Key × V)} (e : H a = some (.dT kvs)) : TyOf K H (.ref a) (.type "dict")
  | ins {a C dx : Addr} {fs : List (Str × V)} (e : H a = some (.ins C dx fs)) (cl : Cls K C) (ha : PySem.W.findIn K (.ref C) "__class__" = some (some (.builtin "object.__class__")))
      (hn : PySem.W.specialIn K (.builtin "object.__class__") "__get__" = some (some (.builtin "getset_descriptor.__get__"))) (htk : PySem.W.takesIn K (.builtin "object.__class__") = some true)
      (hm : PySem.W.mroIn K C (.type "object") = some true) : TyOf K H (.ref a) (.ref C)
/-- isinstance(x, c) for one class c, a built-in or an own one: kitOne's answer -/
theorem isinst_ok {x : V} {u t : Value} (I : Inv X pins σ H s) (rx : RelV x u) (ty : TyOf X.K H x t) (e : PySem.W.kitOne X.K t c = some b) (h : ∀ tk, Q (.bool b) { s with toks := tk }) :
    wpAny (model X.prog X.w) A (call (.builtin "isinstance") [u, c]) Q E s := by
  cases ty with
  | non => cases (show u = Value.none from rx); exact PySem.W.kia_one PySem.W.kitx_none I.kIn True.intro e (fun z => nomatch z) h
  | bl y => cases (show u = Value.bool y from rx); exact PySem.W.kia_one PySem.W.kitx_bool I.kIn True.intro e (fun z => nomatch z) h
  | int i => obtain ⟨t, q⟩ := (show ∃ t, u = Value.int i t from rx); cases q; exact PySem.W.kia_one PySem.W.kitx_int I.kIn True.intro e (fun z => nomatch z) h
  | str y => obtain ⟨t, q⟩ := (show ∃ t, u = Value.str y t from rx); cases q; exact PySem.W.kia_one PySem.W.kitx_str I.kIn True.intro e (fun z => nomatch z) h
  | flt y => obtain ⟨t, q⟩ := (show ∃ t, u = Value.float y t from rx); cases q; exact PySem.W.kia_one PySem.W.kitx_float I.kIn True.intro e (fun z => nomatch z) h
  | @lst a xs ea =>
    cases (show u = Value.ref a from rx)
    obtain ⟨_, _, n, _, h1⟩ := (show ObjOk X.prog X.w H s.heap a (.lst xs) from I.hok a _ ea)
    exact PySem.W.kia_one PySem.W.kitx_list I.kIn ⟨_, h1, rfl⟩ e (fun z => nomatch z) h
  | @frz a ob xs ea =>
    cases (show u = Value.ref a from rx)
    obtain ⟨_, _, _, n, _, h1⟩ := (show ObjOk X.prog X.w H s.heap a (.frz ob (.lst xs)) from I.hok a _ ea)
    exact PySem.W.kia_one PySem.W.kitx_list I.kIn ⟨_, h1, rfl⟩ e (fun z => nomatch z) h
  | @tup a xs ea =>
    cases (show u = Value.ref a from rx)
    obtain ⟨_, _, _, p⟩ := (show ObjOk X.prog X.w H s.heap a (.tup xs) from I.hok a _ ea)
    obtain ⟨o, h1, h2, _⟩ := p
    exact PySem.W.kia_one PySem.W.kitx_tuple I.kIn ⟨o, h1, h2⟩ e (fun z => nomatch z) h
  | @dK a kvs ea =>
    cases (show u = Value.ref a from rx)
    obtain ⟨_, _, vs, _, p⟩ := (show ObjOk X.prog X.w H s.heap a (.dK kvs) from I.hok a _ ea)
    obtain ⟨o, es, ep, h1, h2, _⟩ := p
    exact PySem.W.kia_one PySem.W.kitx_dict I.kIn ⟨o, h1, h2.1⟩ e (fun z => nomatch z) h
  | @dT a kvs ea =>
    cases (show u = Value.ref a from rx)
    obtain ⟨_, _, xs, _, o, es, ep, h1, h2, _⟩ := (show ObjOk X.prog X.w H s.heap a (.dT kvs) from I.hok a _ ea)
    exact PySem.W.kia_one PySem.W.kitx_dict I.kIn ⟨o, h1, h2.1⟩ e (fun z => nomatch z) h
  | @ins a C dx fs ea cl ha hn htk hm =>
    cases (show u = Value.ref a from rx)
    obtain ⟨mA, O, _⟩ := ins_get I.hok ea
    obtain ⟨od, J, _⟩ := O.look
    exact PySem.W.kia_one (PySem.W.kitx_own (cl.get _) cl.hd ha hn htk hm) I.kIn J e (fun z => nomatch z) h
end
end L2

namespace L2
open PySem PySem.Spec PyProof.Rows

/-! ### room -/
structure Room (k : Nat) (A : Around) : Prop where
  hd : A.handled = none
  dp : A.depth + 3 * k + 5 < recursionLimit
  un : A.units + 16 * k + 200 < cLine
theorem Room.mono {j k : Nat} {A : Around} (r : Room k A) (h : j ≤ k) : Room j A := ⟨r.hd, by have := r.dp; omega, by have := r.un; omega⟩
theorem Room.deeper {k : Nat} {A : Around} (r : Room (k + 1) A) (env : Env) : Room k (A.deeper env) :=
  ⟨r.hd, by have := r.dp; show A.depth + 1 + 3 * k + 5 < _; omega, by have := r.un; show A.units + 3 + 16 * k + 200 < _; omega⟩
theorem Room.in1 {k : Nat} {A : Around} (r : Room (k + 1) A) : Room k A.in1 :=
  ⟨r.hd, by have := r.dp; show A.depth + 3 * k + 5 < _; omega, by have := r.un; show A.units + 1 + 16 * k + 200 < _; omega⟩
theorem make_depth {A : Around} {C : Addr} {us : List Value} {kw : List (Str × Value)} : (A.under (.builtin "type.__call__" ⟨.ref C :: us, kw⟩)).depth = A.depth + 1 := by
  first | rfl | simp [Around.under, Code.weight, Code.isCreation, Code.isGuard, Code.isCaller, Code.frames, Code.isFrame, guardIds]
theorem make_units {A : Around} {C : Addr} {us : List Value} {kw : List (Str × Value)} : (A.under (.builtin "type.__call__" ⟨.ref C :: us, kw⟩)).units = A.units + 1 := by
  first | rfl | simp [Around.under, Code.cUnits, Code.frames, Code.isFrame]
theorem Room.make {k : Nat} {A : Around} (r : Room (k + 1) A) (C : Addr) (us : List Value) (kw : List (Str × Value)) : Room k (A.under (.builtin "type.__call__" ⟨.ref C :: us, kw⟩)) :=
  ⟨r.hd, by have := r.dp; rw [make_depth]; omega, by have := r.un; rw [make_units]; omega⟩
theorem Room.depth {k : Nat} {A : Around} (r : Room k A) : A.depth < recursionLimit := by have := r.dp; omega
theorem Room.units {k : Nat} {A : Around} (r : Room k A) : A.units + 64 < cLine := by have := r.un; omega
theorem Room.units0 {k : Nat} {A : Around} (r : Room k A) : A.units < cLine := by have := r.un; omega

/-! ### argument lists and displays -/
def tNil : TA := fun _ H Q => Q [] H
def tCons (ta : TE) (tr : TA) : TA := fun σ H Q => ta σ H fun x H1 => tr σ H1 fun xs H2 => Q (x :: xs) H2
section
variable {X : Cx} {e : Expr} {es : List Expr} {te : TE} {t : TA} {pos : Pos}
theorem pa_nil : PA X [] tNil := fun _ _ _ _ H Q I h => Calls.spliced_nil ⟨[], H, I, .nil, h⟩
theorem pa_cons (ha : PE X e te) (hr : PA X es t) (hs : starEach (e :: es) X.env = (false, eval e X.env) :: starEach es X.env := by rfl) : PA X (e :: es) (tCons te t) := by
  intro pos pins s σ H Q I h
  rw [hs]
  show wpAny _ _ (spliced ((false, eval e X.env) :: backTo pos (starEach es X.env))) _ _ s
  refine Calls.spliced_cons (thn (ha pins s σ H _ I h) fun u s1 ⟨x, H1, I1, r1, q1⟩ => ?_)
  exact thn (hr pos pins s1 σ H1 _ I1 q1) fun us s2 ⟨xs, H2, I2, r2, q2⟩ => ⟨x :: xs, H2, I2, .cons r1 r2, q2⟩

/-- a tuple, a list of written items -/
def tTup (t : TA) : TE := fun σ H Q => t σ H fun xs H1 => xs.length ≤ sizeLine ∧ ∀ p, H1 p = none → Q (.ref p) (upd H1 p (.tup xs))
def tLst (t : TA) : TE := fun σ H Q => t σ H fun xs H1 => xs.length ≤ sizeLine ∧ ∀ p, H1 p = none → Q (.ref p) (upd H1 p (.lst xs))
theorem pe_tup {x1} (h : PA X es t) : PE X (.Tuple es x1 pos) (tTup t) := by
  intro pins s σ H Q I hq
  refine wpAny_Tuple_spliced (thn (h pos pins s σ H _ I hq) fun us s1 ⟨xs, H1, I1, r, z, q⟩ => ⟨by rw [← r.length]; exact z, ?_⟩)
  have hf : H1 s1.heap.objs.size = none := I1.hok.fresh (Nat.le_refl _)
  refine ⟨.ref s1.heap.objs.size, upd H1 s1.heap.objs.size (.tup xs), I1.laid (t' := s1.toks) (fun b u e => Heap.get?_push_of_some _ e) (Nat.le_refl _) ?_, rfl, q _ hf⟩
  exact ⟨z, us, r, ⟨_, Heap.get?_push_size _ rfl, rfl, _, rfl⟩⟩
theorem pe_lst (h : PA X es t) : PE X (.List es pos) (tLst t) := by
  intro pins s σ H Q I hq
  refine wpAny_List_spliced (thn (h pos pins s σ H _ I hq) fun us s1 ⟨xs, H1, I1, r, z, q⟩ => ⟨by rw [← r.length]; exact z, ?_⟩)
  have hf : H1 s1.heap.objs.size = none := I1.hok.fresh (Nat.le_refl _)
  refine ⟨.ref s1.heap.objs.size, upd H1 s1.heap.objs.size (.lst xs), I1.laid (t' := s1.toks) (fun b u e => Heap.get?_push_of_some _ e) (Nat.le_refl _) ?_, rfl, q _ hf⟩
  exact ⟨z, us, 0, r, Heap.get?_push_size _ rfl⟩
end

/-! ### what a def promises -/
/-- a def's promise: the bound arguments in the parameters' order, the heap, the wanted end, the wanted exception -/
abbrev Sp := List V → Hp → VK → XK → Prop
/-- how an exception lies behind a call (file 08 gives it): the callers' frames, abstract heap and state ahead of the call, the wish, the exception, the state -/
abbrev CXT := List Env → Hp → Shared → XK → Value → Shared → Prop

/-- the state at a call -/
structure Env0 (P : Program) (w : World) (K : PySem.W.Frag) (mg : Str → Option Value) (base : Heap) (A : Around) (outer : List Env) (s : Shared) (H : Hp) : Prop where
  frames : A.frames = some outer
  mod : Mod K mg base
  bs : ∀ b o, base.get? b = some o → s.heap.get? b = some o ∧ H b = none
  bsz : base.objs.size ≤ s.heap.objs.size
  funs : s.heap.FunFrames base outer
  frf : ∀ b ∈ frs outer, H b = none
  hok : HOk P w H s.heap
  bare : AllBare s.gens
/-- a call's end -/
def CE (outer : List Env) (P : Program) (w : World) (H : Hp) (s : Shared) (Q : VK) (u : Value) (s' : Shared) : Prop :=
  ∃ v H', s'.os = s.os ∧ AllBare s'.gens ∧ Un (frs outer) [] H H' s.heap s'.heap ∧ HOk P w H' s'.heap ∧ RelV v u ∧ Q v H'
def CR (CX : CXT) (outer : List Env) (P : Program) (w : World) (H : Hp) (s : Shared) (Q : VK) (E : XK) (r : Result) (s' : Shared) : Prop :=
  match r with
  | .ok (.ret u) => CE outer P w H s Q u s'
  | .ok _ => False
  | .error e => CX outer H s E e s'
structure FnOk (P : Program) (w : World) (K : PySem.W.Frag) (mg : Str → Option Value) (base : Heap) (CX : CXT) (k : Nat) (f : Addr) (fd : FuncData) (ps : List Str) (sp : Sp) : Prop where
  len : ∀ vs H Q E, sp vs H Q E → vs.length = ps.length
  run : ∀ (A : Around) (outer : List Env) (s : Shared) (H : Hp) (args : Args) (us : List Value) (vs : List V) (Q : VK) (E : XK), Room k A → Env0 P w K mg base A outer s H → BindsTo s fd args (ps.zip us) → Vals vs us → sp vs H Q E →
    codeAny (model P w) A (.call (.ref f) args) (CR CX outer P w H s Q E) s
theorem FnOk.mono {P : Program} {w : World} {K : PySem.W.Frag} {mg : Str → Option Value} {base : Heap} {CX : CXT} {j k : Nat} {f : Addr} {fd : FuncData} {ps : List Str} {sp : Sp} (F : FnOk P w K mg base CX j f fd ps sp) (h : j ≤ k) :
    FnOk P w K mg base CX k f fd ps sp := ⟨F.len, fun A outer s H args us vs Q E hr => F.run A outer s H args us vs Q E (hr.mono h)⟩
/-- a weaker promise -/
theorem FnOk.imp {P : Program} {w : World} {K : PySem.W.Frag} {mg : Str → Option Value} {base : Heap} {CX : CXT} {k : Nat} {f : Addr} {fd : FuncData} {ps : List Str} {sp sp' : Sp} (F : FnOk P w K mg base CX k f fd ps sp)
    (h : ∀ vs H Q E, sp' vs H Q E → sp vs H Q E) : FnOk P w K mg base CX k f fd ps sp' :=
  ⟨fun vs H Q E q => F.len vs H Q E (h _ _ _ _ q), fun A outer s H args us vs Q E hr he hb hv hs => F.run A outer s H args us vs Q E hr he hb hv (h _ _ _ _ hs)⟩

theorem Env0.make {P : Program} {w : World} {K : PySem.W.Frag} {mg : Str → Option Value} {base : Heap} {A : Around} {outer : List Env} {s : Shared} {H : Hp} (e : Env0 P w K mg base A outer s H) (C : Addr) (us : List Value) (kw : List (Str × Value)) :
    Env0 P w K mg base (A.under (.builtin "type.__call__" ⟨.ref C :: us, kw⟩)) outer s H := ⟨by first | exact e.frames | (simpa [Around.under, Code.envs, Code.isFrame, pushEnvs] using e.frames), e.mod, e.bs, e.bsz, e.funs, e.frf, e.hok, e.bare⟩
theorem Env0.in1 {P : Program} {w : World} {K : PySem.W.Frag} {mg : Str → Option Value} {base : Heap} {A : Around} {outer : List Env} {s : Shared} {H : Hp} (e : Env0 P w K mg base A outer s H) :
    Env0 P w K mg base A.in1 outer s H := ⟨e.frames, e.mod, e.bs, e.bsz, e.funs, e.frf, e.hok, e.bare⟩

section
variable {X : Cx} {pins : List (Addr × Obj)} {σ : St} {H : Hp} {s s' : Shared}
/-- from a body: what a callee wants -/
theorem Inv.env0 (I : Inv X pins σ H s) : Env0 X.prog X.w X.K X.mg X.base X.A X.stack s H :=
  ⟨I.ok.frames, I.ok.mod, I.bs, Nat.le_trans I.ok.bsz I.sz, I.stack, I.stkFree, I.hok, I.bare⟩
/-- behind a call -/
theorem Inv.after {Q : VK} {u : Value} (I : Inv X pins σ H s) (h : CE X.stack X.prog X.w H s Q u s') : EP X pins σ Q u s' := by
  obtain ⟨v, H', os, bare, un, hok, r, q⟩ := h
  obtain ⟨hh, g, d, t, os'⟩ := s'
  obtain rfl : os' = s.os := os
  exact ⟨v, H', I.call (h' := hh) (g' := g) (d' := d) (t' := t) (ch := []) un hok bare (fun b z => absurd z (by simp)), r, q⟩
end

/-! ### calls -/
/-- f(..): the written arguments, then the defaults dvs; E: what is wanted of an exception -/
def tCall (sp : Sp) (dvs : List V) (E : XK) (t : TA) : TE := fun σ H Q => t σ H fun vs H1 => sp (vs ++ dvs) H1 Q E
/-- o.m(..) of an instance of the class at C -/
def tMeth (C : Addr) (m : Str) (sp : Sp) (dvs : List V) (E : XK) (ta : TE) (t : TA) : TE := fun σ H Q => ta σ H fun x H1 => ∃ a dx fs, x = .ref a ∧ H1 a = some (.ins C dx fs) ∧ fs.lookup m = none ∧
  t σ H1 fun vs H2 => sp (x :: (vs ++ dvs)) H2 Q E
/-- C(..): a new instance and its dict, then __init__ -/
def tMake (C : Addr) (sp : Sp) (dvs : List V) (E : XK) (t : TA) : TE := fun σ H Q => t σ H fun vs H1 => ∀ x dx, H1 x = none → H1 dx = none → dx ≠ x →
  sp (.ref x :: (vs ++ dvs)) (upd (upd H1 dx (.own x)) x (.ins C dx [])) (fun v H2 => v = .non ∧ Q (.ref x) H2) E

/-- how the parameters are bound: us the positional arguments, kw the keywords' values by name, ds the defaults that fill up -/
def Binds (K : PySem.W.Frag) (fd : FuncData) (ps : List Str) (ds : List Value) : Prop :=
  ∀ (s : Shared) (us : List Value), K.In s.heap → (us ++ ds).length = ps.length → BindsTo s fd ⟨us, []⟩ (ps.zip (us ++ ds))
/-- every parameter is given -/
theorem Binds.all {K : PySem.W.Frag} {fd : FuncData} {ps : List Str} (h : ∀ us : List Value, us.length = ps.length → bindArgs fd ⟨us, []⟩ = pure (ps.zip us)) : Binds K fd ps [] := fun s us _ hl => by
  rw [List.append_nil] at hl ⊢
  exact .of_eq (h us hl)

/-- an exception of a callee reaches what this body wants of exceptions -/
def Passes (CX : CXT) (X : Cx) (E : XK) : Prop := ∀ (pins : List (Addr × Obj)) (σ : St) (H : Hp) (s : Shared) (e : Value) (s' : Shared), Inv X pins σ H s → CX X.stack H s E e s' → X.xe e s'

section
variable {X : Cx} {CX : CXT} {k : Nat} {f C : Addr} {fd : FuncData} {ps : List Str} {sp : Sp} {dvs : List V} {ds : List Value} {E : XK} {x m : Str} {p pos apos : Pos} {e o : Expr} {es : List Expr} {ta : TE} {t : TA}

/-- the callee runs -/
theorem run_fn {pins : List (Addr × Obj)} {σ : St} {H : Hp} {s : Shared} {Q : VK} {us : List Value} {vs : List V} (F : FnOk X.prog X.w X.K X.mg X.base CX k f fd ps sp) (hr : Room k X.A) (hb : Binds X.K fd ps ds) (hd : Vals dvs ds) (hx : Passes CX X E)
    (I : Inv X pins σ H s) (r : Vals vs us) (h : sp (vs ++ dvs) H Q E) : wpAny (model X.prog X.w) X.A (call (.ref f) us) (EP X pins σ Q) X.xe s := by
  have r2 : Vals (vs ++ dvs) (us ++ ds) := r.append hd
  have hl : (us ++ ds).length = ps.length := by rw [← r2.length]; exact F.len _ _ _ _ h
  refine wpAny_call (codeAny_mono (F.run X.A X.stack s H ⟨us, []⟩ (us ++ ds) (vs ++ dvs) Q E hr I.env0 (hb s us I.kIn hl) r2 h) fun r s' hq => ?_)
  cases r with
  | error e => exact hx pins σ H s e s' I hq
  | ok fl =>
    cases fl with
    | ret u => exact I.after hq
    | next => exact False.elim hq
    | brk => exact False.elim hq
    | cont => exact False.elim hq

theorem pe_call (F : FnOk X.prog X.w X.K X.mg X.base CX k f fd ps sp) (hr : Room k X.A) (hg : Gl X x) (hm : X.mg x = some (.ref f)) (hk : PySem.W.keepIn X.K (.ref f) = true) (hb : Binds X.K fd ps ds) (hd : Vals dvs ds) (hx : Passes CX X E)
    (ha : PA X (e :: es) t) (hdb : (x == ("__debug__" : Str)) = false := by decide) (he : starEach (e :: es) X.env = (false, eval e X.env) :: starEach es X.env := by rfl) (hpl : (backTo pos (starEach es X.env)).any (·.1) = false := by rfl) :
    PE X (.Call (.Name x p) (e :: es) [] pos) (tCall sp dvs E t) := by
  intro pins s σ H Q I h
  refine wpAny_Call_Name_kw (ld_glob I hg hm ?_ hdb)
  refine PySem.W.callWith_K (h₀ := X.base) I.ok.mod.kin hk (thn (ha pos pins s σ H _ I h) fun us s1 ⟨vs, H1, I1, r, q⟩ => ⟨I1.kIn, ?_⟩) he hpl
  exact run_fn F hr hb hd hx I1 r q
theorem pe_call0 (F : FnOk X.prog X.w X.K X.mg X.base CX k f fd ps sp) (hr : Room k X.A) (hg : Gl X x) (hm : X.mg x = some (.ref f)) (hk : PySem.W.keepIn X.K (.ref f) = true) (hb : Binds X.K fd ps ds) (hd : Vals dvs ds) (hx : Passes CX X E)
    (hdb : (x == ("__debug__" : Str)) = false := by decide) : PE X (.Call (.Name x p) [] [] pos) (tCall sp dvs E tNil) := by
  intro pins s σ H Q I h
  refine wpAny_Call_Name_kw (ld_glob I hg hm ?_ hdb)
  exact PySem.W.callWith_K0 I.kIn hk (run_fn (us := []) F hr hb hd hx I .nil h)

/-- o.m(e, ..) -/
theorem pe_meth {pl : Sem Bool} (he : PE X o ta) (c : Cls X.K C) (hm : Meth X.K C m f) (F : FnOk X.prog X.w X.K X.mg X.base CX k f fd ps sp) (hr : Room k X.A) (hb : Binds X.K fd ps ds) (hd : Vals dvs ds) (hx : Passes CX X E) (ha : PA X (e :: es) t)
    (hst : starEach (e :: es) X.env = (false, eval e X.env) :: starEach es X.env := by rfl) (hpl : (backTo pos (starEach es X.env)).any (·.1) = false := by rfl)
    (ht : eval (.Call (.Attribute o m apos) (e :: es) [] pos) X.env = (do
      let ov ← eval o X.env
      standAt apos.atName
      let (f, first) ← holding [ov] (getMethod ov m pl)
      callWith pos f first (backTo pos (starEach (e :: es) X.env)) (backToKw pos (keywordEach [] X.env))) := by rfl) :
    PE X (.Call (.Attribute o m apos) (e :: es) [] pos) (tMeth C m sp dvs E ta t) := by
  intro pins s σ H Q I h
  refine PySem.W.methodCall_KW (pl := pl) (thn (he pins s σ H _ I h) fun u s1 ⟨x, H1, I1, rx, a, dx, fs, ex, ea, l, q⟩ => ?_) ht
  subst ex
  obtain rfl : u = Value.ref a := rx
  refine getmeth_ok I1 ea c hm l ?_
  refine PySem.W.callWith_K (first := [.ref a]) (h₀ := X.base) I.ok.mod.kin hm.kp (thn (ha pos pins s1 σ H1 _ I1 q) fun us s2 ⟨vs, H2, I2, r, q2⟩ => ⟨I2.kIn, ?_⟩) hst hpl
  exact run_fn (us := .ref a :: us) (vs := .ref a :: vs) F hr hb hd hx I2 (.cons rfl r) q2
/-- o.m() -/
theorem pe_meth0 {pl : Sem Bool} (he : PE X o ta) (c : Cls X.K C) (hm : Meth X.K C m f) (F : FnOk X.prog X.w X.K X.mg X.base CX k f fd ps sp) (hr : Room k X.A) (hb : Binds X.K fd ps ds) (hd : Vals dvs ds) (hx : Passes CX X E)
    (ht : eval (.Call (.Attribute o m apos) [] [] pos) X.env = (do
      let ov ← eval o X.env
      standAt apos.atName
      let (f, first) ← holding [ov] (getMethod ov m pl)
      callWith pos f first (backTo pos (starEach [] X.env)) (backToKw pos (keywordEach [] X.env))) := by rfl) :
    PE X (.Call (.Attribute o m apos) [] [] pos) (tMeth C m sp dvs E ta tNil) := by
  intro pins s σ H Q I h
  refine PySem.W.methodCall_KW (pl := pl) (thn (he pins s σ H _ I h) fun u s1 ⟨x, H1, I1, rx, a, dx, fs, ex, ea, l, q⟩ => ?_) ht
  subst ex
  obtain rfl : u = Value.ref a := rx
  refine getmeth_ok I1 ea c hm l ?_
  exact PySem.W.callWith_K0 (first := [.ref a]) I1.kIn hm.kp (run_fn (us := [.ref a]) (vs := [.ref a]) F hr hb hd hx I1 (.cons rfl .nil) q)

/-- what a class must have to be made -/
structure Mk (K : PySem.W.Frag) (C f : Addr) : Prop where
  makes : PySem.W.makesIn K C = true
  init : PySem.W.findIn K (.ref C) "__init__" = some (some (.ref f))
  fn : PySem.W.isFn K (.ref f) = true
  kp : PySem.W.keepIn K (.ref C) = true

theorem run_make {pins : List (Addr × Obj)} {σ : St} {H : Hp} {s : Shared} {Q : VK} {us : List Value} {vs : List V} (M : Mk X.K C f) (F : FnOk X.prog X.w X.K X.mg X.base CX k f fd ps sp) (hr : Room (k + 1) X.A) (hb : Binds X.K fd ps ds) (hd : Vals dvs ds)
    (hx : Passes CX X E) (I : Inv X pins σ H s) (r : Vals vs us)
    (h : ∀ x dx, H x = none → H dx = none → dx ≠ x → sp (.ref x :: (vs ++ dvs)) (upd (upd H dx (.own x)) x (.ins C dx [])) (fun v H2 => v = .non ∧ Q (.ref x) H2) E) :
    wpAny (model X.prog X.w) X.A (call (.ref C) us) (EP X pins σ Q) X.xe s := by
  have hq := h (s.heap.objs.size + 1) s.heap.objs.size (I.hok.fresh (Nat.le_succ _)) (I.hok.fresh (Nat.le_refl _)) (Nat.ne_of_lt (Nat.lt_succ_self _))
  have I2 := Inv.made (C := C) I
  have r2 : Vals (V.ref (s.heap.objs.size + 1) :: (vs ++ dvs)) (Value.ref (s.heap.objs.size + 1) :: (us ++ ds)) := .cons rfl (r.append hd)
  have hl : (Value.ref (s.heap.objs.size + 1) :: us ++ ds).length = ps.length := by
    have e := r2.length
    rw [F.len _ _ _ _ hq] at e
    exact e.symm
  refine wpAny_call (make_map (f := f) I.kIn M.makes M.init (beq_iff_eq.mp M.fn) (codeAny_mono (F.run _ X.stack _ _ ⟨Value.ref (s.heap.objs.size + 1) :: us, []⟩ (Value.ref (s.heap.objs.size + 1) :: (us ++ ds)) _ _ E (hr.make C us [])
    (I2.env0.make C us []) (hb _ (Value.ref (s.heap.objs.size + 1) :: us) I2.kIn hl) r2 hq) fun r s' hq' => ?_))
  cases r with
  | error e => exact hx pins σ _ _ e s' I2 hq'
  | ok fl =>
    cases fl with
    | ret u =>
      obtain ⟨v, H', I3, rv, ev, q3⟩ := I2.after hq'
      subst ev
      exact ⟨rv, ⟨V.ref (s.heap.objs.size + 1), H', I3, rfl, q3⟩⟩
    | next => exact False.elim hq'
    | brk => exact False.elim hq'
    | cont => exact False.elim hq'
theorem pe_make (M : Mk X.K C f) (F : FnOk X.prog X.w X.K X.mg X.base CX k f fd ps sp) (hr : Room (k + 1) X.A) (hg : Gl X x) (hm : X.mg x = some (.ref C)) (hb : Binds X.K fd ps ds) (hd : Vals dvs ds) (hx : Passes CX X E)
    (ha : PA X (e :: es) t) (hdb : (x == ("__debug__" : Str)) = false := by decide) (he : starEach (e :: es) X.env = (false, eval e X.env) :: starEach es X.env := by rfl) (hpl : (backTo pos (starEach es X.env)).any (·.1) = false := by rfl) :
    PE X (.Call (.Name x p) (e :: es) [] pos) (tMake C sp dvs E t) := by
  intro pins s σ H Q I h
  refine wpAny_Call_Name_kw (ld_glob I hg hm ?_ hdb)
  refine PySem.W.callWith_K (h₀ := X.base) I.ok.mod.kin M.kp (thn (ha pos pins s σ H _ I h) fun us s1 ⟨vs, H1, I1, r, q⟩ => ⟨I1.kIn, ?_⟩) he hpl
  exact run_make M F hr hb hd hx I1 r q
theorem pe_make0 (M : Mk X.K C f) (F : FnOk X.prog X.w X.K X.mg X.base CX k f fd ps sp) (hr : Room (k + 1) X.A) (hg : Gl X x) (hm : X.mg x = some (.ref C)) (hb : Binds X.K fd ps ds) (hd : Vals dvs ds) (hx : Passes CX X E)
    (hdb : (x == ("__debug__" : Str)) = false := by decide) : PE X (.Call (.Name x p) [] [] pos) (tMake C sp dvs E tNil) := by
  intro pins s σ H Q I h
  refine wpAny_Call_Name_kw (ld_glob I hg hm ?_ hdb)
  exact PySem.W.callWith_K0 I.kIn M.kp (run_make (us := []) M F hr hb hd hx I .nil h)
end

/-! ### keywords -/
/-- the values of the keywords, from the left -/
def PK (X : Cx) (kws : List Keyword) (t : TA) : Prop :=
  ∀ (pos : Pos) (pins : List (Addr × Obj)) (s : Shared) (σ : St) (H : Hp) (Q : List V → Hp → Prop), Inv X pins σ H s → t σ H Q → wpAny (model X.prog X.w) X.A (evalAll ((backToKw pos (keywordEach kws X.env)).map (·.2))) (AP X pins σ Q) X.xe s
section
variable {X : Cx} {CX : CXT} {k : Nat} {f C : Addr} {fd : FuncData} {ps ks : List Str} {sp : Sp} {E : XK} {x m : Str} {p pos apos kpos : Pos} {e o : Expr} {es : List Expr} {kws : List Keyword} {te ta : TE} {t tk : TA} {nm : Option Str}
theorem pk_nil : PK X [] tNil := fun _ _ _ _ H Q I h => wpAny_evalAll_nil ⟨[], H, I, .nil, h⟩
theorem pk_cons (ha : PE X e te) (hr : PK X kws t) : PK X (⟨nm, e, kpos⟩ :: kws) (tCons te t) := by
  intro pos pins s σ H Q I h
  show wpAny _ _ (evalAll ((do let v ← eval e X.env; standAt pos; pure v) :: (backToKw pos (keywordEach kws X.env)).map (·.2))) _ _ s
  refine wpAny_evalAll_cons (wpAny_bind (thn (ha pins s σ H _ I h) fun u s1 ⟨x, H1, I1, r1, q1⟩ => wpAny_bind (wpAny_standAt (wpAny_pure ?_))))
  exact thn (hr pos pins s1 σ H1 _ I1 q1) fun us s2 ⟨xs, H2, I2, r2, q2⟩ => ⟨x :: xs, H2, I2, .cons r1 r2, q2⟩

/-- how a call with keywords binds: g puts the positional values us and the keywords' values ws (names ks) in the parameters' order, defaults among them -/
structure KBinds (K : PySem.W.Frag) (fd : FuncData) (ps ks : List Str) (g : List Value → List Value → List Value) (gV : List V → List V → List V) : Prop where
  to : ∀ (s : Shared) (us ws : List Value), K.In s.heap → (g us ws).length = ps.length → BindsTo s fd ⟨us, ks.zip ws⟩ (ps.zip (g us ws))
  rel : ∀ {vs : List V} {us : List Value} {zs : List V} {ws : List Value}, Vals vs us → Vals zs ws → Vals (gV vs zs) (g us ws)
def tCallK (sp : Sp) (gV : List V → List V → List V) (E : XK) (t tk : TA) : TE := fun σ H Q => t σ H fun vs H1 => tk σ H1 fun zs H2 => sp (gV vs zs) H2 Q E
variable {g : List Value → List Value → List Value} {gV : List V → List V → List V}
theorem run_fnk {pins : List (Addr × Obj)} {σ : St} {H : Hp} {s : Shared} {Q : VK} {us ws : List Value} {vs zs : List V} (F : FnOk X.prog X.w X.K X.mg X.base CX k f fd ps sp) (hr : Room k X.A) (hb : KBinds X.K fd ps ks g gV) (hx : Passes CX X E)
    (I : Inv X pins σ H s) (r : Vals vs us) (rz : Vals zs ws) (h : sp (gV vs zs) H Q E) : wpAny (model X.prog X.w) X.A (call (.ref f) us (ks.zip ws)) (EP X pins σ Q) X.xe s := by
  have r2 := hb.rel r rz
  have hl : (g us ws).length = ps.length := by rw [← r2.length]; exact F.len _ _ _ _ h
  refine wpAny_call (codeAny_mono (F.run X.A X.stack s H ⟨us, ks.zip ws⟩ (g us ws) (gV vs zs) Q E hr I.env0 (hb.to s us ws I.kIn hl) r2 h) fun r s' hq => ?_)
  cases r with
  | error e => exact hx pins σ H s e s' I hq
  | ok fl =>
    cases fl with
    | ret u => exact I.after hq
    | next => exact False.elim hq
    | brk => exact False.elim hq
    | cont => exact False.elim hq
/-- f(e, .., k = v, ..) -/
theorem pe_callK (F : FnOk X.prog X.w X.K X.mg X.base CX k f fd ps sp) (hr : Room k X.A) (hg : Gl X x) (hm : X.mg x = some (.ref f)) (hk : PySem.W.keepIn X.K (.ref f) = true) (hb : KBinds X.K fd ps ks g gV) (hx : Passes CX X E)
    (ha : PA X (e :: es) t) (hkw : PK X kws tk) (hall : (backToKw pos (keywordEach kws X.env)).all (·.1.isSome) = true := by rfl) (hks : (backToKw pos (keywordEach kws X.env)).filterMap (·.1) = ks := by rfl)
    (hdb : (x == ("__debug__" : Str)) = false := by decide) (he : starEach (e :: es) X.env = (false, eval e X.env) :: starEach es X.env := by rfl)
    (hpl : ((backTo pos (starEach (e :: es) X.env)).any (·.1) || (backToKw pos (keywordEach kws X.env)).any (·.1.isNone)) = false := by rfl) :
    PE X (.Call (.Name x p) (e :: es) kws pos) (tCallK sp gV E t tk) := by
  intro pins s σ H Q I h
  refine wpAny_Call_Name_kw (ld_glob I hg hm ?_ hdb)
  refine PySem.W.callWith_KW (h₀ := X.base) I.ok.mod.kin hk hall (thn (ha pos pins s σ H _ I h) fun us s1 ⟨vs, H1, I1, r, q⟩ => ?_) hpl he
  refine thn (hkw pos pins s1 σ H1 _ I1 q) fun ws s2 ⟨zs, H2, I2, rz, q2⟩ => ⟨I2.kIn, ?_⟩
  rw [hks]
  exact run_fnk F hr hb hx I2 r rz q2
end

/-! ### a def's body keeps its promise -/
/-- names: the parameters first -/
structure FnScope (N P : List Str) (sc : Scope) : Prop where
  kind : sc.kind = .function
  co : sc.isCoroutine = false
  gen : sc.isGenerator = false
  nd : N.Nodup
  pre : N.take P.length = P
  par : ∀ x ∈ P, sc.names.lookup x = some .local ∨ sc.names.lookup x = some .cell
  nofree : ∀ y ∈ sc.names, y.2 ≠ .free

theorem bindL_out {kindOf : Str → Option NameKind} {x : Str} : ∀ {binds : List (Str × Value)} {m : Str → Option Value}, (∀ v, (x, v) ∉ binds) → bindL kindOf binds m x = m x
  | [], _, _ => rfl
  | (n, v) :: r, m, h => by
    unfold bindL
    rw [bindL_out fun w hw => h w (List.mem_cons_of_mem _ hw)]
    split
    · have : x ≠ n := by rintro rfl; exact h v List.mem_cons_self
      simp [this]
    · rfl
theorem bindC_out {kindOf : Str → Option NameKind} {x : Str} : ∀ {binds : List (Str × Value)} {m : Str → Option Value}, (∀ v, (x, v) ∉ binds) → bindC kindOf binds m x = m x
  | [], _, _ => rfl
  | (n, v) :: r, m, h => by
    unfold bindC
    rw [bindC_out fun w hw => h w (List.mem_cons_of_mem _ hw)]
    split
    · rfl
    · have : x ≠ n := by rintro rfl; exact h v List.mem_cons_self
      simp [this]
theorem bindL_get {kindOf : Str → Option NameKind} {x : Str} {v : Value} : ∀ {P : List Str} {vs : List Value} {i : Nat} {m : Str → Option Value}, P.Nodup → P[i]? = some x → vs[i]? = some v → kindOf x = some .local →
    bindL kindOf (P.zip vs) m x = some v
  | [], _, _, _, _, h, _, _ => by simp at h
  | _ :: _, [], _, _, _, _, h, _ => by simp at h
  | p :: P, w :: vs, 0, m, nd, h1, h2, hk => by
    simp at h1 h2; subst h1; subst h2
    show bindL kindOf ((p, w) :: P.zip vs) m p = _
    unfold bindL
    rw [bindL_out fun v hv => (List.nodup_cons.mp nd).1 (List.of_mem_zip hv).1, if_pos hk]
    simp
  | p :: P, w :: vs, i + 1, m, nd, h1, h2, hk => by
    show bindL kindOf ((p, w) :: P.zip vs) m x = _
    unfold bindL
    exact bindL_get (i := i) (List.nodup_cons.mp nd).2 (by simpa using h1) (by simpa using h2) hk
theorem bindC_get {kindOf : Str → Option NameKind} {x : Str} {v : Value} : ∀ {P : List Str} {vs : List Value} {i : Nat} {m : Str → Option Value}, P.Nodup → P[i]? = some x → vs[i]? = some v → kindOf x ≠ some .local →
    bindC kindOf (P.zip vs) m x = some v
  | [], _, _, _, _, h, _, _ => by simp at h
  | _ :: _, [], _, _, _, _, h, _ => by simp at h
  | p :: P, w :: vs, 0, m, nd, h1, h2, hk => by
    simp at h1 h2; subst h1; subst h2
    show bindC kindOf ((p, w) :: P.zip vs) m p = _
    unfold bindC
    rw [bindC_out fun v hv => (List.nodup_cons.mp nd).1 (List.of_mem_zip hv).1, if_neg hk]
    simp
  | p :: P, w :: vs, i + 1, m, nd, h1, h2, hk => by
    show bindC kindOf ((p, w) :: P.zip vs) m x = _
    unfold bindC
    exact bindC_get (i := i) (List.nodup_cons.mp nd).2 (by simpa using h1) (by simpa using h2) hk

/-- the names' values at the entry -/
def start (N : List Str) (vs : List V) : St := vs.map some ++ List.replicate (N.length - vs.length) none

/-- the context of a def's body, at its entry; an exception leaves the frame, then lies as CX says -/
def cxOf (CX : CXT) (P : Program) (w : World) (K : PySem.W.Frag) (mg : Str → Option Value) (base : Heap) (N : List Str) (qual : Str) (scope : Scope) (f : Addr) (cd : Value) (A : Around) (outer : List Env) (s : Shared) (H : Hp) (E : XK) : Cx where
  prog := P
  w := w
  K := K
  mg := mg
  base := base
  A := A.deeper (envOfC qual scope s.heap.objs.size f cd)
  N := N
  s₀ := s
  H₀ := H
  env := envOfC qual scope s.heap.objs.size f cd
  outer := outer
  stack := envOfC qual scope s.heap.objs.size f cd :: outer
  ex := []
  calm := true
  fn := fun _ => true
  pn := []
  xe := fun e s' => wpAny (model P w) (A.deeper (envOfC qual scope s.heap.objs.size f cd)) (leaving (envOfC qual scope s.heap.objs.size f cd) e) (fun _ s'' => CX outer H s E e s'') (fun e' s'' => CX outer H s E e' s'') s'

theorem cell_has {sc : Scope} {n : Nat} {x : Str} (h : sc.names.lookup x = some .cell) : ∃ c, (cellsFrom n sc.names []).lookup x = some c := by
  have q := PySem.W.cellsFrom_some sc.names n [] (.inl h)
  exact Option.isSome_iff_exists.mp q

theorem inv_start {CX : CXT} {P : Program} {w : World} {K : PySem.W.Frag} {mg : Str → Option Value} {base : Heap} {N ps : List Str} {qual : Str} {scope : Scope} {f : Addr} {cd : Value} {A : Around} {outer : List Env} {s s1 : Shared} {H : Hp} {E : XK} {us : List Value} {vs : List V}
    (S : FnScope N ps scope) (hd : A.handled = none) (e0 : Env0 P w K mg base A outer s H) (hl : vs.length = ps.length) (r : Vals vs us)
    (x : InCallC s s.heap.objs.size (bindL (envOfC qual scope s.heap.objs.size f cd).kindOf (ps.zip us) fun _ => none) (cellsFrom (s.heap.objs.size + 1) scope.names []) (bindC (envOfC qual scope s.heap.objs.size f cd).kindOf (ps.zip us) fun _ => none) s1) :
    Inv (cxOf CX P w K mg base N qual scope f cd A outer s H E) [] (start N vs) H s1 := by
  have hpl : ps.length ≤ N.length := by have := congrArg List.length S.pre; rw [List.length_take] at this; omega
  obtain ⟨h1, tk, rfl, hk⟩ := x.done
  have noA : ∀ b : Addr, b ∉ (cxOf CX P w K mg base N qual scope f cd A outer s H E).ex := fun b z => absurd (show b ∈ ([] : List Addr) from z) (by simp)
  refine ⟨⟨e0.mod, S.kind, rfl, rfl, Nat.le_refl _, fun y z c h1 h2 => ?_, fun y hy => ?_, fun y c _ h => ?_, fun _ => hd, Around.frames_deeper e0.frames, .inr ⟨rfl, rfl⟩, fun b z => absurd z (noA b), e0.bs, e0.bsz, fun b _ _ => noA b, fun b z => absurd z (noA b), e0.funs, e0.frf⟩,
    rfl, e0.bare, Un.kept hk, ⟨_, x.toInCall.ns, fun i y v h1 h2 h3 => ?_⟩, fun y c h => ⟨_, x.cell y c h⟩, e0.hok.fresh (Nat.le_refl _), fun y c h => ?_, fun p hp => absurd (show p ∈ ([] : List (Addr × Obj)) from hp) (by simp), e0.hok.kept hk, ?_⟩
  · exact name_of_addr x.apart (PySem.mem_of_lookup h1) (PySem.mem_of_lookup h2)
  · have hy : scope.names.lookup y = some .cell ∨ scope.names.lookup y = some .free := hy
    rcases hy with hy | hy
    · exact cell_has hy
    · exact absurd rfl (S.nofree _ (PySem.mem_of_lookup hy))
  · exact Nat.le_of_lt (x.above y c (PySem.mem_of_lookup h))
  · have hi : i < vs.length := by
      unfold start at h2
      by_cases hi : i < vs.length
      · exact hi
      · rw [List.getElem?_append_right (by simpa using hi)] at h2
        rw [List.getElem?_replicate] at h2
        split at h2 <;> cases h2
    have ha : vs[i]? = some v := by
      unfold start at h2
      rw [List.getElem?_append_left (by simpa using hi), List.getElem?_map] at h2
      cases e : vs[i]? with
      | none => rw [e] at h2; cases h2
      | some a => rw [e] at h2; cases h2; rfl
    obtain ⟨u, hu, rv⟩ := r.get ha
    have hp : ps[i]? = some y := by
      rw [← S.pre, List.getElem?_take_of_lt (by omega)]; exact h1
    have ndP : ps.Nodup := by rw [← S.pre]; exact S.nd.sublist (List.take_sublist _ _)
    refine ⟨u, rv, ?_⟩
    rcases S.par y (List.mem_of_getElem? hp) with k | k
    · exact .inl ⟨k, bindL_get ndP hp hu k⟩
    · obtain ⟨c, e⟩ := cell_has (n := s.heap.objs.size + 1) k
      refine .inr ⟨.inl k, c, e, ?_⟩
      have q := x.cell y c e
      rw [bindC_get ndP hp hu (by show scope.names.lookup y ≠ _; rw [k]; decide)] at q
      exact q
  · exact e0.hok.fresh (Nat.le_of_lt (x.above y c (PySem.mem_of_lookup h)))
  · unfold start
    show _ = N.length
    rw [List.length_append, List.length_map, List.length_replicate]
    omega

/-- THE RULE: a def (or a method) of the text, by its body. The body's reading t is chosen for each entry; it is run at the parameters' values -/
theorem fn_of {CX : CXT} {P : Program} {w : World} {K : PySem.W.Frag} {mg : Str → Option Value} {base : Heap} {k : Nat} {f : Addr} {name qual : Str} {params : Arguments} {body : List Stmt} {scope : Scope} {dV kV doc pm cdv ct oc : Value} {an od : Option Addr}
    {osl : Array (Option Value)} {N ps : List Str} {sp : Sp} (lk : K.lookup f = some ⟨oc, od, .func (PySem.W.fnOf name qual params body scope dV kV doc pm an cdv ct), osl⟩) (hcd : PySem.W.codeIn K cdv qual = true) (S : FnScope N ps scope)
    (len : ∀ vs H Q E, sp vs H Q E → vs.length = ps.length)
    (hbody : ∀ (A : Around) (outer : List Env) (s : Shared) (H : Hp) (vs : List V) (Q : VK) (E : XK), Room k (A.deeper (envOfC qual scope s.heap.objs.size f cdv)) → sp vs H Q E →
      ∃ t, PSs (cxOf CX P w K mg base N qual scope f cdv A outer s H E) body t ∧ t { nx := fun _ H' => Q .non H', rt := Q } (start N vs) H) :
    FnOk P w K mg base CX (k + 1) f (PySem.W.fnOf name qual params body scope dV kV doc pm an cdv ct) ps sp := by
  refine ⟨len, fun A outer s H args us vs Q E hr e0 hb r hsp => ?_⟩
  have hl := len _ _ _ _ hsp
  have KX : K.In s.heap := e0.mod.kin.keeps fun b o e => (e0.bs b o e).1
  have lim : s.heap.NoLimit := e0.mod.nolimit.keeps fun b o e => (e0.bs b o e).1
  have hkind : ∀ y ∈ ps.zip us, scope.names.lookup y.1 = some .local ∨ (scope.names.lookup y.1 = some .cell ∧ ((cellsFrom (s.heap.objs.size + 1) scope.names []).lookup y.1).isSome = true) := fun ⟨n, v⟩ hy => by
    rcases S.par n (List.of_mem_zip hy).1 with q | q
    · exact .inl q
    · exact .inr ⟨q, PySem.W.cellsFrom_some _ _ _ (.inl q)⟩
  refine codeAny_call_function hr.depth (KX _ _ lk) rfl S.co S.gen rfl (PySem.W.codeRec_of KX hcd) (hb _ _ _ _ ?_)
  refine wpAny_newFunctionEnv_cells S.kind hkind fun env he s1 x => ?_
  subst he
  refine ⟨lim.keeps x.toInCall.keep, codeAny_func ?_⟩
  obtain ⟨t, ht, hq⟩ := hbody A outer s H vs Q E (hr.deeper _) hsp
  have I : Inv (cxOf CX P w K mg base N qual scope f cdv A outer s H E) [] (start N vs) H s1 := inv_start S hr.hd e0 hl r x
  refine wpAny_mono (ht [] s1 (start N vs) H _ I hq) (fun fl s' hs => ?_) fun e s' hs => hs
  have fin : ∀ {σ' : St} {H' : Hp} {v : V} {u : Value}, Inv (cxOf CX P w K mg base N qual scope f cdv A outer s H E) [] σ' H' s' → RelV v u → Q v H' → CE outer P w H s Q u s' :=
    fun {σ' H' v u} J rv q => ⟨v, H', J.os, J.bare, J.base, J.hok, rv, q⟩
  cases fl with
  | ret u =>
    obtain ⟨v, σ', H', J, rv, q⟩ := hs
    exact fin J rv q
  | next =>
    obtain ⟨σ', H', J, q⟩ := hs
    exact fin (v := V.non) (u := Value.none) J rfl q
  | brk =>
    obtain ⟨_, _, _, q⟩ := hs
    exact False.elim q
  | cont =>
    obtain ⟨_, _, _, q⟩ := hs
    exact False.elim q
end L2

namespace L2
open PySem PySem.Spec PyProof.Rows
section
variable {X : Cx} {x : Str} {p pos : Pos} {e : Expr} {es : List Expr} {t : TA} {id T : String} {r : List V → Hp → VK → Prop}

def tCB (r : List V → Hp → VK → Prop) (t : TA) : TE := fun σ H Q => t σ H fun vs H1 => r vs H1 Q
/-- f(e, ..), f a built-in function -/
theorem pe_callB (hc : CallR X (.builtin id) r) (hg : Gl X x) (hm : X.mg x = none) (hv : bootBuiltins x = some (.builtin id)) (ha : PA X (e :: es) t) (hn : x ≠ "__name__" := by decide) (hdb : (x == ("__debug__" : Str)) = false := by decide)
    (he : starEach (e :: es) X.env = (false, eval e X.env) :: starEach es X.env := by rfl) (hpl : (backTo pos (starEach es X.env)).any (·.1) = false := by rfl) : PE X (.Call (.Name x p) (e :: es) [] pos) (tCB r t) := by
  intro pins s σ H Q I h
  refine wpAny_Call_Name_kw (ld_blt I hg hm hv ?_ hn hdb)
  exact PyProof.Rows.callWith_builtin1 (thn (ha pos pins s σ H _ I h) fun us s1 ⟨vs, H1, I1, r1, q1⟩ => hc pins s1 σ H1 vs us Q I1 r1 q1) he hpl
/-- T(e, ..), T a built-in type -/
theorem pe_callTy (hc : CallR X (.type T) r) (hg : Gl X x) (hm : X.mg x = none) (hv : bootBuiltins x = some (.type T)) (ha : PA X (e :: es) t) (hn : x ≠ "__name__" := by decide) (hdb : (x == ("__debug__" : Str)) = false := by decide)
    (he : starEach (e :: es) X.env = (false, eval e X.env) :: starEach es X.env := by rfl) (hpl : (backTo pos (starEach es X.env)).any (·.1) = false := by rfl) : PE X (.Call (.Name x p) (e :: es) [] pos) (tCB r t) := by
  intro pins s σ H Q I h
  refine wpAny_Call_Name_kw (ld_blt I hg hm hv ?_ hn hdb)
  exact PyProof.Rows.callWith_type1 (thn (ha pos pins s σ H _ I h) fun us s1 ⟨vs, H1, I1, r1, q1⟩ => hc pins s1 σ H1 vs us Q I1 r1 q1) he hpl
/-- T() -/
theorem pe_callTy0 (hc : CallR X (.type T) r) (hg : Gl X x) (hm : X.mg x = none) (hv : bootBuiltins x = some (.type T)) (hn : x ≠ "__name__" := by decide) (hdb : (x == ("__debug__" : Str)) = false := by decide) :
    PE X (.Call (.Name x p) [] [] pos) (tCB r tNil) := by
  intro pins s σ H Q I h
  refine wpAny_Call_Name_kw (ld_blt I hg hm hv ?_ hn hdb)
  exact PyProof.Rows.callWith_type0 (hc pins s σ H [] [] Q I .nil h)
end
end L2

namespace HT
open PySem PyProof.Rows

/-- t < u of tuples of ints -/
def lexLt : List Int → List Int → Bool
  | [], [] => false
  | [], _ :: _ => true
  | _ :: _, [] => false
  | x :: xs, y :: ys => if x = y then lexLt xs ys else decide (x < y)
theorem lexLt_cons (x y : Int) (xs ys : List Int) : lexLt (x :: xs) (y :: ys) = if x = y then lexLt xs ys else decide (x < y) := rfl
theorem lexLt_nil_nil : lexLt [] [] = false := rfl
theorem lexLt_nil_cons (y : Int) (ys : List Int) : lexLt [] (y :: ys) = true := rfl
theorem lexLt_cons_nil (x : Int) (xs : List Int) : lexLt (x :: xs) [] = false := rfl

theorem eqAt_int (A : Around) (s : Shared) (a : Int) (t : Tok) (c : Int) (u : Tok) : ∃ e, SeqAt.EqAt A s (.int a t) (.int c u) e ∧ (e = true ↔ a = c) :=
  ⟨(a == c), SeqAt.EqAt.int_int a t c u, by simp⟩
theorem rcLt_int (A : Around) (s : Shared) (a : Int) (t : Tok) (c : Int) (u : Tok) (prog : Program) (w : World) (E : Value → Shared → Prop) (Q : Value → Shared → Prop) (h : Q (.bool (decide (a < c))) s) :
    wpAny (model prog w) A (richCompare .Lt (.int a t) (.int c u)) Q E s :=
  (PyProof.Rows.lt_int h : wpAny (model prog w) A (compareOp .Lt (.int a t) (.int c u)) Q E s)

section
open PySem.SeqAt
open PySem.AutoSeq1 (wpAny_loadPart')
open PySem.MeetsSeq PySem.MeetsSeq2 PySem.MeetsSeq3

theorem tuple_lt_ints (l b : Addr) (items items2 : Array Value) (n n2 : Nat) (dd dd2 : Option Addr) (sl sl2 : Array (Option Value)) (ns ms : List Int) (hi : IntsAre items.toList ns) (hj : IntsAre items2.toList ms) :
    Meets (Builtin.«tuple.__lt__» ⟨[.ref l, .ref b], []⟩)
      (fun _ R s => s.heap.get? l = some { cls := .type "tuple", dict := dd, data := .seq items n, slots := sl } ∧ s.heap.get? b = some { cls := .type "tuple", dict := dd2, data := .seq items2 n2, slots := sl2 } ∧
        R (.ok (.ret (.bool (lexLt ns ms)))) s) :=
  .of_wp fun prog w A R s h => by
    obtain ⟨hp, g, d, tk, os⟩ := s; obtain ⟨hl, hb, h⟩ := h
    have f2 := AutoSeq1.sub_tuple_tuple
    have z1 : items.size = ns.length := by rw [← hi.length]; simp
    have z2 : items2.size = ms.length := by rw [← hj.length]; simp
    wp_walk using wpAny_loadPart' hl, wpAny_loadPart' hb, wpAny_forIn_list _ (fun rest b s' => b.1 = none ∧ s' = ⟨hp, g, d, tk, os⟩ ∧ ∃ (vs ws : List Value) (ns' ms' : List Int), rest = vs.zip ws ∧
      IntsAre vs ns' ∧ IntsAre ws ms' ∧ ns'.length + items2.size = ms'.length + items.size ∧ R (.ok (.ret (.bool (lexLt ns' ms')))) ⟨hp, g, d, tk, os⟩) _
    case turn =>
      rintro ⟨y, x⟩ rest b s' ⟨hb', rfl, vs, ws, ns', ms', hz, hvi, hwi, hlen, hR⟩
      cases hvi with
      | nil => rw [List.zip_nil_left] at hz; cases hz
      | cons a t hvi' =>
        cases hwi with
        | nil => rw [List.zip_nil_right] at hz; cases hz
        | cons c u hwi' =>
          rw [List.zip_cons_cons] at hz
          injection hz with hyx hrest
          injection hyx with hy hx
          subst hy hx
          rw [lexLt_cons] at hR
          simp only [List.length_cons] at hlen
          obtain ⟨e, he, hiff⟩ := eqAt_int A.in1 ⟨hp, g, d, tk, os⟩ a t c u
          refine wpAny_bind (he prog w _ _ ?_)
          cases e with
          | true =>
            rw [if_pos (hiff.mp rfl)] at hR
            wp_walk
            exact ⟨rfl, rfl, _, _, _, _, hrest, hvi', hwi', by omega, hR⟩
          | false =>
            rw [if_neg (fun q => absurd (hiff.mpr q) Bool.false_ne_true)] at hR
            have hri := rcLt_int A.in1 ⟨hp, g, d, tk, os⟩ a t c u prog w
            wp_walk using hri
            exact ⟨_, rfl, by simpa using hR⟩
    case fin =>
      rintro ⟨b1, b2⟩ s' ⟨hb', rfl, vs, ws, ns', ms', hz, hvi, hwi, hlen, hR⟩
      simp only at hb'
      subst hb'
      have hv : lexLt ns' ms' = decide (items.size < items2.size) := by
        cases hvi with
        | nil =>
          cases hwi with
          | nil =>
            simp only [List.length_nil] at hlen
            rw [lexLt_nil_nil]
            exact (decide_eq_false (by omega)).symm
          | cons c u hw =>
            simp only [List.length_nil, List.length_cons] at hlen
            rw [lexLt_nil_cons]
            exact (decide_eq_true (by omega)).symm
        | cons a t hv =>
          cases hwi with
          | nil =>
            simp only [List.length_nil, List.length_cons] at hlen
            rw [lexLt_cons_nil]
            exact (decide_eq_false (by omega)).symm
          | cons c u hw =>
            rw [List.zip_cons_cons] at hz
            cases hz
      rw [hv] at hR
      wp_walk
      exact ⟨_, rfl, by simpa [Builtin.Tuple.tupleCompareSizes] using hR⟩
    case h =>
      exact ⟨rfl, rfl, items.toList, items2.toList, ns, ms, rfl, hi, hj, by omega, h⟩
end

section
variable {prog : Program} {w : World} {A : Around} {E : Value → Shared → Prop} {s : Shared}

theorem lt_tupInts {l b : Addr} {items items2 : Array Value} {ns ms : List Int} {Q : Value → Shared → Prop} (hl : IsTup s.heap l items) (hb : IsTup s.heap b items2) (hi : IntsAre items.toList ns) (hj : IntsAre items2.toList ms)
    (hu : A.units < cLine) (h : Q (.bool (lexLt ns ms)) s) : wpAny (model prog w) A (compareOp .Lt (.ref l) (.ref b)) Q E s := by
  obtain ⟨⟨cls, dd, data, sl⟩, ho, hc, n, hd⟩ := id hl
  obtain ⟨⟨cls2, dd2, data2, sl2⟩, ho2, hc2, n2, hd2⟩ := id hb
  simp only at hc hd hc2 hd2
  subst hc hd hc2 hd2
  exact richCompare_meets_room (op := .Lt) ⟨_, ho, rfl⟩ ⟨_, ho2, rfl⟩ PySem.F.slot_tuple_lt PySem.F.entry_tuple_lt (PySem.F.args_tuple_lt_2 _ _) (tuple_lt_ints l b items items2 n n2 dd dd2 sl sl2 ns ms hi hj)
    ⟨ho, ho2, show Value.bool (lexLt ns ms) ≠ Value.notImplemented ∧ Q (.bool (lexLt ns ms)) s from ⟨(fun x => nomatch x), h⟩⟩ hu

/-- t + u, t not empty -/
theorem cat_tup {t b : Addr} {vs ws : List Value} {Q : Value → Shared → Prop} (ht : IsTup s.heap t vs.toArray) (hb : IsTup s.heap b ws.toArray) (hv : vs ≠ [])
    (h1 : ws = [] → Q (.ref t) s) (h2 : ws ≠ [] → Q (.ref s.heap.objs.size) { s with heap := s.heap.push { cls := .type "tuple", data := .seq (vs ++ ws).toArray } })
    (hsz : vs.length + ws.length ≤ sizeLine) : wpAny (model prog w) A (binaryOp .Add (.ref t) (.ref b)) Q E s := by
  obtain ⟨⟨cls, dd, data, sl⟩, ho, hc, n, hd⟩ := id ht
  obtain ⟨⟨cls2, dd2, data2, sl2⟩, ho2, hc2, n2, hd2⟩ := id hb
  simp only at hc hd hc2 hd2
  subst hc hd hc2 hd2
  have e : vs.toArray ++ ws.toArray = (vs ++ ws).toArray := by simp
  by_cases hw : ws = []
  · exact concat_meets ⟨_, ho, rfl⟩ ⟨_, ho2, rfl⟩ noFill_tuple_add seq_tuple_add PySem.F.slot_tuple_add PySem.F.entry_tuple_add (PySem.F.args_tuple_add_2 _ _)
      (tuple_addW1 t b vs.toArray ws.toArray n n2 dd dd2 sl sl2 (by simpa using hv) (by simp [hw])) ⟨ho, ho2, h1 hw⟩
  · refine concat_meets ⟨_, ho, rfl⟩ ⟨_, ho2, rfl⟩ noFill_tuple_add seq_tuple_add PySem.F.slot_tuple_add PySem.F.entry_tuple_add (PySem.F.args_tuple_add_2 _ _)
      (tuple_addW2 t b vs.toArray ws.toArray n n2 dd dd2 sl sl2 (by simpa using hv) (by simpa using hw) (by rw [List.size_toArray, List.size_toArray]; exact hsz)) ⟨ho, ho2, ?_⟩
    rw [e]
    exact h2 hw

/-! ### t[a:b], not the whole -/
/-- a slice's bound as a place among n (d where it is left out) -/
def sIx (n d : Nat) : Option Int → Nat
  | none => d
  | some v => if v < 0 then (v + (n : Int)).toNat else min v.toNat n
theorem sIx_none (n d : Nat) : sIx n d none = d := rfl
theorem sIx_nat (n d k : Nat) : sIx n d (some (k : Int)) = min k n := by
  show (if (k : Int) < 0 then ((k : Int) + (n : Int)).toNat else min (k : Int).toNat n) = min k n
  rw [if_neg (by omega), Int.toNat_natCast]
theorem sIx_le (n d : Nat) (hd : d ≤ n) (o : Option Int) : sIx n d o ≤ n := by
  cases o with
  | none => exact hd
  | some v =>
    show (if v < 0 then (v + (n : Int)).toNat else min v.toNat n) ≤ n
    by_cases hv : v < 0
    · rw [if_pos hv]; omega
    · rw [if_neg hv]; exact Nat.min_le_right _ _
theorem clip_eq (v : Int) (n d : Nat) : (if v < 0 then max (v + (n : Int)) 0 else min v (n : Int)) = ((sIx n d (some v) : Nat) : Int) := by
  show (if v < 0 then max (v + (n : Int)) 0 else min v (n : Int)) = (((if v < 0 then (v + (n : Int)).toNat else min v.toNat n) : Nat) : Int)
  by_cases hv : v < 0
  · simp only [if_pos hv]; omega
  · simp only [if_neg hv]; omega
theorem adjust_gen (lo hi : Option Int) (n : Nat) : Builtin.Slice.sliceAdjust lo hi 1 (n : Int) = (((sIx n 0 lo : Nat) : Int), ((sIx n n hi : Nat) : Int)) := by
  have h1 : ¬ ((1 : Int) < 0) := by omega
  unfold Builtin.Slice.sliceAdjust
  simp only [h1, if_false]
  refine Prod.ext ?_ ?_
  · cases lo with
    | none => rfl
    | some v => exact clip_eq v n 0
  · cases hi with
    | none => rfl
    | some v => exact clip_eq v n n
theorem places_gen (i j : Nat) : Builtin.Slice.slicePlaces (i : Int) (j : Int) 1 = j - i := by
  unfold Builtin.Slice.slicePlaces
  have h1 : (1 : Int) > 0 := by omega
  simp only [h1, if_true, Int.ediv_one]
  split <;> omega
theorem slicePart_ {v : Value} {o : Option Int} {Q : Option Int → Shared → Prop} (p : IsPart v o) (h : Q o s) : wpAny (model prog w) A (Builtin.Slice.slicePartIndex v) Q E s := by
  cases p with
  | none => exact slicePart_none h
  | int i t => exact slicePart_int h
theorem sliceApplied_gen {sl : Addr} {vl vu : Value} {lo hi : Option Int} {n : Nat} {Q : Int × Int × Nat → Shared → Prop} (hs : s.heap.IsSliceOf sl vl vu .none) (pl : IsPart vl lo) (pu : IsPart vu hi)
    (h : Q (((sIx n 0 lo : Nat) : Int), 1, sIx n n hi - sIx n 0 lo) s) : wpAny (model prog w) A (Builtin.Slice.sliceApplied (.ref sl) (pure (n : Int))) Q E s := by
  obtain ⟨os, hos, hcs, hds⟩ := id hs
  unfold Builtin.Slice.sliceApplied Builtin.Slice.sliceFields
  refine wpAny_bind (wpAny_bind (wpAny_field hos hds (x := vl) rfl (wpAny_bind (wpAny_field hos hds (x := vu) rfl (wpAny_bind (wpAny_field hos hds (x := .none) rfl (wpAny_pure ?_)))))))
  refine wpAny_bind (slicePart_none ?_)
  show wpAny _ _ (if ((1 : Int) == 0) = true then _ else _) _ _ s
  rw [if_neg (by decide)]
  refine wpAny_bind (slicePart_ pl (wpAny_bind (slicePart_ pu (wpAny_bind (wpAny_pure ?_)))))
  show wpAny _ _ (match Builtin.Slice.sliceAdjust lo hi 1 (n : Int) with | (lo, hi) => pure (lo, (1 : Int), Builtin.Slice.slicePlaces lo hi 1)) _ _ s
  rw [adjust_gen lo hi n]
  show wpAny _ _ (pure (((sIx n 0 lo : Nat) : Int), (1 : Int), Builtin.Slice.slicePlaces ((sIx n 0 lo : Nat) : Int) ((sIx n n hi : Nat) : Int) 1)) _ _ s
  rw [places_gen]
  exact wpAny_pure h
theorem pick_gen (xs : Array Value) (i k : Nat) : ((List.range k).filterMap fun (m : Nat) => xs[((i : Int) + (m : Int) * 1).toNat]?).toArray = ((xs.toList.drop i).take k).toArray := by
  have e : (fun (m : Nat) => xs[((i : Int) + (m : Int) * 1).toNat]?) = fun m => xs[i + m]? := by
    funext m
    have : ((i : Int) + (m : Int) * 1).toNat = i + m := by omega
    rw [this]
  rw [e]
  have := pick_run xs i k
  rw [List.filterMap_map] at this
  have e2 : ((fun x => xs[x]?) ∘ fun x => i + x) = fun m => xs[i + m]? := rfl
  rw [e2] at this
  rw [this]

theorem getItem_tuple_cut {t sl : Addr} {items : Array Value} {vl vu : Value} {lo hi : Option Int} {Q : Value → Shared → Prop} (ht : IsTup s.heap t items) (hs : s.heap.IsSliceOf sl vl vu .none) (pl : IsPart vl lo) (pu : IsPart vu hi)
    (hw : ¬ (sIx items.size 0 lo = 0 ∧ sIx items.size items.size hi = items.size))
    (h : Q (.ref s.heap.objs.size) { s with heap := s.heap.push { cls := .type "tuple", data := .seq ((items.toList.drop (sIx items.size 0 lo)).take (sIx items.size items.size hi - sIx items.size 0 lo)).toArray } })
    (hsz : items.size ≤ sizeLine) : wpAny (model prog w) A (getItem (.ref t) (.ref sl)) Q E s := by
  have htake : sizeOk (.seq ((items.toList.drop (sIx items.size 0 lo)).take (sIx items.size items.size hi - sIx items.size 0 lo)).toArray) := by
    show ((items.toList.drop (sIx items.size 0 lo)).take (sIx items.size items.size hi - sIx items.size 0 lo)).toArray.size ≤ sizeLine
    rw [List.size_toArray, List.length_take, List.length_drop, Array.length_toList]
    omega
  have hj : sIx items.size items.size hi ≤ items.size := sIx_le _ _ (Nat.le_refl _) hi
  obtain ⟨os, hos, hcs, hds⟩ := id hs
  have hTs : s.TypeIs (.ref sl) "slice" := ⟨os, hos, hcs⟩
  unfold getItem
  try with_reducible refine wpAny_holding ?_
  first | refine wpAny_bind (wpAny_pure ?_) | skip
  refine wpAny_bind (wpAny_sequenceKey ht.typeIs (by decide) ?_)
  refine wpAny_bind (wpAny_callSpecial?_slot (name := Str.ofString "__getitem__") ht.typeIs PyProof.Rows.slot_tuple_getitem
    (wpAny_call_entry PyProof.Rows.slot_tuple_getitem ht.typeIs entry_tuple_getitem ?_ (args_tuple_getitem _ _)))
  show wpAny _ _ (Builtin.Tuple.tupleItemsOf (.ref t) >>= _) _ _ s
  refine wpAny_bind (tupleItemsOf_ ht ?_)
  refine wpAny_bind (wpAny_typeOf hTs ?_)
  rw [if_pos (by decide)]
  refine wpAny_bind (sliceApplied_gen hs pl pu ?_)
  have hno : ¬ ((((sIx items.size 0 lo : Nat) : Int) == 0 && (1 : Int) == 1 && (sIx items.size items.size hi - sIx items.size 0 lo) == items.size) = true) := by
    intro q
    rw [Bool.and_eq_true, Bool.and_eq_true] at q
    have q1 : ((sIx items.size 0 lo : Nat) : Int) = 0 := eq_of_beq q.1.1
    have q2 : sIx items.size items.size hi - sIx items.size 0 lo = items.size := eq_of_beq q.2
    exact hw ⟨by omega, by omega⟩
  show wpAny _ _ (if (((sIx items.size 0 lo : Nat) : Int) == 0 && (1 : Int) == 1 && (sIx items.size items.size hi - sIx items.size 0 lo) == items.size) = true then _ else _) _ _ s
  rw [if_neg hno, pick_gen]
  first
    | exact wpAny_bind (m := Builtin.Tuple.tupleExact _) (wpAny_newObj_type (wpAny_pure ⟨_, rfl, wpAny_pure h⟩) htake)
    | exact wpAny_bind (m := Builtin.Tuple.tupleExact _) (wpAny_newObj_type (wpAny_bind (wpAny_pure (wpAny_pure ⟨_, rfl, wpAny_pure h⟩))) htake)
    | exact wpAny_bind (wpAny_bind (m := Builtin.Tuple.tupleExact _) (wpAny_newObj_type (wpAny_pure (wpAny_pure ⟨_, rfl, wpAny_pure h⟩)) htake))
    | exact wpAny_bind (wpAny_bind (m := Builtin.Tuple.tupleExact _) (wpAny_newObj_type (wpAny_pure ⟨_, rfl, wpAny_pure h⟩) htake))
end
end HT

namespace L2
open PySem PySem.Spec PyProof.Rows

/-! ### the parts of a slice -/
abbrev TO := St → Hp → (Option Int → Hp → Prop) → Prop
/-- a slice's part (left out, or an int) -/
def PO (X : Cx) (e : Option Expr) (t : TO) : Prop :=
  ∀ (pins : List (Addr × Obj)) (s : Shared) (σ : St) (H : Hp) (Q : Option Int → Hp → Prop), Inv X pins σ H s → t σ H Q →
    wpAny (model X.prog X.w) X.A (evalPart e X.env) (fun u s' => ∃ o H', Inv X pins σ H' s' ∧ IsPart u o ∧ Q o H') X.xe s
def tNoPart : TO := fun _ H Q => Q none H
def tPart (t : TE) : TO := fun σ H Q => t σ H fun x H1 => ∃ i, x = .int i ∧ Q (some i) H1

theorem intsAre_of {ns : List Int} : ∀ {us : List Value}, Vals (ns.map V.int) us → IntsAre us ns := by
  induction ns with
  | nil => intro us r; rw [List.map_nil] at r; cases r; exact .nil
  | cons n ns ih =>
    intro us r
    rw [List.map_cons] at r
    cases r with
    | cons r1 r2 =>
      obtain ⟨t, e⟩ := r1
      subst e
      exact .cons n t (ih r2)

section
variable {X : Cx} {e : Expr} {te : TE} {lo hi : Option Expr} {tl th : TO} {pos p2 : Pos}

theorem po_none : PO X none tNoPart := by
  intro pins s σ H Q I h
  rw [evalPart_none]
  exact wpAny_pure ⟨none, H, I, .none, h⟩
theorem po_some (h : PE X e te) : PO X (some e) (tPart te) := by
  intro pins s σ H Q I hw
  rw [evalPart_some]
  refine thn (h pins s σ H _ I hw) fun u s1 ⟨x, H1, I1, r1, q1⟩ => ?_
  obtain ⟨i, rfl, q⟩ := q1
  obtain ⟨t, rfl⟩ := r1
  exact ⟨some i, H1, I1, .int i t, q⟩

/-- what a slice of a value is, by values: the slice object stands at sl -/
def SlR (X : Cx) (r : V → Option Int → Option Int → Hp → VK → Prop) : Prop :=
  ∀ (pins : List (Addr × Obj)) (s : Shared) (σ : St) (H : Hp) (x : V) (v vl vu : Value) (lo hi : Option Int) (sl : Addr) (Q : VK), Inv X pins σ H s → RelV x v → s.heap.IsSliceOf sl vl vu .none → IsPart vl lo → IsPart vu hi → r x lo hi H Q →
    ∃ T id, typeLookup (.type T) "__getitem__" = pure (some (.builtin id)) ∧ s.TypeIs v T ∧ wpAny (model X.prog X.w) X.A (getItem v (.ref sl)) (EP X pins σ Q) X.xe s
theorem SlR.or {r r' : V → Option Int → Option Int → Hp → VK → Prop} (h : SlR X r) (h' : SlR X r') : SlR X (fun x lo hi H Q => r x lo hi H Q ∨ r' x lo hi H Q) := by
  intro pins s σ H x v vl vu lo hi sl Q I rx hs pl pu q
  rcases q with q | q
  · exact h pins s σ H x v vl vu lo hi sl Q I rx hs pl pu q
  · exact h' pins s σ H x v vl vu lo hi sl Q I rx hs pl pu q
def tSl (r : V → Option Int → Option Int → Hp → VK → Prop) (te : TE) (tl th : TO) : TE := fun σ H Q => te σ H fun x H1 => tl σ H1 fun l H2 => th σ H2 fun u H3 => r x l u H3 Q
/-- a[lo:hi], any a -/
theorem pe_slice {r : V → Option Int → Option Int → Hp → VK → Prop} (hr : SlR X r) (he : PE X e te) (hl : PO X lo tl) (hu : PO X hi th) : PE X (.Subscript e (.Slice lo hi none p2) pos) (tSl r te tl th) := by
  intro pins s σ H Q I h
  refine Subscript_ (thn (he pins s σ H _ I h) fun v s1 ⟨x, H1, I1, r1, q1⟩ => ?_)
  refine wpAny_Slice (thn (hl pins s1 σ H1 _ I1 q1) fun vl s2 ⟨l, H2, I2, pl, q2⟩ => thn (hu pins s2 σ H2 _ I2 q2) fun vu s3 ⟨u, H3, I3, pu, q3⟩ => ?_)
  rw [evalPart_none]
  refine wpAny_pure ?_
  have I4 : Inv X pins σ H3 { s3 with heap := s3.heap.push { cls := .type "slice", data := .fields #[vl, vu, .none] } } := I3.kept (t' := s3.toks) fun b ob q => Heap.get?_push_of_some _ q
  obtain ⟨T, id, hT, ht, hg⟩ := hr pins { s3 with heap := s3.heap.push { cls := .type "slice", data := .fields #[vl, vu, .none] } } σ H3 x v vl vu l u s3.heap.objs.size Q I4 r1 (Heap.IsSliceOf.new ..) pl pu q3
  show wpAny (model X.prog X.w) X.A (subscriptTail e (.Slice lo hi none p2) v (.ref s3.heap.objs.size)) (EP X pins σ Q) X.xe { s3 with heap := s3.heap.push { cls := .type "slice", data := .fields #[vl, vu, .none] } }
  exact tail_any (ops := [.ref s3.heap.objs.size, v]) ht hT hg (by with_unfolding_all rfl)

/-- the items of xs[lo:hi] -/
def cutV (xs : List V) (lo hi : Option Int) : List V := (xs.drop (HT.sIx xs.length 0 lo)).take (HT.sIx xs.length xs.length hi - HT.sIx xs.length 0 lo)
theorem cutV_length (xs : List V) (lo hi : Option Int) : (cutV xs lo hi).length ≤ xs.length := by
  unfold cutV
  rw [List.length_take, List.length_drop]
  omega
/-- t[lo:hi], not the whole of it (the whole would be t itself) -/
def rSlT (K : PySem.W.Frag) : V → Option Int → Option Int → Hp → VK → Prop := fun x lo hi H Q => ∃ a xs, x = .ref a ∧ SqT K H a xs ∧
  ¬ (HT.sIx xs.length 0 lo = 0 ∧ HT.sIx xs.length xs.length hi = xs.length) ∧ ∀ p, H p = none → Q (.ref p) (upd H p (.tup (cutV xs lo hi)))
theorem sl_tup : SlR X (rSlT X.K) := by
  intro pins s σ H x v vl vu lo hi sl Q I rx hs pl pu h
  obtain ⟨a, xs, rfl, hx, hw, q⟩ := h
  cases rx
  obtain ⟨its, r, ht, hz⟩ := I.tuple hx
  have hlen : its.toArray.size = xs.length := by rw [List.size_toArray]; exact r.length.symm
  refine ⟨"tuple", _, PyProof.Rows.slot_tuple_getitem.lookup, ht.typeIs, ?_⟩
  refine HT.getItem_tuple_cut ht hs pl pu (by rw [hlen]; exact hw) ?_ (by rw [hlen]; exact hz)
  rw [hlen]
  refine ⟨.ref s.heap.objs.size, _, I.laid (t' := s.toks) (o := .tup (cutV xs lo hi)) (fun b ob q => Heap.get?_push_of_some _ q) (Nat.le_refl _) ?_, rfl, q _ (I.hok.fresh (Nat.le_refl _))⟩
  exact ⟨Nat.le_trans (cutV_length xs lo hi) hz, _, (r.drop (HT.sIx xs.length 0 lo)).take (HT.sIx xs.length xs.length hi - HT.sIx xs.length 0 lo), IsTup.new _ _⟩

/-! ### t < u, t + u -/
def rLtT (K : PySem.W.Frag) : R2 := fun x y H Q => ∃ a b ns ms, x = .ref a ∧ y = .ref b ∧ SqT K H a (ns.map V.int) ∧ SqT K H b (ms.map V.int) ∧ Q (.bl (HT.lexLt ns ms)) H
theorem op_ltT (hu : X.A.units < cLine) : OpR X (compareOp .Lt) (rLtT X.K) := by
  intro pins s σ H x y v u Q I rx ry h
  obtain ⟨a, b, ns, ms, rfl, rfl, ha, hb, q⟩ := h
  cases rx
  cases ry
  obtain ⟨its, r1, p1, _⟩ := I.tuple ha
  obtain ⟨its2, r2, p2, _⟩ := I.tuple hb
  have i1 : IntsAre its.toArray.toList ns := intsAre_of r1
  have i2 : IntsAre its2.toArray.toList ms := intsAre_of r2
  exact HT.lt_tupInts p1 p2 i1 i2 hu ⟨.bl (HT.lexLt ns ms), H, I, rfl, q⟩
/-- t + u, t not empty: u empty gives t itself -/
def rCatT (K : PySem.W.Frag) : R2 := fun x y H Q => ∃ a b xs ys, x = .ref a ∧ y = .ref b ∧ SqT K H a xs ∧ SqT K H b ys ∧ xs ≠ [] ∧ xs.length + ys.length ≤ sizeLine ∧
  (ys = [] → Q (.ref a) H) ∧ (ys ≠ [] → ∀ p, H p = none → Q (.ref p) (upd H p (.tup (xs ++ ys))))
theorem Vals.nil_iff {xs : List V} {us : List Value} (r : Vals xs us) : us = [] ↔ xs = [] := by
  cases r with
  | nil => simp
  | cons _ _ => simp
theorem op_catT : OpR X (binaryOp .Add) (rCatT X.K) := by
  intro pins s σ H x y v u Q I rx ry h
  obtain ⟨a, b, xs, ys, rfl, rfl, ha, hb, hx, hz, q1, q2⟩ := h
  cases rx
  cases ry
  obtain ⟨its, r1, p1, _⟩ := I.tuple ha
  obtain ⟨its2, r2, p2, _⟩ := I.tuple hb
  refine HT.cat_tup p1 p2 (fun z => hx (r1.nil_iff.mp z)) (fun z => ⟨.ref a, H, I, rfl, q1 (r2.nil_iff.mp z)⟩) (fun z => ?_) (by rw [← r1.length, ← r2.length]; exact hz)
  refine ⟨.ref s.heap.objs.size, _, I.laid (t' := s.toks) (o := .tup (xs ++ ys)) (fun b ob q => Heap.get?_push_of_some _ q) (Nat.le_refl _) ?_, rfl, q2 (fun w => z (r2.nil_iff.mpr w)) _ (I.hok.fresh (Nat.le_refl _))⟩
  exact ⟨by rw [List.length_append]; exact hz, _, r1.append r2, IsTup.new _ _⟩
/-- tuple(t) -/
theorem call_tupleT : CallR X (.type "tuple") (fun xs H Q => ∃ a ys, xs = [.ref a] ∧ SqT X.K H a ys ∧ Q (.ref a) H) := by
  intro pins s σ H xs us Q I r h
  obtain ⟨a, ys, rfl, ha, q⟩ := h
  obtain ⟨u, rfl, ru⟩ := vals1 r
  cases ru
  obtain ⟨its, _, p1, _⟩ := I.tuple ha
  exact call_tuple_same (items := its.toArray) p1 ⟨.ref a, H, I, rfl, q⟩
end
end L2

namespace L2
open PySem PySem.Spec PyProof.Rows

/-! ### places -/
/-- the place that an index of any sign means -/
def ixN (n : Nat) (i : Int) : Option Nat := if 0 ≤ i then (if i < n then some i.toNat else none) else if -(n : Int) ≤ i then some (i + n).toNat else none
def atI {α : Type} (xs : List α) (i : Int) : Option α := (ixN xs.length i).bind fun j => xs[j]?
theorem ixN_seq {n : Nat} {i : Int} {j : Nat} (h : ixN n i = some j) : seqIndex? i n = some j ∧ j < n ∧ -(n : Int) ≤ i ∧ i < n := by
  unfold ixN at h
  by_cases h0 : 0 ≤ i
  · rw [if_pos h0] at h
    by_cases h1 : i < n
    · rw [if_pos h1] at h
      have e : i.toNat = j := Option.some.inj h
      exact ⟨by rw [seqIndex_of h0 h1, e], by omega, by omega, h1⟩
    · rw [if_neg h1] at h; cases h
  · rw [if_neg h0] at h
    by_cases h1 : -(n : Int) ≤ i
    · rw [if_pos h1] at h
      have e : (i + n).toNat = j := Option.some.inj h
      exact ⟨by rw [seqIndex_neg (by omega) h1, e], by omega, h1, by omega⟩
    · rw [if_neg h1] at h; cases h
theorem atI_get {α : Type} {xs : List α} {i : Int} {v : α} (h : atI xs i = some v) : ∃ j, seqIndex? i xs.length = some j ∧ xs[j]? = some v ∧ j < xs.length ∧ -(xs.length : Int) ≤ i ∧ i < xs.length := by
  unfold atI at h
  cases e : ixN xs.length i with
  | none => rw [e] at h; cases h
  | some j =>
    rw [e] at h
    obtain ⟨h1, h2, h3, h4⟩ := ixN_seq e
    exact ⟨j, h1, h, h2, h3, h4⟩
theorem atI_nat {α : Type} {xs : List α} {j : Nat} {v : α} (h : xs[j]? = some v) : atI xs (j : Int) = some v := by
  have hj : j < xs.length := (List.getElem?_eq_some_iff.mp h).1
  have e : ixN xs.length (j : Int) = some j := by
    unfold ixN
    rw [if_pos (by omega), if_pos (by omega)]; simp
  unfold atI; rw [e]; exact h
theorem atI_last {α : Type} (xs : List α) (v : α) : atI (xs ++ [v]) (-1) = some v := by
  have hl : (xs ++ [v]).length = xs.length + 1 := by simp
  have e : ixN (xs ++ [v]).length (-1) = some xs.length := by
    unfold ixN
    rw [hl, if_neg (by decide), if_pos (by omega)]
    congr 1
    omega
  unfold atI
  rw [e]
  show (xs ++ [v])[xs.length]? = some v
  simp

/-! ### what may be subscripted -/
/-- what stands as an index of a plain subscript -/
def PlainIx (b : Expr) : Prop := ∀ o i, subscripted b false o i = operate [o, i] (getItem o i)
/-- a subscript by values -/
def IxR (X : Cx) (r : R2) : Prop :=
  ∀ (value slice : Expr) (pins : List (Addr × Obj)) (s : Shared) (σ : St) (H : Hp) (x y : V) (v u : Value) (Q : VK), Inv X pins σ H s → RelV x v → RelV y u → r x y H Q →
    subscripted slice false v u = operate [v, u] (getItem v u) → wpAny (model X.prog X.w) X.A (subscriptTail value slice v u) (EP X pins σ Q) X.xe s
/-- a call of a builtin's method by values: the receiver, the arguments -/
def MtR (X : Cx) (id : String) (r : V → List V → Hp → VK → Prop) : Prop :=
  ∀ (pins : List (Addr × Obj)) (s : Shared) (σ : St) (H : Hp) (x : V) (xs : List V) (v : Value) (us : List Value) (Q : VK), Inv X pins σ H s → RelV x v → Vals xs us → r x xs H Q →
    wpAny (model X.prog X.w) X.A (call (.builtin id) (v :: us)) (EP X pins σ Q) X.xe s
section
variable {X : Cx} {a b : Expr} {ta tb : TE} {pos : Pos}
theorem IxR.or {r r' : R2} (h : IxR X r) (h' : IxR X r') : IxR X (fun x y H Q => r x y H Q ∨ r' x y H Q) := by
  intro value slice pins s σ H x y v u Q I rx ry q hs
  rcases q with q | q
  · exact h value slice pins s σ H x y v u Q I rx ry q hs
  · exact h' value slice pins s σ H x y v u Q I rx ry q hs
theorem MtR.or {id : String} {r r' : V → List V → Hp → VK → Prop} (h : MtR X id r) (h' : MtR X id r') : MtR X id (fun x xs H Q => r x xs H Q ∨ r' x xs H Q) := by
  intro pins s σ H x xs v us Q I rx rs q
  rcases q with q | q
  · exact h pins s σ H x xs v us Q I rx rs q
  · exact h' pins s σ H x xs v us Q I rx rs q
/-- a[b] -/
theorem pe_ix {r : R2} (hr : IxR X r) (ha : PE X a ta) (hb : PE X b tb) (hs : PlainIx b) : PE X (.Subscript a b pos) (tOp r ta tb) := by
  intro pins s σ H Q I h
  exact Subscript_ (binT ha hb I h fun v u s2 x y H2 I2 rx ry q => hr a b pins s2 σ H2 x y v u Q I2 rx ry q (hs _ _))

def rIxL (K : PySem.W.Frag) : R2 := fun x y H Q => ∃ p xs i v, x = .ref p ∧ y = .int i ∧ SqL K H p xs ∧ atI xs i = some v ∧ Q v H
def rIxT (K : PySem.W.Frag) : R2 := fun x y H Q => ∃ p xs i v, x = .ref p ∧ y = .int i ∧ SqT K H p xs ∧ atI xs i = some v ∧ Q v H
def rIxS : R2 := fun x y H Q => ∃ z i c, x = .str z ∧ y = .int i ∧ z.length ≤ sizeLine ∧ atI z.cps.toList i = some c ∧ Q (.str ⟨#[c]⟩) H
theorem ix_list : IxR X (rIxL X.K) := by
  intro value slice pins s σ H x y v u Q I rx ry h hs
  obtain ⟨p, xs, i, z, rfl, rfl, hq, he, q⟩ := h
  cases rx
  obtain ⟨t, rfl⟩ := ry
  obtain ⟨its, r, pl, hz⟩ := I.list hq
  obtain ⟨j, h1, h2, h3, h4, h5⟩ := atI_get he
  obtain ⟨w, ew, rw'⟩ := r.get h2
  have hl := r.length
  have hn := line63
  have fin : EP X pins σ Q w s := ⟨z, H, I, rw', q⟩
  by_cases h0 : 0 ≤ i
  · have hj : i.toNat = j := by
      rw [seqIndex_of h0 h5] at h1
      exact Option.some.inj h1
    exact item_listR pl.isList h0 (by omega) (by rw [hj]; simpa using ew) fin hs
  · have hj : (i + (its.toArray.size : Int)).toNat = j := by
      rw [seqIndex_neg (by omega) h4] at h1
      rw [List.size_toArray, ← hl]
      exact Option.some.inj h1
    exact subscriptTail_builtinR (x := w) pl.isList.typeIs slot_list_getitem.lookup
      (wpAny_getItem_list_neg (Q := fun r s' => r = w ∧ EP X pins σ Q r s') pl.isList (by omega) (by rw [List.size_toArray] <;> omega) (by omega) (by rw [hj]; simpa using ew) ⟨rfl, fin⟩) hs
theorem ix_tup : IxR X (rIxT X.K) := by
  intro value slice pins s σ H x y v u Q I rx ry h hs
  obtain ⟨p, xs, i, z, rfl, rfl, hq, he, q⟩ := h
  cases rx
  obtain ⟨t, rfl⟩ := ry
  obtain ⟨its, r, pl, hz⟩ := I.tuple hq
  obtain ⟨j, h1, h2, h3, h4, h5⟩ := atI_get he
  obtain ⟨w, ew, rw'⟩ := r.get h2
  have hl := r.length
  have hn := line63
  have fin : EP X pins σ Q w s := ⟨z, H, I, rw', q⟩
  exact subscriptTail_builtinR (x := w) pl.typeIs slot_tuple_getitem.lookup
    (getItem_tuple (j := j) (Q := fun r s' => r = w ∧ EP X pins σ Q r s') pl (by omega) (by omega) (by rw [List.size_toArray, ← hl]; exact h1) (by simpa using ew) ⟨rfl, fin⟩) hs
theorem ix_str : IxR X rIxS := by
  intro value slice pins s σ H x y v u Q I rx ry h hs
  obtain ⟨z, i, c, rfl, rfl, hz, he, q⟩ := h
  obtain ⟨t, rfl⟩ := rx
  obtain ⟨t', rfl⟩ := ry
  obtain ⟨j, h1, h2, h3, h4, h5⟩ := atI_get he
  have hl : z.cps.toList.length = z.length := by simp [Str.length]
  rw [hl] at h1 h4 h5
  have hn := line63
  exact tail_any (typeIs_str s z t) slot_str_getitem.lookup (getItem_str (c := c) (by
    have e1 : decide (i < -(2 ^ 63 : Int)) = false := decide_eq_false (by omega)
    have e2 : decide (i ≥ 2 ^ 63) = false := decide_eq_false (by omega)
    rw [e1, e2, Bool.or_false]) (by rw [h1]; simpa using h2) ⟨.str ⟨#[c]⟩, H, I.tok _, ⟨_, rfl⟩, q⟩) hs
/-- list, tuple or str -/
def rIx (K : PySem.W.Frag) : R2 := fun x y H Q => rIxL K x y H Q ∨ rIxT K x y H Q ∨ rIxS x y H Q
theorem ix_seq : IxR X (rIx X.K) := ix_list.or (ix_tup.or ix_str)

/-! ### xs[i] = v, any sign -/
/-- the list's object behind a store -/
theorem mapSeq_set (its : List Value) (n j : Nat) (u : Value) : Obj.mapSeq (·.setIfInBounds j u) { cls := .type "list", data := .seq its.toArray n } = { cls := .type "list", data := .seq (its.set j u).toArray n } := by
  simp [Obj.mapSeq]
theorem Inv.lst {pins : List (Addr × Obj)} {σ : St} {H : Hp} {s : Shared} {p : Addr} {xs : List V} (I : Inv X pins σ H s) (h : H p = some (.lst xs)) :
    ∃ (its : List Value) (n : Nat), Vals xs its ∧ s.heap.get? p = some { cls := .type "list", data := .seq its.toArray n } ∧ xs.length ≤ sizeLine := by
  obtain ⟨z, its, n, r, e⟩ := I.hok p _ h
  exact ⟨its, n, r, e, z⟩
/-- the list at p is written by an update of its object -/
theorem Inv.lstUpd {pins : List (Addr × Obj)} {σ : St} {H : Hp} {s : Shared} {p : Addr} {xs ys : List V} {its its' : List Value} {n n' : Nat} {f : Obj → Obj} (I : Inv X pins σ H s) (h : H p = some (.lst xs))
    (ho : s.heap.get? p = some { cls := .type "list", data := .seq its.toArray n }) (hf : f { cls := .type "list", data := .seq its.toArray n } = { cls := .type "list", data := .seq its'.toArray n' }) (r : Vals ys its') (hz : ys.length ≤ sizeLine) (t : Nat) :
    Inv X pins σ (upd H p (.lst ys)) { s with heap := s.heap.update p f, toks := t } := by
  have e : (s.heap.update p f).get? p = some { cls := .type "list", data := .seq its'.toArray n' } := by
    rw [Heap.get?_update_self f ho (by rw [hf] <;> rfl), hf]
  refine I.write (x := p) (e := p) (by rw [h]; trivial) (.inl rfl) (fun b u hb q => (Heap.get?_update_other _ _ (Ne.symm hb)).trans q) ⟨_, e⟩ ?_
  exact ⟨hz, its', n', r, e⟩
def rSetL : V → V → V → Hp → (Hp → Prop) → Prop := fun o i v H Q => ∃ p xs k j, o = .ref p ∧ i = .int k ∧ H p = some (.lst xs) ∧ ixN xs.length k = some j ∧ Q (upd H p (.lst (xs.set j v)))
theorem set_list : PSet X rSetL := by
  intro pins s σ H o i v ov iv u Q I ro ri rv h
  obtain ⟨p, xs, k, j, rfl, rfl, hp, hj, q⟩ := h
  cases ro
  obtain ⟨t, rfl⟩ := ri
  obtain ⟨its, n, r, ho, hz⟩ := I.lst hp
  obtain ⟨h1, h2, h3, h4⟩ := ixN_seq hj
  have hl := r.length
  have hn := line63
  have I' : Inv X pins σ (upd H p (.lst (xs.set j v))) { s with heap := s.heap.update p (Obj.mapSeq (·.setIfInBounds j u)) } :=
    I.lstUpd hp ho (mapSeq_set its n j u) (r.set rv j) (by rw [List.length_set]; exact hz) s.toks
  by_cases h0 : 0 ≤ k
  · have hk : k.toNat = j := by
      rw [seqIndex_of h0 h4] at h1
      exact Option.some.inj h1
    exact PySem.W.ki_setAt ho h0 (by omega) (by rw [List.size_toArray, ← hl]; exact h4) (by rw [hk]; exact ⟨_, I', q⟩)
  · have hk : (k + (its.toArray.size : Int)).toNat = j := by
      rw [seqIndex_neg (by omega) h3] at h1
      rw [List.size_toArray, ← hl]
      exact Option.some.inj h1
    exact PySem.W.ki_setBack ho (by omega) (by rw [List.size_toArray, ← hl]; exact h3) (by omega) (by rw [hk]; exact ⟨_, I', q⟩)

/-! ### slices -/
theorem slice_bounds (lo hi : Option Int) (n : Nat) : (sliceBounds lo hi none n).1 = ((HT.sIx n 0 lo : Nat) : Int) ∧ (sliceBounds lo hi none n).2.1 = ((HT.sIx n n hi : Nat) : Int) ∧ (sliceBounds lo hi none n).2.2 = 1 := by
  refine ⟨?_, ?_, rfl⟩
  · cases lo with
    | none => simp [sliceBounds, HT.sIx]
    | some i =>
      simp only [sliceBounds, HT.sIx, Option.getD_none, show (1 : Int) > 0 by decide, if_true]
      by_cases h : i < 0
      · simp only [h, if_true] <;> omega
      · simp only [h, if_false] <;> omega
  · cases hi with
    | none => simp [sliceBounds, HT.sIx]
    | some i =>
      simp only [sliceBounds, HT.sIx, Option.getD_none, show (1 : Int) > 0 by decide, if_true]
      by_cases h : i < 0
      · simp only [h, if_true] <;> omega
      · simp only [h, if_false] <;> omega
theorem slicePick_cut (its : List Value) (lo hi : Option Int) : slicePick its.toArray lo hi none = ((its.drop (HT.sIx its.length 0 lo)).take (HT.sIx its.length its.length hi - HT.sIx its.length 0 lo)).toArray := by
  obtain ⟨h1, h2, h3⟩ := slice_bounds lo hi its.toArray.size
  unfold slicePick
  rw [h1, h2, h3]
  simp only [sliceRange_one, pick_run, List.size_toArray] <;> rfl
/-- xs[lo:hi] of a list: a new list -/
def rSlL (K : PySem.W.Frag) : V → Option Int → Option Int → Hp → VK → Prop := fun x lo hi H Q => ∃ a xs, x = .ref a ∧ SqL K H a xs ∧ ∀ p, H p = none → Q (.ref p) (upd H p (.lst (cutV xs lo hi)))
theorem sl_list : SlR X (rSlL X.K) := by
  intro pins s σ H x v vl vu lo hi sl Q I rx hs pl pu h
  obtain ⟨a, xs, rfl, hx, q⟩ := h
  cases rx
  obtain ⟨its, r, ht, hz⟩ := I.list hx
  have hlen := r.length
  refine ⟨"list", _, slot_list_getitem.lookup, ht.isList.typeIs, ?_⟩
  refine wpAny_getItem_list_slice ht.isList hs pl pu .none (by simp) ?_ (by rw [List.size_toArray] <;> omega)
  rw [slicePick_cut, ← hlen]
  refine ⟨.ref s.heap.objs.size, _, I.laid (t' := s.toks) (o := .lst (cutV xs lo hi)) (fun b ob q => Heap.get?_push_of_some _ q) (Nat.le_refl _) ?_, rfl, q _ (I.hok.fresh (Nat.le_refl _))⟩
  exact ⟨Nat.le_trans (cutV_length xs lo hi) hz, _, 0, (r.drop (HT.sIx xs.length 0 lo)).take (HT.sIx xs.length xs.length hi - HT.sIx xs.length 0 lo), Heap.get?_push_size _ rfl⟩

/-! ### in, not in: flat items -/
def flatV : V → Bool
  | .non => true
  | .bl _ => true
  | .int _ => true
  | .str _ => true
  | _ => false
/-- == of flat values -/
def eqV : V → V → Bool
  | .non, .non => true
  | .bl a, .bl b => a == b
  | .bl a, .int b => (if a then 1 else 0) == b
  | .int a, .bl b => a == (if b then 1 else 0)
  | .int a, .int b => a == b
  | .str a, .str b => a == b
  | _, _ => false
theorem eqAt_V {A : Around} {s : Shared} {y x : V} {u v : Value} (ry : RelV y u) (rx : RelV x v) (fy : flatV y = true) (fx : flatV x = true) : SeqAt.EqAt A s u v (eqV y x) := by
  cases y with
  | non =>
    cases ry
    cases x with
    | non => cases rx; exact SeqAt.EqAt.same _
    | bl b => cases rx; exact SeqAt.EqAt.none_bool b
    | int b => obtain ⟨t, rfl⟩ := rx; exact SeqAt.EqAt.none_int b t
    | str b => obtain ⟨t, rfl⟩ := rx; exact SeqAt.EqAt.none_str b t
    | _ => exact absurd (show false = true from fx) Bool.false_ne_true
  | bl a =>
    cases ry
    cases x with
    | non => cases rx; exact SeqAt.EqAt.bool_none a
    | bl b => cases rx; exact SeqAt.EqAt.bool_bool a b
    | int b => obtain ⟨t, rfl⟩ := rx; exact SeqAt.EqAt.bool_int a b t
    | str b => obtain ⟨t, rfl⟩ := rx; exact SeqAt.EqAt.bool_str a b t
    | _ => exact absurd (show false = true from fx) Bool.false_ne_true
  | int a =>
    obtain ⟨t', rfl⟩ := ry
    cases x with
    | non => cases rx; exact SeqAt.EqAt.int_none a t'
    | bl b => cases rx; exact SeqAt.EqAt.int_bool a t' b
    | int b => obtain ⟨t, rfl⟩ := rx; exact SeqAt.EqAt.int_int a t' b t
    | str b => obtain ⟨t, rfl⟩ := rx; exact SeqAt.EqAt.int_str a t' b t
    | _ => exact absurd (show false = true from fx) Bool.false_ne_true
  | str a =>
    obtain ⟨t', rfl⟩ := ry
    cases x with
    | non => cases rx; exact SeqAt.EqAt.str_none a t'
    | bl b => cases rx; exact SeqAt.EqAt.str_bool a t' b
    | int b => obtain ⟨t, rfl⟩ := rx; exact SeqAt.EqAt.str_int a t' b t
    | str b => obtain ⟨t, rfl⟩ := rx; exact SeqAt.EqAt.str_str a t' b t
    | _ => exact absurd (show false = true from fx) Bool.false_ne_true
  | _ => exact absurd (show false = true from fy) Bool.false_ne_true
/-- the items' answers, read off the values (a value's own answer does not lean on its token) -/
def eqU (x : V) (u : Value) : Bool := match u with
  | .none => eqV .non x
  | .bool b => eqV (.bl b) x
  | .int i _ => eqV (.int i) x
  | .str z _ => eqV (.str z) x
  | _ => false
theorem eqU_of {x y : V} {u : Value} (r : RelV y u) (f : flatV y = true) : eqU x u = eqV y x := by
  cases y with
  | non => cases r; rfl
  | bl b => cases r; rfl
  | int i => obtain ⟨t, rfl⟩ := r; rfl
  | str z => obtain ⟨t, rfl⟩ := r; rfl
  | _ => exact absurd (show false = true from f) Bool.false_ne_true
theorem any_eqU {x : V} : ∀ {xs : List V} {us : List Value}, Vals xs us → xs.all flatV = true → us.any (eqU x) = xs.any fun y => eqV y x
  | _, _, .nil, _ => rfl
  | y :: xs, u :: us, .cons r t, f => by
    rw [List.all_cons, Bool.and_eq_true] at f
    rw [List.any_cons, List.any_cons, eqU_of r f.1, any_eqU t f.2]
theorem mem_eqAt {A : Around} {s : Shared} {x : V} {v : Value} (rx : RelV x v) (fx : flatV x = true) : ∀ {xs : List V} {us : List Value}, Vals xs us → xs.all flatV = true → ∀ u ∈ us, SeqAt.EqAt A s u v (eqU x u)
  | _, _, .nil, _ => fun u hu => by cases hu
  | y :: xs, u :: us, .cons r t, f => fun u' hu => by
    rw [List.all_cons, Bool.and_eq_true] at f
    rcases List.mem_cons.mp hu with rfl | hu
    · rw [eqU_of r f.1]; exact eqAt_V r rx f.1 fx
    · exact mem_eqAt rx fx t f.2 u' hu
def inV (x : V) (xs : List V) : Bool := xs.any fun y => eqV y x
/-- x in a list or tuple of flat items -/
def rIn (K : PySem.W.Frag) (neg : Bool) : R2 := fun x y H Q => ∃ p xs, y = .ref p ∧ (SqL K H p xs ∨ SqT K H p xs) ∧ flatV x = true ∧ xs.all flatV = true ∧ Q (.bl (if neg then !inV x xs else inV x xs)) H
theorem op_in_seq : OpR X (compareOp .In) (rIn X.K false) := by
  intro pins s σ H x y v u Q I rx ry h
  obtain ⟨p, xs, rfl, hq, fx, fs, q⟩ := h
  cases ry
  rcases hq with hq | hq
  · obtain ⟨its, r, pl, hz⟩ := I.list hq
    refine SeqAt.in_listAt (eqU x) pl.isList (fun w hw => mem_eqAt rx fx r fs w (by simpa using hw)) ⟨.bl _, H, I, rfl, ?_⟩
    rw [show its.toArray.any (eqU x) = its.any (eqU x) by simp, any_eqU r fs]
    exact q
  · obtain ⟨its, r, pl, hz⟩ := I.tuple hq
    refine SeqAt.in_tupleAt (eqU x) pl (fun w hw => mem_eqAt rx fx r fs w (by simpa using hw)) ⟨.bl _, H, I, rfl, ?_⟩
    rw [show its.toArray.any (eqU x) = its.any (eqU x) by simp, any_eqU r fs]
    exact q
theorem op_notIn_seq : OpR X (compareOp .NotIn) (rIn X.K true) := by
  intro pins s σ H x y v u Q I rx ry h
  obtain ⟨p, xs, rfl, hq, fx, fs, q⟩ := h
  cases ry
  rcases hq with hq | hq
  · obtain ⟨its, r, pl, hz⟩ := I.list hq
    refine SeqAt.notIn_listAt (eqU x) pl.isList (fun w hw => mem_eqAt rx fx r fs w (by simpa using hw)) ⟨.bl _, H, I, rfl, ?_⟩
    rw [show its.toArray.any (eqU x) = its.any (eqU x) by simp, any_eqU r fs]
    exact q
  · obtain ⟨its, r, pl, hz⟩ := I.tuple hq
    refine SeqAt.notIn_tupleAt (eqU x) pl (fun w hw => mem_eqAt rx fx r fs w (by simpa using hw)) ⟨.bl _, H, I, rfl, ?_⟩
    rw [show its.toArray.any (eqU x) = its.any (eqU x) by simp, any_eqU r fs]
    exact q
theorem op_notIn_str : OpR X (compareOp .NotIn) (fun x y H Q => ∃ i j, x = .str i ∧ y = .str j ∧ Q (.bl (!(!(Builtin.Str.occurrences j i 0 j.length 1).isEmpty))) H) := by
  intro pins s σ H x y v u Q I rx ry h
  obtain ⟨i, j, rfl, rfl, q⟩ := h
  obtain ⟨t, rfl⟩ := rx
  obtain ⟨t', rfl⟩ := ry
  exact notIn_str ⟨.bl _, H, I, rfl, q⟩

/-! ### len, list(x), tuple(x) of any list or tuple that is read -/
theorem call_len_seq : CallR X (.builtin "len") (fun xs H Q => ∃ p ys, xs = [.ref p] ∧ (SqL X.K H p ys ∨ SqT X.K H p ys) ∧ Q (.int ys.length) H) := by
  intro pins s σ H xs us Q I r h
  obtain ⟨p, ys, rfl, hq, q⟩ := h
  obtain ⟨u, rfl, rx⟩ := vals1 r
  cases rx
  have hn := line63
  rcases hq with hq | hq
  · obtain ⟨its, r', pl, hz⟩ := I.list hq
    have hlen := r'.length
    exact Calls.call_len_list pl.isList (by simp only [List.size_toArray] <;> omega) ⟨.int ys.length, H, I.tok _, ⟨s.toks + 1, by rw [List.size_toArray, hlen]⟩, q⟩
  · obtain ⟨its, r', pl, hz⟩ := I.tuple hq
    have hlen := r'.length
    exact len_tuple pl (by simp only [List.size_toArray] <;> omega) ⟨.int ys.length, H, I.tok _, ⟨s.toks + 1, by rw [List.size_toArray, hlen]⟩, q⟩
theorem call_len_str : CallR X (.builtin "len") (fun xs H Q => ∃ z, xs = [.str z] ∧ z.length ≤ sizeLine ∧ Q (.int z.length) H) := by
  intro pins s σ H xs us Q I r h
  obtain ⟨z, rfl, hz, q⟩ := h
  obtain ⟨u, rfl, t, rfl⟩ := vals1 r
  have hn := line63
  exact len_str (by omega) ⟨.int z.length, H, I.tok _, ⟨_, rfl⟩, q⟩
theorem CallR.or {f : Value} {r r' : List V → Hp → VK → Prop} (h : CallR X f r) (h' : CallR X f r') : CallR X f (fun xs H Q => r xs H Q ∨ r' xs H Q) := by
  intro pins s σ H xs us Q I rs q
  rcases q with q | q
  · exact h pins s σ H xs us Q I rs q
  · exact h' pins s σ H xs us Q I rs q
theorem call_list_of : CallR X (.type "list") (fun xs H Q => ∃ p ys, xs = [.ref p] ∧ (SqL X.K H p ys ∨ SqT X.K H p ys) ∧ ∀ l, H l = none → Q (.ref l) (upd H l (.lst ys))) := by
  intro pins s σ H xs us Q I r h
  obtain ⟨p, ys, rfl, hq, q⟩ := h
  obtain ⟨u, rfl, rx⟩ := vals1 r
  cases rx
  have fin : ∀ (its : List Value), Vals ys its → ys.length ≤ sizeLine → ∀ (h' : Heap) (c' : Nat), (∀ b o', s.heap.get? b = some o' → h'.get? b = some o') →
      h'.get? s.heap.objs.size = some { cls := .type "list", dict := none, data := .seq its.toArray c', slots := #[] } → EP X pins σ Q (.ref s.heap.objs.size) { s with heap := h' } := fun its r' hz h' c' kp e =>
    ⟨.ref s.heap.objs.size, _, I.laid (t' := s.toks) kp (Nat.le_refl _) (show ObjOk X.prog X.w _ h' _ (.lst ys) from ⟨hz, its, c', r', e⟩), rfl, q _ (I.hok.fresh (Nat.le_refl _))⟩
  rcases hq with hq | hq
  · obtain ⟨its, r', pl, hz⟩ := I.list hq
    have hlen := r'.length
    obtain ⟨o, ho, hc, n, hd⟩ := pl.isList
    exact call_list_seq p (.inl rfl) ho hc hd (fun h' c' kp e => fin its r' hz h' c' kp e) (by simp only [List.size_toArray] <;> omega)
  · obtain ⟨its, r', pl, hz⟩ := I.tuple hq
    have hlen := r'.length
    obtain ⟨o, ho, hc, n, hd⟩ := pl
    exact call_list_seq p (.inr rfl) ho hc hd (fun h' c' kp e => fin its r' hz h' c' kp e) (by simp only [List.size_toArray] <;> omega)
theorem call_tuple_of : CallR X (.type "tuple") (fun xs H Q => ∃ p ys, xs = [.ref p] ∧ ((SqL X.K H p ys ∧ ∀ l, H l = none → Q (.ref l) (upd H l (.tup ys))) ∨ (SqT X.K H p ys ∧ Q (.ref p) H))) := by
  intro pins s σ H xs us Q I r h
  obtain ⟨p, ys, rfl, h⟩ := h
  obtain ⟨u, rfl, rx⟩ := vals1 r
  cases rx
  rcases h with ⟨hq, q⟩ | ⟨hq, q⟩
  · obtain ⟨its, r', pl, hz⟩ := I.list hq
    have hlen := r'.length
    refine call_tuple_list pl.isList (fun h' kp => ?_) (by simp only [List.size_toArray] <;> omega)
    have I1 : Inv X pins σ H { s with heap := h' } := I.kept (t' := s.toks) kp
    have I2 : Inv X pins σ (upd H h'.objs.size (.tup ys)) { s with heap := h'.push { cls := .type "tuple", data := .seq its.toArray } } :=
      I1.laid (t' := s.toks) (fun b o e => Heap.get?_push_of_some _ e) (Nat.le_refl _) (show ObjOk X.prog X.w _ _ _ (.tup ys) from ⟨hz, its, r', IsTup.new _ _⟩)
    exact ⟨.ref h'.objs.size, _, I2, rfl, q _ (I1.hok.fresh (Nat.le_refl _))⟩
  · obtain ⟨its, r', pl, hz⟩ := I.tuple hq
    exact call_tuple_same pl ⟨.ref p, H, I, rfl, q⟩

/-! ### the call of a builtin's method: o.m(..) -/
/-- the value is of that builtin type -/
def tyV (K : PySem.W.Frag) (T : String) (x : V) (H : Hp) : Prop := match x with
  | .str _ => T = "str"
  | .int _ => T = "int"
  | .ref p => (T = "list" ∧ ∃ xs, SqL K H p xs) ∨ (T = "tuple" ∧ ∃ o, K.lookup p = some o ∧ o.cls = .type "tuple" ∧ o.dict = none) ∨
      (T = "dict" ∧ ((∃ kvs, H p = some (.dK kvs)) ∨ ∃ kvs, H p = some (.dT kvs))) ∨ (T = "set" ∧ ∃ S n, H p = some (.set S n))
  | _ => False
theorem tyV_is {pins : List (Addr × Obj)} {σ : St} {H : Hp} {s : Shared} {T : String} {x : V} {v : Value} (I : Inv X pins σ H s) (r : RelV x v) (ty : tyV X.K T x H) :
    s.TypeIs v T ∧ ∀ a, v = .ref a → ∃ ob, s.heap.get? a = some ob ∧ ob.dict = none := by
  cases x with
  | str z =>
    obtain ⟨t, rfl⟩ := r
    cases (show T = "str" from ty)
    exact ⟨typeIs_str s z t, fun _ e => nomatch e⟩
  | int i =>
    obtain ⟨t, rfl⟩ := r
    cases (show T = "int" from ty)
    exact ⟨typeIs_int s i t, fun _ e => nomatch e⟩
  | ref p =>
    cases r
    rcases ty with ⟨rfl, xs, hq⟩ | ⟨rfl, o, hk, hc, hd⟩ | ⟨rfl, hk⟩ | ⟨rfl, S, n, hk⟩
    · obtain ⟨its, _, pl, _⟩ := I.list hq
      refine ⟨pl.isList.typeIs, fun a e => ?_⟩
      cases e
      obtain ⟨o, n, e, c, hd, _⟩ := pl
      exact ⟨o, e, hd⟩
    · refine ⟨⟨o, I.kIn p o hk, hc⟩, fun a e => ?_⟩
      cases e
      exact ⟨o, I.kIn _ o hk, hd⟩
    · have z : ∃ o, s.heap.get? p = some o ∧ o.ExactDict := by
        rcases hk with ⟨kvs, hk⟩ | ⟨kvs, hk⟩
        · obtain ⟨_, _, _, _, o, _, _, e, ex, _⟩ := I.hok p _ hk
          exact ⟨o, e, ex⟩
        · obtain ⟨_, _, _, _, o, _, _, e, ex, _⟩ := I.hok p _ hk
          exact ⟨o, e, ex⟩
      obtain ⟨o, e, ex⟩ := z
      refine ⟨⟨o, e, ex.1⟩, fun a e2 => ?_⟩
      cases e2
      exact ⟨o, e, ex.2.1⟩
    · obtain ⟨o, _, _, _, e, ex, _⟩ := I.hok p _ hk
      refine ⟨⟨o, e, ex.1⟩, fun a e2 => ?_⟩
      cases e2
      exact ⟨o, e, ex.2.1⟩
  | _ => exact False.elim ty
def tBM0 (K : PySem.W.Frag) (T : String) (r : V → List V → Hp → VK → Prop) (to : TE) : TE := fun σ H Q => to σ H fun x H1 => tyV K T x H1 ∧ r x [] H1 Q
def tBM (K : PySem.W.Frag) (T : String) (r : V → List V → Hp → VK → Prop) (to : TE) (t : TA) : TE := fun σ H Q => to σ H fun x H1 => tyV K T x H1 ∧ t σ H1 fun xs H2 => r x xs H2 Q
variable {o e : Expr} {es : List Expr} {to : TE} {t : TA} {name : Str} {apos cpos : Pos} {T id : String} {r : V → List V → Hp → VK → Prop}
theorem pe_bm0 (pa : PlainAttrs T) (slot : Slot T name id) (hty : typeOf (.builtin id) = pure (.type "method_descriptor")) (hm : MtR X id r) (ho : PE X o to)
    (hbase : attributeBase o name X.env (eval o X.env) = eval o X.env := by rfl) (hline : (apos.endLine == cpos.line) = true := by rfl) : PE X (.Call (.Attribute o name apos) [] [] cpos) (tBM0 X.K T r to) := by
  intro pins s σ H Q I h
  refine wpAny_Call_method0_late hbase hline (thn (ho pins s σ H _ I h) fun v s1 ⟨x, H1, I1, r1, ty, q1⟩ => ?_)
  obtain ⟨h1, h2⟩ := tyV_is I1 r1 ty
  exact ⟨T, id, pa, slot, hty, h1, h2, Calls.callWith_builtin rfl (PySem.evalArgs_none (hm pins s1 σ H1 x [] v [] Q I1 r1 .nil q1))⟩
theorem pe_bm (pa : PlainAttrs T) (slot : Slot T name id) (hty : typeOf (.builtin id) = pure (.type "method_descriptor")) (hm : MtR X id r) (ho : PE X o to) (ha : PA X (e :: es) t)
    (hbase : attributeBase o name X.env (eval o X.env) = eval o X.env := by rfl)
    (hfew : ((backTo cpos (starEach (e :: es) X.env)).all (fun x => !x.1) && (backToKw cpos (keywordEach [] X.env)).all (fun x => x.1.isSome)
      && decide ((e :: es).length + ([] : List Keyword).length + (if ([] : List Keyword).isEmpty then 0 else 1) < 30)) = true := by rfl)
    (hline : (apos.endLine == cpos.line) = true := by rfl) (hs : starEach (e :: es) X.env = (false, eval e X.env) :: starEach es X.env := by rfl) (hplain : (backTo cpos (starEach es X.env)).any (·.1) = false := by rfl) :
    PE X (.Call (.Attribute o name apos) (e :: es) [] cpos) (tBM X.K T r to t) := by
  intro pins s σ H Q I h
  refine wpAny_Call_method_late hbase hfew hline rfl (thn (ho pins s σ H _ I h) fun v s1 ⟨x, H1, I1, r1, ty, q1⟩ => ?_)
  obtain ⟨h1, h2⟩ := tyV_is I1 r1 ty
  refine ⟨T, id, pa, slot, hty, h1, h2, ?_⟩
  have hA := ha cpos pins s1 σ H1 _ I1 q1
  rw [hs] at hA ⊢
  refine Calls.callWith_builtin (by show (false || (backTo cpos (starEach es X.env)).any (·.1)) = false; rw [hplain] <;> rfl) (Calls.evalArgs_plain ?_)
  exact thn hA fun us s2 ⟨vs, H2, I2, r2, q2⟩ => hm pins s2 σ H2 x vs v us Q I2 r1 r2 q2
/- xs.append(e), list.index on a module's tuple .. are MtR facts of 06m -/
end
end L2

namespace L2
open PySem PySem.Spec PyProof.Rows

def MtM (X : Cx) (id : String) (r : V → List V → Hp → VK → Prop) : Prop :=
  ∀ (pins : List (Addr × Obj)) (s : Shared) (σ : St) (H : Hp) (x : V) (xs : List V) (v : Value) (us : List Value) (Q : VK), Inv X pins σ H s → RelV x v → Vals xs us → r x xs H Q →
    wpAny (model X.prog X.w) X.A (call (.builtin id) (v :: us)) (EP X pins σ Q) X.xe s

/-! ### lists of values -/
theorem Vals.one : ∀ {x : V} {us : List Value}, Vals [x] us → ∃ u, us = [u] ∧ RelV x u
  | _, _, .cons r .nil => ⟨_, rfl, r⟩
theorem Vals.two : ∀ {x y : V} {us : List Value}, Vals [x, y] us → ∃ u v, us = [u, v] ∧ RelV x u ∧ RelV y v
  | _, _, _, .cons r (.cons q .nil) => ⟨_, _, rfl, r, q⟩
theorem Vals.zero : ∀ {us : List Value}, Vals [] us → us = []
  | _, .nil => rfl
theorem Vals.dropLast {xs : List V} {us : List Value} (h : Vals xs us) : Vals xs.dropLast us.dropLast := by
  induction h with
  | nil => exact .nil
  | cons r t ih =>
    cases t with
    | nil => exact .nil
    | cons q t' => exact .cons r ih
theorem Vals.eraseIdx : ∀ {xs : List V} {us : List Value} (i : Nat), Vals xs us → Vals (xs.eraseIdx i) (us.eraseIdx i)
  | _, _, _, .nil => .nil
  | _, _, 0, .cons _ t => t
  | _, _, i + 1, .cons r t => .cons r (Vals.eraseIdx i t)
theorem Vals.reverse {xs : List V} {us : List Value} (h : Vals xs us) : Vals xs.reverse us.reverse := by
  induction h with
  | nil => exact .nil
  | cons r t ih => rw [List.reverse_cons, List.reverse_cons]; exact Vals.append ih (.cons r .nil)
theorem Vals.rep {xs : List V} {us : List Value} (h : Vals xs us) : ∀ k : Nat, Vals (List.replicate k xs).flatten (List.replicate k us).flatten
  | 0 => .nil
  | k + 1 => by
    rw [List.replicate_succ, List.replicate_succ, List.flatten_cons, List.flatten_cons]
    exact Vals.append h (Vals.rep h k)
theorem erase_last {α : Type} (l : List α) : l.eraseIdx (l.length - 1) = l.dropLast := by
  induction l with
  | nil => rfl
  | cons a r ih =>
    cases r with
    | nil => rfl
    | cons b r =>
      have e : (a :: b :: r).length - 1 = ((b :: r).length - 1) + 1 := by
        have h1 : (a :: b :: r).length = r.length + 2 := rfl
        have h2 : (b :: r).length = r.length + 1 := rfl
        omega
      rw [e, List.eraseIdx_cons_succ, ih]
      all_goals rfl
theorem len_erase {α : Type} : ∀ (l : List α) (i : Nat), (l.eraseIdx i).length ≤ l.length
  | [], _ => Nat.le_refl _
  | _ :: _, 0 => Nat.le_succ _
  | _ :: r, i + 1 => Nat.succ_le_succ (len_erase r i)
theorem foldl_rep (its : List Value) : ∀ (k : Nat) (acc : List Value),
    List.foldl (fun x1 x2 => x1 ++ x2) acc.toArray (List.replicate k its.toArray) = (acc ++ (List.replicate k its).flatten).toArray
  | 0, acc => by simp
  | k + 1, acc => by
    have e : acc.toArray ++ its.toArray = (acc ++ its).toArray := by simp
    have e2 : (acc ++ its) ++ (List.replicate k its).flatten = acc ++ (List.replicate (k + 1) its).flatten := by
      rw [List.replicate_succ, List.flatten_cons, List.append_assoc]
    rw [← e2, ← foldl_rep its k (acc ++ its), ← e, List.replicate_succ, List.foldl_cons]

section
variable {X : Cx} {pins : List (Addr × Obj)} {σ : St} {H : Hp} {s : Shared} {l b : Addr} {xs ys zs : List V}

/-! ### the two steps: a tracked list is rewritten, a new list is laid -/
theorem Inv.lset {its its' : List Value} {n : Nat} {f : Array Value → Array Value} {t' : Nat} (I : Inv X pins σ H s) (hH : H l = some (.lst xs))
    (e : s.heap.get? l = some { cls := .type "list", data := .seq its.toArray n }) (hf : f its.toArray = its'.toArray) (hv : Vals ys its') (hz : ys.length ≤ sizeLine) :
    Inv X pins σ (upd H l (.lst ys)) { s with heap := s.heap.update l (Obj.mapSeq f), toks := t' } := by
  have q := PySem.IsL.update e f
  rw [hf] at q
  refine I.write (x := l) (e := l) (by rw [hH]; exact trivial) (.inl rfl) (fun b' u hb hu => (Heap.get?_update_other s.heap (Obj.mapSeq f) (Ne.symm hb)).trans hu) ⟨_, q⟩ ?_
  exact ⟨hz, its', _, hv, q⟩
theorem Inv.lnew {its : List Value} {t' : Nat} (I : Inv X pins σ H s) (hv : Vals ys its) (hz : ys.length ≤ sizeLine) :
    Inv X pins σ (upd H s.heap.objs.size (.lst ys)) { s with heap := s.heap.push { cls := .type "list", data := .seq its.toArray }, toks := t' } :=
  I.laid (fun _ _ q => Heap.get?_push_of_some _ q) (Nat.le_refl _) ⟨hz, its, 0, hv, Heap.get?_push_size _ rfl⟩
theorem Inv.fresh (I : Inv X pins σ H s) : H s.heap.objs.size = none := I.hok.fresh (Nat.le_refl _)
theorem Inv.lstM (I : Inv X pins σ H s) (hH : H l = some (.lst xs)) : xs.length ≤ sizeLine ∧ ∃ (its : List Value) (n : Nat), Vals xs its ∧ xs.length = its.length ∧ s.heap.get? l = some { cls := .type "list", data := .seq its.toArray n } := by
  obtain ⟨z, its, n, r, e⟩ := I.hok l _ hH
  exact ⟨z, its, n, r, r.length, e⟩

theorem notLongL {n : Nat} (h : n ≤ sizeLine) : Builtin.List.listTooLong n = false := by
  unfold Builtin.List.listTooLong
  exact decide_eq_false (by omega)
end

section
variable {X : Cx}

/-! ### methods -/
def rAppend : V → List V → Hp → VK → Prop := fun x vs H Q => ∃ l xs y, x = .ref l ∧ vs = [y] ∧ H l = some (.lst xs) ∧ xs.length < sizeLine ∧ Q .non (upd H l (.lst (xs ++ [y])))
theorem mt_append : MtM X "list.append" rAppend := by
  intro pins s σ H x vs v us Q I rx rv h
  obtain ⟨l, xs, y, rfl, rfl, hH, hz, q⟩ := h
  cases rx
  obtain ⟨u, rfl, ru⟩ := rv.one
  obtain ⟨z, its, n, r, hl, e⟩ := I.lstM hH
  refine call_meets F.slot_list_append ⟨_, e, rfl⟩ F.entry_list_append (F.args_list_append_2 _ _) (PySem.list_append l its.toArray n u (by rw [List.size_toArray]; omega)) ⟨e, ?_⟩
  refine ⟨.non, _, I.lset (its' := its ++ [u]) hH e (by simp) (r.append (.cons ru .nil)) ?_, rfl, q⟩
  rw [List.length_append, List.length_singleton]
  omega

def rExtend : V → List V → Hp → VK → Prop := fun x vs H Q => ∃ l b xs zs, x = .ref l ∧ vs = [.ref b] ∧ H l = some (.lst xs) ∧ H b = some (.lst zs) ∧ xs.length + zs.length ≤ sizeLine ∧ Q .non (upd H l (.lst (xs ++ zs)))
theorem mt_extend : MtM X "list.extend" rExtend := by
  intro pins s σ H x vs v us Q I rx rv h
  obtain ⟨l, b, xs, zs, rfl, rfl, hH, hB, hz, q⟩ := h
  cases rx
  obtain ⟨u, rfl, ru⟩ := rv.one
  cases ru
  obtain ⟨z, its, n, r, hl, e⟩ := I.lstM hH
  obtain ⟨z2, its2, n2, r2, hl2, e2⟩ := I.lstM hB
  have hsz : its.toArray.size + its2.toArray.size ≤ sizeLine := by rw [List.size_toArray, List.size_toArray]; omega
  have hlong : ¬ (!its.toArray.isEmpty && Builtin.List.listTooLong (its.toArray.size + its2.toArray.size)) = true := by
    rw [notLongL hsz, Bool.and_false]
    exact Bool.false_ne_true
  refine call_meets F.slot_list_extend ⟨_, e, rfl⟩ F.entry_list_extend (F.args_list_extend_2 _ _)
    (AutoSeq1.list_extend_list_list_0 l its.toArray n b its2.toArray n2 hlong (by rw [List.size_toArray]; omega) (by omega)) ⟨e, e2, ?_⟩
  refine ⟨.non, _, I.lset (its' := its ++ its2) hH e (by simp) (r.append r2) ?_, rfl, q⟩
  rw [List.length_append]
  omega

def rPop : V → List V → Hp → VK → Prop := fun x vs H Q => ∃ l xs y, x = .ref l ∧ vs = [] ∧ H l = some (.lst xs) ∧ xs[xs.length - 1]? = some y ∧ Q y (upd H l (.lst xs.dropLast))
theorem mt_pop : MtM X "list.pop" rPop := by
  intro pins s σ H x vs v us Q I rx rv h
  obtain ⟨l, xs, y, rfl, rfl, hH, hy, q⟩ := h
  cases rx
  have hus := rv.zero
  subst hus
  obtain ⟨z, its, n, r, hl, e⟩ := I.lstM hH
  obtain ⟨u, hu, ru⟩ := r.get hy
  have hy' : its.toArray[its.toArray.size - 1]? = some u := by
    show its.toArray[its.length - 1]? = some u
    rw [← Array.getElem?_toList, ← hl]
    exact hu
  refine call_meets F.slot_list_pop ⟨_, e, rfl⟩ F.entry_list_pop (F.args_list_pop_1 _) (MeetsSeq.list_pop_last l its.toArray n u hy' (by rw [List.size_toArray]; omega)) ⟨e, ?_⟩
  refine ⟨y, _, I.lset (its' := its.dropLast) hH e ?_ r.dropLast ?_, ru, q⟩
  · show its.toArray.eraseIdxIfInBounds (its.toArray.size - 1) = its.dropLast.toArray
    rw [List.size_toArray, List.eraseIdxIfInBounds_toArray, erase_last]
  · rw [List.length_dropLast]
    omega

def rPopAt : V → List V → Hp → VK → Prop := fun x vs H Q => ∃ l xs i k y, x = .ref l ∧ vs = [.int i] ∧ H l = some (.lst xs) ∧ -(2 ^ 63) ≤ i ∧ i < 2 ^ 63 ∧ seqIndex? i xs.length = some k ∧ xs[k]? = some y ∧ Q y (upd H l (.lst (xs.eraseIdx k)))
theorem mt_popAt : MtM X "list.pop" rPopAt := by
  intro pins s σ H x vs v us Q I rx rv h
  obtain ⟨l, xs, i, k, y, rfl, rfl, hH, h1, h2, hk, hy, q⟩ := h
  cases rx
  obtain ⟨u, rfl, ru⟩ := rv.one
  obtain ⟨t, rfl⟩ := ru
  obtain ⟨z, its, n, r, hl, e⟩ := I.lstM hH
  obtain ⟨w, hw, rw'⟩ := r.get hy
  refine call_meets F.slot_list_pop ⟨_, e, rfl⟩ F.entry_list_pop (F.args_list_pop_2 _ _)
    (MeetsSeq.list_pop_at l its.toArray n i t k w (fitsIndex_both h1 h2) (by rw [List.size_toArray, ← hl]; exact hk) (by rw [← Array.getElem?_toList]; exact hw) (by rw [List.size_toArray]; omega)) ⟨e, ?_⟩
  refine ⟨y, _, I.lset (its' := its.eraseIdx k) hH e ?_ (r.eraseIdx k) ?_, rw', q⟩
  · show its.toArray.eraseIdxIfInBounds k = (its.eraseIdx k).toArray
    rw [List.eraseIdxIfInBounds_toArray]
  · have := len_erase xs k
    omega

def rReverse : V → List V → Hp → VK → Prop := fun x vs H Q => ∃ l xs, x = .ref l ∧ vs = [] ∧ H l = some (.lst xs) ∧ Q .non (upd H l (.lst xs.reverse))
theorem mt_reverse : MtM X "list.reverse" rReverse := by
  intro pins s σ H x vs v us Q I rx rv h
  obtain ⟨l, xs, rfl, rfl, hH, q⟩ := h
  cases rx
  have hus := rv.zero
  subst hus
  obtain ⟨z, its, n, r, hl, e⟩ := I.lstM hH
  refine call_meets F.slot_list_reverse ⟨_, e, rfl⟩ F.entry_list_reverse (F.args_list_reverse_1 _) (AutoSeq1.list_reverse_list_0 l its.toArray n (by rw [List.size_toArray]; omega)) ⟨e, ?_⟩
  refine ⟨.non, _, I.lset (its' := its.reverse) hH e (by simp) r.reverse ?_, rfl, q⟩
  rw [List.length_reverse]
  omega

def rClear : V → List V → Hp → VK → Prop := fun x vs H Q => ∃ l xs, x = .ref l ∧ vs = [] ∧ H l = some (.lst xs) ∧ Q .non (upd H l (.lst []))
theorem mt_clear : MtM X "list.clear" rClear := by
  intro pins s σ H x vs v us Q I rx rv h
  obtain ⟨l, xs, rfl, rfl, hH, q⟩ := h
  cases rx
  have hus := rv.zero
  subst hus
  obtain ⟨z, its, n, r, hl, e⟩ := I.lstM hH
  refine call_meets F.slot_list_clear ⟨_, e, rfl⟩ F.entry_list_clear (F.args_list_clear_1 _) (AutoSeq1.list_clear_list_0 l its.toArray n (by rw [List.size_toArray]; omega)) ⟨e, ?_⟩
  exact ⟨.non, _, I.lset (its' := []) (ys := []) hH e rfl .nil (Nat.zero_le _), rfl, q⟩

/-! ### list + list, list += list, list * int -/
def rCat : R2 := fun x y H Q => ∃ l b xs zs, x = .ref l ∧ y = .ref b ∧ H l = some (.lst xs) ∧ H b = some (.lst zs) ∧ xs.length + zs.length ≤ sizeLine ∧ ∀ p, H p = none → Q (.ref p) (upd H p (.lst (xs ++ zs)))
theorem op_cat : OpR X (binaryOp .Add) rCat := by
  intro pins s σ H x y v u Q I rx ry h
  obtain ⟨l, b, xs, zs, rfl, rfl, hH, hB, hz, q⟩ := h
  cases rx
  cases ry
  obtain ⟨z, its, n, r, hl, e⟩ := I.lstM hH
  obtain ⟨z2, its2, n2, r2, hl2, e2⟩ := I.lstM hB
  refine PySem.P.add_list e e2 ?_ (by rw [List.size_toArray, List.size_toArray]; omega)
  have ea : its.toArray ++ its2.toArray = (its ++ its2).toArray := by simp
  rw [ea]
  exact ⟨.ref _, _, I.lnew (t' := s.toks) (r.append r2) (by rw [List.length_append]; omega), rfl, q _ I.fresh⟩
/-- a list times an int (a negative one is nothing) -/
def rRep : R2 := fun x y H Q => ∃ l k xs, x = .ref l ∧ y = .int k ∧ H l = some (.lst xs) ∧ -(2 ^ 63) ≤ k ∧ k < 2 ^ 63 ∧ xs.length * k.toNat ≤ sizeLine ∧
  ∀ p, H p = none → Q (.ref p) (upd H p (.lst (List.replicate k.toNat xs).flatten))
theorem len_rep {α : Type} (xs : List α) (k : Nat) : (List.replicate k xs).flatten.length = k * xs.length := by
  induction k with
  | zero => simp
  | succ k ih => rw [List.replicate_succ, List.flatten_cons, List.length_append, ih, Nat.succ_mul, Nat.add_comm]
theorem op_rep : OpR X (binaryOp .Mult) rRep := by
  intro pins s σ H x y v u Q I rx ry h
  obtain ⟨l, k, xs, rfl, rfl, hH, h1, h2, hz, q⟩ := h
  cases rx
  obtain ⟨t, rfl⟩ := ry
  obtain ⟨z, its, n, r, hl, e⟩ := I.lstM hH
  have hlen : its.toArray.size * k.toNat ≤ sizeLine := by rw [List.size_toArray, ← hl]; exact hz
  have hcap : ¬ its.toArray.size * k.toNat > (2 ^ 63 - 1) / 8 := by
    have : (sizeLine : Nat) ≤ (2 ^ 63 - 1) / 8 := by decide
    omega
  have hfit : ¬ (!Builtin.List.listFitsIndex k) = true := by
    rw [fitsIndex_both h1 h2]
    exact Bool.false_ne_true
  have hlong : ¬ Builtin.List.listTooLong (its.toArray.size * k.toNat) = true := by
    rw [notLongL hlen]
    exact Bool.false_ne_true
  have hnew : List.foldl (fun x1 x2 => x1 ++ x2) #[] (List.replicate (if its.toArray.isEmpty = true then 0 else k.toNat) its.toArray) = (List.replicate k.toNat its).flatten.toArray := by
    have f0 : ∀ m : Nat, List.foldl (fun x1 x2 => x1 ++ x2) #[] (List.replicate m its.toArray) = (List.replicate m its).flatten.toArray := fun m => by
      have := foldl_rep its m []
      rw [List.nil_append] at this
      exact this
    rw [f0]
    cases its with
    | nil => simp
    | cons a r' => rw [if_neg (by simp)]
  refine wpAny_binaryOp_repeat_ref (T := "list") (U := "int") (by decide) ⟨_, e, rfl⟩ (fun s' => typeIs_int s' k t) noFill_list_mul F.fills_int_mul F.slot_int_rmul repeat_list F.slot_int_index.lookup
    (call_meets F.slot_int_rmul (typeIs_int s k t) F.entry_int_rmul (F.args_int_rmul_2 _ _) (int___rmul___int_list k t l its.toArray n)
      ⟨e, rfl, ⟨_, e, rfl⟩, call_meets F.slot_list_mul ⟨_, e, rfl⟩ F.entry_list_mul (F.args_list_mul_2 _ _) (AutoListH.list___mul___list_int_3 l its.toArray n k t hfit hcap hlong) ⟨e, ?_⟩⟩)
  rw [hnew]
  exact ⟨.ref _, _, I.lnew (t' := s.toks) (r.rep k.toNat) (by rw [len_rep, Nat.mul_comm]; exact hz), rfl, q _ I.fresh⟩

/-! ### del xs[i] -/
theorem del_list {pins : List (Addr × Obj)} {s : Shared} {σ : St} {H : Hp} {l : Addr} {xs : List V} {i : Int} {t : Tok} {k : Nat} {Q : Unit → Shared → Prop} (I : Inv X pins σ H s) (hH : H l = some (.lst xs))
    (h1 : -(2 ^ 63) ≤ i) (h2 : i < 2 ^ 63) (hk : seqIndex? i xs.length = some k) (h : ∀ s', Inv X pins σ (upd H l (.lst (xs.eraseIdx k))) s' → Q () s') :
    wpAny (model X.prog X.w) X.A (delItem (.ref l) (.int i t)) Q X.xe s := by
  obtain ⟨z, its, n, r, hl, e⟩ := I.lstM hH
  refine PySem.P.delItem_list (k := k) e (fitsIndex_both h1 h2) (by rw [List.size_toArray, ← hl]; exact hk) (h _ ?_) (by rw [List.size_toArray]; omega)
  refine I.lset (its' := its.eraseIdx k) (t' := s.toks) hH e ?_ (r.eraseIdx k) ?_
  · show its.toArray.eraseIdxIfInBounds k = (its.eraseIdx k).toArray
    rw [List.eraseIdxIfInBounds_toArray]
  · have := len_erase xs k
    omega
end

/-! ### xs[a:b] = ys -/
section
variable {prog : Program} {w : World} {A : Around} {E : Value → Shared → Prop} {s : Shared}
theorem splice_eq (its its2 : List Value) (a c : Nat) : its.toArray.extract 0 a ++ its2.toArray ++ its.toArray.extract c its.toArray.size = (its.take a ++ its2 ++ its.drop c).toArray := by
  apply Array.toList_inj.mp
  first
    | (simp
       exact List.take_of_length_le (by simp))
    | simp [List.take_of_length_le]
    | simp
theorem bounds_run {a c n : Nat} (hac : a ≤ c) (hc : c ≤ n) : sliceBounds (some (a : Int)) (some (c : Int)) none n = ((a : Int), (c : Int), 1) := by
  simp only [sliceBounds, Option.getD_none]
  have h1 : ¬ ((a : Int) < 0) := by omega
  have h2 : ¬ ((c : Int) < 0) := by omega
  simp only [h1, h2, if_false, show (1 : Int) > 0 by decide, if_true]
  congr 1
  · omega
  · congr 1; omega
set_option maxRecDepth 100000 in
/-- list.__setitem__ with a slice of step one and another list -/
theorem setItem_slice {l b sl : Addr} {items new : Array Value} {n n2 : Nat} {vl vu : Value} {a c : Nat} {Q : Unit → Shared → Prop}
    (e : s.heap.get? l = some { cls := .type "list", data := .seq items n }) (e2 : s.heap.get? b = some { cls := .type "list", data := .seq new n2 }) (hne : l ≠ b)
    (hs : s.heap.IsSliceOf sl vl vu .none) (pl : IsPart vl (some (a : Int))) (pu : IsPart vu (some (c : Int))) (hac : a ≤ c) (hc : c ≤ items.size)
    (hsz : items.size + new.size ≤ sizeLine) (h : Q () { s with heap := s.heap.update l (Obj.mapSeq fun xs => xs.extract 0 a ++ new ++ xs.extract c xs.size) }) :
    wpAny (model prog w) A (setItem (.ref l) (.ref sl) (.ref b)) Q E s := by
  have hl : s.heap.IsList l items := PySem.IsL.isList e
  have hb : s.heap.IsList b new := PySem.IsL.isList e2
  obtain ⟨os, hos, hcs, hds⟩ := id hs
  have hTs : s.TypeIs (.ref sl) "slice" := ⟨os, hos, hcs⟩
  have hstep : ¬ ((rawPart none == rawInt 0) = true) := Bool.false_ne_true
  have hsame : Builtin.List.listSameRef (.ref l) (.ref b) = false := by
    unfold Builtin.List.listSameRef
    exact beq_eq_false_iff_ne.mpr hne
  have hmax : (max (a : Int) (c : Int)).toNat = c := by omega
  have hz' : ((fun xs : Array Value => xs.extract 0 a ++ new ++ xs.extract c xs.size) items).size ≤ sizeLine + 1 := by
    simp only [Array.size_append, Array.size_extract]
    omega
  unfold setItem
  try with_reducible refine wpAny_holding ?_
  first | refine wpAny_bind (wpAny_pure ?_) | skip
  refine wpAny_bind (wpAny_sequenceKey hl.typeIs (by decide) ?_)
  refine wpAny_bind (wpAny_callSpecial?_slot (name := Str.ofString "__setitem__") hl.typeIs slot_list_setitem
    (wpAny_call_entry slot_list_setitem hl.typeIs entry_list_setitem ?_ (args_list_setitem _ _ _)))
  show wpAny _ _ (Builtin.List.listSubscript? (.ref sl) >>= _) _ _ s
  refine wpAny_bind ?_
  unfold Builtin.List.listSubscript?
  refine wpAny_bind (wpAny_specialOf hTs slice_no_index ?_)
  simp only [Option.isNone_none, if_true]
  refine wpAny_pure ?_
  show wpAny _ _ (typeOf (.ref sl) >>= _) _ _ s
  refine wpAny_bind (wpAny_typeOf hTs ?_)
  first
    | rw [if_neg (by decide)]
    | refine PySem.W.KFB.if_not (by decide) ?_
  rw [listSliceParts_eq]
  refine wpAny_bind (wpAny_bind (wpAny_field hos hds (x := .none) rfl (wpAny_bind (wpAny_listPart .none ?_))))
  rw [if_neg hstep]
  refine wpAny_bind (wpAny_field hos hds (x := vl) rfl (wpAny_bind (wpAny_listPart pl ?_)))
  refine wpAny_bind (wpAny_field hos hds (x := vu) rfl (wpAny_bind (wpAny_listPart pu (wpAny_pure ?_))))
  first
    | simp only [hsame, Bool.false_eq_true, if_false]
    | refine PySem.W.KFB.if_not hsame ?_
    | (dsimp only
       rw [if_neg (by rw [hsame]; exact Bool.false_ne_true)])
  refine wpAny_bind (m := Builtin.List.listAllItems (.ref b) "must assign iterable to extended slice") ?_
  unfold Builtin.List.listAllItems
  refine wpAny_bind (wpAny_typeOf hb.typeIs ?_)
  first
    | refine PySem.W.KFB.if_so (by decide) ?_
    | rw [if_pos (by decide)]
    | simp only [beq_self_eq_true, Bool.true_or, if_true]
  unfold Builtin.List.listItems
  refine wpAny_bind (wpAny_seqItems e2 rfl (wpAny_pure ?_))
  refine wpAny_bind (wpAny_bind (wpAny_seqItems e rfl (wpAny_pure ?_)))
  refine wpAny_bind (wpAny_of_eq ((sliceIndices_raw (some (a : Int)) (some (c : Int)) none items.size (by simp)).trans (congrArg (pure : Int × Int × Int → Sem (Int × Int × Int)) (bounds_run hac hc))) ?_)
  show wpAny _ _ (if ((1 : Int) == 1) = true then _ else _) _ _ s
  rw [if_pos (by decide)]
  refine wpAny_bind (wpAny_rule ?_)
  first
    | simp only [notLongL hsz, Bool.false_eq_true, if_false]
    | refine PySem.W.KFB.if_not (notLongL hsz) ?_
  first | refine wpAny_bind (wpAny_pure ?_) | skip
  show wpAny _ _ (updateSeq l (fun xs => xs.extract 0 ((a : Int)).toNat ++ new ++ xs.extract (max (a : Int) (c : Int)).toNat xs.size) >>= _) _ _ s
  rw [hmax, Int.toNat_natCast]
  refine wpAny_bind (wpAny_updateSeq (hz := Nat.le_trans (Nat.le_add_right _ _) hsz) (_hz' := hz') e rfl ?_)
  refine wpAny_bind (wpAny_letGo ?_)
  first
    | exact wpAny_bind (wpAny_pure (wpAny_pure ⟨.none, rfl, wpAny_pure h⟩))
    | exact wpAny_pure ⟨.none, rfl, wpAny_pure h⟩
end

section
variable {X : Cx}
/-- xs[a:c] = ys of another list, at the value level: sl is the slice object that was just made -/
theorem set_slice {pins : List (Addr × Obj)} {s : Shared} {σ : St} {H : Hp} {l b sl : Addr} {xs ys : List V} {a c : Int} {vl vu : Value} {Q : Unit → Shared → Prop} (I : Inv X pins σ H s)
    (hH : H l = some (.lst xs)) (hB : H b = some (.lst ys)) (hne : l ≠ b) (hs : s.heap.IsSliceOf sl vl vu .none) (ra : RelV (.int a) vl) (rc : RelV (.int c) vu) (h0 : 0 ≤ a) (hac : a ≤ c) (hc : c ≤ xs.length)
    (hz : xs.length + ys.length ≤ sizeLine) (h : ∀ s', Inv X pins σ (upd H l (.lst (xs.take a.toNat ++ ys ++ xs.drop c.toNat))) s' → Q () s') :
    wpAny (model X.prog X.w) X.A (setItem (.ref l) (.ref sl) (.ref b)) Q X.xe s := by
  obtain ⟨ta, rfl⟩ := ra
  obtain ⟨tc, rfl⟩ := rc
  obtain ⟨z, its, n, r, hl, e⟩ := I.lstM hH
  obtain ⟨z2, its2, n2, r2, hl2, e2⟩ := I.lstM hB
  obtain ⟨a', rfl⟩ := Int.eq_ofNat_of_zero_le h0
  obtain ⟨c', rfl⟩ := Int.eq_ofNat_of_zero_le (Int.le_trans h0 hac)
  simp only [Int.toNat_natCast] at h
  refine setItem_slice (a := a') (c := c') e e2 hne hs (.int _ _) (.int _ _) (by omega) (by rw [List.size_toArray]; omega) (by rw [List.size_toArray, List.size_toArray]; omega) (h _ ?_)
  refine I.lset (its' := its.take a' ++ its2 ++ its.drop c') (t' := s.toks) hH e ?_ (Vals.append (Vals.append (r.take _) r2) (r.drop _)) ?_
  · exact splice_eq its its2 a' c'
  · rw [List.length_append, List.length_append, List.length_take, List.length_drop]
    omega
end
end L2

namespace Att
open PySem PySem.W PySem.Calls PyProof.Rows

/-! ### the script -/
theorem ints_of_wellAll {P : Params} {h : Heap} : ∀ (ns : List Int) (vs : List Value), WellAll P h vs (ns.map WData.int) → IntsAre vs ns := by
  intro ns
  induction ns with
  | nil =>
    intro vs w
    rw [List.map_nil] at w
    cases w
    exact .nil
  | cons n ns ih =>
    intro vs w
    rw [List.map_cons] at w
    cases w with
    | cons a b =>
      cases a
      exact .cons _ _ (ih _ b)

theorem script_of {l : OpenLaw} {n : Nat} (hn : l.most = some n) {P : Params} {h : Heap} {args : List WData} {vals : List Value}
    (hpre : l.row.toRowW.claim.pre args = true) (hwl : WellAll P h vals args) :
    ∃ a vs ns, vals = [Value.ref a] ∧ args = [WData.list (ns.map WData.int)] ∧ h.get? a = some { cls := .type "list", data := .seq vs.toArray } ∧ IntsAre vs ns ∧ ns.length ≤ n := by
  have hsh : WShape.hasAll [] args [.list .int] = true := (pre_splitW hpre).1
  have hc : l.pre.holds [] { args := args } = true := (pre_splitW hpre).2
  obtain ⟨d, r, rfl, h1, h2⟩ := hasAllW_cons hsh
  obtain rfl := hasAllW_nil h2
  obtain ⟨xs, rfl, h3⟩ := hasW_list h1
  obtain ⟨ns, rfl⟩ := items_int h3
  have hlen : ns.length ≤ n := by
    unfold OpenLaw.pre at hc
    have h4 : (WTm.not (.lt (.lit (.int (n : Int))) (.len (.arg 0)))).holds [] { args := [.list (ns.map .int)] } = true := by
      have h4 := (holds_andW hc).1
      rw [hn] at h4
      exact h4
    have h5 := condW_of h4 (w_not (w_lt w_lit (w_len_list (w_arg rfl))))
    rw [List.length_map] at h5
    refine Nat.le_of_not_lt fun q => ?_
    have q' : (n : Int) < ((ns.length : Nat) : Int) := by omega
    first
      | (rw [decide_eq_true q'] at h5; exact absurd h5 (by decide))
      | (simp at h5; omega)
  cases hwl with
  | cons w1 w2 =>
    cases w2
    cases w1 with
    | list ho hall => exact ⟨_, _, ns, rfl, rfl, ho, ints_of_wellAll ns _ hall, hlen⟩

theorem post_true (l : OpenLaw) (args : List WData) : l.row.toRowW.claim.post args (.bool true) args = true :=
  postW_of (r := l.row.toRowW) (X := (true == true))
    (show WShape.has [] (.bool true) .bool = true by first | rfl | decide | simp [WShape.has, WShape.arms, WShape.armsAll])
    (show (WTm.eq .res (.lit (.bool true))).value [] { args := args, res := some (.bool true), after := args } = some (.bool (true == true)) from w_eq_bool (w_res rfl) w_lit) rfl

/-! ### the attachment: holds_open's last premise (the goal 'hc' behind k_head) from a wpAny of the law's body -/
theorem attach {l : OpenLaw} {n : Nat} {q : Program} {loose : List Str} {XP : (Str → Option Value) → Heap → Prop} {YP : World → Heap → Prop} {d : DefRec} {x : Str}
    (hn : l.most = some n) (hdf : d.params.defaults = [])
    (hbind : ∀ pm cd doc v : Value, bindArgs (docDef d.name d.params d.body d.scope pm cd doc) ⟨[v], []⟩ = pure [(x, v)])
    (hx : d.scope.names.lookup x = some .local ∨ d.scope.names.lookup x = some .cell)
    (hk : d.scope.kind = .function) (hco : d.scope.isCoroutine = false) (hgen : d.scope.isGenerator = false)
    (body : ∀ (w : World) (s₀ s₁ s : Shared) (mg mb : Str → Option Value) (fa : Addr) (o : Obj) (pm cd doc : Value) (a : Addr) (vs : List Value) (ns : List Int),
      Ground q loose [] XP w s₀ mg mb s₁.heap → YP w s₁.heap →
      s₁.heap.get? fa = some o → o.data = .func (docDef d.name d.params d.body d.scope pm cd doc) → s₁.heap.CodeRec cd d.name → mg d.name = some (.ref fa) →
      s₁.heap.get? a = some { cls := .type "list", data := .seq vs.toArray } → IntsAre vs ns → ns.length ≤ n →
      s.gens = #[] → s.os = s₁.os →
      Fr s₁.heap s₁.heap.objs.size s.heap (bindL (envOfC d.name d.scope s₁.heap.objs.size fa cd).kindOf [(x, .ref a)] fun _ => none) →
      Cl s₁.heap.objs.size (cellsFrom (s₁.heap.objs.size + 1) d.scope.names []) s.heap (bindC (envOfC d.name d.scope s₁.heap.objs.size fa cd).kindOf [(x, .ref a)] fun _ => none) →
      wpAny (model l.prog w) (callerA.deeper (envOfC d.name d.scope s₁.heap.objs.size fa cd)) (execs d.body (envOfC d.name d.scope s₁.heap.objs.size fa cd))
        (fun f s' => f = .ret (.bool true) ∧ OldK s₁.heap s'.heap ∧ s'.os = s₁.os ∧ AllBare s'.gens) (fun _ _ => False) s) :
    WalkO q loose XP YP l.row.toRowW d [] (fun f vs => PySem.call f vs) := by
  intro w s₀ s₁ mg mb G Y fa o pm cd doc dV kV ho hd hcd hD hmg hg args vals as hpre hlay hrd hwl hlo
  obtain rfl : dV = .none := Dflts.none hD hdf
  obtain rfl : kV = .none := Dflts.noKw hD
  obtain ⟨a, vs, ns, rfl, rfl, hobj, hints, hlen⟩ := script_of hn hpre hwl
  refine enter_call ?_
  refine call_cells_ret (o := o) (by rw [depth_caller]; decide) ho (fd_plain hd) G.T.nolimit hcd (hbind pm cd doc (.ref a)) (fun y hy => ?_) (fun h₁ tk F X => ?_) hco hgen hk
  · obtain rfl : y = (x, Value.ref a) := List.mem_singleton.mp hy
    rcases hx with e | e
    · exact .inl e
    · exact .inr ⟨e, cellsFrom_some _ _ _ (.inl e)⟩
  · refine wpAny_mono (body w s₀ s₁ { s₁ with heap := h₁, toks := tk } mg mb fa o pm cd doc a vs ns G Y ho (fd_plain hd) hcd hmg hobj hints hlen hg rfl F X) (fun f s' hq => ?_) (fun _ _ hq => hq)
    obtain ⟨rfl, h2, h3, h4⟩ := hq
    exact ⟨.inl ⟨.bool true, .bool true, [], rfl, fun _ => rfl, .bool true, post_true l _, fun _ => ⟨List.Pairwise.nil, fun _ hm => (nomatch hm)⟩⟩, h2, h3, h4⟩

/-- the same from a codeAny of the CALL (for a layer whose function contracts speak of calls) -/
theorem attach_call {l : OpenLaw} {n : Nat} {q : Program} {loose : List Str} {XP : (Str → Option Value) → Heap → Prop} {YP : World → Heap → Prop} {d : DefRec}
    (hn : l.most = some n) (hdf : d.params.defaults = [])
    (call : ∀ (w : World) (s₀ s₁ : Shared) (mg mb : Str → Option Value) (fa : Addr) (o : Obj) (pm cd doc : Value) (a : Addr) (vs : List Value) (ns : List Int),
      Ground q loose [] XP w s₀ mg mb s₁.heap → YP w s₁.heap →
      s₁.heap.get? fa = some o → o.data = .func (docDef d.name d.params d.body d.scope pm cd doc) → s₁.heap.CodeRec cd d.name → mg d.name = some (.ref fa) →
      s₁.heap.get? a = some { cls := .type "list", data := .seq vs.toArray } → IntsAre vs ns → ns.length ≤ n → s₁.gens = #[] →
      codeAny (model l.prog w) callerA (.call (.ref fa) ⟨[.ref a], []⟩) (fun r s' => r = .ok (.ret (.bool true)) ∧ OldK s₁.heap s'.heap ∧ s'.os = s₁.os ∧ AllBare s'.gens) s₁) :
    WalkO q loose XP YP l.row.toRowW d [] (fun f vs => PySem.call f vs) := by
  intro w s₀ s₁ mg mb G Y fa o pm cd doc dV kV ho hd hcd hD hmg hg args vals as hpre hlay hrd hwl hlo
  obtain rfl : dV = .none := Dflts.none hD hdf
  obtain rfl : kV = .none := Dflts.noKw hD
  obtain ⟨a, vs, ns, rfl, rfl, hobj, hints, hlen⟩ := script_of hn hpre hwl
  refine enter_call (codeAny_mono (call w s₀ s₁ mg mb fa o pm cd doc a vs ns G Y ho (fd_plain hd) hcd hmg hobj hints hlen hg) fun r s' hq => ?_)
  obtain ⟨rfl, h2, h3, h4⟩ := hq
  exact ⟨.inl ⟨.bool true, .bool true, [], rfl, fun _ => rfl, .bool true, post_true l _, fun _ => ⟨List.Pairwise.nil, fun _ hm => (nomatch hm)⟩⟩, h2, h3, h4⟩

/-- the same where the top left finished generators (o_head chose holds_openN): nothing may have changed at all and no generator may be left -/
theorem attachN {l : OpenLaw} {n : Nat} {q : Program} {loose : List Str} {XP : (Str → Option Value) → Heap → Prop} {YP : World → Heap → Prop} {d : DefRec} {x : Str}
    (hn : l.most = some n) (hdf : d.params.defaults = [])
    (hbind : ∀ pm cd doc v : Value, bindArgs (docDef d.name d.params d.body d.scope pm cd doc) ⟨[v], []⟩ = pure [(x, v)])
    (hx : d.scope.names.lookup x = some .local ∨ d.scope.names.lookup x = some .cell)
    (hk : d.scope.kind = .function) (hco : d.scope.isCoroutine = false) (hgen : d.scope.isGenerator = false)
    (body : ∀ (w : World) (s₀ s₁ s : Shared) (mg mb : Str → Option Value) (fa : Addr) (o : Obj) (pm cd doc : Value) (a : Addr) (vs : List Value) (ns : List Int),
      Ground q loose [] XP w s₀ mg mb s₁.heap → YP w s₁.heap →
      s₁.heap.get? fa = some o → o.data = .func (docDef d.name d.params d.body d.scope pm cd doc) → s₁.heap.CodeRec cd d.name → mg d.name = some (.ref fa) →
      s₁.heap.get? a = some { cls := .type "list", data := .seq vs.toArray } → IntsAre vs ns → ns.length ≤ n →
      s.gens = #[] → s.os = s₁.os →
      Fr s₁.heap s₁.heap.objs.size s.heap (bindL (envOfC d.name d.scope s₁.heap.objs.size fa cd).kindOf [(x, .ref a)] fun _ => none) →
      Cl s₁.heap.objs.size (cellsFrom (s₁.heap.objs.size + 1) d.scope.names []) s.heap (bindC (envOfC d.name d.scope s₁.heap.objs.size fa cd).kindOf [(x, .ref a)] fun _ => none) →
      wpAny (model l.prog w) (callerA.deeper (envOfC d.name d.scope s₁.heap.objs.size fa cd)) (execs d.body (envOfC d.name d.scope s₁.heap.objs.size fa cd))
        (fun f s' => f = .ret (.bool true) ∧ (∀ b o, s₁.heap.get? b = some o → s'.heap.get? b = some o) ∧ s'.os = s₁.os ∧ s'.gens = #[]) (fun _ _ => False) s) :
    WalkN q loose XP YP l.row.toRowW d [] (fun f vs => PySem.call f vs) := by
  intro w s₀ s₁ mg mb G Y fa o pm cd doc dV kV ho hd hcd hD hmg hg args vals as hpre hlay hrd hwl hlo
  obtain rfl : dV = .none := Dflts.none hD hdf
  obtain rfl : kV = .none := Dflts.noKw hD
  obtain ⟨a, vs, ns, rfl, rfl, hobj, hints, hlen⟩ := script_of hn hpre hwl
  refine enter_callW ?_
  refine call_cells_ret (o := o) (by rw [depth_caller]; decide) ho (fd_plain hd) G.T.nolimit hcd (hbind pm cd doc (.ref a)) (fun y hy => ?_) (fun h₁ tk F X => ?_) hco hgen hk
  · obtain rfl : y = (x, Value.ref a) := List.mem_singleton.mp hy
    rcases hx with e | e
    · exact .inl e
    · exact .inr ⟨e, cellsFrom_some _ _ _ (.inl e)⟩
  · refine wpAny_mono (body w s₀ s₁ { s₁ with heap := h₁, toks := tk } mg mb fa o pm cd doc a vs ns G Y ho (fd_plain hd) hcd hmg hobj hints hlen hg rfl F X) (fun f s' hq => ?_) (fun _ _ hq => hq)
    obtain ⟨rfl, h2, h3, h4⟩ := hq
    exact ⟨.inl ⟨.bool true, .bool true, [], rfl, fun _ => rfl, .bool true, post_true l _, fun _ => ⟨List.Pairwise.nil, fun _ hm => (nomatch hm)⟩⟩, h2, h3, h4⟩

/-! ### rules over ANY heap (no ledger) from facts about the written part K: the library's own take a ledger (News) for what they write -/
section
variable {prog : Program} {w : World} {A : Around} {E : Value → Shared → Prop} {s : Shared} {K : Frag}

/-- a def of the module, or a method (qual 'C.m'), entered: the frame is the next address; cells behind it -/
theorem call_fn {R : Result → Shared → Prop} {name qual : Str} {params : Arguments} {body : List Stmt} {scope : Scope} {dV kV doc pm cdv ct oc : Value} {an od : Option Addr} {osl : Array (Option Value)} {f : Addr} {args : Args} {binds : List (Str × Value)}
    (X : K.In s.heap) (hlim : s.heap.NoLimit) (ho : K.lookup f = some ⟨oc, od, .func (fnOf name qual params body scope dV kV doc pm an cdv ct), osl⟩) (hcd : codeIn K cdv qual = true) (hroom : A.depth < recursionLimit)
    (hbind : BindsTo s (fnOf name qual params body scope dV kV doc pm an cdv ct) args binds)
    (hkind : (binds.all fun y => scope.names.lookup y.1 == some .local || scope.names.lookup y.1 == some .cell) = true)
    (h : ∀ s₁, InCallC s s.heap.objs.size (bindL (envOfC qual scope s.heap.objs.size f cdv).kindOf binds fun _ => none) (cellsFrom (s.heap.objs.size + 1) scope.names [])
        (bindC (envOfC qual scope s.heap.objs.size f cdv).kindOf binds fun _ => none) s₁ →
      wpAny (model prog w) (A.deeper (envOfC qual scope s.heap.objs.size f cdv)) (execs body (envOfC qual scope s.heap.objs.size f cdv))
        (fun fl s' => R (.ok (.ret (match fl with | .ret v => v | _ => .none))) s')
        (fun e s' => wpAny (model prog w) (A.deeper (envOfC qual scope s.heap.objs.size f cdv)) (leaving (envOfC qual scope s.heap.objs.size f cdv) e) (fun _ s'' => R (.error e) s'') (fun e' s'' => R (.error e') s'') s') s₁)
    (hco : scope.isCoroutine = false) (hgen : scope.isGenerator = false) (hk : scope.kind = .function) : codeAny (model prog w) A (.call (.ref f) args) R s := by
  refine codeAny_call_function hroom (X _ _ ho) rfl hco hgen rfl (codeRec_of X hcd) (hbind _ _ _ _ ?_)
  refine wpAny_newFunctionEnv_cells hk (kindsX hkind _) fun env he s₁ x => ?_
  subst he
  exact ⟨hlim.keeps x.toInCall.keep, codeAny_func (h s₁ x)⟩

/-- C(..): dict at size, instance at size + 1, then __init__ -/
theorem make_obj {R : Result → Shared → Prop} {C fI : Addr} {rest : List Value} {kw : List (Str × Value)}
    (X : K.In s.heap) (hm : makesIn K C = true) (hi : findIn K (.ref C) "__init__" = some (some (.ref fI))) (hf : isFn K (.ref fI) = true)
    (h : codeAny (model prog w) (A.under (.builtin "type.__call__" ⟨.ref C :: rest, kw⟩)) (.call (.ref fI) ⟨.ref (s.heap.objs.size + 1) :: rest, kw⟩) (InitBack (s.heap.objs.size + 1) R)
      { s with heap := (s.heap.push emptyDict).push (instObj C s.heap.objs.size) }) : codeAny (model prog w) A (.call (.ref C) ⟨rest, kw⟩) R s := by
  obtain ⟨hh, g, d, t, os⟩ := s
  exact make_core (makes_of X hm) (looks_findIn X hi) (fun self => bind_fn X self (beq_iff_eq.mp hf)) (.inl rfl) h

/-- x.name where the instance's dict holds the name and the class does not -/
theorem get_field {x C : Addr} {ox : Obj} {es : List DictEntry} {n : Nat} {name : Str} {expr : Bool} {v : Value} {Q : Value → Shared → Prop}
    (X : K.In s.heap) (I : PySem.W.InstAt s.heap x ox C (some (dictOf es n))) (hg : plainGet K C name = true) (hh : hasDictIn K C = true) (ha : findIn K (.ref C) name = some none)
    (hl : getL name es = some (some v)) (hv : handedIn v = true) (h : Q v { s with toks := s.toks + 1 }) : wpAny (model prog w) A (getAttr (.ref x) name expr) Q E s :=
  get_value X I (plainGet_of hg).1 (findObj_own hh ha rfl hl) hv h

/-- x.m(..): the method found in the class -/
theorem get_method {x C f : Addr} {ox : Obj} {es : List DictEntry} {n : Nat} {name : Str} {pl : Sem Bool} {Q : Value × List Value → Shared → Prop}
    (X : K.In s.heap) (I : PySem.W.InstAt s.heap x ox C (some (dictOf es n))) (hg : plainGet K C name = true) (hf : findIn K (.ref C) name = some (some (.ref f))) (ht : isFn K (.ref f) = true)
    (hl : getL name es = some none) (h : Q (.ref f, [.ref x]) s) : wpAny (model prog w) A (getMethod (.ref x) name pl) Q E s :=
  method_fn X I (plainGet_of hg).1 (plainGet_of hg).2 hf (beq_iff_eq.mp ht) (by show (lookIn name (dictOf es n)).map _ = _; rw [lookIn_dict, hl]; rfl) h

/-! the whole heap as the ledger: makes every rule that writes through a ledger a rule over any heap -/
def noObjs (h : Heap) : Heap := { h with objs := #[] }
theorem noObjs_get (h : Heap) (b : Addr) : (noObjs h).get? b = none := by
  cases e : (noObjs h).get? b with
  | none => rfl
  | some o => exact absurd (Heap.lt_size e) (Nat.not_lt_zero _)
def ledger (h : Heap) (L d : Addr) : List (Addr × Obj) := (List.range h.objs.size).filterMap fun a => if a = L ∨ a = d then none else (h.get? a).map fun o => (a, o)
theorem mem_ledger {h : Heap} {L d a : Addr} {o : Obj} : (a, o) ∈ ledger h L d ↔ a ≠ L ∧ a ≠ d ∧ h.get? a = some o := by
  unfold ledger
  rw [List.mem_filterMap]
  constructor
  · rintro ⟨b, _, e⟩
    split at e
    · cases e
    · rename_i hb
      obtain ⟨o', ho, e'⟩ := Option.map_eq_some_iff.mp e
      cases e'
      exact ⟨fun q => hb (.inl q), fun q => hb (.inr q), ho⟩
  · rintro ⟨n1, n2, ho⟩
    refine ⟨a, List.mem_range.mpr (Heap.lt_size ho), ?_⟩
    rw [if_neg (show ¬ (a = L ∨ a = d) from fun q => q.elim n1 n2), ho] <;> rfl
theorem news_ledger {h : Heap} {L d : Addr} {od : Obj} (hne : d ≠ L) (ho : h.get? d = some od) : News (noObjs h) L h ([] ++ (d, od) :: ledger h L d) := by
  rintro ⟨a, o⟩ hp
  rcases List.mem_cons.mp hp with e | hp
  · cases e
    exact ⟨ho, hne, noObjs_get _ _⟩
  · obtain ⟨n1, n2, e⟩ := mem_ledger.mp hp
    exact ⟨e, n1, noObjs_get _ _⟩
theorem fr_all {h : Heap} {L : Addr} {m : Str → Option Value} (n : h.Ns L m) : Fr (noObjs h) L h m :=
  ⟨n, fun b o e => (by rw [noObjs_get] at e; cases e), Nat.zero_le _⟩
/-- Upd of the head entry (for append_K, setItem_K ..) -/
theorem upd_ledger {h : Heap} {L d : Addr} {o o' : Obj} : Upd d o o' ((d, o) :: ledger h L d) ((d, o') :: ledger h L d) :=
  .head fun ⟨_, _⟩ hp => (mem_ledger.mp hp).2.1

/-- x.name = v over any heap: L is any namespace of the heap (the frame's, say): its map stays, its object is not told; all else but the dict stays -/
theorem set_field {x C dx L : Addr} {ox : Obj} {m : Str → Option Value} {es es' : List DictEntry} {n n' : Nat} {name : Str} {v : Value} {Q : Unit → Shared → Prop}
    (X : K.In s.heap) (I : PySem.W.InstAt s.heap x ox C (some (dictOf es n))) (hd : ox.dict = some dx) (hL : s.heap.Ns L m) (hne : dx ≠ L)
    (hs : findIn K (.ref C) "__setattr__" = some (some (.builtin "object.__setattr__"))) (hp : plainOver K C = true) (ht : takerIn K C name = some none) (hh : hasDictIn K C = true) (hl : (getL name es).isSome = true)
    (e : (putL name (PyData.keyHash w.params name) (.str name (s.toks + 1)) v es, putN name es n) = (es', n')) (hz : es'.length ≤ 1000)
    (h : ∀ h' : Heap, h'.Ns L m → h'.get? dx = some (dictOf es' n') → (∀ b o, b ≠ dx → b ≠ L → s.heap.get? b = some o → h'.get? b = some o) → Q () { s with heap := h', toks := s.toks + 2 }) :
    wpAny (model prog w) A (setAttr (.ref x) name v) Q E s := by
  obtain ⟨e1, e2⟩ := Prod.mk.inj e
  have hdx : s.heap.get? dx = some (dictOf es n) := by
    have := I.dict
    rw [hd] at this
    exact this
  refine set_plain X I hs (osa_dict (s := { s with toks := s.toks + 1 }) (h₀ := noObjs s.heap) (L := L) (m := m) (od := dictOf es n) (od' := dictOf es' n') (es := es') (n := n') (pre := []) (post := ledger s.heap L dx)
    (fr_all hL) (news_ledger hne hdx) X I hd hp ht hh hl (fun _ q => nomatch q) (fun ⟨_, _⟩ q => (mem_ledger.mp q).2.1) (by rw [putName_dict, e1, e2]) rfl hz fun h' F' N' => ?_)
  exact h h' F'.ns (N'.get (List.Mem.head _)) fun b o n1 n2 ho => N'.get (List.Mem.tail _ (mem_ledger.mpr ⟨n2, n1, ho⟩))
end
end Att

namespace L2
open PySem PySem.Spec PyProof.Rows

theorem vals_ints : ∀ {vs : List Value} {ns : List Int}, IntsAre vs ns → Vals (ns.map V.int) vs
  | _, _, .nil => .nil
  | _, _, .cons n t h => .cons ⟨t, rfl⟩ (vals_ints h)

/-- nothing is tracked but the script, known to the object (or it is an object of the module) -/
def Only (H : Hp) : Prop := ∀ b, H b = none ∨ ∃ o xs, H b = some (.frz o (.lst xs))

/-- THE HEAD: the law's promise, at the heap behind the top. F, the promise of the law's def, may use that base is part of the heap (so K.In base, base.Ns mainGlobals mg stand in Mod) -/
theorem law_call {P : Program} {w : World} {K : PySem.W.Frag} {mg mb : Str → Option Value} {CX : CXT} {k : Nat} {fa a : Addr} {fd : FuncData} {x : Str} {sp : Sp} {s₁ : Shared} {vs : List Value} {ns : List Int}
    (KX : K.In s₁.heap) (hns : s₁.heap.Ns mainGlobals mg) (hb : s₁.heap.Ns builtinsNs mb) (hbb : ∀ x : Str, x ≠ "__name__" → mb x = bootBuiltins x) (hlim : s₁.heap.NoLimit) (hg : s₁.gens = #[])
    (ha : s₁.heap.get? a = some { cls := .type "list", data := .seq vs.toArray }) (hi : IntsAre vs ns) (hl : ns.length ≤ sizeLine) (hr : Room k callerA)
    (F : ∀ base : Heap, K.In base → base.Ns mainGlobals mg → FnOk P w K mg base CX k fa fd [x] sp) (hbind : ∀ (s : Shared) (u : Value), BindsTo s fd ⟨[u], []⟩ [(x, u)])
    (hsp : ∀ H : Hp, Only H → SqL K H a (ns.map V.int) → sp [.ref a] H (fun v _ => v = .bl true) fun _ _ _ => False)
    (hCX : ∀ H e s', CX [] H s₁ (fun _ _ _ => False) e s' → False) :
    codeAny (model P w) callerA (.call (.ref fa) ⟨[.ref a], []⟩) (fun r s' => r = .ok (.ret (.bool true)) ∧ OldK s₁.heap s'.heap ∧ s'.os = s₁.os ∧ AllBare s'.gens) s₁ := by
  have rv := vals_ints hi
  have lenV := hi.length
  -- from an abstract heap in which nothing but the script may be tracked
  have core : ∀ H : Hp, Only H → SqL K H a (ns.map V.int) → HOk P w H s₁.heap → (∀ b, H b ≠ none → b = a) → (H a ≠ none → K.lookup a = none) →
      codeAny (model P w) callerA (.call (.ref fa) ⟨[.ref a], []⟩) (fun r s' => r = .ok (.ret (.bool true)) ∧ OldK s₁.heap s'.heap ∧ s'.os = s₁.os ∧ AllBare s'.gens) s₁ := by
    intro H hO hS hok hA hK
    have base_of : ∀ {b : Addr} {o : Obj}, s₁.heap.get? b = some o → H b = none → (hidT s₁.heap H).get? b = some o := fun e n => hidT_get e n
    have noA : ∀ {b : Addr} {o : Obj} {es : Array DictEntry} {ep : Nat}, s₁.heap.get? b = some o → o.data = .dict es ep → H b = none := fun {b o es ep} e d => by
      cases q : H b with
      | none => rfl
      | some u =>
        have e' : b = a := hA b (by rw [q]; simp)
        subst e'
        rw [ha] at e; cases e
        have d' : Data.seq vs.toArray _ = Data.dict es ep := d
        cases d'
    have nsK : ∀ {b : Addr} {m : Str → Option Value}, s₁.heap.Ns b m → (hidT s₁.heap H).Ns b m := fun {b m} ⟨o, es, ep, e, d, r⟩ => ⟨o, es, ep, base_of e (noA e d), d, r⟩
    have hKb : K.In (hidT s₁.heap H) := fun b o e => base_of (KX b o e) (by
      cases q : H b with
      | none => rfl
      | some u =>
        have e' : b = a := hA b (by rw [q]; simp)
        subst e'
        rw [hK (by rw [q]; simp)] at e; cases e)
    have hM : Mod K mg (hidT s₁.heap H) := ⟨hKb, nsK hns, ⟨mb, nsK hb, hbb⟩, let ⟨mc, h1, h2⟩ := hlim; ⟨mc, nsK h1, h2⟩⟩
    have e0 : Env0 P w K mg (hidT s₁.heap H) callerA [] s₁ H := ⟨rfl, hM, fun b o e => of_hidT e, Nat.le_of_eq (hidT_size _ _), trivial, fun b hb => absurd (show b ∈ ([] : List Addr) from hb) (by simp), hok, .of_eq hg⟩
    refine codeAny_mono ((F _ hKb (nsK hns)).run callerA [] s₁ H ⟨[.ref a], []⟩ [.ref a] [.ref a] _ _ hr e0 (hbind s₁ (.ref a)) (.cons rfl .nil) (hsp H hO hS)) fun r s' h => ?_
    cases r with
    | error e => exact (hCX H e s' h).elim
    | ok fl =>
      cases fl with
      | next => exact False.elim h
      | brk => exact False.elim h
      | cont => exact False.elim h
      | ret u =>
        obtain ⟨v, H', os, bare, un, hok', r', q⟩ := h
        have q' : v = .bl true := q
        subst q'
        obtain rfl : u = Value.bool true := r'
        refine ⟨rfl, OldK.of_keep fun b o e => ?_, os, bare⟩
        cases q : H b with
        | none => exact un.keep b o e q (by intro z; exact absurd (show b ∈ ([] : List Addr) from z) (by simp)) (by simp)
        | some u =>
          rcases hO b with z | ⟨ob, xs, z⟩
          · rw [q] at z; cases z
          · have z2 := un.frzs b ob _ z
            obtain ⟨e1, _⟩ := hok b _ z
            obtain ⟨e2, _⟩ := hok' b _ z2
            rw [e] at e1; cases e1
            exact e2
  cases hk : K.lookup a with
  | some o =>
    -- the script is one of the module's own objects
    have e := KX a o hk
    rw [ha] at e
    cases e
    refine core (fun _ => none) (fun _ => .inl rfl) (.inr ⟨_, vs.toArray, _, hk, rfl, rfl, rfl, by rw [List.size_toArray, lenV]; exact hl, by simpa using rv⟩) (fun b u z => by have z' : (none : Option HO) = some u := z; cases z') (fun b z => absurd rfl z) fun z => absurd rfl z
  | none =>
    refine core (fun b => if b = a then some (.frz { cls := .type "list", data := .seq vs.toArray } (.lst (ns.map V.int))) else none) (fun b => ?_) (.inl (.inr ⟨{ cls := .type "list", data := .seq vs.toArray }, if_pos rfl⟩)) (fun b u z => ?_) (fun b z => ?_) fun _ => hk
    · by_cases hb : b = a
      · exact .inr ⟨_, _, if_pos hb⟩
      · exact .inl (if_neg hb)
    · by_cases hb : b = a
      · have z' := (if_pos hb).symm.trans z
        cases z'
        subst hb
        exact ⟨ha, by rw [List.length_map]; exact hl, vs, _, rv, ha⟩
      · have z' := (if_neg hb).symm.trans z
        cases z'
    · by_cases hb : b = a
      · exact hb
      · exact absurd (if_neg hb) z
end L2

namespace L2
open PySem PySem.Spec PyProof.Rows

abbrev KOf {K : PySem.W.Frag} {h : Heap} (_ : K.In h) : PySem.W.Frag := K

/-- the goal that k_head leaves (case hc), from the law's promise. F gives the function object fd (K's own) once, then the promise over every base -/
theorem walk_of {l : PySem.W.OpenLaw} {n k : Nat} {q : Program} {loose : List Str} {XP : (Str → Option Value) → Heap → Prop} {YP : World → Heap → Prop} {d : DefRec} {K : Params → PySem.W.Frag} {CX : World → CXT} {sp : World → Sp} {x : Str}
    (hn : l.most = some n) (hn2 : n ≤ sizeLine) (hdf : d.params.defaults = []) (hr : Room k callerA)
    (hY : ∀ (w : World) (h : Heap), YP w h → (K w.params).In h)
    (F : ∀ (w : World) (mg : Str → Option Value) (fa : Addr) (h : Heap), (K w.params).In h → h.Ns mainGlobals mg → mg d.name = some (.ref fa) →
      ∃ fd : FuncData, (∀ (s : Shared) (u : Value), BindsTo s fd ⟨[u], []⟩ [(x, u)]) ∧
        ∀ base : Heap, (K w.params).In base → base.Ns mainGlobals mg → FnOk l.prog w (K w.params) mg base (CX w) k fa fd [x] (sp w))
    (hsp : ∀ (w : World) (H : Hp) (a : Addr) (ns : List Int), ns.length ≤ n → Only H → SqL (K w.params) H a (ns.map V.int) → sp w [.ref a] H (fun v _ => v = .bl true) fun _ _ _ => False)
    (hCX : ∀ (w : World) (H : Hp) (s : Shared) (e : Value) (s' : Shared), CX w [] H s (fun _ _ _ => False) e s' → False) :
    PySem.W.WalkO q loose XP YP l.row.toRowW d [] (fun f vs => PySem.call f vs) := by
  refine Att.attach_call hn hdf fun w s₀ s₁ mg mb fa o pm cd doc a vs ns G Y ho hd hcd hmg hobj hints hlen hg => ?_
  have KX := hY w _ Y
  obtain ⟨fd, hb, hF⟩ := F w mg fa _ KX G.T.g hmg
  exact law_call KX G.T.g G.T.b G.T.builtins G.T.nolimit hg hobj hints (Nat.le_trans hlen hn2) hr hF hb (fun H hO hS => hsp w H a ns hlen hO hS) fun H e s' => hCX w H s₁ e s'
/-- the same where the promise hangs on the written part alone: (sp := My.sp_law), no hole under a binder -/
theorem walk_ofK {l : PySem.W.OpenLaw} {n k : Nat} {q : Program} {loose : List Str} {XP : (Str → Option Value) → Heap → Prop} {YP : World → Heap → Prop} {d : DefRec} {K : Params → PySem.W.Frag} {CX : CXT} {sp : PySem.W.Frag → Sp} {x : Str}
    (hn : l.most = some n) (hn2 : n ≤ sizeLine) (hdf : d.params.defaults = []) (hr : Room k callerA)
    (hY : ∀ (w : World) (h : Heap), YP w h → (K w.params).In h)
    (F : ∀ (w : World) (mg : Str → Option Value) (fa : Addr) (h : Heap), (K w.params).In h → h.Ns mainGlobals mg → mg d.name = some (.ref fa) →
      ∃ fd : FuncData, (∀ (s : Shared) (u : Value), BindsTo s fd ⟨[u], []⟩ [(x, u)]) ∧
        ∀ base : Heap, (K w.params).In base → base.Ns mainGlobals mg → FnOk l.prog w (K w.params) mg base CX k fa fd [x] (sp (K w.params)))
    (hsp : ∀ (K : PySem.W.Frag) (H : Hp) (a : Addr) (ns : List Int), ns.length ≤ n → Only H → SqL K H a (ns.map V.int) → sp K [.ref a] H (fun v _ => v = .bl true) fun _ _ _ => False)
    (hCX : ∀ (H : Hp) (s : Shared) (e : Value) (s' : Shared), CX [] H s (fun _ _ _ => False) e s' → False) :
    PySem.W.WalkO q loose XP YP l.row.toRowW d [] (fun f vs => PySem.call f vs) :=
  walk_of (K := K) (CX := fun _ => CX) (sp := fun w => sp (K w.params)) hn hn2 hdf hr hY F (fun w H a ns h1 h2 h3 => hsp (K w.params) H a ns h1 h2 h3) fun _ H s e s' => hCX H s e s'
end L2

/- THE LAST THEOREM (shape; LID, My.* are yours):
   My.Adr: a structure of the addresses that your layer names (classes, functions); My.Txt K t: a structure (Prop) of the equations over K;
   My.txt_mk : {K} {implicit addresses ..} (e1 : nsIn K mainGlobals "law" = some (some (.ref f))) (e2 : K.lookup f = some ⟨oc, od, .func (fnOf "law" "law" params body scope dV kV doc pm an cdv ct), sl⟩) (e3 : codeIn K cdv "law" = true) .. : ∃ t, My.Txt K t

set_option maxRecDepth 100000 in
set_option maxHeartbeats 0 in
theorem PySem.Challenge.cw_LID_holds : PySem.Challenge.rw_LID.Holds := by
  w_on; o_law; k_head; (case hw => w_witness2)
  k_fill
  refine L2.walk_of (l := PySem.Challenge.rw_LID) (n := 63) (k := 40) (x := "script") (CX := fun w => ..) (sp := fun _ => My.sp_law) rfl (by decide) rfl ⟨rfl, by decide, by decide⟩ (fun w h Y => PySem.W.kIn_of Y) ?F ?S ?C
  case F =>
    intro w mg fa h KX G hmg
    have T : ∃ t, My.Txt (L2.KOf KX) t := by
      dsimp only [L2.KOf]                          -- K must stand as «<heap const> w.params» for k_is
      refine' My.txt_mk ?e1 ?e2 ?e3 ..
      (case e1 => PySem.W.k_is)                    -- in the order: a name -> its address -> its object -> its parts
      (case e2 => PySem.W.k_is)
      ..
    obtain ⟨t, T⟩ := T
    have e0 := hmg.symm.trans (PySem.W.mg_of KX G T.law)
    cases e0                                       -- fa is the law's own address
    exact ⟨_, fun s u => .of_eq rfl, fun base kb nb => My.law_fn T kb nb⟩     -- if «.of_eq rfl» comes too early: refine' ⟨_, ?b, fun base kb nb => My.law_fn T kb nb⟩; exact fun s u => .of_eq rfl
  case S => exact fun w H a ns hl hO hS => ..
  case C => exact ..
(the tactic k_is has no namespace: write k_is) -/

/-! SHORT WORDS over the layer: a def of the text, its body, what a loop and a test want. -/
namespace L2
open PySem PySem.Spec PyProof.Rows

/-! ### the text by places -/
/-- the j-th statement of a class's body -/
def inClass (s : Stmt) (j : Nat) : Stmt := match s with
  | .ClassDef _ _ _ body _ _ _ _ _ _ _ => body.getD j (.Pass ⟨0, 0, 0, 0⟩)
  | _ => .Pass ⟨0, 0, 0, 0⟩
def defArgs (s : Stmt) : Arguments := match s with
  | .FunctionDef _ a _ _ _ _ _ _ _ _ => a
  | _ => { posonlyargs := [], args := [], vararg := none, kwonlyargs := [], kw_defaults := [], kwarg := none, defaults := [] }
def defBody (s : Stmt) : List Stmt := match s with
  | .FunctionDef _ _ b _ _ _ _ _ _ _ => b
  | _ => []
def defScope (s : Stmt) : Scope := match s with
  | .FunctionDef _ _ _ _ _ _ sc _ _ _ => sc
  | _ => { kind := .function, names := [], isGenerator := false, isCoroutine := false }

/-! ### no exception leaves a def -/
abbrev CX0 : CXT := fun _ _ _ _ _ _ => False
abbrev E0 : XK := fun _ _ _ => False
theorem pass0 {X : Cx} : Passes CX0 X E0 := fun _ _ _ _ _ _ _ h => h.elim

/-! ### a def (or method) of the text as it stands behind the top -/
structure Fun (K : PySem.W.Frag) (x qual : Str) (st : Stmt) (f : Addr) (fd : FuncData) : Prop where
  ex : ∃ (oc : Value) (od : Option Addr) (kV doc pm : Value) (an : Option Addr) (cdv ct : Value) (osl : Array (Option Value)),
    fd = PySem.W.fnOf x qual (defArgs st) (defBody st) (defScope st) .none kV doc pm an cdv ct ∧ K.lookup f = some ⟨oc, od, .func fd, osl⟩ ∧ PySem.W.codeIn K cdv qual = true
  kp : PySem.W.keepIn K (.ref f) = true
section
variable {P : Program} {w : World} {K : PySem.W.Frag} {mg : Str → Option Value} {base : Heap}
/-- THE RULE for a def: its body as a term of rules, and the reading of that term -/
theorem Fun.ok {x qual : Str} {st : Stmt} {f : Addr} {fd : FuncData} {N ps : List Str} {k : Nat} {sp : Sp} (F : Fun K x qual st f fd) (S : FnScope N ps (defScope st)) (len : ∀ vs H Q E, sp vs H Q E → vs.length = ps.length)
    (hbody : ∀ (cdv : Value) (A : Around) (outer : List Env) (s : Shared) (H : Hp) (vs : List V) (Q : VK) (E : XK), Room k (A.deeper (envOfC qual (defScope st) s.heap.objs.size f cdv)) → sp vs H Q E →
      ∃ t, PSs (cxOf CX0 P w K mg base N qual (defScope st) f cdv A outer s H E).nox (defBody st) t ∧ t { nx := fun _ H' => Q .non H', rt := Q } (start N vs) H) : FnOk P w K mg base CX0 (k + 1) f fd ps sp := by
  obtain ⟨oc, od, kV, doc, pm, an, cdv, ct, osl, rfl, lk, hcd⟩ := F.ex
  refine fn_of lk hcd S len fun A outer s H vs Q E hr hsp => ?_
  obtain ⟨t, h, q⟩ := hbody cdv A outer s H vs Q E hr hsp
  exact ⟨t, h.nox, q⟩
/-- how its arguments bind (no defaults): h is «fun _ _ _ _ _ _ us hl => match us, hl with | [_, _], _ => rfl», one _ a parameter -/
theorem Fun.binds {x qual : Str} {st : Stmt} {f : Addr} {fd : FuncData} {ps : List Str} (F : Fun K x qual st f fd)
    (h : ∀ (kV doc pm : Value) (an : Option Addr) (cdv ct : Value) (us : List Value), us.length = ps.length → bindArgs (PySem.W.fnOf x qual (defArgs st) (defBody st) (defScope st) .none kV doc pm an cdv ct) ⟨us, []⟩ = pure (ps.zip us)) : Binds K fd ps [] := by
  obtain ⟨oc, od, kV, doc, pm, an, cdv, ct, osl, rfl, lk, hcd⟩ := F.ex
  exact .all (h kV doc pm an cdv ct)
theorem fun_mk {x qual : Str} {st : Stmt} {f : Addr} {oc : Value} {od an : Option Addr} {osl : Array (Option Value)} {kV doc pm cdv ct : Value} (l : K.lookup f = some ⟨oc, od, .func (PySem.W.fnOf x qual (defArgs st) (defBody st) (defScope st) .none kV doc pm an cdv ct), osl⟩)
    (c : PySem.W.codeIn K cdv qual = true) (k : PySem.W.keepIn K (.ref f) = true) : Fun K x qual st f (PySem.W.fnOf x qual (defArgs st) (defBody st) (defScope st) .none kV doc pm an cdv ct) := ⟨⟨oc, od, kV, doc, pm, an, cdv, ct, osl, rfl, l, c⟩, k⟩
end
theorem hu_of {A : Around} {k : Nat} (hr : Room k A) : A.units + 1 < cLine := Nat.lt_of_le_of_lt (Nat.add_le_add_left (by decide : 1 ≤ 64) _) hr.units
theorem small1000 {n : Nat} (h : n ≤ 1000) : n < sizeLine := Nat.lt_of_le_of_lt h (by decide)

/-! ### expressions in short: the name that stands in the i-th slot -/
section
variable {X : Cx}
theorem pv (i : Nat) {x : Str} {pos : Pos} (hN : X.N[i]? = some x := by rfl) (hv : Vis X.env.scope x := by first | exact Or.inl rfl | exact Or.inr (Or.inl rfl) | exact Or.inr (Or.inr rfl)) (hd : (x == ("__debug__" : Str)) = false := by decide)
    (hcd : (x == ("__classdict__" : Str)) = false := by decide) : PE X (.Name x pos) (tVar i) := pe_var hN hv hd hcd
end

/-! ### tests -/
theorem iteF {A B : Prop} (h : B) : if false = true then A else B := by
  rw [if_neg Bool.false_ne_true]
  exact h
theorem iteT {A B : Prop} (h : A) : if true = true then A else B := by
  rw [if_pos rfl]
  exact h
theorem ite2 {c A B : Prop} [Decidable c] (h1 : c → A) (h2 : ¬ c → B) : if c then A else B := by
  by_cases h : c
  · rw [if_pos h]
    exact h1 h
  · rw [if_neg h]
    exact h2 h
theorem iteNS {c A B : Prop} [Decidable c] (hc : c) (h : B) : if (!decide c) = true then A else B := by
  rw [decide_eq_true hc]
  exact iteF h

/-! ### heaps -/
/-- all that was tracked is as it was -/
def Same (H H' : Hp) : Prop := ∀ b o, H b = some o → H' b = some o
theorem Same.refl (H : Hp) : Same H H := fun _ _ h => h
theorem Same.trans {H H1 H2 : Hp} (a : Same H H1) (b : Same H1 H2) : Same H H2 := fun c o h => b c o (a c o h)
theorem Same.free {H H' : Hp} (e : Same H H') {l : Addr} (h : H' l = Option.none) : H l = Option.none := by
  cases q : H l with
  | none => rfl
  | some o =>
    rw [e l o q] at h
    cases h
theorem Same.seq {K : PySem.W.Frag} {H H' : Hp} {a : Addr} {xs : List V} (e : Same H H') (h : SqL K H a xs) : SqL K H' a xs := by
  rcases h with (h | ⟨o, h⟩) | h
  · exact .inl (.inl (e _ _ h))
  · exact .inl (.inr ⟨o, e _ _ h⟩)
  · exact .inr h

end L2


set_option Elab.async false
set_option linter.all false
set_option maxRecDepth 100000
namespace L2
open PySem PySem.Spec PyProof.Rows

/-- a def by its name, ready to be called -/
structure Fn (P : Program) (w : World) (K : PySem.W.Frag) (mg : Str → Option Value) (base : Heap) (x : Str) (ps : List Str) (k : Nat) (sp : Sp) : Prop where
  ex : ∃ (f : Addr) (fd : FuncData), FnOk P w K mg base CX0 k f fd ps sp ∧ mg x = some (.ref f) ∧ PySem.W.keepIn K (.ref f) = true ∧ Binds K fd ps []
section
variable {X : Cx} {x : Str} {ps : List Str} {k k' : Nat} {sp : Sp} {p pos : Pos} {e : Expr} {es : List Expr} {t : TA}
theorem pe_fn (F : Fn X.prog X.w X.K X.mg X.base x ps k sp) (hr : Room k' X.A) (hk : k ≤ k') (hg : Gl X x) (ha : PA X (e :: es) t) (hdb : (x == ("__debug__" : Str)) = false := by decide)
    (he : starEach (e :: es) X.env = (false, eval e X.env) :: starEach es X.env := by rfl) (hpl : (backTo pos (starEach es X.env)).any (·.1) = false := by rfl) :
    PE X (.Call (.Name x p) (e :: es) [] pos) (tCall sp [] E0 t) := by
  obtain ⟨f, fd, G, hm, hkp, hb⟩ := F.ex
  exact pe_call G (hr.mono hk) hg hm hkp hb .nil pass0 ha hdb he hpl
end

/-! ### built-in names -/
theorem bb_list : bootBuiltins "list" = some (.type "list") := by decide +kernel
theorem bb_tuple : bootBuiltins "tuple" = some (.type "tuple") := by decide +kernel
theorem bb_bool : bootBuiltins "bool" = some (.type "bool") := by decide +kernel
theorem bb_int : bootBuiltins "int" = some (.type "int") := by decide +kernel
theorem bb_str : bootBuiltins "str" = some (.type "str") := by decide +kernel
theorem bb_dict : bootBuiltins "dict" = some (.type "dict") := by decide +kernel
theorem bb_set : bootBuiltins "set" = some (.type "set") := by decide +kernel
theorem bb_range : bootBuiltins "range" = some (.type "range") := by decide +kernel
theorem bb_enumerate : bootBuiltins "enumerate" = some (.type "enumerate") := by decide +kernel
theorem bb_zip : bootBuiltins "zip" = some (.type "zip") := by decide +kernel
theorem bb_reversed : bootBuiltins "reversed" = some (.type "reversed") := by decide +kernel
theorem bb_bytes : bootBuiltins "bytes" = some (.type "bytes") := by decide +kernel
theorem bb_frozenset : bootBuiltins "frozenset" = some (.type "frozenset") := by decide +kernel
theorem bb_len : bootBuiltins "len" = some (.builtin "len") := by decide +kernel
theorem bb_min : bootBuiltins "min" = some (.builtin "min") := by decide +kernel
theorem bb_max : bootBuiltins "max" = some (.builtin "max") := by decide +kernel
theorem bb_sum : bootBuiltins "sum" = some (.builtin "sum") := by decide +kernel
theorem bb_abs : bootBuiltins "abs" = some (.builtin "abs") := by decide +kernel
theorem bb_all : bootBuiltins "all" = some (.builtin "all") := by decide +kernel
theorem bb_any : bootBuiltins "any" = some (.builtin "any") := by decide +kernel
theorem bb_sorted : bootBuiltins "sorted" = some (.builtin "sorted") := by decide +kernel
theorem bb_isinstance : bootBuiltins "isinstance" = some (.builtin "isinstance") := by decide +kernel
theorem bb_ord : bootBuiltins "ord" = some (.builtin "ord") := by decide +kernel
theorem bb_repr : bootBuiltins "repr" = some (.builtin "repr") := by decide +kernel
theorem bb_divmod : bootBuiltins "divmod" = some (.builtin "divmod") := by decide +kernel

/-! ### isinstance with a built-in class -/
section
variable {X : Cx}
def rIsi (K : PySem.W.Frag) : List V → Hp → VK → Prop := fun xs H Q => ∃ x n t b, xs = [x, .ty n] ∧ TyOf K H x t ∧ PySem.W.kitOne K t (.type n) = some b ∧ Q (.bl b) H
theorem call_isi : CallR X (.builtin "isinstance") (rIsi X.K) := by
  intro pins s σ H xs us Q I r h
  obtain ⟨x, n, t, b, rfl, ty, e, q⟩ := h
  cases r with
  | cons r1 r =>
    cases r with
    | cons r2 r =>
      cases r
      obtain rfl := (show _ = Value.type n from r2)
      exact isinst_ok I r1 ty e fun tk => ⟨.bl b, H, I.tok _, rfl, q⟩
end
example (K : PySem.W.Frag) : PySem.W.kitOne K (.type "int") (.type "list") = some false := by rfl
example (K : PySem.W.Frag) : PySem.W.kitOne K (.type "int") (.type "int") = some true := by rfl
example (K : PySem.W.Frag) : PySem.W.kitOne K (.type "bool") (.type "int") = some true := by rfl
example (K : PySem.W.Frag) : PySem.W.kitOne K (.type "list") (.type "tuple") = some false := by rfl
example (K : PySem.W.Frag) : PySem.W.kitOne K (.type "NoneType") (.type "str") = some false := by rfl
end L2


set_option Elab.async false
set_option linter.all false
set_option maxRecDepth 100000
namespace L2
open PySem PySem.Spec PyProof.Rows

/-! ### data as trees -/
inductive D where
  | non | bl (b : Bool) | int (i : Int) | str (x : Str) | lst (xs : List D) | tup (xs : List D)
mutual
/-- v stands for the tree d; φ holds of all its addresses -/
def Rep (φ : Addr → Prop) (H : Hp) : D → V → Prop
  | .non, v => v = .non
  | .bl b, v => v = .bl b
  | .int i, v => v = .int i
  | .str x, v => v = .str x
  | .lst xs, v => ∃ a vs, v = .ref a ∧ φ a ∧ H a = some (.lst vs) ∧ Reps φ H xs vs
  | .tup xs, v => ∃ a vs, v = .ref a ∧ φ a ∧ H a = some (.tup vs) ∧ Reps φ H xs vs
def Reps (φ : Addr → Prop) (H : Hp) : List D → List V → Prop
  | [], vs => vs = []
  | d :: ds, vs => ∃ v r, vs = v :: r ∧ Rep φ H d v ∧ Reps φ H ds r
end
mutual
def D.dep : D → Nat
  | .lst xs => deps xs + 1
  | .tup xs => deps xs + 1
  | _ => 0
def deps : List D → Nat
  | [] => 0
  | d :: ds => max d.dep (deps ds)
end
mutual
/-- the longest row in it -/
def D.wid : D → Nat
  | .lst xs => max xs.length (wids xs)
  | .tup xs => max xs.length (wids xs)
  | _ => 0
def wids : List D → Nat
  | [] => 0
  | d :: ds => max d.wid (wids ds)
end
theorem wid_le : ∀ {ds : List D} {i : Nat} {d : D}, ds[i]? = some d → d.wid ≤ wids ds
  | [], i, d, e => by simp at e
  | c :: ds, 0, d, e => by
    simp at e; subst e
    simp only [wids]; omega
  | c :: ds, i + 1, d, e => by
    have := wid_le (ds := ds) (i := i) (d := d) (by simpa using e)
    simp only [wids]; omega
section
variable {X : Cx} {pins : List (Addr × Obj)} {σ : St} {H : Hp} {s : Shared}
theorem Reps.length {φ : Addr → Prop} {H : Hp} : ∀ {ds : List D} {vs : List V}, Reps φ H ds vs → ds.length = vs.length
  | [], vs, h => by
    have e : vs = [] := by simpa [Reps] using h
    subst e; rfl
  | d :: ds, vs, h => by
    simp only [Reps] at h
    obtain ⟨v, r, rfl, _, h⟩ := h
    simp [Reps.length h]
theorem Reps.get {φ : Addr → Prop} {H : Hp} : ∀ {ds : List D} {vs : List V} {i : Nat} {d : D}, Reps φ H ds vs → ds[i]? = some d → ∃ v, vs[i]? = some v ∧ Rep φ H d v
  | [], vs, i, d, h, e => by simp at e
  | c :: ds, vs, 0, d, h, e => by
    simp only [Reps] at h
    obtain ⟨v, r, rfl, h1, h⟩ := h
    simp at e; subst e
    exact ⟨v, rfl, h1⟩
  | c :: ds, vs, i + 1, d, h, e => by
    simp only [Reps] at h
    obtain ⟨v, r, rfl, h1, h⟩ := h
    simpa using Reps.get h (by simpa using e)
theorem dep_le : ∀ {ds : List D} {i : Nat} {d : D}, ds[i]? = some d → d.dep ≤ deps ds
  | [], i, d, e => by simp at e
  | c :: ds, 0, d, e => by
    simp at e; subst e
    simp only [deps]; omega
  | c :: ds, i + 1, d, e => by
    have := dep_le (ds := ds) (i := i) (d := d) (by simpa using e)
    simp only [deps]; omega
theorem all_true {n : Nat} : (List.range n).all (fun _ => true) = true := by simp
mutual
theorem Rep.mono {φ ψ : Addr → Prop} {H H' : Hp} (k : ∀ a o, φ a → H a = some o → H' a = some o) (p : ∀ a, φ a → ψ a) : ∀ {d : D} {v : V}, Rep φ H d v → Rep ψ H' d v
  | .non, v, h => by simpa [Rep] using h
  | .bl b, v, h => by simpa [Rep] using h
  | .int i, v, h => by simpa [Rep] using h
  | .str x, v, h => by simpa [Rep] using h
  | .lst xs, v, h => by
    simp only [Rep] at h ⊢
    obtain ⟨a, vs, e, f, h1, h2⟩ := h
    exact ⟨a, vs, e, p a f, k a _ f h1, Reps.mono k p h2⟩
  | .tup xs, v, h => by
    simp only [Rep] at h ⊢
    obtain ⟨a, vs, e, f, h1, h2⟩ := h
    exact ⟨a, vs, e, p a f, k a _ f h1, Reps.mono k p h2⟩
theorem Reps.mono {φ ψ : Addr → Prop} {H H' : Hp} (k : ∀ a o, φ a → H a = some o → H' a = some o) (p : ∀ a, φ a → ψ a) : ∀ {ds : List D} {vs : List V}, Reps φ H ds vs → Reps ψ H' ds vs
  | [], vs, h => by simpa [Reps] using h
  | d :: ds, vs, h => by
    simp only [Reps] at h ⊢
    obtain ⟨v, r, e, h1, h2⟩ := h
    exact ⟨v, r, e, Rep.mono k p h1, Reps.mono k p h2⟩
end
theorem Rep.same {φ : Addr → Prop} {H H' : Hp} {d : D} {v : V} (h : Rep φ H d v) (k : Same H H') : Rep φ H' d v := h.mono (fun a o _ e => k a o e) fun _ z => z
theorem Reps.same {φ : Addr → Prop} {H H' : Hp} {ds : List D} {vs : List V} (h : Reps φ H ds vs) (k : Same H H') : Reps φ H' ds vs := h.mono (fun a o _ e => k a o e) fun _ z => z
theorem Rep.any {φ : Addr → Prop} {H : Hp} {d : D} {v : V} (h : Rep φ H d v) : Rep (fun _ => True) H d v := h.mono (fun a o _ e => e) fun _ _ => trivial
theorem eqAt_of {φ : Addr → Prop} (I : Inv X pins σ H s) : ∀ (n : Nat) (A : Around) (d : D) (x y : V) (v u : Value), d.dep ≤ n → A.units + n < cLine → Rep φ H d x → Rep φ H d y → RelV x v → RelV y u → SeqAt.EqAt A s v u true := by
  intro n
  induction n with
  | zero =>
    intro A d x y v u hd hu hx hy rx ry
    cases d with
    | non =>
      simp only [Rep] at hx hy; subst hx; subst hy
      cases (show v = Value.none from rx); cases (show u = Value.none from ry)
      exact .same _
    | bl b =>
      simp only [Rep] at hx hy; subst hx; subst hy
      cases (show v = Value.bool b from rx); cases (show u = Value.bool b from ry)
      exact .same _
    | int i =>
      simp only [Rep] at hx hy; subst hx; subst hy
      obtain ⟨t, rfl⟩ := rx; obtain ⟨t', rfl⟩ := ry
      simpa using SeqAt.EqAt.int_int (A := A) (s := s) i t i t'
    | str z =>
      simp only [Rep] at hx hy; subst hx; subst hy
      obtain ⟨t, rfl⟩ := rx; obtain ⟨t', rfl⟩ := ry
      simpa using SeqAt.EqAt.str_str (A := A) (s := s) z t z t'
    | lst xs => simp [D.dep] at hd
    | tup xs => simp [D.dep] at hd
  | succ n ih =>
    intro A d x y v u hd hu hx hy rx ry
    cases d with
    | non =>
      simp only [Rep] at hx hy; subst hx; subst hy
      cases (show v = Value.none from rx); cases (show u = Value.none from ry)
      exact .same _
    | bl b =>
      simp only [Rep] at hx hy; subst hx; subst hy
      cases (show v = Value.bool b from rx); cases (show u = Value.bool b from ry)
      exact .same _
    | int i =>
      simp only [Rep] at hx hy; subst hx; subst hy
      obtain ⟨t, rfl⟩ := rx; obtain ⟨t', rfl⟩ := ry
      simpa using SeqAt.EqAt.int_int (A := A) (s := s) i t i t'
    | str z =>
      simp only [Rep] at hx hy; subst hx; subst hy
      obtain ⟨t, rfl⟩ := rx; obtain ⟨t', rfl⟩ := ry
      simpa using SeqAt.EqAt.str_str (A := A) (s := s) z t z t'
    | lst xs =>
      simp only [Rep] at hx hy
      obtain ⟨a, vs, rfl, _, ha, hvs⟩ := hx
      obtain ⟨b, ws, rfl, _, hb, hws⟩ := hy
      cases (show v = Value.ref a from rx); cases (show u = Value.ref b from ry)
      by_cases hab : a = b
      · subst hab; exact .same _
      obtain ⟨ia, ra, pa, _⟩ := I.list (SqL.of ha)
      obtain ⟨ib, rb, pb, _⟩ := I.list (SqL.of hb)
      have la := ra.length; have lb := rb.length
      have l1 := hvs.length; have l2 := hws.length
      have := SeqAt.RcAt.lists (A := A) (e := fun _ => true) pa.isList pb.isList (by simp; omega) (by omega) (fun j h1 h2 => ?_)
      · rw [all_true] at this
        exact .of_refs hab this
      · simp only [List.size_toArray] at h1 h2
        have hj : j < xs.length := by omega
        obtain ⟨v1, e1, q1⟩ := hvs.get (i := j) (d := xs[j]) (by simp [hj])
        obtain ⟨v2, e2, q2⟩ := hws.get (i := j) (d := xs[j]) (by simp [hj])
        obtain ⟨u1, f1, s1⟩ := ra.get e1
        obtain ⟨u2, f2, s2⟩ := rb.get e2
        have g1 : ia.toArray[j] = u1 := by
          have := List.getElem?_eq_some_iff.mp f1; obtain ⟨_, z⟩ := this; simpa using z
        have g2 : ib.toArray[j] = u2 := by
          have := List.getElem?_eq_some_iff.mp f2; obtain ⟨_, z⟩ := this; simpa using z
        rw [g1, g2]
        have hdj := dep_le (ds := xs) (i := j) (d := xs[j]) (by simp [hj])
        simp only [D.dep] at hd
        exact ih A.in1 _ _ _ _ _ (by omega) (by show A.units + 1 + n < cLine; omega) q1 q2 s1 s2
    | tup xs =>
      simp only [Rep] at hx hy
      obtain ⟨a, vs, rfl, _, ha, hvs⟩ := hx
      obtain ⟨b, ws, rfl, _, hb, hws⟩ := hy
      cases (show v = Value.ref a from rx); cases (show u = Value.ref b from ry)
      by_cases hab : a = b
      · subst hab; exact .same _
      obtain ⟨ia, ra, pa, _⟩ := I.tuple (SqT.of ha)
      obtain ⟨ib, rb, pb, _⟩ := I.tuple (SqT.of hb)
      have la := ra.length; have lb := rb.length
      have l1 := hvs.length; have l2 := hws.length
      have := SeqAt.RcAt.tuples (A := A) (e := fun _ => true) (show s.heap.IsTuple a ia.toArray from pa) (show s.heap.IsTuple b ib.toArray from pb) (by omega) (fun j h1 h2 => ?_)
      · rw [all_true] at this
        have e : (ia.toArray.size == ib.toArray.size) = true := by simp; omega
        rw [e] at this
        exact .of_refs hab this
      · simp only [List.size_toArray] at h1 h2
        have hj : j < xs.length := by omega
        obtain ⟨v1, e1, q1⟩ := hvs.get (i := j) (d := xs[j]) (by simp [hj])
        obtain ⟨v2, e2, q2⟩ := hws.get (i := j) (d := xs[j]) (by simp [hj])
        obtain ⟨u1, f1, s1⟩ := ra.get e1
        obtain ⟨u2, f2, s2⟩ := rb.get e2
        have g1 : ia.toArray[j] = u1 := by
          have := List.getElem?_eq_some_iff.mp f1; obtain ⟨_, z⟩ := this; simpa using z
        have g2 : ib.toArray[j] = u2 := by
          have := List.getElem?_eq_some_iff.mp f2; obtain ⟨_, z⟩ := this; simpa using z
        rw [g1, g2]
        have hdj := dep_le (ds := xs) (i := j) (d := xs[j]) (by simp [hj])
        simp only [D.dep] at hd
        exact ih A.in1 _ _ _ _ _ (by omega) (by show A.units + 1 + n < cLine; omega) q1 q2 s1 s2
end
end L2


set_option Elab.async false
set_option linter.all false
set_option maxRecDepth 100000
namespace L2
open PySem PySem.Spec PyProof.Rows

/-! ### == and != of two things of one content -/
section
variable {X : Cx}
def D.isSeq : D → Bool
  | .lst _ => true
  | .tup _ => true
  | _ => false
def rEqD : R2 := fun x y H Q => ∃ d, Rep (fun _ => True) H d x ∧ Rep (fun _ => True) H d y ∧ d.isSeq = true ∧ d.dep ≤ 60 ∧ Q (.bl true) H
def rNeD : R2 := fun x y H Q => ∃ d, Rep (fun _ => True) H d x ∧ Rep (fun _ => True) H d y ∧ d.isSeq = true ∧ d.dep ≤ 60 ∧ Q (.bl false) H
theorem seq_items {xs : List D} {n : Nat} {A : Around} {pins : List (Addr × Obj)} {σ : St} {H : Hp} {s : Shared} {vs ws : List V} {ia ib : List Value} {φ : Addr → Prop} (I : Inv X pins σ H s) (hvs : Reps φ H xs vs) (hws : Reps φ H xs ws) (ra : Vals vs ia) (rb : Vals ws ib) (hd : deps xs ≤ n) (hu : A.units + n < cLine) :
    ∀ j (h1 : j < ia.toArray.size) (h2 : j < ib.toArray.size), SeqAt.EqAt A s ia.toArray[j] ib.toArray[j] true := by
  intro j h1 h2
  have la := ra.length; have lb := rb.length
  have l1 := hvs.length; have l2 := hws.length
  simp only [List.size_toArray] at h1 h2
  have hj : j < xs.length := by omega
  obtain ⟨v1, e1, q1⟩ := hvs.get (i := j) (d := xs[j]) (by simp [hj])
  obtain ⟨v2, e2, q2⟩ := hws.get (i := j) (d := xs[j]) (by simp [hj])
  obtain ⟨u1, f1, s1⟩ := ra.get e1
  obtain ⟨u2, f2, s2⟩ := rb.get e2
  have g1 : ia.toArray[j] = u1 := by
    have := List.getElem?_eq_some_iff.mp f1; obtain ⟨_, z⟩ := this; simpa using z
  have g2 : ib.toArray[j] = u2 := by
    have := List.getElem?_eq_some_iff.mp f2; obtain ⟨_, z⟩ := this; simpa using z
  rw [g1, g2]
  have hdj := dep_le (ds := xs) (i := j) (d := xs[j]) (by simp [hj])
  exact eqAt_of I n A _ _ _ _ _ (by omega) hu q1 q2 s1 s2
theorem op_eqD (hu : X.A.units + 64 < cLine) : OpR X (compareOp .Eq) rEqD := by
  intro pins s σ H x y v u Q I rx ry h
  obtain ⟨d, hx, hy, hs, hd, q⟩ := h
  cases d with
  | lst xs =>
    simp only [Rep] at hx hy
    obtain ⟨a, vs, rfl, _, ha, hvs⟩ := hx
    obtain ⟨b, ws, rfl, _, hb, hws⟩ := hy
    cases (show v = Value.ref a from rx); cases (show u = Value.ref b from ry)
    obtain ⟨ia, ra, pa, _⟩ := I.list (SqL.of ha)
    obtain ⟨ib, rb, pb, _⟩ := I.list (SqL.of hb)
    have la := ra.length; have lb := rb.length
    have l1 := hvs.length; have l2 := hws.length
    simp only [D.dep] at hd
    refine SeqAt.eq_listAt (e := fun _ => true) pa.isList pb.isList (by simp; omega) (by omega) (seq_items (n := 60) I hvs hws ra rb (by omega) (by show X.A.units + 1 + 60 < cLine; omega)) ?_
    rw [all_true]
    exact ⟨.bl true, H, I, rfl, q⟩
  | tup xs =>
    simp only [Rep] at hx hy
    obtain ⟨a, vs, rfl, _, ha, hvs⟩ := hx
    obtain ⟨b, ws, rfl, _, hb, hws⟩ := hy
    cases (show v = Value.ref a from rx); cases (show u = Value.ref b from ry)
    obtain ⟨ia, ra, pa, _⟩ := I.tuple (SqT.of ha)
    obtain ⟨ib, rb, pb, _⟩ := I.tuple (SqT.of hb)
    have la := ra.length; have lb := rb.length
    have l1 := hvs.length; have l2 := hws.length
    simp only [D.dep] at hd
    refine SeqAt.eq_tupleAt (e := fun _ => true) (show s.heap.IsTuple a ia.toArray from pa) (show s.heap.IsTuple b ib.toArray from pb) (by omega) (seq_items (n := 60) I hvs hws ra rb (by omega) (by show X.A.units + 1 + 60 < cLine; omega)) ?_
    rw [all_true]
    have e : (ia.toArray.size == ib.toArray.size) = true := by simp; omega
    rw [e]
    exact ⟨.bl true, H, I, rfl, q⟩
  | _ => cases hs
theorem of_rcne {A : Around} {s : Shared} {prog : Program} {w : World} {E : Value → Shared → Prop} {Q : Value → Shared → Prop} {a b : Value} {k : Bool} (h : SeqAt.RcNeAt A s a b k) (hq : Q (.bool k) s) : wpAny (model prog w) A (compareOp .NotEq a b) Q E s := h prog w E Q hq
theorem op_neD (hu : X.A.units + 64 < cLine) : OpR X (compareOp .NotEq) rNeD := by
  intro pins s σ H x y v u Q I rx ry h
  obtain ⟨d, hx, hy, hs, hd, q⟩ := h
  cases d with
  | lst xs =>
    simp only [Rep] at hx hy
    obtain ⟨a, vs, rfl, _, ha, hvs⟩ := hx
    obtain ⟨b, ws, rfl, _, hb, hws⟩ := hy
    cases (show v = Value.ref a from rx); cases (show u = Value.ref b from ry)
    obtain ⟨ia, ra, pa, _⟩ := I.list (SqL.of ha)
    obtain ⟨ib, rb, pb, _⟩ := I.list (SqL.of hb)
    have la := ra.length; have lb := rb.length
    have l1 := hvs.length; have l2 := hws.length
    simp only [D.dep] at hd
    refine of_rcne (SeqAt.RcNeAt.lists (e := fun _ => true) pa.isList pb.isList (by simp; omega) (by omega) (seq_items (n := 60) I hvs hws ra rb (by omega) (by show X.A.units + 1 + 60 < cLine; omega))) ?_
    rw [all_true]
    exact ⟨.bl false, H, I, rfl, q⟩
  | tup xs =>
    simp only [Rep] at hx hy
    obtain ⟨a, vs, rfl, _, ha, hvs⟩ := hx
    obtain ⟨b, ws, rfl, _, hb, hws⟩ := hy
    cases (show v = Value.ref a from rx); cases (show u = Value.ref b from ry)
    obtain ⟨ia, ra, pa, _⟩ := I.tuple (SqT.of ha)
    obtain ⟨ib, rb, pb, _⟩ := I.tuple (SqT.of hb)
    have la := ra.length; have lb := rb.length
    have l1 := hvs.length; have l2 := hws.length
    simp only [D.dep] at hd
    refine of_rcne (SeqAt.RcNeAt.tuples (e := fun _ => true) (show s.heap.IsTuple a ia.toArray from pa) (show s.heap.IsTuple b ib.toArray from pb) (by omega) (seq_items (n := 60) I hvs hws ra rb (by omega) (by show X.A.units + 1 + 60 < cLine; omega))) ?_
    rw [all_true]
    have e : (ia.toArray.size == ib.toArray.size) = true := by simp; omega
    rw [e]
    exact ⟨.bl false, H, I, rfl, q⟩
  | _ => cases hs
end

/-! ### heaps in which one thing changes -/
/-- the law's box of draws: its own address, that of its cells -/
structure Bx where
  b : Addr
  c : Addr
/-- all that was tracked is as it was, but the box -/
def Keep (β : Bx) (H H' : Hp) : Prop := ∀ a o, H a = some o → a ≠ β.b → H' a = some o
theorem Keep.refl (β : Bx) (H : Hp) : Keep β H H := fun _ _ h _ => h
theorem Keep.trans {β : Bx} {H H1 H2 : Hp} (x : Keep β H H1) (y : Keep β H1 H2) : Keep β H H2 := fun c o h n => y c o (x c o h n) n
theorem Same.keep {β : Bx} {H H' : Hp} (x : Same H H') : Keep β H H' := fun c o h _ => x c o h
theorem Keep.upd {β : Bx} {H : Hp} {o : HO} : Keep β H (upd H β.b o) := fun c u h n => by rw [upd_ne n]; exact h
theorem Same.upd {H : Hp} {p : Addr} {o : HO} (h : H p = none) : Same H (L2.upd H p o) := fun c u e => by rw [upd_ne (ne_of_none e h)]; exact e
/-- what came later is written -/
theorem Keep.late {β : Bx} {H H' : Hp} {p : Addr} {o : HO} (k : Keep β H H') (h : H p = none) : Keep β H (L2.upd H' p o) := fun a u e n => by rw [upd_ne (ne_of_none e h)]; exact k a u e n
theorem Same.late {H H' : Hp} {p : Addr} {o : HO} (k : Same H H') (h : H p = none) : Same H (L2.upd H' p o) := fun a u e => by rw [upd_ne (ne_of_none e h)]; exact k a u e
/-- the box: cells, place, rest, seed -/
structure Box (β : Bx) (H : Hp) : Prop where
  ne : β.c ≠ β.b
  ex : ∃ (cells : List Int) (i r z : Int), H β.b = some (.lst [.ref β.c, .int i, .int r, .int z]) ∧ H β.c = some (.lst (cells.map V.int)) ∧ 0 ≤ i ∧ 0 ≤ z ∧ z < 2147483629
theorem Box.b_in {β : Bx} {H : Hp} (x : Box β H) : ∃ o, H β.b = some o := let ⟨_, _, _, _, h, _⟩ := x.ex; ⟨_, h⟩
theorem Box.c_in {β : Bx} {H : Hp} (x : Box β H) : ∃ o, H β.c = some o := let ⟨_, _, _, _, _, h, _⟩ := x.ex; ⟨_, h⟩
theorem Box.same {β : Bx} {H H' : Hp} (x : Box β H) (k : Same H H') : Box β H' := by
  obtain ⟨cells, i, r, z, h1, h3, h4⟩ := x.ex
  exact ⟨x.ne, cells, i, r, z, k _ _ h1, k _ _ h3, h4⟩
/-- an address apart from the box -/
structure Off (β : Bx) (l : Addr) : Prop where
  nb : l ≠ β.b
  nc : l ≠ β.c
theorem Box.off {β : Bx} {l : Addr} {H : Hp} (x : Box β H) (h : H l = none) : Off β l := by
  obtain ⟨o, e⟩ := x.b_in
  obtain ⟨u, e2⟩ := x.c_in
  exact ⟨(ne_of_none e h).symm, (ne_of_none e2 h).symm⟩
theorem Box.new {β : Bx} {l : Addr} {H : Hp} {o : HO} (x : Box β H) (h : H l = none) : Box β (L2.upd H l o) := x.same (Same.upd h)
theorem Box.write {β : Bx} {p : Addr} {H : Hp} {o : HO} (x : Box β H) (n : Off β p) : Box β (L2.upd H p o) := by
  obtain ⟨cells, i, r, z, h1, h3, h4⟩ := x.ex
  exact ⟨x.ne, cells, i, r, z, by rw [upd_ne n.nb.symm]; exact h1, by rw [upd_ne n.nc.symm]; exact h3, h4⟩
theorem Keep.free {β : Bx} {p : Addr} {H H' : Hp} (k : Keep β H H') (x : Box β H') (h : H' p = none) : H p = none := by
  have n := (x.off h).nb
  cases q : H p with
  | none => rfl
  | some u => rw [k p u q n] at h; cases h
/-- a list apart from the box -/
structure Lst (β : Bx) (H : Hp) (l : Addr) (xs : List V) : Prop where
  off : Off β l
  at_ : H l = some (.lst xs)
theorem Lst.keep {β : Bx} {l : Addr} {H H' : Hp} {xs : List V} (x : Lst β H l xs) (k : Keep β H H') : Lst β H' l xs := ⟨x.off, k _ _ x.at_ x.off.nb⟩
theorem Lst.same {β : Bx} {l : Addr} {H H' : Hp} {xs : List V} (x : Lst β H l xs) (k : Same H H') : Lst β H' l xs := ⟨x.off, k _ _ x.at_⟩
theorem Lst.new {β : Bx} {l : Addr} {H : Hp} {xs : List V} (x : Box β H) (h : H l = none) : Lst β (L2.upd H l (.lst xs)) l xs := ⟨x.off h, upd_same⟩

theorem Reps.ints {φ : Addr → Prop} {H : Hp} : ∀ (xs : List Int), Reps φ H (xs.map D.int) (xs.map V.int)
  | [] => by simp [Reps]
  | x :: xs => by
    simp only [List.map_cons, Reps]
    exact ⟨_, _, rfl, rfl, Reps.ints xs⟩
def D.ints (xs : List Int) : D := .lst (xs.map D.int)
theorem Rep.ints {φ : Addr → Prop} {H : Hp} {a : Addr} {xs : List Int} (f : φ a) (h : H a = some (.lst (xs.map V.int))) : Rep φ H (D.ints xs) (.ref a) := by
  simp only [D.ints, Rep]
  exact ⟨a, _, rfl, f, h, Reps.ints xs⟩
theorem deps_ints : ∀ (xs : List Int), deps (xs.map D.int) = 0
  | [] => rfl
  | x :: xs => by simp [deps, D.dep, deps_ints xs]
theorem wids_ints : ∀ (xs : List Int), wids (xs.map D.int) = 0
  | [] => rfl
  | x :: xs => by simp [wids, D.wid, wids_ints xs]
theorem D.ints_wid {xs : List Int} {n : Nat} (h : xs.length ≤ n) : (D.ints xs).wid ≤ n := by simp [D.ints, D.wid, wids_ints]; exact h
theorem D.ints_dep (xs : List Int) : (D.ints xs).dep ≤ 60 := by simp [D.ints, D.dep, deps_ints]
end L2
namespace L2
open PySem PySem.Spec PyProof.Rows
theorem fn_mk {P : Program} {w : World} {K : PySem.W.Frag} {mg : Str → Option Value} {base : Heap} {x : Str} {ps : List Str} {k : Nat} {sp : Sp} {f : Addr} {fd : FuncData} (F : FnOk P w K mg base CX0 k f fd ps sp) (m : mg x = some (.ref f)) (kp : PySem.W.keepIn K (.ref f) = true) (b : Binds K fd ps []) : Fn P w K mg base x ps k sp := ⟨f, fd, F, m, kp, b⟩
end L2


set_option Elab.async false
set_option linter.all false
set_option maxRecDepth 100000
namespace L2
open PySem PySem.Spec PyProof.Rows
section
variable {X : Cx}
/-! ### // and * of great numbers -/
def CDivL (i j : Int) : Prop := 0 < j ∧ j < 1606938044258990275541962092341162602522202993782792835301376
theorem CDivL.ok {i j : Int} (h : CDivL i j) : Builtin.divisionGoesByPylong i j = false := by
  refine PyProof.noPylong_of_log2 ?_
  have h1 : j.natAbs < 2 ^ 200 := by have := h.1; have := h.2; omega
  have h2 : j.natAbs ≠ 0 := by have := h.1; omega
  have := (Nat.log2_lt h2).mpr h1
  omega
theorem op_fdivL : OpR X (binaryOp .FloorDiv) (rI CDivL fun i j => .int (i / j)) := opI fun i j _ _ _ _ _ hc q => by
  refine floordiv_int (by have := hc.1; omega) ?_ (.inl hc.ok)
  rw [Int.fdiv_eq_ediv_of_nonneg _ (Int.le_of_lt hc.1)]
  exact q
theorem get_list : PGet X (rIxL X.K) := by
  intro pins s σ H x y v u Q I rx ry h
  obtain ⟨p, xs, i, z, rfl, rfl, hq, he, q⟩ := h
  cases rx
  obtain ⟨t, rfl⟩ := ry
  obtain ⟨its, r, pl, hz⟩ := I.list hq
  obtain ⟨j, h1, h2, h3, h4, h5⟩ := atI_get he
  obtain ⟨w, ew, rw'⟩ := r.get h2
  have hl := r.length
  have hn := line63
  have fin : EP X pins σ Q w s := ⟨z, H, I, rw', q⟩
  by_cases h0 : 0 ≤ i
  · have hj : i.toNat = j := by
      rw [seqIndex_of h0 h5] at h1
      exact Option.some.inj h1
    exact wpAny_getItem_list pl.isList h0 (by omega) (by rw [hj]; simpa using ew) fin
  · have hj : (i + (its.toArray.size : Int)).toNat = j := by
      rw [seqIndex_neg (by omega) h4] at h1
      rw [List.size_toArray, ← hl]
      exact Option.some.inj h1
    exact wpAny_getItem_list_neg pl.isList (by omega) (by rw [List.size_toArray] <;> omega) (by omega) (by rw [hj]; simpa using ew) fin
end
theorem cutV_ints (ns : List Int) (lo hi : Option Int) : ∃ ms : List Int, cutV (ns.map V.int) lo hi = ms.map V.int :=
  ⟨(ns.drop (HT.sIx (ns.map V.int).length 0 lo)).take (HT.sIx (ns.map V.int).length (ns.map V.int).length hi - HT.sIx (ns.map V.int).length 0 lo), by unfold cutV; rw [← List.map_drop, ← List.map_take]⟩
theorem atI_ints {ns : List Int} {i : Int} (h0 : 0 ≤ i) (h1 : i < (ns.map V.int).length) : ∃ v, ns[i.toNat]? = some v ∧ atI (ns.map V.int) i = some (V.int v) := by
  rw [List.length_map] at h1
  have hi : i.toNat < ns.length := by omega
  have e : ((i.toNat : Nat) : Int) = i := by omega
  have h := atI_nat (xs := ns.map V.int) (j := i.toNat) (v := V.int ns[i.toNat]) (by simp [hi])
  rw [e] at h
  exact ⟨ns[i.toNat], by simp [hi], h⟩
theorem iteD {p A B : Prop} [Decidable p] (hp : p) (h : A) : if decide p = true then A else B := by
  rw [decide_eq_true hp]; exact iteT h
theorem iteDF {p A B : Prop} [Decidable p] (hp : ¬ p) (h : B) : if decide p = true then A else B := by
  rw [decide_eq_false hp]; exact iteF h
theorem iteB {c : Bool} {A B : Prop} (h1 : c = true → A) (h2 : c = false → B) : if c = true then A else B := by
  cases c with
  | true => rw [if_pos rfl]; exact h1 rfl
  | false => rw [if_neg Bool.false_ne_true]; exact h2 rfl
/-! ### a statement, then the rest, met by a word in between -/
def tCut (t u : TS) : TS := fun D σ H => ∃ N : St → Hp → Prop, t { D with nx := N } σ H ∧ ∀ σ' H', N σ' H' → u D σ' H'
theorem pss_cut {X : Cx} {st : Stmt} {rest : List Stmt} {t u : TS} (h1 : PS X st t) (h2 : PSs X rest u) : PSs X (st :: rest) (tCut t u) := by
  intro pins s σ H D I h
  obtain ⟨N, h, hn⟩ := h
  refine wpAny_execs_cons (thn (h1 pins s σ H { D with nx := N } I h) fun f s1 q => ?_)
  cases f with
  | next =>
    obtain ⟨σ', H', I', q⟩ := q
    exact h2 pins s1 σ' H' D I' (hn _ _ q)
  | ret v => exact q
  | brk => exact q
  | cont => exact q
/-! ### what the law's own defs promise -/
def sp_box (K : PySem.W.Frag) : Sp := fun vs H Q _ => ∃ (a : Addr) (ns : List Int), vs = [.ref a] ∧ SqL K H a (ns.map V.int) ∧ ns.length ≤ 63 ∧ ∀ (β : Bx) (H' : Hp), H β.b = none → H β.c = none → Same H H' → Box β H' → Q (.ref β.b) H'
def sp_take : Sp := fun vs H Q _ => ∃ (β : Bx) (m : Int), vs = [.ref β.b, .int m] ∧ Box β H ∧ 1 ≤ m ∧ m < 1606938044258990275541962092341162602522202993782792835301376 ∧ ∀ (r : Int) (H' : Hp), 0 ≤ r → r < m → Keep β H H' → Box β H' → Q (.int r) H'
def sp_great : Sp := fun vs H Q _ => ∃ (β : Bx), vs = [.ref β.b] ∧ Box β H ∧ ∀ (r : Int) (H' : Hp), 0 ≤ r → r < 1000000000000000000 → Keep β H H' → Box β H' → Q (.int r) H'
/-- two things of one content -/
def sp_same (n : Nat) : Sp := fun vs H Q _ => ∃ (x y : V) (d : D), vs = [x, y] ∧ Rep (fun _ => True) H d x ∧ Rep (fun _ => True) H d y ∧ d.dep < n ∧ d.wid ≤ 1000 ∧ ∀ H', Same H H' → Q (.bl true) H'
def sp_same0 : Sp := fun vs H Q _ => ∃ (i j : Int), vs = [.int i, .int j] ∧ Q (.bl (decide (i = j))) H
def sp_row : Sp := fun vs H Q _ => ∃ (β : Bx) (n : Nat), vs = [.ref β.b, .int n] ∧ Box β H ∧ n ≤ 1000 ∧
  ∀ (p : Addr) (xs : List Int) (H' : Hp), H p = none → xs.length = n → (∀ x ∈ xs, 1 ≤ x ∧ x ≤ 1000) → Keep β H H' → Box β H' → Lst β H' p (xs.map V.int) → Q (.ref p) H'
end L2


set_option Elab.async false
set_option linter.all false
set_option maxRecDepth 100000
namespace L2
open PySem PySem.Spec PyProof.Rows

/-! ### a comprehension's closure -/
def cloFrom (env : Env) : List (Str × NameKind) → List (Str × Addr) → List (Str × Addr)
  | [], cs => cs
  | (n, k) :: r, cs => cloFrom env r (if k == .free then (n, (env.cells.lookup n).getD 0) :: cs else cs)
def clo (scope : Scope) (env : Env) : List (Str × Addr) := cloFrom env scope.names []
theorem cloFor_from (env : Env) : ∀ (names : List (Str × NameKind)) (cs : List (Str × Addr)), (∀ y ∈ names, y.2 = .free → ∃ c, env.cells.lookup y.1 = some c) →
    (forIn names cs (fun (x : Str × NameKind) (r : List (Str × Addr)) => do
      let cs := r
      if x.2 == NameKind.free then do
        let c ← cellOf env x.1
        let cs := (x.1, c) :: cs
        pure PUnit.unit
        pure (ForInStep.yield cs)
      else do
        pure PUnit.unit
        pure (ForInStep.yield cs)) : Sem (List (Str × Addr))) = pure (cloFrom env names cs)
  | [], cs, _ => rfl
  | (n, k) :: r, cs, h => by
    have ih := fun cs => cloFor_from env r cs (fun y hy => h y (List.mem_cons_of_mem _ hy))
    rw [List.forIn_cons]
    by_cases hk : k = .free
    · subst hk
      obtain ⟨c, e⟩ := h (n, .free) List.mem_cons_self rfl
      have e1 : cellOf env n = pure c := by unfold cellOf; rw [e]
      simp only [beq_self_eq_true, if_true, e1, pure_bind]
      rw [ih]
      show _ = pure (cloFrom env r (if (NameKind.free == NameKind.free) = true then _ else _))
      rw [if_pos (by rfl), e]
      rfl
    · have hb : (k == NameKind.free) = false := by simpa using hk
      simp only [hb, Bool.false_eq_true, if_false, pure_bind]
      rw [ih]
      show _ = pure (cloFrom env r (if (k == NameKind.free) = true then _ else _))
      rw [hb]
      rfl
theorem cloFor {scope : Scope} {env : Env} (h : ∀ y ∈ scope.names, y.2 = .free → ∃ c, env.cells.lookup y.1 = some c) : closureFor scope env = pure (clo scope env) := by
  unfold closureFor
  have := cloFor_from env scope.names [] h
  simp only [pure_bind, bind_pure] at this ⊢
  exact this

theorem cloFrom_sub (env : Env) : ∀ (names : List (Str × NameKind)) (cs : List (Str × Addr)) (x : Str) (c : Addr), (∀ y ∈ names, y.2 = .free → ∃ c, env.cells.lookup y.1 = some c) → (cloFrom env names cs).lookup x = some c →
    (cs.lookup x = some c ∨ env.cells.lookup x = some c)
  | [], cs, x, c, _, h => .inl h
  | (n, k) :: r, cs, x, c, hh, h => by
    have ih := cloFrom_sub env r (if k == .free then (n, (env.cells.lookup n).getD 0) :: cs else cs) x c (fun y hy => hh y (List.mem_cons_of_mem _ hy)) h
    rcases ih with ih | ih
    · by_cases hk : k = .free
      · subst hk
        rw [if_pos (by rfl)] at ih
        obtain ⟨d, e⟩ := hh (n, .free) List.mem_cons_self rfl
        by_cases hx : x = n
        · subst hx
          simp [List.lookup_cons] at ih
          rw [e] at ih
          right
          rw [e]
          simpa using ih
        · have : (x == n) = false := by simpa using hx
          simp only [List.lookup_cons, this] at ih
          exact .inl ih
      · have hb : (k == NameKind.free) = false := by simpa using hk
        rw [hb] at ih
        exact .inl ih
    · exact .inr ih
theorem clo_sub {scope : Scope} {env : Env} {x : Str} {c : Addr} (hh : ∀ y ∈ scope.names, y.2 = .free → ∃ c, env.cells.lookup y.1 = some c) (h : (clo scope env).lookup x = some c) : env.cells.lookup x = some c := by
  rcases cloFrom_sub env scope.names [] x c hh h with z | z
  · simp at z
  · exact z
theorem cloFrom_keep (env : Env) : ∀ (names : List (Str × NameKind)) (cs : List (Str × Addr)) (x : Str), (∃ c, cs.lookup x = some c) → ∃ c, (cloFrom env names cs).lookup x = some c
  | [], cs, x, h => h
  | (n, k) :: r, cs, x, h => by
    refine cloFrom_keep env r _ x ?_
    by_cases hk : (k == NameKind.free) = true
    · rw [if_pos hk, List.lookup_cons]
      cases x == n with
      | true => exact ⟨_, rfl⟩
      | false => exact h
    · rw [if_neg hk]; exact h
theorem cloFrom_has (env : Env) : ∀ (names : List (Str × NameKind)) (cs : List (Str × Addr)) (x : Str), (x, NameKind.free) ∈ names → ∃ c, (cloFrom env names cs).lookup x = some c
  | [], cs, x, h => by simp at h
  | (n, k) :: r, cs, x, h => by
    rcases List.mem_cons.mp h with h | h
    · cases h
      refine cloFrom_keep env r _ _ ?_
      rw [if_pos (by rfl), List.lookup_cons]
      simp
    · exact cloFrom_has env r _ x h
/-- the kinds that relabel can leave -/
theorem relabel_kind {scope : Scope} {env : Env} {x : Str} {k : NameKind} (h : (relabel scope env).names.lookup x = some k) : (x, k) ∈ scope.names ∨ (k = .cell ∧ (x, NameKind.free) ∈ scope.names) := by
  have hm := PySem.mem_of_lookup h
  unfold relabel at hm
  obtain ⟨⟨n, k'⟩, h1, h2⟩ := List.mem_map.mp hm
  dsimp only at h2
  by_cases hc : (k' == NameKind.free && env.scope.kind == .function && env.kindOf n == some .cell) = true
  · rw [if_pos hc] at h2
    cases h2
    simp only [Bool.and_eq_true, beq_iff_eq] at hc
    obtain ⟨⟨rfl, _⟩, _⟩ := hc
    exact .inr ⟨rfl, h1⟩
  · rw [if_neg hc] at h2
    cases h2
    exact .inl h1


/-! ### cells of the block's own -/
theorem cellsFrom_app : ∀ (names : List (Str × NameKind)) (n : Nat) (acc : List (Str × Addr)), cellsFrom n names acc = cellsFrom n names [] ++ acc
  | [], n, acc => rfl
  | (x, k) :: r, n, acc => by
    by_cases hk : (k == NameKind.cell) = true
    · have e : ∀ a, cellsFrom n ((x, k) :: r) a = cellsFrom (n + 1) r ((x, n) :: a) := fun a => by rw [cellsFrom, if_pos hk]
      rw [e, e, cellsFrom_app r (n + 1) ((x, n) :: acc), cellsFrom_app r (n + 1) [(x, n)], List.append_assoc]
      rfl
    · have e : ∀ a, cellsFrom n ((x, k) :: r) a = cellsFrom n r a := fun a => by rw [cellsFrom, if_neg hk]
      rw [e, e]
      exact cellsFrom_app r n acc
theorem cellsFrom_mem : ∀ {names : List (Str × NameKind)} {n : Nat} {x : Str} {a : Addr}, (x, a) ∈ cellsFrom n names [] → (x, NameKind.cell) ∈ names
  | [], n, x, a, h => by simp [cellsFrom] at h
  | (y, k) :: r, n, x, a, h => by
    by_cases hk : (k == NameKind.cell) = true
    · rw [cellsFrom, if_pos hk, cellsFrom_app] at h
      rcases List.mem_append.mp h with z | z
      · exact List.mem_cons_of_mem _ (cellsFrom_mem z)
      · have z : (x, a) = (y, n) := by simpa using z
        cases z
        have : k = .cell := by simpa using hk
        subst this
        exact List.mem_cons_self
    · rw [cellsFrom, if_neg hk] at h
      exact List.mem_cons_of_mem _ (cellsFrom_mem h)
theorem lookup_app {α : Type} (x : Str) : ∀ (l m : List (Str × α)), (l ++ m).lookup x = (l.lookup x).or (m.lookup x)
  | [], m => rfl
  | (y, a) :: l, m => by
    rw [List.cons_append, List.lookup_cons, List.lookup_cons, lookup_app x l m]
    cases x == y <;> rfl
theorem cellsFrom_has : ∀ {names : List (Str × NameKind)} {n : Nat} {x : Str}, (x, NameKind.cell) ∈ names → ∃ a, (cellsFrom n names []).lookup x = some a
  | [], n, x, h => by simp at h
  | (y, k) :: r, n, x, h => by
    by_cases hk : (k == NameKind.cell) = true
    · rw [cellsFrom, if_pos hk, cellsFrom_app, lookup_app]
      rcases List.mem_cons.mp h with z | z
      · cases z
        cases q : (cellsFrom (n + 1) r []).lookup y with
        | some a => exact ⟨a, rfl⟩
        | none => exact ⟨n, by simp [List.lookup_cons]⟩
      · obtain ⟨a, e⟩ := cellsFrom_has (n := n + 1) z
        exact ⟨a, by rw [e]; rfl⟩
    · rw [cellsFrom, if_neg hk]
      rcases List.mem_cons.mp h with z | z
      · cases z; simp at hk
      · exact cellsFrom_has z
theorem newCompEnv {M : Model} {A : Around} {E : Value → Shared → Prop} {scope : Scope} {cl : List (Str × Addr)} {env : Env} {Q : Env → Shared → Prop} {s : Shared}
    (h : Q { scope := scope, locals := s.heap.objs.size, globals := env.globals, cells := cellsFrom (s.heap.objs.size + 1) scope.names cl, qual := env.qual, func := none, code := env.code, frame := env.frame, builtins := env.builtins } { s with heap := pushCells (s.heap.push { cls := .type "dict", data := .dict #[] }) scope.names }) :
    wpAny M A (newFunctionEnv scope env.globals cl [] env.qual none .none (some env)) Q E s := by
  simp only [newFunctionEnv, Option.isSome_some, if_true]
  refine wpAny_bind (wpAny_alloc ?_)
  refine wpAny_bind (wpAny_layCells _ (fun name kind cells => by cases hkc : kind == NameKind.cell <;> simp [hkc]) _ _ _ _ ?_)
  rw [show ({ s with heap := s.heap.push { cls := .type "dict", data := .dict #[] } } : Shared).heap.objs.size = s.heap.objs.size + 1 from Heap.size_push ..]
  rw [List.forIn_nil]
  exact wpAny_bind (wpAny_pure (wpAny_pure h))
/-! ### a comprehension's block -/
/-- its context -/
def cxC (X : Cx) (ts M : List Str) (scope : Scope) (C : Addr) (fp : List Addr) (s₀ : Shared) (H₀ : Hp) : Cx :=
  { X with N := ts ++ M, s₀ := s₀, H₀ := H₀, env := compEnvC scope (cellsFrom (C + 1) scope.names (clo scope X.env)) C X.env, outer := X.stack, ex := fp, fn := fun x => scope.names.lookup x == some .cell, pn := [], xe := fun _ _ => False }
/-- what its scope is like (all by decide) -/
structure CompOk (X : Cx) (ts M : List Str) (scope : Scope) : Prop where
  kind : scope.kind = .function
  cell : ∀ x ∈ M, (x, NameKind.cell) ∉ scope.names
  loc : ∀ y ∈ scope.names, y.2 = .local → scope.names.lookup y.1 = some .local
  fr : ∀ y ∈ scope.names, y.2 = .free → X.env.kindOf y.1 = some .cell ∨ X.env.kindOf y.1 = some .free
  own : ∀ x ∈ M, (x, NameKind.local) ∉ scope.names
  nd : (ts ++ M).Nodup
  len : M.length = X.N.length
  seen : ∀ (i : Nat) (x : Str) (k : NameKind), M[i]? = some x → (x, k) ∈ scope.names → X.N[i]? = some x
/-- the same by reckoning: N the names, sc the scope around -/
def compOk (N : List Str) (sc : Scope) (ts M : List Str) (scope : Scope) : Bool :=
  scope.kind == .function && scope.names.all (fun y => (y.2 != .local || scope.names.lookup y.1 == some .local) && (y.2 != .free || (sc.names.lookup y.1 == some .cell || sc.names.lookup y.1 == some .free))) &&
    M.all (fun x => scope.names.all fun y => !(y.1 == x && (y.2 == .local || y.2 == .cell))) && decide (ts ++ M).Nodup && (decide (M.length = N.length) && (N.zip M).all fun p => p.1 == p.2 || scope.names.all fun y => !(y.1 == p.2))
theorem comp_of {X : Cx} {N : List Str} {sc : Scope} {ts M : List Str} {scope : Scope} (hN : X.N = N) (hs : X.env.scope = sc) (h : compOk N sc ts M scope = true) : CompOk X ts M scope := by
  subst hN hs
  unfold compOk at h
  rw [Bool.and_eq_true, Bool.and_eq_true (decide (M.length = X.N.length))] at h
  obtain ⟨h, h5, h6⟩ := h
  simp only [Bool.and_eq_true, List.all_eq_true, decide_eq_true_eq, bne_iff_ne, Bool.or_eq_true, beq_iff_eq, Bool.not_eq_true', Bool.and_eq_false_imp] at h
  obtain ⟨⟨⟨h1, h2⟩, h3⟩, h4⟩ := h
  have h5 : M.length = X.N.length := of_decide_eq_true h5
  refine ⟨h1, fun x hx hy => ?_, fun y hy hk => ?_, fun y hy hk => ?_, fun x hx hy => ?_, h4, h5, fun i x k hi hk => ?_⟩
  · have := h3 x hx (x, .cell) hy rfl
    simp at this
  · rcases (h2 y hy).1 with z | z
    · exact absurd hk z
    · exact z
  · rcases (h2 y hy).2 with z | z
    · exact absurd hk z
    · exact z
  · have := h3 x hx (x, .local) hy rfl
    simp at this
  · have hl : i < M.length := (List.getElem?_eq_some_iff.mp hi).1
    have hl2 : i < X.N.length := by omega
    have e2 : X.N[i]? = some X.N[i] := by simp [hl2]
    have hm : (X.N[i], x) ∈ X.N.zip M := by
      refine List.mem_of_getElem? (i := i) ?_
      rw [List.getElem?_zip_eq_some]
      exact ⟨e2, hi⟩
    have := List.all_eq_true.mp h6 _ hm
    rcases Bool.or_eq_true _ _ ▸ this with z | z
    · have z : X.N[i] = x := by simpa using z
      rw [e2, z]
    · have := List.all_eq_true.mp z _ hk
      simp at this
/-- the scope of a block inside a block -/
def relabelBy (scope sc : Scope) : Scope :=
  { scope with names := scope.names.map fun (n, k) => if (k == .free && sc.kind == .function && sc.names.lookup n == some .cell) then (n, .cell) else (n, k) }
theorem comp_of2 {X : Cx} {N : List Str} {sc : Scope} {ts M ts' M' : List Str} {scope scope' : Scope} {C : Addr} {fp : List Addr} {s₀ : Shared} {H₀ : Hp} (hN : ts ++ M = N) (hs : X.env.scope = sc) (h : compOk N (relabelBy scope sc) ts' M' scope' = true) : CompOk (cxC X ts M scope C fp s₀ H₀) ts' M' scope' :=
  comp_of (X := cxC X ts M scope C fp s₀ H₀) hN (by rw [← hs]; rfl) h
section
variable {X : Cx} {pins : List (Addr × Obj)} {σ : St} {H : Hp} {s : Shared} {ts M : List Str} {scope : Scope} {fp : List Addr}
theorem CompOk.has (c : CompOk X ts M scope) (ok : X.Ok) : ∀ y ∈ scope.names, y.2 = .free → ∃ a, X.env.cells.lookup y.1 = some a := fun y hy hk => ok.has y.1 (c.fr y hy hk)
theorem CompOk.cellIn {x : Str} (h : (relabel scope X.env).names.lookup x = some .cell ∨ (relabel scope X.env).names.lookup x = some .free) : (x, NameKind.free) ∈ scope.names ∨ (x, NameKind.cell) ∈ scope.names := by
  rcases h with h | h
  · rcases relabel_kind h with z | ⟨_, z⟩
    · exact .inr z
    · exact .inl z
  · rcases relabel_kind h with z | ⟨z, _⟩
    · exact .inl z
    · cases z
/-- the block's own cells -/
structure OwnC (scope : Scope) (C : Addr) (h₁ : Heap) : Prop where
  empty : ∀ x a, (x, a) ∈ cellsFrom (C + 1) scope.names [] → h₁.IsCell a none ∧ @LT.lt Nat _ C a
  apart : (cellsFrom (C + 1) scope.names []).Pairwise fun x y => x.2 ≠ y.2
theorem blk_cells {env : Env} {C : Addr} {x : Str} {a : Addr} (h : (cellsFrom (C + 1) scope.names (clo scope env)).lookup x = some a) : (x, a) ∈ cellsFrom (C + 1) scope.names [] ∨ ((cellsFrom (C + 1) scope.names []).lookup x = none ∧ (clo scope env).lookup x = some a) := by
  rw [cellsFrom_app, lookup_app] at h
  cases e : (cellsFrom (C + 1) scope.names []).lookup x with
  | some b =>
    rw [e] at h
    have : b = a := by simpa using h
    subst this
    exact .inl (PySem.mem_of_lookup e)
  | none =>
    rw [e] at h
    exact .inr ⟨rfl, by simpa using h⟩
/-- the block begins: s₂ where the iterator has come, then the list and the names are laid -/
theorem Inv.comp (c : CompOk X ts M scope) (I : Inv X pins σ H s) (hf : ∀ b ∈ fp, FpOk X pins H b) (ho : ∀ b ∈ fp, b < s.heap.objs.size) {C : Addr} {h₁ : Heap} {t' : Nat} (hC : s.heap.objs.size ≤ C) (hn : h₁.Ns C fun _ => none) (hO : OwnC scope C h₁) (k : ∀ b u, s.heap.get? b = some u → h₁.get? b = some u) :
    Inv (cxC X ts M scope C fp s H) [] (List.replicate ts.length none ++ σ) H { s with heap := h₁, toks := t' } := by
  have has := c.has I.ok
  have sub : ∀ x a, (clo scope X.env).lookup x = some a → X.env.cells.lookup x = some a := fun x a h => clo_sub has h
  have low : ∀ x a, (clo scope X.env).lookup x = some a → @LT.lt Nat _ a C := fun x a h => by
    obtain ⟨v, q⟩ := I.cell x a (sub x a h)
    have := q.lt
    exact Nat.lt_of_lt_of_le this hC
  have kept := I.kept (t' := t') k
  refine ⟨⟨I.ok.mod, c.kind, I.ok.glob, I.ok.blt, hC, fun x y a h1 h2 => ?_, fun x hx => ?_, fun x a hx h => ?_, I.ok.hd, I.ok.frames, .inl rfl, fun b hb => ⟨?_, fun x a h => ?_⟩, I.bs, Nat.le_trans I.ok.bsz I.sz, fun b o e hb => ?_, fun b hb z => ?_, I.stack, I.stkFree⟩,
    rfl, I.bare, Un.kept k, ⟨_, hn, fun i x v h1 h2 h3 => ?_⟩, fun x a h => ?_, I.hok.fresh hC, fun x a h => ?_, fun p hp => by simp [cxC] at hp, I.hok.kept k, ?_⟩
  · rcases blk_cells h1 with z1 | ⟨_, z1⟩ <;> rcases blk_cells h2 with z2 | ⟨_, z2⟩
    · exact PySem.name_of_addr hO.apart z1 z2
    · exact absurd (Nat.lt_trans (hO.empty _ _ z1).2 (low _ _ z2)) (Nat.lt_irrefl _)
    · exact absurd (Nat.lt_trans (hO.empty _ _ z2).2 (low _ _ z1)) (Nat.lt_irrefl _)
    · exact I.ok.inj x y a (sub x a z1) (sub y a z2)
  · show ∃ a, (cellsFrom (C + 1) scope.names (clo scope X.env)).lookup x = some a
    rw [cellsFrom_app, lookup_app]
    rcases CompOk.cellIn hx with z | z
    · obtain ⟨a, e⟩ := cloFrom_has X.env scope.names [] x z
      cases (cellsFrom (C + 1) scope.names []).lookup x with
      | some b => exact ⟨b, rfl⟩
      | none => exact ⟨a, e⟩
    · obtain ⟨a, e⟩ := cellsFrom_has (n := C + 1) z
      exact ⟨a, by rw [e]; rfl⟩
  · have hx : (scope.names.lookup x == some NameKind.cell) = true := hx
    have hx : scope.names.lookup x = some NameKind.cell := by simpa using hx
    obtain ⟨b, e⟩ := cellsFrom_has (n := C + 1) (PySem.mem_of_lookup hx)
    rcases blk_cells h with z | ⟨z, _⟩
    · exact Nat.le_trans hC (Nat.le_of_lt (hO.empty _ _ z).2)
    · rw [e] at z; cases z
  · exact Nat.ne_of_lt (Nat.lt_of_lt_of_le (ho b hb) hC)
  · rcases blk_cells h with z | ⟨_, z⟩
    · exact Nat.ne_of_gt (Nat.lt_trans (Nat.lt_of_lt_of_le (ho b hb) hC) (hO.empty _ _ z).2)
    · exact (hf b hb).2.2.2.2.1 x a (sub x a z)
  · rcases (hf b hb).2.2.2.1 with z | z
    · exact I.ok.noex b o e z
    · exact absurd (Nat.lt_of_lt_of_le (Heap.lt_size e) (Nat.le_trans I.ok.bsz z)) (Nat.lt_irrefl _)
  · rcases List.mem_cons.mp (I.stkSub b z) with e | e
    · exact (hf b hb).2.1 e
    · exact (hf b hb).2.2.1 e
  · -- a name of the def, seen in the block
    have hi : ts.length ≤ i := by
      rcases Nat.lt_or_ge i ts.length with z | z
      · rw [List.getElem?_append_left (by simpa using z), List.getElem?_replicate] at h2
        split at h2 <;> cases h2
      · exact z
    have h0' : M[i - ts.length]? = some x := by
      have h1 : (ts ++ M)[i]? = some x := h1
      rwa [List.getElem?_append_right hi] at h1
    have h2' : σ[i - ts.length]? = some (some v) := by
      rw [List.getElem?_append_right (by simpa using hi)] at h2
      simpa using h2
    have nC := c.cell x (List.mem_of_getElem? h0')
    have hx : (x, NameKind.free) ∈ scope.names := by
      rcases h3 with z | z
      · rcases relabel_kind z with q | ⟨q, _⟩
        · exact absurd q (c.own x (List.mem_of_getElem? h0'))
        · cases q
      · rcases CompOk.cellIn z with q | q
        · exact q
        · exact absurd q nC
    have hk := c.fr _ hx rfl
    have h1' := c.seen _ x _ h0' hx
    obtain ⟨m, hm, hl⟩ := I.loc
    have vis : Vis X.env.scope x := by
      rcases hk with z | z
      · exact .inr (.inl z)
      · exact .inr (.inr z)
    obtain ⟨u, r, l⟩ := hl _ x v h1' h2' vis
    refine ⟨u, r, .inr ⟨?_, ?_⟩⟩
    · rcases h3 with z | z
      · rcases relabel_kind z with q | ⟨q, _⟩
        · exact absurd q (c.own x (List.mem_of_getElem? h0'))
        · cases q
      · exact z
    · rcases l with ⟨l, _⟩ | ⟨_, a, ha, hcell⟩
      · exfalso
        rcases hk with z | z
        · rw [l] at z; cases z
        · rw [l] at z; cases z
      · obtain ⟨a', ha'⟩ := cloFrom_has X.env scope.names [] x hx
        have : X.env.cells.lookup x = some a' := sub x a' ha'
        rw [ha] at this; cases this
        obtain ⟨o, e, d⟩ := hcell
        refine ⟨a, ?_, o, k _ _ e, d⟩
        show (cellsFrom (C + 1) scope.names (clo scope X.env)).lookup x = some a
        rw [cellsFrom_app, lookup_app]
        cases q : (cellsFrom (C + 1) scope.names []).lookup x with
        | some b => exact absurd (cellsFrom_mem (PySem.mem_of_lookup q)) nC
        | none => exact ha'
  · rcases blk_cells h with z | ⟨_, z⟩
    · exact ⟨none, (hO.empty _ _ z).1⟩
    · obtain ⟨v, o, e, d⟩ := I.cell x a (sub x a z)
      exact ⟨v, o, k _ _ e, d⟩
  · rcases blk_cells h with z | ⟨_, z⟩
    · exact I.hok.fresh (Nat.le_trans hC (Nat.le_of_lt (hO.empty _ _ z).2))
    · exact I.freeC x a (sub x a z)
  · show (List.replicate ts.length none ++ σ).length = (ts ++ M).length
    rw [List.length_append, List.length_append, List.length_replicate, I.len, c.len]
/-- the block ends -/
theorem Inv.comped {H' : Hp} {s' : Shared} {σ' : St} {C D : Addr} {pins' : List (Addr × Obj)} {ys : List V} (I : Inv X pins σ H s) (hf : ∀ b ∈ fp, FpOk X pins H b) (J : Inv (cxC X ts M scope C fp s H) pins' σ' H' s') (hD : s.heap.objs.size ≤ D) (hD0 : H' D = none) (hz : ys.length ≤ sizeLine) {its : List Value} {n : Nat} (rv : Vals ys its)
    (hl : s'.heap.get? D = some { cls := .type "list", data := .seq its.toArray n }) : Inv X pins σ (upd H' D (.lst ys)) s' := by
  have u := J.base
  have neD : ∀ b o, s.heap.get? b = some o → b ≠ D := fun b o e => Nat.ne_of_lt (Nat.lt_of_lt_of_le (Heap.lt_size e) hD)
  have neH : ∀ b o, H' b = some o → b ≠ D := fun b o e z => by rw [z, hD0] at e; cases e
  refine I.call' (ch := fp) J.os ⟨u.keep, u.slot, fun b o e n hb => ?_, u.there, fun b xs e => ?_, fun b o w e => ?_, fun b ps e => ?_⟩ (fun b o e => ?_) J.bare (fun b hb => ⟨(hf b hb).2.2.2.1, (hf b hb).2.1, (hf b hb).2.2.2.2.1, (hf b hb).2.2.2.2.2⟩)
  · rw [upd_ne (neD b o e)]; exact u.free b o e n hb
  · have q := u.tups b xs e
    rw [upd_ne (neH b _ q)]; exact q
  · have q := u.frzs b o w e
    rw [upd_ne (neH b _ q)]; exact q
  · obtain ⟨more, q⟩ := u.tbls b ps e
    exact ⟨more, by rw [upd_ne (neH b _ q)]; exact q⟩
  · by_cases hb : b = D
    · subst hb
      rw [upd_same] at e; cases e
      exact ⟨hz, its, n, rv, hl⟩
    · rw [upd_ne hb] at e
      refine (J.hok b o e).stay (fun _ _ _ q => q) (fun c q => ?_) fun c xs q => ?_
      · rw [upd_ne (neH c _ q)]; exact q
      · rw [upd_ne (neH c _ q)]; exact q
end
end L2


set_option Elab.async false
set_option linter.all false
set_option maxRecDepth 100000
namespace L2
open PySem PySem.Spec PyProof.Rows

/-! ### a comprehension's tests -/
def PF (X : Cx) (ifs : List Expr) (t : TT) : Prop :=
  ∀ (pins : List (Addr × Obj)) (s : Shared) (σ : St) (H : Hp) (Q : Bool → Hp → Prop), Inv X pins σ H s → t σ H Q →
    wpAny (model X.prog X.w) X.A (forIn ifs true fun c r => if r = true then do let ok ← isTrue c X.env (eval c X.env); pure (ForInStep.yield ok) else pure (ForInStep.yield r)) (TP X pins σ Q) X.xe s
def tYes : TT := fun _ H Q => Q true H
theorem pf_nil {X : Cx} : PF X [] tYes := fun _ _ _ H _ I h => wpAny_tests_nil ⟨H, I, h⟩
theorem pf_one {X : Cx} {c : Expr} {t : TT} (h : PT X c t) : PF X [c] t := fun pins s σ H Q I hq => wpAny_tests_one (h pins s σ H Q I hq)

/-! ### the loop -/
theorem compLoop_any {prog : Program} {w : World} {A : Around} {R : Result → Shared → Prop} {elt target iter : Expr} {ifs : List Expr} {scope : Scope} {pos : Pos} {it acc : Value} {env : Env} {s : Shared} (I : Nat → Shared → Prop)
    (turn : ∀ n s, I n s → wpAny (model prog w) A (pyNext it) (fun r s₁ => match r with
      | none => R (.ok .next) s₁
      | some v => wpAny (model prog w) A (letOwnedTupleGo target it v) (fun _ s₁' => wpAny (model prog w) A (assign target env v) (fun _ s₂ =>
          wpAny (model prog w) A (forIn ifs true fun c r => if r = true then do let ok ← isTrue c env (eval c env); pure (ForInStep.yield ok) else pure (ForInStep.yield r)) (fun ok s₃ =>
            if ok = true then wpAny (model prog w) A (eval elt env) (fun x s₄ =>
              wpAny (model prog w) A (call (.builtin "list.append") [acc, x]) (fun _ s₅ => ∃ m, m < n ∧ I m s₅) (fun _ _ => False) s₄) (fun _ _ => False) s₃
            else ∃ m, m < n ∧ I m s₃) (fun _ _ => False) s₂) (fun _ _ => False) s₁') (fun _ _ => False) s₁) (fun _ _ => False) s)
    (n : Nat) (h : I n s) :
    codeAny (model prog w) A (.compLoop (.ListComp elt [⟨target, iter, ifs, 0⟩] scope pos) 0 it acc env) R s := by
  refine codeAny_loop rfl I (fun n s hI => ?_) n h
  show wpAny _ A ((compTurn (.ListComp elt [⟨target, iter, ifs, 0⟩] scope pos) 0 it acc env).onRaise (fun x => do noteFrame x env; theTreesLotGoes x)) _ _ s
  refine wpAny_noted ?_
  rw [compTurn_list]
  refine wpAny_bind (wpAny_standAt (wpAny_bind (wpAny_mono (turn n s hI) (fun r s₁ h₁ => ?_) fun _ _ h' => h'.elim)))
  cases r with
  | none => exact wpAny_pure h₁
  | some v =>
    refine wpAny_bind (wpAny_mono h₁ (fun _ s₁' h₁' => ?_) fun _ _ h' => h'.elim)
    refine wpAny_bind (wpAny_mono h₁' (fun _ s₂ h₂ => wpAny_bind (wpAny_mono h₂ (fun ok s₃ h₃ => ?_) fun _ _ h' => h'.elim)) fun _ _ h' => h'.elim)
    cases ok with
    | false => exact wpAny_pure ⟨rfl, h₃⟩
    | true =>
      exact wpAny_bind (wpAny_bind (wpAny_mono h₃ (fun x s₄ h₄ => wpAny_bind (wpAny_mono h₄ (fun _ s₅ h₅ => wpAny_pure (wpAny_pure ⟨rfl, h₅⟩)) fun _ _ h' => h'.elim)) fun _ _ h' => h'.elim))

/-- what is wanted of the walk of a comprehension: W by the turn, a measure, the items so far -/
def LcW (J : It) (n : Nat) (g : TG) (tt : TT) (te : TE) (σ : St) (H1 : Hp) (Fin : List V → Hp → Prop) : Prop :=
  ∃ W : Nat → Nat → List V → Hp → Prop, (∃ m, W 0 m [] H1) ∧ ∀ i m ys H, W i m ys H → ys.length < sizeLine ∧
    ((J.stop i H ∧ Fin ys H) ∨
     (J.go i H ∧ ∃ N : List V → Hp → Prop, (∀ ys' H', N ys' H' → ∃ m', m' < m ∧ W (i + 1) m' ys' H') ∧ ∀ x H', J.yld i H x H' → g x (List.replicate n none ++ σ) H' fun σ2 H2 => σ2.drop n = σ ∧ tt σ2 H2 fun c H3 =>
        if c = true then te σ2 H3 fun y H4 => N (ys ++ [y]) H4 else N ys H3))
def tLC (n : Nat) (wi : TI) (g : TG) (tt : TT) (te : TE) : TE := fun σ H Q => wi σ H fun J H1 => LcW J n g tt te σ H1 fun ys H' => ∀ D, H' D = none → Q (.ref D) (upd H' D (.lst ys))

section
variable {X : Cx} {pins : List (Addr × Obj)} {σ : St} {H : Hp} {s : Shared} {ts M : List Str} {scope : Scope} {fp : List Addr}
theorem lc_block {tg iter elt : Expr} {ifs : List Expr} {pos : Pos} {g : TG} {tt : TT} {te : TE} (c : CompOk X ts M scope) (hc : X.calm = true) (hg : ∀ C fp s₀ H₀, PG (cxC X ts M scope C fp s₀ H₀) tg g) (hf : ∀ C fp s₀ H₀, PF (cxC X ts M scope C fp s₀ H₀) ifs tt)
    (he : ∀ C fp s₀ H₀, PE (cxC X ts M scope C fp s₀ H₀) elt te) {it : Addr} {tn : Nat → Heap → Prop} {J : It} {Fin : List V → Hp → Prop} (I : Inv X pins σ H s) (T : Turn X.prog X.w X.K tg J fp it tn) (t0 : tn 0 s.heap) (f0 : ∀ b ∈ fp, FpOk X pins H b) (hw : LcW J ts.length g tt te σ H Fin)
    {RR : Value → Addr → Result → Shared → Prop}
    (hRR : ∀ (D C : Addr) (H' : Hp) (s' : Shared) (ys : List V) (m : Str → Option Value), Inv X pins σ (upd H' D (.lst ys)) s' → s'.heap.Ns C m → C ≠ X.env.locals → (∀ x a, X.env.cells.lookup x = some a → a ≠ C) → X.s₀.heap.objs.size ≤ C → upd H' D (.lst ys) C = none → (∀ p ∈ X.pn ++ pins, p.1 ≠ C) → H' D = none → Fin ys H' → RR (.ref D) C (.ok .next) s') :
    wpAny (model X.prog X.w) X.A (newList []) (fun acc s₃ => wpAny (model X.prog X.w) X.A (newFunctionEnv scope X.env.globals (clo scope X.env) [] X.env.qual none .none (some X.env)) (fun cenv s₄ =>
      codeAny (model X.prog X.w) X.A (.compStart (.ListComp elt [⟨tg, iter, ifs, 0⟩] scope pos) 0 (.ref it) acc { cenv with scope := relabel scope X.env }) (RR acc cenv.locals) s₄) X.xe s₃) X.xe s := by
  obtain ⟨W, ⟨m0, w0⟩, turn⟩ := hw
  have fpo : ∀ b ∈ fp, b < s.heap.objs.size := fun b hb => by obtain ⟨o, e, _⟩ := T.obj _ _ t0 b hb; exact Heap.lt_size e
  refine wpAny_newObj_type (newCompEnv ?_)
  dsimp only
  generalize hH2 : s.heap.push { cls := .type "list", dict := none, data := .seq ([] : List Value).toArray } = h2
  have hCs : h2.objs.size = s.heap.objs.size + 1 := by rw [← hH2, Heap.size_push]
  obtain ⟨C, hCe⟩ : ∃ C : Nat, h2.objs.size = C := ⟨_, rfl⟩
  obtain ⟨D, hDe⟩ : ∃ D : Nat, s.heap.objs.size = D := ⟨_, rfl⟩
  have hns₁ := (Heap.Ns.new h2 (.type "dict")).keeps (pushCells_keeps scope.names (h2.push { cls := .type "dict", data := .dict #[] }))
  have ok := cellsFrom_ok scope.names (h2.push { cls := .type "dict", data := .dict #[] }) (h2.objs.size + 1) [] ⟨fun _ _ hm => (nomatch hm), List.Pairwise.nil⟩ (by rw [Heap.size_push]; exact Nat.le_refl _)
  rw [Heap.size_push] at ok
  rw [hCe] at hns₁ ok ⊢
  rw [hDe]
  rw [hCe, hDe] at hCs
  have hDC : D ≠ C := by omega
  generalize hh1 : pushCells (h2.push { cls := .type "dict", data := .dict #[] }) scope.names = h₁ at hns₁ ok ⊢
  have kp : ∀ b o, h2.get? b = some o → h₁.get? b = some o := fun b o e => by rw [← hh1]; exact pushCells_keeps _ _ b o (Heap.get?_push_of_some _ e)
  have old : ∀ b u, s.heap.get? b = some u → h₁.get? b = some u := fun b u e => kp b u (hH2 ▸ Heap.get?_push_of_some _ e)
  have hacc : h₁.get? D = some { cls := .type "list", data := .seq ([] : List Value).toArray 0 } := by
    refine kp _ _ ?_
    rw [← hH2, ← hDe]
    exact Heap.get?_push_size _ rfl
  have hns : h₁.Ns C fun _ => none := hns₁
  have hO : OwnC scope C h₁ := ⟨fun x a h => ⟨(ok.empty x a h).1, (ok.empty x a h).2⟩, ok.apart⟩
  have J0 : Inv (cxC X ts M scope C fp s H) [] (List.replicate ts.length none ++ σ) H { s with heap := h₁, toks := s.toks } := I.comp c f0 fpo (by omega) hns hO old
  have hDn : H D = none := I.hok.fresh (by omega)
  -- the loop
  have loop : codeAny (model X.prog X.w) X.A (.compLoop (.ListComp elt [⟨tg, iter, ifs, 0⟩] scope pos) 0 (.ref it) (.ref D) (compEnvC scope (cellsFrom (C + 1) scope.names (clo scope X.env)) C X.env)) (RR (.ref D) C) { s with heap := h₁, toks := s.toks } := by
    refine compLoop_any (fun n s' => ∃ (i : Nat) (σ' : St) (H' : Hp) (ys : List V) (its : List Value) (k : Nat), Inv (cxC X ts M scope C fp s H) [] σ' H' s' ∧ σ'.drop ts.length = σ ∧ tn i s'.heap ∧ (∀ b ∈ fp, H' b = none) ∧ H' D = none ∧ s'.heap.get? D = some { cls := .type "list", data := .seq its.toArray k } ∧ Vals ys its ∧ W i n ys H') ?_ m0
      ⟨0, _, H, [], [], 0, J0, by rw [List.drop_append, List.drop_of_length_le (by simp)]; simp, T.keep _ _ _ t0 fun b _ o e => old b o e, fun b hb => (f0 b hb).1, hDn, hacc, .nil, w0⟩
    rintro n s1 ⟨i, σ1, H1, ys, its, k, I1, d1, t1, fr1, hD1, hl1, rv1, w1⟩
    obtain ⟨hz, hturn⟩ := turn i n ys H1 w1
    have nDfp : D ∉ fp := fun z => by have : @LT.lt Nat _ D s.heap.objs.size := fpo D z; omega
    have neC : ∀ x a, (cellsFrom (C + 1) scope.names (clo scope X.env)).lookup x = some a → a ≠ D := fun x a h z => by
      have z : @Eq Nat a D := z
      rcases blk_cells h with h | ⟨_, h⟩
      · have := (hO.empty _ _ h).2
        omega
      · obtain ⟨v, q⟩ := I.cell x a (clo_sub (c.has I.ok) h)
        have : @LT.lt Nat _ a s.heap.objs.size := q.lt
        omega
    have pinD : ∀ {H' : Hp} {s' : Shared} {obj : Obj}, s'.heap.get? D = some obj → H' D = none → (∀ v, obj.data ≠ .cell v) → ∀ p ∈ [(D, obj)], s'.heap.get? p.1 = some p.2 ∧ H' p.1 = none ∧ p.1 ≠ (cxC X ts M scope C fp s H).env.locals ∧ p.1 ∉ (cxC X ts M scope C fp s H).fs ∧ ∀ v, p.2.data ≠ .cell v := by
      intro H' s' obj e1 e2 e3 p hp
      have hp : p = (D, obj) := by simpa using hp
      subst hp
      refine ⟨e1, e2, hDC, fun z => ?_, e3⟩
      have z : D ∈ frs X.stack := z
      rcases List.mem_cons.mp (I.stkSub D z) with e | e
      · have : @LT.lt Nat _ X.env.locals s.heap.objs.size := I.lt
        have e : @Eq Nat D X.env.locals := e
        omega
      · exact I.nofs (a := D) (by omega) e
    have I1' := I1.pins_of (pinD hl1 hD1 fun v z => by cases z)
    have fpk : ∀ {H' : Hp}, (∀ b ∈ fp, H' b = none) → ∀ b ∈ fp, FpOk (cxC X ts M scope C fp s H) [(D, { cls := .type "list", data := .seq its.toArray k })] H' b := fun {H'} fr b hb => by
      refine ⟨fr b hb, fun z => ?_, I1.ok.exfs b hb, .inl hb, fun x a h => ?_, fun p hp => ?_⟩
      · have : @LT.lt Nat _ b s.heap.objs.size := fpo b hb
        have z : @Eq Nat b C := z
        omega
      · rcases blk_cells h with h | ⟨_, h⟩
        · have h1 := (hO.empty _ _ h).2
          have h2 : @LT.lt Nat _ b s.heap.objs.size := fpo b hb
          exact Nat.ne_of_gt (by omega)
        · exact (f0 b hb).2.2.2.2.1 x a (clo_sub (c.has I.ok) h)
      · have hp : p = (D, { cls := .type "list", data := .seq its.toArray k }) := by simpa [cxC] using hp
        subst hp
        rintro rfl
        exact nDfp hb
    rcases hturn with ⟨stop, fin⟩ | ⟨go, N, hN, step⟩
    · refine wpAny_mono (T.done (cxC X ts M scope C fp s H) rfl rfl rfl hc i _ s1 σ1 H1 (fun _ _ => False) I1' (fpk fr1) t1 stop) (fun r s2 ⟨hr, I2⟩ => ?_) fun _ _ z => z
      subst hr
      have pD := I2.pin (D, { cls := .type "list", data := .seq its.toArray k }) (by simp)
      obtain ⟨m2, hn2, _⟩ := I2.loc
      refine hRR D C H1 s2 ys m2 (I.comped f0 I2 (by omega) hD1 (by omega) rv1 pD.1) hn2 ?_ (fun x a h => ?_) ?_ ?_ (fun p hp => ?_) hD1 fin
      · have : @LT.lt Nat _ X.env.locals s.heap.objs.size := I.lt
        exact Nat.ne_of_gt (by omega)
      · obtain ⟨v, q⟩ := I.cell x a h
        have : @LT.lt Nat _ a s.heap.objs.size := q.lt
        exact Nat.ne_of_lt (by omega)
      · have := I.sz; omega
      · rw [upd_ne (Ne.symm hDC)]; exact I2.free
      · have : @LT.lt Nat _ p.1 s.heap.objs.size := Heap.lt_size (I.pin p hp).1
        exact Nat.ne_of_lt (by omega)
    · refine wpAny_mono (T.item (cxC X ts M scope C fp s H) rfl rfl rfl hc i _ s1 σ1 H1 (fun _ _ => False) I1' (fpk fr1) t1 go) (fun r s2 ⟨u, hr, h2⟩ => ?_) fun _ _ z => z
      subst hr
      refine wpAny_mono h2 (fun _ s3 ⟨x, H3, I3, r3, y3, t3, fr3⟩ => ?_) fun _ _ z => z
      have I3' : Inv (cxC X ts M scope C fp s H) _ (List.replicate ts.length none ++ σ) H3 s3 := (I3.pinned (fpk fr3) (T.obj _ _ t3)).weak (by
          have := I3.len
          have e : σ1.length = (ts ++ M).length := I3.len
          rw [List.length_append, List.length_replicate, I.len, e, List.length_append, c.len]) (fun j v e => by
          have hj : ts.length ≤ j := by
            rcases Nat.lt_or_ge j ts.length with z | z
            · rw [List.getElem?_append_left (by simpa using z), List.getElem?_replicate] at e
              split at e <;> cases e
            · exact z
          rw [List.getElem?_append_right (by simpa using hj)] at e
          rw [← d1, List.getElem?_drop] at e
          simp only [List.length_replicate] at e
          rwa [show ts.length + (j - ts.length) = j by omega] at e)
      refine wpAny_mono (hg C fp s H _ s3 _ H3 x u _ I3' r3 (step x H3 y3)) (fun _ s4 ⟨σ4, H4, I4, d4, q4⟩ => ?_) fun _ _ z => z
      refine wpAny_mono (hf C fp s H _ s4 σ4 H4 _ I4 q4) (fun ok s5 ⟨H5, I5, q5⟩ => ?_) fun _ _ z => z
      have keepT : ∀ {σ7 : St} {H7 : Hp} {s7 : Shared}, Inv (cxC X ts M scope C fp s H) ([(D, { cls := .type "list", data := .seq its.toArray k })] ++ pinsAt fp s3.heap) σ7 H7 s7 → tn (i + 1) s7.heap ∧ (∀ b ∈ fp, H7 b = none) := fun {σ7 H7 s7} I7 =>
        ⟨T.keep _ _ _ t3 fun b hb o e => (I7.pin (b, o) (List.mem_append_right _ (List.mem_append_right _ (mem_pinsAt hb e)))).1, fun b hb => by
          obtain ⟨o, e, _⟩ := T.obj _ _ t3 b hb
          exact (I7.pin (b, o) (List.mem_append_right _ (List.mem_append_right _ (mem_pinsAt hb e)))).2.1⟩
      cases ok with
      | false =>
        rw [if_neg Bool.false_ne_true] at q5 ⊢
        obtain ⟨m', hm, w'⟩ := hN _ _ q5
        have pD := I5.pin (D, { cls := .type "list", data := .seq its.toArray k }) (by simp)
        exact ⟨m', hm, i + 1, σ4, H5, ys, its, k, I5.pins_of (fun p hp => by simp at hp), d4, (keepT I5).1, (keepT I5).2, pD.2.1, pD.1, rv1, w'⟩
      | true =>
        rw [if_pos rfl] at q5 ⊢
        refine wpAny_mono (he C fp s H _ s5 σ4 H5 _ I5 q5) (fun v s6 ⟨y, H6, I6, r6, q6⟩ => ?_) fun _ _ z => z
        obtain ⟨m', hm, w'⟩ := hN _ _ q6
        have pD := I6.pin (D, { cls := .type "list", data := .seq its.toArray k }) (by simp)
        have hlen := rv1.length
        refine call_meets F.slot_list_append ⟨_, pD.1, rfl⟩ F.entry_list_append (F.args_list_append_2 _ _) (PySem.list_append D its.toArray k v (by rw [List.size_toArray]; omega)) ⟨pD.1, ?_⟩
        have q := PySem.IsL.update pD.1 (·.push v)
        rw [show its.toArray.push v = (its ++ [v]).toArray by simp] at q
        have up : ∀ b o, b ≠ D → s6.heap.get? b = some o → (s6.heap.update D (Obj.mapSeq (·.push v))).get? b = some o := fun b o hb e => (Heap.get?_update_other s6.heap (Obj.mapSeq (·.push v)) (Ne.symm hb)).trans e
        have I7 : Inv (cxC X ts M scope C fp s H) [] σ4 H6 { s6 with heap := s6.heap.update D (Obj.mapSeq (·.push v)), toks := s6.toks } :=
          (I6.pins_of (pins' := []) (fun p hp => by simp at hp)).turned up pD.2.1 hDC (.inr (by show s.heap.objs.size ≤ D; omega)) (fun x a h => neC x a h) (fun p hp => by simp [cxC] at hp)
        refine ⟨m', hm, i + 1, σ4, H6, ys ++ [y], its ++ [v], _, I7, d4, ?_, (keepT I6).2, pD.2.1, q, rv1.append (.cons r6 .nil), w'⟩
        exact T.keep _ _ _ (keepT I6).1 fun b hb o e => up b o (fun z => nDfp (z ▸ hb)) e
  exact codeAny_compStart_list loop (T.self _ 0 _ _ _ (T.keep _ _ _ t0 fun b _ o e => old b o e) loop)
theorem pe_lc {tg iter elt : Expr} {ifs : List Expr} {pos : Pos} {wi : TI} {g : TG} {tt : TT} {te : TE} (c : CompOk X ts M scope) (hc : X.calm = true) (hi : PI X tg iter wi) (hg : ∀ C fp s₀ H₀, PG (cxC X ts M scope C fp s₀ H₀) tg g) (hf : ∀ C fp s₀ H₀, PF (cxC X ts M scope C fp s₀ H₀) ifs tt)
    (he : ∀ C fp s₀ H₀, PE (cxC X ts M scope C fp s₀ H₀) elt te) (hs : ∀ x, foldedSetIterable iter X.env x = pure x := by intro _; rfl) : PE X (.ListComp elt [⟨tg, iter, ifs, 0⟩] scope pos) (tLC ts.length wi g tt te) := by
  intro pins s σ H Q I h
  rw [eval_ListComp]
  refine wpAny_comprehension_free (use := none) rfl hs (cloFor (c.has I.ok)) c.kind c.loc (thn (hi pins s σ H _ I h) fun v s1 h1 => thn h1 fun itv s2 h2 => ?_)
  obtain ⟨it, fp, tn, J, H2, rfl, I2, T, t0, f0, hw⟩ := h2
  refine lc_block (RR := fun acc C => compPost (model X.prog X.w) X.A X.xe none (EP X pins σ Q) acc C) c hc hg hf he I2 T t0 f0 hw ?_
  intro D C H' s' ys m I' hn n1 n2 n3 n4 n5 hD fin
  exact ⟨m, hn, fun h' hs' => ⟨.ref D, _, I'.turned (t' := s'.toks) (fun b o hb e => (hs'.2 b hb).trans e) n4 n1 (.inr n3) n2 n5, rfl, fin D hD⟩⟩
/-- name = [..]: the name is stored ahead of the block's end -/
theorem ps_setLC {i : Nat} {x : Str} {tg iter elt : Expr} {ifs : List Expr} {pos pos' spos : Pos} {wi : TI} {g : TG} {tt : TT} {te : TE} (hN : X.N.Nodup) (hix : X.N[i]? = some x) (hx : Loc X.env.scope x) (c : CompOk X ts M scope) (hc : X.calm = true) (hi : PI X tg iter wi) (hg : ∀ C fp s₀ H₀, PG (cxC X ts M scope C fp s₀ H₀) tg g) (hf : ∀ C fp s₀ H₀, PF (cxC X ts M scope C fp s₀ H₀) ifs tt)
    (he : ∀ C fp s₀ H₀, PE (cxC X ts M scope C fp s₀ H₀) elt te) (hs : ∀ x, foldedSetIterable iter X.env x = pure x := by intro _; rfl) (hsw : swapsWith (.ListComp elt [⟨tg, iter, ifs, 0⟩] scope pos) (some (.Name x pos')) spos.line X.env = pure true := by rfl)
    (hfn : X.fn x = true ∨ X.env.scope.names.lookup x = some .local := by first | exact .inl rfl | exact .inr rfl | assumption) :
    PS X (.Assign [.Name x pos'] (.ListComp elt [⟨tg, iter, ifs, 0⟩] scope pos) spos) (tAsg (tLC ts.length wi g tt te) (gName i)) := by
  intro pins s σ H Dn I h
  rw [exec_Assign_Name_used _ _ _ _ hsw]
  refine wpAny_bind (wpAny_standAt (wpAny_bind ?_))
  show wpAny _ X.A (do let _ ← comprehension (.ListComp elt [⟨tg, iter, ifs, 0⟩] scope pos) scope X.env _ (newList []) false (eval iter X.env) (some (assign (.Name x pos') X.env))) _ _ s
  refine wpAny_bind (wpAny_mono (wpAny_comprehension_free (use := some (assign (.Name x pos') X.env)) (Q := fun _ s' => SP X pins Dn .next s') rfl hs (cloFor (c.has I.ok)) c.kind c.loc
    (thn (hi pins s σ H _ I h) fun v s1 h1 => thn h1 fun itv s2 h2 => ?_)) (fun _ s' hq => wpAny_pure (wpAny_pure hq)) fun _ _ e => e)
  obtain ⟨it, fp, tn, J, H2, rfl, I2, T, t0, f0, hw⟩ := h2
  refine lc_block (RR := fun acc C => compPost (model X.prog X.w) X.A X.xe (some (assign (.Name x pos') X.env)) (fun _ s' => SP X pins Dn .next s') acc C) c hc hg hf he I2 T t0 f0 hw ?_
  intro D C H' s' ys m I' hn n1 n2 n3 n4 n5 hD fin
  show wpAny _ X.A (assign (.Name x pos') X.env (.ref D)) _ _ _
  refine wpAny_assign_Name (store_ok2 I' hN hix hx (v := .ref D) rfl (fun s'' I'' hsb => ?_) hfn)
  obtain ⟨a, hsb, ha⟩ := hsb
  have hCa : C ≠ a := by
    rcases ha with rfl | ha
    · exact n1
    · exact (n2 x a ha).symm
  refine ⟨m, hn.sameBut hsb hCa, fun h' hs' => ⟨_, _, I''.turned (t' := s''.toks) (fun b o hb e => (hs'.2 b hb).trans e) n4 n1 (.inr n3) n2 n5, fin D hD⟩⟩
end

/-! ### the forms one uses -/
/-- a walk of n turns that a word Pv (turn, items so far, heap) goes with -/
theorem lc_by {J : It} {k n : Nat} {g : TG} {tt : TT} {te : TE} {σ : St} {H : Hp} {Fin : List V → Hp → Prop} (Pv : Nat → List V → Hp → Prop) (hk : k < sizeLine) (h0 : Pv 0 [] H) (hl : ∀ i ys H, i ≤ k → Pv i ys H → ys.length ≤ i)
    (stop : ∀ ys H, Pv k ys H → J.stop k H) (go : ∀ i ys H, i < k → Pv i ys H → J.go i H)
    (hs : ∀ i ys H, i < k → Pv i ys H → ∀ x H', J.yld i H x H' → g x (List.replicate n none ++ σ) H' fun σ2 H2 => σ2.drop n = σ ∧ tt σ2 H2 fun c H3 => if c = true then te σ2 H3 fun y H4 => Pv (i + 1) (ys ++ [y]) H4 else Pv (i + 1) ys H3)
    (hd : ∀ ys H, Pv k ys H → Fin ys H) : LcW J n g tt te σ H Fin := by
  refine ⟨fun i m ys H => m = k - i ∧ i ≤ k ∧ Pv i ys H, ⟨k, by simp, Nat.zero_le _, h0⟩, ?_⟩
  rintro i m ys H ⟨rfl, hi, p⟩
  have hz := hl i ys H hi p
  refine ⟨by omega, ?_⟩
  by_cases hlt : i < k
  · exact .inr ⟨go i ys H hlt p, Pv (i + 1), fun ys' H' q => ⟨_, (by omega : k - (i + 1) < k - i), rfl, hlt, q⟩, fun x H' y => hs i ys H hlt p x H' y⟩
  · have e : i = k := by omega
    subst e
    exact .inl ⟨stop ys H p, hd ys H p⟩
/-- over a list that the block leaves as it is -/
theorem lc_list {K : PySem.W.Frag} {a : Addr} {xs : List V} {n : Nat} {g : TG} {tt : TT} {te : TE} {σ : St} {H : Hp} {Fin : List V → Hp → Prop} (Pv : Nat → List V → Hp → Prop) (hk : xs.length < sizeLine) (h0 : Pv 0 [] H) (hl : ∀ i ys H, i ≤ xs.length → Pv i ys H → SqL K H a xs ∧ ys.length ≤ i)
    (hs : ∀ i x ys H, xs[i]? = some x → Pv i ys H → g x (List.replicate n none ++ σ) H fun σ2 H2 => σ2.drop n = σ ∧ tt σ2 H2 fun c H3 => if c = true then te σ2 H3 fun y H4 => Pv (i + 1) (ys ++ [y]) H4 else Pv (i + 1) ys H3)
    (hd : ∀ ys H, Pv xs.length ys H → Fin ys H) : LcW (Itl K a) n g tt te σ H Fin := by
  refine lc_by Pv hk h0 (fun i ys H hi p => (hl i ys H hi p).2) (fun ys H p => ⟨xs, (hl _ ys H (Nat.le_refl _) p).1, Nat.le_refl _⟩) (fun i ys H hi p => ⟨xs, xs[i], (hl i ys H (Nat.le_of_lt hi) p).1, by simp [hi]⟩) (fun i ys H hi p x H' y => ?_) hd
  obtain ⟨e, y⟩ := y
  subst e
  exact hs i x ys _ (y xs (hl i ys _ (Nat.le_of_lt hi) p).1) p
theorem lc_range {lo : Int} {k n : Nat} {g : TG} {tt : TT} {te : TE} {σ : St} {H : Hp} {Fin : List V → Hp → Prop} (Pv : Nat → List V → Hp → Prop) (hk : k < sizeLine) (h0 : Pv 0 [] H) (hl : ∀ i ys H, i ≤ k → Pv i ys H → ys.length ≤ i)
    (hs : ∀ i ys H, i < k → Pv i ys H → g (.int (lo + i)) (List.replicate n none ++ σ) H fun σ2 H2 => σ2.drop n = σ ∧ tt σ2 H2 fun c H3 => if c = true then te σ2 H3 fun y H4 => Pv (i + 1) (ys ++ [y]) H4 else Pv (i + 1) ys H3)
    (hd : ∀ ys H, Pv k ys H → Fin ys H) : LcW (Itr lo k) n g tt te σ H Fin := by
  refine lc_by Pv hk h0 hl (fun ys H p => Nat.le_refl _) (fun i ys H hi p => hi) (fun i ys H hi p x H' y => ?_) hd
  obtain ⟨e, y⟩ := y
  subst e y
  exact hs i ys _ hi p
end L2


set_option Elab.async false
set_option linter.all false
set_option maxRecDepth 100000
namespace L2
open PySem PySem.Spec PyProof.Rows

section
variable {X : Cx} {pins : List (Addr × Obj)} {σ : St} {H : Hp} {s : Shared}
/-- records of ours (at ch) have turned, and a new tuple is laid at the heap's end -/
theorem Inv.turnedT {h' : Heap} {t' : Nat} {ch : List Addr} {vs : List V} {its : List Value} (I : Inv X pins σ H s) (hf : ∀ b ∈ ch, FpOk X pins H b) (k : ∀ b o, b ∉ ch → s.heap.get? b = some o → h'.get? b = some o)
    (ht : ∀ b ∈ ch, ∃ o, h'.get? b = some o) (rv : Vals vs its) (hz : vs.length ≤ sizeLine) (new : IsTup h' s.heap.objs.size its.toArray) : Inv X pins σ (upd H s.heap.objs.size (.tup vs)) { s with heap := h', toks := t' } := by
  have hn : H s.heap.objs.size = none := I.hok.fresh (Nat.le_refl _)
  have nch : ∀ b u, H b = some u → b ∉ ch := fun b u e z => by rw [(hf b z).1] at e; cases e
  have np : ∀ b o, s.heap.get? b = some o → b ≠ s.heap.objs.size := fun b o e => Nat.ne_of_lt (Heap.lt_size e)
  refine I.step (g' := s.gens) (d' := s.drawn) (ch := ch) (fun b hb => ⟨(hf b hb).2.2.2.1, (hf b hb).2.1, (hf b hb).2.2.2.2.1, (hf b hb).2.2.2.2.2⟩) (fun b o _ _ hc e _ => k b o hc e) (fun b o _ _ hc e _ => ⟨o.slots, k b o hc e⟩) (fun b o _ e n => by rw [upd_ne (np b o e)]; exact n)
    (fun b o hc e => ⟨o, k b o hc e⟩) (fun b xs e => by rw [upd_ne (ne_of_none e hn)]; exact e) (fun b o u e => by rw [upd_ne (ne_of_none e hn)]; exact e) (fun b ps e => ⟨#[], by rw [upd_ne (ne_of_none e hn), e]; simp⟩) (fun m hm => ?_) (fun b u e => ?_) I.bare
  · obtain ⟨o, es, ep, ho, r⟩ := hm
    exact ⟨o, es, ep, k _ o (fun z => (hf _ z).2.1 rfl) ho, r⟩
  · by_cases hb : b = s.heap.objs.size
    · subst hb
      rw [upd_same] at e; cases e
      exact ⟨hz, its, rv, new⟩
    · rw [upd_ne hb] at e
      refine (I.hok b u e).stay (fun c v hc q => k c v ?_ q) (fun c q => by rw [upd_ne (ne_of_none q hn)]; exact q) fun c xs q => by rw [upd_ne (ne_of_none q hn)]; exact q
      rcases hc with z | z
      · rw [z]; exact nch b u e
      · exact nch c _ z
/-- the same, where nothing is laid that is tracked -/
theorem Inv.turnedN {h' : Heap} {t' : Nat} {ch : List Addr} (I : Inv X pins σ H s) (hf : ∀ b ∈ ch, FpOk X pins H b) (k : ∀ b o, b ∉ ch → s.heap.get? b = some o → h'.get? b = some o) : Inv X pins σ H { s with heap := h', toks := t' } := by
  have nch : ∀ b u, H b = some u → b ∉ ch := fun b u e z => by rw [(hf b z).1] at e; cases e
  refine I.step (g' := s.gens) (d' := s.drawn) (ch := ch) (fun b hb => ⟨(hf b hb).2.2.2.1, (hf b hb).2.1, (hf b hb).2.2.2.2.1, (hf b hb).2.2.2.2.2⟩) (fun b o _ _ hc e _ => k b o hc e) (fun b o _ _ hc e _ => ⟨o.slots, k b o hc e⟩) (fun b o _ e n => n)
    (fun b o hc e => ⟨o, k b o hc e⟩) (fun b xs e => e) (fun b o u e => e) (fun b ps e => ⟨#[], by rw [e]; simp⟩) (fun m hm => ?_) (fun b u e => ?_) I.bare
  · obtain ⟨o, es, ep, ho, r⟩ := hm
    exact ⟨o, es, ep, k _ o (fun z => (hf _ z).2.1 rfl) ho, r⟩
  · refine (I.hok b u e).stay (fun c v hc q => k c v ?_ q) (fun c q => q) fun c xs q => q
    rcases hc with z | z
    · rw [z]; exact nch b u e
    · exact nch c _ z
end

/-! ### enumerate over a list -/
/-- at turn i a new pair (i, the item there) -/
def Ite (K : PySem.W.Frag) (a : Addr) : It :=
  ⟨fun i H => ∃ xs x, SqL K H a xs ∧ xs[i]? = some x,
   fun i H x H' => ∃ (p : Addr) (y : V), H p = none ∧ x = .ref p ∧ H' = upd H p (.tup [.int i, y]) ∧ ∀ xs, SqL K H a xs → xs[i]? = some y,
   fun i H => ∃ xs, SqL K H a xs ∧ xs.length ≤ i⟩
theorem turn_enum {P : Program} {w : World} {K : PySem.W.Frag} {elts : List Expr} {k : Nat} {pos : Pos} (a e it : Addr) (hne : e ≠ it) :
    Turn P w K (.Tuple elts k pos) (Ite K a) [e, it] e (fun i h => (∃ old, IsEnum h e it i old) ∧ h.IsListIter it a i) where
  mem := by simp
  obj := fun i h st b hb => by
    obtain ⟨⟨old, he⟩, hi⟩ := st
    rcases List.mem_cons.mp hb with rfl | hb
    · exact ⟨_, he, fun v z => by cases z⟩
    · have e : b = it := by simpa using hb
      subst e
      obtain ⟨o, e, c, d⟩ := hi
      exact ⟨o, e, fun v z => by rw [d] at z; cases z⟩
  keep := fun i h h' st kk => by
    obtain ⟨⟨old, he⟩, hi⟩ := st
    exact ⟨⟨old, kk e (by simp) _ he⟩, hi.at fun o q => kk it (by simp) o q⟩
  item := by
    intro X hP hw hK hc i pins s σ H E I hf st hg
    subst hP hw hK
    obtain ⟨⟨old, he⟩, hi⟩ := st
    obtain ⟨xs, x, hq, hx⟩ := hg
    obtain ⟨its, rv, p, hz⟩ := I.list hq
    obtain ⟨u, hu, ru⟩ := rv.get hx
    refine wpAny_pyNext_enum_item he hi p.isList (x := u) (by simpa using hu) hne fun h1 ho hi1 htup hsz hk => ?_
    refine ⟨_, rfl, wpAny_letOwnedTupleGo_enum ho fun h2 he2 hs2 => ?_⟩
    have nez : s.heap.objs.size ≠ e := Nat.ne_of_gt (Heap.lt_size he)
    have J := I.turnedT (h' := h2) (t' := s.toks + 1) (vs := [.int i, x]) (its := [.int i s.toks, u]) (ch := [e, it]) hf (fun b o hb q => (hs2.2 b (fun z => hb (by simp [z]))).trans (hk b o (fun z => hb (by simp [z])) (fun z => hb (by simp [z])) q))
      (fun b hb => by
        rcases List.mem_cons.mp hb with rfl | hb
        · exact ⟨_, he2⟩
        · have z : b = it := by simpa using hb
          subst z
          obtain ⟨o, q, _⟩ := hi1
          exact ⟨o, (hs2.2 b (Ne.symm hne)).trans q⟩) (.cons ⟨_, rfl⟩ (.cons ru .nil)) (by show 2 ≤ sizeLine; decide) ⟨_, (hs2.2 _ nez).trans htup, rfl, _, rfl⟩
    have hn : H s.heap.objs.size = none := I.hok.fresh (Nat.le_refl _)
    refine ⟨.ref s.heap.objs.size, _, J, rfl, ⟨_, x, hn, rfl, rfl, fun ys hy => by rw [I.list_inj hy hq]; exact hx⟩, ⟨⟨_, he2⟩, ?_⟩, fun b hb => ?_⟩
    · obtain ⟨o, q, r⟩ := hi1
      exact ⟨o, (hs2.2 _ (Ne.symm hne)).trans q, r⟩
    · have z := (hf b hb).1
      rw [upd_ne]
      · exact z
      · rcases List.mem_cons.mp hb with rfl | hb
        · exact Ne.symm nez
        · have z : b = it := by simpa using hb
          subst z
          obtain ⟨o, q, _⟩ := hi
          exact Nat.ne_of_lt (Heap.lt_size q)
  done := by
    intro X hP hw hK hc i pins s σ H E I hf st hg
    subst hP hw hK
    obtain ⟨⟨old, he⟩, hi⟩ := st
    obtain ⟨xs, hq, hx⟩ := hg
    obtain ⟨its, rv, p, hz⟩ := I.list hq
    have hl := rv.length
    exact wpAny_pyNext_enum_end (I.ok.hd hc) he hi p.isList (by simp; omega) fun h' eb => ⟨rfl, I.turnedN (t' := s.toks) hf fun b o hb q => eb b o (fun z => hb (by simp [z])) q⟩
  self := fun _ _ s Q _ st h => by
    obtain ⟨⟨old, he⟩, hi⟩ := st
    exact wpAny_pyIter_enum he h

section
variable {X : Cx}
def iEnum (K : PySem.W.Frag) (ta : TA) : TI := fun σ H R => ta σ H fun vs H1 => ∃ a, vs = [.ref a] ∧ (∃ xs, SqL K H1 a xs) ∧ R (Ite K a) H1
theorem pi_enum {elts : List Expr} {k : Nat} {pos' : Pos} {a : Expr} {ta : TA} {p pos : Pos} (hg : Gl X "enumerate") (hm : X.mg "enumerate" = none) (ha : PA X [a] ta) (hs : starEach [a] X.env = [(false, eval a X.env)] := by rfl) :
    PI X (.Tuple elts k pos') (.Call (.Name "enumerate" p) [a] [] pos) (iEnum X.K ta) := by
  intro pins s σ H R I h
  refine Call_ (ld_blt I hg hm bb_enumerate (PyProof.Rows.callWith_type1 (thn (ha pos pins s σ H _ I h) fun us s1 ⟨vs, H1, I1, r1, q1⟩ => ?_) hs rfl))
  obtain ⟨l, e, ⟨xs, hq⟩, q⟩ := q1
  subst e
  obtain ⟨u, rfl, ru⟩ := r1.one
  cases ru
  obtain ⟨its, rv, pl, hz⟩ := I1.list hq
  refine call_enumerate_list pl.isList fun h' he hi hsz hk => ?_
  refine wpAny_pyIter_enum he ?_
  have hne : s1.heap.objs.size + 1 ≠ s1.heap.objs.size := Nat.succ_ne_self _
  have fr : ∀ b, s1.heap.objs.size ≤ b → H1 b = none := fun b hb => I1.hok.fresh hb
  refine ⟨_, [s1.heap.objs.size + 1, s1.heap.objs.size], _, _, H1, rfl, I1.kept (t' := s1.toks) hk, turn_enum l _ _ hne, ⟨⟨_, he⟩, hi⟩, fun b hb => ?_, q⟩
  have hb' : s1.heap.objs.size ≤ b := by
    rcases List.mem_cons.mp hb with rfl | hb
    · exact Nat.le_succ _
    · have z : b = s1.heap.objs.size := by simpa using hb
      subst z; exact Nat.le_refl _
  exact I1.fpOk hb' (fr b hb')
/-- for i, x in enumerate(..): over a list that the body leaves as it is; at each turn a new pair p -/
theorem for_enum {K : PySem.W.Frag} {a : Addr} {xs : List V} {g : TG} {tb : TS} {D : Ends} {σ : St} {H : Hp} (Pv : Nat → St → Hp → Prop) (h0 : Pv 0 σ H) (hl : ∀ i σ H, i ≤ xs.length → Pv i σ H → SqL K H a xs)
    (hs : ∀ i x σ H p, xs[i]? = some x → Pv i σ H → H p = none → g (.ref p) σ (upd H p (.tup [.int i, x])) fun σ2 H2 => tb { D with nx := Pv (i + 1), ct := Pv (i + 1), bk := D.nx } σ2 H2) (hd : ∀ σ H, Pv xs.length σ H → D.nx σ H) :
    ∃ W : Nat → Nat → St → Hp → Prop, (∃ m, W 0 m σ H) ∧ ∀ i m σ H, W i m σ H →
      ((Ite K a).stop i H ∧ D.nx σ H) ∨ ((Ite K a).go i H ∧ ∃ N : St → Hp → Prop, (∀ σ' H', N σ' H' → ∃ m', m' < m ∧ W (i + 1) m' σ' H') ∧ ∀ x H', (Ite K a).yld i H x H' → g x σ H' fun σ2 H2 => tb { D with nx := N, ct := N, bk := D.nx } σ2 H2) := by
  refine ⟨fun i m σ H => m = xs.length - i ∧ i ≤ xs.length ∧ Pv i σ H, ⟨xs.length, by simp, Nat.zero_le _, h0⟩, ?_⟩
  rintro i m σ H ⟨rfl, hi, p⟩
  have q := hl i σ H hi p
  by_cases hlt : i < xs.length
  · refine .inr ⟨⟨xs, xs[i], q, by simp [hlt]⟩, Pv (i + 1), fun σ' H' p' => ⟨_, (by omega : xs.length - (i + 1) < xs.length - i), rfl, hlt, p'⟩, fun x H' y => ?_⟩
    obtain ⟨pp, z, hp, rfl, rfl, y⟩ := y
    exact hs i z σ H pp (y xs q) p hp
  · have e : i = xs.length := by omega
    subst e
    exact .inl ⟨⟨xs, q, Nat.le_refl _⟩, hd σ H p⟩
theorem lc_enum {K : PySem.W.Frag} {a : Addr} {xs : List V} {n : Nat} {g : TG} {tt : TT} {te : TE} {σ : St} {H : Hp} {Fin : List V → Hp → Prop} (Pv : Nat → List V → Hp → Prop) (hk : xs.length < sizeLine) (h0 : Pv 0 [] H) (hl : ∀ i ys H, i ≤ xs.length → Pv i ys H → SqL K H a xs ∧ ys.length ≤ i)
    (hs : ∀ i x ys H p, xs[i]? = some x → Pv i ys H → H p = none → g (.ref p) (List.replicate n none ++ σ) (upd H p (.tup [.int i, x])) fun σ2 H2 => σ2.drop n = σ ∧ tt σ2 H2 fun c H3 => if c = true then te σ2 H3 fun y H4 => Pv (i + 1) (ys ++ [y]) H4 else Pv (i + 1) ys H3)
    (hd : ∀ ys H, Pv xs.length ys H → Fin ys H) : LcW (Ite K a) n g tt te σ H Fin := by
  refine lc_by Pv hk h0 (fun i ys H hi p => (hl i ys H hi p).2) (fun ys H p => ⟨xs, (hl _ ys H (Nat.le_refl _) p).1, Nat.le_refl _⟩) (fun i ys H hi p => ⟨xs, xs[i], (hl i ys H (Nat.le_of_lt hi) p).1, by simp [hi]⟩) (fun i ys H hi p x H' y => ?_) hd
  obtain ⟨pp, z, hp, rfl, rfl, y⟩ := y
  exact hs i z ys H pp (y xs (hl i ys _ (Nat.le_of_lt hi) p).1) p hp
end

/-! ### zip over two lists or tuples -/
/-- a list (true) or a tuple (false), its iterator -/
def SIter (b : Bool) (h : Heap) (it l : Addr) (i : Nat) : Prop := if b = true then h.IsListIter it l i else h.IsTupleIter it l i
def SSeq (b : Bool) (h : Heap) (l : Addr) (items : Array Value) : Prop := if b = true then h.IsList l items else h.IsTuple l items
theorem SIter.at' {b : Bool} {h h' : Heap} {it l : Addr} {i : Nat} (x : SIter b h it l i) (k : ∀ o, h.get? it = some o → h'.get? it = some o) : SIter b h' it l i := by
  cases b with
  | true => exact Heap.IsListIter.at (show h.IsListIter it l i from x) k
  | false => exact Heap.IsTupleIter.at (show h.IsTupleIter it l i from x) k
theorem SIter.here {b : Bool} {h : Heap} {it l : Addr} {i : Nat} (x : SIter b h it l i) : ∃ o, h.get? it = some o ∧ ∀ v, o.data ≠ .cell v := by
  cases b with
  | true =>
    obtain ⟨o, e, c, d⟩ := (show h.IsListIter it l i from x)
    exact ⟨o, e, fun v z => by rw [d] at z; cases z⟩
  | false =>
    obtain ⟨o, e, c, d⟩ := (show h.IsTupleIter it l i from x)
    exact ⟨o, e, fun v z => by rw [d] at z; cases z⟩
theorem SSeq.at' {b : Bool} {h h' : Heap} {l : Addr} {items : Array Value} (x : SSeq b h l items) (k : ∀ o, h.get? l = some o → h'.get? l = some o) : SSeq b h' l items := by
  cases b with
  | true => obtain ⟨o, e, r⟩ := (show h.IsList l items from x); exact ⟨o, k o e, r⟩
  | false => obtain ⟨o, e, r⟩ := (show h.IsTuple l items from x); exact ⟨o, k o e, r⟩
section
variable {prog : Program} {w : World} {A : Around} {E : Value → Shared → Prop} {s : Shared}
theorem nextOf_tuple_item {it l : Addr} {i : Nat} {items : Array Value} {x : Value} {Q : Value → Shared → Prop} (hit : s.heap.IsTupleIter it l i) (hl : s.heap.IsTuple l items) (hx : items[i]? = some x)
    (hQ : ∀ h', h'.IsTupleIter it l (i + 1) → Heap.SameBut it s.heap h' → Q x { s with heap := h' }) : wpAny (model prog w) A (Builtin.SmallTypes.nextOf (.ref it)) Q E s := by
  obtain ⟨o, ho, hc, hd⟩ := id hit
  obtain ⟨ol, hol, _, nl, hdl⟩ := hl
  unfold Builtin.SmallTypes.nextOf
  refine wpAny_bind (wpAny_callSpecial?_slot (name := Str.ofString "__next__") hit.typeIs F.slot_tuple_iterator_next (wpAny_call_entry F.slot_tuple_iterator_next hit.typeIs F.entry_tuple_iterator_next ?_ (F.args_tuple_iterator_next_1 _)))
  show wpAny _ _ (field (.ref it) 0 >>= _) _ _ s
  refine wpAny_bind (wpAny_field ho hd (x := .ref l) rfl ?_)
  show wpAny _ _ (if (Value.ref l == Value.none) = true then _ else _) _ _ s
  rw [if_neg (by simp : ¬ ((Value.ref l == Value.none) = true))]
  show wpAny _ _ (field (.ref it) 1 >>= _) _ _ s
  refine wpAny_bind (wpAny_field ho hd (x := .int i 0) rfl ?_)
  show wpAny _ _ (seqItems? (.ref l) >>= _) _ _ s
  refine wpAny_bind (wpAny_seqItems hol hdl ?_)
  simp only [Int.toNat_natCast, hx]
  refine wpAny_bind (wpAny_setField ho hd (by simp) (wpAny_pure ⟨x, rfl, wpAny_pure (hQ _ ?_ (Heap.SameBut.update ..))⟩))
  exact ⟨_, Heap.get?_update_self _ ho (Obj.isFreed_of_fields (Obj.data_mapFields hd _)), (Obj.cls_mapFields ..).trans hc, by rw [Obj.data_mapFields hd]; simp [rawInt]⟩
end
end L2


set_option Elab.async false
set_option linter.all false
set_option maxRecDepth 100000
namespace L2
open PySem PySem.Spec PyProof.Rows
section
variable {prog : Program} {w : World} {A : Around} {E : Value → Shared → Prop} {s : Shared}
theorem nextOf_tuple_end {it l : Addr} {i : Nat} {items : Array Value} {Q : Value → Shared → Prop} (hh : A.handled = none) (hit : s.heap.IsTupleIter it l i) (hl : s.heap.IsTuple l items) (hx : items[i]? = none)
    (hE : ∀ h' e, Heap.ExtBut it s.heap h' → (∃ o, h'.get? e = some o ∧ o.cls = .type "StopIteration") → E (.ref e) { s with heap := h' }) : wpAny (model prog w) A (Builtin.SmallTypes.nextOf (.ref it)) Q E s := by
  obtain ⟨o, ho, hc, hd⟩ := id hit
  obtain ⟨ol, hol, _, nl, hdl⟩ := hl
  unfold Builtin.SmallTypes.nextOf
  refine wpAny_bind (wpAny_callSpecial?_slot (name := Str.ofString "__next__") hit.typeIs F.slot_tuple_iterator_next (wpAny_call_entry F.slot_tuple_iterator_next hit.typeIs F.entry_tuple_iterator_next ?_ (F.args_tuple_iterator_next_1 _)))
  show wpAny _ _ (field (.ref it) 0 >>= _) _ _ s
  refine wpAny_bind (wpAny_field ho hd (x := .ref l) rfl ?_)
  show wpAny _ _ (if (Value.ref l == Value.none) = true then _ else _) _ _ s
  rw [if_neg (by simp : ¬ ((Value.ref l == Value.none) = true))]
  show wpAny _ _ (field (.ref it) 1 >>= _) _ _ s
  refine wpAny_bind (wpAny_field ho hd (x := .int i 0) rfl ?_)
  show wpAny _ _ (seqItems? (.ref l) >>= _) _ _ s
  refine wpAny_bind (wpAny_seqItems hol hdl ?_)
  simp only [Int.toNat_natCast, hx]
  refine wpAny_bind (wpAny_rule (wpAny_bind (wpAny_setField ho hd (by simp) ?_)))
  show wpAny _ _ (newExc (.type "StopIteration") [] >>= _) _ _ _
  refine wpAny_bind ?_
  simp only [newExc, newTuple]
  refine wpAny_bind (wpAny_newObj_type ?_ (by size_fits))
  refine wpAny_bind (m := firstArgMember _ _) (wpAny_of_eq (a := Value.none) (by first | rfl | (simp only [firstArgMember]; rfl)) ?_)
  refine wpAny_newObj_type ?_ (by size_fits)
  simp only [raiseNew]
  refine wpAny_bind (wpAny_handled ?_)
  first | rw [show A.in1.handled = none from hh] | rw [hh]
  refine wpAny_bind (wpAny_pure (wpAny_throw ?_))
  exact hE _ _ (((Heap.SameBut.update ..).extBut.push _).push _) ⟨_, Heap.get?_push_size _ rfl, rfl⟩
theorem nextOf_item {b : Bool} {it l : Addr} {i : Nat} {items : Array Value} {x : Value} {Q : Value → Shared → Prop} (hit : SIter b s.heap it l i) (hl : SSeq b s.heap l items) (hx : items[i]? = some x)
    (hQ : ∀ h', SIter b h' it l (i + 1) → Heap.SameBut it s.heap h' → Q x { s with heap := h' }) : wpAny (model prog w) A (Builtin.SmallTypes.nextOf (.ref it)) Q E s := by
  cases b with
  | true => exact wpAny_nextOf_list_item (show s.heap.IsListIter it l i from hit) (show s.heap.IsList l items from hl) hx fun h' a b => hQ h' a b
  | false => exact nextOf_tuple_item (show s.heap.IsTupleIter it l i from hit) (show s.heap.IsTuple l items from hl) hx fun h' a b => hQ h' a b
theorem nextOf_end {b : Bool} {it l : Addr} {i : Nat} {items : Array Value} {Q : Value → Shared → Prop} (hh : A.handled = none) (hit : SIter b s.heap it l i) (hl : SSeq b s.heap l items) (hx : items[i]? = none)
    (hE : ∀ h' e, Heap.ExtBut it s.heap h' → (∃ o, h'.get? e = some o ∧ o.cls = .type "StopIteration") → E (.ref e) { s with heap := h' }) : wpAny (model prog w) A (Builtin.SmallTypes.nextOf (.ref it)) Q E s := by
  cases b with
  | true => exact wpAny_nextOf_list_end hh (show s.heap.IsListIter it l i from hit) (show s.heap.IsList l items from hl) hx hE
  | false => exact nextOf_tuple_end hh (show s.heap.IsTupleIter it l i from hit) (show s.heap.IsTuple l items from hl) hx hE

/-- the addresses of a zip of two things -/
structure ZA (z TI TO i1 i2 l1 l2 : Addr) : Prop where
  a : ZipApart z TI TO i1 i2 l1 l2
theorem zipS_next_item {b1 b2 : Bool} {z TI TO i1 i2 l1 l2 : Addr} {k1 k2 : Nat} {xs ys : Array Value} {x y a b : Value} {Q : Value → Shared → Prop} (D : ZipApart z TI TO i1 i2 l1 l2)
    (hz : IsZip s.heap z TI TO .none) (hTI : IsPair s.heap TI (.ref i1) (.ref i2)) (hTO : IsPair s.heap TO a b) (h1 : SIter b1 s.heap i1 l1 k1) (h2 : SIter b2 s.heap i2 l2 k2) (hl1 : SSeq b1 s.heap l1 xs) (hl2 : SSeq b2 s.heap l2 ys) (hx : xs[k1]? = some x) (hy : ys[k2]? = some y)
    (hQ : ∀ h', IsZip h' z TI TO (rawInt s.heap.objs.size) → IsPair h' TO x y → SIter b1 h' i1 l1 (k1 + 1) → SIter b2 h' i2 l2 (k2 + 1) → IsPair h' s.heap.objs.size x y → h'.objs.size = s.heap.objs.size + 1 →
      (∀ c o, c ≠ z → c ≠ TO → c ≠ i1 → c ≠ i2 → s.heap.get? c = some o → h'.get? c = some o) → Q (.ref s.heap.objs.size) { s with heap := h' }) :
    wpAny (model prog w) A (Builtin.«zip.__next__» ⟨[.ref z], []⟩) (fun fin s' => ∃ v, fin = .done (.ret v) ∧ Q v s') E s := by
  show wpAny _ _ (field (.ref z) 2 >>= _) _ _ _
  refine wpAny_bind (wpAny_field hz rfl (x := .bool false) rfl ?_)
  show wpAny _ _ (field (.ref z) 3 >>= _) _ _ _
  refine wpAny_bind (wpAny_field hz rfl (x := .ref TI) rfl ?_)
  refine wpAny_bind (wpAny_seqItems hTI rfl ?_)
  show wpAny _ _ (Builtin.SmallTypes.ownedTupleIsFree (.ref z) >>= _) _ _ _
  refine wpAny_bind ?_
  unfold Builtin.SmallTypes.ownedTupleIsFree
  refine wpAny_bind (wpAny_field hz rfl (x := .none) rfl (wpAny_pure ?_))
  simp only [if_true]
  refine wpAny_bind (wpAny_rule ?_)
  refine wpAny_bind (wpAny_field hz rfl (x := .ref TO) rfl ?_)
  refine wpAny_bind (wpAny_setField_rec hz (by simp) fun h₁ hz₁ hs₁ => ?_)
  replace hz₁ : IsZip h₁ z TI TO .ellipsis := hz₁
  refine wpAny_bind ?_
  simp only [List.zipIdx_cons, List.zipIdx_nil, List.forIn_cons, List.forIn_nil]
  refine wpAny_bind (wpAny_bind (wpAny_onRaise ?_))
  show wpAny _ _ (Builtin.SmallTypes.nextOf (.ref i1) >>= _) _ _ _
  refine wpAny_bind (nextOf_item (h1.at' fun o e => hs₁.extBut _ _ D.i1z e) (hl1.at' fun o e => hs₁.extBut _ _ D.l1z e) hx fun h₂ h1₂ hs₂ => wpAny_pure ?_)
  have hTO₂ : IsPair h₂ TO a b := hs₂.extBut _ _ D.TOi1 (hs₁.extBut _ _ D.TOz hTO)
  refine wpAny_bind (wpAny_seqItems hTO₂ rfl ?_)
  refine wpAny_bind (wpAny_updateSeq_pair hTO₂ fun h₃ hTO₃ hs₃ => ?_)
  replace hTO₃ : IsPair h₃ TO x b := hTO₃
  refine wpAny_bind (wpAny_letGo (wpAny_pure ?_))
  refine wpAny_bind (wpAny_bind (wpAny_onRaise ?_))
  show wpAny _ _ (Builtin.SmallTypes.nextOf (.ref i2) >>= _) _ _ _
  refine wpAny_bind (nextOf_item (h2.at' fun o e => hs₃.extBut _ _ D.TOi2.symm (hs₂.extBut _ _ D.i12.symm (hs₁.extBut _ _ D.i2z e))) (hl2.at' fun o e => hs₃.extBut _ _ D.l2TO (hs₂.extBut _ _ D.l2i1 (hs₁.extBut _ _ D.l2z e))) hy fun h₄ h2₄ hs₄ => wpAny_pure ?_)
  have hTO₄ : IsPair h₄ TO x b := hs₄.extBut _ _ D.TOi2 hTO₃
  refine wpAny_bind (wpAny_seqItems hTO₄ rfl ?_)
  refine wpAny_bind (wpAny_updateSeq_pair hTO₄ fun h₅ hTO₅ hs₅ => ?_)
  replace hTO₅ : IsPair h₅ TO x y := hTO₅
  refine wpAny_bind (wpAny_letGo (wpAny_pure (wpAny_pure ?_)))
  refine wpAny_bind (wpAny_seqItems hTO₅ rfl ?_)
  refine wpAny_bind (wpAny_newTuple ?_)
  have hsz : h₅.objs.size = s.heap.objs.size := by rw [hs₅.1, hs₄.1, hs₃.1, hs₂.1, hs₁.1]
  have hz₅ : IsZip h₅ z TI TO .ellipsis := hs₅.extBut _ _ D.TOz.symm (hs₄.extBut _ _ D.i2z.symm (hs₃.extBut _ _ D.TOz.symm (hs₂.extBut _ _ D.i1z.symm hz₁)))
  have hk₅ : ∀ c o, c ≠ z → c ≠ TO → c ≠ i1 → c ≠ i2 → s.heap.get? c = some o → h₅.get? c = some o := fun c o c1 c2 c3 c4 e => hs₅.extBut _ _ c2 (hs₄.extBut _ _ c4 (hs₃.extBut _ _ c2 (hs₂.extBut _ _ c3 (hs₁.extBut _ _ c1 e))))
  have h1₅ : SIter b1 h₅ i1 l1 (k1 + 1) := h1₂.at' fun o e => hs₅.extBut _ _ D.TOi1.symm (hs₄.extBut _ _ D.i12 (hs₃.extBut _ _ D.TOi1.symm e))
  have h2₅ : SIter b2 h₅ i2 l2 (k2 + 1) := h2₄.at' fun o e => hs₅.extBut _ _ D.TOi2.symm e
  have hzlt : z < h₅.objs.size := Heap.lt_size hz₅
  show wpAny _ _ (Builtin.SmallTypes.ownedTupleHandOut (.ref z) (.ref h₅.objs.size) >>= _) _ _ _
  refine wpAny_bind ?_
  unfold Builtin.SmallTypes.ownedTupleHandOut
  have hz₆ : IsZip (h₅.push { cls := .type "tuple", data := .seq #[x, y] }) z TI TO .ellipsis := Heap.get?_push_of_some _ hz₅
  refine wpAny_bind (wpAny_setField_rec hz₆ (by simp) fun h₇ hz₇ hs₇ => ?_)
  replace hz₇ : IsZip h₇ z TI TO (rawInt h₅.objs.size) := hz₇
  refine wpAny_setField_rec hz₇ (by simp) fun h₈ hz₈ hs₈ => ?_
  replace hz₈ : IsZip h₈ z TI TO (rawInt h₅.objs.size) := hz₈
  have up : ∀ c o, c ≠ z → h₅.get? c = some o → h₈.get? c = some o := fun c o c1 e => hs₈.extBut _ _ c1 (hs₇.extBut _ _ c1 (Heap.get?_push_of_some _ e))
  have hT₈ : IsPair h₈ h₅.objs.size x y := hs₈.extBut _ _ (Nat.ne_of_gt hzlt) (hs₇.extBut _ _ (Nat.ne_of_gt hzlt) (Heap.get?_push_size _ rfl))
  have hz8 : h₈.objs.size = h₅.objs.size + 1 := by rw [hs₈.1, hs₇.1, Heap.size_push]
  rw [hsz] at hz₈ hT₈ hz8
  refine wpAny_pure ⟨_, rfl, ?_⟩
  show Q (.ref h₅.objs.size) _
  rw [hsz]
  exact hQ h₈ hz₈ (up _ _ D.TOz hTO₅) (h1₅.at' fun o e => up _ o D.i1z e) (h2₅.at' fun o e => up _ o D.i2z e) hT₈ hz8 fun c o c1 c2 c3 c4 e => up c o c1 (hk₅ c o c1 c2 c3 c4 e)
theorem zipS_next_end {b1 b2 : Bool} {z TI TO i1 i2 l1 l2 : Addr} {k1 k2 : Nat} {xs ys : Array Value} {a b : Value} {Q : Fin → Shared → Prop} (hh : A.handled = none) (D : ZipApart z TI TO i1 i2 l1 l2)
    (hz : IsZip s.heap z TI TO .none) (hTI : IsPair s.heap TI (.ref i1) (.ref i2)) (hTO : IsPair s.heap TO a b) (h1 : SIter b1 s.heap i1 l1 k1) (h2 : SIter b2 s.heap i2 l2 k2) (hl1 : SSeq b1 s.heap l1 xs) (hl2 : SSeq b2 s.heap l2 ys) (hend : xs[k1]? = none ∨ ys[k2]? = none)
    (hE : ∀ h' e, (∀ c o, c ≠ z → c ≠ TO → c ≠ i1 → c ≠ i2 → s.heap.get? c = some o → h'.get? c = some o) → (∃ o, h'.get? e = some o ∧ o.cls = .type "StopIteration") → E (.ref e) { s with heap := h' }) :
    wpAny (model prog w) A (Builtin.«zip.__next__» ⟨[.ref z], []⟩) Q E s := by
  show wpAny _ _ (field (.ref z) 2 >>= _) _ _ _
  refine wpAny_bind (wpAny_field hz rfl (x := .bool false) rfl ?_)
  show wpAny _ _ (field (.ref z) 3 >>= _) _ _ _
  refine wpAny_bind (wpAny_field hz rfl (x := .ref TI) rfl ?_)
  refine wpAny_bind (wpAny_seqItems hTI rfl ?_)
  show wpAny _ _ (Builtin.SmallTypes.ownedTupleIsFree (.ref z) >>= _) _ _ _
  refine wpAny_bind ?_
  unfold Builtin.SmallTypes.ownedTupleIsFree
  refine wpAny_bind (wpAny_field hz rfl (x := .none) rfl (wpAny_pure ?_))
  simp only [if_true]
  refine wpAny_bind (wpAny_rule ?_)
  refine wpAny_bind (wpAny_field hz rfl (x := .ref TO) rfl ?_)
  refine wpAny_bind (wpAny_setField_rec hz (by simp) fun h₁ hz₁ hs₁ => ?_)
  replace hz₁ : IsZip h₁ z TI TO .ellipsis := hz₁
  refine wpAny_bind ?_
  simp only [List.zipIdx_cons, List.zipIdx_nil, List.forIn_cons, List.forIn_nil]
  refine wpAny_bind (wpAny_bind (wpAny_onRaise ?_))
  show wpAny _ _ (Builtin.SmallTypes.nextOf (.ref i1) >>= _) _ _ _
  have h1₁ := h1.at' (h' := h₁) fun o e => hs₁.extBut _ _ D.i1z e
  have hl1₁ := hl1.at' (h' := h₁) fun o e => hs₁.extBut _ _ D.l1z e
  cases hx : xs[k1]? with
  | none =>
    refine wpAny_bind (nextOf_end hh h1₁ hl1₁ hx fun h₂ e hs₂ he => ?_)
    obtain ⟨oe, hoe, hce⟩ := he
    have hz₂ : IsZip h₂ z TI TO .ellipsis := hs₂ _ _ D.i1z.symm hz₁
    have hez : e ≠ z := fun x => by subst x; rw [hz₂] at hoe; cases hoe; simp at hce
    exact wpAny_setField_rec hz₂ (by simp) fun h₃ _ hs₃ => hE h₃ e (fun c o c1 _ c3 _ x => hs₃.extBut _ _ c1 (hs₂ _ _ c3 (hs₁.extBut _ _ c1 x))) ⟨oe, hs₃.extBut _ _ hez hoe, hce⟩
  | some x =>
    have hy : ys[k2]? = none := by rcases hend with h | h; rw [hx] at h; cases h; exact h
    refine wpAny_bind (nextOf_item h1₁ hl1₁ hx fun h₂ h1₂ hs₂ => wpAny_pure ?_)
    have hTO₂ : IsPair h₂ TO a b := hs₂.extBut _ _ D.TOi1 (hs₁.extBut _ _ D.TOz hTO)
    refine wpAny_bind (wpAny_seqItems hTO₂ rfl ?_)
    refine wpAny_bind (wpAny_updateSeq_pair hTO₂ fun h₃ hTO₃ hs₃ => ?_)
    refine wpAny_bind (wpAny_letGo (wpAny_pure ?_))
    refine wpAny_bind (wpAny_bind (wpAny_onRaise ?_))
    show wpAny _ _ (Builtin.SmallTypes.nextOf (.ref i2) >>= _) _ _ _
    refine wpAny_bind (nextOf_end hh (h2.at' fun o e => hs₃.extBut _ _ D.TOi2.symm (hs₂.extBut _ _ D.i12.symm (hs₁.extBut _ _ D.i2z e))) (hl2.at' fun o e => hs₃.extBut _ _ D.l2TO (hs₂.extBut _ _ D.l2i1 (hs₁.extBut _ _ D.l2z e))) hy fun h₄ e hs₄ he => ?_)
    obtain ⟨oe, hoe, hce⟩ := he
    have hz₄ : IsZip h₄ z TI TO .ellipsis := hs₄ _ _ D.i2z.symm (hs₃.extBut _ _ D.TOz.symm (hs₂.extBut _ _ D.i1z.symm hz₁))
    have hez : e ≠ z := fun x => by subst x; rw [hz₄] at hoe; cases hoe; simp at hce
    exact wpAny_setField_rec hz₄ (by simp) fun h₅ _ hs₅ => hE h₅ e (fun c o c1 c2 c3 c4 x => hs₅.extBut _ _ c1 (hs₄ _ _ c4 (hs₃.extBut _ _ c2 (hs₂.extBut _ _ c3 (hs₁.extBut _ _ c1 x))))) ⟨oe, hs₅.extBut _ _ hez hoe, hce⟩
theorem pyIter_S {b : Bool} {l : Addr} {items : Array Value} {Q : Value → Shared → Prop} (hl : SSeq b s.heap l items)
    (hQ : Q (.ref s.heap.objs.size) { s with heap := s.heap.push { cls := .type (if b = true then "list_iterator" else "tuple_iterator"), data := .fields #[.ref l, .int 0 0] } }) : wpAny (model prog w) A (pyIter (.ref l)) Q E s := by
  cases b with
  | true => exact wpAny_pyIter_list (show s.heap.IsList l items from hl) hQ
  | false => exact wpAny_pyIter_tuple (show s.heap.IsTuple l items from hl) hQ
theorem SIter.new {b : Bool} {h : Heap} {l : Addr} : SIter b (h.push { cls := .type (if b = true then "list_iterator" else "tuple_iterator"), data := .fields #[.ref l, .int 0 0] }) h.objs.size l 0 := by
  cases b with
  | true => exact ⟨_, Heap.get?_push_size _ rfl, rfl, rfl⟩
  | false => exact ⟨_, Heap.get?_push_size _ rfl, rfl, rfl⟩
theorem SSeq.push {b : Bool} {h : Heap} {l : Addr} {items : Array Value} {o : Obj} (x : SSeq b h l items) : SSeq b (h.push o) l items := x.at' fun _ e => Heap.get?_push_of_some _ e
abbrev zpH1 (b1 : Bool) (h : Heap) (l1 : Addr) : Heap := h.push { cls := .type (if b1 = true then "list_iterator" else "tuple_iterator"), data := .fields #[.ref l1, .int 0 0] }
abbrev zpH2 (b1 b2 : Bool) (h : Heap) (l1 l2 : Addr) : Heap := (zpH1 b1 h l1).push { cls := .type (if b2 = true then "list_iterator" else "tuple_iterator"), data := .fields #[.ref l2, .int 0 0] }
abbrev zpH3 (b1 b2 : Bool) (h : Heap) (l1 l2 : Addr) : Heap := (zpH2 b1 b2 h l1 l2).push { cls := .type "tuple", data := .seq #[.ref h.objs.size, .ref (zpH1 b1 h l1).objs.size] }
abbrev zpH4 (b1 b2 : Bool) (h : Heap) (l1 l2 : Addr) : Heap := (zpH3 b1 b2 h l1 l2).push { cls := .type "tuple", data := .seq #[.none, .none] }
abbrev zpH5 (b1 b2 : Bool) (h : Heap) (l1 l2 : Addr) : Heap := (zpH4 b1 b2 h l1 l2).push { cls := .type "zip", data := .fields #[.none, .bool false, .bool false, .ref (zpH2 b1 b2 h l1 l2).objs.size, .ref (zpH3 b1 b2 h l1 l2).objs.size] }
theorem meets_zipS_new (b1 b2 : Bool) (l1 l2 : Addr) (xs ys : Array Value) :
    Meets (Builtin.«zip.__new__» ⟨[.type "zip", .ref l1, .ref l2], []⟩) (fun _ R s => SSeq b1 s.heap l1 xs ∧ SSeq b2 s.heap l2 ys ∧
      R (.ok (.ret (.ref (zpH4 b1 b2 s.heap l1 l2).objs.size))) { s with heap := zpH5 b1 b2 s.heap l1 l2 }) :=
  .of_wp fun prog w A R s h => by
    obtain ⟨hp, g, d, tk, os⟩ := s; obtain ⟨hl1, hl2, h⟩ := h
    have hsub := sub_zip
    have hL1 : SSeq b1 (Shared.heap ⟨hp, g, d, tk, os⟩) l1 xs := hl1
    have hL2 : SSeq b2 (Shared.heap ⟨zpH1 b1 hp l1, g, d, tk, os⟩) l2 ys := SSeq.push hl2
    wp_walk using pyIter_S hL1, pyIter_S hL2
    exact ⟨_, rfl, h⟩
end
end L2


set_option Elab.async false
set_option linter.all false
set_option maxRecDepth 100000
namespace L2
open PySem PySem.Spec PyProof.Rows
section
variable {prog : Program} {w : World} {A : Around} {E : Value → Shared → Prop} {s : Shared}
theorem call_zipS {b1 b2 : Bool} {l1 l2 : Addr} {xs ys : Array Value} {Q : Value → Shared → Prop} (hl1 : SSeq b1 s.heap l1 xs) (hl2 : SSeq b2 s.heap l2 ys)
    (h : ∀ h', IsZip h' (s.heap.objs.size + 4) (s.heap.objs.size + 2) (s.heap.objs.size + 3) .none → IsPair h' (s.heap.objs.size + 2) (.ref s.heap.objs.size) (.ref (s.heap.objs.size + 1)) →
      IsPair h' (s.heap.objs.size + 3) .none .none → SIter b1 h' s.heap.objs.size l1 0 → SIter b2 h' (s.heap.objs.size + 1) l2 0 →
      (∀ c o, s.heap.get? c = some o → h'.get? c = some o) → Q (.ref (s.heap.objs.size + 4)) { s with heap := h' }) :
    wpAny (model prog w) A (call (.type "zip") [.ref l1, .ref l2]) Q E s := by
  refine callType_new F.called_zip (by decide) (F.typeCall_zip_2 _ _) (F.newCall_zip_2 _ _) (fun obj => F.args_object_init_3 obj _ _) F.entry_zip_new (meets_zipS_new b1 b2 l1 l2 xs ys) ⟨hl1, hl2, ?_⟩
  have z1 : (zpH1 b1 s.heap l1).objs.size = s.heap.objs.size + 1 := Heap.size_push ..
  have z2 : (zpH2 b1 b2 s.heap l1 l2).objs.size = s.heap.objs.size + 2 := by rw [Heap.size_push, z1]
  have z3 : (zpH3 b1 b2 s.heap l1 l2).objs.size = s.heap.objs.size + 3 := by rw [Heap.size_push, z2]
  have z4 : (zpH4 b1 b2 s.heap l1 l2).objs.size = s.heap.objs.size + 4 := by rw [Heap.size_push, z3]
  have g5 : (zpH5 b1 b2 s.heap l1 l2).get? (zpH4 b1 b2 s.heap l1 l2).objs.size = some _ := Heap.get?_push_size _ rfl
  have g4 : (zpH5 b1 b2 s.heap l1 l2).get? (zpH3 b1 b2 s.heap l1 l2).objs.size = some _ := Heap.get?_push_of_some _ (Heap.get?_push_size _ rfl)
  have g3 : (zpH5 b1 b2 s.heap l1 l2).get? (zpH2 b1 b2 s.heap l1 l2).objs.size = some _ := Heap.get?_push_of_some _ (Heap.get?_push_of_some _ (Heap.get?_push_size _ rfl))
  have up2 : ∀ c o, (zpH2 b1 b2 s.heap l1 l2).get? c = some o → (zpH5 b1 b2 s.heap l1 l2).get? c = some o := fun c o e => Heap.get?_push_of_some _ (Heap.get?_push_of_some _ (Heap.get?_push_of_some _ e))
  have g2 : SIter b2 (zpH5 b1 b2 s.heap l1 l2) (zpH1 b1 s.heap l1).objs.size l2 0 := SIter.new.at' fun o e => up2 _ o e
  have g1 : SIter b1 (zpH5 b1 b2 s.heap l1 l2) s.heap.objs.size l1 0 := SIter.new.at' fun o e => up2 _ o (Heap.get?_push_of_some _ e)
  show _ ∧ _
  rw [z2, z3, z4] at g5
  rw [z1, z2] at g3
  rw [z3] at g4
  rw [z1] at g2
  rw [z4]
  exact ⟨⟨_, g5, rfl⟩, h _ g5 g3 g4 g1 g2 fun c o x => up2 c o (Heap.get?_push_of_some _ (Heap.get?_push_of_some _ x))⟩
theorem pyNext_zipS_item {b1 b2 : Bool} {z TI TO i1 i2 l1 l2 : Addr} {k1 k2 : Nat} {xs ys : Array Value} {x y a b : Value} {Q : Option Value → Shared → Prop} (D : ZipApart z TI TO i1 i2 l1 l2)
    (hz : IsZip s.heap z TI TO .none) (hTI : IsPair s.heap TI (.ref i1) (.ref i2)) (hTO : IsPair s.heap TO a b) (h1 : SIter b1 s.heap i1 l1 k1) (h2 : SIter b2 s.heap i2 l2 k2) (hl1 : SSeq b1 s.heap l1 xs) (hl2 : SSeq b2 s.heap l2 ys) (hx : xs[k1]? = some x) (hy : ys[k2]? = some y)
    (hQ : ∀ h', IsZip h' z TI TO (rawInt s.heap.objs.size) → IsPair h' TO x y → SIter b1 h' i1 l1 (k1 + 1) → SIter b2 h' i2 l2 (k2 + 1) → IsPair h' s.heap.objs.size x y → h'.objs.size = s.heap.objs.size + 1 →
      (∀ c o, c ≠ z → c ≠ TO → c ≠ i1 → c ≠ i2 → s.heap.get? c = some o → h'.get? c = some o) → Q (some (.ref s.heap.objs.size)) { s with heap := h' }) :
    wpAny (model prog w) A (pyNext (.ref z)) Q E s := by
  have hT : s.TypeIs (.ref z) "zip" := ⟨_, hz, rfl⟩
  unfold pyNext
  exact wpAny_bind (wpAny_attempt (wpAny_callSpecial?_slot (name := Str.ofString "__next__") hT F.slot_zip_next (wpAny_call_entry F.slot_zip_next hT F.entry_zip_next
      (zipS_next_item D hz hTI hTO h1 h2 hl1 hl2 hx hy fun h' a1 a2 a3 a4 a5 a6 a7 => wpAny_pure (hQ h' a1 a2 a3 a4 a5 a6 a7)) (F.args_zip_next_1 _))))
theorem pyNext_zipS_end {b1 b2 : Bool} {z TI TO i1 i2 l1 l2 : Addr} {k1 k2 : Nat} {xs ys : Array Value} {a b : Value} {Q : Option Value → Shared → Prop} (hh : A.handled = none) (D : ZipApart z TI TO i1 i2 l1 l2)
    (hz : IsZip s.heap z TI TO .none) (hTI : IsPair s.heap TI (.ref i1) (.ref i2)) (hTO : IsPair s.heap TO a b) (h1 : SIter b1 s.heap i1 l1 k1) (h2 : SIter b2 s.heap i2 l2 k2) (hl1 : SSeq b1 s.heap l1 xs) (hl2 : SSeq b2 s.heap l2 ys) (hend : xs[k1]? = none ∨ ys[k2]? = none)
    (hQ : ∀ h', (∀ c o, c ≠ z → c ≠ TO → c ≠ i1 → c ≠ i2 → s.heap.get? c = some o → h'.get? c = some o) → Q none { s with heap := h' }) : wpAny (model prog w) A (pyNext (.ref z)) Q E s := by
  have hT : s.TypeIs (.ref z) "zip" := ⟨_, hz, rfl⟩
  unfold pyNext
  refine wpAny_bind (wpAny_attempt (wpAny_callSpecial?_slot (name := Str.ofString "__next__") hT F.slot_zip_next (wpAny_call_entry F.slot_zip_next hT F.entry_zip_next (zipS_next_end hh D hz hTI hTO h1 h2 hl1 hl2 hend fun h' e hk he => ?_) (F.args_zip_next_1 _))))
  obtain ⟨o, ho, hc⟩ := he
  refine wpAny_bind (wpAny_isInstance (T := "StopIteration") (b := true) ⟨o, ho, hc⟩ isSubtype_stop ?_)
  exact wpAny_pure (hQ _ hk)
end
/-- a list or a tuple as it is read -/
def SqS (K : PySem.W.Frag) (b : Bool) (H : Hp) (a : Addr) (xs : List V) : Prop := if b = true then SqL K H a xs else SqT K H a xs
section
variable {X : Cx} {pins : List (Addr × Obj)} {σ : St} {H : Hp} {s : Shared} {a : Addr} {xs ys : List V}
theorem Inv.seqS {b : Bool} (I : Inv X pins σ H s) (h : SqS X.K b H a xs) : ∃ its : List Value, Vals xs its ∧ SSeq b s.heap a its.toArray ∧ xs.length ≤ sizeLine := by
  cases b with
  | true =>
    obtain ⟨its, r, p, z⟩ := I.list (show SqL X.K H a xs from h)
    exact ⟨its, r, p.isList, z⟩
  | false => exact I.tuple (show SqT X.K H a xs from h)
theorem Inv.seqS_inj {b : Bool} (I : Inv X pins σ H s) (h : SqS X.K b H a xs) (h' : SqS X.K b H a ys) : xs = ys := by
  cases b with
  | true => exact I.list_inj (show SqL X.K H a xs from h) (show SqL X.K H a ys from h')
  | false => exact I.tuple_inj (show SqT X.K H a xs from h) (show SqT X.K H a ys from h')
end
def Itz (K : PySem.W.Frag) (b1 b2 : Bool) (l1 l2 : Addr) : It :=
  ⟨fun i H => (∃ xs x, SqS K b1 H l1 xs ∧ xs[i]? = some x) ∧ ∃ ys y, SqS K b2 H l2 ys ∧ ys[i]? = some y,
   fun i H v H' => ∃ (p : Addr) (x y : V), H p = none ∧ v = .ref p ∧ H' = upd H p (.tup [x, y]) ∧ (∀ xs, SqS K b1 H l1 xs → xs[i]? = some x) ∧ ∀ ys, SqS K b2 H l2 ys → ys[i]? = some y,
   fun i H => ∃ xs ys, SqS K b1 H l1 xs ∧ SqS K b2 H l2 ys ∧ (xs.length ≤ i ∨ ys.length ≤ i)⟩
theorem turn_zip {P : Program} {w : World} {K : PySem.W.Frag} {elts : List Expr} {k : Nat} {pos : Pos} {b1 b2 : Bool} {z TI TO i1 i2 l1 l2 : Addr} (D : ZipApart z TI TO i1 i2 l1 l2) :
    Turn P w K (.Tuple elts k pos) (Itz K b1 b2 l1 l2) [z, TI, TO, i1, i2] z (fun i h => IsZip h z TI TO .none ∧ IsPair h TI (.ref i1) (.ref i2) ∧ (∃ a b, IsPair h TO a b) ∧ SIter b1 h i1 l1 i ∧ SIter b2 h i2 l2 i) where
  mem := by simp
  obj := fun i h st c hc => by
    obtain ⟨hz, hTI, ⟨a, b, hTO⟩, h1, h2⟩ := st
    simp only [List.mem_cons, List.not_mem_nil, or_false] at hc
    rcases hc with rfl | rfl | rfl | rfl | rfl
    · exact ⟨_, hz, fun v q => by cases q⟩
    · exact ⟨_, hTI, fun v q => by cases q⟩
    · exact ⟨_, hTO, fun v q => by cases q⟩
    · exact h1.here
    · exact h2.here
  keep := fun i h h' st kk => by
    obtain ⟨hz, hTI, ⟨a, b, hTO⟩, h1, h2⟩ := st
    exact ⟨kk z (by simp) _ hz, kk TI (by simp) _ hTI, ⟨a, b, kk TO (by simp) _ hTO⟩, h1.at' fun o q => kk i1 (by simp) o q, h2.at' fun o q => kk i2 (by simp) o q⟩
  item := by
    intro X hP hw hK hc i pins s σ H E I hf st hg
    subst hP hw hK
    obtain ⟨hz, hTI, ⟨a, b, hTO⟩, h1, h2⟩ := st
    obtain ⟨⟨xs, x, hq, hx⟩, ys, y, hq', hy⟩ := hg
    obtain ⟨its, rv, p, _⟩ := I.seqS hq
    obtain ⟨its', rv', p', _⟩ := I.seqS hq'
    obtain ⟨u, hu, ru⟩ := rv.get hx
    obtain ⟨u', hu', ru'⟩ := rv'.get hy
    refine pyNext_zipS_item D hz hTI hTO h1 h2 p p' (x := u) (y := u') (by simpa using hu) (by simpa using hu') fun h' e1 e2 e3 e4 e5 e6 hk => ?_
    refine ⟨_, rfl, wpAny_letOwnedTupleGo_zip e1 fun h2' ez hs2 => ?_⟩
    have nz : s.heap.objs.size ≠ z := Nat.ne_of_gt (Heap.lt_size hz)
    have lt : ∀ c ∈ [z, TI, TO, i1, i2], c < s.heap.objs.size := fun c hc => by
      simp only [List.mem_cons, List.not_mem_nil, or_false] at hc
      rcases hc with rfl | rfl | rfl | rfl | rfl
      · exact Heap.lt_size hz
      · exact Heap.lt_size hTI
      · exact Heap.lt_size hTO
      · obtain ⟨o, q, _⟩ := h1.here; exact Heap.lt_size q
      · obtain ⟨o, q, _⟩ := h2.here; exact Heap.lt_size q
    have eTI : IsPair h2' TI (.ref i1) (.ref i2) := (hs2.2 _ D.TIz).trans (hk TI _ D.TIz D.TITO D.TIi1 D.TIi2 hTI)
    have eTO : IsPair h2' TO u u' := (hs2.2 _ D.TOz).trans e2
    have e3' : SIter b1 h2' i1 l1 (i + 1) := e3.at' fun o q => (hs2.2 _ D.i1z).trans q
    have e4' : SIter b2 h2' i2 l2 (i + 1) := e4.at' fun o q => (hs2.2 _ D.i2z).trans q
    have J := I.turnedT (h' := h2') (t' := s.toks) (vs := [x, y]) (its := [u, u']) (ch := [z, TI, TO, i1, i2]) hf
      (fun c o hc q => (hs2.2 c (fun z => hc (by simp [z]))).trans (hk c o (fun z => hc (by simp [z])) (fun z => hc (by simp [z])) (fun z => hc (by simp [z])) (fun z => hc (by simp [z])) q))
      (fun c hc => by
        simp only [List.mem_cons, List.not_mem_nil, or_false] at hc
        rcases hc with rfl | rfl | rfl | rfl | rfl
        · exact ⟨_, ez⟩
        · exact ⟨_, eTI⟩
        · exact ⟨_, eTO⟩
        · obtain ⟨o, q, _⟩ := e3'.here; exact ⟨o, q⟩
        · obtain ⟨o, q, _⟩ := e4'.here; exact ⟨o, q⟩) (.cons ru (.cons ru' .nil)) (by show 2 ≤ sizeLine; decide) ⟨_, (hs2.2 _ nz).trans e5, rfl, _, rfl⟩
    have hn : H s.heap.objs.size = none := I.hok.fresh (Nat.le_refl _)
    refine ⟨.ref s.heap.objs.size, _, J, rfl, ⟨_, x, y, hn, rfl, rfl, fun zs hz => by rw [I.seqS_inj hz hq]; exact hx, fun zs hz => by rw [I.seqS_inj hz hq']; exact hy⟩, ⟨ez, eTI, ⟨_, _, eTO⟩, e3', e4'⟩, fun c hc => ?_⟩
    rw [upd_ne (Nat.ne_of_lt (lt c hc))]
    exact (hf c hc).1
  done := by
    intro X hP hw hK hc i pins s σ H E I hf st hg
    subst hP hw hK
    obtain ⟨hz, hTI, ⟨a, b, hTO⟩, h1, h2⟩ := st
    obtain ⟨xs, ys, hq, hq', hx⟩ := hg
    obtain ⟨its, rv, p, _⟩ := I.seqS hq
    obtain ⟨its', rv', p', _⟩ := I.seqS hq'
    have hl := rv.length
    have hl' := rv'.length
    exact pyNext_zipS_end (I.ok.hd hc) D hz hTI hTO h1 h2 p p' (by simp; omega) fun h' hk => ⟨rfl, I.turnedN (t' := s.toks) hf fun c o hc q => hk c o (fun z => hc (by simp [z])) (fun z => hc (by simp [z])) (fun z => hc (by simp [z])) (fun z => hc (by simp [z])) q⟩
  self := fun _ _ s Q _ st h => wpAny_pyIter_zip st.1 h
section
variable {X : Cx}
def iZip (K : PySem.W.Frag) (ta : TA) : TI := fun σ H R => ta σ H fun vs H1 => ∃ (b1 b2 : Bool) (l1 l2 : Addr), vs = [.ref l1, .ref l2] ∧ (∃ xs, SqS K b1 H1 l1 xs) ∧ (∃ ys, SqS K b2 H1 l2 ys) ∧ R (Itz K b1 b2 l1 l2) H1
theorem pi_zip {elts : List Expr} {k : Nat} {pos' : Pos} {a b : Expr} {ta : TA} {p pos : Pos} (hg : Gl X "zip") (hm : X.mg "zip" = none) (ha : PA X [a, b] ta) (hs : starEach [a, b] X.env = [(false, eval a X.env), (false, eval b X.env)] := by rfl) (hs2 : starEach [b] X.env = [(false, eval b X.env)] := by rfl) :
    PI X (.Tuple elts k pos') (.Call (.Name "zip" p) [a, b] [] pos) (iZip X.K ta) := by
  intro pins s σ H R I h
  refine Call_ (ld_blt I hg hm bb_zip (PyProof.Rows.callWith_type1 (thn (ha pos pins s σ H _ I h) fun us s1 ⟨vs, H1, I1, r1, q1⟩ => ?_) (by rw [hs, hs2]) (by rw [hs2]; rfl)))
  obtain ⟨b1, b2, l1, l2, e, ⟨xs, hq⟩, ⟨ys, hq'⟩, q⟩ := q1
  subst e
  obtain ⟨u, u', rfl, ru, ru'⟩ := r1.two
  cases ru
  cases ru'
  obtain ⟨its, rv, pl, _⟩ := I1.seqS hq
  obtain ⟨its', rv', pl', _⟩ := I1.seqS hq'
  have in1 : l1 < s1.heap.objs.size := by
    cases b1 with
    | true => obtain ⟨o, e, _⟩ := (show s1.heap.IsList l1 its.toArray from pl); exact Heap.lt_size e
    | false => obtain ⟨o, e, _⟩ := (show s1.heap.IsTuple l1 its.toArray from pl); exact Heap.lt_size e
  have in2 : l2 < s1.heap.objs.size := by
    cases b2 with
    | true => obtain ⟨o, e, _⟩ := (show s1.heap.IsList l2 its'.toArray from pl'); exact Heap.lt_size e
    | false => obtain ⟨o, e, _⟩ := (show s1.heap.IsTuple l2 its'.toArray from pl'); exact Heap.lt_size e
  refine call_zipS pl pl' fun h' e1 e2 e3 e4 e5 hk => ?_
  refine wpAny_pyIter_zip e1 ?_
  have fr : ∀ c, s1.heap.objs.size ≤ c → H1 c = none := fun c hc => I1.hok.fresh hc
  refine ⟨_, _, _, _, H1, rfl, I1.kept (t' := s1.toks) hk, turn_zip (b1 := b1) (b2 := b2) (zipApart_new in1 in2), ⟨e1, e2, ⟨_, _, e3⟩, e4, e5⟩, fun c hc => ?_, q⟩
  have hc' : s1.heap.objs.size ≤ c := by
    simp only [List.mem_cons, List.not_mem_nil, or_false] at hc
    rcases hc with rfl | rfl | rfl | rfl | rfl
    · exact Nat.le_add_right _ _
    · exact Nat.le_add_right _ _
    · exact Nat.le_add_right _ _
    · exact Nat.le_refl _
    · exact Nat.le_add_right _ _
  exact I1.fpOk hc' (fr c hc')
/-- over two sequences of one length that the block leaves as they are -/
theorem lc_zip {K : PySem.W.Frag} {b1 b2 : Bool} {l1 l2 : Addr} {xs ys : List V} {n : Nat} {g : TG} {tt : TT} {te : TE} {σ : St} {H : Hp} {Fin : List V → Hp → Prop} (Pv : Nat → List V → Hp → Prop) (hxy : xs.length = ys.length) (hk : xs.length < sizeLine) (h0 : Pv 0 [] H)
    (hl : ∀ i zs H, i ≤ xs.length → Pv i zs H → SqS K b1 H l1 xs ∧ SqS K b2 H l2 ys ∧ zs.length ≤ i)
    (hs : ∀ i x y zs H p, xs[i]? = some x → ys[i]? = some y → Pv i zs H → H p = none → g (.ref p) (List.replicate n none ++ σ) (upd H p (.tup [x, y])) fun σ2 H2 => σ2.drop n = σ ∧ tt σ2 H2 fun c H3 => if c = true then te σ2 H3 fun v H4 => Pv (i + 1) (zs ++ [v]) H4 else Pv (i + 1) zs H3)
    (hd : ∀ zs H, Pv xs.length zs H → Fin zs H) : LcW (Itz K b1 b2 l1 l2) n g tt te σ H Fin := by
  refine lc_by Pv hk h0 (fun i ys H hi p => (hl i ys H hi p).2.2) (fun zs H p => ⟨xs, ys, (hl _ zs H (Nat.le_refl _) p).1, (hl _ zs H (Nat.le_refl _) p).2.1, .inl (Nat.le_refl _)⟩)
    (fun i zs H hi p => ⟨⟨xs, xs[i], (hl i zs H (Nat.le_of_lt hi) p).1, by simp [hi]⟩, ys, ys[i]'(by omega), (hl i zs H (Nat.le_of_lt hi) p).2.1, by simp [show i < ys.length by omega]⟩) (fun i zs H hi p v H' y => ?_) hd
  obtain ⟨pp, x, y', hp, rfl, rfl, y1, y2⟩ := y
  exact hs i x y' zs H pp (y1 xs (hl i zs _ (Nat.le_of_lt hi) p).1) (y2 ys (hl i zs _ (Nat.le_of_lt hi) p).2.1) p hp
end
end L2


set_option Elab.async false
set_option linter.all false
set_option maxRecDepth 100000
namespace L2
open PySem PySem.Spec PyProof.Rows
section
variable {X : Cx}
theorem bools_at {bs : List Bool} {its : List Value} (rv : Vals (bs.map V.bl) its) : ∀ (i : Nat) (v : Value), its[i]? = some v → v = Value.bool (bs.getD i true) := fun i v e => by
  have hl := rv.length
  have hi : i < its.length := (List.getElem?_eq_some_iff.mp e).1
  have hb : i < bs.length := by simpa [← hl] using hi
  obtain ⟨u, e2, r⟩ := rv.get (i := i) (x := .bl bs[i]) (by simp [hb])
  rw [e] at e2; cases e2
  have : v = Value.bool bs[i] := r
  rw [this]; simp [List.getD_eq_getElem?_getD, hb]
theorem ints_at {ns : List Int} {its : List Value} (rv : Vals (ns.map V.int) its) : ∀ (i : Nat) (v : Value), its[i]? = some v → ∃ t, v = Value.int (ns.getD i 0) t := fun i v e => by
  have hl := rv.length
  have hi : i < its.length := (List.getElem?_eq_some_iff.mp e).1
  have hb : i < ns.length := by simpa [← hl] using hi
  obtain ⟨u, e2, r⟩ := rv.get (i := i) (x := .int ns[i]) (by simp [hb])
  rw [e] at e2; cases e2
  obtain ⟨t, rfl⟩ := r
  exact ⟨t, by simp [List.getD_eq_getElem?_getD, hb]⟩
theorem range_all (bs : List Bool) : (List.range bs.length).all (fun i => bs.getD i true) = bs.all id := by
  rw [Bool.eq_iff_iff]
  simp only [List.all_eq_true, List.mem_range]
  constructor
  · intro h b hb
    obtain ⟨i, hi, rfl⟩ := List.getElem_of_mem hb
    have := h i hi
    simpa [List.getD_eq_getElem?_getD, hi] using this
  · intro h i hi
    have := h bs[i] (List.getElem_mem hi)
    simpa [List.getD_eq_getElem?_getD, hi] using this
theorem range_any (bs : List Bool) : (List.range bs.length).any (fun i => bs.getD i true) = bs.any id := by
  rw [Bool.eq_iff_iff]
  simp only [List.any_eq_true, List.mem_range]
  constructor
  · rintro ⟨i, hi, h⟩
    exact ⟨bs[i], List.getElem_mem hi, by simpa [List.getD_eq_getElem?_getD, hi] using h⟩
  · rintro ⟨b, hb, h⟩
    obtain ⟨i, hi, rfl⟩ := List.getElem_of_mem hb
    exact ⟨i, hi, by simpa [List.getD_eq_getElem?_getD, hi] using h⟩
theorem preSum_take (ns : List Int) : ∀ k, k ≤ ns.length → preSum (fun i => ns.getD i 0) k = (ns.take k).sum
  | 0, _ => by simp [preSum]
  | k + 1, h => by
    have hk : k < ns.length := h
    have e : ns.take (k + 1) = ns.take k ++ [ns[k]] := by simp
    rw [preSum, preSum_take ns k (Nat.le_of_lt hk), e, List.sum_append, List.getD_eq_getElem?_getD]
    simp [hk]
theorem preSum_all (ns : List Int) : preSum (fun i => ns.getD i 0) ns.length = ns.sum := by
  rw [preSum_take ns _ (Nat.le_refl _), List.take_length]
def rAll (K : PySem.W.Frag) : List V → Hp → VK → Prop := fun vs H Q => ∃ (l : Addr) (bs : List Bool), vs = [.ref l] ∧ SqL K H l (bs.map V.bl) ∧ Q (.bl (bs.all id)) H
def rAny (K : PySem.W.Frag) : List V → Hp → VK → Prop := fun vs H Q => ∃ (l : Addr) (bs : List Bool), vs = [.ref l] ∧ SqL K H l (bs.map V.bl) ∧ Q (.bl (bs.any id)) H
def rSum (K : PySem.W.Frag) : List V → Hp → VK → Prop := fun vs H Q => ∃ (l : Addr) (ns : List Int), vs = [.ref l] ∧ SqL K H l (ns.map V.int) ∧ Q (.int ns.sum) H
theorem call_all (hc : X.calm = true) : CallR X (.builtin "all") (rAll X.K) := by
  intro pins s σ H xs us Q I r h
  obtain ⟨l, bs, rfl, hq, q⟩ := h
  obtain ⟨u, rfl, ru⟩ := r.one
  cases ru
  obtain ⟨its, rv, p, hz⟩ := I.list hq
  have hl := rv.length
  have hlt : l < s.heap.objs.size := by obtain ⟨o, e, _⟩ := p.isList; exact Heap.lt_size e
  refine call_all_walk (wpAny_pyIter_list p.isList ⟨_, _, _, _, _, _, fun i => bs.getD i true, rfl, Walks.list (A := X.A.in1) (I.ok.hd hc) _ l (Nat.ne_of_lt hlt) its.toArray, ⟨⟨_, Heap.get?_push_size _ rfl, rfl, rfl⟩, p.isList.push _⟩, ?_, fun h' tk hk => ?_⟩)
  · intro i v s' Q' E' hv hq'
    rw [bools_at rv i v (by simpa using hv)]
    exact wpAny_truthy_bool hq'
  · have e : (List.range its.toArray.size).all (fun i => bs.getD i true) = bs.all id := by
      rw [List.size_toArray, ← hl, List.length_map]; exact range_all bs
    rw [e]
    exact ⟨.bl _, H, I.kept fun b o eb => hk b o (fun z => Nat.ne_of_lt (Heap.lt_size eb) (by simpa using z)) (Heap.get?_push_of_some _ eb), rfl, q⟩
theorem call_any (hc : X.calm = true) : CallR X (.builtin "any") (rAny X.K) := by
  intro pins s σ H xs us Q I r h
  obtain ⟨l, bs, rfl, hq, q⟩ := h
  obtain ⟨u, rfl, ru⟩ := r.one
  cases ru
  obtain ⟨its, rv, p, hz⟩ := I.list hq
  have hl := rv.length
  have hlt : l < s.heap.objs.size := by obtain ⟨o, e, _⟩ := p.isList; exact Heap.lt_size e
  refine call_any_walk (wpAny_pyIter_list p.isList ⟨_, _, _, _, _, _, fun i => bs.getD i true, rfl, Walks.list (A := X.A.in1) (I.ok.hd hc) _ l (Nat.ne_of_lt hlt) its.toArray, ⟨⟨_, Heap.get?_push_size _ rfl, rfl, rfl⟩, p.isList.push _⟩, ?_, fun h' tk hk => ?_⟩)
  · intro i v s' Q' E' hv hq'
    rw [bools_at rv i v (by simpa using hv)]
    exact wpAny_truthy_bool hq'
  · have e : (List.range its.toArray.size).any (fun i => bs.getD i true) = bs.any id := by
      rw [List.size_toArray, ← hl, List.length_map]; exact range_any bs
    rw [e]
    exact ⟨.bl _, H, I.kept fun b o eb => hk b o (fun z => Nat.ne_of_lt (Heap.lt_size eb) (by simpa using z)) (Heap.get?_push_of_some _ eb), rfl, q⟩
theorem call_sum (hc : X.calm = true) : CallR X (.builtin "sum") (rSum X.K) := by
  intro pins s σ H xs us Q I r h
  obtain ⟨l, ns, rfl, hq, q⟩ := h
  obtain ⟨u, rfl, ru⟩ := r.one
  cases ru
  obtain ⟨its, rv, p, hz⟩ := I.list hq
  have hl := rv.length
  have hlt : l < s.heap.objs.size := by obtain ⟨o, e, _⟩ := p.isList; exact Heap.lt_size e
  refine call_sum_walkG (wpAny_pyIter_list p.isList ⟨_, _, _, _, _, _, fun i => ns.getD i 0, rfl, Walks.list (A := X.A.in1) (I.ok.hd hc) _ l (Nat.ne_of_lt hlt) its.toArray, ⟨⟨_, Heap.get?_push_size _ rfl, rfl, rfl⟩, p.isList.push _⟩, ?_, ?_, fun h' tk t' hk => ?_⟩)
  · intro b hb
    rw [Heap.size_push]
    simp only [List.mem_cons, List.not_mem_nil, or_false] at hb
    rcases hb with rfl | rfl
    · exact Nat.lt_succ_self _
    · exact Nat.lt_succ_of_lt hlt
  · intro i v hv
    exact ints_at rv i v (by simpa using hv)
  · have e : preSum (fun i => ns.getD i 0) its.toArray.size = ns.sum := by
      rw [List.size_toArray, ← hl, List.length_map]; exact preSum_all ns
    rw [e]
    exact ⟨.int _, H, I.kept fun b o eb => hk b o (fun z => Nat.ne_of_lt (Heap.lt_size eb) (by simpa using z)) (Heap.get?_push_of_some _ eb), ⟨_, rfl⟩, q⟩

end
end L2


set_option Elab.async false
set_option linter.all false
set_option maxRecDepth 100000
namespace L2
open PySem PySem.Spec PyProof.Rows
/-! ### the rules with the written part K named apart (within a comprehension's block the context is another one, K the same) -/
section
variable {X : Cx} {K : PySem.W.Frag}
theorem kIxL (hK : X.K = K) : IxR X (rIxL K) := by subst hK; exact ix_list
theorem kIxT (hK : X.K = K) : IxR X (rIxT K) := by subst hK; exact ix_tup
theorem kGetL (hK : X.K = K) : PGet X (rIxL K) := by subst hK; exact get_list
theorem kSlL (hK : X.K = K) : SlR X (rSlL K) := by subst hK; exact sl_list
theorem kSlT (hK : X.K = K) : SlR X (rSlT K) := by subst hK; exact sl_tup
theorem kLen (hK : X.K = K) : CallR X (.builtin "len") (fun xs H Q => ∃ p ys, xs = [.ref p] ∧ (SqL K H p ys ∨ SqT K H p ys) ∧ Q (.int ys.length) H) := by subst hK; exact call_len_seq
theorem kListOf (hK : X.K = K) : CallR X (.type "list") (fun xs H Q => ∃ p ys, xs = [.ref p] ∧ (SqL K H p ys ∨ SqT K H p ys) ∧ ∀ l, H l = none → Q (.ref l) (upd H l (.lst ys))) := by subst hK; exact call_list_of
theorem kTupOf (hK : X.K = K) : CallR X (.type "tuple") (fun xs H Q => ∃ p ys, xs = [.ref p] ∧ ((SqL K H p ys ∧ ∀ l, H l = none → Q (.ref l) (upd H l (.tup ys))) ∨ (SqT K H p ys ∧ Q (.ref p) H))) := by subst hK; exact call_tuple_of
theorem kIsi (hK : X.K = K) : CallR X (.builtin "isinstance") (rIsi K) := by subst hK; exact call_isi
theorem kAll (hK : X.K = K) (hc : X.calm = true) : CallR X (.builtin "all") (rAll K) := by subst hK; exact call_all hc
theorem kAny (hK : X.K = K) (hc : X.calm = true) : CallR X (.builtin "any") (rAny K) := by subst hK; exact call_any hc
theorem kSum (hK : X.K = K) (hc : X.calm = true) : CallR X (.builtin "sum") (rSum K) := by subst hK; exact call_sum hc
theorem kIn (hK : X.K = K) : OpR X (compareOp .In) (rIn K false) := by subst hK; exact op_in_seq
theorem kNotIn (hK : X.K = K) : OpR X (compareOp .NotIn) (rIn K true) := by subst hK; exact op_notIn_seq
theorem kiList {tg l : Expr} {tl : TE} (hK : X.K = K) (hl : PE X l tl) : PI X tg l (iList K tl) := by subst hK; exact pi_list hl
theorem kiTup {tg l : Expr} {tl : TE} (hK : X.K = K) (hl : PE X l tl) : PI X tg l (iTup K tl) := by subst hK; exact pi_tup hl
theorem kiEnum {elts : List Expr} {k : Nat} {pos' : Pos} {a : Expr} {ta : TA} {p pos : Pos} (hK : X.K = K) (hg : Gl X "enumerate") (hm : X.mg "enumerate" = none) (ha : PA X [a] ta) (hs : starEach [a] X.env = [(false, eval a X.env)] := by rfl) :
    PI X (.Tuple elts k pos') (.Call (.Name "enumerate" p) [a] [] pos) (iEnum K ta) := by subst hK; exact pi_enum hg hm ha hs
theorem kiZip {elts : List Expr} {k : Nat} {pos' : Pos} {a b : Expr} {ta : TA} {p pos : Pos} (hK : X.K = K) (hg : Gl X "zip") (hm : X.mg "zip" = none) (ha : PA X [a, b] ta) (hs : starEach [a, b] X.env = [(false, eval a X.env), (false, eval b X.env)] := by rfl) (hs2 : starEach [b] X.env = [(false, eval b X.env)] := by rfl) :
    PI X (.Tuple elts k pos') (.Call (.Name "zip" p) [a, b] [] pos) (iZip K ta) := by subst hK; exact pi_zip hg hm ha hs hs2
theorem kgTup {es : List Expr} {k : Nat} {t : TGs} {n : Nat} {pos : Pos} (hK : X.K = K) (hc : X.calm = true) (h : PGs X es t) (hn : (assignEach es X.env).length = n := by rfl) (hst : (assignEach es X.env).findIdx? (·.1) = none := by rfl) : PG X (.Tuple es k pos) (gTup K n t) := by
  subst hK; exact pg_tup hc h hn hst
theorem ktTruth {a : Expr} {ta : TE} (hK : X.K = K) (ha : PE X a ta) (he : ∀ whole, isTrue a X.env whole = (do let v ← whole; standAt a.pos; holding [v] (truthy v))) :
    PT X a (fun σ H Q => ta σ H fun x H' => ∃ k, TruV K x H' k ∧ Q k H') := by subst hK; exact pt_truth ha he
theorem kbm0 {T id : String} {name : Str} {o : Expr} {to : TE} {r : V → List V → Hp → VK → Prop} {pos apos : Pos} (hK : X.K = K) (ho : PE X (.Call (.Attribute o name apos) [] [] pos) (tBM0 X.K T r to)) : PE X (.Call (.Attribute o name apos) [] [] pos) (tBM0 K T r to) := by subst hK; exact ho
theorem kbm {T : String} {name : Str} {o e : Expr} {es : List Expr} {to : TE} {t : TA} {r : V → List V → Hp → VK → Prop} {pos apos : Pos} (hK : X.K = K) (ho : PE X (.Call (.Attribute o name apos) (e :: es) [] pos) (tBM X.K T r to t)) : PE X (.Call (.Attribute o name apos) (e :: es) [] pos) (tBM K T r to t) := by subst hK; exact ho
end
end L2


set_option Elab.async false
set_option linter.all false
set_option maxRecDepth 100000
namespace L2
open PySem PySem.Spec PyProof.Rows

/-! ### == of two trees of one shape -/
mutual
def D.like : D → D → Bool
  | .lst xs, .lst ys => xs.length != ys.length || likes xs ys
  | .tup xs, .tup ys => likes xs ys
  | .lst _, _ => false
  | .tup _, _ => false
  | _, .lst _ => false
  | _, .tup _ => false
  | _, _ => true
def likes : List D → List D → Bool
  | [], [] => true
  | x :: xs, y :: ys => x.like y && likes xs ys
  | _, _ => false
end
def D.flat : D → V
  | .non => .non
  | .bl b => .bl b
  | .int i => .int i
  | .str x => .str x
  | .lst _ => .non
  | .tup _ => .non
mutual
def D.eqb : D → D → Bool
  | .lst xs, .lst ys => eqbs xs ys
  | .tup xs, .tup ys => eqbs xs ys
  | .non, y => eqV .non y.flat
  | .bl b, y => eqV (.bl b) y.flat
  | .int i, y => eqV (.int i) y.flat
  | .str x, y => eqV (.str x) y.flat
  | _, _ => false
def eqbs : List D → List D → Bool
  | [], [] => true
  | x :: xs, y :: ys => x.eqb y && eqbs xs ys
  | _, _ => false
end
mutual
theorem eqb_refl : ∀ d : D, d.eqb d = true
  | .non => rfl
  | .bl b => by simp [D.eqb, D.flat, eqV]
  | .int i => by simp [D.eqb, D.flat, eqV]
  | .str x => by simp [D.eqb, D.flat, eqV]
  | .lst xs => by rw [D.eqb]; exact eqbs_refl xs
  | .tup xs => by rw [D.eqb]; exact eqbs_refl xs
theorem eqbs_refl : ∀ ds : List D, eqbs ds ds = true
  | [] => rfl
  | d :: ds => by rw [eqbs, eqb_refl d, eqbs_refl ds]; rfl
end
theorem eqbs_ne : ∀ {xs ys : List D}, xs.length ≠ ys.length → eqbs xs ys = false
  | [], [], h => absurd rfl h
  | [], _ :: _, _ => rfl
  | _ :: _, [], _ => rfl
  | x :: xs, y :: ys, h => by
    rw [eqbs, eqbs_ne (xs := xs) (ys := ys) (by simpa using h), Bool.and_false]
theorem likes_len : ∀ {xs ys : List D}, likes xs ys = true → xs.length = ys.length
  | [], [], _ => rfl
  | [], _ :: _, h => by simp [likes] at h
  | _ :: _, [], h => by simp [likes] at h
  | x :: xs, y :: ys, h => by
    simp only [likes, Bool.and_eq_true] at h
    simp [likes_len h.2]
theorem likes_get : ∀ {xs ys : List D} {j : Nat} {x y : D}, likes xs ys = true → xs[j]? = some x → ys[j]? = some y → x.like y = true
  | [], [], j, x, y, _, h1, _ => by simp at h1
  | [], _ :: _, j, x, y, h, h1, _ => by simp at h1
  | _ :: _, [], j, x, y, h, _, h2 => by simp at h2
  | a :: xs, b :: ys, 0, x, y, h, h1, h2 => by
    simp only [likes, Bool.and_eq_true] at h
    simp at h1 h2
    subst h1 h2
    exact h.1
  | a :: xs, b :: ys, j + 1, x, y, h, h1, h2 => by
    simp only [likes, Bool.and_eq_true] at h
    exact likes_get h.2 (by simpa using h1) (by simpa using h2)
theorem all_eqbs : ∀ (xs ys : List D), xs.length = ys.length → (List.range xs.length).all (fun j => (xs.getD j .non).eqb (ys.getD j .non)) = eqbs xs ys
  | [], [], _ => rfl
  | [], _ :: _, h => by simp at h
  | _ :: _, [], h => by simp at h
  | x :: xs, y :: ys, h => by
    rw [eqbs, ← all_eqbs xs ys (by simpa using h), List.length_cons, List.range_succ_eq_map, List.all_cons, List.all_map]
    rfl
mutual
theorem Rep.inj {φ ψ : Addr → Prop} {H : Hp} : ∀ {d e : D} {v : V}, Rep φ H d v → Rep ψ H e v → d = e
  | .non, e, v, h, k => by
    simp only [Rep] at h; subst h
    cases e <;> simp only [Rep] at k <;> first | rfl | (obtain ⟨_, _, k, _⟩ := k; cases k; done) | (cases k; done)
  | .bl b, e, v, h, k => by
    simp only [Rep] at h; subst h
    cases e <;> simp only [Rep] at k <;> first | (obtain ⟨_, _, k, _⟩ := k; cases k; done) | (cases k; done) | (cases k; rfl)
  | .int i, e, v, h, k => by
    simp only [Rep] at h; subst h
    cases e <;> simp only [Rep] at k <;> first | (obtain ⟨_, _, k, _⟩ := k; cases k; done) | (cases k; done) | (cases k; rfl)
  | .str x, e, v, h, k => by
    simp only [Rep] at h; subst h
    cases e <;> simp only [Rep] at k <;> first | (obtain ⟨_, _, k, _⟩ := k; cases k; done) | (cases k; done) | (cases k; rfl)
  | .lst xs, e, v, h, k => by
    simp only [Rep] at h
    obtain ⟨a, vs, rfl, _, h1, h2⟩ := h
    cases e with
    | lst ys =>
      simp only [Rep] at k
      obtain ⟨b, ws, e, _, k1, k2⟩ := k
      cases e
      rw [h1] at k1; cases k1
      rw [Reps.inj h2 k2]
    | tup ys =>
      simp only [Rep] at k
      obtain ⟨b, ws, e, _, k1, k2⟩ := k
      cases e
      rw [h1] at k1; cases k1
    | _ => simp only [Rep] at k; cases k
  | .tup xs, e, v, h, k => by
    simp only [Rep] at h
    obtain ⟨a, vs, rfl, _, h1, h2⟩ := h
    cases e with
    | lst ys =>
      simp only [Rep] at k
      obtain ⟨b, ws, e, _, k1, k2⟩ := k
      cases e
      rw [h1] at k1; cases k1
    | tup ys =>
      simp only [Rep] at k
      obtain ⟨b, ws, e, _, k1, k2⟩ := k
      cases e
      rw [h1] at k1; cases k1
      rw [Reps.inj h2 k2]
    | _ => simp only [Rep] at k; cases k
theorem Reps.inj {φ ψ : Addr → Prop} {H : Hp} : ∀ {ds es : List D} {vs : List V}, Reps φ H ds vs → Reps ψ H es vs → ds = es
  | [], es, vs, h, k => by
    simp only [Reps] at h; subst h
    cases es with
    | nil => rfl
    | cons e es => simp only [Reps] at k; obtain ⟨_, _, k, _⟩ := k; cases k
  | d :: ds, es, vs, h, k => by
    simp only [Reps] at h
    obtain ⟨v, r, rfl, h1, h2⟩ := h
    cases es with
    | nil => simp only [Reps] at k; cases k
    | cons e es =>
      simp only [Reps] at k
      obtain ⟨_, _, e1, k1, k2⟩ := k
      cases e1
      rw [Rep.inj h1 k1, Reps.inj h2 k2]
end
def D.isSq : D → Bool
  | .lst _ => true
  | .tup _ => true
  | _ => false
theorem Rep.flatOf {φ : Addr → Prop} {H : Hp} {d : D} {v : V} (h : Rep φ H d v) (f : d.isSq = false) : v = d.flat ∧ flatV v = true := by
  cases d <;> first | (simp only [Rep] at h; subst h; exact ⟨rfl, rfl⟩) | (cases f; done)
theorem like_flat {d e : D} (h : d.like e = true) (f : d.isSq = false) : e.isSq = false := by
  cases d <;> cases e <;> first | rfl | (simp [D.like] at h; done) | (cases f; done)
theorem eqb_flat {d e : D} (f : d.isSq = false) : d.eqb e = eqV d.flat e.flat := by
  cases d <;> first | (rw [D.eqb]; rfl) | (cases f; done)
section
variable {X : Cx} {pins : List (Addr × Obj)} {σ : St} {H : Hp} {s : Shared}
theorem itemsAt {φ : Addr → Prop} {xs ys : List D} {vs ws : List V} {ia ib : List Value} (hvs : Reps φ H xs vs) (hws : Reps φ H ys ws) (ra : Vals vs ia) (rb : Vals ws ib) (hk : likes xs ys = true) {j : Nat} (h1 : j < ia.length) (h2 : j < ib.length) :
    ∃ x y v w, xs[j]? = some x ∧ ys[j]? = some y ∧ Rep φ H x v ∧ Rep φ H y w ∧ RelV v ia[j] ∧ RelV w ib[j] ∧ x.like y = true ∧ xs.getD j .non = x ∧ ys.getD j .non = y := by
  have la := ra.length; have lb := rb.length
  have l1 := hvs.length; have l2 := hws.length
  have hj : j < xs.length := by omega
  have hj2 : j < ys.length := by omega
  obtain ⟨v1, e1, q1⟩ := hvs.get (i := j) (d := xs[j]) (by simp [hj])
  obtain ⟨v2, e2, q2⟩ := hws.get (i := j) (d := ys[j]) (by simp [hj2])
  obtain ⟨u1, f1, s1⟩ := ra.get e1
  obtain ⟨u2, f2, s2⟩ := rb.get e2
  have g1 : ia[j] = u1 := by obtain ⟨_, z⟩ := List.getElem?_eq_some_iff.mp f1; exact z
  have g2 : ib[j] = u2 := by obtain ⟨_, z⟩ := List.getElem?_eq_some_iff.mp f2; exact z
  rw [g1, g2]
  exact ⟨xs[j], ys[j], v1, v2, by simp [hj], by simp [hj2], q1, q2, s1, s2, likes_get hk (j := j) (by simp [hj]) (by simp [hj2]), by simp [List.getD_eq_getElem?_getD, hj], by simp [List.getD_eq_getElem?_getD, hj2]⟩
theorem eqAt_like {φ : Addr → Prop} (I : Inv X pins σ H s) : ∀ (n : Nat) (A : Around) (d e : D) (x y : V) (v u : Value), d.dep ≤ n → A.units + n < cLine → d.like e = true → Rep φ H d x → Rep φ H e y → RelV x v → RelV y u → SeqAt.EqAt A s v u (d.eqb e) := by
  intro n
  induction n with
  | zero =>
    intro A d e x y v u hd hu hk hx hy rx ry
    have f : d.isSq = false := by cases d <;> first | rfl | (simp [D.dep] at hd)
    obtain ⟨e1, f1⟩ := hx.flatOf f
    obtain ⟨e2, f2⟩ := hy.flatOf (like_flat hk f)
    rw [eqb_flat f, ← e1, ← e2]
    exact eqAt_V rx ry f1 f2
  | succ n ih =>
    intro A d e x y v u hd hu hk hx hy rx ry
    cases hf : d.isSq with
    | false =>
      obtain ⟨e1, f1⟩ := hx.flatOf hf
      obtain ⟨e2, f2⟩ := hy.flatOf (like_flat hk hf)
      rw [eqb_flat hf, ← e1, ← e2]
      exact eqAt_V rx ry f1 f2
    | true =>
      cases d with
      | lst xs =>
        cases e with
        | lst ys =>
          have hx0 := hx; have hy0 := hy
          simp only [Rep] at hx hy
          obtain ⟨a, vs, rfl, _, ha, hvs⟩ := hx
          obtain ⟨b, ws, rfl, _, hb, hws⟩ := hy
          cases (show v = Value.ref a from rx); cases (show u = Value.ref b from ry)
          by_cases hab : a = b
          · subst hab
            rw [Rep.inj hx0 hy0, eqb_refl]
            exact .same _
          obtain ⟨ia, ra, pa, _⟩ := I.list (SqL.of ha)
          obtain ⟨ib, rb, pb, _⟩ := I.list (SqL.of hb)
          have la := ra.length; have lb := rb.length
          have l1 := hvs.length; have l2 := hws.length
          by_cases hxy : xs.length = ys.length
          case neg =>
            have := SeqAt.RcAt.lists_lengths (A := A) (s := s) pa.isList pb.isList (by simp; omega) (by omega)
            rw [D.eqb, eqbs_ne hxy]
            exact .of_refs hab this
          have hk' : likes xs ys = true := by simpa [D.like, hxy] using hk
          have l3 := likes_len hk'
          have := SeqAt.RcAt.lists (A := A) (e := fun j => (xs.getD j .non).eqb (ys.getD j .non)) pa.isList pb.isList (by simp; omega) (by omega) (fun j h1 h2 => ?_)
          · rw [show ia.toArray.size = xs.length by simp; omega, all_eqbs xs ys l3] at this
            rw [D.eqb]
            exact .of_refs hab this
          · simp only [List.size_toArray] at h1 h2
            obtain ⟨x1, y1, v1, w1, e1, e2, q1, q2, s1, s2, k1, g1, g2⟩ := itemsAt hvs hws ra rb hk' h1 h2
            show SeqAt.EqAt A.in1 s ia[j] ib[j] _
            rw [g1, g2]
            have hdj := dep_le e1
            simp only [D.dep] at hd
            exact ih A.in1 _ _ _ _ _ _ (by omega) (by show A.units + 1 + n < cLine; omega) k1 q1 q2 s1 s2
        | _ => simp [D.like] at hk
      | tup xs =>
        cases e with
        | tup ys =>
          have hx0 := hx; have hy0 := hy
          simp only [Rep] at hx hy
          obtain ⟨a, vs, rfl, _, ha, hvs⟩ := hx
          obtain ⟨b, ws, rfl, _, hb, hws⟩ := hy
          cases (show v = Value.ref a from rx); cases (show u = Value.ref b from ry)
          by_cases hab : a = b
          · subst hab
            rw [Rep.inj hx0 hy0, eqb_refl]
            exact .same _
          obtain ⟨ia, ra, pa, _⟩ := I.tuple (SqT.of ha)
          obtain ⟨ib, rb, pb, _⟩ := I.tuple (SqT.of hb)
          have la := ra.length; have lb := rb.length
          have l1 := hvs.length; have l2 := hws.length
          have hk' : likes xs ys = true := by simpa [D.like] using hk
          have l3 := likes_len hk'
          have := SeqAt.RcAt.tuples (A := A) (e := fun j => (xs.getD j .non).eqb (ys.getD j .non)) (show s.heap.IsTuple a ia.toArray from pa) (show s.heap.IsTuple b ib.toArray from pb) (by omega) (fun j h1 h2 => ?_)
          · rw [show ib.toArray.size = ia.toArray.size by simp; omega, Nat.min_self, show ia.toArray.size = xs.length by simp; omega, all_eqbs xs ys l3] at this
            rw [D.eqb]
            simp only [beq_self_eq_true, Bool.and_true] at this
            exact .of_refs hab this
          · simp only [List.size_toArray] at h1 h2
            obtain ⟨x1, y1, v1, w1, e1, e2, q1, q2, s1, s2, k1, g1, g2⟩ := itemsAt hvs hws ra rb hk' h1 h2
            show SeqAt.EqAt A.in1 s ia[j] ib[j] _
            rw [g1, g2]
            have hdj := dep_le e1
            simp only [D.dep] at hd
            exact ih A.in1 _ _ _ _ _ _ (by omega) (by show A.units + 1 + n < cLine; omega) k1 q1 q2 s1 s2
        | _ => simp [D.like] at hk
      | _ => cases hf
end
section
variable {X : Cx}
def rEqS : R2 := fun x y H Q => ∃ d e, Rep (fun _ => True) H d x ∧ Rep (fun _ => True) H e y ∧ d.isSq = true ∧ d.like e = true ∧ d.dep ≤ 60 ∧ Q (.bl (d.eqb e)) H
theorem op_eqS (hu : X.A.units + 64 < cLine) : OpR X (compareOp .Eq) rEqS := by
  intro pins s σ H x y v u Q I rx ry h
  obtain ⟨d, e, hx, hy, hs, hk, hd, q⟩ := h
  cases d with
  | lst xs =>
    cases e with
    | lst ys =>
      simp only [Rep] at hx hy
      obtain ⟨a, vs, rfl, _, ha, hvs⟩ := hx
      obtain ⟨b, ws, rfl, _, hb, hws⟩ := hy
      cases (show v = Value.ref a from rx); cases (show u = Value.ref b from ry)
      obtain ⟨ia, ra, pa, _⟩ := I.list (SqL.of ha)
      obtain ⟨ib, rb, pb, _⟩ := I.list (SqL.of hb)
      have la := ra.length; have lb := rb.length
      have l1 := hvs.length; have l2 := hws.length
      by_cases hxy : xs.length = ys.length
      case neg =>
        refine SeqAt.eq_list_lengthsAt pa.isList pb.isList (by simp; omega) (by omega) ?_
        rw [D.eqb, eqbs_ne hxy] at q
        exact ⟨.bl _, H, I, rfl, q⟩
      have hk' : likes xs ys = true := by simpa [D.like, hxy] using hk
      have l3 := likes_len hk'
      simp only [D.dep] at hd
      refine SeqAt.eq_listAt (e := fun j => (xs.getD j .non).eqb (ys.getD j .non)) pa.isList pb.isList (by simp; omega) (by omega) (fun j h1 h2 => ?_) ?_
      · simp only [List.size_toArray] at h1 h2
        obtain ⟨x1, y1, v1, w1, e1, e2, q1, q2, s1, s2, k1, g1, g2⟩ := itemsAt hvs hws ra rb hk' h1 h2
        show SeqAt.EqAt X.A.in1 s ia[j] ib[j] _
        rw [g1, g2]
        have hdj := dep_le e1
        exact eqAt_like I 60 X.A.in1 _ _ _ _ _ _ (by omega) (by show X.A.units + 1 + 60 < cLine; omega) k1 q1 q2 s1 s2
      · rw [show ia.toArray.size = xs.length by simp; omega, all_eqbs xs ys l3]
        rw [D.eqb] at q
        exact ⟨.bl _, H, I, rfl, q⟩
    | _ => simp [D.like] at hk
  | tup xs =>
    cases e with
    | tup ys =>
      simp only [Rep] at hx hy
      obtain ⟨a, vs, rfl, _, ha, hvs⟩ := hx
      obtain ⟨b, ws, rfl, _, hb, hws⟩ := hy
      cases (show v = Value.ref a from rx); cases (show u = Value.ref b from ry)
      obtain ⟨ia, ra, pa, _⟩ := I.tuple (SqT.of ha)
      obtain ⟨ib, rb, pb, _⟩ := I.tuple (SqT.of hb)
      have la := ra.length; have lb := rb.length
      have l1 := hvs.length; have l2 := hws.length
      have hk' : likes xs ys = true := by simpa [D.like] using hk
      have l3 := likes_len hk'
      simp only [D.dep] at hd
      refine SeqAt.eq_tupleAt (e := fun j => (xs.getD j .non).eqb (ys.getD j .non)) (show s.heap.IsTuple a ia.toArray from pa) (show s.heap.IsTuple b ib.toArray from pb) (by omega) (fun j h1 h2 => ?_) ?_
      · simp only [List.size_toArray] at h1 h2
        obtain ⟨x1, y1, v1, w1, e1, e2, q1, q2, s1, s2, k1, g1, g2⟩ := itemsAt hvs hws ra rb hk' h1 h2
        show SeqAt.EqAt X.A.in1 s ia[j] ib[j] _
        rw [g1, g2]
        have hdj := dep_le e1
        exact eqAt_like I 60 X.A.in1 _ _ _ _ _ _ (by omega) (by show X.A.units + 1 + 60 < cLine; omega) k1 q1 q2 s1 s2
      · rw [show ib.toArray.size = ia.toArray.size by simp; omega, Nat.min_self, show ia.toArray.size = xs.length by simp; omega, all_eqbs xs ys l3]
        rw [D.eqb] at q
        simp only [beq_self_eq_true, Bool.and_true]
        exact ⟨.bl _, H, I, rfl, q⟩
    | _ => simp [D.like] at hk
  | _ => cases hs
theorem relV_inj {x y : V} {u : Value} (hx : RelV x u) (hy : RelV y u) (fx : flatV x = true ∨ ∃ a, x = .ref a) (fy : flatV y = true ∨ ∃ a, y = .ref a) : x = y := by
  cases x <;> cases y <;> simp only [RelV] at hx hy <;> first
    | rfl
    | (subst hx; cases hy; rfl)
    | (subst hx; cases hy; done)
    | (obtain ⟨t, rfl⟩ := hx; obtain ⟨t', hy⟩ := hy; cases hy; rfl)
    | (obtain ⟨t, rfl⟩ := hx; obtain ⟨t', hy⟩ := hy; cases hy; done)
    | (obtain ⟨t, rfl⟩ := hx; cases hy; done)
    | (obtain ⟨t, rfl⟩ := hy; cases hx; done)
    | (exfalso; rcases fx with fx | ⟨_, fx⟩ <;> cases fx; done)
    | (exfalso; rcases fy with fy | ⟨_, fy⟩ <;> cases fy; done)
theorem Rep.kind {φ : Addr → Prop} {H : Hp} {d : D} {v : V} (h : Rep φ H d v) : flatV v = true ∨ ∃ a, v = .ref a := by
  cases d <;> simp only [Rep] at h <;> first
    | (obtain ⟨a, _, e, _⟩ := h; exact .inr ⟨a, e⟩)
    | (subst h; exact .inl rfl)
/-- x in a list of trees of x's shape -/
def rInD (neg : Bool) : R2 := fun x y H Q => ∃ (p : Addr) (vs : List V) (ds : List D) (d : D), y = .ref p ∧ H p = some (.lst vs) ∧ Reps (fun _ => True) H ds vs ∧ Rep (fun _ => True) H d x ∧ (∀ e ∈ ds, e.like d = true ∧ e.dep ≤ 60) ∧ Q (.bl (if neg then !ds.any (·.eqb d) else ds.any (·.eqb d))) H
noncomputable def inE (its : List Value) (ds : List D) (d : D) (u : Value) : Bool := @decide (∃ (i : Nat) (e : D), its[i]? = some u ∧ ds[i]? = some e ∧ e.eqb d = true) (Classical.propDecidable _)
theorem inE_at {φ : Addr → Prop} {H : Hp} {its : List Value} {vs : List V} {ds : List D} {d : D} (hvs : Reps φ H ds vs) (r : Vals vs its) {i : Nat} {u : Value} {e : D} (hu : its[i]? = some u) (he : ds[i]? = some e) : inE its ds d u = e.eqb d := by
  unfold inE
  cases h : e.eqb d with
  | true => exact @decide_eq_true _ (Classical.propDecidable _) ⟨i, e, hu, he, h⟩
  | false =>
    refine @decide_eq_false _ (Classical.propDecidable _) ?_
    rintro ⟨j, e', hu', he', h'⟩
    obtain ⟨v1, f1, q1⟩ := hvs.get he
    obtain ⟨v2, f2, q2⟩ := hvs.get he'
    obtain ⟨u1, g1, r1⟩ := r.get f1
    obtain ⟨u2, g2, r2⟩ := r.get f2
    rw [hu] at g1; cases g1
    rw [hu'] at g2; cases g2
    have ev := relV_inj r1 r2 q1.kind q2.kind
    subst ev
    rw [Rep.inj q1 q2, h'] at h
    cases h
theorem inE_any {φ : Addr → Prop} {H : Hp} {its : List Value} {vs : List V} {ds : List D} {d : D} (hvs : Reps φ H ds vs) (r : Vals vs its) : its.any (inE its ds d) = ds.any (·.eqb d) := by
  have l1 := hvs.length
  have l2 := r.length
  rw [Bool.eq_iff_iff, List.any_eq_true, List.any_eq_true]
  constructor
  · rintro ⟨u, hu, h⟩
    obtain ⟨i, hi, rfl⟩ := List.getElem_of_mem hu
    have hi2 : i < ds.length := by omega
    rw [inE_at hvs r (i := i) (e := ds[i]) (by simp [hi]) (by simp [hi2])] at h
    exact ⟨ds[i], List.getElem_mem hi2, h⟩
  · rintro ⟨e, he, h⟩
    obtain ⟨i, hi, rfl⟩ := List.getElem_of_mem he
    have hi2 : i < its.length := by omega
    exact ⟨its[i], List.getElem_mem hi2, by rw [inE_at hvs r (i := i) (e := ds[i]) (by simp [hi2]) (by simp [hi])]; exact h⟩
theorem inD_items {A : Around} {pins : List (Addr × Obj)} {σ : St} {H : Hp} {s : Shared} (I : Inv X pins σ H s) {its : List Value} {vs : List V} {ds : List D} {d : D} {x : V} {v : Value} (hu : A.units + 60 < cLine) (hvs : Reps (fun _ => True) H ds vs) (r : Vals vs its) (hx : Rep (fun _ => True) H d x) (rx : RelV x v) (hk : ∀ e ∈ ds, e.like d = true ∧ e.dep ≤ 60) :
    ∀ y, y ∈ its → SeqAt.EqAt A s y v (inE its ds d y) := fun y hy => by
  have l1 := hvs.length
  have l2 := r.length
  obtain ⟨i, hi, rfl⟩ := List.getElem_of_mem hy
  have hi2 : i < ds.length := by omega
  rw [inE_at hvs r (i := i) (e := ds[i]) (by simp [hi]) (by simp [hi2])]
  obtain ⟨v1, f1, q1⟩ := hvs.get (i := i) (d := ds[i]) (by simp [hi2])
  obtain ⟨u1, g1, r1⟩ := r.get f1
  have e1 : its[i] = u1 := by obtain ⟨_, z⟩ := List.getElem?_eq_some_iff.mp g1; exact z
  rw [e1]
  have := hk ds[i] (List.getElem_mem hi2)
  exact eqAt_like I 60 A _ _ _ _ _ _ this.2 hu this.1 q1 hx r1 rx
theorem op_inD (hu : X.A.units + 64 < cLine) : OpR X (compareOp .In) (rInD false) := by
  intro pins s σ H x y v u Q I rx ry h
  obtain ⟨p, vs, ds, d, rfl, hp, hvs, hx, hk, q⟩ := h
  cases ry
  obtain ⟨its, r, pl, hz⟩ := I.list (SqL.of hp)
  refine SeqAt.in_listAt (inE its ds d) pl.isList (fun w hw => inD_items I (A := X.A.in1) (by show X.A.units + 1 + 60 < cLine; omega) hvs r hx rx hk w (by simpa using hw)) ⟨.bl _, H, I, rfl, ?_⟩
  rw [show its.toArray.any (inE its ds d) = its.any (inE its ds d) by simp, inE_any hvs r]
  exact q
theorem op_notInD (hu : X.A.units + 64 < cLine) : OpR X (compareOp .NotIn) (rInD true) := by
  intro pins s σ H x y v u Q I rx ry h
  obtain ⟨p, vs, ds, d, rfl, hp, hvs, hx, hk, q⟩ := h
  cases ry
  obtain ⟨its, r, pl, hz⟩ := I.list (SqL.of hp)
  refine SeqAt.notIn_listAt (inE its ds d) pl.isList (fun w hw => inD_items I (A := X.A.in1) (by show X.A.units + 1 + 60 < cLine; omega) hvs r hx rx hk w (by simpa using hw)) ⟨.bl _, H, I, rfl, ?_⟩
  rw [show its.toArray.any (inE its ds d) = its.any (inE its ds d) by simp, inE_any hvs r]
  exact q

/-! ### list(range(n)), min of a list -/
theorem vals_of_get : ∀ {xs : List V} {us : List Value}, xs.length = us.length → (∀ (i : Nat) x u, xs[i]? = some x → us[i]? = some u → RelV x u) → Vals xs us
  | [], [], _, _ => .nil
  | [], _ :: _, h, _ => by simp at h
  | _ :: _, [], h, _ => by simp at h
  | x :: xs, u :: us, h, k => .cons (k 0 x u rfl rfl) (vals_of_get (by simpa using h) fun i y w e f => k (i + 1) y w (by simpa using e) (by simpa using f))
def tListRange (ta : TA) : TE := fun σ H Q => ta σ H fun vs H1 => ∃ j : Int, vs = [.int j] ∧ 0 ≤ j ∧ j ≤ 1000000 ∧ ∀ l, H1 l = none → Q (.ref l) (upd H1 l (.lst ((List.range j.toNat).map fun (k : Nat) => V.int (k : Int))))
theorem pe_listRange {a : Expr} {ta : TA} {p p' pos pos' : Pos} (hc : X.calm = true) (hgl : Gl X "list") (hml : X.mg "list" = none) (hg : Gl X "range") (hm : X.mg "range" = none) (ha : PA X [a] ta) (hs : starEach [a] X.env = [(false, eval a X.env)] := by rfl) (hs' : starEach [.Call (.Name "range" p') [a] [] pos'] X.env = [(false, eval (.Call (.Name "range" p') [a] [] pos') X.env)] := by rfl) :
    PE X (.Call (.Name "list" p) [.Call (.Name "range" p') [a] [] pos'] [] pos) (tListRange ta) := by
  intro pins s σ H Q I h
  refine Call_ (ld_blt I hgl hml bb_list (PyProof.Rows.callWith_type1 ?_ hs' rfl))
  rw [hs']
  refine Calls.spliced_cons ?_
  refine Call_ (ld_blt I hg hm boot_range (PyProof.Rows.callWith_type1 (thn (ha pos' pins s σ H _ I h) fun us s1 ⟨vs, H1, I1, r1, q1⟩ => ?_) hs rfl))
  obtain ⟨j, e, j0, j1, q⟩ := q1
  subst e
  cases r1 with
  | cons r rr =>
    cases rr
    obtain ⟨t, rfl⟩ := r
    refine call_range_1 (Calls.spliced_nil ?_)
    have I2 : Inv X pins σ H1 { s1 with heap := s1.heap.push { cls := .type "range", data := .fields #[.int 0 s1.toks, .int j t, .int 1 (s1.toks + 1)] }, toks := s1.toks + 1 + 1 } := I1.kept fun b o e => Heap.get?_push_of_some _ e
    have hn : Builtin.Range.rangeSize 0 j 1 = ((j.toNat : Nat) : Int) := by rw [rangeSize_one]; split <;> omega
    refine call_list_range (n := j.toNat) (I.ok.hd hc) (IsRange.new ..) (small_one (by omega) (by omega) (by omega) (by omega)) hn (by omega) fun h' tk acc' c' kp e hi => ?_
    have rv : Vals ((List.range j.toNat).map fun (k : Nat) => V.int (k : Int)) acc'.toList := by
      refine vals_of_get (by simp [hi.1]) fun i x u hx hu => ?_
      have hi' : i < j.toNat := by
        have := (List.getElem?_eq_some_iff.mp hx).1
        simpa using this
      have ex : x = .int (i : Int) := by
        have : ((List.range j.toNat).map fun (k : Nat) => V.int (k : Int))[i]? = some (.int (i : Int)) := by simp [hi']
        rw [hx] at this; exact Option.some.inj this
      subst ex
      obtain ⟨t', e'⟩ := hi.2 i u (by simpa using hu)
      subst e'
      exact ⟨t', by simp⟩
    have hz : ((List.range j.toNat).map fun (k : Nat) => V.int (k : Int)).length ≤ sizeLine := by
      have : (1000000 : Nat) ≤ sizeLine := by decide
      simp; omega
    exact ⟨.ref _, _, I2.laid (t' := tk) kp (Nat.le_refl _) (show ObjOk X.prog X.w _ h' _ (.lst _) from ⟨hz, acc'.toList, c', rv, by simpa using e⟩), rfl, q _ (I2.hok.fresh (Nat.le_refl _))⟩
/-- min of a list of numbers -/
def rMinL (K : PySem.W.Frag) : List V → Hp → VK → Prop := fun vs H Q => ∃ (l : Addr) (ns : List Int), vs = [.ref l] ∧ SqL K H l (ns.map V.int) ∧ 0 < ns.length ∧ ∀ M, M ∈ ns → (∀ a, a ∈ ns → M ≤ a) → Q (.int M) H
theorem ints_are : ∀ {ns : List Int} {its : List Value}, Vals (ns.map V.int) its → IntsAre its ns
  | [], its, h => by cases h; exact .nil
  | n :: ns, its, h => by
    cases h with
    | cons r t =>
      obtain ⟨k, rfl⟩ := r
      exact .cons n k (ints_are t)
theorem call_minL (hc : X.calm = true) : CallR X (.builtin "min") (rMinL X.K) := by
  intro pins s σ H xs us Q I r h
  obtain ⟨l, ns, rfl, hq, hne, q⟩ := h
  obtain ⟨u, rfl, ru⟩ := r.one
  cases ru
  obtain ⟨its, rv, p, hz⟩ := I.list hq
  have hi := ints_are rv
  obtain ⟨ys, e⟩ := hi.allInts.items
  have hns : ns = ys.toList.map (·.1) := by rw [← hi.numsOf, ← nums_intItems, ← e]
  have hsz : 0 < ys.size := by
    have h3 := hne; rw [hns, List.length_map, Array.length_toList] at h3; exact h3
  have hl := p.isList
  rw [e] at hl
  refine min_intList (I.ok.hd hc) hl hsz fun v h' tk hv hk => ?_
  obtain ⟨t, rfl⟩ := intItems_at hv
  obtain ⟨h1, h2⟩ := argBest_lt (numAt ys) (ys.size - 1)
  refine ⟨.int _, H, I.kept hk, ⟨_, rfl⟩, q _ ?_ fun a ha => ?_⟩
  · rw [hns, numAt_eq]; exact getD_mem (by rw [List.length_map, Array.length_toList]; omega)
  · rw [hns] at ha
    obtain ⟨j, hj, rfl⟩ := mem_getD ha
    rw [List.length_map, Array.length_toList] at hj
    rw [← numAt_eq]; exact h2 j (by omega)
theorem kMinL {K : PySem.W.Frag} (hK : X.K = K) (hc : X.calm = true) : CallR X (.builtin "min") (rMinL K) := by subst hK; exact call_minL hc
end
end L2


set_option Elab.async false
set_option linter.all false
namespace L2
/-! ### sums -/
def sm (n : Nat) (f : Nat → Int) : Int := ((List.range n).map f).sum
theorem sm_zero (f : Nat → Int) : sm 0 f = 0 := rfl
theorem sm_succ (n : Nat) (f : Nat → Int) : sm (n + 1) f = sm n f + f n := by
  unfold sm
  rw [List.range_succ, List.map_append, List.sum_append]
  simp
theorem sm_congr {n : Nat} {f g : Nat → Int} (h : ∀ i, i < n → f i = g i) : sm n f = sm n g := by
  induction n with
  | zero => rfl
  | succ n ih => rw [sm_succ, sm_succ, ih fun i hi => h i (by omega), h n (by omega)]
theorem sm_add (n : Nat) (f g : Nat → Int) : sm n (fun i => f i + g i) = sm n f + sm n g := by
  induction n with
  | zero => rfl
  | succ n ih => rw [sm_succ, sm_succ, sm_succ, ih]; omega
theorem sm_sub (n : Nat) (f g : Nat → Int) : sm n (fun i => f i - g i) = sm n f - sm n g := by
  induction n with
  | zero => rfl
  | succ n ih => rw [sm_succ, sm_succ, sm_succ, ih]; omega
theorem sm_neg (n : Nat) (f : Nat → Int) : sm n (fun i => -(f i)) = -(sm n f) := by
  induction n with
  | zero => rfl
  | succ n ih => rw [sm_succ, sm_succ, ih]; omega
theorem sm_mul (n : Nat) (c : Int) (f : Nat → Int) : sm n (fun i => c * f i) = c * sm n f := by
  induction n with
  | zero => simp [sm]
  | succ n ih => rw [sm_succ, sm_succ, ih, Int.mul_add]
theorem sm_mulr (n : Nat) (c : Int) (f : Nat → Int) : sm n (fun i => f i * c) = sm n f * c := by
  induction n with
  | zero => simp [sm]
  | succ n ih => rw [sm_succ, sm_succ, ih, Int.add_mul]
theorem sm_const0 (n : Nat) : sm n (fun _ => 0) = 0 := by
  induction n with
  | zero => rfl
  | succ n ih => rw [sm_succ, ih]; rfl
theorem sm_zero_of {n : Nat} {f : Nat → Int} (h : ∀ i, i < n → f i = 0) : sm n f = 0 := (sm_congr h).trans (sm_const0 n)
theorem sm_single {n a : Nat} {x : Int} (h : a < n) : sm n (fun i => if i = a then x else 0) = x := by
  induction n with
  | zero => omega
  | succ n ih =>
    rw [sm_succ]
    by_cases e : a = n
    · subst e
      rw [if_pos rfl, sm_zero_of fun i hi => if_neg (by omega)]
      omega
    · rw [ih (by omega), if_neg (Ne.symm e)]
      omega
/-- one term changed -/
theorem sm_one {n a : Nat} {f : Nat → Int} {x : Int} (h : a < n) : sm n (fun i => if i = a then x else f i) = sm n f - f a + x := by
  have e : sm n (fun i => if i = a then x else f i) = sm n (fun i => f i + if i = a then x - f a else 0) := sm_congr fun i _ => by
    by_cases q : i = a
    · subst q; rw [if_pos rfl, if_pos rfl]; omega
    · rw [if_neg q, if_neg q]; omega
  rw [e, sm_add, sm_single h]
  omega
theorem sm_le {n : Nat} {f g : Nat → Int} (h : ∀ i, i < n → f i ≤ g i) : sm n f ≤ sm n g := by
  induction n with
  | zero => exact Int.le_refl _
  | succ n ih =>
    rw [sm_succ, sm_succ]
    have := ih fun i hi => h i (by omega)
    have := h n (by omega)
    omega
theorem sm_nonneg {n : Nat} {f : Nat → Int} (h : ∀ i, i < n → 0 ≤ f i) : 0 ≤ sm n f := by
  have := sm_le (n := n) (f := fun _ => 0) (g := f) h
  rwa [sm_const0] at this
theorem sm_term_le {n a : Nat} {f : Nat → Int} (h : ∀ i, i < n → 0 ≤ f i) (ha : a < n) : f a ≤ sm n f := by
  have e := sm_one (f := f) (x := 0) ha
  have := sm_nonneg (n := n) (f := fun i => if i = a then 0 else f i) fun i hi => by
    by_cases q : i = a
    · simp [q]
    · simp only [if_neg q]; exact h i hi
  omega
theorem sm_comm (n m : Nat) (f : Nat → Nat → Int) : sm n (fun i => sm m (f i)) = sm m (fun j => sm n fun i => f i j) := by
  induction n with
  | zero => rw [sm_zero]; exact (sm_const0 m).symm
  | succ n ih =>
    rw [sm_succ, ih, ← sm_add]
    exact sm_congr fun j _ => (sm_succ n fun i => f i j).symm
theorem sm_app (n k : Nat) (f : Nat → Int) : sm (n + k) f = sm n f + sm k (fun i => f (n + i)) := by
  induction k with
  | zero => simp [sm]
  | succ k ih => rw [← Nat.add_assoc, sm_succ, ih, sm_succ]; omega
theorem sum_sm : ∀ (xs : List Int), xs.sum = sm xs.length fun i => xs.getD i 0
  | [] => rfl
  | x :: xs => by
    rw [List.sum_cons, sum_sm xs, List.length_cons, Nat.add_comm xs.length 1, sm_app]
    have e1 : sm 1 (fun i => (x :: xs).getD i 0) = x := by rw [sm_succ, sm_zero]; simp
    have e2 : sm xs.length (fun i => (x :: xs).getD (1 + i) 0) = sm xs.length fun i => xs.getD i 0 := sm_congr fun i _ => by rw [Nat.add_comm 1 i]; rfl
    rw [e1, e2]
theorem sum_range (n : Nat) (f : Nat → Int) : ((List.range n).map f).sum = sm n f := rfl
end L2


set_option Elab.async false
set_option linter.all false
namespace L2
open PySem
/-! ### the greatest divisor -/
def G (a b : Int) : Int := (Int.gcd a b : Int)
theorem G_comm (a b : Int) : G a b = G b a := by unfold G; rw [Int.gcd_comm]
theorem G_step {a b : Int} (ha : 0 ≤ a) (hb : 0 < b) : G b (a % b) = G a b := by
  obtain ⟨x, rfl⟩ := Int.eq_ofNat_of_zero_le ha
  obtain ⟨y, rfl⟩ := Int.eq_ofNat_of_zero_le (Int.le_of_lt hb)
  unfold G
  rw [← Int.natCast_emod]
  simp only [Int.gcd_natCast_natCast]
  rw [Nat.gcd_comm x y, Nat.gcd_rec y x, Nat.gcd_comm]
theorem G_zero {a : Int} (ha : 0 ≤ a) : G a 0 = a := by unfold G; simp; omega
theorem G_pos {a : Int} (b : Int) (ha : 1 ≤ a) : 1 ≤ G a b := by
  unfold G
  have : 0 < Int.gcd a b := Int.gcd_pos_of_ne_zero_left _ (by omega)
  omega
theorem G_le {a : Int} (b : Int) (ha : 1 ≤ a) : G a b ≤ a := by
  unfold G
  exact Int.le_of_dvd (by omega) (Int.gcd_dvd_left ..)
theorem G_dvd_left (a b : Int) : G a b ∣ a := Int.gcd_dvd_left ..
theorem G_dvd_right (a b : Int) : G a b ∣ b := Int.gcd_dvd_right ..
theorem half_step {x y p k : Nat} (hy : 0 < y) (hyx : y < x) (h : x * y * 2 ^ k ≤ p) : y * (x % y) * 2 ^ (k + 1) ≤ p := by
  have h1 : 2 * (x % y) ≤ x := by
    have e := Nat.div_add_mod x y
    have hq : 1 ≤ x / y := (Nat.one_le_div_iff hy).mpr (Nat.le_of_lt hyx)
    have hm : y * 1 ≤ y * (x / y) := Nat.mul_le_mul_left y hq
    have hl := Nat.mod_lt x hy
    omega
  calc y * (x % y) * 2 ^ (k + 1) = (2 * (x % y)) * y * 2 ^ k := by rw [Nat.pow_succ]; ac_rfl
    _ ≤ x * y * 2 ^ k := Nat.mul_le_mul_right _ (Nat.mul_le_mul_right _ h1)
    _ ≤ p := h
/-- what holds behind i steps of dividing -/
structure Eu (a b : Int) (i : Nat) (x y : Int) : Prop where
  x0 : 0 ≤ x
  y0 : 0 ≤ y
  g : G x y = G a b
  b : y = 0 ∨ (i = 0 ∧ x = a ∧ y = b) ∨ (1 ≤ i ∧ y < x ∧ x.toNat * y.toNat * 2 ^ (i - 1) ≤ a.toNat * b.toNat)
theorem Eu.start {a b : Int} (ha : 0 ≤ a) (hb : 0 ≤ b) : Eu a b 0 a b := ⟨ha, hb, rfl, .inr (.inl ⟨rfl, rfl, rfl⟩)⟩
theorem Eu.stay {a b x y : Int} {i : Nat} (h : Eu a b i x y) (hy : y = 0) : Eu a b (i + 1) x y := ⟨h.x0, h.y0, h.g, .inl hy⟩
theorem Eu.step {a b x y : Int} {i : Nat} (h : Eu a b i x y) (hy : 0 < y) : Eu a b (i + 1) y (x % y) := by
  have m0 := Int.emod_nonneg x (show y ≠ 0 by omega)
  have m1 := Int.emod_lt_of_pos x hy
  have x0 := h.x0
  refine ⟨h.y0, m0, by rw [G_step h.x0 hy]; exact h.g, .inr (.inr ⟨by omega, m1, ?_⟩)⟩
  have em : (x % y).toNat = x.toNat % y.toNat := by
    obtain ⟨u, rfl⟩ := Int.eq_ofNat_of_zero_le x0
    obtain ⟨v, rfl⟩ := Int.eq_ofNat_of_zero_le (Int.le_of_lt hy)
    rw [← Int.natCast_emod, Int.toNat_natCast, Int.toNat_natCast, Int.toNat_natCast]
  rw [em]
  rcases h.b with z | ⟨rfl, rfl, rfl⟩ | ⟨hi, hl, hp⟩
  · omega
  · have e : 0 + 1 - 1 = 0 := rfl
    rw [e, Nat.pow_zero, Nat.mul_one, Nat.mul_comm]
    exact Nat.mul_le_mul_right _ (Nat.mod_le _ _)
  · have := half_step (x := x.toNat) (y := y.toNat) (k := i - 1) (by omega) (by omega) hp
    have e : i + 1 - 1 = i - 1 + 1 := by omega
    rw [e]
    exact this
theorem Eu.done {a b x y : Int} {i : Nat} (h : Eu a b i x y) (hi : 1 ≤ i) (hp : a.toNat * b.toNat < 2 ^ (i - 1)) : x = G a b := by
  have y0 : y = 0 := by
    rcases h.b with z | ⟨z, _⟩ | ⟨_, hl, z⟩
    · exact z
    · omega
    · have y0 := h.y0
      by_cases hy : y = 0
      · exact hy
      · exfalso
        have h1 : 1 * 1 ≤ x.toNat * y.toNat := Nat.mul_le_mul (by omega) (by omega)
        have h2 : 1 * 2 ^ (i - 1) ≤ x.toNat * y.toNat * 2 ^ (i - 1) := Nat.mul_le_mul_right _ (by omega)
        omega
  have := h.g
  rw [y0, G_zero h.x0] at this
  exact this
theorem big_prod {a b : Int} (ha : a < 1427247692705959881058285969449495136382746624) (hb : b < 1427247692705959881058285969449495136382746624) : a.toNat * b.toNat < 2 ^ 399 := by
  have h1 : a.toNat ≤ 2 ^ 150 := by omega
  have h2 : b.toNat ≤ 2 ^ 150 := by omega
  have h3 := Nat.mul_le_mul h1 h2
  have h4 : (2 : Nat) ^ 150 * 2 ^ 150 < 2 ^ 399 := by decide
  omega
def sp_div : Sp := fun vs H Q _ => ∃ (a b : Int), vs = [.int a, .int b] ∧ 0 ≤ a ∧ 0 ≤ b ∧ Q (.int (G a b)) H
def sp_both : Sp := fun vs H Q _ => ∃ (a b : Int), vs = [.int a, .int b] ∧ 0 ≤ a ∧ 0 ≤ b ∧ a < 1427247692705959881058285969449495136382746624 ∧ b < 1427247692705959881058285969449495136382746624 ∧ Q (.int (G a b)) H
def sp_unit : Sp := fun vs H Q _ => ∃ (a b : Int), vs = [.int a, .int b] ∧ 1 ≤ a ∧ 1 ≤ b ∧ a < 1606938044258990275541962092341162602522202993782792835301376 ∧ ∀ p, H p = none → Q (.ref p) (upd H p (.tup [.int (b / G a b), .int (a / G a b)]))
def sp_weight : Sp := fun vs H Q _ => ∃ (a b : Int), vs = [.int a, .int b] ∧ 1 ≤ a ∧ 1 ≤ b ∧ a < 2 ^ 64 ∧ Q (.int (a * b / G a b)) H
end L2


set_option Elab.async false
set_option linter.all false
namespace L2
open PySem
/-! ### tables of numbers -/
def ent (m : List (List Int)) (i j : Nat) : Int := (m.getD i []).getD j 0
def put (m : List (List Int)) (i j : Nat) (v : Int) : List (List Int) := m.set i ((m.getD i []).set j v)
structure Sqr (n : Nat) (m : List (List Int)) : Prop where
  len : m.length = n
  rows : ∀ i, i < n → (m.getD i []).length = n
theorem put_row {m : List (List Int)} {i j k : Nat} {v : Int} (hi : i < m.length) : (put m i j v).getD k [] = if k = i then (m.getD i []).set j v else m.getD k [] := by
  unfold put
  by_cases h : k = i
  · subst h
    simp [List.getD_eq_getElem?_getD, hi]
  · rw [if_neg h]
    simp [List.getD_eq_getElem?_getD, List.getElem?_set_ne (Ne.symm h)]
theorem Sqr.put {n i j : Nat} {m : List (List Int)} {v : Int} (s : Sqr n m) (hi : i < n) : Sqr n (put m i j v) := by
  refine ⟨by unfold L2.put; rw [List.length_set]; exact s.len, fun k hk => ?_⟩
  rw [put_row (by rw [s.len]; exact hi)]
  split
  · rw [List.length_set]; exact s.rows i hi
  · exact s.rows k hk
theorem ent_put {n i j a b : Nat} {m : List (List Int)} {v : Int} (s : Sqr n m) (hi : i < n) (hj : j < n) : ent (put m i j v) a b = if a = i ∧ b = j then v else ent m a b := by
  unfold ent
  rw [put_row (by rw [s.len]; exact hi)]
  have hr := s.rows i hi
  by_cases ha : a = i
  · subst ha
    rw [if_pos rfl]
    by_cases hb : b = j
    · subst hb
      rw [if_pos ⟨rfl, rfl⟩, List.getD_eq_getElem?_getD, List.getElem?_set_self (by rw [hr]; exact hj)]
      rfl
    · rw [if_neg (fun z => hb z.2)]
      simp only [List.getD_eq_getElem?_getD]
      rw [List.getElem?_set_ne (Ne.symm hb)]
  · rw [if_neg ha, if_neg (fun z => ha z.1)]
theorem Sqr.get {n i j : Nat} {m : List (List Int)} (s : Sqr n m) (hi : i < n) (hj : j < n) : (m.getD i [])[j]? = some (ent m i j) := by
  have := s.rows i hi
  unfold ent
  simp [List.getD_eq_getElem?_getD] at this ⊢
  rw [List.getElem?_eq_getElem (by rw [this]; exact hj)]
  simp
/-- a table in the heap: its rows' addresses, all apart -/
structure TabA (H : Hp) (b : Addr) (as : List Addr) (m : List (List Int)) : Prop where
  top : H b = some (.lst (as.map V.ref))
  nd : as.Nodup
  nb : b ∉ as
  len : as.length = m.length
  row : ∀ i a, as[i]? = some a → H a = some (.lst ((m.getD i []).map V.int))
/-- a table that is read -/
structure TabR (φ : Addr → Prop) (H : Hp) (b : Addr) (m : List (List Int)) : Prop where
  ok : φ b
  ex : ∃ as : List Addr, H b = some (.lst (as.map V.ref)) ∧ as.length = m.length ∧ ∀ i a, as[i]? = some a → φ a ∧ H a = some (.lst ((m.getD i []).map V.int))
theorem TabA.read {φ : Addr → Prop} {H : Hp} {b : Addr} {as : List Addr} {m : List (List Int)} (t : TabA H b as m) (hb : φ b) (ha : ∀ a ∈ as, φ a) : TabR φ H b m :=
  ⟨hb, as, t.top, t.len, fun i a e => ⟨ha a (List.mem_of_getElem? e), t.row i a e⟩⟩
theorem TabA.mono {H H' : Hp} {b : Addr} {as : List Addr} {m : List (List Int)} (t : TabA H b as m) (hb : ∀ o, H b = some o → H' b = some o) (ha : ∀ a ∈ as, ∀ o, H a = some o → H' a = some o) : TabA H' b as m :=
  ⟨hb _ t.top, t.nd, t.nb, t.len, fun i a e => ha a (List.mem_of_getElem? e) _ (t.row i a e)⟩
theorem TabA.same {H H' : Hp} {b : Addr} {as : List Addr} {m : List (List Int)} (t : TabA H b as m) (k : Same H H') : TabA H' b as m := t.mono (fun o e => k _ _ e) fun a _ o e => k _ _ e
theorem TabA.keep {β : Bx} {H H' : Hp} {b : Addr} {as : List Addr} {m : List (List Int)} (t : TabA H b as m) (hb : Off β b) (ha : ∀ a ∈ as, Off β a) (k : Keep β H H') : TabA H' b as m := t.mono (fun o e => k _ _ e hb.nb) fun a h o e => k _ _ e (ha a h).nb
theorem TabR.mono {φ ψ : Addr → Prop} {H H' : Hp} {b : Addr} {m : List (List Int)} (t : TabR φ H b m) (k : ∀ a o, φ a → H a = some o → H' a = some o) (p : ∀ a, φ a → ψ a) : TabR ψ H' b m := by
  obtain ⟨as, h1, h2, h3⟩ := t.ex
  exact ⟨p _ t.ok, as, k _ _ t.ok h1, h2, fun i a e => ⟨p _ (h3 i a e).1, k _ _ (h3 i a e).1 (h3 i a e).2⟩⟩
theorem TabR.same {φ : Addr → Prop} {H H' : Hp} {b : Addr} {m : List (List Int)} (t : TabR φ H b m) (k : Same H H') : TabR φ H' b m := t.mono (fun a o _ e => k a o e) fun _ z => z
theorem TabR.keep {β : Bx} {H H' : Hp} {b : Addr} {m : List (List Int)} (t : TabR (Off β) H b m) (k : Keep β H H') : TabR (Off β) H' b m := t.mono (fun a o z e => k a o e z.nb) fun _ z => z
theorem TabR.any {φ : Addr → Prop} {H : Hp} {b : Addr} {m : List (List Int)} (t : TabR φ H b m) : TabR (fun _ => True) H b m := t.mono (fun a o _ e => e) fun _ _ => trivial
theorem TabA.put {H : Hp} {b a : Addr} {as : List Addr} {m : List (List Int)} {i j : Nat} {v : Int} (t : TabA H b as m) (hi : as[i]? = some a) : TabA (upd H a (.lst (((m.getD i []).set j v).map V.int))) b as (put m i j v) := by
  have hil : i < as.length := (List.getElem?_eq_some_iff.mp hi).1
  refine ⟨?_, t.nd, t.nb, by unfold L2.put; rw [List.length_set]; exact t.len, fun k c e => ?_⟩
  · have nba : b ≠ a := by rintro rfl; exact t.nb (List.mem_of_getElem? hi)
    rw [upd_ne nba]; exact t.top
  · rw [put_row (by rw [← t.len]; exact hil)]
    by_cases hk : k = i
    · subst hk
      rw [hi] at e; cases e
      rw [upd_same, if_pos rfl]
    · rw [if_neg hk, upd_ne]
      · exact t.row k c e
      · rintro rfl
        obtain ⟨h1, e1⟩ := List.getElem?_eq_some_iff.mp hi
        obtain ⟨h2, e2⟩ := List.getElem?_eq_some_iff.mp e
        exact hk ((List.getElem_inj t.nd).mp (e2.trans e1.symm))
def D.tab (m : List (List Int)) : D := .lst (m.map D.ints)
theorem Reps.tab {φ : Addr → Prop} {H : Hp} : ∀ {m : List (List Int)} {as : List Addr}, as.length = m.length → (∀ i a, as[i]? = some a → φ a ∧ H a = some (.lst ((m.getD i []).map V.int))) → Reps φ H (m.map D.ints) (as.map V.ref)
  | [], [], _, _ => by simp [Reps]
  | [], _ :: _, h, _ => by simp at h
  | _ :: _, [], h, _ => by simp at h
  | r :: m, a :: as, h, k => by
    simp only [List.map_cons, Reps]
    have h0 := k 0 a rfl
    refine ⟨_, _, rfl, Rep.ints h0.1 (by simpa using h0.2), Reps.tab (by simpa using h) fun i c e => ?_⟩
    have := k (i + 1) c (by simpa using e)
    simpa using this
theorem TabR.rep {φ : Addr → Prop} {H : Hp} {b : Addr} {m : List (List Int)} (t : TabR φ H b m) : Rep φ H (D.tab m) (.ref b) := by
  obtain ⟨as, h1, h2, h3⟩ := t.ex
  simp only [D.tab, Rep]
  exact ⟨b, _, rfl, t.ok, h1, Reps.tab h2 h3⟩
theorem deps_tab : ∀ (m : List (List Int)), deps (m.map D.ints) ≤ 1
  | [] => by simp [deps]
  | r :: m => by
    have := deps_tab m
    simp only [List.map_cons, deps]
    have : (D.ints r).dep = 1 := by simp [D.ints, D.dep, deps_ints]
    omega
theorem D.tab_dep (m : List (List Int)) : (D.tab m).dep < 3 := by
  have := deps_tab m
  simp only [D.tab, D.dep]; omega
theorem D.tab_dep60 (m : List (List Int)) : (D.tab m).dep ≤ 60 := by have := D.tab_dep m; omega
theorem wids_tab {n : Nat} : ∀ {m : List (List Int)}, (∀ r ∈ m, r.length ≤ n) → wids (m.map D.ints) ≤ n
  | [], _ => by simp [wids]
  | r :: m, h => by
    have h1 := wids_tab (m := m) fun q hq => h q (List.mem_cons_of_mem _ hq)
    have h2 := D.ints_wid (h r List.mem_cons_self)
    simp only [List.map_cons, wids]; omega
theorem Sqr.mem {n : Nat} {m : List (List Int)} (s : Sqr n m) : ∀ r ∈ m, r.length = n := fun r hr => by
  obtain ⟨i, hi, rfl⟩ := List.getElem_of_mem hr
  have := s.rows i (by rw [← s.len]; exact hi)
  simpa [List.getD_eq_getElem?_getD, hi] using this
theorem Sqr.wid {n : Nat} {m : List (List Int)} (s : Sqr n m) (h : n ≤ 1000) : (D.tab m).wid ≤ 1000 := by
  have h1 := wids_tab (n := 1000) (m := m) fun r hr => by rw [s.mem r hr]; exact h
  simp only [D.tab, D.wid, List.length_map]
  have := s.len
  omega
/-- numbers of tickets -/
def Tk (ts : List Int) : Prop := ∀ t ∈ ts, 1 ≤ t ∧ t ≤ 1000
theorem Tk.at {ts : List Int} (h : Tk ts) {i : Nat} (hi : i < ts.length) : ∃ t, ts[i]? = some t ∧ ts.getD i 1 = t ∧ 1 ≤ t ∧ t ≤ 1000 := by
  refine ⟨ts[i], by simp [hi], by simp [List.getD_eq_getElem?_getD, hi], ?_⟩
  exact h _ (List.getElem_mem hi)
/-- what a unit costs i of the pair i, j -/
def uc (ts : List Int) (i j : Nat) : Int := ts.getD j 1 / G (ts.getD i 1) (ts.getD j 1)
theorem atI_int {ns : List Int} {i : Nat} {v : Int} (h : ns[i]? = some v) : atI (ns.map V.int) (i : Int) = some (V.int v) := atI_nat (by simp [h])
def costN (i : Nat) (row ts : List Int) (k : Nat) : Int := ((List.range k).map fun j => if j = i then 0 else row.getD j 0 * uc ts i j).sum
theorem costN_succ (i : Nat) (row ts : List Int) (k : Nat) : costN i row ts (k + 1) = costN i row ts k + if k = i then 0 else row.getD k 0 * uc ts i k := by
  unfold costN
  rw [List.range_succ, List.map_append, List.sum_append]
  simp
def sp_cost : Sp := fun vs H Q _ => ∃ (i : Nat) (r t : Addr) (row ts : List Int), vs = [.int i, .ref r, .ref t] ∧ H r = some (.lst (row.map V.int)) ∧ H t = some (.lst (ts.map V.int)) ∧ Tk ts ∧ i < ts.length ∧ row.length ≤ ts.length ∧ ∀ H', Same H H' → Q (.int (costN i row ts row.length)) H'
def laidL (m : List (List Int)) (ts : List Int) (k : Nat) : List Int := (List.range k).map fun i => costN i (m.getD i []) ts (m.getD i []).length
def sp_laid : Sp := fun vs H Q _ => ∃ (b t : Addr) (m : List (List Int)) (ts : List Int), vs = [.ref b, .ref t] ∧ TabR (fun _ => True) H b m ∧ H t = some (.lst (ts.map V.int)) ∧ Tk ts ∧ m.length ≤ ts.length ∧ (∀ r ∈ m, r.length ≤ ts.length) ∧ ts.length ≤ 1000 ∧
  ∀ p H', H p = none → Same H H' → H' p = some (.lst ((laidL m ts m.length).map V.int)) → Q (.ref p) H'
end L2
namespace L2
open PySem
def sp_lunit : Sp := fun vs H Q _ => ∃ (a b : Int), vs = [.int a, .int b] ∧ 1 ≤ a ∧ 1 ≤ b ∧ a ≤ 1000 ∧ b ≤ 1000 ∧ ∀ p, H p = none → Q (.ref p) (upd H p (.tup [.int (b / G a b), .int (a / G a b)]))
/-- a copy of a table: all its lists are new -/
def sp_copied : Sp := fun vs H Q _ => ∃ (b : Addr) (m : List (List Int)), vs = [.ref b] ∧ TabR (fun _ => True) H b m ∧ m.length ≤ 1000 ∧
  ∀ p as H', H p = none → (∀ a ∈ as, H a = none) → Same H H' → TabA H' p as m → Q (.ref p) H'
/-- a drawn table of n members, even where lv says so -/
structure BetT (n : Nat) (lv : Bool) (m : List (List Int)) : Prop where
  sq : Sqr n m
  lo : ∀ i j, 0 ≤ ent m i j
  hi : ∀ i j, ent m i j < 1000000000000000000
  di : ∀ i, ent m i i = 0
  sy : lv = true → ∀ i j, ent m i j = ent m j i
def sp_bets : Sp := fun vs H Q _ => ∃ (β : Bx) (n : Nat) (lv : Bool), vs = [.ref β.b, .int n, .bl lv] ∧ Box β H ∧ n ≤ 100 ∧
  ∀ p as m H', H p = none → (∀ a ∈ as, H a = none) → TabA H' p as m → BetT n lv m → Keep β H H' → Box β H' → Q (.ref p) H'
/-- what each one's purse changes by where d dies, counted over the first k others -/
def chg (m : List (List Int)) (ts : List Int) (d k j : Nat) : Int := if j = d then -(costN d (m.getD d []) ts k) else if j < k then ent m d j * uc ts d j else 0
def chgL (m : List (List Int)) (ts : List Int) (d k : Nat) : List Int := (List.range ts.length).map (chg m ts d k)
def sp_change : Sp := fun vs H Q _ => ∃ (b t : Addr) (m : List (List Int)) (ts : List Int) (d : Nat), vs = [.ref b, .ref t, .int d] ∧ TabR (fun _ => True) H b m ∧ H t = some (.lst (ts.map V.int)) ∧ Tk ts ∧ Sqr ts.length m ∧ d < ts.length ∧ ts.length ≤ 1000 ∧
  ∀ p H', H p = none → Same H H' → H' p = some (.lst ((chgL m ts d ts.length).map V.int)) → Q (.ref p) H'
theorem flat_zeros (k : Nat) : (List.replicate k [V.int 0]).flatten = (List.replicate k (0 : Int)).map V.int := by
  induction k with
  | zero => rfl
  | succ k ih => rw [List.replicate_succ, List.flatten_cons, ih, List.replicate_succ]; rfl
theorem getD_range {n j : Nat} {f : Nat → Int} (h : j < n) : ((List.range n).map f)[j]? = some (f j) := by simp [h]
theorem set_range {n j : Nat} {f : Nat → Int} {v : Int} : ((List.range n).map f).set j v = (List.range n).map fun i => if i = j then v else f i := by
  apply List.ext_getElem?
  intro i
  by_cases hi : i < n
  · by_cases hij : i = j
    · subst hij; simp [hi]
    · rw [List.getElem?_set_ne (Ne.symm hij)]; simp [hi, hij]
  · simp only [List.getElem?_map, List.getElem?_set]
    have : ((List.range n).map f).length ≤ i := by simp; omega
    have h2 : (List.range n)[i]? = none := by simp; omega
    rw [h2]
    split
    · split
      · rename_i a b; simp at b; omega
      · rfl
    · rfl
theorem ixN_nat {n i : Nat} (h : i < n) : ixN n (i : Int) = some i := by
  unfold ixN
  rw [if_pos (by omega), if_pos (by omega)]
  simp
theorem map_set {ns : List Int} {j : Nat} {v : Int} : (ns.map V.int).set j (V.int v) = (ns.set j v).map V.int := by rw [List.map_set]
end L2
namespace L2
open PySem
/-- lists that came one after another, each new -/
structure Fresh (H H2 : Hp) (cs : List Addr) (f : Nat → List Int) : Prop where
  nd : cs.Nodup
  nw : ∀ c ∈ cs, H c = none
  row : ∀ (j : Nat) (c : Addr), cs[j]? = some c → H2 c = some (.lst ((f j).map V.int))
  S : Same H H2
theorem Fresh.nil (H : Hp) (f : Nat → List Int) : Fresh H H [] f := ⟨List.nodup_nil, by simp, by simp, Same.refl H⟩
theorem Fresh.out {H H2 : Hp} {cs : List Addr} {f : Nat → List Int} (x : Fresh H H2 cs f) {c : Addr} (hc : H2 c = none) : c ∉ cs := fun z => by
  obtain ⟨j, hj, e⟩ := List.getElem_of_mem z
  have := x.row j c (by rw [← e]; simp [hj])
  rw [hc] at this; cases this
theorem Fresh.same {H H2 H3 : Hp} {cs : List Addr} {f : Nat → List Int} (x : Fresh H H2 cs f) (k : Same H2 H3) : Fresh H H3 cs f := ⟨x.nd, x.nw, fun j c e => k _ _ (x.row j c e), x.S.trans k⟩
theorem Fresh.snoc {H H2 : Hp} {cs : List Addr} {f : Nat → List Int} (x : Fresh H H2 cs f) {c : Addr} (hc : H2 c = none) : Fresh H (upd H2 c (.lst ((f cs.length).map V.int))) (cs ++ [c]) f := by
  have ncs := x.out hc
  refine ⟨?_, fun d hd => ?_, fun j d e => ?_, x.S.trans (Same.upd hc)⟩
  · rw [List.nodup_append]
    refine ⟨x.nd, by simp, fun a ha b hb => ?_⟩
    have : b = c := by simpa using hb
    subst this
    rintro rfl
    exact ncs ha
  · rcases List.mem_append.mp hd with z | z
    · exact x.nw d z
    · have : d = c := by simpa using z
      subst this
      exact x.S.free hc
  · by_cases hj : j < cs.length
    · rw [List.getElem?_append_left hj] at e
      have : d ≠ c := by rintro rfl; exact ncs (List.mem_of_getElem? e)
      rw [upd_ne this]
      exact x.row j d e
    · rw [List.getElem?_append_right (by omega)] at e
      have hj0 : j - cs.length = 0 := by
        rcases Nat.eq_zero_or_pos (j - cs.length) with z | z
        · exact z
        · rw [List.getElem?_eq_none_iff.mpr (by simp; omega)] at e; cases e
      rw [hj0] at e
      have : d = c := by simpa using e.symm
      subst this
      have ej : j = cs.length := by omega
      subst ej
      rw [upd_same]
theorem Fresh.tab {H H2 : Hp} {cs : List Addr} {f : Nat → List Int} {m : List (List Int)} {d : Addr} (x : Fresh H H2 cs f) (hd : H2 d = none) (hl : cs.length = m.length) (hf : ∀ j, j < cs.length → f j = m.getD j []) : TabA (upd H2 d (.lst (cs.map V.ref))) d cs m := by
  have ncs := x.out hd
  refine ⟨upd_same, x.nd, ncs, hl, fun j c e => ?_⟩
  have hj : j < cs.length := (List.getElem?_eq_some_iff.mp e).1
  have : c ≠ d := by rintro rfl; exact ncs (List.mem_of_getElem? e)
  rw [upd_ne this, ← hf j hj]
  exact x.row j c e
theorem chg_step {m : List (List Int)} {ts : List Int} {d i : Nat} (hne : i ≠ d) (hi : i < ts.length) : (chgL m ts d i).set i (ent m d i * uc ts d i) = (List.range ts.length).map fun j => if j = i then ent m d i * uc ts d i else chg m ts d i j := by
  unfold chgL
  rw [set_range]
theorem chg_step2 {m : List (List Int)} {ts : List Int} {d i : Nat} (hne : i ≠ d) : (((chgL m ts d i).set i (ent m d i * uc ts d i)).set d (chg m ts d i d - ent m d i * uc ts d i)) = chgL m ts d (i + 1) := by
  unfold chgL
  rw [set_range, set_range]
  apply List.map_congr_left
  intro j _
  unfold chg
  have e := costN_succ d (m.getD d []) ts i
  rw [if_neg hne] at e
  by_cases h1 : j = d
  · subst h1
    rw [if_pos rfl, if_pos rfl, if_pos rfl, e]
    unfold ent
    omega
  · rw [if_neg h1]
    by_cases h2 : j = i
    · subst h2
      rw [if_pos rfl, if_neg h1, if_pos (Nat.lt_succ_self _)]
    · rw [if_neg h2, if_neg h1, if_neg h1]
      by_cases h3 : j < i
      · rw [if_pos h3, if_pos (by omega)]
      · rw [if_neg h3, if_neg (by omega)]
theorem chg_skip {m : List (List Int)} {ts : List Int} {d : Nat} : chgL m ts d (d + 1) = chgL m ts d d := by
  unfold chgL
  apply List.map_congr_left
  intro j _
  unfold chg
  have e := costN_succ d (m.getD d []) ts d
  rw [if_pos rfl, Int.add_zero] at e
  rw [e]
  by_cases h1 : j = d
  · rw [if_pos h1, if_pos h1]
  · rw [if_neg h1, if_neg h1]
    by_cases h3 : j < d
    · rw [if_pos h3, if_pos (by omega)]
    · rw [if_neg h3, if_neg (by omega)]
end L2
namespace L2
open PySem
theorem for_range0 {n : Nat} {g : TG} {tb : TS} {D : Ends} {σ : St} {H : Hp} (Pv : Nat → St → Hp → Prop) (h0 : Pv 0 σ H)
    (hs : ∀ (i : Nat) σ H, i < n → Pv i σ H → g (.int (i : Int)) σ H fun σ2 H2 => tb { D with nx := Pv (i + 1), ct := Pv (i + 1), bk := D.nx } σ2 H2) (hd : ∀ σ H, Pv n σ H → D.nx σ H) :
    ∃ W : Nat → Nat → St → Hp → Prop, (∃ m, W 0 m σ H) ∧ ∀ i m σ H, W i m σ H →
      ((Itr 0 n).stop i H ∧ D.nx σ H) ∨ ((Itr 0 n).go i H ∧ ∃ N : St → Hp → Prop, (∀ σ' H', N σ' H' → ∃ m', m' < m ∧ W (i + 1) m' σ' H') ∧ ∀ x H', (Itr 0 n).yld i H x H' → g x σ H' fun σ2 H2 => tb { D with nx := N, ct := N, bk := D.nx } σ2 H2) :=
  for_range (lo := 0) Pv h0 (fun i σ H hi p => by rw [Int.zero_add]; exact hs i σ H hi p) hd
theorem lc_range0 {k n : Nat} {g : TG} {tt : TT} {te : TE} {σ : St} {H : Hp} {Fin : List V → Hp → Prop} (Pv : Nat → List V → Hp → Prop) (hk : k < sizeLine) (h0 : Pv 0 [] H) (hl : ∀ i ys H, i ≤ k → Pv i ys H → ys.length ≤ i)
    (hs : ∀ (i : Nat) ys H, i < k → Pv i ys H → g (.int (i : Int)) (List.replicate n none ++ σ) H fun σ2 H2 => σ2.drop n = σ ∧ tt σ2 H2 fun c H3 => if c = true then te σ2 H3 fun y H4 => Pv (i + 1) (ys ++ [y]) H4 else Pv (i + 1) ys H3)
    (hd : ∀ ys H, Pv k ys H → Fin ys H) : LcW (Itr 0 k) n g tt te σ H Fin := lc_range (lo := 0) Pv hk h0 hl (fun i ys H hi p => by rw [Int.zero_add]; exact hs i ys H hi p) hd
/-- a number is written into a table -/
theorem TabA.write {H : Hp} {b a : Addr} {as : List Addr} {m : List (List Int)} {n i j : Nat} {v : Int} (t : TabA H b as m) (s : Sqr n m) (hi : as[i]? = some a) (hin : i < n) (hj : j < n) :
    ∃ m', TabA (upd H a (.lst (((m.getD i []).map V.int).set j (.int v)))) b as m' ∧ Sqr n m' ∧ ∀ x y, ent m' x y = if x = i ∧ y = j then v else ent m x y :=
  ⟨L2.put m i j v, by rw [map_set]; exact t.put hi, s.put hin, fun x y => ent_put s hin hj⟩
theorem TabA.at {H : Hp} {b : Addr} {as : List Addr} {m : List (List Int)} {n i : Nat} (t : TabA H b as m) (s : Sqr n m) (hi : i < n) : ∃ a, as[i]? = some a ∧ a ∈ as ∧ (as.map V.ref)[i]? = some (.ref a) ∧ H a = some (.lst ((m.getD i []).map V.int)) := by
  have : i < as.length := by rw [t.len, s.len]; exact hi
  exact ⟨as[i], by simp [this], List.getElem_mem this, by simp [this], t.row i _ (by simp [this])⟩
theorem zeros_bet (n : Nat) (lv : Bool) : BetT n lv (List.replicate n (List.replicate n 0)) := by
  have e : ∀ i j, ent (List.replicate n (List.replicate n 0)) i j = 0 := fun i j => by
    unfold ent
    simp only [List.getD_eq_getElem?_getD, List.getElem?_replicate]
    split
    · simp only [Option.getD_some, List.getElem?_replicate]
      split <;> rfl
    · simp
  exact ⟨⟨by simp, fun i hi => by simp [List.getD_eq_getElem?_getD, List.getElem?_replicate, hi]⟩, fun i j => by rw [e]; exact Int.le_refl _, fun i j => by rw [e]; decide, fun i => e i i, fun _ i j => by rw [e, e]⟩
end L2


set_option Elab.async false
set_option linter.all false
namespace L2
open PySem
/-- what a unit of i, j weighs -/
def wt (ts : List Int) (i j : Nat) : Int := ts.getD i 1 * uc ts i j
theorem wt_eq {ts : List Int} {i j : Nat} : ts.getD i 1 * ts.getD j 1 / G (ts.getD i 1) (ts.getD j 1) = wt ts i j := by
  unfold wt uc
  exact Int.mul_ediv_assoc _ (G_dvd_right _ _)
theorem uc_pos {ts : List Int} (h : Tk ts) {i j : Nat} (hi : i < ts.length) (hj : j < ts.length) : 1 ≤ uc ts i j ∧ uc ts i j ≤ 1000 := by
  obtain ⟨ti, _, gi, ti0, ti1⟩ := h.at hi
  obtain ⟨tj, _, gj, tj0, tj1⟩ := h.at hj
  unfold uc
  rw [gi, gj]
  have g0 := G_pos tj ti0
  have g1 : G ti tj ≤ tj := by rw [G_comm]; exact G_le ti tj0
  constructor
  · exact Int.le_ediv_of_mul_le (by omega) (by omega)
  · exact Int.le_trans (Int.ediv_le_self _ (by omega)) tj1
theorem wt_pos {ts : List Int} (h : Tk ts) {i j : Nat} (hi : i < ts.length) (hj : j < ts.length) : 1 ≤ wt ts i j ∧ wt ts i j ≤ 1000000 := by
  obtain ⟨ti, _, gi, ti0, ti1⟩ := h.at hi
  obtain ⟨u0, u1⟩ := uc_pos h hi hj
  unfold wt
  rw [gi]
  have h1 : 1 * 1 ≤ ti * uc ts i j := Int.mul_le_mul ti0 u0 (by omega) (by omega)
  have h2 : ti * uc ts i j ≤ 1000 * 1000 := Int.mul_le_mul ti1 u1 (by omega) (by omega)
  omega
def flo (row ts : List Int) (i j : Nat) : Int := if j = i then 0 else row.getD j 0 / (2 * wt ts i j)
def unitsL (i : Nat) (row ts : List Int) (k : Nat) : List Int := (List.range k).map (flo row ts i)
def betsL (m : List (List Int)) (ts : List Int) : List (List Int) := (List.range m.length).map fun i => unitsL i (m.getD i []) ts (m.getD i []).length
theorem betsL_row {m : List (List Int)} {ts : List Int} {i : Nat} (h : i < m.length) : (betsL m ts).getD i [] = unitsL i (m.getD i []) ts (m.getD i []).length := by
  simp [betsL, List.getD_eq_getElem?_getD, h]
theorem betsL_len (m : List (List Int)) (ts : List Int) : (betsL m ts).length = m.length := by simp [betsL]
theorem betsL_sqr {n : Nat} {m : List (List Int)} {ts : List Int} (s : Sqr n m) : Sqr n (betsL m ts) := by
  refine ⟨by rw [betsL_len]; exact s.len, fun i hi => ?_⟩
  rw [betsL_row (by rw [s.len]; exact hi)]
  simp only [unitsL, List.length_map, List.length_range]
  exact s.rows i hi
theorem unitsL_succ (i : Nat) (row ts : List Int) (k : Nat) : unitsL i row ts (k + 1) = unitsL i row ts k ++ [flo row ts i k] := by
  unfold unitsL
  rw [List.range_succ, List.map_append]
  rfl
def sp_units : Sp := fun vs H Q _ => ∃ (i : Nat) (r t : Addr) (row ts : List Int), vs = [.int i, .ref r, .ref t] ∧ H r = some (.lst (row.map V.int)) ∧ H t = some (.lst (ts.map V.int)) ∧ Tk ts ∧ i < ts.length ∧ row.length ≤ ts.length ∧ ts.length ≤ 1000 ∧
  ∀ p H', H p = none → Same H H' → H' p = some (.lst ((unitsL i row ts row.length).map V.int)) → Q (.ref p) H'
def sp_betsof : Sp := fun vs H Q _ => ∃ (b t : Addr) (m : List (List Int)) (ts : List Int), vs = [.ref b, .ref t] ∧ TabR (fun _ => True) H b m ∧ H t = some (.lst (ts.map V.int)) ∧ Tk ts ∧ m.length ≤ ts.length ∧ (∀ r ∈ m, r.length ≤ ts.length) ∧ ts.length ≤ 1000 ∧
  ∀ p as H', H p = none → (∀ a ∈ as, H a = none) → Same H H' → TabA H' p as (betsL m ts) → Q (.ref p) H'
/-- the law's own: diagonals nought -/
def sp_floored : Sp := fun vs H Q _ => ∃ (b t : Addr) (m : List (List Int)) (ts : List Int), vs = [.ref b, .ref t] ∧ TabR (fun _ => True) H b m ∧ H t = some (.lst (ts.map V.int)) ∧ Tk ts ∧ Sqr ts.length m ∧ (∀ i, ent m i i = 0) ∧ ts.length ≤ 1000 ∧
  ∀ p as H', H p = none → (∀ a ∈ as, H a = none) → Same H H' → TabA H' p as (betsL m ts) → Q (.ref p) H'
/-- a list that came new among the lists, and later than they -/
theorem Fresh.add {H H2 H3 : Hp} {cs : List Addr} {f : Nat → List Int} {c : Addr} (x : Fresh H H2 cs f) (hc : H2 c = none) (k : Same H2 H3) (h : H3 c = some (.lst ((f cs.length).map V.int))) : Fresh H H3 (cs ++ [c]) f := by
  have ncs := x.out hc
  refine ⟨?_, fun d hd => ?_, fun j d e => ?_, x.S.trans k⟩
  · rw [List.nodup_append]
    refine ⟨x.nd, by simp, fun a ha b hb => ?_⟩
    have : b = c := by simpa using hb
    subst this
    rintro rfl
    exact ncs ha
  · rcases List.mem_append.mp hd with z | z
    · exact x.nw d z
    · have : d = c := by simpa using z
      subst this
      exact x.S.free hc
  · by_cases hj : j < cs.length
    · rw [List.getElem?_append_left hj] at e
      exact k _ _ (x.row j d e)
    · rw [List.getElem?_append_right (by omega)] at e
      have hj0 : j - cs.length = 0 := by
        rcases Nat.eq_zero_or_pos (j - cs.length) with z | z
        · exact z
        · rw [List.getElem?_eq_none_iff.mpr (by simp; omega)] at e; cases e
      rw [hj0] at e
      have : d = c := by simpa using e.symm
      subst this
      have ej : j = cs.length := by omega
      subst ej
      exact h
end L2


set_option Elab.async false
set_option linter.all false
namespace L2
open PySem
/-! ### strokes -/
def dV : Option Nat → V
  | none => .non
  | some d => .int d
def mvL (m : List (List Int)) (ts : List Int) : Option Nat → List Int
  | none => List.replicate ts.length 0
  | some d => chgL m ts d ts.length
def sp_moved : Sp := fun vs H Q _ => ∃ (b t : Addr) (m : List (List Int)) (ts : List Int) (dv : Option Nat), vs = [.ref b, .ref t, dV dv] ∧ TabR (fun _ => True) H b m ∧ H t = some (.lst (ts.map V.int)) ∧ Tk ts ∧ Sqr ts.length m ∧ (∀ d, dv = some d → d < ts.length ∧ ent m d d = 0) ∧ ts.length ≤ 1000 ∧
  ∀ p H', H p = none → Same H H' → H' p = some (.lst ((mvL m ts dv).map V.int)) → Q (.ref p) H'
theorem chgL_zero (m : List (List Int)) (ts : List Int) (d : Nat) : chgL m ts d 0 = List.replicate ts.length 0 := by
  unfold chgL
  apply List.ext_getElem?
  intro i
  by_cases hi : i < ts.length
  · simp [hi, chg, costN]
  · simp [hi]
theorem chgL_get {m : List (List Int)} {ts : List Int} {d k j : Nat} (h : j < ts.length) : (chgL m ts d k)[j]? = some (chg m ts d k j) := by unfold chgL; exact getD_range h
theorem chgL_len (m : List (List Int)) (ts : List Int) (d k : Nat) : (chgL m ts d k).length = ts.length := by simp [chgL]
theorem mvL_len (m : List (List Int)) (ts : List Int) (dv : Option Nat) : (mvL m ts dv).length = ts.length := by
  cases dv with
  | none => simp [mvL]
  | some d => simp [mvL, chgL_len]
/-- a turn of the program's walk, its own place too -/
theorem mv_step {m : List (List Int)} {ts : List Int} {d i : Nat} (h0 : ent m d d = 0) (hd : d < ts.length) (hi : i < ts.length) :
    ∃ x, ((chgL m ts d i).set i (chg m ts d i i + ent m d i * uc ts d i))[d]? = some x ∧ (((chgL m ts d i).set i (chg m ts d i i + ent m d i * uc ts d i)).set d (x - ent m d i * uc ts d i)) = chgL m ts d (i + 1) := by
  by_cases hne : i = d
  · subst hne
    rw [h0, Int.zero_mul, Int.add_zero]
    refine ⟨chg m ts i i i, ?_, ?_⟩
    · rw [List.getElem?_set_self (by rw [chgL_len]; exact hi)]
    · rw [chg_skip, Int.sub_zero, List.set_set]
      apply List.ext_getElem?
      intro j
      by_cases hj : j = i
      · subst hj
        rw [List.getElem?_set_self (by rw [chgL_len]; exact hi), chgL_get hi]
      · rw [List.getElem?_set_ne (Ne.symm hj)]
  · have e : chg m ts d i i = 0 := by unfold chg; rw [if_neg hne, if_neg (Nat.lt_irrefl _)]
    rw [e, Int.zero_add]
    refine ⟨chg m ts d i d, ?_, ?_⟩
    · rw [List.getElem?_set_ne hne, chgL_get hd]
    · exact chg_step2 hne
def sp_changeO : Sp := fun vs H Q _ => ∃ (b t : Addr) (m : List (List Int)) (ts : List Int) (dv : Option Nat), vs = [.ref b, .ref t, dV dv] ∧ TabR (fun _ => True) H b m ∧ H t = some (.lst (ts.map V.int)) ∧ Tk ts ∧ Sqr ts.length m ∧ (∀ d, dv = some d → d < ts.length) ∧ ts.length ≤ 1000 ∧
  ∀ p H', H p = none → Same H H' → H' p = some (.lst ((mvL m ts dv).map V.int)) → Q (.ref p) H'
theorem costN_sm (i : Nat) (row ts : List Int) (k : Nat) : costN i row ts k = sm k fun j => if j = i then 0 else row.getD j 0 * uc ts i j := rfl
/-- no coin is made or lost -/
theorem chg_sum {m : List (List Int)} {ts : List Int} {d : Nat} (hd : d < ts.length) : sm ts.length (chg m ts d ts.length) = 0 := by
  have e : sm ts.length (chg m ts d ts.length) = sm ts.length (fun j => if j = d then -(costN d (m.getD d []) ts ts.length) else (if j = d then 0 else (m.getD d []).getD j 0 * uc ts d j)) := sm_congr fun j hj => by
    unfold chg
    by_cases h1 : j = d
    · rw [if_pos h1, if_pos h1]
    · rw [if_neg h1, if_neg h1, if_pos hj, if_neg h1]
      rfl
  rw [e, sm_one (f := fun j => if j = d then 0 else (m.getD d []).getD j 0 * uc ts d j) hd, ← costN_sm, if_pos rfl]
  omega
theorem mvL_sum {m : List (List Int)} {ts : List Int} {dv : Option Nat} (h : ∀ d, dv = some d → d < ts.length) : (mvL m ts dv).sum = 0 := by
  cases dv with
  | none => simp [mvL]
  | some d => exact chg_sum (h d rfl)
def dvs (n : Nat) : List (Option Nat) := none :: (List.range n).map some
theorem dvs_V (n : Nat) : [V.non] ++ (List.range n).map (fun (k : Nat) => V.int (k : Int)) = (dvs n).map dV := by
  simp [dvs, dV]
theorem dvs_lt {n i : Nat} {dv : Option Nat} (h : (dvs n)[i]? = some dv) : ∀ d, dv = some d → d < n := by
  rintro d rfl
  have := List.mem_of_getElem? h
  simpa [dvs] using this
/-- gains over the first k deaths -/
def gnN (m : List (List Int)) (ts : List Int) (k j : Nat) : Int := ((List.range k).map fun d => ts.getD d 1 * chg m ts d ts.length j).sum
def gnL (m : List (List Int)) (ts : List Int) (k : Nat) : List Int := (List.range ts.length).map (gnN m ts k)
theorem gnN_succ (m : List (List Int)) (ts : List Int) (k j : Nat) : gnN m ts (k + 1) j = gnN m ts k j + ts.getD k 1 * chg m ts k ts.length j := by
  unfold gnN
  rw [List.range_succ, List.map_append, List.sum_append]
  simp
/-- in the midst of a death: the first i places are done -/
def gnM (m : List (List Int)) (ts : List Int) (k i : Nat) : List Int := (List.range ts.length).map fun j => if j < i then gnN m ts (k + 1) j else gnN m ts k j
theorem gnM_zero (m : List (List Int)) (ts : List Int) (k : Nat) : gnM m ts k 0 = gnL m ts k := by
  unfold gnM gnL
  simp
theorem gnM_end (m : List (List Int)) (ts : List Int) (k : Nat) : gnM m ts k ts.length = gnL m ts (k + 1) := by
  unfold gnM gnL
  apply List.map_congr_left
  intro j hj
  rw [if_pos (List.mem_range.mp hj)]
theorem gnM_step {m : List (List Int)} {ts : List Int} {k i : Nat} : (gnM m ts k i).set i (gnN m ts k i + ts.getD k 1 * chg m ts k ts.length i) = gnM m ts k (i + 1) := by
  unfold gnM
  rw [set_range]
  apply List.map_congr_left
  intro j _
  by_cases hj : j = i
  · subst hj
    rw [if_pos rfl, if_pos (Nat.lt_succ_self _), gnN_succ]
  · rw [if_neg hj]
    by_cases h3 : j < i
    · rw [if_pos h3, if_pos (by omega)]
    · rw [if_neg h3, if_neg (by omega)]
theorem gnM_get {m : List (List Int)} {ts : List Int} {k i : Nat} (hi : i < ts.length) : (gnM m ts k i)[i]? = some (gnN m ts k i) := by
  unfold gnM
  rw [getD_range hi, if_neg (Nat.lt_irrefl _)]
theorem gnM_len (m : List (List Int)) (ts : List Int) (k i : Nat) : (gnM m ts k i).length = ts.length := by simp [gnM]
theorem gnL_len (m : List (List Int)) (ts : List Int) (k : Nat) : (gnL m ts k).length = ts.length := by simp [gnL]
theorem gnL_zero (m : List (List Int)) (ts : List Int) : gnL m ts 0 = List.replicate ts.length 0 := by
  unfold gnL
  apply List.ext_getElem?
  intro i
  by_cases hi : i < ts.length
  · simp [hi, gnN]
  · simp [hi]
def sp_gains : Sp := fun vs H Q _ => ∃ (b t : Addr) (m : List (List Int)) (ts : List Int), vs = [.ref b, .ref t] ∧ TabR (fun _ => True) H b m ∧ H t = some (.lst (ts.map V.int)) ∧ Tk ts ∧ Sqr ts.length m ∧ (∀ d, ent m d d = 0) ∧ ts.length ≤ 1000 ∧
  ∀ p H', H p = none → Same H H' → H' p = some (.lst ((gnL m ts ts.length).map V.int)) → Q (.ref p) H'
theorem zerosV {n : Nat} : (List.replicate ((n : Nat) : Int).toNat [V.int 0]).flatten = (List.replicate n (0 : Int)).map V.int := by rw [flat_zeros, Int.toNat_natCast]
end L2


set_option Elab.async false
set_option linter.all false
namespace L2
open PySem
theorem getD_get {xs : List Int} {i : Nat} (h : i < xs.length) : xs[i]? = some (xs.getD i 0) := by simp [List.getD_eq_getElem?_getD, h]
/-- two rows, place by place -/
def zadd (a b : List Int) (k : Nat) : List Int := (List.range k).map fun i => a.getD i 0 + b.getD i 0
def zmul (a b : List Int) (k : Nat) : List Int := (List.range k).map fun i => a.getD i 0 * b.getD i 0
theorem zadd_succ (a b : List Int) (k : Nat) : zadd a b (k + 1) = zadd a b k ++ [a.getD k 0 + b.getD k 0] := by unfold zadd; rw [List.range_succ, List.map_append]; rfl
theorem zmul_succ (a b : List Int) (k : Nat) : zmul a b (k + 1) = zmul a b k ++ [a.getD k 0 * b.getD k 0] := by unfold zmul; rw [List.range_succ, List.map_append]; rfl
theorem zadd_len (a b : List Int) (k : Nat) : (zadd a b k).length = k := by simp [zadd]
theorem zmul_len (a b : List Int) (k : Nat) : (zmul a b k).length = k := by simp [zmul]
def sp_struck : Sp := fun vs H Q _ => ∃ (c b t : Addr) (cs : List Int) (m : List (List Int)) (ts : List Int) (dv : Option Nat), vs = [.ref c, .ref b, .ref t, dV dv] ∧ H c = some (.lst (cs.map V.int)) ∧ cs.length = ts.length ∧ TabR (fun _ => True) H b m ∧ H t = some (.lst (ts.map V.int)) ∧ Tk ts ∧ Sqr ts.length m ∧ (∀ d, dv = some d → d < ts.length ∧ ent m d d = 0) ∧ ts.length ≤ 1000 ∧
  ∀ p H', H p = none → Same H H' → H' p = some (.lst ((zadd cs (mvL m ts dv) ts.length).map V.int)) → Q (.ref p) H'
theorem mvL_get {m : List (List Int)} {ts : List Int} {d j : Nat} (h : j < ts.length) : (mvL m ts (some d)).getD j 0 = chg m ts d ts.length j := by
  rw [List.getD_eq_getElem?_getD]
  show ((chgL m ts d ts.length)[j]?).getD 0 = _
  rw [chgL_get h]
  rfl
theorem mvL_none {m : List (List Int)} {ts : List Int} {j : Nat} : (mvL m ts none).getD j 0 = 0 := by
  show (List.replicate ts.length (0 : Int)).getD j 0 = 0
  rw [List.getD_eq_getElem?_getD, List.getElem?_replicate]
  split <;> rfl
theorem zadd_sum {a b : List Int} {n : Nat} (ha : a.length = n) (hb : b.length = n) : (zadd a b n).sum = a.sum + b.sum := by
  show sm n _ = _
  rw [sm_add, sum_sm a, sum_sm b, ha, hb]
theorem costN_nonneg {m : List (List Int)} {ts : List Int} {d k : Nat} (tk : Tk ts) (hd : d < ts.length) (hk : k ≤ ts.length) (lo : ∀ j, 0 ≤ ent m d j) : 0 ≤ costN d (m.getD d []) ts k := by
  rw [costN_sm]
  refine sm_nonneg fun j hj => ?_
  by_cases h : j = d
  · rw [if_pos h]; exact Int.le_refl _
  · rw [if_neg h]
    exact Int.mul_nonneg (lo j) (by have := (uc_pos tk hd (show j < ts.length by omega)).1; omega)
/-- all coins behind a stroke, where each purse bears its own cost -/
theorem struck_nonneg {m : List (List Int)} {ts cs : List Int} {dv : Option Nat} (tk : Tk ts) (lo : ∀ i j, 0 ≤ ent m i j) (hdv : ∀ d, dv = some d → d < ts.length) (hc : ∀ j, j < ts.length → 0 ≤ cs.getD j 0 + chg m ts j ts.length j) : ∀ x ∈ zadd cs (mvL m ts dv) ts.length, 0 ≤ x := by
  intro x hx
  obtain ⟨j, hj, rfl⟩ := List.mem_map.mp hx
  have hj := List.mem_range.mp hj
  have h1 := hc j hj
  have e : chg m ts j ts.length j = -(costN j (m.getD j []) ts ts.length) := by unfold chg; rw [if_pos rfl]
  have h2 := costN_nonneg (m := m) tk hj (Nat.le_refl _) (lo j)
  cases dv with
  | none => rw [mvL_none]; omega
  | some d =>
    rw [mvL_get hj]
    by_cases hjd : j = d
    · subst hjd; exact h1
    · have : 0 ≤ chg m ts d ts.length j := by
        unfold chg
        rw [if_neg hjd, if_pos hj]
        exact Int.mul_nonneg (lo d j) (by have := (uc_pos tk (hdv d rfl) hj).1; omega)
      omega
theorem Rep.pair {φ : Addr → Prop} {H : Hp} {l a b : Addr} {xs ys : List Int} (hl : φ l) (ha : φ a) (hb : φ b) (h : H l = some (.lst [.ref a, .ref b])) (h1 : H a = some (.lst (xs.map V.int))) (h2 : H b = some (.lst (ys.map V.int))) : Rep φ H (.lst [D.ints xs, D.ints ys]) (.ref l) := by
  simp only [Rep]
  refine ⟨l, _, rfl, hl, h, ?_⟩
  simp only [Reps]
  exact ⟨_, _, rfl, Rep.ints ha h1, _, _, rfl, Rep.ints hb h2, rfl⟩
theorem pair_dep (xs ys : List Int) : (D.lst [D.ints xs, D.ints ys]).dep ≤ 60 := by simp [D.dep, deps, D.ints, deps_ints]
def sp_weights : Sp := fun vs H Q _ => ∃ (c t : Addr) (cs ts : List Int), vs = [.ref c, .ref t] ∧ H c = some (.lst (cs.map V.int)) ∧ H t = some (.lst (ts.map V.int)) ∧ cs.length = ts.length ∧ ts.length ≤ 1000 ∧ (∀ x ∈ ts, -1000000000000000000 ≤ x ∧ x ≤ 1000000000000000000) ∧
  ∀ p H', H p = none → Same H H' → H' p = some (.lst ((zmul cs ts ts.length).map V.int)) → Q (.ref p) H'
end L2


set_option Elab.async false
set_option linter.all false
namespace L2
open PySem
def sp_wrow : Sp := fun vs H Q _ => ∃ (β : Bx) (n : Nat), vs = [.ref β.b, .int n] ∧ Box β H ∧ n ≤ 1000 ∧
  ∀ (p : Addr) (xs : List Int) (H' : Hp), H p = none → xs.length = n → (∀ x ∈ xs, 0 ≤ x) → Keep β H H' → Box β H' → Lst β H' p (xs.map V.int) → Q (.ref p) H'
/-- i weighs more than all others -/
def Hvy (ws : List Int) (i : Nat) : Prop := ws.sum - ws.getD i 0 < ws.getD i 0
structure Ovr (ws : List Int) (k : Nat) (o : Option Nat) : Prop where
  no : o = none → ∀ i, i < k → ¬ Hvy ws i
  yes : ∀ i, o = some i → i < k ∧ Hvy ws i
theorem two_le {ws : List Int} (h : ∀ x ∈ ws, 0 ≤ x) {i j : Nat} (hi : i < ws.length) (hj : j < ws.length) (hne : i ≠ j) : ws.getD i 0 + ws.getD j 0 ≤ ws.sum := by
  have nn : ∀ k, k < ws.length → 0 ≤ ws.getD k 0 := fun k hk => h _ (by simp [List.getD_eq_getElem?_getD, hk])
  rw [sum_sm]
  have e := sm_one (n := ws.length) (a := i) (f := fun k => ws.getD k 0) (x := 0) hi
  have h2 := sm_term_le (n := ws.length) (a := j) (f := fun k => if k = i then 0 else ws.getD k 0) (fun k hk => by
    by_cases q : k = i
    · simp [q]
    · simp only [if_neg q]; exact nn k hk) hj
  simp only [if_neg (Ne.symm hne)] at h2
  omega
theorem Ovr.uniq {ws : List Int} (h : ∀ x ∈ ws, 0 ≤ x) {o o' : Option Nat} (a : Ovr ws ws.length o) (b : Ovr ws ws.length o') : o = o' := by
  cases o with
  | none =>
    cases o' with
    | none => rfl
    | some j => exact absurd (b.yes j rfl).2 (a.no rfl j (b.yes j rfl).1)
  | some i =>
    obtain ⟨i1, i2⟩ := a.yes i rfl
    cases o' with
    | none => exact absurd i2 (b.no rfl i i1)
    | some j =>
      obtain ⟨j1, j2⟩ := b.yes j rfl
      by_cases e : i = j
      · rw [e]
      · have := two_le h i1 j1 e
        unfold Hvy at i2 j2
        omega
def sp_over : Sp := fun vs H Q _ => ∃ (p : Addr) (ws : List Int), vs = [.ref p] ∧ H p = some (.lst (ws.map V.int)) ∧ ∀ o H', Same H H' → Ovr ws ws.length o → Q (dV o) H'
def dD : Option Nat → D
  | none => .non
  | some d => .int d
theorem rep_dV {φ : Addr → Prop} {H : Hp} (o : Option Nat) : Rep φ H (dD o) (dV o) := by
  cases o with
  | none => simp [dD, dV, Rep]
  | some d => simp [dD, dV, Rep]
theorem dD_dep (o : Option Nat) : (dD o).dep = 0 := by cases o <;> rfl
theorem dD_wid (o : Option Nat) : (dD o).wid = 0 := by cases o <;> rfl
/-- all but one place -/
def oth (ws : List Int) (a k : Nat) : List Int := ((List.range k).filter fun i => !decide (i = a)).map fun i => ws.getD i 0
theorem oth_skip (ws : List Int) (a : Nat) : oth ws a (a + 1) = oth ws a a := by
  unfold oth
  rw [List.range_succ, List.filter_append]
  simp
theorem oth_succ {ws : List Int} {a k : Nat} (h : k ≠ a) : oth ws a (k + 1) = oth ws a k ++ [ws.getD k 0] := by
  unfold oth
  rw [List.range_succ, List.filter_append]
  simp [h]
theorem oth_sum_k (ws : List Int) (a : Nat) : ∀ k, (oth ws a k).sum = sm k (fun i => if i = a then 0 else ws.getD i 0)
  | 0 => rfl
  | k + 1 => by
    by_cases h : k = a
    · subst h
      rw [oth_skip, oth_sum_k ws k k, sm_succ, if_pos rfl, Int.add_zero]
    · rw [oth_succ h, List.sum_append, oth_sum_k ws a k, sm_succ, if_neg h]
      simp
theorem oth_sum {ws : List Int} {a : Nat} (h : a < ws.length) : (oth ws a ws.length).sum = ws.sum - ws.getD a 0 := by
  rw [oth_sum_k, sm_one (f := fun i => ws.getD i 0) h, sum_sm]
  omega
theorem oth_len (ws : List Int) (a k : Nat) : (oth ws a k).length ≤ k := by
  unfold oth
  rw [List.length_map]
  exact Nat.le_trans (List.length_filter_le _ _) (by simp)
/-! ### lists of pairs -/
structure Prs (φ : Addr → Prop) (H : Hp) (p : Addr) (as : List Addr) (ps : List (Int × Int)) : Prop where
  top : H p = some (.lst (as.map V.ref))
  ok : φ p
  oks : ∀ a ∈ as, φ a
  len : as.length = ps.length
  row : ∀ i a, as[i]? = some a → H a = some (.tup [.int (ps.getD i (0, 0)).1, .int (ps.getD i (0, 0)).2])
def D.pr (q : Int × Int) : D := .tup [.int q.1, .int q.2]
def D.prs (ps : List (Int × Int)) : D := .lst (ps.map D.pr)
theorem Reps.prs {φ : Addr → Prop} {H : Hp} : ∀ {ps : List (Int × Int)} {as : List Addr}, as.length = ps.length → (∀ a ∈ as, φ a) → (∀ i a, as[i]? = some a → H a = some (.tup [.int (ps.getD i (0, 0)).1, .int (ps.getD i (0, 0)).2])) → Reps φ H (ps.map D.pr) (as.map V.ref)
  | [], [], _, _, _ => by simp [Reps]
  | [], _ :: _, h, _, _ => by simp at h
  | _ :: _, [], h, _, _ => by simp at h
  | q :: ps, a :: as, h, f, k => by
    simp only [List.map_cons, Reps]
    have h0 := k 0 a rfl
    refine ⟨_, _, rfl, ?_, Reps.prs (by simpa using h) (fun c hc => f c (List.mem_cons_of_mem _ hc)) fun i c e => ?_⟩
    · simp only [D.pr, Rep]
      refine ⟨a, _, rfl, f a List.mem_cons_self, h0, ?_⟩
      simp [Reps, Rep]
    · have := k (i + 1) c (by simpa using e)
      simpa using this
theorem Prs.rep {φ : Addr → Prop} {H : Hp} {p : Addr} {as : List Addr} {ps : List (Int × Int)} (x : Prs φ H p as ps) : Rep φ H (D.prs ps) (.ref p) := by
  simp only [D.prs, Rep]
  exact ⟨p, _, rfl, x.ok, x.top, Reps.prs x.len x.oks x.row⟩
theorem Prs.mono {φ ψ : Addr → Prop} {H H' : Hp} {p : Addr} {as : List Addr} {ps : List (Int × Int)} (x : Prs φ H p as ps) (k : ∀ a o, φ a → H a = some o → H' a = some o) (q : ∀ a, φ a → ψ a) : Prs ψ H' p as ps :=
  ⟨k _ _ x.ok x.top, q _ x.ok, fun a ha => q _ (x.oks a ha), x.len, fun i a e => k _ _ (x.oks a (List.mem_of_getElem? e)) (x.row i a e)⟩
theorem Prs.same {φ : Addr → Prop} {H H' : Hp} {p : Addr} {as : List Addr} {ps : List (Int × Int)} (x : Prs φ H p as ps) (k : Same H H') : Prs φ H' p as ps := x.mono (fun a o _ e => k a o e) fun _ z => z
theorem deps_prs : ∀ ps : List (Int × Int), deps (ps.map D.pr) ≤ 1
  | [] => by simp [deps]
  | q :: ps => by
    have := deps_prs ps
    simp only [List.map_cons, deps, D.pr, D.dep]
    simp [deps, D.dep]
    omega
theorem D.prs_dep (ps : List (Int × Int)) : (D.prs ps).dep < 3 := by
  have := deps_prs ps
  simp only [D.prs, D.dep]; omega
theorem D.prs_dep60 (ps : List (Int × Int)) : (D.prs ps).dep ≤ 60 := by have := D.prs_dep ps; omega
theorem wids_prs : ∀ ps : List (Int × Int), wids (ps.map D.pr) ≤ 2
  | [] => by simp [wids]
  | q :: ps => by
    have := wids_prs ps
    simp only [List.map_cons, wids, D.pr, D.wid]
    simp [wids, D.wid]
    omega
theorem D.prs_wid {ps : List (Int × Int)} (h : ps.length ≤ 1000) : (D.prs ps).wid ≤ 1000 := by
  have := wids_prs ps
  simp only [D.prs, D.wid, List.length_map]
  omega
theorem Prs.nil {φ : Addr → Prop} {H : Hp} {p : Addr} (h : H p = some (.lst [])) (f : φ p) : Prs φ H p [] [] := ⟨h, f, by simp, rfl, by simp⟩
/-- one more pair behind -/
theorem Prs.snoc {φ : Addr → Prop} {H H' : Hp} {p a : Addr} {as : List Addr} {ps : List (Int × Int)} {q : Int × Int} (x : Prs φ H p as ps) (k : ∀ b o, b ≠ p → H b = some o → H' b = some o) (np : p ∉ as) (fa : φ a) (h1 : H' p = some (.lst ((as ++ [a]).map V.ref))) (h2 : H' a = some (.tup [.int q.1, .int q.2])) : Prs φ H' p (as ++ [a]) (ps ++ [q]) := by
  refine ⟨h1, x.ok, fun b hb => ?_, by simp [x.len], fun i b e => ?_⟩
  · rcases List.mem_append.mp hb with z | z
    · exact x.oks b z
    · have : b = a := by simpa using z
      rw [this]; exact fa
  · by_cases hi : i < as.length
    · rw [List.getElem?_append_left hi] at e
      have h3 := x.row i b e
      have : b ≠ p := by rintro rfl; exact np (List.mem_of_getElem? e)
      rw [List.getD_eq_getElem?_getD, List.getElem?_append_left (by rw [← x.len]; exact hi), ← List.getD_eq_getElem?_getD]
      exact k b _ this h3
    · rw [List.getElem?_append_right (by omega)] at e
      have hi0 : i - as.length = 0 := by
        rcases Nat.eq_zero_or_pos (i - as.length) with z | z
        · exact z
        · rw [List.getElem?_eq_none_iff.mpr (by simp; omega)] at e; cases e
      rw [hi0] at e
      have : b = a := by simpa using e.symm
      subst this
      have ei : i = ps.length := by have := x.len; omega
      subst ei
      rw [List.getD_eq_getElem?_getD, List.getElem?_append_right (Nat.le_refl _), Nat.sub_self]
      exact h2
/-- where the arcs begin -/
def beg (ws : List Int) (k : Nat) : Int := 2 * sm k fun i => ws.getD i 0
theorem beg_succ (ws : List Int) (k : Nat) : beg ws (k + 1) = beg ws k + 2 * ws.getD k 0 := by unfold beg; rw [sm_succ]; omega
def arcsL (ws : List Int) (k : Nat) : List (Int × Int) := (List.range k).map fun i => (beg ws i, beg ws (i + 1))
theorem arcsL_succ (ws : List Int) (k : Nat) : arcsL ws (k + 1) = arcsL ws k ++ [(beg ws k, beg ws (k + 1))] := by unfold arcsL; rw [List.range_succ, List.map_append]; rfl
theorem arcsL_len (ws : List Int) (k : Nat) : (arcsL ws k).length = k := by simp [arcsL]
def sp_arcs : Sp := fun vs H Q _ => ∃ (p : Addr) (ws : List Int), vs = [.ref p] ∧ H p = some (.lst (ws.map V.int)) ∧ ws.length ≤ 1000 ∧ ∀ q as H', H q = none → q ∉ as → Same H H' → Prs (fun _ => True) H' q as (arcsL ws ws.length) → Q (.ref q) H'
end L2


set_option Elab.async false
set_option linter.all false
namespace L2
open PySem
/-- how long two arcs lie over one another -/
def cmn (a b c d : Int) : Int := if (if d < b then d else b) - (if c > a then c else a) > 0 then (if d < b then d else b) - (if c > a then c else a) else 0
theorem cmn_nonneg (a b c d : Int) : 0 ≤ cmn a b c d := by unfold cmn; (repeat' split) <;> omega
theorem cmn_join {a b t u v : Int} (h0 : a ≤ b) (h1 : t ≤ u) (h2 : u ≤ v) : cmn a b t u + cmn a b u v = cmn a b t v := by
  unfold cmn; (repeat' split) <;> omega
theorem cmn_nil {a b t : Int} : cmn a b t t = 0 ∨ a > b ∨ True := .inr (.inr trivial)
theorem cmn_self {a b t : Int} : cmn a b t t = 0 := by unfold cmn; (repeat' split) <;> omega
theorem cmn_turn (a b c d s : Int) : cmn a b (c + s) (d + s) = cmn c d (a - s) (b - s) := by
  unfold cmn; (repeat' split) <;> omega
theorem cmn_shift (a b c d s : Int) : cmn (a + s) (b + s) (c + s) (d + s) = cmn a b c d := by
  unfold cmn; (repeat' split) <;> omega
def acr (ws : List Int) (i j : Nat) : Int := cmn (beg ws i) (beg ws (i + 1)) (beg ws j + ws.sum) (beg ws (j + 1) + ws.sum) + cmn (beg ws i) (beg ws (i + 1)) (beg ws j + -ws.sum) (beg ws (j + 1) + -ws.sum)
def ringL (ws : List Int) : List (List Int) := (List.range ws.length).map fun i => (List.range ws.length).map fun j => acr ws i j
theorem ringL_row {ws : List Int} {i : Nat} (h : i < ws.length) : (ringL ws).getD i [] = (List.range ws.length).map fun j => acr ws i j := by
  simp [ringL, List.getD_eq_getElem?_getD, h]
theorem ringL_sqr (ws : List Int) : Sqr ws.length (ringL ws) := ⟨by simp [ringL], fun i hi => by rw [ringL_row hi]; simp⟩
theorem ringL_ent {ws : List Int} {i j : Nat} (hi : i < ws.length) (hj : j < ws.length) : ent (ringL ws) i j = acr ws i j := by
  unfold ent
  rw [ringL_row hi, List.getD_eq_getElem?_getD, getD_range hj]
  rfl
/-! mathematics of the ring -/
def Nn (ws : List Int) : Prop := ∀ x ∈ ws, 0 ≤ x
theorem Nn.get {ws : List Int} (h : Nn ws) (i : Nat) : 0 ≤ ws.getD i 0 := by
  by_cases hi : i < ws.length
  · exact h _ (by simp [List.getD_eq_getElem?_getD, hi])
  · rw [List.getD_eq_getElem?_getD, List.getElem?_eq_none_iff.mpr (by omega)]; exact Int.le_refl _
theorem beg_mono1 {ws : List Int} (h : Nn ws) (i : Nat) : beg ws i ≤ beg ws (i + 1) := by rw [beg_succ]; have := h.get i; omega
theorem beg_mono {ws : List Int} (h : Nn ws) {i j : Nat} (hij : i ≤ j) : beg ws i ≤ beg ws j := by
  induction j with
  | zero => have : i = 0 := by omega
            subst this; exact Int.le_refl _
  | succ j ih =>
    by_cases e : i = j + 1
    · subst e; exact Int.le_refl _
    · exact Int.le_trans (ih (by omega)) (beg_mono1 h j)
theorem beg_zero (ws : List Int) : beg ws 0 = 0 := by simp [beg, sm]
theorem beg_end (ws : List Int) : beg ws ws.length = 2 * ws.sum := by unfold beg; rw [← sum_sm]
theorem beg_nonneg {ws : List Int} (h : Nn ws) (i : Nat) : 0 ≤ beg ws i := by have := beg_mono h (Nat.zero_le i); rw [beg_zero] at this; exact this
theorem beg_le {ws : List Int} (h : Nn ws) {i : Nat} (hi : i ≤ ws.length) : beg ws i ≤ 2 * ws.sum := by rw [← beg_end]; exact beg_mono h hi
theorem sum_nn {ws : List Int} (h : Nn ws) : 0 ≤ ws.sum := by have := beg_le h (Nat.zero_le _); rw [beg_zero] at this; omega
theorem cmn_sum {ws : List Int} (h : Nn ws) {a b s : Int} (hab : a ≤ b) : ∀ k, sm k (fun j => cmn a b (beg ws j + s) (beg ws (j + 1) + s)) = cmn a b s (beg ws k + s)
  | 0 => by rw [sm_zero, beg_zero, Int.zero_add, cmn_self]
  | k + 1 => by
    rw [sm_succ, cmn_sum h hab k]
    exact cmn_join hab (by have := beg_nonneg h k; omega) (by have := beg_mono1 h k; omega)
theorem acr_sum {ws : List Int} (h : Nn ws) {i : Nat} (hi : i < ws.length) : sm ws.length (acr ws i) = 2 * ws.getD i 0 := by
  have hab := beg_mono1 h i
  have e : sm ws.length (acr ws i) = sm ws.length (fun j => cmn (beg ws i) (beg ws (i + 1)) (beg ws j + ws.sum) (beg ws (j + 1) + ws.sum)) + sm ws.length (fun j => cmn (beg ws i) (beg ws (i + 1)) (beg ws j + -ws.sum) (beg ws (j + 1) + -ws.sum)) := sm_add _ _ _
  rw [e, cmn_sum h hab, cmn_sum h hab, beg_end]
  have h1 := beg_succ ws i
  have h2 := beg_nonneg h i
  have h3 := beg_le h (show i + 1 ≤ ws.length by omega)
  have h4 := sum_nn h
  unfold cmn
  (repeat' split) <;> omega
theorem acr_nonneg (ws : List Int) (i j : Nat) : 0 ≤ acr ws i j := by
  unfold acr
  have := cmn_nonneg (beg ws i) (beg ws (i + 1)) (beg ws j + ws.sum) (beg ws (j + 1) + ws.sum)
  have := cmn_nonneg (beg ws i) (beg ws (i + 1)) (beg ws j + -ws.sum) (beg ws (j + 1) + -ws.sum)
  omega
theorem acr_symm (ws : List Int) (i j : Nat) : acr ws i j = acr ws j i := by
  unfold acr
  rw [cmn_turn (beg ws i) (beg ws (i + 1)), cmn_turn (beg ws i) (beg ws (i + 1))]
  rw [show ∀ x : Int, x - -ws.sum = x + ws.sum by intro x; omega, show ∀ x : Int, x - -ws.sum = x + ws.sum by intro x; omega]
  rw [show ∀ x : Int, x - ws.sum = x + -ws.sum by intro x; omega, show ∀ x : Int, x - ws.sum = x + -ws.sum by intro x; omega]
  omega
theorem acr_diag {ws : List Int} (h : Nn ws) (i : Nat) : acr ws i i = 2 * (if 2 * ws.getD i 0 - ws.sum > 0 then 2 * ws.getD i 0 - ws.sum else 0) := by
  have h1 := beg_succ ws i
  have h2 := h.get i
  have h4 := sum_nn h
  unfold acr cmn
  (repeat' split) <;> omega
/-! specs -/
def sp_shifted : Sp := fun vs H Q _ => ∃ (a : Addr) (x y b : Int), vs = [.ref a, .int b] ∧ H a = some (.tup [.int x, .int y]) ∧ ∀ p, H p = none → Q (.ref p) (upd H p (.tup [.int (x + b), .int (y + b)]))
def sp_common : Sp := fun vs H Q _ => ∃ (a b : Addr) (x y u v : Int), vs = [.ref a, .ref b] ∧ H a = some (.tup [.int x, .int y]) ∧ H b = some (.tup [.int u, .int v]) ∧ Q (.int (cmn x y u v)) H
def sp_across : Sp := fun vs H Q _ => ∃ (a b : Addr) (x y u v h : Int), vs = [.ref a, .ref b, .int h] ∧ H a = some (.tup [.int x, .int y]) ∧ H b = some (.tup [.int u, .int v]) ∧ ∀ H', Same H H' → Q (.int (cmn x y (u + h) (v + h) + cmn x y (u + -h) (v + -h))) H'
def sp_ring : Sp := fun vs H Q _ => ∃ (p : Addr) (ws : List Int), vs = [.ref p] ∧ H p = some (.lst (ws.map V.int)) ∧ ws.length ≤ 1000 ∧ ∀ q as H', H q = none → (∀ a ∈ as, H a = none) → Same H H' → TabA H' q as (ringL ws) → Q (.ref q) H'
theorem Prs.get {φ : Addr → Prop} {H : Hp} {p : Addr} {as : List Addr} {ps : List (Int × Int)} (x : Prs φ H p as ps) {i : Nat} {v : V} (h : (as.map V.ref)[i]? = some v) : ∃ a, v = .ref a ∧ i < ps.length ∧ H a = some (.tup [.int (ps.getD i (0, 0)).1, .int (ps.getD i (0, 0)).2]) := by
  rw [List.getElem?_map] at h
  cases e : as[i]? with
  | none => rw [e] at h; cases h
  | some a =>
    rw [e] at h
    refine ⟨a, by simpa using h.symm, ?_, x.row i a e⟩
    rw [← x.len]
    exact (List.getElem?_eq_some_iff.mp e).1
theorem arcsL_get {ws : List Int} {n i : Nat} (h : i < n) : (arcsL ws n).getD i (0, 0) = (beg ws i, beg ws (i + 1)) := by
  simp [arcsL, List.getD_eq_getElem?_getD, h]
end L2


set_option Elab.async false
set_option linter.all false
namespace L2
open PySem
def sp_whole : Sp := fun vs H Q _ => ∃ (b : Addr) (n : Nat) (m : List (List Int)), vs = [.ref b, .int n] ∧ TabR (fun _ => True) H b m ∧ Sqr n m ∧ n ≤ 1000 ∧ ∀ H', Same H H' → Q (.bl true) H'
/-- all but some addresses stay -/
def Kx (D : Addr → Prop) (H H' : Hp) : Prop := ∀ a o, H a = some o → ¬ D a → H' a = some o
theorem Kx.refl (D : Addr → Prop) (H : Hp) : Kx D H H := fun _ _ e _ => e
theorem Same.kx {D : Addr → Prop} {H H' : Hp} (k : Same H H') : Kx D H H' := fun a o e _ => k a o e
theorem Kx.trans {D : Addr → Prop} {H H1 H2 : Hp} (x : Kx D H H1) (y : Kx D H1 H2) : Kx D H H2 := fun a o e n => y a o (x a o e n) n
theorem Kx.write {D : Addr → Prop} {H H' : Hp} {p : Addr} {o : HO} (x : Kx D H H') (d : D p) : Kx D H (upd H' p o) := fun a u e n => by
  rw [upd_ne (by rintro rfl; exact n d)]
  exact x a u e n
theorem Kx.late {D : Addr → Prop} {H H' : Hp} {p : Addr} {o : HO} (x : Kx D H H') (h : H p = none) : Kx D H (upd H' p o) := fun a u e n => by
  rw [upd_ne (ne_of_none e h)]
  exact x a u e n
theorem TabR.kx {D : Addr → Prop} {H H' : Hp} {b : Addr} {m : List (List Int)} (t : TabR (fun a => ¬ D a) H b m) (k : Kx D H H') : TabR (fun a => ¬ D a) H' b m := t.mono (fun a o z e => k a o e z) fun _ z => z
theorem TabR.at {φ : Addr → Prop} {H : Hp} {b : Addr} {m : List (List Int)} {n i : Nat} (t : TabR φ H b m) (s : Sqr n m) (hi : i < n) : ∃ (as : List Addr) (a : Addr), H b = some (.lst (as.map V.ref)) ∧ (as.map V.ref)[i]? = some (.ref a) ∧ H a = some (.lst ((m.getD i []).map V.int)) := by
  obtain ⟨as, h1, h2, h3⟩ := t.ex
  have : i < as.length := by rw [h2, s.len]; exact hi
  exact ⟨as, as[i], h1, by simp [this], (h3 i _ (by simp [this])).2⟩
theorem row_sum {n : Nat} {m : List (List Int)} (s : Sqr n m) {i : Nat} (hi : i < n) : (m.getD i []).sum = sm n (ent m i) := by
  rw [sum_sm, s.rows i hi]
  rfl
theorem row_mem {n : Nat} {m : List (List Int)} (s : Sqr n m) {i : Nat} (hi : i < n) {x : Int} (h : x ∈ m.getD i []) : ∃ j, j < n ∧ x = ent m i j := by
  obtain ⟨j, hj, rfl⟩ := List.getElem_of_mem h
  have hj' : j < n := by rw [s.rows i hi] at hj; exact hj
  refine ⟨j, hj', ?_⟩
  unfold ent
  simp [List.getD_eq_getElem?_getD] at hj ⊢
  simp [hj]
end L2


set_option Elab.async false
set_option linter.all false
namespace L2
open PySem
theorem Rep.lst2 {φ : Addr → Prop} {H : Hp} {l : Addr} {u v : V} {d e : D} (f : φ l) (h : H l = some (.lst [u, v])) (h1 : Rep φ H d u) (h2 : Rep φ H e v) : Rep φ H (.lst [d, e]) (.ref l) := by
  simp only [Rep]
  refine ⟨l, _, rfl, f, h, ?_⟩
  simp only [Reps]
  exact ⟨_, _, rfl, h1, _, _, rfl, h2, rfl⟩
theorem Rep.lst3 {φ : Addr → Prop} {H : Hp} {l : Addr} {u v w : V} {d e g : D} (f : φ l) (h : H l = some (.lst [u, v, w])) (h1 : Rep φ H d u) (h2 : Rep φ H e v) (h3 : Rep φ H g w) : Rep φ H (.lst [d, e, g]) (.ref l) := by
  simp only [Rep]
  refine ⟨l, _, rfl, f, h, ?_⟩
  simp only [Reps]
  exact ⟨_, _, rfl, h1, _, _, rfl, h2, _, _, rfl, h3, rfl⟩
theorem D.ints_dep3 (xs : List Int) : (D.ints xs).dep < 3 := by simp [D.ints, D.dep, deps_ints]
theorem wt_comm (ts : List Int) (i j : Nat) : wt ts i j = wt ts j i := by
  rw [← wt_eq, ← wt_eq, G_comm, Int.mul_comm]
/-- a gain, by what is laid more on one side than on the other -/
theorem gn_eq {m : List (List Int)} {ts : List Int} (sq : Sqr ts.length m) {j : Nat} (hj : j < ts.length) : gnN m ts ts.length j = sm ts.length fun d => if d = j then 0 else (ent m d j - ent m j d) * wt ts d j := by
  have e1 : gnN m ts ts.length j = sm ts.length (fun d => if d = j then -(ts.getD j 1 * costN j (m.getD j []) ts ts.length) else (if d = j then 0 else ent m d j * wt ts d j)) := by
    show sm ts.length _ = _
    refine sm_congr fun d hd => ?_
    unfold chg
    by_cases h : d = j
    · subst h
      rw [if_pos rfl, if_pos rfl, Int.mul_neg]
    · rw [if_neg (Ne.symm h), if_pos hj, if_neg h, if_neg h]
      unfold wt
      rw [← Int.mul_assoc, Int.mul_comm (ts.getD d 1), Int.mul_assoc]
  have e2 : ts.getD j 1 * costN j (m.getD j []) ts ts.length = sm ts.length (fun d => if d = j then 0 else ent m j d * wt ts d j) := by
    rw [costN_sm, ← sm_mul]
    refine sm_congr fun d hd => ?_
    by_cases h : d = j
    · rw [if_pos h, if_pos h, Int.mul_zero]
    · rw [if_neg h, if_neg h, wt_comm ts d j]
      unfold wt ent
      rw [← Int.mul_assoc, Int.mul_comm (ts.getD j 1), Int.mul_assoc]
  rw [e1, sm_one (f := fun d => if d = j then 0 else ent m d j * wt ts d j) hj, if_pos rfl, e2]
  have e3 : sm ts.length (fun d => if d = j then 0 else (ent m d j - ent m j d) * wt ts d j) = sm ts.length (fun d => (if d = j then 0 else ent m d j * wt ts d j) - (if d = j then 0 else ent m j d * wt ts d j)) := sm_congr fun d _ => by
    by_cases h : d = j
    · rw [if_pos h, if_pos h, if_pos h]; rfl
    · rw [if_neg h, if_neg h, if_neg h, Int.sub_mul]
  rw [e3, sm_sub]
  omega
theorem gn_even {m : List (List Int)} {ts : List Int} (sq : Sqr ts.length m) (h : ∀ i j, ent m i j = ent m j i) : gnL m ts ts.length = List.replicate ts.length 0 := by
  unfold gnL
  apply List.ext_getElem?
  intro j
  by_cases hj : j < ts.length
  · rw [getD_range hj, gn_eq sq hj, sm_zero_of fun d _ => ?_]
    · simp [hj]
    · rw [h d j, Int.sub_self, Int.zero_mul]; split <;> rfl
  · simp [hj]
/-- bent at one place -/
theorem gn_bent {m m' : List (List Int)} {ts : List Int} (sq' : Sqr ts.length m') (h : ∀ i j, ent m i j = ent m j i) {a b : Nat} {x : Int} (ha : a < ts.length) (hb : b < ts.length) (hab : a ≠ b) (e : ∀ i j, ent m' i j = if i = a ∧ j = b then ent m a b + x else ent m i j) :
    gnL m' ts ts.length = (List.range ts.length).map fun j => if j = a then -(x * wt ts a b) else if j = b then x * wt ts a b else 0 := by
  unfold gnL
  apply List.map_congr_left
  intro j hj
  have hj := List.mem_range.mp hj
  rw [gn_eq sq' hj]
  by_cases ja : j = a
  · subst ja
    rw [if_pos rfl]
    have : sm ts.length (fun d => if d = j then 0 else (ent m' d j - ent m' j d) * wt ts d j) = sm ts.length (fun d => if d = b then -(x * wt ts j b) else 0) := sm_congr fun d hd => by
      by_cases hdj : d = j
      · subst hdj; rw [if_pos rfl, if_neg hab]
      · rw [if_neg hdj, e, e]
        rw [if_neg (fun z => hdj z.1)]
        by_cases hdb : d = b
        · subst hdb
          rw [if_pos ⟨rfl, rfl⟩, if_pos rfl, h d j, wt_comm ts d j, ← Int.neg_mul]
          congr 1
          omega
        · rw [if_neg (fun z => hdb z.2), if_neg hdb, h d j, Int.sub_self, Int.zero_mul]
    rw [this, sm_single hb]
  · rw [if_neg ja]
    by_cases jb : j = b
    · subst jb
      rw [if_pos rfl]
      have : sm ts.length (fun d => if d = j then 0 else (ent m' d j - ent m' j d) * wt ts d j) = sm ts.length (fun d => if d = a then x * wt ts a j else 0) := sm_congr fun d hd => by
        by_cases hdj : d = j
        · subst hdj; rw [if_pos rfl, if_neg (Ne.symm hab)]
        · rw [if_neg hdj, e d j, e j d, if_neg (show ¬ (j = a ∧ d = j) from fun z => ja z.1)]
          by_cases hda : d = a
          · subst hda
            rw [if_pos ⟨rfl, rfl⟩, if_pos rfl, h j d]
            congr 1
            omega
          · rw [if_neg (fun z => hda z.1), if_neg hda, h d j, Int.sub_self, Int.zero_mul]
      rw [this, sm_single ha]
    · rw [if_neg jb]
      refine sm_zero_of fun d hd => ?_
      by_cases hdj : d = j
      · rw [if_pos hdj]
      · rw [if_neg hdj, e, e, if_neg (fun z => jb z.2), if_neg (fun z => ja z.1), h d j, Int.sub_self, Int.zero_mul]
/-- two tables added -/
def addT (m m' : List (List Int)) (n : Nat) : List (List Int) := (List.range n).map fun i => (List.range n).map fun j => ent m i j + ent m' i j
theorem addT_row {m m' : List (List Int)} {n i : Nat} (h : i < n) : (addT m m' n).getD i [] = (List.range n).map fun j => ent m i j + ent m' i j := by
  simp [addT, List.getD_eq_getElem?_getD, h]
theorem addT_sqr (m m' : List (List Int)) (n : Nat) : Sqr n (addT m m' n) := ⟨by simp [addT], fun i hi => by rw [addT_row hi]; simp⟩
theorem addT_ent {m m' : List (List Int)} {n i j : Nat} (hi : i < n) (hj : j < n) : ent (addT m m' n) i j = ent m i j + ent m' i j := by
  show ((addT m m' n).getD i []).getD j 0 = _
  rw [addT_row hi, List.getD_eq_getElem?_getD, getD_range hj]
  rfl
theorem addT_out {m m' : List (List Int)} {n i j : Nat} (h : ¬ (i < n ∧ j < n)) : ent (addT m m' n) i j = 0 := by
  by_cases hi : i < n
  · show ((addT m m' n).getD i []).getD j 0 = _
    rw [addT_row hi, List.getD_eq_getElem?_getD, List.getElem?_eq_none_iff.mpr (by simp; omega)]
    rfl
  · unfold ent
    rw [show (addT m m' n).getD i [] = [] by simp [addT, List.getD_eq_getElem?_getD, hi]]
    rfl
theorem addT_symm {m m' : List (List Int)} {n : Nat} (h : ∀ i j, ent m i j = ent m j i) (h' : ∀ i j, ent m' i j = ent m' j i) (i j : Nat) : ent (addT m m' n) i j = ent (addT m m' n) j i := by
  by_cases hi : i < n ∧ j < n
  · rw [addT_ent hi.1 hi.2, addT_ent hi.2 hi.1, h i j, h' i j]
  · rw [addT_out hi, addT_out (fun z => hi ⟨z.2, z.1⟩)]
end L2


set_option Elab.async false
set_option linter.all false
set_option maxRecDepth 100000
namespace L2
open PySem PySem.Spec PyProof.Rows
/-! ### a, b = a list -/
section
variable {prog : Program} {w : World} {A : Around} {E : Value → Shared → Prop}
theorem drawL {it l : Addr} {vs : Array Value} (hne : l ≠ it) (n : Nat) : ∀ (i : Nat) (s : Shared) (Q : List Value → Shared → Prop), s.heap.IsListIter it l i → s.heap.IsList l vs → i + n ≤ vs.size →
    (∀ h', h'.IsListIter it l (i + n) → Heap.SameBut it s.heap h' → Q ((vs.toList.drop i).take n) { s with heap := h' }) → wpAny (model prog w) A (draw (.ref it) n) Q E s := by
  induction n with
  | zero =>
    intro i s Q hit _ _ q
    have q0 := q s.heap hit (Heap.SameBut.refl ..)
    rw [List.take_zero] at q0
    exact wpAny_pure q0
  | succ n ih =>
    intro i s Q hit ht hle q
    have hlt : i < vs.size := by omega
    have e : (vs.toList.drop i).take (n + 1) = vs[i] :: (vs.toList.drop (i + 1)).take n := by
      rw [show vs.toList.drop i = vs[i] :: vs.toList.drop (i + 1) by simp [List.drop_eq_getElem_cons, hlt], List.take_succ_cons]
    unfold draw
    refine wpAny_bind (wpAny_pyNext_list_item hit ht (x := vs[i]) (by simp [hlt]) fun h1 hit1 hs1 => wpAny_bind (wpAny_holding (ih (i + 1) _ _ hit1 (ht.extBut hs1.extBut hne) (by omega) fun h2 hit2 hs2 => wpAny_pure ?_)))
    have q' := q h2 (by rw [show i + (n + 1) = i + 1 + n by omega]; exact hit2) (hs1.trans hs2)
    rwa [e] at q'
theorem unpackL {s : Shared} {l : Addr} {vs : Array Value} {Q : List Value → Shared → Prop} (hh : A.handled = none) (ht : s.heap.IsList l vs)
    (q : ∀ h', Heap.ExtBut s.heap.objs.size s.heap h' → Q vs.toList { s with heap := h' }) : wpAny (model prog w) A (unpackItems (.ref l) vs.size none) Q E s := by
  have hlt : l ≠ s.heap.objs.size := by obtain ⟨o, ho, _⟩ := ht; exact Nat.ne_of_lt (Heap.lt_size ho)
  have e : (vs.toList.drop 0).take vs.size = vs.toList := by rw [List.drop_zero, List.take_of_length_le (by simp)]
  unfold unpackItems notIterableAtAll
  refine wpAny_bind (wpAny_bind (wpAny_specialOf ht.typeIs slot_list_iter.lookup (wpAny_pure ?_)))
  simp only [Bool.false_eq_true, if_false]
  refine wpAny_bind (wpAny_holding (wpAny_pyIter_list ht (wpAny_bind (wpAny_holding (drawL hlt vs.size 0 _ _ ⟨_, Heap.get?_push_size _ rfl, rfl, rfl⟩ (ht.push _) (by omega) fun h1 hit1 hs1 => ?_)))))
  rw [e, if_neg (by simp)]
  refine wpAny_bind (wpAny_holding (wpAny_pyNext_list_end hh hit1 ((ht.push _).extBut hs1.extBut hlt) (by simp) fun h2 he2 => ?_))
  simp only [Option.isSome_none, Bool.false_eq_true, if_false]
  exact wpAny_pure (q h2 fun b o hb eb => he2 b o hb (hs1.extBut b o hb (Heap.get?_push_of_some _ eb)))
end
section
variable {X : Cx}
def gTupL (K : PySem.W.Frag) (n : Nat) (t : TGs) : TG := fun v σ H Q => ∃ a xs, v = .ref a ∧ SqL K H a xs ∧ xs.length = n ∧ t xs σ H Q
theorem pg_tupL {es : List Expr} {k : Nat} {t : TGs} {n : Nat} {pos : Pos} (hc : X.calm = true) (h : PGs X es t)
    (hn : (assignEach es X.env).length = n := by rfl) (hst : (assignEach es X.env).findIdx? (·.1) = none := by rfl) : PG X (.Tuple es k pos) (gTupL X.K n t) := by
  intro pins s σ H v u Q I r hw
  obtain ⟨a, xs, e1, hq, hl, hw⟩ := hw
  subst e1
  cases r
  obtain ⟨its, rv, p, hz⟩ := I.list hq
  have hlen := rv.length
  rw [arm_assign_Tuple]
  refine wpAny_bind (wpAny_standAt ?_)
  unfold unpack
  rw [show (assignEach es X.env).length = its.toArray.size by simp [hn, ← hl, rv.length], hst]
  refine wpAny_bind (wpAny_holding (unpackL (I.ok.hd hc) p.isList fun h' hx => ?_))
  have I1 : Inv X pins σ H { s with heap := h' } := I.kept (t' := s.toks) fun b o e => hx b o (Nat.ne_of_lt (Heap.lt_size e)) e
  exact h pins _ σ H xs _ Q I1 (by simpa using rv) hw
theorem kgTupL {K : PySem.W.Frag} {es : List Expr} {k : Nat} {t : TGs} {n : Nat} {pos : Pos} (hK : X.K = K) (hc : X.calm = true) (h : PGs X es t) (hn : (assignEach es X.env).length = n := by rfl) (hst : (assignEach es X.env).findIdx? (·.1) = none := by rfl) : PG X (.Tuple es k pos) (gTupL K n t) := by
  subst hK; exact pg_tupL hc h hn hst
/-! ### products of great numbers -/
def CMulL (i j : Int) : Prop := (-2582249878086908589655919172003011874329705792829223512830659356540647622016841194629645353280137831435903171972747493376 < i ∧ i < 2582249878086908589655919172003011874329705792829223512830659356540647622016841194629645353280137831435903171972747493376) ∧ -2582249878086908589655919172003011874329705792829223512830659356540647622016841194629645353280137831435903171972747493376 < j ∧ j < 2582249878086908589655919172003011874329705792829223512830659356540647622016841194629645353280137831435903171972747493376
theorem bits_big {k : Int} (h1 : -2582249878086908589655919172003011874329705792829223512830659356540647622016841194629645353280137831435903171972747493376 < k) (h2 : k < 2582249878086908589655919172003011874329705792829223512830659356540647622016841194629645353280137831435903171972747493376) : Builtin.Int.intBits k ≤ 2 ^ 20 := by
  unfold Builtin.Int.intBits
  split
  · exact Nat.zero_le _
  · have hn : k.natAbs < 2582249878086908589655919172003011874329705792829223512830659356540647622016841194629645353280137831435903171972747493376 := by omega
    have hn2 : k.natAbs < 2 ^ 400 := by
      have : (2 : Nat) ^ 400 = 2582249878086908589655919172003011874329705792829223512830659356540647622016841194629645353280137831435903171972747493376 := by decide +kernel
      rw [this]; exact hn
    have h0 : k.natAbs ≠ 0 := by
      rename_i h
      intro z
      apply h
      have : k = 0 := by omega
      rw [this]; rfl
    have := (Nat.log2_lt h0).mpr hn2
    have e : (2 : Nat) ^ 20 = 1048576 := by decide
    omega
theorem op_mulL : OpR X (binaryOp .Mult) (rI CMulL fun i j => .int (i * j)) := opI fun _ _ _ _ _ _ _ hc q => mul_int q (.of_bits (bits_big hc.1.1 hc.1.2) (bits_big hc.2.1 hc.2.2))
end
end L2


set_option Elab.async false
set_option linter.all false
set_option maxRecDepth 100000
namespace L2
open PySem PySem.Spec PyProof.Rows
section
variable {X : Cx}
/-! ### // by great numbers -/
def CDivB (i j : Int) : Prop := 0 < j ∧ j < 2582249878086908589655919172003011874329705792829223512830659356540647622016841194629645353280137831435903171972747493376
theorem CDivB.ok {i j : Int} (h : CDivB i j) : Builtin.divisionGoesByPylong i j = false := by
  refine PyProof.noPylong_of_log2 ?_
  have h1 : j.natAbs < 2582249878086908589655919172003011874329705792829223512830659356540647622016841194629645353280137831435903171972747493376 := by have := h.1; have := h.2; omega
  have h3 : (2 : Nat) ^ 400 = 2582249878086908589655919172003011874329705792829223512830659356540647622016841194629645353280137831435903171972747493376 := by decide +kernel
  have h2 : j.natAbs ≠ 0 := by have := h.1; omega
  have := (Nat.log2_lt h2).mpr (h3 ▸ h1)
  omega
theorem op_fdivB : OpR X (binaryOp .FloorDiv) (rI CDivB fun i j => .int (i / j)) := opI fun i j _ _ _ _ _ hc q => by
  refine floordiv_int (by have := hc.1; omega) ?_ (.inl hc.ok)
  rw [Int.fdiv_eq_ediv_of_nonneg _ (Int.le_of_lt hc.1)]
  exact q
end
/-! ### shares -/
def low (a b : Int) : Int × Int := (a / G b a, b / G b a)
def sp_lowest : Sp := fun vs H Q _ => ∃ (a b : Int), vs = [.int a, .int b] ∧ 0 ≤ a ∧ 1 ≤ b ∧ b < 2582249878086908589655919172003011874329705792829223512830659356540647622016841194629645353280137831435903171972747493376 ∧ ∀ p, H p = none → Q (.ref p) (upd H p (.tup [.int (low a b).1, .int (low a b).2]))
def sp_bothW : Sp := fun vs H Q _ => ∃ (a b : Int), vs = [.int a, .int b] ∧ 0 ≤ a ∧ 0 ≤ b ∧ a.toNat * b.toNat < 2 ^ 399 ∧ Q (.int (G a b)) H
def sp_llowest : Sp := fun vs H Q _ => ∃ (a b : Int), vs = [.int a, .int b] ∧ 0 ≤ a ∧ 1 ≤ b ∧ b < 2582249878086908589655919172003011874329705792829223512830659356540647622016841194629645353280137831435903171972747493376 ∧ b.toNat * a.toNat < 2 ^ 399 ∧ ∀ p, H p = none → Q (.ref p) (upd H p (.tup [.int (low a b).1, .int (low a b).2]))
structure Sh (a b : Int) : Prop where
  a0 : 0 ≤ a
  b1 : 1 ≤ b
  ah : a < 1427247692705959881058285969449495136382746624
  bh : b < 1427247692705959881058285969449495136382746624
def add2 (p q : Int × Int) : Int × Int := low (p.1 * q.2 + q.1 * p.2) (p.2 * q.2)
def mul2 (p q : Int × Int) : Int × Int := low (p.1 * q.1) (p.2 * q.2)
def sp_added : Sp := fun vs H Q _ => ∃ (x y : Addr) (p q : Int × Int), vs = [.ref x, .ref y] ∧ H x = some (.tup [.int p.1, .int p.2]) ∧ H y = some (.tup [.int q.1, .int q.2]) ∧ Sh p.1 p.2 ∧ Sh q.1 q.2 ∧ ∀ z, H z = none → Q (.ref z) (upd H z (.tup [.int (add2 p q).1, .int (add2 p q).2]))
def sp_times : Sp := fun vs H Q _ => ∃ (x y : Addr) (p q : Int × Int), vs = [.ref x, .ref y] ∧ H x = some (.tup [.int p.1, .int p.2]) ∧ H y = some (.tup [.int q.1, .int q.2]) ∧ Sh p.1 p.2 ∧ Sh q.1 q.2 ∧ ∀ z, H z = none → Q (.ref z) (upd H z (.tup [.int (mul2 p q).1, .int (mul2 p q).2]))
theorem mul_lt {a b x y : Int} (ha : 0 ≤ a) (hb : 0 ≤ b) (h1 : a ≤ x) (h2 : b ≤ y) : 0 ≤ a * b ∧ a * b ≤ x * y := ⟨Int.mul_nonneg ha hb, Int.mul_le_mul h1 h2 hb (by omega)⟩
theorem mul_pos1 {a b : Int} (ha : 1 ≤ a) (hb : 1 ≤ b) : 1 ≤ a * b := by
  have := Int.mul_le_mul ha hb (by omega) (by omega)
  omega
theorem low_b {a b : Int} (hb : 1 ≤ b) : 1 ≤ (low a b).2 := by
  have g1 := G_pos a hb
  have g2 := G_le a hb
  exact Int.le_ediv_of_mul_le (by omega) (by omega)
theorem low_ble {a b : Int} (hb : 1 ≤ b) : (low a b).2 ≤ b := Int.ediv_le_self _ (by omega)
theorem low_a {a b : Int} (ha : 0 ≤ a) (hb : 1 ≤ b) : 0 ≤ (low a b).1 := Int.ediv_nonneg ha (by have := G_pos a hb; omega)
theorem low_ale {a b : Int} (ha : 0 ≤ a) : (low a b).1 ≤ a := Int.ediv_le_self _ ha
theorem low_cross {a b : Int} (hb : 1 ≤ b) : (low a b).1 * b = a * (low a b).2 := by
  have g1 := G_pos a hb
  obtain ⟨x, hx⟩ := G_dvd_right b a
  obtain ⟨y, hy⟩ := G_dvd_left b a
  have e1 : (low a b).1 = x := by
    show a / G b a = x
    exact Int.ediv_eq_of_eq_mul_right (by omega) hx
  have e2 : (low a b).2 = y := by
    show b / G b a = y
    exact Int.ediv_eq_of_eq_mul_right (by omega) hy
  rw [e1, e2]
  have h1 : x * b = x * (G b a * y) := by rw [← hy]
  have h2 : a * y = G b a * x * y := by rw [← hx]
  rw [h1, h2]
  ac_rfl
/-- in lowest terms -/
def Lw (p : Int × Int) : Prop := G p.2 p.1 = 1
theorem low_lw {a b : Int} (hb : 1 ≤ b) : Lw (low a b) := by
  have g : 0 < Int.gcd b a := Int.gcd_pos_of_ne_zero_left _ (by omega)
  have e := Int.gcd_ediv_gcd_ediv_gcd g
  show ((Int.gcd (b / (Int.gcd b a : Int)) (a / (Int.gcd b a : Int)) : Nat) : Int) = 1
  rw [e]
  rfl
theorem low_of {p : Int × Int} (h : Lw p) : low p.1 p.2 = p := by
  unfold low
  rw [h, Int.ediv_one, Int.ediv_one]
theorem low_nought {b : Int} (hb : 1 ≤ b) : low 0 b = (0, 1) := by
  unfold low
  rw [G_zero (by omega), Int.zero_ediv, Int.ediv_self (by omega)]
theorem low_whole {b : Int} (hb : 1 ≤ b) : low b b = (1, 1) := by
  have e : G b b = b := by unfold G; simp; omega
  unfold low
  rw [e, Int.ediv_self (by omega)]
theorem add2_comm (p q : Int × Int) : add2 p q = add2 q p := by
  unfold add2
  rw [Int.add_comm, Int.mul_comm p.2 q.2]
theorem mul2_comm (p q : Int × Int) : mul2 p q = mul2 q p := by
  unfold mul2
  rw [Int.mul_comm p.1, Int.mul_comm p.2]
theorem add2_zero {p : Int × Int} (h : Lw p) : add2 p (0, 1) = p := by
  unfold add2
  simp only [Int.mul_one, Int.zero_mul, Int.add_zero]
  exact low_of h
theorem mul2_one {p : Int × Int} (h : Lw p) : mul2 p (1, 1) = p := by
  unfold mul2
  simp only [Int.mul_one]
  exact low_of h
theorem mul2_zero {p : Int × Int} (h : 1 ≤ p.2) : mul2 (0, 1) p = (0, 1) := by
  unfold mul2
  simp only [Int.zero_mul, Int.one_mul]
  exact low_nought h
theorem add2_rest {p : Int × Int} (h0 : 0 ≤ p.1) (h : 1 ≤ p.2) (hle : p.1 ≤ p.2) : add2 p (low (p.2 - p.1) p.2) = (1, 1) := by
  have c := low_cross (a := p.2 - p.1) h
  have b1 := low_b (a := p.2 - p.1) h
  unfold add2
  rw [c, ← Int.add_mul, show p.1 + (p.2 - p.1) = p.2 by omega]
  exact low_whole (mul_pos1 h b1)
theorem Sh.low {a b : Int} (ha : 0 ≤ a) (hb : 1 ≤ b) (h1 : a < 1427247692705959881058285969449495136382746624) (h2 : b < 1427247692705959881058285969449495136382746624) : Sh (low a b).1 (low a b).2 :=
  ⟨low_a ha hb, low_b hb, Int.lt_of_le_of_lt (low_ale ha) h1, Int.lt_of_le_of_lt (low_ble hb) h2⟩
theorem natmul_lt {a b : Int} {x y : Nat} (h1 : a.toNat ≤ x) (h2 : b.toNat ≤ y) (h : x * y < 2 ^ 399) : a.toNat * b.toNat < 2 ^ 399 := Nat.lt_of_le_of_lt (Nat.mul_le_mul h1 h2) h
theorem Rep.tup2 {φ : Addr → Prop} {H : Hp} {a : Addr} {q : Int × Int} (f : φ a) (h : H a = some (.tup [.int q.1, .int q.2])) : Rep φ H (D.pr q) (.ref a) := by
  simp only [D.pr, Rep]
  refine ⟨a, _, rfl, f, h, ?_⟩
  simp [Reps, Rep]
def sp_someshare : Sp := fun vs H Q _ => ∃ (β : Bx), vs = [.ref β.b] ∧ Box β H ∧ ∀ (p : Addr) (a b : Int) (H' : Hp), H p = none → 0 ≤ a → a ≤ 1000000000000000000000000000 → 1 ≤ b → b ≤ 1000000000000000000000000000 → Keep β H H' → Box β H' → H' p = some (.tup [.int a, .int b]) → Q (.ref p) H'
theorem pr_dep (q : Int × Int) : (D.pr q).dep = 1 := by simp [D.pr, D.dep, deps]
theorem pr_wid (q : Int × Int) : (D.pr q).wid = 2 := by simp [D.pr, D.wid, wids]
end L2


set_option Elab.async false
set_option linter.all false
set_option maxRecDepth 100000
namespace L2
open PySem PySem.Spec PyProof.Rows
section
variable {X : Cx}
/-! ### text.join(list) -/
def rJoin (K : PySem.W.Frag) : V → List V → Hp → VK → Prop := fun x vs H Q => ∃ (z : Str) (l : Addr) (ys : List Str), x = .str z ∧ vs = [.ref l] ∧ SqL K H l (ys.map V.str) ∧ (ys.map (·.length)).sum + ys.length * z.length ≤ 16777216 ∧ Q (.str (PySem.Txt.join z ys)) H
theorem strs_of : ∀ {ys : List Str} {us : List Value}, Vals (ys.map V.str) us → StrsAre us ys
  | [], _, .nil => .nil
  | y :: ys, _, .cons r t => by
    obtain ⟨k, rfl⟩ := r
    exact .cons y k (strs_of t)
theorem mt_join : MtM X "str.join" (rJoin X.K) := by
  intro pins s σ H x vs v us Q I rx rv h
  obtain ⟨z, l, ys, rfl, rfl, hl, hz, q⟩ := h
  obtain ⟨t, rfl⟩ := rx
  obtain ⟨u, rfl, ru⟩ := rv.one
  cases ru
  obtain ⟨its, r, pl, _⟩ := I.list hl
  exact join_list pl.isList (by simpa using strs_of r) hz fun t' k => ⟨.str _, H, I.tok k, ⟨t', rfl⟩, q⟩
theorem kJoin {K : PySem.W.Frag} (hK : X.K = K) : MtM X "str.join" (rJoin K) := by subst hK; exact mt_join
end
/-! ### shares added -/
theorem low_scale {g n d : Int} (hg : 1 ≤ g) : low (g * n) (g * d) = low n d := by
  unfold low
  have e : G (g * d) (g * n) = g * G d n := by
    unfold G
    rw [Int.gcd_mul_left]
    push_cast
    congr 1
    omega
  rw [e, Int.mul_ediv_mul_of_pos _ _ (by omega), Int.mul_ediv_mul_of_pos _ _ (by omega)]
theorem low_parts {a b : Int} (hb : 1 ≤ b) : ∃ g, 1 ≤ g ∧ a = g * (low a b).1 ∧ b = g * (low a b).2 := by
  have g1 := G_pos a hb
  obtain ⟨x, hx⟩ := G_dvd_right b a
  obtain ⟨y, hy⟩ := G_dvd_left b a
  have e1 : (low a b).1 = x := Int.ediv_eq_of_eq_mul_right (by omega) hx
  have e2 : (low a b).2 = y := Int.ediv_eq_of_eq_mul_right (by omega) hy
  exact ⟨G b a, g1, by rw [e1]; exact hx, by rw [e2]; exact hy⟩
theorem add2_low (p : Int × Int) {a b : Int} (hb : 1 ≤ b) : add2 p (low a b) = add2 p (a, b) := by
  obtain ⟨g, hg, ha, hb'⟩ := low_parts (a := a) hb
  generalize low a b = q at *
  obtain ⟨x, y⟩ := q
  dsimp only at ha hb'
  subst ha hb'
  unfold add2
  dsimp only
  rw [show p.1 * (g * y) + g * x * p.2 = g * (p.1 * y + x * p.2) by rw [Int.mul_add]; ac_rfl, show p.2 * (g * y) = g * (p.2 * y) by ac_rfl, low_scale hg]
def foldS (qs : List (Int × Int)) : Int × Int := qs.foldl add2 (0, 1)
theorem foldS_snoc (qs : List (Int × Int)) (q : Int × Int) : foldS (qs ++ [q]) = add2 (foldS qs) q := by simp [foldS]
theorem foldS_low {α : Type} (f : α → Int × Int) : ∀ (xs : List α), (∀ x ∈ xs, 1 ≤ (f x).2) → foldS (xs.map fun x => low (f x).1 (f x).2) = foldS (xs.map f) := by
  intro xs h
  unfold foldS
  rw [List.foldl_map, List.foldl_map]
  generalize ((0, 1) : Int × Int) = z
  induction xs generalizing z with
  | nil => rfl
  | cons x xs ih =>
    rw [List.foldl_cons, List.foldl_cons, add2_low z (h x List.mem_cons_self)]
    exact ih (fun y hy => h y (List.mem_cons_of_mem _ hy)) _
structure QB (q : Int × Int) : Prop where
  a0 : 0 ≤ q.1
  ah : q.1 ≤ 8000000
  b1 : 1 ≤ q.2
  bh : q.2 ≤ 1000
structure FB (k : Nat) (p : Int × Int) : Prop where
  a0 : 0 ≤ p.1
  ah : p.1 ≤ (k : Int) * 8000000 * p.2
  b1 : 1 ≤ p.2
  bh : p.2 ≤ ((1000 ^ k : Nat) : Int)
theorem FB.nil : FB 0 (0, 1) := ⟨by decide, by decide, by decide, by decide⟩
theorem FB.add {k : Nat} {p q : Int × Int} (h : FB k p) (hq : QB q) : FB (k + 1) (add2 p q) := by
  have h1 := h.a0; have h2 := h.ah; have h3 := h.b1; have h4 := h.bh
  have q1 := hq.a0; have q2 := hq.ah; have q3 := hq.b1; have q4 := hq.bh
  have d1 := mul_pos1 h3 q3
  have n0 : 0 ≤ p.1 * q.2 + q.1 * p.2 := by
    have := Int.mul_nonneg h1 (show 0 ≤ q.2 by omega)
    have := Int.mul_nonneg q1 (show 0 ≤ p.2 by omega)
    omega
  have n1 : p.1 * q.2 + q.1 * p.2 ≤ ((k + 1 : Nat) : Int) * 8000000 * (p.2 * q.2) := by
    have e1 : p.1 * q.2 ≤ (k : Int) * 8000000 * p.2 * q.2 := Int.mul_le_mul_of_nonneg_right h2 (by omega)
    have e2 : q.1 * p.2 ≤ 8000000 * p.2 := Int.mul_le_mul_of_nonneg_right q2 (by omega)
    have e3 : 8000000 * p.2 * 1 ≤ 8000000 * p.2 * q.2 := Int.mul_le_mul_of_nonneg_left q3 (by omega)
    have e4 : ((k + 1 : Nat) : Int) * 8000000 * (p.2 * q.2) = (k : Int) * 8000000 * p.2 * q.2 + 8000000 * p.2 * q.2 := by
      push_cast
      rw [Int.add_mul, Int.add_mul, Int.one_mul]
      congr 1 <;> ac_rfl
    omega
  unfold add2
  obtain ⟨g, hg, ea, eb⟩ := low_parts (a := p.1 * q.2 + q.1 * p.2) d1
  have l0 := low_a n0 d1
  have l1 := low_b (a := p.1 * q.2 + q.1 * p.2) d1
  have l2 := low_ble (a := p.1 * q.2 + q.1 * p.2) d1
  refine ⟨l0, ?_, l1, ?_⟩
  · generalize low (p.1 * q.2 + q.1 * p.2) (p.2 * q.2) = r at *
    have : g * r.1 ≤ g * (((k + 1 : Nat) : Int) * 8000000 * r.2) := by
      rw [← ea, show g * (((k + 1 : Nat) : Int) * 8000000 * r.2) = ((k + 1 : Nat) : Int) * 8000000 * (g * r.2) by ac_rfl, ← eb]
      exact n1
    exact Int.le_of_mul_le_mul_left this (by omega)
  · have e : p.2 * q.2 ≤ ((1000 ^ k : Nat) : Int) * 1000 := Int.mul_le_mul h4 q4 (by omega) (by omega)
    rw [Nat.pow_succ]
    push_cast at e ⊢
    omega
theorem FB.fold : ∀ {qs : List (Int × Int)}, (∀ q ∈ qs, QB q) → ∀ k, k ≤ qs.length → FB k (foldS (qs.take k))
  | qs, h, 0, _ => FB.nil
  | qs, h, k + 1, hk => by
    have hk' : k < qs.length := by omega
    rw [List.take_add_one, List.getElem?_eq_getElem hk']
    show FB (k + 1) (foldS (qs.take k ++ [qs[k]]))
    rw [foldS_snoc]
    exact (FB.fold h k (by omega)).add (h _ (List.getElem_mem hk'))
theorem pow9 {k : Nat} (h : k ≤ 9) : ((1000 ^ k : Nat) : Int) ≤ 1000000000000000000000000000 := by
  have : 1000 ^ k ≤ 1000 ^ 9 := Nat.pow_le_pow_right (by omega) h
  have e : (1000 : Nat) ^ 9 = 1000000000000000000000000000 := by decide
  omega
structure FC (p : Int × Int) : Prop where
  a0 : 0 ≤ p.1
  ah : p.1 ≤ 72000000000000000000000000000000000
  b1 : 1 ≤ p.2
  bh : p.2 ≤ 1000000000000000000000000000
theorem FB.fc {k : Nat} {p : Int × Int} (h : FB k p) (hk : k ≤ 9) : FC p := by
  have h4 := h.bh
  have := pow9 hk
  refine ⟨h.a0, ?_, h.b1, by omega⟩
  have h2 := h.ah
  have b1 := h.b1
  have e1 : (k : Int) * 8000000 * p.2 ≤ 72000000 * p.2 := Int.mul_le_mul_of_nonneg_right (by omega) (by omega)
  omega
theorem FC.sh {p : Int × Int} (h : FC p) : Sh p.1 p.2 := ⟨h.a0, h.b1, by have := h.ah; omega, by have := h.bh; omega⟩
theorem QB.sh {p : Int × Int} (h : QB p) : Sh p.1 p.2 := ⟨h.a0, h.b1, by have := h.ah; omega, by have := h.bh; omega⟩
/-- a list of shares in the heap -/
structure ShZ (H : Hp) (ss : List Addr) (qs : List (Int × Int)) : Prop where
  len : ss.length = qs.length
  at_ : ∀ (i : Nat) (a : Addr) (q : Int × Int), ss[i]? = some a → qs[i]? = some q → H a = some (.tup [.int q.1, .int q.2])
theorem ShZ.nil (H : Hp) : ShZ H [] [] := ⟨rfl, by simp⟩
theorem ShZ.same {H H' : Hp} {ss : List Addr} {qs : List (Int × Int)} (h : ShZ H ss qs) (S : Same H H') : ShZ H' ss qs := ⟨h.len, fun i a q e1 e2 => S _ _ (h.at_ i a q e1 e2)⟩
theorem ShZ.snoc {H : Hp} {ss : List Addr} {qs : List (Int × Int)} {c : Addr} {r : Int × Int} (h : ShZ H ss qs) (hc : H c = some (.tup [.int r.1, .int r.2])) : ShZ H (ss ++ [c]) (qs ++ [r]) := by
  have hl := h.len
  refine ⟨by simp [hl], fun i a q e1 e2 => ?_⟩
  rcases Nat.lt_or_ge i ss.length with z | z
  · rw [List.getElem?_append_left z] at e1
    rw [List.getElem?_append_left (by omega)] at e2
    exact h.at_ i a q e1 e2
  · rw [List.getElem?_append_right z] at e1
    rw [List.getElem?_append_right (by omega)] at e2
    have hi : i - ss.length = 0 := by
      have := (List.getElem?_eq_some_iff.mp e1).1
      simp at this
      omega
    rw [hi] at e1
    rw [show i - qs.length = 0 by omega] at e2
    simp at e1 e2
    subst e1 e2
    exact hc
structure Shs (H : Hp) (l : Addr) (qs : List (Int × Int)) : Prop where
  ex : ∃ ss : List Addr, H l = some (.lst (ss.map V.ref)) ∧ ShZ H ss qs
def sp_alladded : Sp := fun vs H Q _ => ∃ (l : Addr) (qs : List (Int × Int)), vs = [.ref l] ∧ Shs H l qs ∧ (∀ q ∈ qs, QB q) ∧ qs.length ≤ 9 ∧ ∀ p H', Same H H' → H' p = some (.tup [.int (foldS qs).1, .int (foldS qs).2]) → Q (.ref p) H'
/-! ### leaves -/
structure Lf where
  row : List Str
  q : Int × Int
  ps : List Int
structure LfAt (H : Hp) (a : Addr) (r s u : Addr) (f : Lf) : Prop where
  at_ : H a = some (.tup [.ref r, .ref s, .ref u])
  row : H r = some (.tup (f.row.map V.str))
  sh : H s = some (.tup [.int f.q.1, .int f.q.2])
  pu : H u = some (.lst (f.ps.map V.int))
structure Lvs (H : Hp) (l : Addr) (fs : List Lf) : Prop where
  ex : ∃ as : List Addr, H l = some (.lst (as.map V.ref)) ∧ as.length = fs.length ∧ ∀ (i : Nat) (h : i < as.length) (h' : i < fs.length), ∃ r s u, LfAt H as[i] r s u fs[i]
theorem LfAt.same {H H' : Hp} {a r s u : Addr} {f : Lf} (h : LfAt H a r s u f) (S : Same H H') : LfAt H' a r s u f := ⟨S _ _ h.at_, S _ _ h.row, S _ _ h.sh, S _ _ h.pu⟩
theorem Lvs.same {H H' : Hp} {l : Addr} {fs : List Lf} (h : Lvs H l fs) (S : Same H H') : Lvs H' l fs := by
  obtain ⟨as, h1, h2, h3⟩ := h.ex
  refine ⟨as, S _ _ h1, h2, fun i a b => ?_⟩
  obtain ⟨r, s, u, x⟩ := h3 i a b
  exact ⟨r, s, u, x.same S⟩
structure Lf.Ok (sz : Nat) (f : Lf) : Prop where
  a0 : 0 ≤ f.q.1
  ah : f.q.1 ≤ 8
  b1 : 1 ≤ f.q.2
  bh : f.q.2 ≤ 1000
  len : f.ps.length = sz
  p0 : ∀ x ∈ f.ps, 0 ≤ x ∧ x ≤ 1000000
  nm : f.row.length ≤ 3
def sp_lwhole : Sp := fun vs H Q _ => ∃ (l : Addr) (fs : List Lf) (sz : Nat), vs = [.ref l] ∧ Lvs H l fs ∧ (∀ f ∈ fs, f.Ok sz) ∧ fs.length ≤ 9 ∧ ∀ p H', Same H H' → H' p = some (.tup [.int (foldS (fs.map Lf.q)).1, .int (foldS (fs.map Lf.q)).2]) → Q (.ref p) H'
def pur (at_ : Nat) (f : Lf) : Int × Int := (f.ps.getD at_ 0 * f.q.1, f.q.2)
def sp_mean : Sp := fun vs H Q _ => ∃ (l : Addr) (fs : List Lf) (sz i : Nat), vs = [.ref l, .int i] ∧ Lvs H l fs ∧ (∀ f ∈ fs, f.Ok sz) ∧ i < sz ∧ fs.length ≤ 9 ∧ ∀ p H', Same H H' → H' p = some (.tup [.int (foldS (fs.map (pur i))).1, .int (foldS (fs.map (pur i))).2]) → Q (.ref p) H'
def out (z : Str) (f : Lf) : Bool := !inV (.str z) (f.row.map V.str)
def sp_lives : Sp := fun vs H Q _ => ∃ (l : Addr) (fs : List Lf) (sz : Nat) (z : Str), vs = [.ref l, .str z] ∧ Lvs H l fs ∧ (∀ f ∈ fs, f.Ok sz) ∧ fs.length ≤ 9 ∧ ∀ p H', Same H H' → H' p = some (.tup [.int (foldS ((fs.filter (out z)).map Lf.q)).1, .int (foldS ((fs.filter (out z)).map Lf.q)).2]) → Q (.ref p) H'
/-- the law's own folding -/
def sp_fold : Sp := fun vs H Q _ => ∃ (l : Addr) (qs : List (Int × Int)), vs = [.ref l] ∧ Shs H l qs ∧ (∀ q ∈ qs, QB q) ∧ qs.length ≤ 9 ∧ ∀ p H', Same H H' → H' p = some (.tup [.int (foldS qs).1, .int (foldS qs).2]) → Q (.ref p) H'
/-- drawn names -/
def sp_names : Sp := fun vs H Q _ => ∃ (β : Bx) (n : Nat), vs = [.ref β.b, .int n] ∧ Box β H ∧ n ≤ 100 ∧ ∀ (p : Addr) (zs : List Str) (H' : Hp), H p = none → zs.length = n → Keep β H H' → Box β H' → H' p = some (.lst (zs.map V.str)) → Q (.ref p) H'

structure LZ (H : Hp) (as : List Addr) (fs : List Lf) : Prop where
  len : as.length = fs.length
  at_ : ∀ (i : Nat) (a : Addr) (f : Lf), as[i]? = some a → fs[i]? = some f → ∃ r s u, LfAt H a r s u f
theorem LZ.nil (H : Hp) : LZ H [] [] := ⟨rfl, by simp⟩
theorem LZ.same {H H' : Hp} {as : List Addr} {fs : List Lf} (h : LZ H as fs) (S : Same H H') : LZ H' as fs := ⟨h.len, fun i a f e1 e2 => by
  obtain ⟨r, s, u, x⟩ := h.at_ i a f e1 e2
  exact ⟨r, s, u, x.same S⟩⟩
theorem at_snoc {α β : Type} {as : List α} {fs : List β} {c : α} {g : β} {P : α → β → Prop} (hl : as.length = fs.length) (h : ∀ (i : Nat) a f, as[i]? = some a → fs[i]? = some f → P a f) (hc : P c g) : ∀ (i : Nat) a f, (as ++ [c])[i]? = some a → (fs ++ [g])[i]? = some f → P a f := fun i a f e1 e2 => by
  rcases Nat.lt_or_ge i as.length with z | z
  · rw [List.getElem?_append_left z] at e1
    rw [List.getElem?_append_left (by omega)] at e2
    exact h i a f e1 e2
  · rw [List.getElem?_append_right z] at e1
    rw [List.getElem?_append_right (by omega)] at e2
    have hi : i - as.length = 0 := by
      have := (List.getElem?_eq_some_iff.mp e1).1
      simp at this
      omega
    rw [hi] at e1
    rw [show i - fs.length = 0 by omega] at e2
    simp at e1 e2
    subst e1 e2
    exact hc
theorem LZ.snoc {H : Hp} {as : List Addr} {fs : List Lf} {c r s u : Addr} {f : Lf} (h : LZ H as fs) (x : LfAt H c r s u f) : LZ H (as ++ [c]) (fs ++ [f]) := ⟨by simp [h.len], at_snoc h.len h.at_ ⟨r, s, u, x⟩⟩
theorem LZ.lvs {H : Hp} {l : Addr} {as : List Addr} {fs : List Lf} (h : LZ H as fs) (hl : H l = some (.lst (as.map V.ref))) : Lvs H l fs := ⟨as, hl, h.len, fun i h1 h2 => h.at_ i _ _ (List.getElem?_eq_getElem h1) (List.getElem?_eq_getElem h2)⟩
structure LvO (β : Bx) (l : Addr) (H : Hp) (as : List Addr) (fs : List Lf) : Prop where
  len : as.length = fs.length
  at_ : ∀ (i : Nat) (a : Addr) (f : Lf), as[i]? = some a → fs[i]? = some f → ∃ r s u, LfAt H a r s u f ∧ ∀ x ∈ [a, r, s, u], Off β x ∧ x ≠ l
theorem LvO.nil (β : Bx) (l : Addr) (H : Hp) : LvO β l H [] [] := ⟨rfl, by simp⟩
theorem LvO.mono {β : Bx} {l : Addr} {H H' : Hp} {as : List Addr} {fs : List Lf} (h : LvO β l H as fs) (S : ∀ x o, Off β x → x ≠ l → H x = some o → H' x = some o) : LvO β l H' as fs := ⟨h.len, fun i a f e1 e2 => by
  obtain ⟨r, s, u, x, o⟩ := h.at_ i a f e1 e2
  have oa := o a (by simp); have orr := o r (by simp); have os := o s (by simp); have ou := o u (by simp)
  exact ⟨r, s, u, ⟨S _ _ oa.1 oa.2 x.at_, S _ _ orr.1 orr.2 x.row, S _ _ os.1 os.2 x.sh, S _ _ ou.1 ou.2 x.pu⟩, o⟩⟩
theorem LvO.keep {β : Bx} {l : Addr} {H H' : Hp} {as : List Addr} {fs : List Lf} (h : LvO β l H as fs) (k : Keep β H H') : LvO β l H' as fs := h.mono fun x o h1 _ e => k x o e h1.nb
theorem LvO.write {β : Bx} {l : Addr} {H : Hp} {o : HO} {as : List Addr} {fs : List Lf} (h : LvO β l H as fs) : LvO β l (upd H l o) as fs := h.mono fun x o _ h2 e => by rw [upd_ne h2]; exact e
theorem LvO.snoc {β : Bx} {l : Addr} {H : Hp} {as : List Addr} {fs : List Lf} {c r s u : Addr} {f : Lf} (h : LvO β l H as fs) (x : LfAt H c r s u f) (o : ∀ x ∈ [c, r, s, u], Off β x ∧ x ≠ l) : LvO β l H (as ++ [c]) (fs ++ [f]) := ⟨by simp [h.len], at_snoc h.len h.at_ ⟨r, s, u, x, o⟩⟩
theorem LvO.lz {β : Bx} {l : Addr} {H : Hp} {as : List Addr} {fs : List Lf} (h : LvO β l H as fs) : LZ H as fs := ⟨h.len, fun i a f e1 e2 => by obtain ⟨r, s, u, x, _⟩ := h.at_ i a f e1 e2; exact ⟨r, s, u, x⟩⟩
/-! ### leaves as trees -/
def D.lf (f : Lf) : D := .tup [.tup (f.row.map D.str), D.pr f.q, D.ints f.ps]
theorem Reps.strs {φ : Addr → Prop} {H : Hp} : ∀ (xs : List Str), Reps φ H (xs.map D.str) (xs.map V.str)
  | [] => by simp [Reps]
  | x :: xs => by simp only [List.map_cons, Reps, Rep]; exact ⟨.str x, _, rfl, rfl, Reps.strs xs⟩
theorem LfAt.rep {H : Hp} {a r s u : Addr} {f : Lf} (h : LfAt H a r s u f) : Rep (fun _ => True) H (D.lf f) (.ref a) := by
  simp only [D.lf, Rep]
  refine ⟨a, _, rfl, trivial, h.at_, ?_⟩
  simp only [Reps]
  refine ⟨.ref r, _, rfl, ?_, .ref s, _, rfl, Rep.tup2 trivial h.sh, .ref u, _, rfl, Rep.ints trivial h.pu, rfl⟩
  simp only [Rep]
  exact ⟨r, _, rfl, trivial, h.row, Reps.strs f.row⟩
theorem LZ.reps {H : Hp} : ∀ {as : List Addr} {fs : List Lf}, LZ H as fs → Reps (fun _ => True) H (fs.map D.lf) (as.map V.ref)
  | [], [], _ => by simp [Reps]
  | [], _ :: _, h => by have := h.len; simp at this
  | _ :: _, [], h => by have := h.len; simp at this
  | a :: as, f :: fs, h => by
    simp only [List.map_cons, Reps]
    obtain ⟨r, s, u, x⟩ := h.at_ 0 a f rfl rfl
    exact ⟨.ref a, _, rfl, x.rep, LZ.reps ⟨by have := h.len; simpa using this, fun i a' f' e1 e2 => h.at_ (i + 1) a' f' e1 e2⟩⟩
def D.lvs (fs : List Lf) : D := .lst (fs.map D.lf)
theorem LZ.rep {H : Hp} {l : Addr} {as : List Addr} {fs : List Lf} (h : LZ H as fs) (hl : H l = some (.lst (as.map V.ref))) : Rep (fun _ => True) H (D.lvs fs) (.ref l) := by
  simp only [D.lvs, Rep]
  exact ⟨l, _, rfl, trivial, hl, h.reps⟩
theorem deps_strs : ∀ xs : List Str, deps (xs.map D.str) = 0
  | [] => rfl
  | x :: xs => by simp [deps, D.dep, deps_strs xs]
theorem lf_dep (f : Lf) : (D.lf f).dep = 2 := by
  have h1 := pr_dep f.q
  have h2 : (D.ints f.ps).dep = 1 := by simp [D.ints, D.dep, deps_ints]
  simp [D.lf, D.dep, deps, deps_strs, h1, h2]
theorem lvs_dep (fs : List Lf) : (D.lvs fs).dep ≤ 60 := by
  have : ∀ fs : List Lf, deps (fs.map D.lf) ≤ 2 := by
    intro fs
    induction fs with
    | nil => simp [deps]
    | cons f fs ih => simp only [List.map_cons, deps, lf_dep]; omega
  have := this fs
  simp only [D.lvs, D.dep]
  omega
theorem cut_to4 (xs : List V) : cutV xs none (some 4) = xs.take 4 := by
  have e : cutV xs none (some ((4 : Nat) : Int)) = xs.take 4 := by
    unfold cutV
    rw [HT.sIx_nat, HT.sIx_none, List.drop_zero, Nat.sub_zero]
    rcases Nat.le_total 4 xs.length with h | h
    · rw [Nat.min_eq_left h]
    · rw [Nat.min_eq_right h, List.take_of_length_le h, List.take_of_length_le (Nat.le_refl _)]
  exact e
end L2


set_option Elab.async false
set_option linter.all false
set_option maxRecDepth 100000
set_option maxHeartbeats 4000000
namespace K31
open PySem L2
def top (i : Nat) : Stmt := PySem.Challenge.pw_outlivers_k31_what_leaves_come_to.main.body.getD i (.Pass ⟨0, 0, 0, 0⟩)
abbrev s_divisor : Stmt := top 1
theorem sc_divisor : FnScope ["a", "b"] ["a", "b"] (defScope s_divisor) := ⟨rfl, rfl, rfl, by decide +kernel, rfl, by decide +kernel, by decide +kernel⟩
abbrev s_lowest : Stmt := top 3
theorem sc_lowest : FnScope ["above", "below", "shared"] ["above", "below"] (defScope s_lowest) := ⟨rfl, rfl, rfl, by decide +kernel, rfl, by decide +kernel, by decide +kernel⟩
abbrev s_added : Stmt := top 4
theorem sc_added : FnScope ["one", "other"] ["one", "other"] (defScope s_added) := ⟨rfl, rfl, rfl, by decide +kernel, rfl, by decide +kernel, by decide +kernel⟩
abbrev s_times : Stmt := top 5
theorem sc_times : FnScope ["one", "other"] ["one", "other"] (defScope s_times) := ⟨rfl, rfl, rfl, by decide +kernel, rfl, by decide +kernel, by decide +kernel⟩
abbrev s_all_added : Stmt := top 6
theorem sc_all_added : FnScope ["shares", "together", "share"] ["shares"] (defScope s_all_added) := ⟨rfl, rfl, rfl, by decide +kernel, rfl, by decide +kernel, by decide +kernel⟩
abbrev s_whole : Stmt := top 7
theorem sc_whole : FnScope ["leaves"] ["leaves"] (defScope s_whole) := ⟨rfl, rfl, rfl, by decide +kernel, rfl, by decide +kernel, by decide +kernel⟩
abbrev s_mean : Stmt := top 8
theorem sc_mean : FnScope ["leaves", "at"] ["leaves", "at"] (defScope s_mean) := ⟨rfl, rfl, rfl, by decide +kernel, rfl, by decide +kernel, by decide +kernel⟩
abbrev s_lives : Stmt := top 9
theorem sc_lives : FnScope ["leaves", "name"] ["leaves", "name"] (defScope s_lives) := ⟨rfl, rfl, rfl, by decide +kernel, rfl, by decide +kernel, by decide +kernel⟩
abbrev s_law_box : Stmt := top 11
theorem sc_law_box : FnScope ["_law_script"] ["_law_script"] (defScope s_law_box) := ⟨rfl, rfl, rfl, by decide +kernel, rfl, by decide +kernel, by decide +kernel⟩
abbrev s_law_take : Stmt := top 12
theorem sc_law_take : FnScope ["_law_box_here", "_law_many", "_law_rest", "_law_cell", "_law_seed"] ["_law_box_here", "_law_many"] (defScope s_law_take) := ⟨rfl, rfl, rfl, by decide +kernel, rfl, by decide +kernel, by decide +kernel⟩
abbrev s_law_same : Stmt := top 13
theorem sc_law_same : FnScope ["_law_found", "_law_due"] ["_law_found", "_law_due"] (defScope s_law_same) := ⟨rfl, rfl, rfl, by decide +kernel, rfl, by decide +kernel, by decide +kernel⟩
abbrev s_law_both : Stmt := top 14
theorem sc_law_both : FnScope ["_law_a", "_law_b", "_law_step"] ["_law_a", "_law_b"] (defScope s_law_both) := ⟨rfl, rfl, rfl, by decide +kernel, rfl, by decide +kernel, by decide +kernel⟩
abbrev s_law_lowest : Stmt := top 15
theorem sc_law_lowest : FnScope ["_law_above", "_law_below", "_law_both_here"] ["_law_above", "_law_below"] (defScope s_law_lowest) := ⟨rfl, rfl, rfl, by decide +kernel, rfl, by decide +kernel, by decide +kernel⟩
abbrev s_law_names : Stmt := top 16
theorem sc_law_names : FnScope ["_law_box_here", "_law_many", "_law_letters", "_law_size", "_law_place", "_law_alike", "_law_first", "_law_rows", "_law_k", "_law_row"] ["_law_box_here", "_law_many"] (defScope s_law_names) := ⟨rfl, rfl, rfl, by decide +kernel, rfl, by decide +kernel, by decide +kernel⟩
abbrev s_law_fold : Stmt := top 17
theorem sc_law_fold : FnScope ["_law_shares", "_law_found", "_law_one"] ["_law_shares"] (defScope s_law_fold) := ⟨rfl, rfl, rfl, by decide +kernel, rfl, by decide +kernel, by decide +kernel⟩
abbrev s_law : Stmt := top 18
theorem sc_law : FnScope ["_law_script", "_law_box_here", "_law_names_here", "_law_size", "_law_leaves", "_law_k", "_law_row", "_law_share", "_law_purses", "_law_handed", "_law_at", "_law_due", "_law_name"] ["_law_script"] (defScope s_law) := ⟨rfl, rfl, rfl, by decide +kernel, rfl, by decide +kernel, by decide +kernel⟩
structure Txt (mg : Str → Option Value) : Prop where
  b_list : mg "list" = none
  b_len : mg "len" = none
  b_isinstance : mg "isinstance" = none
  b_tuple : mg "tuple" = none
  b_all : mg "all" = none
  b_zip : mg "zip" = none
  b_int : mg "int" = none
  b_bool : mg "bool" = none
  b_str : mg "str" = none
  b_range : mg "range" = none
def sp_law (K : PySem.W.Frag) : Sp := fun vs H Q _ => ∃ (a : Addr) (ns : List Int), vs = [.ref a] ∧ SqL K H a (ns.map V.int) ∧ ns.length ≤ 63 ∧ ∀ H', Q (.bl true) H'
section
variable {P : Program} {w : World} {K : PySem.W.Frag} {mg : Str → Option Value} {base : Heap}
theorem ok_divisor {f : Addr} {fd : FuncData} (F : Fun K "divisor" "divisor" s_divisor f fd) (T : Txt mg) : FnOk P w K mg base CX0 1 f fd ["a", "b"] sp_div := by
  refine F.ok sc_divisor (fun vs H Q E h => ?_) (fun cdv A outer s H vs Q E hr h => ?_)
  · obtain ⟨a, b, rfl, _⟩ := h
    rfl
  · obtain ⟨a, b, rfl, a0, b0, k⟩ := h
    refine ⟨_, (pss_cons (ps_while PassesOwn.never (ktTruth (K := K) rfl (pv 1) (fun _ => rfl))
      (pss_one (ps_par (i := 0) (j := 1) rfl sc_divisor.nd rfl rfl (by decide) rfl rfl (pa_cons (pv 1) (pa_cons (pe_op op_mod (pv 0) (pv 1)) pa_nil)) rfl)))
      (pss_one (ps_ret (pv 0)))), ?_⟩
    refine ⟨fun m σ H' => H' = H ∧ ∃ x y : Int, σ = [some (.int x), some (.int y)] ∧ 0 ≤ x ∧ 0 ≤ y ∧ G x y = G a b ∧ m = y.toNat, ⟨_, rfl, a, b, rfl, a0, b0, rfl, rfl⟩, ?_⟩
    rintro m σ H' ⟨rfl, x, y, rfl, x0, y0, hg, rfl⟩
    refine ⟨_, rfl, _, rfl, ?_⟩
    refine iteB (fun h1 => ?_) (fun h1 => ?_)
    · have hy : y ≠ 0 := by simpa using h1
      have hy0 : 0 < y := by omega
      refine ⟨fun σ' H1 => H1 = H' ∧ σ' = [some (.int y), some (.int (x % y))], ?_, ?_⟩
      · rintro σ' H1 ⟨rfl, rfl⟩
        have m0 := Int.emod_nonneg x hy
        have m1 := Int.emod_lt_of_pos x hy0
        exact ⟨(x % y).toNat, by omega, rfl, y, x % y, rfl, y0, m0, by rw [G_step x0 hy0]; exact hg, rfl⟩
      · exact ⟨_, rfl, _, rfl, _, rfl, _, _, rfl, rfl, hy0, _, _, rfl, rfl, rfl⟩
    · have hy : y = 0 := by simpa using h1
      subst hy
      rw [G_zero x0] at hg
      subst hg
      exact ⟨_, rfl, k⟩

theorem ok_lowest {f : Addr} {fd : FuncData} (F : Fun K "lowest" "lowest" s_lowest f fd) (T : Txt mg) (Gdiv : Fn P w K mg base "divisor" ["a", "b"] 1 sp_div) : FnOk P w K mg base CX0 2 f fd ["above", "below"] sp_lowest := by
  refine F.ok sc_lowest (fun vs H Q E h => ?_) (fun cdv A outer s H vs Q E hr h => ?_)
  · obtain ⟨a, b, rfl, _⟩ := h
    rfl
  · obtain ⟨a, b, rfl, a0, b1, bh, k⟩ := h
    have g0 := G_pos a b1
    have g1 := G_le a b1
    refine ⟨_, (pss_cons (ps_set (i := 2) sc_lowest.nd rfl (by first | exact Or.inl rfl | exact Or.inr rfl) (pe_fn Gdiv hr (by first | decide | omega) rfl (pa_cons (pv 1) (pa_cons (pv 0) pa_nil))))
      (pss_one (ps_ret (pe_tup (pa_cons (pe_op op_fdivB (pv 0) (pv 2)) (pa_cons (pe_op op_fdivB (pv 1) (pv 2)) pa_nil)))))), ?_⟩
    refine ⟨_, rfl, _, rfl, b, a, rfl, by omega, by omega, ?_⟩
    exact ⟨_, rfl, _, rfl, _, _, rfl, rfl, ⟨by omega, by omega⟩, _, rfl, _, rfl, _, _, rfl, rfl, ⟨by omega, by omega⟩, by show 2 ≤ sizeLine; decide, fun p hp => k p hp⟩
theorem ok_added {f : Addr} {fd : FuncData} (F : Fun K "added" "added" s_added f fd) (T : Txt mg) (Glowest : Fn P w K mg base "lowest" ["above", "below"] 2 sp_lowest) : FnOk P w K mg base CX0 3 f fd ["one", "other"] sp_added := by
  refine F.ok sc_added (fun vs H Q E h => ?_) (fun cdv A outer s H vs Q E hr h => ?_)
  · obtain ⟨x, y, p, q, rfl, _⟩ := h
    rfl
  · obtain ⟨x, y, p, q, rfl, hx, hy, hp, hq, k⟩ := h
    have p1 := hp.a0; have p2 := hp.b1; have p3 := hp.ah; have p4 := hp.bh
    have q1 := hq.a0; have q2 := hq.b1; have q3 := hq.ah; have q4 := hq.bh
    refine ⟨_, (pss_one (ps_ret (pe_fn Glowest hr (by first | decide | omega) rfl (pa_cons (pe_op op_add (pe_op op_mulL (pe_ix (kIxT (K := K) rfl) (pv 0) pe_int (fun _ _ => rfl)) (pe_ix (kIxT (K := K) rfl) (pv 1) pe_int (fun _ _ => rfl))) (pe_op op_mulL (pe_ix (kIxT (K := K) rfl) (pv 1) pe_int (fun _ _ => rfl)) (pe_ix (kIxT (K := K) rfl) (pv 0) pe_int (fun _ _ => rfl)))) (pa_cons (pe_op op_mulL (pe_ix (kIxT (K := K) rfl) (pv 0) pe_int (fun _ _ => rfl)) (pe_ix (kIxT (K := K) rfl) (pv 1) pe_int (fun _ _ => rfl))) pa_nil))))), ?_⟩
    have m1 := mul_lt p1 (show 0 ≤ q.2 by omega) (Int.le_of_lt p3) (Int.le_of_lt q4)
    have m2 := mul_lt q1 (show 0 ≤ p.2 by omega) (Int.le_of_lt q3) (Int.le_of_lt p4)
    have m3 := mul_lt (show 0 ≤ p.2 by omega) (show 0 ≤ q.2 by omega) (Int.le_of_lt p4) (Int.le_of_lt q4)
    have m4 := mul_pos1 p2 q2
    refine ⟨_, rfl, x, _, 0, _, rfl, rfl, SqT.of hx, rfl, _, rfl, y, _, 1, _, rfl, rfl, SqT.of hy, rfl, _, _, rfl, rfl, ⟨⟨by omega, by omega⟩, by omega, by omega⟩, ?_⟩
    refine ⟨_, rfl, y, _, 0, _, rfl, rfl, SqT.of hy, rfl, _, rfl, x, _, 1, _, rfl, rfl, SqT.of hx, rfl, _, _, rfl, rfl, ⟨⟨by omega, by omega⟩, by omega, by omega⟩, _, _, rfl, rfl, ?_⟩
    refine ⟨_, rfl, x, _, 1, _, rfl, rfl, SqT.of hx, rfl, _, rfl, y, _, 1, _, rfl, rfl, SqT.of hy, rfl, _, _, rfl, rfl, ⟨⟨by omega, by omega⟩, by omega, by omega⟩, ?_⟩
    exact ⟨_, _, rfl, by omega, m4, by omega, fun z hz => k z hz⟩
theorem ok_times {f : Addr} {fd : FuncData} (F : Fun K "times" "times" s_times f fd) (T : Txt mg) (Glowest : Fn P w K mg base "lowest" ["above", "below"] 2 sp_lowest) : FnOk P w K mg base CX0 3 f fd ["one", "other"] sp_times := by
  refine F.ok sc_times (fun vs H Q E h => ?_) (fun cdv A outer s H vs Q E hr h => ?_)
  · obtain ⟨x, y, p, q, rfl, _⟩ := h
    rfl
  · obtain ⟨x, y, p, q, rfl, hx, hy, hp, hq, k⟩ := h
    have p1 := hp.a0; have p2 := hp.b1; have p3 := hp.ah; have p4 := hp.bh
    have q1 := hq.a0; have q2 := hq.b1; have q3 := hq.ah; have q4 := hq.bh
    refine ⟨_, (pss_one (ps_ret (pe_fn Glowest hr (by first | decide | omega) rfl (pa_cons (pe_op op_mulL (pe_ix (kIxT (K := K) rfl) (pv 0) pe_int (fun _ _ => rfl)) (pe_ix (kIxT (K := K) rfl) (pv 1) pe_int (fun _ _ => rfl))) (pa_cons (pe_op op_mulL (pe_ix (kIxT (K := K) rfl) (pv 0) pe_int (fun _ _ => rfl)) (pe_ix (kIxT (K := K) rfl) (pv 1) pe_int (fun _ _ => rfl))) pa_nil))))), ?_⟩
    have m1 := mul_lt p1 q1 (Int.le_of_lt p3) (Int.le_of_lt q3)
    have m3 := mul_lt (show 0 ≤ p.2 by omega) (show 0 ≤ q.2 by omega) (Int.le_of_lt p4) (Int.le_of_lt q4)
    have m4 := mul_pos1 p2 q2
    refine ⟨_, rfl, x, _, 0, _, rfl, rfl, SqT.of hx, rfl, _, rfl, y, _, 0, _, rfl, rfl, SqT.of hy, rfl, _, _, rfl, rfl, ⟨⟨by omega, by omega⟩, by omega, by omega⟩, ?_⟩
    refine ⟨_, rfl, x, _, 1, _, rfl, rfl, SqT.of hx, rfl, _, rfl, y, _, 1, _, rfl, rfl, SqT.of hy, rfl, _, _, rfl, rfl, ⟨⟨by omega, by omega⟩, by omega, by omega⟩, ?_⟩
    exact ⟨_, _, rfl, by omega, m4, by omega, fun z hz => k z hz⟩

theorem ok_all_added {f : Addr} {fd : FuncData} (F : Fun K "all_added" "all_added" s_all_added f fd) (T : Txt mg) (Gadded : Fn P w K mg base "added" ["one", "other"] 3 sp_added) : FnOk P w K mg base CX0 4 f fd ["shares"] sp_alladded := by
  refine F.ok sc_all_added (fun vs H Q E h => ?_) (fun cdv A outer s H vs Q E hr h => ?_)
  · obtain ⟨l, qs, rfl, _⟩ := h
    rfl
  · obtain ⟨l, qs, rfl, ⟨ss, hl, hs⟩, hq, hn, k⟩ := h
    refine ⟨_, (pss_cons (ps_set (i := 1) sc_all_added.nd rfl (by first | exact Or.inl rfl | exact Or.inr rfl) (pe_tup (pa_cons pe_int (pa_cons pe_int pa_nil))))
      (pss_cons (ps_for PassesOwn.never rfl (kiList (K := K) rfl (pv 0)) (pg_name (i := 2) sc_all_added.nd rfl (by first | exact Or.inl rfl | exact Or.inr rfl))
      (pss_one (ps_set (i := 1) sc_all_added.nd rfl (by first | exact Or.inl rfl | exact Or.inr rfl) (pe_fn Gadded hr (by first | decide | omega) rfl (pa_cons (pv 1) (pa_cons (pv 2) pa_nil))))))
      (pss_one (ps_ret (pv 1))))), ?_⟩
    have hsl := hs.len
    refine ⟨by show 2 ≤ sizeLine; decide, fun z hz => ?_⟩
    have S0 := Same.upd (o := .tup [.int 0, .int 1]) hz
    refine ⟨_, rfl, l, rfl, ⟨_, SqL.of (S0 _ _ hl)⟩, for_list (xs := ss.map V.ref) (fun i σ H2 => ∃ (c : Addr) (v : Option V), σ = [some (.ref l), some (.ref c), v] ∧ Same H H2 ∧ H2 c = some (.tup [.int (foldS (qs.take i)).1, .int (foldS (qs.take i)).2])) ⟨z, none, rfl, S0, upd_same⟩ (fun i σ H2 _ ⟨_, _, _, S, _⟩ => SqL.of (S _ _ hl)) ?_ ?_⟩
    · rintro i x σ H2 hx ⟨c, v, rfl, S2, hc⟩
      have hi : i < ss.length := by have := (List.getElem?_eq_some_iff.mp hx).1; rw [List.length_map] at this; exact this
      have hx' : (ss.map V.ref)[i]? = some (.ref ss[i]) := by simp [hi]
      rw [hx] at hx'; cases hx'
      have hiq : i < qs.length := by omega
      have hsi := S2 _ _ (hs.at_ i ss[i] qs[i] (by simp [hi]) (by simp [hiq]))
      have fb := (FB.fold hq i (by omega)).fc (by omega)
      refine ⟨_, rfl, _, rfl, c, ss[i], foldS (qs.take i), qs[i], rfl, hc, hsi, fb.sh, (hq _ (List.getElem_mem hiq)).sh, fun d hd => ?_⟩
      refine ⟨d, _, rfl, S2.trans (Same.upd hd), ?_⟩
      rw [upd_same, List.take_add_one, List.getElem?_eq_getElem hiq]
      show _ = some (HO.tup [.int (foldS (qs.take i ++ [qs[i]])).1, .int (foldS (qs.take i ++ [qs[i]])).2])
      rw [foldS_snoc]
    · rintro σ H2 ⟨c, v, rfl, S2, hc⟩
      rw [List.length_map, hsl, List.take_length] at hc
      exact ⟨_, rfl, k c H2 S2 hc⟩
theorem ok_whole {f : Addr} {fd : FuncData} (F : Fun K "whole" "whole" s_whole f fd) (T : Txt mg) (Galladded : Fn P w K mg base "all_added" ["shares"] 4 sp_alladded) : FnOk P w K mg base CX0 5 f fd ["leaves"] sp_lwhole := by
  refine F.ok sc_whole (fun vs H Q E h => ?_) (fun cdv A outer s H vs Q E hr h => ?_)
  · obtain ⟨l, fs, sz, rfl, _⟩ := h
    rfl
  · obtain ⟨l, fs, sz, rfl, ⟨as, hl, hal, ha⟩, hf, hn, k⟩ := h
    refine ⟨_, (pss_one (ps_ret (pe_fn Galladded hr (by first | decide | omega) rfl (pa_cons (pe_lc (ts := ["row", "share", "purses"]) (M := ["leaves"]) (by exact comp_of (N := ["leaves"]) (sc := (defScope s_whole)) rfl rfl (by decide +kernel)) rfl (kiList (K := K) rfl (pv 0)) (by exact fun _ _ _ _ => (kgTup (K := K) (n := 3) rfl rfl (pgs_cons (pg_name (i := 0) (by decide +kernel : (["row", "share", "purses", "leaves"] : List Str).Nodup) rfl (by first | exact Or.inl rfl | exact Or.inr rfl)) (pgs_cons (pg_name (i := 1) (by decide +kernel : (["row", "share", "purses", "leaves"] : List Str).Nodup) rfl (by first | exact Or.inl rfl | exact Or.inr rfl)) (pgs_cons (pg_name (i := 2) (by decide +kernel : (["row", "share", "purses", "leaves"] : List Str).Nodup) rfl (by first | exact Or.inl rfl | exact Or.inr rfl)) pgs_nil))))) (by exact fun _ _ _ _ => pf_nil) (by exact fun _ _ _ _ => (pv 1))) pa_nil)))), ?_⟩
    refine ⟨_, rfl, l, rfl, ⟨_, SqL.of hl⟩, ?_⟩
    refine lc_list (xs := as.map V.ref) (fun i ys H2 => ∃ ss : List Addr, ys = ss.map V.ref ∧ ss.length = i ∧ Same H H2 ∧ ShZ H2 ss ((fs.take i).map Lf.q)) (small1000 (by rw [List.length_map]; omega)) ⟨[], rfl, rfl, Same.refl _, ShZ.nil _⟩ (fun i ys H2 hi ⟨ss, e, l', S, _⟩ => ⟨SqL.of (S _ _ hl), by rw [e, List.length_map]; omega⟩) ?_ ?_
    · rintro i x ys H2 hx ⟨ss, rfl, hl2, S2, Z2⟩
      have hi : i < as.length := by have := (List.getElem?_eq_some_iff.mp hx).1; rw [List.length_map] at this; exact this
      have hif : i < fs.length := by omega
      have hx' : (as.map V.ref)[i]? = some (.ref as[i]) := by simp [hi]
      rw [hx] at hx'; cases hx'
      obtain ⟨r, s', u, L⟩ := ha i hi hif
      have L2 := L.same S2
      refine ⟨as[i], _, rfl, SqT.of L2.at_, rfl, _, _, rfl, _, _, rfl, _, _, rfl, rfl, rfl, ?_⟩
      refine ⟨_, rfl, ss ++ [s'], by simp, by simp [hl2], S2, ?_⟩
      rw [List.take_add_one, List.getElem?_eq_getElem hif, List.map_append]
      exact Z2.snoc L2.sh
    · rintro ys H2 ⟨ss, rfl, hl2, S2, Z2⟩ d hd
      rw [List.length_map, hal, List.take_length] at Z2
      refine ⟨d, fs.map Lf.q, rfl, ⟨ss, upd_same, Z2.same (Same.upd hd)⟩, fun q hq => ?_, by simpa using hn, fun p H' S' hp => k p H' ((S2.trans (Same.upd hd)).trans S') hp⟩
      obtain ⟨g, hg, rfl⟩ := List.mem_map.mp hq
      have o := hf g hg
      exact ⟨o.a0, by have := o.ah; omega, o.b1, o.bh⟩
theorem ok_mean {f : Addr} {fd : FuncData} (F : Fun K "mean" "mean" s_mean f fd) (T : Txt mg) (Gtimes : Fn P w K mg base "times" ["one", "other"] 3 sp_times) (Galladded : Fn P w K mg base "all_added" ["shares"] 4 sp_alladded) : FnOk P w K mg base CX0 5 f fd ["leaves", "at"] sp_mean := by
  refine F.ok sc_mean (fun vs H Q E h => ?_) (fun cdv A outer s H vs Q E hr h => ?_)
  · obtain ⟨l, fs, sz, i, rfl, _⟩ := h
    rfl
  · obtain ⟨l, fs, sz, i, rfl, ⟨as, hl, hal, ha⟩, hf, hi, hn, k⟩ := h
    refine ⟨_, (pss_one (ps_ret (pe_fn Galladded hr (by first | decide | omega) rfl (pa_cons (pe_lc (ts := ["row", "share", "purses"]) (M := ["leaves", "at"]) (by exact comp_of (N := ["leaves", "at"]) (sc := (defScope s_mean)) rfl rfl (by decide +kernel)) rfl (kiList (K := K) rfl (pv 0)) (by exact fun _ _ _ _ => (kgTup (K := K) (n := 3) rfl rfl (pgs_cons (pg_name (i := 0) (by decide +kernel : (["row", "share", "purses", "leaves", "at"] : List Str).Nodup) rfl (by first | exact Or.inl rfl | exact Or.inr rfl)) (pgs_cons (pg_name (i := 1) (by decide +kernel : (["row", "share", "purses", "leaves", "at"] : List Str).Nodup) rfl (by first | exact Or.inl rfl | exact Or.inr rfl)) (pgs_cons (pg_name (i := 2) (by decide +kernel : (["row", "share", "purses", "leaves", "at"] : List Str).Nodup) rfl (by first | exact Or.inl rfl | exact Or.inr rfl)) pgs_nil))))) (by exact fun _ _ _ _ => pf_nil) (by exact fun _ _ _ _ => (pe_fn Gtimes hr (by first | decide | omega) rfl (pa_cons (pe_tup (pa_cons (pe_ix (kIxL (K := K) rfl) (pv 2) (pv 4) (fun _ _ => rfl)) (pa_cons pe_int pa_nil))) (pa_cons (pv 1) pa_nil))))) pa_nil)))), ?_⟩
    refine ⟨_, rfl, l, rfl, ⟨_, SqL.of hl⟩, ?_⟩
    refine lc_list (xs := as.map V.ref) (fun j ys H2 => ∃ ss : List Addr, ys = ss.map V.ref ∧ ss.length = j ∧ Same H H2 ∧ ShZ H2 ss ((fs.take j).map fun f => low (pur i f).1 (pur i f).2)) (small1000 (by rw [List.length_map]; omega)) ⟨[], rfl, rfl, Same.refl _, ShZ.nil _⟩ (fun j ys H2 hj ⟨ss, e, l', S, _⟩ => ⟨SqL.of (S _ _ hl), by rw [e, List.length_map]; omega⟩) ?_ ?_
    · rintro j x ys H2 hx ⟨ss, rfl, hl2, S2, Z2⟩
      have hj : j < as.length := by have := (List.getElem?_eq_some_iff.mp hx).1; rw [List.length_map] at this; exact this
      have hjf : j < fs.length := by omega
      have hx' : (as.map V.ref)[j]? = some (.ref as[j]) := by simp [hj]
      rw [hx] at hx'; cases hx'
      obtain ⟨r, s', u, L⟩ := ha j hj hjf
      have L2 := L.same S2
      have o := hf _ (List.getElem_mem hjf)
      have hfj : fs[j]? = some fs[j] := List.getElem?_eq_getElem hjf
      generalize fs[j] = g at *
      have hil : i < g.ps.length := by rw [o.len]; exact hi
      have hp : 0 ≤ g.ps.getD i 0 ∧ g.ps.getD i 0 ≤ 1000000 := o.p0 _ (by rw [List.getD_eq_getElem?_getD, List.getElem?_eq_getElem hil]; exact List.getElem_mem hil)
      refine ⟨as[j], _, rfl, SqT.of L2.at_, rfl, _, _, rfl, _, _, rfl, _, _, rfl, rfl, rfl, ?_⟩
      refine ⟨_, rfl, _, rfl, u, _, _, _, rfl, rfl, SqL.of L2.pu, atI_int (getD_get hil), by show 2 ≤ sizeLine; decide, fun z hz => ?_⟩
      have Sz := Same.upd (o := .tup [.int (g.ps.getD i 0), .int 1]) hz
      refine ⟨_, rfl, z, s', (g.ps.getD i 0, 1), g.q, rfl, upd_same, Sz _ _ L2.sh, ⟨hp.1, Int.le_refl 1, by show g.ps.getD i 0 < _; omega, by show (1 : Int) < _; decide⟩, ⟨o.a0, o.b1, by have := o.ah; omega, by have := o.bh; omega⟩, fun y hy => ?_⟩
      have Sy := Sz.trans (Same.upd (o := .tup [.int (mul2 (g.ps.getD i 0, 1) g.q).1, .int (mul2 (g.ps.getD i 0, 1) g.q).2]) hy)
      refine ⟨ss ++ [y], by simp, by simp [hl2], S2.trans Sy, ?_⟩
      rw [List.take_add_one, hfj, List.map_append]
      refine (Z2.same Sy).snoc (r := low (pur i g).1 (pur i g).2) ?_
      rw [upd_same]
      simp [mul2, pur]
    · rintro ys H2 ⟨ss, rfl, hl2, S2, Z2⟩ d hd
      rw [List.length_map, hal, List.take_length] at Z2
      rw [← foldS_low (pur i) fs (fun g hg => (hf g hg).b1)] at k
      refine ⟨d, fs.map fun f => low (pur i f).1 (pur i f).2, rfl, ⟨ss, upd_same, Z2.same (Same.upd hd)⟩, fun q hq => ?_, by simpa using hn, fun p H' S' hp => k p H' ((S2.trans (Same.upd hd)).trans S') hp⟩
      obtain ⟨g, hg, rfl⟩ := List.mem_map.mp hq
      have o := hf g hg
      have hil : i < g.ps.length := by rw [o.len]; exact hi
      have hp : 0 ≤ g.ps.getD i 0 ∧ g.ps.getD i 0 ≤ 1000000 := o.p0 _ (by rw [List.getD_eq_getElem?_getD, List.getElem?_eq_getElem hil]; exact List.getElem_mem hil)
      have m := mul_lt hp.1 o.a0 hp.2 o.ah
      have b1 : 1 ≤ (pur i g).2 := o.b1
      refine ⟨low_a m.1 b1, Int.le_trans (low_ale m.1) m.2, low_b b1, Int.le_trans (low_ble b1) o.bh⟩
theorem ok_lives {f : Addr} {fd : FuncData} (F : Fun K "lives" "lives" s_lives f fd) (T : Txt mg) (Galladded : Fn P w K mg base "all_added" ["shares"] 4 sp_alladded) : FnOk P w K mg base CX0 5 f fd ["leaves", "name"] sp_lives := by
  refine F.ok sc_lives (fun vs H Q E h => ?_) (fun cdv A outer s H vs Q E hr h => ?_)
  · obtain ⟨l, fs, sz, z, rfl, _⟩ := h
    rfl
  · obtain ⟨l, fs, sz, z, rfl, ⟨as, hl, hal, ha⟩, hf, hn, k⟩ := h
    refine ⟨_, (pss_one (ps_ret (pe_fn Galladded hr (by first | decide | omega) rfl (pa_cons (pe_lc (ts := ["row", "share", "purses"]) (M := ["leaves", "name"]) (by exact comp_of (N := ["leaves", "name"]) (sc := (defScope s_lives)) rfl rfl (by decide +kernel)) rfl (kiList (K := K) rfl (pv 0)) (by exact fun _ _ _ _ => (kgTup (K := K) (n := 3) rfl rfl (pgs_cons (pg_name (i := 0) (by decide +kernel : (["row", "share", "purses", "leaves", "name"] : List Str).Nodup) rfl (by first | exact Or.inl rfl | exact Or.inr rfl)) (pgs_cons (pg_name (i := 1) (by decide +kernel : (["row", "share", "purses", "leaves", "name"] : List Str).Nodup) rfl (by first | exact Or.inl rfl | exact Or.inr rfl)) (pgs_cons (pg_name (i := 2) (by decide +kernel : (["row", "share", "purses", "leaves", "name"] : List Str).Nodup) rfl (by first | exact Or.inl rfl | exact Or.inr rfl)) pgs_nil))))) (by exact fun _ _ _ _ => (pf_one (pt_cmpR (kNotIn (K := K) rfl) (pv 4) (pv 0) rfl))) (by exact fun _ _ _ _ => (pv 1))) pa_nil)))), ?_⟩
    refine ⟨_, rfl, l, rfl, ⟨_, SqL.of hl⟩, ?_⟩
    refine lc_list (xs := as.map V.ref) (fun i ys H2 => ∃ ss : List Addr, ys = ss.map V.ref ∧ ss.length ≤ i ∧ Same H H2 ∧ ShZ H2 ss (((fs.take i).filter (out z)).map Lf.q)) (small1000 (by rw [List.length_map]; omega)) ⟨[], rfl, Nat.le_refl _, Same.refl _, ShZ.nil _⟩ (fun i ys H2 hi ⟨ss, e, l', S, _⟩ => ⟨SqL.of (S _ _ hl), by rw [e, List.length_map]; omega⟩) ?_ ?_
    · rintro i x ys H2 hx ⟨ss, rfl, hl2, S2, Z2⟩
      have hi : i < as.length := by have := (List.getElem?_eq_some_iff.mp hx).1; rw [List.length_map] at this; exact this
      have hif : i < fs.length := by omega
      have hx' : (as.map V.ref)[i]? = some (.ref as[i]) := by simp [hi]
      rw [hx] at hx'; cases hx'
      obtain ⟨r, s', u, L⟩ := ha i hi hif
      have L2 := L.same S2
      refine ⟨as[i], _, rfl, SqT.of L2.at_, rfl, _, _, rfl, _, _, rfl, _, _, rfl, rfl, rfl, ?_⟩
      refine ⟨_, rfl, _, rfl, r, _, rfl, .inr (SqT.of L2.row), rfl, by simp [flatV], _, rfl, ?_⟩
      refine iteB (fun h => ?_) (fun h => ?_)
      · have h : out z fs[i] = true := h
        refine ⟨_, rfl, ss ++ [s'], by simp, by simp [hl2], S2, ?_⟩
        rw [List.take_add_one, List.getElem?_eq_getElem hif, List.filter_append, List.map_append]
        show ShZ H2 (ss ++ [s']) (_ ++ (List.filter (out z) [fs[i]]).map Lf.q)
        rw [List.filter_cons_of_pos h]
        exact Z2.snoc L2.sh
      · have h : ¬ out z fs[i] = true := by
          intro e
          have h : out z fs[i] = false := h
          rw [h] at e; cases e
        refine ⟨ss, rfl, by omega, S2, ?_⟩
        rw [List.take_add_one, List.getElem?_eq_getElem hif, List.filter_append, List.map_append]
        show ShZ H2 ss (_ ++ (List.filter (out z) [fs[i]]).map Lf.q)
        rw [List.filter_cons_of_neg h]
        simpa using Z2
    · rintro ys H2 ⟨ss, rfl, hl2, S2, Z2⟩ d hd
      rw [List.length_map, hal, List.take_length] at Z2
      have hlen : ((fs.filter (out z)).map Lf.q).length ≤ 9 := by rw [List.length_map]; exact Nat.le_trans (List.length_filter_le _ _) hn
      refine ⟨d, (fs.filter (out z)).map Lf.q, rfl, ⟨ss, upd_same, Z2.same (Same.upd hd)⟩, fun q hq => ?_, hlen, fun p H' S' hp => k p H' ((S2.trans (Same.upd hd)).trans S') hp⟩
      obtain ⟨g, hg, rfl⟩ := List.mem_map.mp hq
      have o := hf g (List.mem_filter.mp hg).1
      exact ⟨o.a0, by have := o.ah; omega, o.b1, o.bh⟩

/-! ### the law's own draws -/
theorem ok_law_box {f : Addr} {fd : FuncData} (F : Fun K "_law_box" "_law_box" s_law_box f fd) (T : Txt mg) : FnOk P w K mg base CX0 1 f fd ["_law_script"] (sp_box K) := by
  refine F.ok sc_law_box (fun vs H Q E h => ?_) (fun cdv A outer s H vs Q E hr h => ?_)
  · obtain ⟨a, ns, rfl, _⟩ := h
    rfl
  · obtain ⟨a, ns, rfl, hS, hl, k⟩ := h
    refine ⟨_, (pss_one (ps_ret (pe_lst (pa_cons (pe_callTy (kListOf (K := K) rfl) rfl T.b_list bb_list (pa_cons (pe_slice (kSlL (K := K) rfl) (pv 0) po_none (po_some pe_int)) pa_nil)) (pa_cons pe_int (pa_cons pe_int (pa_cons pe_int pa_nil))))))), ?_⟩
    refine ⟨_, rfl, _, rfl, a, _, rfl, hS, fun p hp => ?_⟩
    refine ⟨p, _, rfl, .inl (SqL.of upd_same), fun c hc => ?_⟩
    refine ⟨by show 4 ≤ sizeLine; decide, fun b hb => ?_⟩
    have nbc : c ≠ b := ne_of_none upd_same hb
    have hb1 : Same H _ := Same.trans (Same.upd (o := .lst (cutV (ns.map V.int) none (some 63))) hp) (Same.upd (o := .lst (cutV (ns.map V.int) none (some 63))) hc)
    obtain ⟨ms, em⟩ := cutV_ints ns none (some 63)
    refine k ⟨b, c⟩ _ (hb1.free hb) ((Same.upd hp).free hc) (hb1.trans (Same.upd hb)) ⟨nbc, ms, 0, 0, 17, upd_same, ?_, by decide, by decide, by decide⟩
    rw [upd_ne nbc, upd_same, em]
theorem ok_law_take {f : Addr} {fd : FuncData} (F : Fun K "_law_take" "_law_take" s_law_take f fd) (T : Txt mg) : FnOk P w K mg base CX0 1 f fd ["_law_box_here", "_law_many"] sp_take := by
  refine F.ok sc_law_take (fun vs H Q E h => ?_) (fun cdv A outer s H vs Q E hr h => ?_)
  · obtain ⟨b, m, rfl, _⟩ := h
    rfl
  · obtain ⟨b, m, rfl, B, m1, m2, k⟩ := h
    obtain ⟨b, c⟩ := b
    obtain ⟨ncb, cells, i, r, z, hb, hc, i0, z0, z1⟩ := B
    replace ncb : c ≠ b := ncb
    replace hb : H b = some (.lst [.ref c, .int i, .int r, .int z]) := hb
    replace hc : H c = some (.lst (cells.map V.int)) := hc
    have ndb : ∀ o, upd H b o c = some (.lst (cells.map V.int)) := fun o => by rw [upd_ne ncb]; exact hc
    refine ⟨_, (pss_cons (ps_if (pt_cmpR op_gt (pe_ix (kIxL (K := K) rfl) (pv 0) pe_int (fun _ _ => rfl)) pe_int (nomark _))
      (pss_cons (ps_set (i := 2) sc_law_take.nd rfl (by first | exact Or.inl rfl | exact Or.inr rfl) (pe_ix (kIxL (K := K) rfl) (pv 0) pe_int (fun _ _ => rfl)))
      (pss_cons (ps_asg (pe_op op_fdivL (pv 2) (pv 1)) (pg_sub (pv 0) pe_int set_list))
      (pss_one (ps_ret (pe_op op_mod (pv 2) (pv 1))))))
      pss_nil)
      (pss_cons (ps_set (i := 3) sc_law_take.nd rfl (by first | exact Or.inl rfl | exact Or.inr rfl) pe_int)
      (pss_cut (ps_if (pt_cmpR op_lt (pe_ix (kIxL (K := K) rfl) (pv 0) pe_int (fun _ _ => rfl)) (pe_callB (kLen (K := K) rfl) rfl T.b_len bb_len (pa_cons (pe_ix (kIxL (K := K) rfl) (pv 0) pe_int (fun _ _ => rfl)) pa_nil)) (nomark _))
      (pss_cons (ps_set (i := 3) sc_law_take.nd rfl (by first | exact Or.inl rfl | exact Or.inr rfl) (pe_ix (kIxL (K := K) rfl) (pe_ix (kIxL (K := K) rfl) (pv 0) pe_int (fun _ _ => rfl)) (pe_ix (kIxL (K := K) rfl) (pv 0) pe_int (fun _ _ => rfl)) (fun _ _ => rfl)))
      (pss_one (ps_augS (pv 0) pe_int (kGetL (K := K) rfl) pe_int ip_add set_list)))
      pss_nil)
      (pss_cons (ps_if (pt_cmpR op_ge (pv 3) (pe_op op_pow pe_int pe_int) (nomark _))
      (pss_cons (ps_asg (pe_op op_fdivL (pv 3) (pv 1)) (pg_sub (pv 0) pe_int set_list))
      (pss_one (ps_ret (pe_op op_mod (pv 3) (pv 1)))))
      pss_nil)
      (pss_cons (ps_set (i := 4) sc_law_take.nd rfl (by first | exact Or.inl rfl | exact Or.inr rfl) (pe_ix (kIxL (K := K) rfl) (pv 0) pe_int (fun _ _ => rfl)))
      (pss_cons (ps_set (i := 4) sc_law_take.nd rfl (by first | exact Or.inl rfl | exact Or.inr rfl) (pe_op op_add (pe_op op_add (pe_op op_pow (pv 4) pe_int) (pe_op op_mul pe_int (pv 4))) (pe_op op_mul pe_int (pe_op op_mod (pv 3) pe_int))))
      (pss_cons (ps_asg (pe_op op_mod (pe_op op_add (pv 4) pe_int) pe_int) (pg_sub (pv 0) pe_int set_list))
      (pss_one (ps_ret (pe_op op_mod (pe_op op_fdivL (pe_ix (kIxL (K := K) rfl) (pv 0) pe_int (fun _ _ => rfl)) pe_int) (pv 1))))))))))), ?_⟩
    -- if box[2] > 0
    refine ⟨_, rfl, b, _, 2, _, rfl, rfl, SqL.of hb, rfl, _, _, rfl, rfl, _, rfl, ?_⟩
    refine iteB (fun h0 => ?_) (fun h0 => ?_)
    · refine ⟨_, rfl, b, _, 2, _, rfl, rfl, SqL.of hb, rfl, ?_⟩
      refine ⟨_, rfl, _, rfl, _, _, rfl, rfl, ⟨by omega, by omega⟩, _, rfl, b, _, 2, 2, rfl, rfl, hb, rfl, ?_⟩
      refine ⟨_, rfl, _, rfl, _, _, rfl, rfl, by omega, ?_⟩
      exact k _ _ (Int.emod_nonneg _ (by omega)) (Int.emod_lt_of_pos _ (by omega)) (Keep.upd (β := ⟨b, c⟩)) ⟨ncb, cells, i, _, z, upd_same, ndb _, i0, z0, z1⟩
    -- cell = 0; if box[1] < len(box[0])
    · refine ⟨fun σ' H1 => ∃ x i', σ' = [some (.ref b), some (.int m), none, some (.int x), none] ∧ 0 ≤ i' ∧ H1 b = some (.lst [.ref c, .int i', .int r, .int z]) ∧ H1 c = some (.lst (cells.map V.int)) ∧ Keep ⟨b, c⟩ H H1, ?_, ?_⟩
      · refine ⟨_, rfl, b, _, 1, _, rfl, rfl, SqL.of hb, rfl, _, rfl, b, _, 0, _, rfl, rfl, SqL.of hb, rfl, c, _, rfl, .inl (SqL.of hc), _, _, rfl, rfl, _, rfl, ?_⟩
        refine iteB (fun h1 => ?_) (fun h1 => ?_)
        · obtain ⟨v, _, ev⟩ := atI_ints (ns := cells) i0 (of_decide_eq_true h1)
          refine ⟨_, rfl, b, _, 0, _, rfl, rfl, SqL.of hb, rfl, _, rfl, b, _, 1, _, rfl, rfl, SqL.of hb, rfl, c, _, _, _, rfl, rfl, SqL.of hc, ev, ?_⟩
          refine ⟨_, rfl, b, _, 1, _, rfl, rfl, SqL.of hb, rfl, _, _, rfl, rfl, b, _, 1, 1, rfl, rfl, hb, rfl, ?_⟩
          exact ⟨v, i + 1, rfl, by omega, upd_same, ndb _, (Keep.upd (β := ⟨b, c⟩))⟩
        · exact ⟨0, i, rfl, i0, hb, hc, Keep.refl _ _⟩
      · rintro σ' H1 ⟨x, i', rfl, i0', hb1, hc1, k1⟩
        have ndb1 : ∀ o, upd H1 b o c = some (.lst (cells.map V.int)) := fun o => by rw [upd_ne ncb]; exact hc1
        -- if cell >= 10 ** 18
        refine ⟨_, rfl, _, _, rfl, rfl, ⟨by decide, by decide, by decide⟩, _, _, rfl, rfl, _, rfl, ?_⟩
        refine iteB (fun h2 => ?_) (fun h2 => ?_)
        · refine ⟨_, rfl, _, rfl, _, _, rfl, rfl, ⟨by omega, by omega⟩, _, rfl, b, _, 2, 2, rfl, rfl, hb1, rfl, ?_⟩
          refine ⟨_, rfl, _, rfl, _, _, rfl, rfl, by omega, ?_⟩
          exact k _ _ (Int.emod_nonneg _ (by omega)) (Int.emod_lt_of_pos _ (by omega)) (k1.trans (Keep.upd (β := ⟨b, c⟩))) ⟨ncb, cells, i', _, z, upd_same, ndb1 _, i0', z0, z1⟩
        -- the seed
        · refine ⟨_, rfl, b, _, 3, _, rfl, rfl, SqL.of hb1, rfl, ?_⟩
          refine ⟨_, rfl, _, _, rfl, rfl, ⟨by decide, by decide, by omega⟩, _, rfl, _, _, rfl, rfl, .inl (by decide), _, _, rfl, rfl, _, rfl, _, _, rfl, rfl, (by show (0 : Int) < 2147483629; decide), _, _, rfl, rfl, .inl (by decide), _, _, rfl, rfl, ?_⟩
          refine ⟨_, rfl, _, _, rfl, rfl, _, _, rfl, rfl, (by show (0 : Int) < 2147483629; decide), _, rfl, b, _, 3, 3, rfl, rfl, hb1, rfl, ?_⟩
          refine ⟨_, rfl, b, _, 3, _, rfl, rfl, SqL.of upd_same, rfl, _, _, rfl, rfl, ⟨by decide, by decide⟩, _, rfl, _, _, rfl, rfl, by omega, ?_⟩
          exact k _ _ (Int.emod_nonneg _ (by omega)) (Int.emod_lt_of_pos _ (by omega)) (k1.trans (Keep.upd (β := ⟨b, c⟩))) ⟨ncb, cells, i', r, _, upd_same, ndb1 _, i0', Int.emod_nonneg _ (by decide), Int.emod_lt_of_pos _ (by decide)⟩



theorem ok_law_same {f : Addr} {fd : FuncData} (F : Fun K "_law_same" "_law_same" s_law_same f fd) (T : Txt mg) (m : mg "_law_same" = some (.ref f)) (kp : PySem.W.keepIn K (.ref f) = true) (b : Binds K fd ["_law_found", "_law_due"] []) :
    ∀ n, Fn P w K mg base "_law_same" ["_law_found", "_law_due"] n (sp_same n) := by
  intro n
  induction n with
  | zero =>
    refine ⟨f, fd, ⟨fun vs H Q E h => ?_, fun A outer s H args us vs Q E _ _ _ _ h => ?_⟩, m, kp, b⟩
    · obtain ⟨x, y, d, rfl, _⟩ := h
      rfl
    · obtain ⟨x, y, d, _, _, _, hd, _, _⟩ := h
      exact absurd hd (Nat.not_lt_zero _)
  | succ n Gsame =>
    refine fn_mk (F.ok sc_law_same (fun vs H Q E h => ?_) (fun cdv A outer s H vs Q E hr h => ?_)) m kp b
    · obtain ⟨x, y, d, rfl, _⟩ := h
      rfl
    · obtain ⟨x, y, d, rfl, hx, hy, hd, hw, k⟩ := h
      refine ⟨_, (pss_cons (ps_if (PW.pt (pw_or (pt_val (pe_callB (kIsi (K := K) rfl) rfl T.b_isinstance bb_isinstance (pa_cons (pv 1) (pa_cons (pe_bltn (v := .ty "list") rfl T.b_list bb_list rfl) pa_nil)))) (pw_or1 (pt_val (pe_callB (kIsi (K := K) rfl) rfl T.b_isinstance bb_isinstance (pa_cons (pv 1) (pa_cons (pe_bltn (v := .ty "tuple") rfl T.b_tuple bb_tuple rfl) pa_nil)))))))
      (pss_cons (ps_if (PW.pt (pw_or (pt_cmpR op_ne (pe_callB (kIsi (K := K) rfl) rfl T.b_isinstance bb_isinstance (pa_cons (pv 0) (pa_cons (pe_bltn (v := .ty "list") rfl T.b_list bb_list rfl) pa_nil))) (pe_callB (kIsi (K := K) rfl) rfl T.b_isinstance bb_isinstance (pa_cons (pv 1) (pa_cons (pe_bltn (v := .ty "list") rfl T.b_list bb_list rfl) pa_nil))) (nomark _)) (pw_or1 (pt_cmpR op_ne (pe_callB (kIsi (K := K) rfl) rfl T.b_isinstance bb_isinstance (pa_cons (pv 0) (pa_cons (pe_bltn (v := .ty "tuple") rfl T.b_tuple bb_tuple rfl) pa_nil))) (pe_callB (kIsi (K := K) rfl) rfl T.b_isinstance bb_isinstance (pa_cons (pv 1) (pa_cons (pe_bltn (v := .ty "tuple") rfl T.b_tuple bb_tuple rfl) pa_nil))) (nomark _)))))
      (pss_one (ps_ret pe_bl))
      pss_nil)
      (pss_one (ps_ret (pe_and (pe_cmpR op_eq (pe_callB (kLen (K := K) rfl) rfl T.b_len bb_len (pa_cons (pv 0) pa_nil)) (pe_callB (kLen (K := K) rfl) rfl T.b_len bb_len (pa_cons (pv 1) pa_nil)) (nomark _)) (pe_one (pe_callB (kAll (K := K) rfl rfl) rfl T.b_all bb_all (pa_cons (pe_lc (ts := ["_law_one", "_law_other"]) (M := ["_law_found", "_law_due"]) (by exact comp_of (N := ["_law_found", "_law_due"]) (sc := (defScope s_law_same)) rfl rfl (by decide +kernel)) rfl (kiZip (K := K) rfl rfl T.b_zip (pa_cons (pv 0) (pa_cons (pv 1) pa_nil))) (by exact fun _ _ _ _ => (kgTup (K := K) (n := 2) rfl rfl (pgs_cons (pg_name (i := 0) (by decide +kernel : (["_law_one", "_law_other", "_law_found", "_law_due"] : List Str).Nodup) rfl (by first | exact Or.inl rfl | exact Or.inr rfl)) (pgs_cons (pg_name (i := 1) (by decide +kernel : (["_law_one", "_law_other", "_law_found", "_law_due"] : List Str).Nodup) rfl (by first | exact Or.inl rfl | exact Or.inr rfl)) pgs_nil)))) (by exact fun _ _ _ _ => pf_nil) (by exact fun _ _ _ _ => (pe_fn Gsame hr (by first | decide | omega) rfl (pa_cons (pv 0) (pa_cons (pv 1) pa_nil))))) pa_nil)))))))
      pss_nil)
      (pss_cons (ps_if (PW.pt (pw_or (pt_cmpR op_isN (pv 0) pe_non (nomark _)) (pw_or1 (pt_cmpR op_isN (pv 1) pe_non (nomark _)))))
      (pss_one (ps_ret (pe_and (pe_cmpR op_isN (pv 0) pe_non (nomark _)) (pe_one (pe_cmpR op_isN (pv 1) pe_non (nomark _))))))
      pss_nil)
      (pss_cons (ps_if (PW.pt (pw_or (pt_cmpR op_ne (pe_callB (kIsi (K := K) rfl) rfl T.b_isinstance bb_isinstance (pa_cons (pv 0) (pa_cons (pe_bltn (v := .ty "bool") rfl T.b_bool bb_bool rfl) pa_nil))) (pe_callB (kIsi (K := K) rfl) rfl T.b_isinstance bb_isinstance (pa_cons (pv 1) (pa_cons (pe_bltn (v := .ty "bool") rfl T.b_bool bb_bool rfl) pa_nil))) (nomark _)) (pw_or1 (pt_cmpR op_ne (pe_callB (kIsi (K := K) rfl) rfl T.b_isinstance bb_isinstance (pa_cons (pv 0) (pa_cons (pe_bltn (v := .ty "int") rfl T.b_int bb_int rfl) pa_nil))) (pe_callB (kIsi (K := K) rfl) rfl T.b_isinstance bb_isinstance (pa_cons (pv 1) (pa_cons (pe_bltn (v := .ty "int") rfl T.b_int bb_int rfl) pa_nil))) (nomark _)))))
      (pss_one (ps_ret pe_bl))
      pss_nil)
      (pss_one (ps_ret (pe_and (pe_cmpR op_eq (pe_callB (kIsi (K := K) rfl) rfl T.b_isinstance bb_isinstance (pa_cons (pv 0) (pa_cons (pe_bltn (v := .ty "str") rfl T.b_str bb_str rfl) pa_nil))) (pe_callB (kIsi (K := K) rfl) rfl T.b_isinstance bb_isinstance (pa_cons (pv 1) (pa_cons (pe_bltn (v := .ty "str") rfl T.b_str bb_str rfl) pa_nil))) (nomark _)) (pe_one (pe_cmpR op_eq (pv 0) (pv 1) (nomark _))))))))), ?_⟩
      have k0 := k H (Same.refl H)
      cases d with
      | non =>
        simp only [Rep] at hx hy
        subst hx; subst hy
        refine ⟨_, rfl, _, _, _, false, rfl, .non, rfl, _, rfl, iteF ?_⟩
        refine ⟨_, rfl, _, _, _, false, rfl, .non, rfl, _, rfl, iteF ?_⟩
        refine ⟨_, rfl, rfl, _, rfl, iteT (iteT ?_)⟩
        exact ⟨_, rfl, rfl, _, rfl, iteT ⟨_, rfl, rfl, k0⟩⟩
      | bl c =>
        simp only [Rep] at hx hy
        subst hx; subst hy
        refine ⟨_, rfl, _, _, _, false, rfl, .bl _, rfl, _, rfl, iteF ?_⟩
        refine ⟨_, rfl, _, _, _, false, rfl, .bl _, rfl, _, rfl, iteF ?_⟩
        refine ⟨_, rfl, rfl, _, rfl, iteF ?_⟩
        refine ⟨_, rfl, rfl, _, rfl, iteF ?_⟩
        refine ⟨_, rfl, _, _, _, true, rfl, .bl _, rfl, _, rfl, _, _, _, true, rfl, .bl _, rfl, rfl, _, rfl, iteF ?_⟩
        refine ⟨_, rfl, _, _, _, true, rfl, .bl _, rfl, _, rfl, _, _, _, true, rfl, .bl _, rfl, rfl, _, rfl, iteF ?_⟩
        refine ⟨_, rfl, _, _, _, false, rfl, .bl _, rfl, _, rfl, _, _, _, false, rfl, .bl _, rfl, rfl, _, rfl, iteT ?_⟩
        refine ⟨_, rfl, _, rfl, rfl, ?_⟩
        rw [decide_eq_true rfl]
        exact k0
      | int i =>
        simp only [Rep] at hx hy
        subst hx; subst hy
        refine ⟨_, rfl, _, _, _, false, rfl, .int _, rfl, _, rfl, iteF ?_⟩
        refine ⟨_, rfl, _, _, _, false, rfl, .int _, rfl, _, rfl, iteF ?_⟩
        refine ⟨_, rfl, rfl, _, rfl, iteF ?_⟩
        refine ⟨_, rfl, rfl, _, rfl, iteF ?_⟩
        refine ⟨_, rfl, _, _, _, false, rfl, .int _, rfl, _, rfl, _, _, _, false, rfl, .int _, rfl, rfl, _, rfl, iteF ?_⟩
        refine ⟨_, rfl, _, _, _, true, rfl, .int _, rfl, _, rfl, _, _, _, true, rfl, .int _, rfl, rfl, _, rfl, iteF ?_⟩
        refine ⟨_, rfl, _, _, _, false, rfl, .int _, rfl, _, rfl, _, _, _, false, rfl, .int _, rfl, rfl, _, rfl, iteT ?_⟩
        refine ⟨_, rfl, _, rfl, rfl, ?_⟩
        rw [decide_eq_true rfl]
        exact k0
      | str z =>
        simp only [Rep] at hx hy
        subst hx; subst hy
        refine ⟨_, rfl, _, _, _, false, rfl, .str _, rfl, _, rfl, iteF ?_⟩
        refine ⟨_, rfl, _, _, _, false, rfl, .str _, rfl, _, rfl, iteF ?_⟩
        refine ⟨_, rfl, rfl, _, rfl, iteF ?_⟩
        refine ⟨_, rfl, rfl, _, rfl, iteF ?_⟩
        refine ⟨_, rfl, _, _, _, false, rfl, .str _, rfl, _, rfl, _, _, _, false, rfl, .str _, rfl, rfl, _, rfl, iteF ?_⟩
        refine ⟨_, rfl, _, _, _, false, rfl, .str _, rfl, _, rfl, _, _, _, false, rfl, .str _, rfl, rfl, _, rfl, iteF ?_⟩
        refine ⟨_, rfl, _, _, _, true, rfl, .str _, rfl, _, rfl, _, _, _, true, rfl, .str _, rfl, rfl, _, rfl, iteT ?_⟩
        refine ⟨_, rfl, _, rfl, rfl, ?_⟩
        rw [decide_eq_true rfl]
        exact k0
      | lst ds =>
        simp only [Rep] at hx hy
        obtain ⟨a1, vs1, rfl, _, h1, r1⟩ := hx
        obtain ⟨a2, vs2, rfl, _, h2, r2⟩ := hy
        simp only [D.dep] at hd
        simp only [D.wid] at hw
        have l1 := r1.length
        have l2 := r2.length
        refine ⟨_, rfl, _, _, _, true, rfl, .lst h2, rfl, _, rfl, iteT (iteT ?_)⟩
        refine ⟨_, rfl, _, _, _, true, rfl, .lst h1, rfl, _, rfl, _, _, _, true, rfl, .lst h2, rfl, rfl, _, rfl, iteF ?_⟩
        refine ⟨_, rfl, _, _, _, false, rfl, .lst h1, rfl, _, rfl, _, _, _, false, rfl, .lst h2, rfl, rfl, _, rfl, iteF ?_⟩
        refine ⟨_, rfl, a1, _, rfl, .inl (SqL.of h1), _, rfl, a2, _, rfl, .inl (SqL.of h2), rfl, _, rfl, ?_⟩
        refine iteD (by rw [← l1, ← l2]) ?_
        refine ⟨_, rfl, _, rfl, true, true, a1, a2, rfl, ⟨_, SqL.of h1⟩, ⟨_, SqL.of h2⟩, ?_⟩
        refine lc_zip (b1 := true) (b2 := true) (xs := vs1) (ys := vs2) (fun i zs H2 => zs = List.replicate i (.bl true) ∧ Same H H2) (by omega) (small1000 (by omega)) ⟨rfl, Same.refl H⟩ (fun i zs H2 hi ⟨e, S⟩ => ⟨SqL.of (S _ _ h1), SqL.of (S _ _ h2), by rw [e]; simp⟩) ?_ ?_
        · rintro i v1 v2 zs H2 p e1 e2 ⟨rfl, S⟩ hp
          have hi : i < vs1.length := (List.getElem?_eq_some_iff.mp e1).1
          have hi' : i < ds.length := by omega
          obtain ⟨w1, f1, q1⟩ := r1.get (i := i) (d := ds[i]) (by simp [hi'])
          obtain ⟨w2, f2, q2⟩ := r2.get (i := i) (d := ds[i]) (by simp [hi'])
          rw [e1] at f1; cases f1
          rw [e2] at f2; cases f2
          have hdi := dep_le (ds := ds) (i := i) (d := ds[i]) (by simp [hi'])
          have hwi := wid_le (ds := ds) (i := i) (d := ds[i]) (by simp [hi'])
          have S2 := S.trans (Same.upd (o := .tup [v1, v2]) hp)
          refine ⟨p, _, rfl, SqT.of upd_same, rfl, _, _, rfl, _, _, rfl, rfl, rfl, ?_⟩
          refine ⟨_, rfl, _, rfl, v1, v2, ds[i], rfl, q1.same S2, q2.same S2, by omega, by omega, fun H4 S4 => ⟨?_, S2.trans S4⟩⟩
          rw [List.replicate_succ']
        · rintro zs H2 ⟨rfl, S⟩ d hd
          refine ⟨d, List.replicate vs1.length true, rfl, SqL.of (by rw [upd_same]; simp), ?_⟩
          have e : (List.replicate vs1.length true).all id = true := by simp
          rw [e]
          exact k _ (S.trans (Same.upd hd))
      | tup ds =>
        simp only [Rep] at hx hy
        obtain ⟨a1, vs1, rfl, _, h1, r1⟩ := hx
        obtain ⟨a2, vs2, rfl, _, h2, r2⟩ := hy
        simp only [D.dep] at hd
        simp only [D.wid] at hw
        have l1 := r1.length
        have l2 := r2.length
        refine ⟨_, rfl, _, _, _, false, rfl, .tup h2, rfl, _, rfl, iteF ?_⟩
        refine ⟨_, rfl, _, _, _, true, rfl, .tup h2, rfl, _, rfl, iteT ?_⟩
        refine ⟨_, rfl, _, _, _, false, rfl, .tup h1, rfl, _, rfl, _, _, _, false, rfl, .tup h2, rfl, rfl, _, rfl, iteF ?_⟩
        refine ⟨_, rfl, _, _, _, true, rfl, .tup h1, rfl, _, rfl, _, _, _, true, rfl, .tup h2, rfl, rfl, _, rfl, iteF ?_⟩
        refine ⟨_, rfl, a1, _, rfl, .inr (SqT.of h1), _, rfl, a2, _, rfl, .inr (SqT.of h2), rfl, _, rfl, ?_⟩
        refine iteD (by rw [← l1, ← l2]) ?_
        refine ⟨_, rfl, _, rfl, false, false, a1, a2, rfl, ⟨_, SqT.of h1⟩, ⟨_, SqT.of h2⟩, ?_⟩
        refine lc_zip (b1 := false) (b2 := false) (xs := vs1) (ys := vs2) (fun i zs H2 => zs = List.replicate i (.bl true) ∧ Same H H2) (by omega) (small1000 (by omega)) ⟨rfl, Same.refl H⟩ (fun i zs H2 hi ⟨e, S⟩ => ⟨SqT.of (S _ _ h1), SqT.of (S _ _ h2), by rw [e]; simp⟩) ?_ ?_
        · rintro i v1 v2 zs H2 p e1 e2 ⟨rfl, S⟩ hp
          have hi : i < vs1.length := (List.getElem?_eq_some_iff.mp e1).1
          have hi' : i < ds.length := by omega
          obtain ⟨w1, f1, q1⟩ := r1.get (i := i) (d := ds[i]) (by simp [hi'])
          obtain ⟨w2, f2, q2⟩ := r2.get (i := i) (d := ds[i]) (by simp [hi'])
          rw [e1] at f1; cases f1
          rw [e2] at f2; cases f2
          have hdi := dep_le (ds := ds) (i := i) (d := ds[i]) (by simp [hi'])
          have hwi := wid_le (ds := ds) (i := i) (d := ds[i]) (by simp [hi'])
          have S2 := S.trans (Same.upd (o := .tup [v1, v2]) hp)
          refine ⟨p, _, rfl, SqT.of upd_same, rfl, _, _, rfl, _, _, rfl, rfl, rfl, ?_⟩
          refine ⟨_, rfl, _, rfl, v1, v2, ds[i], rfl, q1.same S2, q2.same S2, by omega, by omega, fun H4 S4 => ⟨?_, S2.trans S4⟩⟩
          rw [List.replicate_succ']
        · rintro zs H2 ⟨rfl, S⟩ d hd
          refine ⟨d, List.replicate vs1.length true, rfl, SqL.of (by rw [upd_same]; simp), ?_⟩
          have e : (List.replicate vs1.length true).all id = true := by simp
          rw [e]
          exact k _ (S.trans (Same.upd hd))

theorem ok_law_both {f : Addr} {fd : FuncData} (F : Fun K "_law_both" "_law_both" s_law_both f fd) (T : Txt mg) : FnOk P w K mg base CX0 1 f fd ["_law_a", "_law_b"] sp_bothW := by
  refine F.ok sc_law_both (fun vs H Q E h => ?_) (fun cdv A outer s H vs Q E hr h => ?_)
  · obtain ⟨a, b, rfl, _⟩ := h
    rfl
  · obtain ⟨a, b, rfl, a0, b0, hp, k⟩ := h
    refine ⟨_, (pss_cons (ps_for PassesOwn.never rfl (pi_range1 rfl T.b_range (pa_cons pe_int pa_nil)) (pg_name (i := 2) sc_law_both.nd rfl (by first | exact Or.inl rfl | exact Or.inr rfl))
      (pss_one (ps_if (pt_cmpR op_gt (pv 1) pe_int (nomark _))
      (pss_one (ps_par (i := 0) (j := 1) rfl sc_law_both.nd rfl rfl (by decide) rfl rfl (pa_cons (pv 1) (pa_cons (pe_op op_mod (pv 0) (pv 1)) pa_nil)) rfl))
      pss_nil)))
      (pss_one (ps_ret (pv 0)))), ?_⟩
    refine ⟨400, rfl, by decide, by decide, for_range (n := 400) (fun i σ H2 => H2 = H ∧ ∃ (x y : Int) (v : Option V), σ = [some (.int x), some (.int y), v] ∧ Eu a b i x y) ⟨rfl, a, b, none, rfl, Eu.start a0 b0⟩ ?_ ?_⟩
    · rintro i σ H2 hi ⟨rfl, x, y, v, rfl, e⟩
      refine ⟨_, rfl, _, _, rfl, rfl, _, rfl, ?_⟩
      refine iteB (fun h1 => ?_) (fun h1 => ?_)
      · have hy : 0 < y := of_decide_eq_true h1
        exact ⟨_, rfl, _, rfl, _, rfl, _, _, rfl, rfl, hy, _, _, rfl, rfl, y, x % y, _, rfl, e.step hy⟩
      · have hy : ¬ 0 < y := of_decide_eq_false h1
        exact ⟨rfl, x, y, _, rfl, e.stay (by have := e.y0; omega)⟩
    · rintro σ H2 ⟨rfl, x, y, v, rfl, e⟩
      have hx := e.done (by decide) hp
      subst hx
      exact ⟨_, rfl, k⟩

theorem ok_law_lowest {f : Addr} {fd : FuncData} (F : Fun K "_law_lowest" "_law_lowest" s_law_lowest f fd) (T : Txt mg) (Gboth : Fn P w K mg base "_law_both" ["_law_a", "_law_b"] 1 sp_bothW) : FnOk P w K mg base CX0 2 f fd ["_law_above", "_law_below"] sp_llowest := by
  refine F.ok sc_law_lowest (fun vs H Q E h => ?_) (fun cdv A outer s H vs Q E hr h => ?_)
  · obtain ⟨a, b, rfl, _⟩ := h
    rfl
  · obtain ⟨a, b, rfl, a0, b1, bh, hp, k⟩ := h
    have g0 := G_pos a b1
    have g1 := G_le a b1
    refine ⟨_, (pss_cons (ps_set (i := 2) sc_law_lowest.nd rfl (by first | exact Or.inl rfl | exact Or.inr rfl) (pe_fn Gboth hr (by first | decide | omega) rfl (pa_cons (pv 1) (pa_cons (pv 0) pa_nil))))
      (pss_one (ps_ret (pe_tup (pa_cons (pe_op op_fdivB (pv 0) (pv 2)) (pa_cons (pe_op op_fdivB (pv 1) (pv 2)) pa_nil)))))), ?_⟩
    refine ⟨_, rfl, _, rfl, b, a, rfl, by omega, by omega, hp, ?_⟩
    exact ⟨_, rfl, _, rfl, _, _, rfl, rfl, ⟨by omega, by omega⟩, _, rfl, _, rfl, _, _, rfl, rfl, ⟨by omega, by omega⟩, by show 2 ≤ sizeLine; decide, fun p hp => k p hp⟩

theorem ok_law_names {f : Addr} {fd : FuncData} (F : Fun K "_law_names" "_law_names" s_law_names f fd) (T : Txt mg) (Gtake : Fn P w K mg base "_law_take" ["_law_box_here", "_law_many"] 1 sp_take) : FnOk P w K mg base CX0 2 f fd ["_law_box_here", "_law_many"] sp_names := by
  refine F.ok sc_law_names (fun vs H Q E h => ?_) (fun cdv A outer s H vs Q E hr h => ?_)
  · obtain ⟨β, n, rfl, _⟩ := h
    rfl
  · obtain ⟨β, n, rfl, B, hn, k⟩ := h
    refine ⟨_, (pss_cons (ps_set (i := 2) sc_law_names.nd rfl (by first | exact Or.inl rfl | exact Or.inr rfl) pe_str)
      (pss_cons (ps_set (i := 3) sc_law_names.nd rfl (by first | exact Or.inl rfl | exact Or.inr rfl) (pe_op op_add pe_int (pe_fn Gtake hr (by first | decide | omega) rfl (pa_cons (pv 0) (pa_cons pe_int pa_nil)))))
      (pss_cons (ps_set (i := 4) sc_law_names.nd rfl (by first | exact Or.inl rfl | exact Or.inr rfl) (pe_fn Gtake hr (by first | decide | omega) rfl (pa_cons (pv 0) (pa_cons (pv 3) pa_nil))))
      (pss_cons (ps_set (i := 5) sc_law_names.nd rfl (by first | exact Or.inl rfl | exact Or.inr rfl) (pe_cmpR op_eq (pe_fn Gtake hr (by first | decide | omega) rfl (pa_cons (pv 0) (pa_cons pe_int pa_nil))) pe_int (nomark _)))
      (pss_cons (ps_setLC (i := 6) sc_law_names.nd rfl (by first | exact Or.inl rfl | exact Or.inr rfl) (ts := ["_law_k"]) (M := ["_law_box_here", "_law_many", "_law_letters", "_law_size", "_law_place", "_law_alike", "_law_first", "_law_rows", "._law_k", "_law_row"]) (by exact comp_of (N := ["_law_box_here", "_law_many", "_law_letters", "_law_size", "_law_place", "_law_alike", "_law_first", "_law_rows", "_law_k", "_law_row"]) (sc := (defScope s_law_names)) rfl rfl (by decide +kernel)) rfl (pi_range1 rfl T.b_range (pa_cons (pv 3) pa_nil)) (by exact fun _ _ _ _ => (pg_name (i := 0) (by decide +kernel : (["_law_k", "_law_box_here", "_law_many", "_law_letters", "_law_size", "_law_place", "_law_alike", "_law_first", "_law_rows", "._law_k", "_law_row"] : List Str).Nodup) rfl (by first | exact Or.inl rfl | exact Or.inr rfl))) (by exact fun _ _ _ _ => pf_nil) (by exact fun _ _ _ _ => (pe_fn Gtake hr (by first | decide | omega) rfl (pa_cons (pv 1) (pa_cons pe_int pa_nil)))))
      (pss_cons (ps_set (i := 7) sc_law_names.nd rfl (by first | exact Or.inl rfl | exact Or.inr rfl) (pe_lst pa_nil))
      (pss_cons (ps_for PassesOwn.never rfl (pi_range1 rfl T.b_range (pa_cons (pv 1) pa_nil)) (pg_name (i := 8) sc_law_names.nd rfl (by first | exact Or.inl rfl | exact Or.inr rfl))
      (pss_cons (ps_set (i := 9) sc_law_names.nd rfl (by first | exact Or.inl rfl | exact Or.inr rfl) (pe_callTy (kListOf (K := K) rfl) rfl T.b_list bb_list (pa_cons (pv 6) pa_nil)))
      (pss_cut (ps_if (pt_not (ktTruth (K := K) rfl (pv 5) (fun _ => rfl)))
      (pss_one (ps_setLC (i := 9) sc_law_names.nd rfl (by first | exact Or.inl rfl | exact Or.inr rfl) (ts := ["_law_step"]) (M := ["_law_box_here", "_law_many", "_law_letters", "_law_size", "_law_place", "_law_alike", "_law_first", "_law_rows", "_law_k", "_law_row"]) (by exact comp_of (N := ["_law_box_here", "_law_many", "_law_letters", "_law_size", "_law_place", "_law_alike", "_law_first", "_law_rows", "_law_k", "_law_row"]) (sc := (defScope s_law_names)) rfl rfl (by decide +kernel)) rfl (pi_range1 rfl T.b_range (pa_cons (pe_op op_add (pe_op op_add (pv 4) pe_int) (pe_fn Gtake hr (by first | decide | omega) rfl (pa_cons (pv 0) (pa_cons (pe_op op_sub (pv 3) (pv 4)) pa_nil)))) pa_nil)) (by exact fun _ _ _ _ => (pg_name (i := 0) (by decide +kernel : (["_law_step", "_law_box_here", "_law_many", "_law_letters", "_law_size", "_law_place", "_law_alike", "_law_first", "_law_rows", "_law_k", "_law_row"] : List Str).Nodup) rfl (by first | exact Or.inl rfl | exact Or.inr rfl))) (by exact fun _ _ _ _ => pf_nil) (by exact fun _ _ _ _ => (pe_fn Gtake hr (by first | decide | omega) rfl (pa_cons (pv 1) (pa_cons pe_int pa_nil))))))
      pss_nil)
      (pss_cons (ps_asg (pe_op op_mod (pe_op op_add (pe_ix (kIxL (K := K) rfl) (pv 6) (pv 4) (fun _ _ => rfl)) (pe_op op_mul pe_int (pv 8))) pe_int) (pg_sub (pv 9) (pv 4) set_list))
      (pss_one (ps_expr (kbm (K := K) rfl <| pe_bm PySem.F.plainAttrs_list PySem.F.slot_list_append PySem.F.type_list_append mt_append (pv 7) (pa_cons (kbm (K := K) rfl <| pe_bm PySem.F.plainAttrs_str PySem.F.slot_str_join PySem.F.type_str_join (kJoin (K := K) rfl) pe_str (pa_cons (pe_lc (ts := ["_law_one"]) (M := ["_law_box_here", "_law_many", "_law_letters", "_law_size", "_law_place", "_law_alike", "_law_first", "_law_rows", "_law_k", "_law_row"]) (by exact comp_of (N := ["_law_box_here", "_law_many", "_law_letters", "_law_size", "_law_place", "_law_alike", "_law_first", "_law_rows", "_law_k", "_law_row"]) (sc := (defScope s_law_names)) rfl rfl (by decide +kernel)) rfl (kiList (K := K) rfl (pv 9)) (by exact fun _ _ _ _ => (pg_name (i := 0) (by decide +kernel : (["_law_one", "_law_box_here", "_law_many", "_law_letters", "_law_size", "_law_place", "_law_alike", "_law_first", "_law_rows", "_law_k", "_law_row"] : List Str).Nodup) rfl (by first | exact Or.inl rfl | exact Or.inr rfl))) (by exact fun _ _ _ _ => pf_nil) (by exact fun _ _ _ _ => (pe_ix ix_str (pv 3) (pv 0) (fun _ _ => rfl)))) pa_nil)) pa_nil))))))))
      (pss_one (ps_ret (pv 7)))))))))), ?_⟩
    refine ⟨_, rfl, β, 8, rfl, B, by decide, by decide, fun s0 H1 s1 s2 k1 B1 => ⟨_, _, rfl, rfl, ?_⟩⟩
    obtain ⟨sz, es⟩ := Int.eq_ofNat_of_zero_le (show (0 : Int) ≤ 1 + s0 by omega)
    have hs1 : 1 ≤ sz := by omega
    have hs2 : sz ≤ 8 := by omega
    rw [show (fun i j => V.int (i + j)) 1 s0 = V.int (sz : Int) from congrArg V.int es]
    refine ⟨_, rfl, _, rfl, β, sz, rfl, B1, by omega, by omega, fun pl0 H2 p1 p2 k2 B2 => ?_⟩
    obtain ⟨pl, rfl⟩ := Int.eq_ofNat_of_zero_le p1
    have hpl : pl < sz := by omega
    refine ⟨_, rfl, β, 2, rfl, B2, by decide, by decide, fun al H3 a1 a2 k3 B3 => ⟨rfl, ?_⟩⟩
    -- first
    refine ⟨_, rfl, sz, rfl, by omega, by omega, ?_⟩
    rw [Int.toNat_natCast]
    refine lc_range0 (k := sz) (fun i ys H4 => ∃ xs : List Int, ys = xs.map V.int ∧ xs.length = i ∧ (∀ x ∈ xs, 0 ≤ x ∧ x < 26) ∧ Keep β H H4 ∧ Box β H4) (small1000 (by omega)) ⟨[], rfl, rfl, by simp, (k1.trans k2).trans k3, B3⟩ (fun i ys H4 hi ⟨xs, e, l, _⟩ => by rw [e, List.length_map]; omega) ?_ ?_
    · rintro i ys H4 hi ⟨xs, rfl, hl, hx, k4, B4⟩
      refine ⟨rfl, _, rfl, β, 26, rfl, B4, by decide, by decide, fun y H5 y1 y2 k5 B5 => ⟨xs ++ [y], by simp, by simp [hl], ?_, k4.trans k5, B5⟩⟩
      intro x hx'
      rcases List.mem_append.mp hx' with z | z
      · exact hx x z
      · have : x = y := by simpa using z
        omega
    rintro ys H4 ⟨fst, rfl, hfl, hfx, k4, B4⟩ d hd
    have hd0 : H d = none := k4.free B4 hd
    have k5 := k4.late (o := .lst (fst.map V.int)) hd0
    have B5 := B4.new (o := .lst (fst.map V.int)) hd
    have D5 : Lst β (upd H4 d (.lst (fst.map V.int))) d (fst.map V.int) := Lst.new B4 hd
    generalize upd H4 d (.lst (fst.map V.int)) = H5 at *
    refine ⟨by show 0 ≤ sizeLine; decide, fun p hp => ?_⟩
    have hp0 : H p = none := k5.free B5 hp
    have hdp : d ≠ p := by rintro rfl; rw [D5.at_] at hp; cases hp
    have P6 : Lst β (upd H5 p (.lst ([] : List V))) p [] := Lst.new B5 hp
    have D6 := D5.same (Same.upd (o := .lst ([] : List V)) hp)
    have k6 := k5.late (o := .lst ([] : List V)) hp0
    have B6 := B5.new (o := .lst ([] : List V)) hp
    refine ⟨_, rfl, n, rfl, by omega, by omega, for_range0 (n := n) (fun i σ H7 => ∃ (u v : Option V) (zs : List Str), σ = [some (.ref β.b), some (.int n), some (.str "abcdefghijklmnopqrstuvwxyz"), some (.int sz), some (.int pl), some (.bl (decide (V.int al = V.int 0))), some (.ref d), some (.ref p), u, v] ∧ Keep β H H7 ∧ Box β H7 ∧ Lst β H7 d (fst.map V.int) ∧ Lst β H7 p (zs.map V.str) ∧ zs.length = i) ⟨_, _, [], rfl, k6, B6, D6, P6, rfl⟩ ?_ ?_⟩
    · rintro i σ H7 hi ⟨u, v, zs, rfl, k7, B7, D7, P7, hzl⟩
      refine ⟨_, rfl, d, _, rfl, .inl (SqL.of D7.at_), fun r1 hr1 => ?_⟩
      have S8 := Same.upd (o := .lst (fst.map V.int)) hr1
      refine ⟨fun σ' H9 => ∃ (r : Addr) (xs : List Int), σ' = [some (.ref β.b), some (.int n), some (.str "abcdefghijklmnopqrstuvwxyz"), some (.int sz), some (.int pl), some (.bl (decide (V.int al = V.int 0))), some (.ref d), some (.ref p), some (.int i), some (.ref r)] ∧ H7 r = none ∧ Keep β H7 H9 ∧ Box β H9 ∧ Lst β H9 r (xs.map V.int) ∧ pl < xs.length ∧ xs.length ≤ 20 ∧ ∀ x ∈ xs, 0 ≤ x ∧ x < 26, ?_, ?_⟩
      · have stay : ∃ (r : Addr) (xs : List Int), [some (.ref β.b), some (.int n), some (.str "abcdefghijklmnopqrstuvwxyz"), some (.int sz), some (.int pl), some (.bl (decide (V.int al = V.int 0))), some (.ref d), some (.ref p), some (.int (i : Int)), some (.ref r1)] = [some (.ref β.b), some (.int n), some (.str "abcdefghijklmnopqrstuvwxyz"), some (.int sz), some (.int pl), some (.bl (decide (V.int al = V.int 0))), some (.ref d), some (.ref p), some (V.int i), some (V.ref r)] ∧ H7 r = none ∧ Keep β H7 (upd H7 r1 (.lst (fst.map V.int))) ∧ Box β (upd H7 r1 (.lst (fst.map V.int))) ∧ Lst β (upd H7 r1 (.lst (fst.map V.int))) r (xs.map V.int) ∧ pl < xs.length ∧ xs.length ≤ 20 ∧ ∀ x ∈ xs, 0 ≤ x ∧ x < 26 :=
          ⟨r1, fst, rfl, hr1, S8.keep, B7.new hr1, Lst.new B7 hr1, by omega, by omega, hfx⟩
        refine ⟨_, rfl, _, rfl, ?_⟩
        refine iteB (fun _ => ?_) (fun _ => stay)
        have B8 := B7.new (o := .lst (fst.map V.int)) hr1
        refine ⟨_, rfl, _, _, rfl, rfl, _, rfl, _, rfl, _, rfl, _, _, rfl, rfl, β, (sz : Int) - pl, rfl, B8, by omega, by omega, fun t0 H9 t1 t2 k9 B9 => ?_⟩
        obtain ⟨t, rfl⟩ := Int.eq_ofNat_of_zero_le t1
        refine ⟨_, _, rfl, rfl, ((pl + 1 + t : Nat) : Int), rfl, by omega, by omega, ?_⟩
        rw [Int.toNat_natCast]
        refine lc_range0 (k := pl + 1 + t) (fun i ys H4 => ∃ xs : List Int, ys = xs.map V.int ∧ xs.length = i ∧ (∀ x ∈ xs, 0 ≤ x ∧ x < 26) ∧ Keep β H7 H4 ∧ Box β H4) (small1000 (by omega)) ⟨[], rfl, rfl, by simp, S8.keep.trans k9, B9⟩ (fun i ys H4 hi ⟨xs, e, l, _⟩ => by rw [e, List.length_map]; omega) ?_ ?_
        · rintro i ys H4 hi ⟨xs, rfl, hl, hx, k4, B4⟩
          refine ⟨rfl, _, rfl, β, 26, rfl, B4, by decide, by decide, fun y H5 y1 y2 k5 B5 => ⟨xs ++ [y], by simp, by simp [hl], ?_, k4.trans k5, B5⟩⟩
          intro x hx'
          rcases List.mem_append.mp hx' with z | z
          · exact hx x z
          · have : x = y := by simpa using z
            omega
        rintro ys H4 ⟨xs, rfl, hl, hx, k4, B4⟩ r hr
        exact ⟨r, xs, rfl, k4.free B4 hr, k4.late (k4.free B4 hr), B4.new hr, Lst.new B4 hr, by omega, by omega, hx⟩
      · rintro σ' H9 ⟨r, xs, rfl, hr0, k9, B9, R9, hp1, hp2, hx⟩
        have D9 := D7.keep k9
        have P9 := P7.keep k9
        have hrp : r ≠ p := by rintro rfl; rw [P7.at_] at hr0; cases hr0
        have hrd : r ≠ d := by rintro rfl; rw [D7.at_] at hr0; cases hr0
        have hpf : pl < fst.length := by omega
        refine ⟨_, rfl, _, rfl, d, _, _, _, rfl, rfl, SqL.of D9.at_, atI_int (getD_get hpf), _, rfl, _, _, rfl, rfl, .inl ⟨by omega, by omega⟩, _, _, rfl, rfl, fst.getD pl 0 + 11 * (i : Int), 26, rfl, rfl, by show (0 : Int) < 26; decide, ?_⟩
        have v0 := Int.emod_nonneg (fst.getD pl 0 + 11 * (i : Int)) (show (26 : Int) ≠ 0 by decide)
        have v1 := Int.emod_lt_of_pos (fst.getD pl 0 + 11 * (i : Int)) (show (0 : Int) < 26 by decide)
        rw [show (fun i j => V.int (i % j)) (fst.getD pl 0 + 11 * (i : Int)) 26 = V.int ((fst.getD pl 0 + 11 * (i : Int)) % 26) from rfl]
        generalize (fst.getD pl 0 + 11 * (i : Int)) % 26 = vv at *
        refine ⟨_, rfl, _, rfl, r, _, _, pl, rfl, rfl, R9.at_, by rw [List.length_map]; exact ixN_nat hp1, ?_⟩
        have P10 : Lst β (upd H9 r (.lst ((xs.map V.int).set pl (.int vv)))) p (zs.map V.str) := ⟨P9.off, by rw [upd_ne (Ne.symm hrp)]; exact P9.at_⟩
        have D10 : Lst β (upd H9 r (.lst ((xs.map V.int).set pl (.int vv)))) d (fst.map V.int) := ⟨D9.off, by rw [upd_ne (Ne.symm hrd)]; exact D9.at_⟩
        have B10 := B9.write (o := .lst ((xs.map V.int).set pl (.int vv))) R9.off
        have R10 : Lst β (upd H9 r (.lst ((xs.map V.int).set pl (.int vv)))) r ((xs.set pl vv).map V.int) := ⟨R9.off, by rw [upd_same, List.map_set]⟩
        have k10 : Keep β H (upd H9 r (.lst ((xs.map V.int).set pl (.int vv)))) := (k7.trans k9).late (k7.free B7 hr0)
        have hx2 : ∀ x ∈ xs.set pl vv, 0 ≤ x ∧ x < 26 := fun x hx' => by
          rcases List.mem_or_eq_of_mem_set hx' with z | z
          · exact hx x z
          · omega
        have hl2 : (xs.set pl vv).length ≤ 20 := by rw [List.length_set]; exact hp2
        generalize upd H9 r (.lst ((xs.map V.int).set pl (.int vv))) = H10 at *
        generalize xs.set pl vv = ys at *
        refine ⟨_, rfl, .inl ⟨rfl, _, SqL.of P10.at_⟩, rfl, _, rfl, r, rfl, ⟨_, SqL.of R10.at_⟩, ?_⟩
        refine lc_list (xs := ys.map V.int) (fun j qs H11 => ∃ ws : List Str, qs = ws.map V.str ∧ ws.length = j ∧ (ws.map (·.length)).sum = j ∧ Same H10 H11) (small1000 (by rw [List.length_map]; omega)) ⟨[], rfl, rfl, rfl, Same.refl _⟩ (fun j qs H11 hj ⟨ws, e, l, _, S⟩ => ⟨SqL.of (S _ _ R10.at_), by rw [e, List.length_map]; omega⟩) ?_ ?_
        · rintro j x qs H11 hxj ⟨ws, rfl, hwl, hws, S11⟩
          have hj : j < ys.length := by have := (List.getElem?_eq_some_iff.mp hxj).1; rw [List.length_map] at this; exact this
          have hx' : (ys.map V.int)[j]? = some (.int ys[j]) := by simp [hj]
          rw [hxj] at hx'; cases hx'
          have hb := hx2 _ (List.getElem_mem hj)
          obtain ⟨y, ey⟩ := Int.eq_ofNat_of_zero_le hb.1
          rw [ey]
          have hy : y < 26 := by omega
          have l26 : (Str.ofString "abcdefghijklmnopqrstuvwxyz").cps.toList.length = 26 := by decide +kernel
          refine ⟨rfl, ?_⟩
          refine ⟨_, rfl, _, rfl, _, (y : Int), (Str.ofString "abcdefghijklmnopqrstuvwxyz").cps.toList[y]'(by omega), rfl, rfl, ?_, atI_nat (List.getElem?_eq_getElem (by omega)), ?_⟩
          · show (Str.ofString "abcdefghijklmnopqrstuvwxyz").length ≤ sizeLine
            have : (Str.ofString "abcdefghijklmnopqrstuvwxyz").length = 26 := by decide +kernel
            rw [this, sizeLine_eq]; decide
          · refine ⟨ws ++ [⟨#[(Str.ofString "abcdefghijklmnopqrstuvwxyz").cps.toList[y]'(by omega)]⟩], ?_, by simp [hwl], ?_, S11⟩
            · rw [List.map_append]; rfl
            · rw [List.map_append, List.sum_append, hws]; rfl
        rintro qs H11 ⟨ws, rfl, hwl, hws, S11⟩ e he
        rw [List.length_map] at hwl hws
        have S12 := S11.trans (Same.upd (o := .lst (ws.map V.str)) he)
        refine ⟨_, e, ws, rfl, rfl, SqL.of upd_same, ?_, ?_⟩
        · rw [hws]
          show ys.length + ws.length * 0 ≤ _
          omega
        have P12 := P10.same S12
        have hpz : (zs.map V.str).length < sizeLine := small1000 (by rw [List.length_map]; omega)
        refine ⟨p, _, _, rfl, rfl, P12.at_, hpz, ?_⟩
        have k12 : Keep β H (upd H11 e (.lst (ws.map V.str))) := k10.trans S12.keep
        have B12 := B10.same S12
        have D12 := D10.same S12
        generalize upd H11 e (.lst (ws.map V.str)) = H12 at *
        exact ⟨_, _, zs ++ [PySem.Txt.join "" ws], rfl, k12.late hp0, B12.write P12.off, ⟨D12.off, by rw [upd_ne hdp]; exact D12.at_⟩, ⟨P12.off, by rw [upd_same, List.map_append]; rfl⟩, by simp [hzl]⟩
    · rintro σ H7 ⟨u, v, zs, rfl, k7, B7, D7, P7, hzl⟩
      exact ⟨_, rfl, k p zs H7 hp0 hzl k7 B7 P7.at_⟩

theorem ok_law_fold {f : Addr} {fd : FuncData} (F : Fun K "_law_fold" "_law_fold" s_law_fold f fd) (T : Txt mg) (Gllowest : Fn P w K mg base "_law_lowest" ["_law_above", "_law_below"] 2 sp_llowest) : FnOk P w K mg base CX0 3 f fd ["_law_shares"] sp_fold := by
  refine F.ok sc_law_fold (fun vs H Q E h => ?_) (fun cdv A outer s H vs Q E hr h => ?_)
  · obtain ⟨l, qs, rfl, _⟩ := h
    rfl
  · obtain ⟨l, qs, rfl, ⟨ss, hl, hs⟩, hq, hn, k⟩ := h
    refine ⟨_, (pss_cons (ps_set (i := 1) sc_law_fold.nd rfl (by first | exact Or.inl rfl | exact Or.inr rfl) (pe_tup (pa_cons pe_int (pa_cons pe_int pa_nil))))
      (pss_cons (ps_for PassesOwn.never rfl (kiList (K := K) rfl (pv 0)) (pg_name (i := 2) sc_law_fold.nd rfl (by first | exact Or.inl rfl | exact Or.inr rfl))
      (pss_one (ps_set (i := 1) sc_law_fold.nd rfl (by first | exact Or.inl rfl | exact Or.inr rfl) (pe_fn Gllowest hr (by first | decide | omega) rfl (pa_cons (pe_op op_add (pe_op op_mulL (pe_ix (kIxT (K := K) rfl) (pv 1) pe_int (fun _ _ => rfl)) (pe_ix (kIxT (K := K) rfl) (pv 2) pe_int (fun _ _ => rfl))) (pe_op op_mulL (pe_ix (kIxT (K := K) rfl) (pv 2) pe_int (fun _ _ => rfl)) (pe_ix (kIxT (K := K) rfl) (pv 1) pe_int (fun _ _ => rfl)))) (pa_cons (pe_op op_mulL (pe_ix (kIxT (K := K) rfl) (pv 1) pe_int (fun _ _ => rfl)) (pe_ix (kIxT (K := K) rfl) (pv 2) pe_int (fun _ _ => rfl))) pa_nil))))))
      (pss_one (ps_ret (pv 1))))), ?_⟩
    have hsl := hs.len
    refine ⟨by show 2 ≤ sizeLine; decide, fun z hz => ?_⟩
    have S0 := Same.upd (o := .tup [.int 0, .int 1]) hz
    refine ⟨_, rfl, l, rfl, ⟨_, SqL.of (S0 _ _ hl)⟩, for_list (xs := ss.map V.ref) (fun i σ H2 => ∃ (c : Addr) (v : Option V), σ = [some (.ref l), some (.ref c), v] ∧ Same H H2 ∧ H2 c = some (.tup [.int (foldS (qs.take i)).1, .int (foldS (qs.take i)).2])) ⟨z, none, rfl, S0, upd_same⟩ (fun i σ H2 _ ⟨_, _, _, S, _⟩ => SqL.of (S _ _ hl)) ?_ ?_⟩
    · rintro i x σ H2 hx ⟨c, v, rfl, S2, hc⟩
      have hi : i < ss.length := by have := (List.getElem?_eq_some_iff.mp hx).1; rw [List.length_map] at this; exact this
      have hx' : (ss.map V.ref)[i]? = some (.ref ss[i]) := by simp [hi]
      rw [hx] at hx'; cases hx'
      have hiq : i < qs.length := by omega
      have hsi := S2 _ _ (hs.at_ i ss[i] qs[i] (by simp [hi]) (by simp [hiq]))
      have fb := (FB.fold hq i (by omega)).fc (by omega)
      have qb := hq _ (List.getElem_mem hiq)
      have e1 : foldS (qs.take (i + 1)) = add2 (foldS (qs.take i)) qs[i] := by
        rw [List.take_add_one, List.getElem?_eq_getElem hiq]
        exact foldS_snoc _ _
      rw [e1]
      generalize foldS (qs.take i) = p at *
      generalize qs[i] = q at *
      have p1 := fb.a0; have p2 := fb.b1; have p3 := fb.ah; have p4 := fb.bh
      have q1 := qb.a0; have q2 := qb.b1; have q3 := qb.ah; have q4 := qb.bh
      have m1 := mul_lt p1 (show 0 ≤ q.2 by omega) p3 q4
      have m2 := mul_lt q1 (show 0 ≤ p.2 by omega) q3 p4
      have m3 := mul_lt (show 0 ≤ p.2 by omega) (show 0 ≤ q.2 by omega) p4 q4
      have m4 := mul_pos1 p2 q2
      refine ⟨_, rfl, c, _, 0, _, rfl, rfl, SqT.of hc, rfl, _, rfl, ss[i], _, 1, _, rfl, rfl, SqT.of hsi, rfl, _, _, rfl, rfl, ⟨⟨by omega, by omega⟩, by omega, by omega⟩, ?_⟩
      refine ⟨_, rfl, ss[i], _, 0, _, rfl, rfl, SqT.of hsi, rfl, _, rfl, c, _, 1, _, rfl, rfl, SqT.of hc, rfl, _, _, rfl, rfl, ⟨⟨by omega, by omega⟩, by omega, by omega⟩, _, _, rfl, rfl, ?_⟩
      refine ⟨_, rfl, c, _, 1, _, rfl, rfl, SqT.of hc, rfl, _, rfl, ss[i], _, 1, _, rfl, rfl, SqT.of hsi, rfl, _, _, rfl, rfl, ⟨⟨by omega, by omega⟩, by omega, by omega⟩, ?_⟩
      refine ⟨p.1 * q.2 + q.1 * p.2, p.2 * q.2, rfl, by omega, m4, by omega, natmul_lt (x := 1000000000000000000000000000000) (y := 100000000000000000000000000000000000000) (by omega) (by omega) (by decide +kernel), fun d hd => ?_⟩
      exact ⟨d, _, rfl, S2.trans (Same.upd hd), upd_same⟩
    · rintro σ H2 ⟨c, v, rfl, S2, hc⟩
      rw [List.length_map, hsl, List.take_length] at hc
      exact ⟨_, rfl, k c H2 S2 hc⟩

theorem ok_law {f : Addr} {fd : FuncData} (F : Fun K "law" "law" s_law f fd) (T : Txt mg) (Gwhole : Fn P w K mg base "whole" ["leaves"] 5 sp_lwhole) (Gmean : Fn P w K mg base "mean" ["leaves", "at"] 5 sp_mean) (Glives : Fn P w K mg base "lives" ["leaves", "name"] 5 sp_lives) (Gbox : Fn P w K mg base "_law_box" ["_law_script"] 1 (sp_box K))
    (Gtake : Fn P w K mg base "_law_take" ["_law_box_here", "_law_many"] 1 sp_take) (Gs : ∀ n, Fn P w K mg base "_law_same" ["_law_found", "_law_due"] n (sp_same n)) (Gllowest : Fn P w K mg base "_law_lowest" ["_law_above", "_law_below"] 2 sp_llowest)
    (Gnames : Fn P w K mg base "_law_names" ["_law_box_here", "_law_many"] 2 sp_names) (Gfold : Fn P w K mg base "_law_fold" ["_law_shares"] 3 sp_fold) :
    FnOk P w K mg base CX0 6 f fd ["_law_script"] (sp_law K) := by
  have Gsame := Gs 3
  refine F.ok sc_law (fun vs H Q E h => ?_) (fun cdv A outer s H vs Q E hr h => ?_)
  · obtain ⟨a, ns, rfl, _⟩ := h
    rfl
  · obtain ⟨a, ns, rfl, hS, hlen, k⟩ := h
    refine ⟨_, (pss_cons (ps_set (i := 1) sc_law.nd rfl (by first | exact Or.inl rfl | exact Or.inr rfl) (pe_fn Gbox hr (by first | decide | omega) rfl (pa_cons (pv 0) pa_nil)))
      (pss_cons (ps_set (i := 2) sc_law.nd rfl (by first | exact Or.inl rfl | exact Or.inr rfl) (pe_fn Gnames hr (by first | decide | omega) rfl (pa_cons (pv 1) (pa_cons pe_int pa_nil))))
      (pss_cons (ps_set (i := 3) sc_law.nd rfl (by first | exact Or.inl rfl | exact Or.inr rfl) (pe_op op_add pe_int (pe_fn Gtake hr (by first | decide | omega) rfl (pa_cons (pv 1) (pa_cons pe_int pa_nil)))))
      (pss_cons (ps_set (i := 4) sc_law.nd rfl (by first | exact Or.inl rfl | exact Or.inr rfl) (pe_lst pa_nil))
      (pss_cons (ps_for PassesOwn.never rfl (pi_range1 rfl T.b_range (pa_cons (pe_fn Gtake hr (by first | decide | omega) rfl (pa_cons (pv 1) (pa_cons pe_int pa_nil))) pa_nil)) (pg_name (i := 5) sc_law.nd rfl (by first | exact Or.inl rfl | exact Or.inr rfl))
      (pss_cons (ps_set (i := 6) sc_law.nd rfl (by first | exact Or.inl rfl | exact Or.inr rfl) (pe_callTy (kTupOf (K := K) rfl) rfl T.b_tuple bb_tuple (pa_cons (pe_lc (ts := ["_law_step"]) (M := ["_law_script", "_law_box_here", "_law_names_here", "_law_size", "_law_leaves", "_law_k", "_law_row", "_law_share", "_law_purses", "_law_handed", "_law_at", "_law_due", "_law_name"]) (by exact comp_of (N := ["_law_script", "_law_box_here", "_law_names_here", "_law_size", "_law_leaves", "_law_k", "_law_row", "_law_share", "_law_purses", "_law_handed", "_law_at", "_law_due", "_law_name"]) (sc := (defScope s_law)) rfl rfl (by decide +kernel)) rfl (pi_range1 rfl T.b_range (pa_cons (pe_fn Gtake hr (by first | decide | omega) rfl (pa_cons (pv 1) (pa_cons pe_int pa_nil))) pa_nil)) (by exact fun _ _ _ _ => (pg_name (i := 0) (by decide +kernel : (["_law_step", "_law_script", "_law_box_here", "_law_names_here", "_law_size", "_law_leaves", "_law_k", "_law_row", "_law_share", "_law_purses", "_law_handed", "_law_at", "_law_due", "_law_name"] : List Str).Nodup) rfl (by first | exact Or.inl rfl | exact Or.inr rfl))) (by exact fun _ _ _ _ => pf_nil) (by exact fun _ _ _ _ => (pe_ix (kIxL (K := K) rfl) (pe_op op_cat (pe_slice (kSlL (K := K) rfl) (pv 3) po_none (po_some pe_int)) (pe_lst (pa_cons pe_str pa_nil))) (pe_fn Gtake hr (by first | decide | omega) rfl (pa_cons (pv 2) (pa_cons pe_int pa_nil))) (fun _ _ => rfl)))) pa_nil)))
      (pss_cons (ps_set (i := 7) sc_law.nd rfl (by first | exact Or.inl rfl | exact Or.inr rfl) (pe_fn Gllowest hr (by first | decide | omega) rfl (pa_cons (pe_fn Gtake hr (by first | decide | omega) rfl (pa_cons (pv 1) (pa_cons pe_int pa_nil))) (pa_cons (pe_op op_add pe_int (pe_fn Gtake hr (by first | decide | omega) rfl (pa_cons (pv 1) (pa_cons (pe_ix (kIxL (K := K) rfl) (pe_lst (pa_cons pe_int (pa_cons pe_int pa_nil))) (pe_fn Gtake hr (by first | decide | omega) rfl (pa_cons (pv 1) (pa_cons pe_int pa_nil))) (fun _ _ => rfl)) pa_nil)))) pa_nil))))
      (pss_cons (ps_setLC (i := 8) sc_law.nd rfl (by first | exact Or.inl rfl | exact Or.inr rfl) (ts := ["_law_at"]) (M := ["_law_script", "_law_box_here", "_law_names_here", "_law_size", "_law_leaves", "_law_k", "_law_row", "_law_share", "_law_purses", "_law_handed", "._law_at", "_law_due", "_law_name"]) (by exact comp_of (N := ["_law_script", "_law_box_here", "_law_names_here", "_law_size", "_law_leaves", "_law_k", "_law_row", "_law_share", "_law_purses", "_law_handed", "_law_at", "_law_due", "_law_name"]) (sc := (defScope s_law)) rfl rfl (by decide +kernel)) rfl (pi_range1 rfl T.b_range (pa_cons (pv 3) pa_nil)) (by exact fun _ _ _ _ => (pg_name (i := 0) (by decide +kernel : (["_law_at", "_law_script", "_law_box_here", "_law_names_here", "_law_size", "_law_leaves", "_law_k", "_law_row", "_law_share", "_law_purses", "_law_handed", "._law_at", "_law_due", "_law_name"] : List Str).Nodup) rfl (by first | exact Or.inl rfl | exact Or.inr rfl))) (by exact fun _ _ _ _ => pf_nil) (by exact fun _ _ _ _ => (pe_fn Gtake hr (by first | decide | omega) rfl (pa_cons (pv 2) (pa_cons (pe_ix (kIxL (K := K) rfl) (pe_lst (pa_cons pe_int (pa_cons (pe_op op_pow pe_int pe_int) pa_nil))) (pe_fn Gtake hr (by first | decide | omega) rfl (pa_cons (pv 2) (pa_cons pe_int pa_nil))) (fun _ _ => rfl)) pa_nil)))))
      (pss_one (ps_expr (kbm (K := K) rfl <| pe_bm PySem.F.plainAttrs_list PySem.F.slot_list_append PySem.F.type_list_append mt_append (pv 4) (pa_cons (pe_tup (pa_cons (pv 6) (pa_cons (pv 7) (pa_cons (pv 8) pa_nil)))) pa_nil))))))))
      (pss_cons (ps_setLC (i := 9) sc_law.nd rfl (by first | exact Or.inl rfl | exact Or.inr rfl) (ts := ["_law_row", "_law_share", "_law_purses"]) (M := ["_law_script", "_law_box_here", "_law_names_here", "_law_size", "_law_leaves", "_law_k", "._law_row", "._law_share", "._law_purses", "_law_handed", "_law_at", "_law_due", "_law_name"]) (by exact comp_of (N := ["_law_script", "_law_box_here", "_law_names_here", "_law_size", "_law_leaves", "_law_k", "_law_row", "_law_share", "_law_purses", "_law_handed", "_law_at", "_law_due", "_law_name"]) (sc := (defScope s_law)) rfl rfl (by decide +kernel)) rfl (kiList (K := K) rfl (pv 4)) (by exact fun _ _ _ _ => (kgTup (K := K) (n := 3) rfl rfl (pgs_cons (pg_name (i := 0) (by decide +kernel : (["_law_row", "_law_share", "_law_purses", "_law_script", "_law_box_here", "_law_names_here", "_law_size", "_law_leaves", "_law_k", "._law_row", "._law_share", "._law_purses", "_law_handed", "_law_at", "_law_due", "_law_name"] : List Str).Nodup) rfl (by first | exact Or.inl rfl | exact Or.inr rfl)) (pgs_cons (pg_name (i := 1) (by decide +kernel : (["_law_row", "_law_share", "_law_purses", "_law_script", "_law_box_here", "_law_names_here", "_law_size", "_law_leaves", "_law_k", "._law_row", "._law_share", "._law_purses", "_law_handed", "_law_at", "_law_due", "_law_name"] : List Str).Nodup) rfl (by first | exact Or.inl rfl | exact Or.inr rfl)) (pgs_cons (pg_name (i := 2) (by decide +kernel : (["_law_row", "_law_share", "_law_purses", "_law_script", "_law_box_here", "_law_names_here", "_law_size", "_law_leaves", "_law_k", "._law_row", "._law_share", "._law_purses", "_law_handed", "_law_at", "_law_due", "_law_name"] : List Str).Nodup) rfl (by first | exact Or.inl rfl | exact Or.inr rfl)) pgs_nil))))) (by exact fun _ _ _ _ => pf_nil) (by exact fun _ _ _ _ => (pe_tup (pa_cons (pv 0) (pa_cons (pv 1) (pa_cons (pe_callTy (kListOf (K := K) rfl) rfl T.b_list bb_list (pa_cons (pv 2) pa_nil)) pa_nil))))))
      (pss_cons (ps_if (pt_not (pt_val (pe_fn Gsame hr (by first | decide | omega) rfl (pa_cons (pe_fn Gwhole hr (by first | decide | omega) rfl (pa_cons (pv 9) pa_nil)) (pa_cons (pe_fn Gfold hr (by first | decide | omega) rfl (pa_cons (pe_lc (ts := ["_law_leaf"]) (M := ["_law_script", "_law_box_here", "_law_names_here", "_law_size", "_law_leaves", "_law_k", "_law_row", "_law_share", "_law_purses", "_law_handed", "_law_at", "_law_due", "_law_name"]) (by exact comp_of (N := ["_law_script", "_law_box_here", "_law_names_here", "_law_size", "_law_leaves", "_law_k", "_law_row", "_law_share", "_law_purses", "_law_handed", "_law_at", "_law_due", "_law_name"]) (sc := (defScope s_law)) rfl rfl (by decide +kernel)) rfl (kiList (K := K) rfl (pv 4)) (by exact fun _ _ _ _ => (pg_name (i := 0) (by decide +kernel : (["_law_leaf", "_law_script", "_law_box_here", "_law_names_here", "_law_size", "_law_leaves", "_law_k", "_law_row", "_law_share", "_law_purses", "_law_handed", "_law_at", "_law_due", "_law_name"] : List Str).Nodup) rfl (by first | exact Or.inl rfl | exact Or.inr rfl))) (by exact fun _ _ _ _ => pf_nil) (by exact fun _ _ _ _ => (pe_ix (kIxT (K := K) rfl) (pv 0) pe_int (fun _ _ => rfl)))) pa_nil)) pa_nil)))))
      (pss_one (ps_ret pe_bl))
      pss_nil)
      (pss_cons (ps_for PassesOwn.never rfl (pi_range1 rfl T.b_range (pa_cons (pv 3) pa_nil)) (pg_name (i := 10) sc_law.nd rfl (by first | exact Or.inl rfl | exact Or.inr rfl))
      (pss_cons (ps_set (i := 11) sc_law.nd rfl (by first | exact Or.inl rfl | exact Or.inr rfl) (pe_fn Gfold hr (by first | decide | omega) rfl (pa_cons (pe_lc (ts := ["_law_leaf"]) (M := ["_law_script", "_law_box_here", "_law_names_here", "_law_size", "_law_leaves", "_law_k", "_law_row", "_law_share", "_law_purses", "_law_handed", "_law_at", "_law_due", "_law_name"]) (by exact comp_of (N := ["_law_script", "_law_box_here", "_law_names_here", "_law_size", "_law_leaves", "_law_k", "_law_row", "_law_share", "_law_purses", "_law_handed", "_law_at", "_law_due", "_law_name"]) (sc := (defScope s_law)) rfl rfl (by decide +kernel)) rfl (kiList (K := K) rfl (pv 4)) (by exact fun _ _ _ _ => (pg_name (i := 0) (by decide +kernel : (["_law_leaf", "_law_script", "_law_box_here", "_law_names_here", "_law_size", "_law_leaves", "_law_k", "_law_row", "_law_share", "_law_purses", "_law_handed", "_law_at", "_law_due", "_law_name"] : List Str).Nodup) rfl (by first | exact Or.inl rfl | exact Or.inr rfl))) (by exact fun _ _ _ _ => pf_nil) (by exact fun _ _ _ _ => (pe_tup (pa_cons (pe_op op_mul (pe_ix (kIxL (K := K) rfl) (pe_ix (kIxT (K := K) rfl) (pv 0) pe_int (fun _ _ => rfl)) (pv 11) (fun _ _ => rfl)) (pe_ix (kIxT (K := K) rfl) (pe_ix (kIxT (K := K) rfl) (pv 0) pe_int (fun _ _ => rfl)) pe_int (fun _ _ => rfl))) (pa_cons (pe_ix (kIxT (K := K) rfl) (pe_ix (kIxT (K := K) rfl) (pv 0) pe_int (fun _ _ => rfl)) pe_int (fun _ _ => rfl)) pa_nil))))) pa_nil)))
      (pss_one (ps_if (pt_not (pt_val (pe_fn Gsame hr (by first | decide | omega) rfl (pa_cons (pe_fn Gmean hr (by first | decide | omega) rfl (pa_cons (pv 9) (pa_cons (pv 10) pa_nil))) (pa_cons (pv 11) pa_nil)))))
      (pss_one (ps_ret pe_bl))
      pss_nil))))
      (pss_cons (ps_for PassesOwn.never rfl (kiList (K := K) rfl (pe_op op_cat (pv 2) (pe_lst (pa_cons pe_str pa_nil)))) (pg_name (i := 12) sc_law.nd rfl (by first | exact Or.inl rfl | exact Or.inr rfl))
      (pss_cons (ps_set (i := 11) sc_law.nd rfl (by first | exact Or.inl rfl | exact Or.inr rfl) (pe_fn Gfold hr (by first | decide | omega) rfl (pa_cons (pe_lc (ts := ["_law_leaf"]) (M := ["_law_script", "_law_box_here", "_law_names_here", "_law_size", "_law_leaves", "_law_k", "_law_row", "_law_share", "_law_purses", "_law_handed", "_law_at", "_law_due", "_law_name"]) (by exact comp_of (N := ["_law_script", "_law_box_here", "_law_names_here", "_law_size", "_law_leaves", "_law_k", "_law_row", "_law_share", "_law_purses", "_law_handed", "_law_at", "_law_due", "_law_name"]) (sc := (defScope s_law)) rfl rfl (by decide +kernel)) rfl (kiList (K := K) rfl (pv 4)) (by exact fun _ _ _ _ => (pg_name (i := 0) (by decide +kernel : (["_law_leaf", "_law_script", "_law_box_here", "_law_names_here", "_law_size", "_law_leaves", "_law_k", "_law_row", "_law_share", "_law_purses", "_law_handed", "_law_at", "_law_due", "_law_name"] : List Str).Nodup) rfl (by first | exact Or.inl rfl | exact Or.inr rfl))) (by exact fun _ _ _ _ => (pf_one (pt_cmpR (kNotIn (K := K) rfl) (pv 13) (pe_ix (kIxT (K := K) rfl) (pv 0) pe_int (fun _ _ => rfl)) rfl))) (by exact fun _ _ _ _ => (pe_ix (kIxT (K := K) rfl) (pv 0) pe_int (fun _ _ => rfl)))) pa_nil)))
      (pss_one (ps_if (pt_not (pt_val (pe_fn Gsame hr (by first | decide | omega) rfl (pa_cons (pe_fn Glives hr (by first | decide | omega) rfl (pa_cons (pv 9) (pa_cons (pv 12) pa_nil))) (pa_cons (pv 11) pa_nil)))))
      (pss_one (ps_ret pe_bl))
      pss_nil))))
      (pss_one (ps_ret (pe_cmpR (op_eqD hr.units) (pv 9) (pv 4) (nomark _))))))))))))), ?_⟩
    refine ⟨_, rfl, a, ns, rfl, hS, hlen, fun β H1 _ _ _ B1 => ?_⟩
    refine ⟨_, rfl, β, 5, rfl, B1, by decide, fun p zs H2 hp hzl k2 B2 hp2 => ?_⟩
    refine ⟨_, rfl, β, 4, rfl, B2, by decide, by decide, fun s0 H3 s1 s2 k3 B3 => ⟨_, _, rfl, rfl, ?_⟩⟩
    obtain ⟨sz, es⟩ := Int.eq_ofNat_of_zero_le (show (0 : Int) ≤ 1 + s0 by omega)
    have hs1 : 1 ≤ sz := by omega
    have hs2 : sz ≤ 4 := by omega
    rw [show (fun i j => V.int (i + j)) 1 s0 = V.int (sz : Int) from congrArg V.int es]
    have NP : Lst β H2 p (zs.map V.str) := ⟨B1.off hp, hp2⟩
    refine ⟨by show 0 ≤ sizeLine; decide, fun l hl => ?_⟩
    have NP4 := (NP.keep k3).same (Same.upd (o := .lst ([] : List V)) hl)
    have L4 : Lst β (upd H3 l (.lst ([] : List V))) l [] := Lst.new B3 hl
    have hlp : p ≠ l := by rintro rfl; rw [(NP.keep k3).at_] at hl; cases hl
    have B4 := B3.new (o := .lst ([] : List V)) hl
    generalize upd H3 l (.lst ([] : List V)) = H4 at *
    refine ⟨_, rfl, β, 10, rfl, B4, by decide, by decide, fun n0 H5 n1 n2 k5 B5 => ?_⟩
    obtain ⟨n, rfl⟩ := Int.eq_ofNat_of_zero_le n1
    have hn9 : n ≤ 9 := by omega
    refine ⟨n, rfl, by omega, by omega, ?_⟩
    rw [Int.toNat_natCast]
    refine for_range0 (n := n) (fun i σ H' => ∃ (u1 u2 u3 u4 : Option V) (as : List Addr) (fs : List Lf), σ = [some (.ref a), some (.ref β.b), some (.ref p), some (.int sz), some (.ref l), u1, u2, u3, u4, none, none, none, none] ∧ Box β H' ∧ Lst β H' p (zs.map V.str) ∧ Lst β H' l (as.map V.ref) ∧ LvO β l H' as fs ∧ as.length = i ∧ ∀ f ∈ fs, f.Ok sz)
      ⟨none, none, none, none, [], [], rfl, B5, NP4.keep k5, L4.keep k5, LvO.nil _ _ _, rfl, by simp⟩ ?_ ?_
    · rintro i σ H6 hi ⟨u1, u2, u3, u4, as, fs, rfl, B6, P6, L6, V6, hal, hok⟩
      -- row
      refine ⟨_, rfl, β, 4, rfl, B6, by decide, by decide, fun m0 H7 m1 m2 k7 B7 => ?_⟩
      obtain ⟨m, rfl⟩ := Int.eq_ofNat_of_zero_le m1
      refine ⟨m, rfl, by omega, by omega, ?_⟩
      rw [Int.toNat_natCast]
      have P7 := P6.keep k7
      refine lc_range0 (k := m) (fun j ys H8 => ∃ ws : List Str, ys = ws.map V.str ∧ ws.length = j ∧ Keep β H7 H8 ∧ Box β H8) (small1000 (by omega)) ⟨[], rfl, rfl, (Same.refl _).keep, B7⟩ (fun j ys H8 hj ⟨ws, e, l', _⟩ => by rw [e, List.length_map]; omega) ?_ ?_
      · rintro j ys H8 hj ⟨ws, rfl, hwl, k8, B8⟩
        have P8 := P7.keep k8
        refine ⟨rfl, _, rfl, 4, rfl, p, _, rfl, SqL.of P8.at_, fun c1 hc1 => ?_⟩
        rw [cut_to4]
        have X1 := Same.upd (o := .lst ((zs.map V.str).take 4)) hc1
        refine ⟨by show 1 ≤ sizeLine; decide, fun c2 hc2 => ?_⟩
        have X2 := Same.upd (o := .lst [V.str ""]) hc2
        refine ⟨c1, c2, _, _, rfl, rfl, X2 _ _ upd_same, upd_same, Nat.le_of_lt (small1000 (by simp; omega)), fun c3 hc3 => ?_⟩
        have e5 : (zs.map V.str).take 4 ++ [V.str ""] = (zs.take 4 ++ [("" : Str)]).map V.str := by simp
        have X3 := Same.upd (o := .lst ((zs.map V.str).take 4 ++ [V.str ""])) hc3
        have B9 := ((B8.same X1).same X2)
        have L9 : Lst β _ c3 ((zs.map V.str).take 4 ++ [V.str ""]) := Lst.new B9 hc3
        have B10 := B9.new (o := .lst ((zs.map V.str).take 4 ++ [V.str ""])) hc3
        refine ⟨_, rfl, β, 5, rfl, B10, by decide, by decide, fun q0 H9 q1 q2 k9 B11 => ?_⟩
        obtain ⟨q, rfl⟩ := Int.eq_ofNat_of_zero_le q1
        have L10 := L9.keep k9
        have hq : q < (zs.take 4 ++ [("" : Str)]).length := by simp; omega
        refine ⟨c3, _, _, .str ((zs.take 4 ++ [("" : Str)])[q]), rfl, rfl, SqL.of L10.at_, ?_, ?_⟩
        · rw [e5]
          exact atI_nat (by rw [List.getElem?_map, List.getElem?_eq_getElem hq]; rfl)
        · exact ⟨ws ++ [(zs.take 4 ++ [("" : Str)])[q]], by simp, by simp [hwl], k8.trans (((X1.trans X2).trans X3).keep.trans k9), B11⟩
      rintro ys H8 ⟨ws, rfl, hwl, k8, B8⟩ d1 hd1
      have k9 := k7.trans (k8.trans (Same.upd (o := .lst (ws.map V.str)) hd1).keep)
      have B9 := B8.new (o := .lst (ws.map V.str)) hd1
      refine ⟨d1, _, rfl, .inl ⟨SqL.of upd_same, fun r hr => ?_⟩⟩
      generalize upd H8 d1 (.lst (ws.map V.str)) = H9 at *
      have r10 : upd H9 r (.tup (ws.map V.str)) r = some (.tup (ws.map V.str)) := upd_same
      have k10 := k9.trans (Same.upd (o := .tup (ws.map V.str)) hr).keep
      have B10 := B9.new (o := .tup (ws.map V.str)) hr
      have or : Off β r := B9.off hr
      have rl : r ≠ l := by rintro rfl; rw [(L6.keep k9).at_] at hr; cases hr
      generalize upd H9 r (.tup (ws.map V.str)) = H10 at *
      -- share
      refine ⟨_, rfl, β, 9, rfl, B10, by decide, by decide, fun a0 H11 a1 a2 k11 B11 => ?_⟩
      refine ⟨_, rfl, by show 2 ≤ sizeLine; decide, fun c hc => ?_⟩
      refine ⟨_, rfl, β, 2, rfl, B11.new hc, by decide, by decide, fun e0 H12 e1 e2 k12 B12 => ?_⟩
      obtain ⟨z, z0, z1, ez⟩ : ∃ q : Int, 1 ≤ q ∧ q ≤ 1000 ∧ atI [V.int 9, V.int 1000] e0 = some (V.int q) := by
        obtain rfl | rfl : e0 = 0 ∨ e0 = 1 := by omega
        · exact ⟨_, by decide, by decide, rfl⟩
        · exact ⟨_, by decide, by decide, rfl⟩
      refine ⟨c, _, _, _, rfl, rfl, SqL.of ((Lst.new (xs := [V.int 9, V.int 1000]) B11 hc).keep k12).at_, ez, ?_⟩
      refine ⟨β, z, rfl, B12, z0, by omega, fun b0 H13 b1 b2 k13 B13 => ⟨_, _, rfl, rfl, ?_⟩⟩
      refine ⟨a0, 1 + b0, rfl, a1, by omega, by omega, natmul_lt (x := 2000) (y := 2000) (by omega) (by omega) (by decide +kernel), fun s' hs' => ?_⟩
      have k14 := ((k11.trans ((Same.upd (o := .lst [V.int 9, V.int 1000]) hc).keep.trans k12)).trans k13)
      have s14 : upd H13 s' (.tup [.int (low a0 (1 + b0)).1, .int (low a0 (1 + b0)).2]) s' = some (.tup [.int (low a0 (1 + b0)).1, .int (low a0 (1 + b0)).2]) := upd_same
      have k15 := k14.trans (Same.upd (o := .tup [.int (low a0 (1 + b0)).1, .int (low a0 (1 + b0)).2]) hs').keep
      have B14 := B13.new (o := .tup [.int (low a0 (1 + b0)).1, .int (low a0 (1 + b0)).2]) hs'
      have os : Off β s' := B13.off hs'
      have sl : s' ≠ l := by rintro rfl; rw [((L6.keep k10).keep k14).at_] at hs'; cases hs'
      generalize upd H13 s' (.tup [.int (low a0 (1 + b0)).1, .int (low a0 (1 + b0)).2]) = H14 at *
      -- purses
      refine ⟨_, rfl, sz, rfl, by omega, by omega, ?_⟩
      rw [Int.toNat_natCast]
      refine lc_range0 (k := sz) (fun j ys H15 => ∃ xs : List Int, ys = xs.map V.int ∧ xs.length = j ∧ (∀ x ∈ xs, 0 ≤ x ∧ x ≤ 1000000) ∧ Keep β H14 H15 ∧ Box β H15) (small1000 (by omega)) ⟨[], rfl, rfl, by simp, (Same.refl _).keep, B14⟩ (fun j ys H15 hj ⟨xs, e, l', _⟩ => by rw [e, List.length_map]; omega) ?_ ?_
      · rintro j ys H15 hj ⟨xs, rfl, hxl, hx, k16, B15⟩
        refine ⟨rfl, _, rfl, _, _, rfl, rfl, ⟨by decide, by decide, by decide⟩, by show 2 ≤ sizeLine; decide, fun c hc => ?_⟩
        refine ⟨_, rfl, β, 2, rfl, B15.new hc, by decide, by decide, fun e0 H16 e1 e2 k17 B16 => ?_⟩
        obtain ⟨z, z0, z1, ez⟩ : ∃ q : Int, 1 ≤ q ∧ q ≤ 1000000 ∧ atI [V.int 3, V.int (10 ^ Int.toNat 6)] e0 = some (V.int q) := by
          obtain rfl | rfl : e0 = 0 ∨ e0 = 1 := by omega
          · exact ⟨_, by decide, by decide, rfl⟩
          · exact ⟨_, by decide, by decide, rfl⟩
        refine ⟨c, _, _, _, rfl, rfl, SqL.of ((Lst.new (xs := [V.int 3, V.int (10 ^ Int.toNat 6)]) B15 hc).keep k17).at_, ez, ?_⟩
        refine ⟨β, z, rfl, B16, z0, by omega, fun y H17 y1 y2 k18 B17 => ⟨xs ++ [y], by simp, by simp [hxl], ?_, k16.trans ((Same.upd hc).keep.trans (k17.trans k18)), B17⟩⟩
        intro x hx'
        rcases List.mem_append.mp hx' with z | z
        · exact hx x z
        · have : x = y := by simpa using z
          omega
      rintro ys H15 ⟨xs, rfl, hxl, hx, k16, B15⟩ u hu
      have u17 : upd H15 u (.lst (xs.map V.int)) u = some (.lst (xs.map V.int)) := upd_same
      have ou : Off β u := B15.off hu
      have ul : u ≠ l := by rintro rfl; rw [(((L6.keep k10).keep k15).keep k16).at_] at hu; cases hu
      have k17 := k16.trans (Same.upd (o := .lst (xs.map V.int)) hu).keep
      have B17 := B15.new (o := .lst (xs.map V.int)) hu
      generalize upd H15 u (.lst (xs.map V.int)) = H17 at *
      have k617 := (k10.trans k15).trans k17
      have L17 := L6.keep k617
      have P17 := P6.keep k617
      have V17 := V6.keep k617
      refine ⟨_, rfl, .inl ⟨rfl, _, SqL.of L17.at_⟩, _, rfl, _, rfl, _, rfl, by show 3 ≤ sizeLine; decide, fun c hc => ?_⟩
      have Sc := Same.upd (o := .tup [.ref r, .ref s', .ref u]) hc
      have oc : Off β c := B17.off hc
      have cl : c ≠ l := by rintro rfl; rw [L17.at_] at hc; cases hc
      have lf : LfAt (upd H17 c (.tup [.ref r, .ref s', .ref u])) c r s' u ⟨ws, low a0 (1 + b0), xs⟩ :=
        ⟨upd_same, Sc _ _ (k17 _ _ (k15 _ _ r10 or.nb) or.nb), Sc _ _ (k17 _ _ s14 os.nb), Sc _ _ u17⟩
      refine ⟨l, _, _, rfl, rfl, (L17.same Sc).at_, small1000 (by rw [List.length_map]; omega), ?_⟩
      refine ⟨_, _, _, _, as ++ [c], fs ++ [⟨ws, low a0 (1 + b0), xs⟩], rfl, (B17.same Sc).write L17.off, ⟨P17.off, by rw [upd_ne hlp]; exact (P17.same Sc).at_⟩, ⟨L17.off, by rw [upd_same]; simp⟩, ((V17.keep Sc.keep).snoc lf ?_).write, by simp [hal], ?_⟩
      · intro x hx'
        simp only [List.mem_cons, List.not_mem_nil, or_false] at hx'
        rcases hx' with rfl | rfl | rfl | rfl
        · exact ⟨oc, cl⟩
        · exact ⟨or, rl⟩
        · exact ⟨os, sl⟩
        · exact ⟨ou, ul⟩
      · intro g hg
        rcases List.mem_append.mp hg with z | z
        · exact hok g z
        · have : g = ⟨ws, low a0 (1 + b0), xs⟩ := by simpa using z
          subst this
          exact ⟨low_a a1 (by omega), Int.le_trans (low_ale a1) (by omega), low_b (by omega), Int.le_trans (low_ble (by omega)) (by omega), hxl, hx, by show ws.length ≤ 3; omega⟩
    rintro σ H6 ⟨u1, u2, u3, u4, as, fs, rfl, B6, P6, L6, V6, hal, hok⟩
    have Z6 := V6.lz
    have hfl := Z6.len
    have hl6 := L6.at_
    have hp6 := P6.at_
    have hfn : fs.length ≤ 9 := by omega
    have qb : ∀ q ∈ fs.map Lf.q, QB q := fun q hq => by
      obtain ⟨g, hg, rfl⟩ := List.mem_map.mp hq
      have o := hok g hg
      exact ⟨o.a0, by have := o.ah; omega, o.b1, o.bh⟩
    -- handed
    refine ⟨_, rfl, l, rfl, ⟨_, SqL.of hl6⟩, ?_⟩
    refine lc_list (xs := as.map V.ref) (fun i ys H7 => ∃ cs : List Addr, ys = cs.map V.ref ∧ cs.length = i ∧ Same H6 H7 ∧ LZ H7 cs (fs.take i)) (small1000 (by rw [List.length_map]; omega)) ⟨[], rfl, rfl, Same.refl _, LZ.nil _⟩ (fun i ys H7 hi ⟨cs, e, l', S, _⟩ => ⟨SqL.of (S _ _ hl6), by rw [e, List.length_map]; omega⟩) ?_ ?_
    · rintro i x ys H7 hx ⟨cs, rfl, hcl, S7, Z7⟩
      have hi : i < as.length := by have := (List.getElem?_eq_some_iff.mp hx).1; rw [List.length_map] at this; exact this
      have hif : i < fs.length := by omega
      have hx' : (as.map V.ref)[i]? = some (.ref as[i]) := by simp [hi]
      rw [hx] at hx'; cases hx'
      obtain ⟨r, s', u, lf⟩ := (Z6.same S7).at_ i as[i] fs[i] (by simp [hi]) (by simp [hif])
      refine ⟨as[i], _, rfl, SqT.of lf.at_, rfl, _, _, rfl, _, _, rfl, _, _, rfl, rfl, rfl, ?_⟩
      refine ⟨_, rfl, _, rfl, _, rfl, u, _, rfl, .inl (SqL.of lf.pu), fun u' hu' => ⟨by show 3 ≤ sizeLine; decide, fun c hc => ?_⟩⟩
      have Su := Same.upd (o := .lst (fs[i].ps.map V.int)) hu'
      have Sc := Su.trans (Same.upd (o := .tup [.ref r, .ref s', .ref u']) hc)
      refine ⟨cs ++ [c], by simp, by simp [hcl], S7.trans Sc, ?_⟩
      rw [List.take_add_one, List.getElem?_eq_getElem hif]
      refine (Z7.same Sc).snoc (r := r) (s := s') (u := u') (f := fs[i]) ⟨upd_same, Sc _ _ lf.row, Sc _ _ lf.sh, ?_⟩
      exact (Same.upd (o := .tup [.ref r, .ref s', .ref u']) hc) _ _ upd_same
    rintro ys H7 ⟨cs, rfl, hcl, S7, Z7⟩ d hd
    rw [List.length_map, hfl, List.take_length] at Z7
    have Sd := Same.upd (o := .lst (cs.map V.ref)) hd
    have Z8 := Z7.same Sd
    have hd8 : upd H7 d (.lst (cs.map V.ref)) d = some (.lst (cs.map V.ref)) := upd_same
    have S68 := S7.trans Sd
    generalize upd H7 d (.lst (cs.map V.ref)) = H8 at *
    have Y8 := Z6.same S68
    have hl8 := S68 _ _ hl6
    have hp8 := S68 _ _ hp6
    -- whole
    refine ⟨_, rfl, d, fs, sz, rfl, Z8.lvs hd8, hok, hfn, fun p1 H9 S9 hp1 => ?_⟩
    have Y9 := Y8.same S9
    refine ⟨_, rfl, l, rfl, ⟨_, SqL.of (S9 _ _ hl8)⟩, ?_⟩
    refine lc_list (xs := as.map V.ref) (fun i ys H2 => ∃ ss : List Addr, ys = ss.map V.ref ∧ ss.length = i ∧ Same H9 H2 ∧ ShZ H2 ss ((fs.take i).map Lf.q)) (small1000 (by rw [List.length_map]; omega)) ⟨[], rfl, rfl, Same.refl _, ShZ.nil _⟩ (fun i ys H2 hi ⟨ss, e, l', S, _⟩ => ⟨SqL.of (S _ _ (S9 _ _ hl8)), by rw [e, List.length_map]; omega⟩) ?_ ?_
    · rintro i x ys H2 hx ⟨ss, rfl, hl2, S2, Z2⟩
      have hi : i < as.length := by have := (List.getElem?_eq_some_iff.mp hx).1; rw [List.length_map] at this; exact this
      have hif : i < fs.length := by omega
      have hx' : (as.map V.ref)[i]? = some (.ref as[i]) := by simp [hi]
      rw [hx] at hx'; cases hx'
      obtain ⟨r, s', u, lf⟩ := (Y9.same S2).at_ i as[i] fs[i] (by simp [hi]) (by simp [hif])
      refine ⟨rfl, _, rfl, as[i], _, 1, _, rfl, rfl, SqT.of lf.at_, rfl, ss ++ [s'], by simp, by simp [hl2], S2, ?_⟩
      rw [List.take_add_one, List.getElem?_eq_getElem hif, List.map_append]
      exact Z2.snoc lf.sh
    rintro ys H10 ⟨ss, rfl, hl10, S10, Z10⟩ d2 hd2
    rw [List.length_map, hfl, List.take_length] at Z10
    have Sd2 := S10.trans (Same.upd (o := .lst (ss.map V.ref)) hd2)
    refine ⟨d2, fs.map Lf.q, rfl, ⟨ss, upd_same, Z10.same (Same.upd hd2)⟩, qb, by simpa using hfn, fun p2 H11 S11 hp2 => ?_⟩
    have S911 := Sd2.trans S11
    refine ⟨_, _, D.pr (foldS (fs.map Lf.q)), rfl, Rep.tup2 trivial (S911 _ _ hp1), Rep.tup2 trivial hp2, by rw [pr_dep]; decide, by rw [pr_wid]; decide, fun H12 S12 => ⟨_, rfl, iteF ?_⟩⟩
    have S812 := (S9.trans S911).trans S12
    -- means
    refine ⟨_, rfl, sz, rfl, by omega, by omega, ?_⟩
    rw [Int.toNat_natCast]
    refine for_range0 (n := sz) (fun i σ H13 => ∃ (v1 v2 : Option V), σ = [some (.ref a), some (.ref β.b), some (.ref p), some (.int sz), some (.ref l), u1, u2, u3, u4, some (.ref d), v1, v2, none] ∧ Same H8 H13) ⟨none, none, rfl, S812⟩ ?_ ?_
    · rintro i σ H13 hi ⟨v1, v2, rfl, S13⟩
      have Y13 := Y8.same S13
      refine ⟨_, rfl, l, rfl, ⟨_, SqL.of (S13 _ _ hl8)⟩, ?_⟩
      refine lc_list (xs := as.map V.ref) (fun j ys H2 => ∃ ss : List Addr, ys = ss.map V.ref ∧ ss.length = j ∧ Same H13 H2 ∧ ShZ H2 ss ((fs.take j).map (pur i))) (small1000 (by rw [List.length_map]; omega)) ⟨[], rfl, rfl, Same.refl _, ShZ.nil _⟩ (fun j ys H2 hj ⟨ss, e, l', S, _⟩ => ⟨SqL.of (S _ _ (S13 _ _ hl8)), by rw [e, List.length_map]; omega⟩) ?_ ?_
      · rintro j x ys H2 hx ⟨ss, rfl, hl2, S2, Z2⟩
        have hj : j < as.length := by have := (List.getElem?_eq_some_iff.mp hx).1; rw [List.length_map] at this; exact this
        have hjf : j < fs.length := by omega
        have hx' : (as.map V.ref)[j]? = some (.ref as[j]) := by simp [hj]
        rw [hx] at hx'; cases hx'
        have o := hok _ (List.getElem_mem hjf)
        obtain ⟨r, s', u, lf⟩ := (Y13.same S2).at_ j as[j] fs[j] (by simp [hj]) (by simp [hjf])
        have hil : i < fs[j].ps.length := by rw [o.len]; exact hi
        have hp' : 0 ≤ fs[j].ps.getD i 0 ∧ fs[j].ps.getD i 0 ≤ 1000000 := o.p0 _ (by rw [List.getD_eq_getElem?_getD, List.getElem?_eq_getElem hil]; exact List.getElem_mem hil)
        refine ⟨rfl, _, rfl, as[j], _, 2, _, rfl, rfl, SqT.of lf.at_, rfl, _, rfl, u, _, _, _, rfl, rfl, SqL.of lf.pu, atI_int (getD_get hil), ?_⟩
        refine ⟨_, rfl, as[j], _, 1, _, rfl, rfl, SqT.of lf.at_, rfl, s', _, 0, _, rfl, rfl, SqT.of lf.sh, rfl, _, _, rfl, rfl, .inl ⟨by omega, by omega⟩, ?_⟩
        refine ⟨_, rfl, as[j], _, 1, _, rfl, rfl, SqT.of lf.at_, rfl, s', _, 1, _, rfl, rfl, SqT.of lf.sh, rfl, by show 2 ≤ sizeLine; decide, fun c hc => ?_⟩
        have Sc := Same.upd (o := .tup [.int (pur i fs[j]).1, .int (pur i fs[j]).2]) hc
        refine ⟨ss ++ [c], by simp, by simp [hl2], S2.trans Sc, ?_⟩
        rw [List.take_add_one, List.getElem?_eq_getElem hjf, List.map_append]
        exact (Z2.same Sc).snoc (r := pur i fs[j]) upd_same
      rintro ys H14 ⟨ss, rfl, hl14, S14, Z14⟩ d3 hd3
      rw [List.length_map, hfl, List.take_length] at Z14
      have Sd3 := S14.trans (Same.upd (o := .lst (ss.map V.ref)) hd3)
      have qb2 : ∀ q ∈ fs.map (pur i), QB q := fun q hq => by
        obtain ⟨g, hg, rfl⟩ := List.mem_map.mp hq
        have o := hok g hg
        have hil : i < g.ps.length := by rw [o.len]; exact hi
        have hp' : 0 ≤ g.ps.getD i 0 ∧ g.ps.getD i 0 ≤ 1000000 := o.p0 _ (by rw [List.getD_eq_getElem?_getD, List.getElem?_eq_getElem hil]; exact List.getElem_mem hil)
        have m := mul_lt hp'.1 o.a0 hp'.2 o.ah
        exact ⟨m.1, m.2, o.b1, o.bh⟩
      refine ⟨d3, fs.map (pur i), rfl, ⟨ss, upd_same, Z14.same (Same.upd hd3)⟩, qb2, by simpa using hfn, fun p3 H15 S15 hp3 => ?_⟩
      have S815 := S13.trans (Sd3.trans S15)
      refine ⟨_, rfl, _, rfl, d, fs, sz, i, rfl, (Z8.same S815).lvs (S815 _ _ hd8), hok, hi, hfn, fun p4 H16 S16 hp4 => ?_⟩
      exact ⟨_, rfl, _, _, D.pr (foldS (fs.map (pur i))), rfl, Rep.tup2 trivial hp4, Rep.tup2 trivial (S16 _ _ hp3), by rw [pr_dep]; decide, by rw [pr_wid]; decide, fun H17 S17 => ⟨_, rfl, iteF ⟨_, _, rfl, (S815.trans S16).trans S17⟩⟩⟩
    rintro σ H13 ⟨v1, v2, rfl, S13⟩
    -- lives
    refine ⟨_, rfl, by show 1 ≤ sizeLine; decide, fun c hc => ?_⟩
    have Sc := Same.upd (o := .lst [V.str ""]) hc
    refine ⟨p, c, _, _, rfl, rfl, Sc _ _ (S13 _ _ hp8), upd_same, Nat.le_of_lt (small1000 (by simp; omega)), fun e he => ?_⟩
    have e6 : zs.map V.str ++ [V.str ""] = (zs ++ [("" : Str)]).map V.str := by simp
    have Se := (S13.trans Sc).trans (Same.upd (o := .lst (zs.map V.str ++ [V.str ""])) he)
    refine ⟨e, rfl, ⟨_, SqL.of upd_same⟩, ?_⟩
    rw [e6] at Se ⊢
    have he14 : upd (upd H13 c (.lst [V.str ""])) e (.lst ((zs ++ [("" : Str)]).map V.str)) e = some (.lst ((zs ++ [("" : Str)]).map V.str)) := upd_same
    generalize upd (upd H13 c (.lst [V.str ""])) e (.lst ((zs ++ [("" : Str)]).map V.str)) = H14 at *
    refine for_list (xs := (zs ++ [("" : Str)]).map V.str) (fun i σ H15 => ∃ (v2 v3 : Option V), σ = [some (.ref a), some (.ref β.b), some (.ref p), some (.int sz), some (.ref l), u1, u2, u3, u4, some (.ref d), v1, v2, v3] ∧ Same H14 H15) ⟨_, _, rfl, Same.refl _⟩ (fun i σ H15 _ ⟨_, _, _, S⟩ => SqL.of (S _ _ he14)) ?_ ?_
    · rintro i x σ H15 hx ⟨v2, v3, rfl, S15⟩
      obtain ⟨z, hz, rfl⟩ := List.mem_map.mp (List.mem_of_getElem? hx)
      have S815 := Se.trans S15
      have Y15 := Y8.same S815
      refine ⟨_, rfl, l, rfl, ⟨_, SqL.of (S815 _ _ hl8)⟩, ?_⟩
      refine lc_list (xs := as.map V.ref) (fun j ys H2 => ∃ ss : List Addr, ys = ss.map V.ref ∧ ss.length ≤ j ∧ Same H15 H2 ∧ ShZ H2 ss (((fs.take j).filter (out z)).map Lf.q)) (small1000 (by rw [List.length_map]; omega)) ⟨[], rfl, Nat.le_refl _, Same.refl _, ShZ.nil _⟩ (fun j ys H2 hj ⟨ss, e, l', S, _⟩ => ⟨SqL.of (S _ _ (S815 _ _ hl8)), by rw [e, List.length_map]; omega⟩) ?_ ?_
      · rintro j x ys H2 hx ⟨ss, rfl, hl2, S2, Z2⟩
        have hj : j < as.length := by have := (List.getElem?_eq_some_iff.mp hx).1; rw [List.length_map] at this; exact this
        have hjf : j < fs.length := by omega
        have hx' : (as.map V.ref)[j]? = some (.ref as[j]) := by simp [hj]
        rw [hx] at hx'; cases hx'
        obtain ⟨r, s', u, lf⟩ := (Y15.same S2).at_ j as[j] fs[j] (by simp [hj]) (by simp [hjf])
        refine ⟨rfl, _, rfl, _, rfl, as[j], _, 0, _, rfl, rfl, SqT.of lf.at_, rfl, r, _, rfl, .inr (SqT.of lf.row), rfl, by simp [flatV], _, rfl, ?_⟩
        refine iteB (fun h => ?_) (fun h => ?_)
        · have h : out z fs[j] = true := h
          refine ⟨_, rfl, as[j], _, 1, _, rfl, rfl, SqT.of lf.at_, rfl, ss ++ [s'], by simp, by simp [hl2], S2, ?_⟩
          rw [List.take_add_one, List.getElem?_eq_getElem hjf, List.filter_append, List.map_append]
          show ShZ H2 (ss ++ [s']) (_ ++ (List.filter (out z) [fs[j]]).map Lf.q)
          rw [List.filter_cons_of_pos h]
          exact Z2.snoc lf.sh
        · have h : ¬ out z fs[j] = true := by
            intro e
            have h : out z fs[j] = false := h
            rw [h] at e; cases e
          refine ⟨ss, rfl, by omega, S2, ?_⟩
          rw [List.take_add_one, List.getElem?_eq_getElem hjf, List.filter_append, List.map_append]
          show ShZ H2 ss (_ ++ (List.filter (out z) [fs[j]]).map Lf.q)
          rw [List.filter_cons_of_neg h]
          simpa using Z2
      rintro ys H16 ⟨ss, rfl, hl16, S16, Z16⟩ d4 hd4
      rw [List.length_map, hfl, List.take_length] at Z16
      have Sd4 := S16.trans (Same.upd (o := .lst (ss.map V.ref)) hd4)
      have hlen : ((fs.filter (out z)).map Lf.q).length ≤ 9 := by rw [List.length_map]; exact Nat.le_trans (List.length_filter_le _ _) hfn
      refine ⟨d4, (fs.filter (out z)).map Lf.q, rfl, ⟨ss, upd_same, Z16.same (Same.upd hd4)⟩, fun q hq => ?_, hlen, fun p3 H17 S17 hp3 => ?_⟩
      · obtain ⟨g, hg, rfl⟩ := List.mem_map.mp hq
        exact qb _ (List.mem_map.mpr ⟨g, (List.mem_filter.mp hg).1, rfl⟩)
      have S1417 := S15.trans (Sd4.trans S17)
      have S817 := Se.trans S1417
      refine ⟨_, rfl, _, rfl, d, fs, sz, z, rfl, (Z8.same S817).lvs (S817 _ _ hd8), hok, hfn, fun p4 H18 S18 hp4 => ?_⟩
      exact ⟨_, rfl, _, _, D.pr (foldS ((fs.filter (out z)).map Lf.q)), rfl, Rep.tup2 trivial hp4, Rep.tup2 trivial (S18 _ _ hp3), by rw [pr_dep]; decide, by rw [pr_wid]; decide, fun H19 S19 => ⟨_, rfl, iteF ⟨_, _, rfl, (S1417.trans S18).trans S19⟩⟩⟩
    rintro σ H15 ⟨v2, v3, rfl, S15⟩
    have S815 := Se.trans S15
    exact ⟨_, rfl, _, rfl, D.lvs fs, (Z8.same S815).rep (S815 _ _ hd8), (Y8.same S815).rep (S815 _ _ hl8), rfl, lvs_dep fs, k _⟩

end
theorem all_mk {l : PySem.W.OpenLaw} {w : World} {K : PySem.W.Frag} {h : Heap} {mg : Str → Option Value} {fa : Addr} (X : K.In h) (G : h.Ns mainGlobals mg) (hfa : mg "law" = some (.ref fa))
    {f0 : Addr} {od0 an0 : Option Addr} {sl0 : Array (Option Value)} {oc0 kV0 dc0 pm0 cd0 ct0 : Value}
    {f1 : Addr} {od1 an1 : Option Addr} {sl1 : Array (Option Value)} {oc1 kV1 dc1 pm1 cd1 ct1 : Value}
    {f2 : Addr} {od2 an2 : Option Addr} {sl2 : Array (Option Value)} {oc2 kV2 dc2 pm2 cd2 ct2 : Value}
    {f3 : Addr} {od3 an3 : Option Addr} {sl3 : Array (Option Value)} {oc3 kV3 dc3 pm3 cd3 ct3 : Value}
    {f4 : Addr} {od4 an4 : Option Addr} {sl4 : Array (Option Value)} {oc4 kV4 dc4 pm4 cd4 ct4 : Value}
    {f5 : Addr} {od5 an5 : Option Addr} {sl5 : Array (Option Value)} {oc5 kV5 dc5 pm5 cd5 ct5 : Value}
    {f6 : Addr} {od6 an6 : Option Addr} {sl6 : Array (Option Value)} {oc6 kV6 dc6 pm6 cd6 ct6 : Value}
    {f7 : Addr} {od7 an7 : Option Addr} {sl7 : Array (Option Value)} {oc7 kV7 dc7 pm7 cd7 ct7 : Value}
    {f8 : Addr} {od8 an8 : Option Addr} {sl8 : Array (Option Value)} {oc8 kV8 dc8 pm8 cd8 ct8 : Value}
    {f9 : Addr} {od9 an9 : Option Addr} {sl9 : Array (Option Value)} {oc9 kV9 dc9 pm9 cd9 ct9 : Value}
    {f10 : Addr} {od10 an10 : Option Addr} {sl10 : Array (Option Value)} {oc10 kV10 dc10 pm10 cd10 ct10 : Value}
    {f11 : Addr} {od11 an11 : Option Addr} {sl11 : Array (Option Value)} {oc11 kV11 dc11 pm11 cd11 ct11 : Value}
    {f12 : Addr} {od12 an12 : Option Addr} {sl12 : Array (Option Value)} {oc12 kV12 dc12 pm12 cd12 ct12 : Value}
    {f13 : Addr} {od13 an13 : Option Addr} {sl13 : Array (Option Value)} {oc13 kV13 dc13 pm13 cd13 ct13 : Value}
    {f14 : Addr} {od14 an14 : Option Addr} {sl14 : Array (Option Value)} {oc14 kV14 dc14 pm14 cd14 ct14 : Value}
    {f15 : Addr} {od15 an15 : Option Addr} {sl15 : Array (Option Value)} {oc15 kV15 dc15 pm15 cd15 ct15 : Value}
    (a0 : PySem.W.nsIn K mainGlobals "divisor" = some (some (.ref f0))) (l0 : K.lookup f0 = some ⟨oc0, od0, .func (PySem.W.fnOf "divisor" "divisor" (defArgs s_divisor) (defBody s_divisor) (defScope s_divisor) .none kV0 dc0 pm0 an0 cd0 ct0), sl0⟩) (c0 : PySem.W.codeIn K cd0 "divisor" = true) (k0 : PySem.W.keepIn K (.ref f0) = true)
    (a1 : PySem.W.nsIn K mainGlobals "lowest" = some (some (.ref f1))) (l1 : K.lookup f1 = some ⟨oc1, od1, .func (PySem.W.fnOf "lowest" "lowest" (defArgs s_lowest) (defBody s_lowest) (defScope s_lowest) .none kV1 dc1 pm1 an1 cd1 ct1), sl1⟩) (c1 : PySem.W.codeIn K cd1 "lowest" = true) (k1 : PySem.W.keepIn K (.ref f1) = true)
    (a2 : PySem.W.nsIn K mainGlobals "added" = some (some (.ref f2))) (l2 : K.lookup f2 = some ⟨oc2, od2, .func (PySem.W.fnOf "added" "added" (defArgs s_added) (defBody s_added) (defScope s_added) .none kV2 dc2 pm2 an2 cd2 ct2), sl2⟩) (c2 : PySem.W.codeIn K cd2 "added" = true) (k2 : PySem.W.keepIn K (.ref f2) = true)
    (a3 : PySem.W.nsIn K mainGlobals "times" = some (some (.ref f3))) (l3 : K.lookup f3 = some ⟨oc3, od3, .func (PySem.W.fnOf "times" "times" (defArgs s_times) (defBody s_times) (defScope s_times) .none kV3 dc3 pm3 an3 cd3 ct3), sl3⟩) (c3 : PySem.W.codeIn K cd3 "times" = true) (k3 : PySem.W.keepIn K (.ref f3) = true)
    (a4 : PySem.W.nsIn K mainGlobals "all_added" = some (some (.ref f4))) (l4 : K.lookup f4 = some ⟨oc4, od4, .func (PySem.W.fnOf "all_added" "all_added" (defArgs s_all_added) (defBody s_all_added) (defScope s_all_added) .none kV4 dc4 pm4 an4 cd4 ct4), sl4⟩) (c4 : PySem.W.codeIn K cd4 "all_added" = true) (k4 : PySem.W.keepIn K (.ref f4) = true)
    (a5 : PySem.W.nsIn K mainGlobals "whole" = some (some (.ref f5))) (l5 : K.lookup f5 = some ⟨oc5, od5, .func (PySem.W.fnOf "whole" "whole" (defArgs s_whole) (defBody s_whole) (defScope s_whole) .none kV5 dc5 pm5 an5 cd5 ct5), sl5⟩) (c5 : PySem.W.codeIn K cd5 "whole" = true) (k5 : PySem.W.keepIn K (.ref f5) = true)
    (a6 : PySem.W.nsIn K mainGlobals "mean" = some (some (.ref f6))) (l6 : K.lookup f6 = some ⟨oc6, od6, .func (PySem.W.fnOf "mean" "mean" (defArgs s_mean) (defBody s_mean) (defScope s_mean) .none kV6 dc6 pm6 an6 cd6 ct6), sl6⟩) (c6 : PySem.W.codeIn K cd6 "mean" = true) (k6 : PySem.W.keepIn K (.ref f6) = true)
    (a7 : PySem.W.nsIn K mainGlobals "lives" = some (some (.ref f7))) (l7 : K.lookup f7 = some ⟨oc7, od7, .func (PySem.W.fnOf "lives" "lives" (defArgs s_lives) (defBody s_lives) (defScope s_lives) .none kV7 dc7 pm7 an7 cd7 ct7), sl7⟩) (c7 : PySem.W.codeIn K cd7 "lives" = true) (k7 : PySem.W.keepIn K (.ref f7) = true)
    (a8 : PySem.W.nsIn K mainGlobals "_law_box" = some (some (.ref f8))) (l8 : K.lookup f8 = some ⟨oc8, od8, .func (PySem.W.fnOf "_law_box" "_law_box" (defArgs s_law_box) (defBody s_law_box) (defScope s_law_box) .none kV8 dc8 pm8 an8 cd8 ct8), sl8⟩) (c8 : PySem.W.codeIn K cd8 "_law_box" = true) (k8 : PySem.W.keepIn K (.ref f8) = true)
    (a9 : PySem.W.nsIn K mainGlobals "_law_take" = some (some (.ref f9))) (l9 : K.lookup f9 = some ⟨oc9, od9, .func (PySem.W.fnOf "_law_take" "_law_take" (defArgs s_law_take) (defBody s_law_take) (defScope s_law_take) .none kV9 dc9 pm9 an9 cd9 ct9), sl9⟩) (c9 : PySem.W.codeIn K cd9 "_law_take" = true) (k9 : PySem.W.keepIn K (.ref f9) = true)
    (a10 : PySem.W.nsIn K mainGlobals "_law_same" = some (some (.ref f10))) (l10 : K.lookup f10 = some ⟨oc10, od10, .func (PySem.W.fnOf "_law_same" "_law_same" (defArgs s_law_same) (defBody s_law_same) (defScope s_law_same) .none kV10 dc10 pm10 an10 cd10 ct10), sl10⟩) (c10 : PySem.W.codeIn K cd10 "_law_same" = true) (k10 : PySem.W.keepIn K (.ref f10) = true)
    (a11 : PySem.W.nsIn K mainGlobals "_law_both" = some (some (.ref f11))) (l11 : K.lookup f11 = some ⟨oc11, od11, .func (PySem.W.fnOf "_law_both" "_law_both" (defArgs s_law_both) (defBody s_law_both) (defScope s_law_both) .none kV11 dc11 pm11 an11 cd11 ct11), sl11⟩) (c11 : PySem.W.codeIn K cd11 "_law_both" = true) (k11 : PySem.W.keepIn K (.ref f11) = true)
    (a12 : PySem.W.nsIn K mainGlobals "_law_lowest" = some (some (.ref f12))) (l12 : K.lookup f12 = some ⟨oc12, od12, .func (PySem.W.fnOf "_law_lowest" "_law_lowest" (defArgs s_law_lowest) (defBody s_law_lowest) (defScope s_law_lowest) .none kV12 dc12 pm12 an12 cd12 ct12), sl12⟩) (c12 : PySem.W.codeIn K cd12 "_law_lowest" = true) (k12 : PySem.W.keepIn K (.ref f12) = true)
    (a13 : PySem.W.nsIn K mainGlobals "_law_names" = some (some (.ref f13))) (l13 : K.lookup f13 = some ⟨oc13, od13, .func (PySem.W.fnOf "_law_names" "_law_names" (defArgs s_law_names) (defBody s_law_names) (defScope s_law_names) .none kV13 dc13 pm13 an13 cd13 ct13), sl13⟩) (c13 : PySem.W.codeIn K cd13 "_law_names" = true) (k13 : PySem.W.keepIn K (.ref f13) = true)
    (a14 : PySem.W.nsIn K mainGlobals "_law_fold" = some (some (.ref f14))) (l14 : K.lookup f14 = some ⟨oc14, od14, .func (PySem.W.fnOf "_law_fold" "_law_fold" (defArgs s_law_fold) (defBody s_law_fold) (defScope s_law_fold) .none kV14 dc14 pm14 an14 cd14 ct14), sl14⟩) (c14 : PySem.W.codeIn K cd14 "_law_fold" = true) (k14 : PySem.W.keepIn K (.ref f14) = true)
    (a15 : PySem.W.nsIn K mainGlobals "law" = some (some (.ref f15))) (l15 : K.lookup f15 = some ⟨oc15, od15, .func (PySem.W.fnOf "law" "law" (defArgs s_law) (defBody s_law) (defScope s_law) .none kV15 dc15 pm15 an15 cd15 ct15), sl15⟩) (c15 : PySem.W.codeIn K cd15 "law" = true) (k15 : PySem.W.keepIn K (.ref f15) = true)
    (z_list : PySem.W.nsIn K mainGlobals "list" = some none)
    (z_len : PySem.W.nsIn K mainGlobals "len" = some none)
    (z_isinstance : PySem.W.nsIn K mainGlobals "isinstance" = some none)
    (z_tuple : PySem.W.nsIn K mainGlobals "tuple" = some none)
    (z_all : PySem.W.nsIn K mainGlobals "all" = some none)
    (z_zip : PySem.W.nsIn K mainGlobals "zip" = some none)
    (z_int : PySem.W.nsIn K mainGlobals "int" = some none)
    (z_bool : PySem.W.nsIn K mainGlobals "bool" = some none)
    (z_str : PySem.W.nsIn K mainGlobals "str" = some none)
    (z_range : PySem.W.nsIn K mainGlobals "range" = some none)
    : ∃ fd : FuncData, (∀ (s : Shared) (v : Value), BindsTo s fd ⟨[v], []⟩ [("_law_script", v)]) ∧ ∀ base : Heap, K.In base → base.Ns mainGlobals mg → FnOk l.prog w K mg base CX0 40 fa fd ["_law_script"] (sp_law K) := by
  have e := hfa.symm.trans (PySem.W.mg_of X G a15)
  cases e
  have T : Txt mg := ⟨PySem.W.mg_none_of X G z_list, PySem.W.mg_none_of X G z_len, PySem.W.mg_none_of X G z_isinstance, PySem.W.mg_none_of X G z_tuple, PySem.W.mg_none_of X G z_all, PySem.W.mg_none_of X G z_zip, PySem.W.mg_none_of X G z_int, PySem.W.mg_none_of X G z_bool, PySem.W.mg_none_of X G z_str, PySem.W.mg_none_of X G z_range⟩
  have F0 := fun_mk (st := s_divisor) l0 c0 k0
  have F1 := fun_mk (st := s_lowest) l1 c1 k1
  have F2 := fun_mk (st := s_added) l2 c2 k2
  have F3 := fun_mk (st := s_times) l3 c3 k3
  have F4 := fun_mk (st := s_all_added) l4 c4 k4
  have F5 := fun_mk (st := s_whole) l5 c5 k5
  have F6 := fun_mk (st := s_mean) l6 c6 k6
  have F7 := fun_mk (st := s_lives) l7 c7 k7
  have F8 := fun_mk (st := s_law_box) l8 c8 k8
  have F9 := fun_mk (st := s_law_take) l9 c9 k9
  have F10 := fun_mk (st := s_law_same) l10 c10 k10
  have F11 := fun_mk (st := s_law_both) l11 c11 k11
  have F12 := fun_mk (st := s_law_lowest) l12 c12 k12
  have F13 := fun_mk (st := s_law_names) l13 c13 k13
  have F14 := fun_mk (st := s_law_fold) l14 c14 k14
  have F15 := fun_mk (st := s_law) l15 c15 k15
  refine ⟨PySem.W.fnOf "law" "law" (defArgs s_law) (defBody s_law) (defScope s_law) .none kV15 dc15 pm15 an15 cd15 ct15, fun s v => .of_eq rfl, fun base _ _ => ?_⟩
  have N0 := fn_mk (ok_divisor (P := l.prog) (w := w) (base := base) F0 T ) (PySem.W.mg_of X G a0) k0 (F0.binds (ps := ["a", "b"]) fun _ _ _ _ _ _ us hl => match us, hl with | [_, _], _ => rfl)
  have N1 := fn_mk (ok_lowest (P := l.prog) (w := w) (base := base) F1 T N0) (PySem.W.mg_of X G a1) k1 (F1.binds (ps := ["above", "below"]) fun _ _ _ _ _ _ us hl => match us, hl with | [_, _], _ => rfl)
  have N2 := fn_mk (ok_added (P := l.prog) (w := w) (base := base) F2 T N1) (PySem.W.mg_of X G a2) k2 (F2.binds (ps := ["one", "other"]) fun _ _ _ _ _ _ us hl => match us, hl with | [_, _], _ => rfl)
  have N3 := fn_mk (ok_times (P := l.prog) (w := w) (base := base) F3 T N1) (PySem.W.mg_of X G a3) k3 (F3.binds (ps := ["one", "other"]) fun _ _ _ _ _ _ us hl => match us, hl with | [_, _], _ => rfl)
  have N4 := fn_mk (ok_all_added (P := l.prog) (w := w) (base := base) F4 T N2) (PySem.W.mg_of X G a4) k4 (F4.binds (ps := ["shares"]) fun _ _ _ _ _ _ us hl => match us, hl with | [_], _ => rfl)
  have N5 := fn_mk (ok_whole (P := l.prog) (w := w) (base := base) F5 T N4) (PySem.W.mg_of X G a5) k5 (F5.binds (ps := ["leaves"]) fun _ _ _ _ _ _ us hl => match us, hl with | [_], _ => rfl)
  have N6 := fn_mk (ok_mean (P := l.prog) (w := w) (base := base) F6 T N3 N4) (PySem.W.mg_of X G a6) k6 (F6.binds (ps := ["leaves", "at"]) fun _ _ _ _ _ _ us hl => match us, hl with | [_, _], _ => rfl)
  have N7 := fn_mk (ok_lives (P := l.prog) (w := w) (base := base) F7 T N4) (PySem.W.mg_of X G a7) k7 (F7.binds (ps := ["leaves", "name"]) fun _ _ _ _ _ _ us hl => match us, hl with | [_, _], _ => rfl)
  have N8 := fn_mk (ok_law_box (P := l.prog) (w := w) (base := base) F8 T ) (PySem.W.mg_of X G a8) k8 (F8.binds (ps := ["_law_script"]) fun _ _ _ _ _ _ us hl => match us, hl with | [_], _ => rfl)
  have N9 := fn_mk (ok_law_take (P := l.prog) (w := w) (base := base) F9 T ) (PySem.W.mg_of X G a9) k9 (F9.binds (ps := ["_law_box_here", "_law_many"]) fun _ _ _ _ _ _ us hl => match us, hl with | [_, _], _ => rfl)
  have N10 := ok_law_same (P := l.prog) (w := w) (base := base) F10 T (PySem.W.mg_of X G a10) k10 (F10.binds (ps := ["_law_found", "_law_due"]) fun _ _ _ _ _ _ us hl => match us, hl with | [_, _], _ => rfl) 
  have N11 := fn_mk (ok_law_both (P := l.prog) (w := w) (base := base) F11 T ) (PySem.W.mg_of X G a11) k11 (F11.binds (ps := ["_law_a", "_law_b"]) fun _ _ _ _ _ _ us hl => match us, hl with | [_, _], _ => rfl)
  have N12 := fn_mk (ok_law_lowest (P := l.prog) (w := w) (base := base) F12 T N11) (PySem.W.mg_of X G a12) k12 (F12.binds (ps := ["_law_above", "_law_below"]) fun _ _ _ _ _ _ us hl => match us, hl with | [_, _], _ => rfl)
  have N13 := fn_mk (ok_law_names (P := l.prog) (w := w) (base := base) F13 T N9) (PySem.W.mg_of X G a13) k13 (F13.binds (ps := ["_law_box_here", "_law_many"]) fun _ _ _ _ _ _ us hl => match us, hl with | [_, _], _ => rfl)
  have N14 := fn_mk (ok_law_fold (P := l.prog) (w := w) (base := base) F14 T N12) (PySem.W.mg_of X G a14) k14 (F14.binds (ps := ["_law_shares"]) fun _ _ _ _ _ _ us hl => match us, hl with | [_], _ => rfl)
  exact (ok_law F15 T N5 N6 N7 N8 N9 N10 N12 N13 N14).mono (by decide)
theorem walk {l : PySem.W.OpenLaw} {q : Program} {loose : List Str} {XP : (Str → Option Value) → Heap → Prop} {YP : World → Heap → Prop} {d : DefRec} {K : Params → PySem.W.Frag} (hn : l.most = some 63) (hdf : d.params.defaults = [])
    (hY : ∀ (w : World) (h : Heap), YP w h → (K w.params).In h)
    (F : ∀ (w : World) (mg : Str → Option Value) (fa : Addr) (h : Heap), (K w.params).In h → h.Ns mainGlobals mg → mg d.name = some (.ref fa) →
      ∃ fd : FuncData, (∀ (s : Shared) (u : Value), BindsTo s fd ⟨[u], []⟩ [("_law_script", u)]) ∧ ∀ base : Heap, (K w.params).In base → base.Ns mainGlobals mg → FnOk l.prog w (K w.params) mg base CX0 40 fa fd ["_law_script"] (sp_law (K w.params))) :
    PySem.W.WalkO q loose XP YP l.row.toRowW d [] (fun f vs => PySem.call f vs) :=
  L2.walk_of (n := 63) (k := 40) (x := "_law_script") (CX := fun _ => CX0) (sp := fun w => sp_law (K w.params)) hn (by decide) hdf ⟨rfl, by decide, by decide⟩ hY F (fun _ _ a ns hl _ hS => ⟨a, ns, rfl, hS, hl, fun _ => rfl⟩) fun _ _ _ _ _ z => z
end K31
open PySem PySem.W PyProof.Rows
set_option maxRecDepth 100000 in
set_option maxHeartbeats 0 in
theorem PySem.Challenge.cw_outlivers_k31_what_leaves_come_to_holds : PySem.Challenge.rw_outlivers_k31_what_leaves_come_to.Holds := by
  w_on; o_law; k_head; (case hw => w_witness2)
  k_fill
  refine K31.walk (l := PySem.Challenge.rw_outlivers_k31_what_leaves_come_to) rfl rfl (fun w h Y => PySem.W.kIn_of Y) ?F
  case F =>
    intro w mg fa h KX G hmg
    refine' K31.all_mk KX G hmg ?a0 ?l0 ?c0 ?k0 ?a1 ?l1 ?c1 ?k1 ?a2 ?l2 ?c2 ?k2 ?a3 ?l3 ?c3 ?k3 ?a4 ?l4 ?c4 ?k4 ?a5 ?l5 ?c5 ?k5 ?a6 ?l6 ?c6 ?k6 ?a7 ?l7 ?c7 ?k7 ?a8 ?l8 ?c8 ?k8 ?a9 ?l9 ?c9 ?k9 ?a10 ?l10 ?c10 ?k10 ?a11 ?l11 ?c11 ?k11 ?a12 ?l12 ?c12 ?k12 ?a13 ?l13 ?c13 ?k13 ?a14 ?l14 ?c14 ?k14 ?a15 ?l15 ?c15 ?k15 ?z_list ?z_len ?z_isinstance ?z_tuple ?z_all ?z_zip ?z_int ?z_bool ?z_str ?z_range
    (case a0 => k_is)
    (case l0 => k_is)
    (case c0 => k_is)
    (case k0 => k_is)
    (case a1 => k_is)
    (case l1 => k_is)
    (case c1 => k_is)
    (case k1 => k_is)
    (case a2 => k_is)
    (case l2 => k_is)
    (case c2 => k_is)
    (case k2 => k_is)
    (case a3 => k_is)
    (case l3 => k_is)
    (case c3 => k_is)
    (case k3 => k_is)
    (case a4 => k_is)
    (case l4 => k_is)
    (case c4 => k_is)
    (case k4 => k_is)
    (case a5 => k_is)
    (case l5 => k_is)
    (case c5 => k_is)
    (case k5 => k_is)
    (case a6 => k_is)
    (case l6 => k_is)
    (case c6 => k_is)
    (case k6 => k_is)
    (case a7 => k_is)
    (case l7 => k_is)
    (case c7 => k_is)
    (case k7 => k_is)
    (case a8 => k_is)
    (case l8 => k_is)
    (case c8 => k_is)
    (case k8 => k_is)
    (case a9 => k_is)
    (case l9 => k_is)
    (case c9 => k_is)
    (case k9 => k_is)
    (case a10 => k_is)
    (case l10 => k_is)
    (case c10 => k_is)
    (case k10 => k_is)
    (case a11 => k_is)
    (case l11 => k_is)
    (case c11 => k_is)
    (case k11 => k_is)
    (case a12 => k_is)
    (case l12 => k_is)
    (case c12 => k_is)
    (case k12 => k_is)
    (case a13 => k_is)
    (case l13 => k_is)
    (case c13 => k_is)
    (case k13 => k_is)
    (case a14 => k_is)
    (case l14 => k_is)
    (case c14 => k_is)
    (case k14 => k_is)
    (case a15 => k_is)
    (case l15 => k_is)
    (case c15 => k_is)
    (case k15 => k_is)
    (case z_list => k_is)
    (case z_len => k_is)
    (case z_isinstance => k_is)
    (case z_tuple => k_is)
    (case z_all => k_is)
    (case z_zip => k_is)
    (case z_int => k_is)
    (case z_bool => k_is)
    (case z_str => k_is)
    (case z_range => k_is)

