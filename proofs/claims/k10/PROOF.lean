import PyProof.Rows.All
import Wide.All
import OpenK.AllK
import Wide.FinOn
import Lean
import PyProof.EqAt
import PyProof.EqKinds
import PyProof.TupleCall
import PySem.Challenge.RW_meterbook_k10_plans
set_option Elab.async false
set_option linter.all false
set_option maxRecDepth 100000
/-! THE HAND LAYER, for ints, bools, texts, own classes, LISTS and tuples (index, slices, in, append, pop ..), calls, loops. Paste it whole ahead of your own text; what your proof does not reach may be deleted. -/
namespace L2
open PySem PySem.Spec PyProof.Rows

/-- a key: an int or a str -/
abbrev Key := Sum Int Str
def keyIs : Key → Value → Bool
  | .inl k, v => Value.isInt k v
  | .inr x, v => Value.isStrOf x v
def keyH (w : World) : Key → Int
  | .inl k => hashInt k
  | .inr x => hashStr w x
theorem keyIs_shape : ∀ {k : Key} {v : Value}, keyIs k v = true → (∃ i t, k = Sum.inl i ∧ v = Value.int i t) ∨ (∃ x t, k = Sum.inr x ∧ v = Value.str x t)
  | .inl i, v, h => by
    obtain ⟨t, e⟩ := Value.isInt_shape (k := i) (v := v) h
    exact .inl ⟨i, t, rfl, e⟩
  | .inr x, v, h => by
    obtain ⟨t, e⟩ := Value.isStrOf_shape (x := x) (v := v) h
    exact .inr ⟨x, t, rfl, e⟩
theorem keyIs_int (i : Int) (t : Tok) : keyIs (.inl i) (.int i t) = true := by simp [keyIs, Value.isInt]
theorem keyIs_str (x : Str) (t : Tok) : keyIs (.inr x) (.str x t) = true := by simp [keyIs, Value.isStrOf]
theorem key_ll (a b : Int) : decide ((Sum.inl a : Key) = Sum.inl b) = (a == b) := by
  by_cases e : a = b
  · subst e; simp
  · have h : ¬ (Sum.inl a : Key) = Sum.inl b := fun q => e (Sum.inl.inj q)
    rw [decide_eq_false h]
    exact (beq_eq_false_iff_ne.mpr e).symm
theorem key_rr (a b : Str) : decide ((Sum.inr a : Key) = Sum.inr b) = decide (a = b) := by
  by_cases e : a = b
  · subst e; simp
  · have h : ¬ (Sum.inr a : Key) = Sum.inr b := fun q => e (Sum.inr.inj q)
    rw [decide_eq_false h, decide_eq_false e]
theorem key_lr (a : Int) (b : Str) : decide ((Sum.inl a : Key) = Sum.inr b) = false := decide_eq_false (fun q => nomatch q)
theorem key_rl (a : Str) (b : Int) : decide ((Sum.inr a : Key) = Sum.inl b) = false := decide_eq_false (fun q => nomatch q)

def mixKind (prog : Program) (w : World) : PySem.KeyKind prog w Key where
  is := keyIs
  hash := keyH w
  inj := fun v a b ha hb => by
    rcases keyIs_shape ha with ⟨i, t, rfl, rfl⟩ | ⟨x, t, rfl, rfl⟩
    · rcases keyIs_shape hb with ⟨j, u, rfl, e⟩ | ⟨y, u, rfl, e⟩
      · injection e with e1 _; rw [e1]
      · exact nomatch e
    · rcases keyIs_shape hb with ⟨j, u, rfl, e⟩ | ⟨y, u, rfl, e⟩
      · exact nomatch e
      · injection e with e1 _; rw [e1]
  byValue := fun k v h => by
    rcases keyIs_shape h with ⟨i, t, rfl, rfl⟩ | ⟨x, t, rfl, rfl⟩ <;> rfl
  pyHash := fun hv h => by
    rcases keyIs_shape hv with ⟨i, t, rfl, rfl⟩ | ⟨x, t, rfl, rfl⟩
    · exact wpAny_pyHash_int h
    · exact wpAny_pyHash_str h
  eqBool := fun hu hv h => by
    rcases keyIs_shape hu with ⟨i, t, rfl, rfl⟩ | ⟨x, t, rfl, rfl⟩
    · rcases keyIs_shape hv with ⟨j, u, rfl, rfl⟩ | ⟨y, u, rfl, rfl⟩
      · rw [key_ll] at h; exact wpAny_eqBool_int h
      · rw [key_lr] at h; exact SeqAt.EqAt.int_str i t y u _ _ _ _ h
    · rcases keyIs_shape hv with ⟨j, u, rfl, rfl⟩ | ⟨y, u, rfl, rfl⟩
      · rw [key_rl] at h; exact SeqAt.EqAt.str_int x t j u _ _ _ _ h
      · rw [key_rr] at h; exact wpAny_eqBool_str h
  «strs» := fun k x t v h => by
    rcases keyIs_shape h with ⟨i, u, rfl, e⟩ | ⟨y, u, rfl, e⟩
    · exact nomatch e
    · injection e with e1 _
      subst e1
      cases v <;> rfl

theorem mixKind_is (prog : Program) (w : World) (k : Key) (v : Value) : (mixKind prog w).is k v = keyIs k v := rfl
theorem mixKind_int (prog : Program) (w : World) (i : Int) (t : Tok) : (mixKind prog w).is (.inl i) (.int i t) = true := keyIs_int i t
theorem mixKind_str (prog : Program) (w : World) (x : Str) (t : Tok) : (mixKind prog w).is (.inr x) (.str x t) = true := keyIs_str x t
end L2

namespace L2
open PySem PySem.Spec PyProof.Rows

/-- a value, without the heap -/
inductive V where
  | non | bl (b : Bool) | int (i : Int) | str (x : Str) | byt (b : Array UInt8) | flt (b : UInt64) | ref (a : Addr) | ty (n : String)
  deriving DecidableEq

def RelV : V → Value → Prop
  | .non, u => u = Value.none
  | .bl b, u => u = Value.bool b
  | .int i, u => ∃ t, u = Value.int i t
  | .str x, u => ∃ t, u = Value.str x t
  | .byt b, u => ∃ t, u = Value.bytes b t
  | .flt b, u => ∃ t, u = Value.float b t
  | .ref a, u => u = Value.ref a
  | .ty n, u => u = Value.type n

abbrev Vals : List V → List Value → Prop := Paired RelV
theorem Vals.length {xs : List V} {us : List Value} (r : Vals xs us) : xs.length = us.length := Paired.length r
theorem Vals.get : ∀ {xs : List V} {us : List Value} {i : Nat} {x : V}, Vals xs us → xs[i]? = some x → ∃ u, us[i]? = some u ∧ RelV x u
  | _, _, _, _, .nil, e => by simp at e
  | _, _, 0, _, .cons r _, e => by simp at e; subst e; exact ⟨_, rfl, r⟩
  | _, _, i + 1, x, .cons _ t, e => by
    obtain ⟨u, h1, h2⟩ := Vals.get (i := i) (x := x) t (by simpa using e)
    exact ⟨u, by simpa using h1, h2⟩
theorem Vals.set {x : V} {u : Value} (r : RelV x u) : ∀ {xs : List V} {us : List Value} (i : Nat), Vals xs us → Vals (xs.set i x) (us.set i u)
  | _, _, _, .nil => .nil
  | _, _, 0, .cons _ t => .cons r t
  | _, _, i + 1, .cons q t => .cons q (Vals.set r i t)
theorem Vals.append : ∀ {xs ys : List V} {us ws : List Value}, Vals xs us → Vals ys ws → Vals (xs ++ ys) (us ++ ws)
  | _, _, _, _, .nil, s => s
  | _, _, _, _, .cons r t, s => .cons r (Vals.append t s)
theorem Vals.take : ∀ {xs : List V} {us : List Value} (n : Nat), Vals xs us → Vals (xs.take n) (us.take n)
  | _, _, 0, _ => .nil
  | _, _, _ + 1, .nil => .nil
  | _, _, n + 1, .cons r t => .cons r (Vals.take n t)
theorem Vals.drop : ∀ {xs : List V} {us : List Value} (n : Nat), Vals xs us → Vals (xs.drop n) (us.drop n)
  | _, _, 0, r => r
  | _, _, _ + 1, .nil => .nil
  | _, _, n + 1, .cons _ t => Vals.drop n t
theorem Vals.none_of : ∀ {xs : List V} {us : List Value} {i : Nat}, Vals xs us → xs[i]? = none → us[i]? = none := fun {xs us i} r e => by
  have h1 := r.length
  have h2 : xs.length ≤ i := List.getElem?_eq_none_iff.mp e
  exact List.getElem?_eq_none_iff.mpr (by omega)

def RelO : Option V → Option Value → Prop
  | some v, some u => RelV v u
  | none, none => True
  | _, _ => False
def KV {κ : Type} : List (κ × V) → List (κ × Value) → Prop := Paired fun (p : κ × V) (q : κ × Value) => p.1 = q.1 ∧ RelV p.2 q.2

/-- a key of a dict (00_mix): an int or a text -/
def kV : Key → V
  | .inl i => .int i
  | .inr x => .str x

/-- what stands at a tracked address -/
inductive HO where
  /-- a list -/
  | lst (xs : List V)
  /-- a tuple (never changes) -/
  | tup (xs : List V)
  /-- a dict whose keys are ints and texts; one whose keys are tuples of ints and texts (the empty one is both) -/
  | dK (kvs : List (Key × V)) | dT (kvs : List (List Key × V))
  /-- a set of ints: its members, its size -/
  | set (S : Int → Bool) (n : Nat)
  /-- an instance of the class at C, its dict at dx, its attributes -/
  | ins (C dx : Addr) (fs : List (Str × V))
  /-- the dict of the instance at x -/
  | own (x : Addr)
  /-- the dict of an exception -/
  | xd (fs : List (Str × V))
  /-- a bound method, f of x -/
  | met (f x : Addr)
  /-- a range object lo, lo + 1, .. below hi -/
  | rng (lo hi : Int)
  /-- a thing that is known to the object (the script; a dict while a loop walks it): read, never written while it is so -/
  | frz (o : Obj) (u : HO)
  /-- a code object's table -/
  | tbl (ps : Array Value)
  /-- any other thing, by what is true of its one object (a def of one's own: SetO a S n := HO.ext fun h => ..) -/
  | ext (φ : Heap → Prop)

abbrev Hp := Addr → Option HO
def upd (H : Hp) (a : Addr) (o : HO) : Hp := fun b => if b = a then some o else H b
theorem upd_same {H : Hp} {a : Addr} {o : HO} : upd H a o a = some o := by unfold upd; rw [if_pos rfl]
theorem upd_ne {H : Hp} {a b : Addr} {o : HO} (h : b ≠ a) : upd H a o b = H b := by unfold upd; rw [if_neg h]
theorem upd_upd {H : Hp} {a : Addr} {o u : HO} : upd (upd H a o) a u = upd H a u := by
  funext b; unfold upd; split <;> rfl
/-- two objects of different content stand apart -/
theorem ne_of {H : Hp} {a b : Addr} {o u : HO} (h : H a = some o) (h' : H b = some u) (d : o ≠ u) : a ≠ b := by
  intro e; subst e; rw [h] at h'; exact d (Option.some.inj h')
theorem ne_of_none {H : Hp} {a b : Addr} {o : HO} (h : H a = some o) (h' : H b = none) : a ≠ b := by
  intro e; subst e; rw [h] at h'; cases h'

section
variable (P : Program) (w : World)
def ObjOk (H : Hp) (h : Heap) (a : Addr) : HO → Prop
  | .lst xs => xs.length ≤ sizeLine ∧ ∃ (its : List Value) (n : Nat), Vals xs its ∧ h.get? a = some { cls := .type "list", data := .seq its.toArray n }
  | .tup xs => xs.length ≤ sizeLine ∧ ∃ its : List Value, Vals xs its ∧ IsTup h a its.toArray
  | .dK kvs => kvs.length ≤ sizeLine ∧ (a == sysModules) = false ∧ ∃ vs, KV kvs vs ∧ h.DictOf (mixKind P w) a vs
  | .dT kvs => kvs.length ≤ sizeLine ∧ (a == sysModules) = false ∧ ∃ xs : List (List Key × Addr × Value),
      Paired (fun (p : List Key × V) (q : List Key × Addr × Value) => p.1 = q.1 ∧ H q.2.1 = some (.tup (p.1.map kV)) ∧ RelV p.2 q.2.2) kvs xs ∧
      ∃ o es ep, h.get? a = some o ∧ o.ExactDict ∧ o.data = .dict es ep ∧ es.toList = xs.map (entryOfKey (tupleKind (mixKind P w))) ∧ (xs.map (·.1)).Nodup
  | .set S n => h.SetOf (intKind P w) a S n
  | .ins C dx fs => H dx = some (.own a) ∧ fs.length ≤ 1000 ∧ dx ≠ a ∧ h.get? a = some (PySem.W.instObj C dx) ∧
      ∃ mA, h.Ns1 dx mA ∧ (∀ f, RelO (fs.lookup f) (mA f)) ∧ PySem.Within mA (fs.map (·.1))
  | .own _ => ∃ o, h.get? a = some o
  | .xd fs => ∃ mA, h.Ns1 a mA ∧ ∀ f, RelO (fs.lookup f) (mA f)
  | .rng lo hi => ∃ t u v, h.get? a = some { cls := .type "range", data := .fields #[.int lo t, .int hi u, .int 1 v] }
  | .frz o u => h.get? a = some o ∧ ObjOk H h a u
  | .tbl ps => h.get? a = some { cls := .none, data := .fields ps }
  | .met f x => h.get? a = some (PySem.W.methodObj (.ref f) (.ref x))
  | .ext φ => φ h ∧ (∃ o, h.get? a = some o) ∧ ∀ h1 h2 : Heap, φ h1 → (∀ o, h1.get? a = some o → h2.get? a = some o) → φ h2
/-- the abstract heap is held -/
def HOk (H : Hp) (h : Heap) : Prop := ∀ a o, H a = some o → ObjOk P w H h a o
end

section
variable {P : Program} {w : World} {H H' : Hp} {h h' : Heap} {a : Addr} {o : HO}
theorem ObjOk.lt (x : ObjOk P w H h a o) : a < h.objs.size := by
  cases o with
  | lst xs => obtain ⟨_, _, _, _, e⟩ := x; exact Heap.lt_size e
  | tup xs => obtain ⟨_, _, _, p⟩ := x; exact p.lt
  | dK kvs => obtain ⟨_, _, _, _, o, _, _, e, _⟩ := x; exact Heap.lt_size e
  | dT kvs => obtain ⟨_, _, _, _, o, _, _, e, _⟩ := x; exact Heap.lt_size e
  | set S n => obtain ⟨o, _, _, _, e, _⟩ := x; exact Heap.lt_size e
  | ins C dx fs => obtain ⟨_, _, _, e, _⟩ := x; exact Heap.lt_size e
  | own y => obtain ⟨_, e⟩ := x; exact Heap.lt_size e
  | xd fs => obtain ⟨_, ⟨_, _, _, e, _⟩, _⟩ := x; exact Heap.lt_size e
  | rng lo hi => obtain ⟨_, _, _, e⟩ := x; exact Heap.lt_size e
  | frz ob u => obtain ⟨e, _⟩ := x; exact Heap.lt_size e
  | tbl ps => exact Heap.lt_size (show h.get? a = some _ from x)
  | met f y => exact Heap.lt_size (show h.get? a = some _ from x)
  | ext φ => obtain ⟨_, ⟨_, e⟩, _⟩ := x; exact Heap.lt_size e
theorem Paired.mapP {α β : Type} {F G : α → β → Prop} : ∀ {l₁ : List α} {l₂ : List β}, Paired F l₁ l₂ → (∀ a b, F a b → G a b) → Paired G l₁ l₂
  | _, _, .nil, _ => .nil
  | _, _, .cons r t, f => .cons (f _ _ r) (Paired.mapP t f)
theorem Paired.imp' {α β : Type} {F G : α → β → Prop} (f : ∀ a b, F a b → G a b) {l₁ : List α} {l₂ : List β} (r : Paired F l₁ l₂) : Paired G l₁ l₂ := Paired.mapP r f
/-- what an object's description leans on: its own object, its own dict, the tuples -/
theorem ObjOk.stay (x : ObjOk P w H h a o) (k : ∀ b u, (b = a ∨ H b = some (.own a)) → h.get? b = some u → h'.get? b = some u)
    (ho : ∀ b, H b = some (.own a) → H' b = some (.own a)) (ht : ∀ b xs, H b = some (.tup xs) → H' b = some (.tup xs)) : ObjOk P w H' h' a o := by
  induction o with
  | lst xs => obtain ⟨z, its, n, r, e⟩ := x; exact ⟨z, its, n, r, k _ _ (.inl rfl) e⟩
  | tup xs => obtain ⟨z, its, r, ob, e, c⟩ := x; exact ⟨z, its, r, ob, k _ _ (.inl rfl) e, c⟩
  | dK kvs => obtain ⟨z, y, vs, r, ob, es, ep, e, c⟩ := x; exact ⟨z, y, vs, r, ob, es, ep, k _ _ (.inl rfl) e, c⟩
  | dT kvs =>
    obtain ⟨z, y, xs, r, ob, es, ep, e, c⟩ := x
    exact ⟨z, y, xs, Paired.mapP r fun p q z => ⟨z.1, ht _ _ z.2.1, z.2.2⟩, ob, es, ep, k _ _ (.inl rfl) e, c⟩
  | set S n => obtain ⟨ob, es, ep, t, e, c⟩ := x; exact ⟨ob, es, ep, t, k _ _ (.inl rfl) e, c⟩
  | ins C dx fs =>
    obtain ⟨d, z, ne, e, mA, ⟨od, es, ep, e2, c⟩, r⟩ := x
    exact ⟨ho _ d, z, ne, k _ _ (.inl rfl) e, mA, ⟨od, es, ep, k _ _ (.inr d) e2, c⟩, r⟩
  | own y => obtain ⟨ob, e⟩ := x; exact ⟨ob, k _ _ (.inl rfl) e⟩
  | xd fs => obtain ⟨mA, ⟨od, es, ep, e, c⟩, r⟩ := x; exact ⟨mA, ⟨od, es, ep, k _ _ (.inl rfl) e, c⟩, r⟩
  | rng lo hi => obtain ⟨t, u, v, e⟩ := x; exact ⟨t, u, v, k _ _ (.inl rfl) e⟩
  | frz ob u ih => obtain ⟨e, q⟩ := x; exact ⟨k _ _ (.inl rfl) e, ih q⟩
  | tbl ps =>
    have e : h.get? a = some { cls := .none, data := .fields ps } := x
    show h'.get? a = some { cls := .none, data := .fields ps }
    exact k a _ (.inl rfl) e
  | met f y =>
    have e : h.get? a = some (PySem.W.methodObj (.ref f) (.ref y)) := x
    show h'.get? a = some (PySem.W.methodObj (.ref f) (.ref y))
    exact k a _ (.inl rfl) e
  | ext φ => obtain ⟨p, ⟨o, e⟩, st⟩ := x; exact ⟨st _ _ p fun o q => k _ _ (.inl rfl) q, ⟨o, k _ _ (.inl rfl) e⟩, st⟩
theorem HOk.lt (x : HOk P w H h) (e : H a = some o) : a < h.objs.size := (x a o e).lt
theorem HOk.fresh (x : HOk P w H h) (e : h.objs.size ≤ a) : H a = none := by
  cases q : H a with
  | none => rfl
  | some u => exact absurd (Nat.lt_of_lt_of_le (x.lt q) e) (Nat.lt_irrefl _)
/-- every object of the heap is kept -/
theorem HOk.kept (x : HOk P w H h) (k : ∀ b u, h.get? b = some u → h'.get? b = some u) : HOk P w H h' := fun a o e =>
  (x a o e).stay (fun b u _ q => k b u q) (fun _ q => q) fun _ _ q => q
/-- a new object is laid and tracked -/
theorem HOk.laid (x : HOk P w H h) (k : ∀ b u, h.get? b = some u → h'.get? b = some u) (hp : h.objs.size ≤ a) (new : ObjOk P w (upd H a o) h' a o) : HOk P w (upd H a o) h' := fun b u e => by
  have hn := x.fresh hp
  by_cases hb : b = a
  · subst hb; rw [upd_same] at e; cases e; exact new
  · rw [upd_ne hb] at e
    exact (x b u e).stay (fun c v _ q => k c v q) (fun c q => by rw [upd_ne (ne_of_none q hn)]; exact q) fun c xs q => by rw [upd_ne (ne_of_none q hn)]; exact q
end

/-- what may be read as u: it is u, or a known u -/
def Rd (H : Hp) (a : Addr) (u : HO) : Prop := H a = some u ∨ ∃ o, H a = some (.frz o u)
theorem Rd.of {H : Hp} {a : Addr} {u : HO} (h : H a = some u) : Rd H a u := .inl h
theorem Rd.ok {P : Program} {w : World} {H : Hp} {h : Heap} {a : Addr} {u : HO} (r : Rd H a u) (x : HOk P w H h) : ObjOk P w H h a u := by
  rcases r with r | ⟨o, r⟩
  · exact x a u r
  · obtain ⟨_, q⟩ := x a _ r
    exact q
/-- what may be written -/
def Mut : Option HO → Prop
  | some (.lst _) => True
  | some (.dK _) => True
  | some (.dT _) => True
  | some (.set _ _) => True
  | some (.ins _ _ _) => True
  | some (.ext _) => True
  | _ => False
section
variable {P : Program} {w : World} {H : Hp} {h h' : Heap} {x e : Addr} {o' : HO}
/-- the object at e is changed: x itself, or the dict of the instance x -/
theorem HOk.write (ok : HOk P w H h) (mu : Mut (H x)) (he : e = x ∨ H e = some (.own x)) (k : ∀ b u, b ≠ e → h.get? b = some u → h'.get? b = some u) (heo : ∃ u, h'.get? e = some u)
    (new : ObjOk P w (upd H x o') h' x o') : HOk P w (upd H x o') h' := fun b u q => by
  have nown : ∀ c y, H c = some (.own y) → c ≠ x := fun c y r z => by subst z; rw [r] at mu; exact mu
  have ntup : ∀ c xs, H c = some (.tup xs) → c ≠ x := fun c xs r z => by subst z; rw [r] at mu; exact mu
  by_cases hb : b = x
  · subst hb; rw [upd_same] at q; cases q; exact new
  · rw [upd_ne hb] at q
    by_cases hbe : b = e
    · have q' : H b = some (.own x) := by
        rcases he with z | z
        · exact absurd (hbe.trans z) hb
        · rw [hbe]; exact z
      rw [q] at q'; cases q'
      obtain ⟨v, hv⟩ := heo
      exact ⟨v, by rw [hbe]; exact hv⟩
    · refine (ok b u q).stay (fun c v hc r => k c v ?_ r) (fun c r => by rw [upd_ne (nown c b r)]; exact r) fun c xs r => by rw [upd_ne (ntup c xs r)]; exact r
      rcases hc with rfl | hc
      · exact hbe
      · rintro rfl
        rcases he with z | z
        · exact nown c b hc z
        · rw [hc] at z; cases z; exact hb rfl
end

/-! ### kept unless tracked; of the frames at fs (the callers') the slots may change (an exception that passes writes there); of the records at ex (iterators) nothing is said -/
structure Un (fs ex : List Addr) (H H' : Hp) (h h' : Heap) : Prop where
  keep : ∀ b o, h.get? b = some o → H b = none → b ∉ fs → b ∉ ex → h'.get? b = some o
  slot : ∀ b o, h.get? b = some o → H b = none → b ∈ fs → b ∉ ex → ∃ sl, h'.get? b = some { o with slots := sl }
  free : ∀ b o, h.get? b = some o → H b = none → b ∉ ex → H' b = none
  there : ∀ b o, h.get? b = some o → b ∉ ex → ∃ o', h'.get? b = some o'
  tups : ∀ b xs, H b = some (.tup xs) → H' b = some (.tup xs)
  frzs : ∀ b o u, H b = some (.frz o u) → H' b = some (.frz o u)
  tbls : ∀ b ps, H b = some (.tbl ps) → ∃ more, H' b = some (.tbl (ps ++ more))
section
variable {fs fs' ex ex' : List Addr} {H H1 H2 : Hp} {h h1 h2 h' : Heap} {a x e : Addr} {o : HO}
theorem Un.any (u : Un fs ex H H1 h h1) {b : Addr} {ob : Obj} (q : h.get? b = some ob) (n : H b = none) (hx : b ∉ ex) : ∃ sl, h1.get? b = some { ob with slots := sl } := by
  by_cases hb : b ∈ fs
  · exact u.slot b ob q n hb hx
  · exact ⟨ob.slots, u.keep b ob q n hb hx⟩
theorem Un.trans (a : Un fs ex H H1 h h1) (b : Un fs ex H1 H2 h1 h2) : Un fs ex H H2 h h2 where
  keep := fun c ob q n hc hx => b.keep c ob (a.keep c ob q n hc hx) (a.free c ob q n hx) hc hx
  slot := fun c ob q n hc hx => by
    obtain ⟨sl, e1⟩ := a.slot c ob q n hc hx
    obtain ⟨sl', e2⟩ := b.slot c _ e1 (a.free c ob q n hx) hc hx
    exact ⟨sl', e2⟩
  free := fun c ob q n hx => by
    obtain ⟨o', e1⟩ := a.there c ob q hx
    exact b.free c o' e1 (a.free c ob q n hx) hx
  there := fun c ob q hx => by
    obtain ⟨o', e1⟩ := a.there c ob q hx
    exact b.there c o' e1 hx
  tups := fun c xs q => b.tups c xs (a.tups c xs q)
  frzs := fun c ob xs q => b.frzs c ob xs (a.frzs c ob xs q)
  tbls := fun c ps q => by
    obtain ⟨m1, e1⟩ := a.tbls c ps q
    obtain ⟨m2, e2⟩ := b.tbls c _ e1
    exact ⟨m1 ++ m2, by rw [e2, Array.append_assoc]⟩
theorem Un.kept (k : ∀ b u, h.get? b = some u → h'.get? b = some u) : Un fs ex H H h h' :=
  ⟨fun b ob q _ _ _ => k b ob q, fun b ob q _ _ _ => ⟨ob.slots, k b ob q⟩, fun _ _ _ n _ => n, fun b ob q _ => ⟨ob, k b ob q⟩, fun _ _ q => q, fun _ _ _ q => q, fun _ ps q => ⟨#[], by rw [q]; simp⟩⟩
theorem Un.refl : Un fs ex H H h h := Un.kept fun _ _ q => q
theorem Un.laid (k : ∀ b u, h.get? b = some u → h'.get? b = some u) (hp : h.objs.size ≤ a) (hn : H a = none) : Un fs ex H (upd H a o) h h' where
  keep := fun b u q _ _ _ => k b u q
  slot := fun b u q _ _ _ => ⟨u.slots, k b u q⟩
  free := fun b u q n _ => by rw [upd_ne (Nat.ne_of_lt (Nat.lt_of_lt_of_le (Heap.lt_size q) hp))]; exact n
  there := fun b u q _ => ⟨u, k b u q⟩
  tups := fun b xs q => by rw [upd_ne (ne_of_none q hn)]; exact q
  frzs := fun b u xs q => by rw [upd_ne (ne_of_none q hn)]; exact q
  tbls := fun b ps q => ⟨#[], by rw [upd_ne (ne_of_none q hn), q]; simp⟩
theorem Un.write (mu : Mut (H x)) (he : e = x ∨ H e = some (.own x)) (k : ∀ b u, b ≠ e → h.get? b = some u → h'.get? b = some u) (heo : ∃ u, h'.get? e = some u) : Un fs ex H (upd H x o) h h' := by
  have hx : ∀ b, H b = none → b ≠ x := fun b n z => by subst z; rw [n] at mu; exact mu
  have hb : ∀ b, H b = none → b ≠ e := fun b n z => by
    subst z
    rcases he with r | r
    · exact hx b n r
    · rw [n] at r; cases r
  have hm : ∀ b u, H b = some u → ¬ Mut (some u) → b ≠ x := fun b u q nm z => by subst z; rw [q] at mu; exact nm mu
  refine ⟨fun b u q n _ _ => k b u (hb b n) q, fun b u q n _ _ => ⟨u.slots, k b u (hb b n) q⟩, fun b u q n _ => by rw [upd_ne (hx b n)]; exact n, fun b u q _ => ?_,
    fun b xs q => by rw [upd_ne (hm b _ q fun z => z)]; exact q, fun b u xs q => by rw [upd_ne (hm b _ q fun z => z)]; exact q, fun b ps q => ⟨#[], by rw [upd_ne (hm b _ q fun z => z), q]; simp⟩⟩
  by_cases hbe : b = e
  · subst hbe; exact heo
  · exact ⟨u, k b u hbe q⟩
theorem Un.mono (u : Un fs ex H H1 h h1) (hs : ∀ b ∈ fs, b ∈ fs') (hx : ∀ b ∈ ex, b ∈ ex') : Un fs' ex' H H1 h h1 :=
  ⟨fun b ob q n hb he => u.keep b ob q n (fun z => hb (hs b z)) fun z => he (hx b z), fun _ _ q n _ he => u.any q n fun z => he (hx _ z), fun b ob q n he => u.free b ob q n fun z => he (hx b z), fun b ob q he => u.there b ob q fun z => he (hx b z), u.tups, u.frzs, u.tbls⟩
end

/-! ### the heap without what is tracked -/
def trk (h : Heap) (H : Hp) : List Addr := (List.range h.objs.size).filter fun a => (H a).isSome
def hidT (h : Heap) (H : Hp) : Heap := PySem.W.hideAll h (trk h H)
theorem hidT_size (h : Heap) (H : Hp) : (hidT h H).objs.size = h.objs.size := PySem.W.hideAll_size _ _
theorem hidT_get {h : Heap} {H : Hp} {b : Addr} {o : Obj} (e : h.get? b = some o) (n : H b = none) : (hidT h H).get? b = some o :=
  PySem.W.hideAll_get _ e fun hm => by
    have q : (H b).isSome = true := (List.mem_filter.mp hm).2
    rw [n] at q; simp at q
theorem of_hidT {h : Heap} {H : Hp} {b : Addr} {o : Obj} (e : (hidT h H).get? b = some o) : h.get? b = some o ∧ H b = none := by
  have e' : h.get? b = some o := PySem.W.of_hideAll (trk h H) e
  refine ⟨e', ?_⟩
  cases q : H b with
  | none => rfl
  | some x =>
    have hm : b ∈ trk h H := List.mem_filter.mpr ⟨List.mem_range.mpr (Heap.lt_size e'), by simp [q]⟩
    have z : (hidT h H).get? b = none := PySem.W.hideAll_none (trk h H) hm
    rw [z] at e; cases e

/-! ### OpenK's ledger, filled with every new object but one -/
def allNews (g h : Heap) (L : Addr) : List (Addr × Obj) := (List.range h.objs.size).filterMap fun a => if a = L ∨ (g.get? a).isSome = true then none else (h.get? a).map fun o => (a, o)
theorem mem_allNews {g h : Heap} {L a : Addr} {o : Obj} (h1 : a ≠ L) (h2 : g.get? a = none) (h3 : h.get? a = some o) : (a, o) ∈ allNews g h L :=
  List.mem_filterMap.mpr ⟨a, List.mem_range.mpr (Heap.lt_size h3), by simp [h1, h2, h3]⟩
theorem of_mem_allNews {g h : Heap} {L : Addr} {p : Addr × Obj} (hp : p ∈ allNews g h L) : p.1 ≠ L ∧ g.get? p.1 = none ∧ h.get? p.1 = some p.2 := by
  obtain ⟨b, _, e⟩ := List.mem_filterMap.mp hp
  split at e
  · cases e
  · rename_i hn
    cases q : h.get? b with
    | none => rw [q] at e; simp at e
    | some u =>
      rw [q] at e
      simp only [Option.map_some, Option.some.injEq] at e
      subst e
      refine ⟨fun z => hn (.inl z), ?_, q⟩
      show g.get? b = none
      cases r : g.get? b with
      | none => rfl
      | some v => exact (hn (.inr (by simp [r]))).elim
def rest (g h : Heap) (L d : Addr) : List (Addr × Obj) := (allNews g h L).filter fun p => decide (p.1 ≠ d)
theorem rest_ne {g h : Heap} {L d : Addr} : ∀ p ∈ rest g h L d, p.1 ≠ d := fun p hp => of_decide_eq_true (List.mem_filter.mp hp).2
theorem mem_rest {g h : Heap} {L d a : Addr} {o : Obj} (h1 : a ≠ L) (h2 : g.get? a = none) (h3 : h.get? a = some o) (h4 : a ≠ d) : (a, o) ∈ rest g h L d :=
  List.mem_filter.mpr ⟨mem_allNews h1 h2 h3, decide_eq_true h4⟩
theorem news_all {g h : Heap} {L : Addr} : News g L h (allNews g h L) := fun p hp => let ⟨a, b, c⟩ := of_mem_allNews hp; ⟨c, a, b⟩
theorem news_at {g h : Heap} {L d : Addr} {o : Obj} (h1 : d ≠ L) (h2 : g.get? d = none) (h3 : h.get? d = some o) : News g L h ((d, o) :: rest g h L d) := fun p hp => by
  rcases List.mem_cons.mp hp with rfl | hp
  · exact ⟨h3, h1, h2⟩
  · exact news_all p (List.mem_filter.mp hp).1
/-- behind a rule that changed d alone: all else but the frame is kept -/
theorem kept_of_news {g h h' : Heap} {L d : Addr} {m : Str → Option Value} (k : ∀ b o, g.get? b = some o → h.get? b = some o) (F : Fr g L h' m) (N : News g L h' (rest g h L d)) :
    ∀ b o, b ≠ L → b ≠ d → h.get? b = some o → h'.get? b = some o := fun b o h1 h2 e => by
  cases q : g.get? b with
  | some u =>
    have := k b u q
    rw [e] at this; cases this
    exact F.keep b _ q
  | none => exact (N (b, o) (mem_rest h1 q e h2)).1
end L2

namespace L2
open PySem PySem.Spec PyProof.Rows

/-- the module's facts, over the base: the heap at the law's entry without what is tracked there -/
structure Mod (K : PySem.W.Frag) (mg : Str → Option Value) (base : Heap) : Prop where
  kin : K.In base
  glob : base.Ns mainGlobals mg
  blt : ∃ mb, base.Ns builtinsNs mb ∧ ∀ x : Str, x ≠ "__name__" → mb x = bootBuiltins x
  nolimit : base.NoLimit

/-- the context: a def's body (or a comprehension's block) running. base: fixed through the whole law; s₀, H₀: the entry; outer: the frames whose slots others may change (a def's callers); stack: all frames that run;
   ex: iterators that were made ahead of the entry and are walked here (a comprehension's); fn: the names whose cells were made at the entry (a def: all; a comprehension's block: its own); calm: not within an except suite; pn: pins that every state bears; xe: what is wanted of an exception that leaves the code -/
structure Cx where
  prog : Program
  w : World
  K : PySem.W.Frag
  mg : Str → Option Value
  base : Heap
  A : Around
  N : List Str
  s₀ : Shared
  H₀ : Hp
  env : Env
  outer : List Env
  stack : List Env
  ex : List Addr
  fn : Str → Bool
  calm : Bool
  pn : List (Addr × Obj)
  xe : Value → Shared → Prop
/-- the callers' frames -/
def frs (l : List Env) : List Addr := l.filterMap (·.frame)
abbrev Cx.fs (X : Cx) : List Addr := frs X.outer

def Vis (sc : Scope) (x : Str) : Prop := sc.names.lookup x = some .local ∨ sc.names.lookup x = some .cell ∨ sc.names.lookup x = some .free
def Loc (sc : Scope) (x : Str) : Prop := sc.names.lookup x = some .local ∨ sc.names.lookup x = some .cell
def Look (env : Env) (h : Heap) (m : Str → Option Value) (x : Str) (u : Value) : Prop :=
  (env.kindOf x = some .local ∧ m x = some u) ∨ ((env.kindOf x = some .cell ∨ env.kindOf x = some .free) ∧ ∃ c, env.cells.lookup x = some c ∧ h.IsCell c (some u))

structure Cx.Ok (X : Cx) : Prop where
  mod : Mod X.K X.mg X.base
  kind : X.env.scope.kind = .function
  glob : X.env.globals = mainGlobals
  blt : X.env.builtins = builtinsNs
  above : X.s₀.heap.objs.size ≤ X.env.locals
  inj : ∀ x y c, X.env.cells.lookup x = some c → X.env.cells.lookup y = some c → x = y
  has : ∀ x, (X.env.kindOf x = some .cell ∨ X.env.kindOf x = some .free) → ∃ c, X.env.cells.lookup x = some c
  cab : ∀ x c, X.fn x = true → X.env.cells.lookup x = some c → X.s₀.heap.objs.size ≤ c
  hd : X.calm = true → X.A.handled = none
  frames : X.A.frames = some X.stack
  stk : X.stack = X.outer ∨ (X.stack = X.env :: X.outer ∧ X.env.frame = some X.env.locals)
  exf : ∀ b ∈ X.ex, b ≠ X.env.locals ∧ ∀ x c, X.env.cells.lookup x = some c → c ≠ b
  bs : ∀ b o, X.base.get? b = some o → X.s₀.heap.get? b = some o ∧ X.H₀ b = none
  bsz : X.base.objs.size ≤ X.s₀.heap.objs.size
  noex : ∀ b o, X.base.get? b = some o → b ∉ X.ex
  exfs : ∀ b ∈ X.ex, b ∉ X.fs
  funs : X.s₀.heap.FunFrames X.base X.outer
  frf : ∀ b ∈ X.fs, X.H₀ b = none

structure Inv (X : Cx) (pins : List (Addr × Obj)) (σ : List (Option V)) (H : Hp) (s : Shared) : Prop where
  ok : X.Ok
  os : s.os = X.s₀.os
  bare : AllBare s.gens
  base : Un X.fs X.ex X.H₀ H X.s₀.heap s.heap
  loc : ∃ m, s.heap.Ns X.env.locals m ∧ ∀ (i : Nat) (x : Str) (v : V), X.N[i]? = some x → σ[i]? = some (some v) → Vis X.env.scope x → ∃ u, RelV v u ∧ Look X.env s.heap m x u
  cell : ∀ x c, X.env.cells.lookup x = some c → ∃ v, s.heap.IsCell c v
  free : H X.env.locals = none
  freeC : ∀ x c, X.env.cells.lookup x = some c → H c = none
  pin : ∀ p ∈ X.pn ++ pins, s.heap.get? p.1 = some p.2 ∧ H p.1 = none ∧ p.1 ≠ X.env.locals ∧ p.1 ∉ X.fs ∧ ∀ v, p.2.data ≠ .cell v
  hok : HOk X.prog X.w H s.heap
  len : σ.length = X.N.length

section
variable {X : Cx} {pins : List (Addr × Obj)} {σ : List (Option V)} {H H' : Hp} {s : Shared} {h' : Heap}

theorem Cx.Ok.nofr (ok : X.Ok) {b : Addr} {o : Obj} (e : X.base.get? b = some o) : b ∉ X.fs := fun hb => by
  have := (ok.funs.mem hb).1
  rw [e] at this; cases this
theorem Inv.bs (I : Inv X pins σ H s) : ∀ b o, X.base.get? b = some o → s.heap.get? b = some o ∧ H b = none := fun b o e =>
  ⟨I.base.keep b o (I.ok.bs b o e).1 (I.ok.bs b o e).2 (I.ok.nofr e) (I.ok.noex b o e), I.base.free b o (I.ok.bs b o e).1 (I.ok.bs b o e).2 (I.ok.noex b o e)⟩
theorem Inv.bk (I : Inv X pins σ H s) : ∀ b o, X.base.get? b = some o → s.heap.get? b = some o := fun b o e => (I.bs b o e).1
theorem Inv.mod (I : Inv X pins σ H s) : Mod X.K X.mg X.base := I.ok.mod
theorem Inv.kIn (I : Inv X pins σ H s) : X.K.In s.heap := I.ok.mod.kin.keeps I.bk
theorem Inv.nolimit (I : Inv X pins σ H s) : s.heap.NoLimit := I.ok.mod.nolimit.keeps I.bk
/-- the frame over the base: for OpenK's rules (K.In X.base is I.mod.kin) -/
theorem Inv.fr (I : Inv X pins σ H s) : ∃ m, Fr X.base X.env.locals s.heap m :=
  let ⟨m, hn, _⟩ := I.loc
  ⟨m, hn, I.bk, Nat.le_trans I.ok.bsz I.ok.above⟩
theorem Inv.lt (I : Inv X pins σ H s) : X.env.locals < s.heap.objs.size := let ⟨_, hn, _⟩ := I.loc; hn.lt
theorem Inv.sz (I : Inv X pins σ H s) : X.s₀.heap.objs.size ≤ s.heap.objs.size := Nat.le_trans I.ok.above (Nat.le_of_lt I.lt)
theorem Inv.nofs (I : Inv X pins σ H s) {a : Addr} (h : s.heap.objs.size ≤ a) : a ∉ X.fs := fun hb => by
  obtain ⟨_, o, ho, _⟩ := I.ok.funs.mem hb
  exact absurd (Nat.lt_of_lt_of_le (Heap.lt_size ho) (Nat.le_trans I.sz h)) (Nat.lt_irrefl _)
theorem Inv.cne (I : Inv X pins σ H s) : ∀ x c, X.env.cells.lookup x = some c → c ≠ X.env.locals := fun x c e z => by
  obtain ⟨v, o, ho, hd⟩ := I.cell x c e
  obtain ⟨m, ⟨o', es, ep, ho', hd', _⟩, _⟩ := I.loc
  rw [z, ho'] at ho; cases ho; rw [hd'] at hd; cases hd
theorem Inv.funs (I : Inv X pins σ H s) : s.heap.FunFrames X.base X.outer := by
  have all : ∀ (l : List Env), (∀ b ∈ frs l, b ∈ X.fs) → X.s₀.heap.FunFrames X.base l → s.heap.FunFrames X.base l := by
    intro l
    induction l with
    | nil => intro _ _; trivial
    | cons env r ih =>
      intro hs hl
      obtain ⟨hk, ⟨L, o, hf, hn, ho, hd⟩, hr⟩ := hl
      have hL : L ∈ X.fs := hs L (by unfold frs; rw [List.filterMap_cons, hf]; exact List.mem_cons_self)
      obtain ⟨sl, e⟩ := I.base.slot L o ho (I.ok.frf L hL) hL fun z => I.ok.exfs L z hL
      exact ⟨hk, ⟨L, _, hf, hn, e, hd⟩, ih (fun b hb => hs b (by unfold frs; rw [List.filterMap_cons, hf]; exact List.mem_cons_of_mem _ hb)) hr⟩
  exact all X.outer (fun _ hb => hb) I.ok.funs

/-- the frames that run, for a call -/
theorem Inv.stack (I : Inv X pins σ H s) : s.heap.FunFrames X.base X.stack := by
  rcases I.ok.stk with e | ⟨e, hf⟩
  · rw [e]; exact I.funs
  · rw [e]
    obtain ⟨m, hn, _⟩ := I.loc
    refine .cons (by rw [I.ok.kind]; decide) hf hn ?_ I.funs
    exact Heap.get?_none_of_le (Nat.le_trans I.ok.bsz I.ok.above)
theorem Inv.stkSub (I : Inv X pins σ H s) : ∀ b ∈ frs X.stack, b ∈ X.env.locals :: X.fs := fun b hb => by
  rcases I.ok.stk with e | ⟨e, hf⟩
  · rw [e] at hb; exact List.mem_cons_of_mem _ hb
  · rw [e] at hb
    unfold frs at hb
    rw [List.filterMap_cons, hf] at hb
    exact hb
theorem Inv.stkFree (I : Inv X pins σ H s) : ∀ b ∈ frs X.stack, H b = none := fun b hb => by
  rcases List.mem_cons.mp (I.stkSub b hb) with e | hb
  · rw [e]; exact I.free
  · obtain ⟨_, o, ho, _⟩ := I.ok.funs.mem hb
    exact I.base.free b o ho (I.ok.frf b hb) fun z => I.ok.exfs b z hb

/-- THE STEP: the untracked objects but the frame and the records at ch are kept (the callers' frames up to slots), the frame's map is kept, the new abstract heap is held -/
theorem Inv.step {g' : Array GenState} {t' : Nat} {d' : Drawn} {ch : List Addr} (I : Inv X pins σ H s)
    (hch : ∀ b ∈ ch, (b ∈ X.ex ∨ X.s₀.heap.objs.size ≤ b) ∧ b ≠ X.env.locals ∧ (∀ x c, X.env.cells.lookup x = some c → c ≠ b) ∧ ∀ p ∈ X.pn ++ pins, p.1 ≠ b)
    (keep : ∀ b o, b ≠ X.env.locals → b ∉ X.fs → b ∉ ch → s.heap.get? b = some o → H b = none → h'.get? b = some o)
    (slot : ∀ b o, b ≠ X.env.locals → b ∈ X.fs → b ∉ ch → s.heap.get? b = some o → H b = none → ∃ sl, h'.get? b = some { o with slots := sl }) (free : ∀ b o, b ∉ ch → s.heap.get? b = some o → H b = none → H' b = none)
    (there : ∀ b o, b ∉ ch → s.heap.get? b = some o → ∃ o', h'.get? b = some o')
    (tups : ∀ b xs, H b = some (.tup xs) → H' b = some (.tup xs)) (frzs : ∀ b o u, H b = some (.frz o u) → H' b = some (.frz o u)) (tbls : ∀ b ps, H b = some (.tbl ps) → ∃ more, H' b = some (.tbl (ps ++ more)))
    (ns : ∀ m, s.heap.Ns X.env.locals m → h'.Ns X.env.locals m) (hok : HOk X.prog X.w H' h') (hg : AllBare g') :
    Inv X pins σ H' { s with heap := h', gens := g', drawn := d', toks := t' } := by
  have neL : ∀ b o, X.s₀.heap.get? b = some o → b ≠ X.env.locals := fun b o e => Nat.ne_of_lt (Nat.lt_of_lt_of_le (Heap.lt_size e) I.ok.above)
  have neC : ∀ b o, X.s₀.heap.get? b = some o → b ∉ X.ex → b ∉ ch := fun b o e hx hb => by
    rcases (hch b hb).1 with z | z
    · exact hx z
    · exact absurd (Nat.lt_of_lt_of_le (Heap.lt_size e) z) (Nat.lt_irrefl _)
  have cellK : ∀ x c, X.env.cells.lookup x = some c → ∀ v, s.heap.IsCell c v → h'.IsCell c v := fun x c e v ⟨o, ho, hd⟩ => by
    have nch : c ∉ ch := fun z => (hch c z).2.2.1 x c e rfl
    by_cases hc : c ∈ X.fs
    · obtain ⟨sl, q⟩ := slot c o (I.cne x c e) hc nch ho (I.freeC x c e)
      exact ⟨_, q, hd⟩
    · exact ⟨o, keep c o (I.cne x c e) hc nch ho (I.freeC x c e), hd⟩
  refine ⟨I.ok, I.os, hg, ⟨fun b o e n hb hx => ?_, fun b o e n hb hx => ?_, fun b o e n hx => ?_, fun b o e hx => ?_, fun b xs e => tups b xs (I.base.tups b xs e), fun b o xs e => frzs b o xs (I.base.frzs b o xs e), fun b ps e => ?_⟩, ?_, fun x c e => ?_, ?_, fun x c e => ?_, fun p hp => ?_, hok, I.len⟩
  · exact keep b o (neL b o e) hb (neC b o e hx) (I.base.keep b o e n hb hx) (I.base.free b o e n hx)
  · obtain ⟨sl, e1⟩ := I.base.slot b o e n hb hx
    obtain ⟨sl', e2⟩ := slot b _ (neL b o e) hb (neC b o e hx) e1 (I.base.free b o e n hx)
    exact ⟨sl', e2⟩
  · obtain ⟨o', e1⟩ := I.base.there b o e hx
    exact free b o' (neC b o e hx) e1 (I.base.free b o e n hx)
  · obtain ⟨o', e1⟩ := I.base.there b o e hx
    exact there b o' (neC b o e hx) e1
  · obtain ⟨m1, e1⟩ := I.base.tbls b ps e
    obtain ⟨m2, e2⟩ := tbls b _ e1
    exact ⟨m1 ++ m2, by rw [e2, Array.append_assoc]⟩
  · obtain ⟨m, hn, hl⟩ := I.loc
    refine ⟨m, ns m hn, fun i x v e1 e2 e3 => ?_⟩
    obtain ⟨u, r, l⟩ := hl i x v e1 e2 e3
    refine ⟨u, r, ?_⟩
    rcases l with l | ⟨k, c, e, z⟩
    · exact .inl l
    · exact .inr ⟨k, c, e, cellK x c e _ z⟩
  · obtain ⟨v, z⟩ := I.cell x c e
    exact ⟨v, cellK x c e v z⟩
  · obtain ⟨m, ⟨o, _, _, ho, _⟩, _⟩ := I.loc
    exact free _ o (fun z => (hch _ z).2.1 rfl) ho I.free
  · obtain ⟨v, o, ho, hd⟩ := I.cell x c e
    exact free c o (fun z => (hch c z).2.2.1 x c e rfl) ho (I.freeC x c e)
  · obtain ⟨e, n, ne, nf, d⟩ := I.pin p hp
    have nch : p.1 ∉ ch := fun z => (hch p.1 z).2.2.2 p hp rfl
    exact ⟨keep p.1 p.2 ne nf nch e n, free p.1 p.2 nch e n, ne, nf, d⟩
/-- .. where the frame's own object is kept too -/
theorem Inv.un {t' : Nat} (I : Inv X pins σ H s) (u : Un X.fs [] H H' s.heap h') (hok : HOk X.prog X.w H' h') : Inv X pins σ H' { s with heap := h', toks := t' } := by
  obtain ⟨m, ⟨o, es, ep, ho, r⟩, _⟩ := id I.loc
  obtain ⟨sl, hL⟩ := u.any ho I.free (by simp)
  exact I.step (g' := s.gens) (d' := s.drawn) (ch := []) (fun _ z => nomatch z) (fun b o _ hb _ e n => u.keep b o e n hb (by simp)) (fun b o _ hb _ e n => u.slot b o e n hb (by simp)) (fun b o _ e n => u.free b o e n (by simp)) (fun b o _ e => u.there b o e (by simp)) u.tups u.frzs u.tbls (fun m' hm => by
    obtain ⟨o', es', ep', ho', r'⟩ := hm
    rw [ho] at ho'; cases ho'
    exact ⟨_, es', ep', hL, r'⟩) hok I.bare
/-- behind a call (or a comprehension's block): the slots of this frame may have changed too, the records at ch may have turned -/
theorem Inv.call {g' : Array GenState} {t' : Nat} {d' : Drawn} {ch : List Addr} (I : Inv X pins σ H s) (u : Un (frs X.stack) ch H H' s.heap h') (hok : HOk X.prog X.w H' h') (hg : AllBare g')
    (hch : ∀ b ∈ ch, (b ∈ X.ex ∨ X.s₀.heap.objs.size ≤ b) ∧ b ≠ X.env.locals ∧ (∀ x c, X.env.cells.lookup x = some c → c ≠ b) ∧ ∀ p ∈ X.pn ++ pins, p.1 ≠ b) :
    Inv X pins σ H' { s with heap := h', gens := g', drawn := d', toks := t' } := by
  obtain ⟨m, ⟨o, es, ep, ho, r⟩, _⟩ := id I.loc
  obtain ⟨sl, hL⟩ := u.any ho I.free fun z => (hch _ z).2.1 rfl
  exact I.step (ch := ch) hch (fun b o hL hb hc e n => u.keep b o e n (fun z => (List.mem_cons.mp (I.stkSub b z)).elim hL hb) hc) (fun b o _ _ hc e n => u.any e n hc) (fun b o hc e n => u.free b o e n hc) (fun b o hc e => u.there b o e hc) u.tups u.frzs u.tbls (fun m' hm => by
    obtain ⟨o', es', ep', ho', r'⟩ := hm
    rw [ho] at ho'; cases ho'
    exact ⟨_, es', ep', hL, r'⟩) hok hg
/-- an untracked record of ours (an iterator) has turned -/
theorem Inv.turned {t' : Nat} {it : Addr} (I : Inv X pins σ H s) (k : ∀ b o, b ≠ it → s.heap.get? b = some o → h'.get? b = some o) (hn : H it = none) (hL : it ≠ X.env.locals)
    (h1 : it ∈ X.ex ∨ X.s₀.heap.objs.size ≤ it) (h2 : ∀ x c, X.env.cells.lookup x = some c → c ≠ it) (h3 : ∀ p ∈ X.pn ++ pins, p.1 ≠ it) : Inv X pins σ H { s with heap := h', toks := t' } := by
  have nit : ∀ b u, H b = some u → b ≠ it := fun b u e z => by rw [z, hn] at e; cases e
  refine I.step (g' := s.gens) (d' := s.drawn) (ch := [it]) (fun b hb => ?_) (fun b o _ _ hc e _ => k b o (fun z => hc (by simp [z])) e) (fun b o _ _ hc e _ => ⟨o.slots, k b o (fun z => hc (by simp [z])) e⟩) (fun _ _ _ _ n => n)
    (fun b o hc e => ⟨o, k b o (fun z => hc (by simp [z])) e⟩) (fun _ _ e => e) (fun _ _ _ e => e) (fun b ps e => ⟨#[], by rw [e]; simp⟩) (fun m hm => ?_) (fun b u e => ?_) I.bare
  · have e : b = it := by simpa using hb
    subst e
    exact ⟨h1, hL, h2, h3⟩
  · obtain ⟨o, es, ep, ho, r⟩ := hm
    exact ⟨o, es, ep, k _ o (Ne.symm hL) ho, r⟩
  · refine (I.hok b u e).stay (fun c v hc q => k c v ?_ q) (fun _ q => q) fun _ _ q => q
    rcases hc with z | z
    · rw [z]; exact nit b u e
    · exact nit c _ z
theorem Inv.tok (I : Inv X pins σ H s) (t : Nat) : Inv X pins σ H { s with toks := t } := I.un (h' := s.heap) (t' := t) Un.refl I.hok
/-- all objects kept -/
theorem Inv.kept {t' : Nat} (I : Inv X pins σ H s) (k : ∀ b u, s.heap.get? b = some u → h'.get? b = some u) : Inv X pins σ H { s with heap := h', toks := t' } := I.un (Un.kept k) (I.hok.kept k)
/-- a new object laid and tracked -/
theorem Inv.laid {a : Addr} {o : HO} {t' : Nat} (I : Inv X pins σ H s) (k : ∀ b u, s.heap.get? b = some u → h'.get? b = some u) (hp : s.heap.objs.size ≤ a) (new : ObjOk X.prog X.w (upd H a o) h' a o) :
    Inv X pins σ (upd H a o) { s with heap := h', toks := t' } := I.un (Un.laid k hp (I.hok.fresh hp)) (I.hok.laid k hp new)
/-- an object written -/
theorem Inv.write {x e : Addr} {o : HO} {t' : Nat} (I : Inv X pins σ H s) (mu : Mut (H x)) (he : e = x ∨ H e = some (.own x)) (k : ∀ b u, b ≠ e → s.heap.get? b = some u → h'.get? b = some u) (heo : ∃ u, h'.get? e = some u)
    (new : ObjOk X.prog X.w (upd H x o) h' x o) : Inv X pins σ (upd H x o) { s with heap := h', toks := t' } := I.un (Un.write mu he k heo) (I.hok.write mu he k heo new)
/-- forgetting slots, pins -/
theorem Inv.weak {σ' : List (Option V)} (I : Inv X pins σ H s) (hl : σ'.length = σ.length) (w : ∀ (i : Nat) v, σ'[i]? = some (some v) → σ[i]? = some (some v)) : Inv X pins σ' H s :=
  ⟨I.ok, I.os, I.bare, I.base, let ⟨m, hn, hl'⟩ := I.loc; ⟨m, hn, fun i x v e1 e2 e3 => hl' i x v e1 (w i v e2) e3⟩, I.cell, I.free, I.freeC, I.pin, I.hok, hl.trans I.len⟩
theorem Inv.pins_of {pins' : List (Addr × Obj)} (I : Inv X pins σ H s) (h : ∀ p ∈ pins', s.heap.get? p.1 = some p.2 ∧ H p.1 = none ∧ p.1 ≠ X.env.locals ∧ p.1 ∉ X.fs ∧ ∀ v, p.2.data ≠ .cell v) : Inv X pins' σ H s :=
  ⟨I.ok, I.os, I.bare, I.base, I.loc, I.cell, I.free, I.freeC, fun p hp => (List.mem_append.mp hp).elim (fun z => I.pin p (List.mem_append_left _ z)) (h p), I.hok, I.len⟩

theorem nodup_ix {N : List Str} (hN : N.Nodup) {i j : Nat} {x : Str} (a : N[i]? = some x) (b : N[j]? = some x) : i = j := by
  obtain ⟨h1, e1⟩ := List.getElem?_eq_some_iff.mp a
  obtain ⟨h2, e2⟩ := List.getElem?_eq_some_iff.mp b
  exact (List.getElem_inj hN).mp (e1.trans e2.symm)

/-- a name is stored; what changed -/
theorem store_ok2 {M : Model} {A : Around} {E : Value → Shared → Prop} {i : Nat} {x : Str} {v : V} {u : Value} {Q : Unit → Shared → Prop} (I : Inv X pins σ H s) (hN : X.N.Nodup) (hi : X.N[i]? = some x) (hx : Loc X.env.scope x) (r : RelV v u)
    (h : ∀ s', Inv X pins (σ.set i (some v)) H s' → (∃ a, Heap.SameBut a s.heap s'.heap ∧ (a = X.env.locals ∨ X.env.cells.lookup x = some a)) → Q () s') (hf : X.fn x = true ∨ X.env.scope.names.lookup x = some .local := by first | exact .inl rfl | exact .inr rfl | assumption) : wpAny M A (storeName X.env x u) Q E s := by
  obtain ⟨m, hn, hl⟩ := id I.loc
  have hcls : (X.env.scope.kind == .class || (X.env.scope.kind == .module && X.env.locals != X.env.globals)) = false := by rw [I.ok.kind]; rfl
  have hiσ : i < σ.length := by rw [I.len]; exact (List.getElem?_eq_some_iff.mp hi).1
  have cne := I.cne
  have tracked : ∀ {a : Addr} {h' : Heap}, (∃ o, s.heap.get? a = some o ∧ H a = none) → Heap.SameBut a s.heap h' → HOk X.prog X.w H h' := fun {a h'} ha hs b ob e => by
    obtain ⟨_, _, hfree⟩ := ha
    refine (I.hok b ob e).stay (fun c w' hc q => (hs.2 c ?_).trans q) (fun _ q => q) fun _ _ q => q
    rintro rfl
    rcases hc with rfl | hc
    · rw [hfree] at e; cases e
    · rw [hfree] at hc; cases hc
  rcases hx with hk | hk
  · refine wpAny_storeName_local hk hn (fun h' hn' hs => ?_) hcls
    obtain ⟨oL, _, _, hoL, _⟩ := id hn
    refine h _ ⟨I.ok, I.os, I.bare, ⟨fun b o e n hb hx => ?_, fun b o e n hb hx => ?_, I.base.free, fun b o e hx => ?_, I.base.tups, I.base.frzs, I.base.tbls⟩, ⟨_, hn', fun j y v' e1 e2 e3 => ?_⟩, fun y c e => ?_, I.free, I.freeC, fun p hp => ?_, tracked ⟨oL, hoL, I.free⟩ hs, by simpa using I.len⟩ ⟨_, hs, .inl rfl⟩
    · exact (hs.2 b (Nat.ne_of_lt (Nat.lt_of_lt_of_le (Heap.lt_size e) I.ok.above))).trans (I.base.keep b o e n hb hx)
    · obtain ⟨sl, e1⟩ := I.base.slot b o e n hb hx
      exact ⟨sl, (hs.2 b (Nat.ne_of_lt (Nat.lt_of_lt_of_le (Heap.lt_size e) I.ok.above))).trans e1⟩
    · obtain ⟨o', e1⟩ := I.base.there b o e hx
      exact ⟨o', (hs.2 b (Nat.ne_of_lt (Nat.lt_of_lt_of_le (Heap.lt_size e) I.ok.above))).trans e1⟩
    · by_cases hj : j = i
      · subst hj
        rw [hi] at e1; cases e1
        rw [List.getElem?_set_self hiσ] at e2
        cases e2
        exact ⟨u, r, .inl ⟨hk, by simp⟩⟩
      · rw [List.getElem?_set_ne (Ne.symm hj)] at e2
        obtain ⟨u', r', q⟩ := hl j y v' e1 e2 e3
        refine ⟨u', r', ?_⟩
        rcases q with ⟨k, e⟩ | ⟨k, c, e, z⟩
        · refine .inl ⟨k, ?_⟩
          have : y ≠ x := fun e => hj (nodup_ix hN e1 (e ▸ hi))
          simp [this, e]
        · exact .inr ⟨k, c, e, z.sameBut hs (cne y c e)⟩
    · obtain ⟨w', z⟩ := I.cell y c e
      exact ⟨w', z.sameBut hs (cne y c e)⟩
    · obtain ⟨e, n, ne, nf, d⟩ := I.pin p hp
      exact ⟨(hs.2 p.1 ne).trans e, n, ne, nf, d⟩
  · have hfn : X.fn x = true := by
      rcases hf with z | z
      · exact z
      · rw [z] at hk; cases hk
    obtain ⟨c, hc⟩ := I.ok.has x (.inl hk)
    obtain ⟨w', z⟩ := I.cell x c hc
    refine wpAny_storeName_cell I.ok.kind hk hc z (fun h' hc' hs => ?_)
    obtain ⟨oc, hoc, hocd⟩ := id z
    refine h { s with heap := h' } ⟨I.ok, I.os, I.bare, ⟨fun b o e n hb hx => ?_, fun b o e n hb hx => ?_, I.base.free, fun b o e hx => ?_, I.base.tups, I.base.frzs, I.base.tbls⟩, ⟨m, hn.sameBut hs (Ne.symm (cne x c hc)), fun j y v' e1 e2 e3 => ?_⟩, fun y c' e => ?_, I.free, I.freeC, fun p hp => ?_, tracked ⟨oc, hoc, I.freeC x c hc⟩ hs, by simpa using I.len⟩ ⟨c, hs, .inr hc⟩
    · exact (hs.2 b (Nat.ne_of_lt (Nat.lt_of_lt_of_le (Heap.lt_size e) (I.ok.cab x c hfn hc)))).trans (I.base.keep b o e n hb hx)
    · obtain ⟨sl, e1⟩ := I.base.slot b o e n hb hx
      exact ⟨sl, (hs.2 b (Nat.ne_of_lt (Nat.lt_of_lt_of_le (Heap.lt_size e) (I.ok.cab x c hfn hc)))).trans e1⟩
    · obtain ⟨o', e1⟩ := I.base.there b o e hx
      exact ⟨o', (hs.2 b (Nat.ne_of_lt (Nat.lt_of_lt_of_le (Heap.lt_size e) (I.ok.cab x c hfn hc)))).trans e1⟩
    · by_cases hj : j = i
      · subst hj
        rw [hi] at e1; cases e1
        rw [List.getElem?_set_self hiσ] at e2
        cases e2
        exact ⟨u, r, .inr ⟨.inl hk, c, hc, hc'⟩⟩
      · rw [List.getElem?_set_ne (Ne.symm hj)] at e2
        obtain ⟨u', r', q⟩ := hl j y v' e1 e2 e3
        refine ⟨u', r', ?_⟩
        rcases q with q | ⟨k, c', e, z'⟩
        · exact .inl q
        · refine .inr ⟨k, c', e, z'.sameBut hs ?_⟩
          rintro rfl
          exact hj (nodup_ix hN e1 (I.ok.inj _ _ _ e hc ▸ hi))
    · by_cases hcc : c' = c
      · subst hcc; exact ⟨_, hc'⟩
      · obtain ⟨w2, z2⟩ := I.cell y c' e
        exact ⟨w2, z2.sameBut hs hcc⟩
    · obtain ⟨e, n, ne, nf, d⟩ := I.pin p hp
      refine ⟨(hs.2 p.1 ?_).trans e, n, ne, nf, d⟩
      intro q
      rw [q, hoc] at e
      have q' : oc = p.2 := Option.some.inj e
      exact d w' (by rw [← q']; exact hocd)
theorem store_ok {M : Model} {A : Around} {E : Value → Shared → Prop} {i : Nat} {x : Str} {v : V} {u : Value} {Q : Unit → Shared → Prop} (I : Inv X pins σ H s) (hN : X.N.Nodup) (hi : X.N[i]? = some x) (hx : Loc X.env.scope x) (r : RelV v u)
    (h : ∀ s', Inv X pins (σ.set i (some v)) H s' → Q () s') (hf : X.fn x = true ∨ X.env.scope.names.lookup x = some .local := by first | exact .inl rfl | exact .inr rfl | assumption) : wpAny M A (storeName X.env x u) Q E s :=
  store_ok2 I hN hi hx r (fun s' I' _ => h s' I') hf
/-- behind a call or a block, the state as it is -/
theorem Inv.call' {s' : Shared} {ch : List Addr} (I : Inv X pins σ H s) (ho : s'.os = s.os) (u : Un (frs X.stack) ch H H' s.heap s'.heap) (hok : HOk X.prog X.w H' s'.heap) (hg : AllBare s'.gens)
    (hch : ∀ b ∈ ch, (b ∈ X.ex ∨ X.s₀.heap.objs.size ≤ b) ∧ b ≠ X.env.locals ∧ (∀ x c, X.env.cells.lookup x = some c → c ≠ b) ∧ ∀ p ∈ X.pn ++ pins, p.1 ≠ b) : Inv X pins σ H' s' := by
  obtain ⟨h', g', d', t', o'⟩ := s'
  have e : o' = s.os := ho
  subst e
  exact I.call (g' := g') (t' := t') (d' := d') u hok hg hch
end

/-! ### the judgements -/
/-- an exception: its class, its own dict's address (where it has one), the abstract heap behind it -/
abbrev XK := Value → Option Addr → Hp → Prop
abbrev St := List (Option V)
abbrev VK := V → Hp → Prop
/-- an expression's reading; a test's; an argument list's -/
abbrev TE := St → Hp → VK → Prop
abbrev TT := St → Hp → (Bool → Hp → Prop) → Prop
abbrev TA := St → Hp → (List V → Hp → Prop) → Prop
/-- what is wanted behind a statement -/
structure Ends where
  nx : St → Hp → Prop
  rt : VK
  bk : St → Hp → Prop := fun _ _ => False
  ct : St → Hp → Prop := fun _ _ => False
abbrev TS := Ends → St → Hp → Prop

def EP (X : Cx) (pins : List (Addr × Obj)) (σ : St) (Q : VK) (u : Value) (s' : Shared) : Prop := ∃ v H', Inv X pins σ H' s' ∧ RelV v u ∧ Q v H'
def TP (X : Cx) (pins : List (Addr × Obj)) (σ : St) (Q : Bool → Hp → Prop) (b : Bool) (s' : Shared) : Prop := ∃ H', Inv X pins σ H' s' ∧ Q b H'
def AP (X : Cx) (pins : List (Addr × Obj)) (σ : St) (Q : List V → Hp → Prop) (us : List Value) (s' : Shared) : Prop := ∃ vs H', Inv X pins σ H' s' ∧ Vals vs us ∧ Q vs H'
def SP (X : Cx) (pins : List (Addr × Obj)) (D : Ends) (f : Flow) (s' : Shared) : Prop :=
  match f with
  | .next => ∃ σ' H', Inv X pins σ' H' s' ∧ D.nx σ' H'
  | .brk => ∃ σ' H', Inv X pins σ' H' s' ∧ D.bk σ' H'
  | .cont => ∃ σ' H', Inv X pins σ' H' s' ∧ D.ct σ' H'
  | .ret u => ∃ v σ' H', Inv X pins σ' H' s' ∧ RelV v u ∧ D.rt v H'

def PE (X : Cx) (e : Expr) (t : TE) : Prop :=
  ∀ (pins : List (Addr × Obj)) (s : Shared) (σ : St) (H : Hp) (Q : VK), Inv X pins σ H s → t σ H Q → wpAny (model X.prog X.w) X.A (eval e X.env) (EP X pins σ Q) X.xe s
def PT (X : Cx) (e : Expr) (t : TT) : Prop :=
  ∀ (pins : List (Addr × Obj)) (s : Shared) (σ : St) (H : Hp) (Q : Bool → Hp → Prop), Inv X pins σ H s → t σ H Q → wpAny (model X.prog X.w) X.A (isTrue e X.env (eval e X.env)) (TP X pins σ Q) X.xe s
/-- a test whatever its 'whole' is (and, or) -/
def PW (X : Cx) (e : Expr) (t : TT) : Prop :=
  ∀ (whole : Sem Value) (pins : List (Addr × Obj)) (s : Shared) (σ : St) (H : Hp) (Q : Bool → Hp → Prop), Inv X pins σ H s → t σ H Q → wpAny (model X.prog X.w) X.A (isTrue e X.env whole) (TP X pins σ Q) X.xe s
theorem PW.pt {X : Cx} {e : Expr} {t : TT} (h : PW X e t) : PT X e t := h _
/-- an argument list (no star), from the left -/
def PA (X : Cx) (es : List Expr) (t : TA) : Prop :=
  ∀ (pos : Pos) (pins : List (Addr × Obj)) (s : Shared) (σ : St) (H : Hp) (Q : List V → Hp → Prop), Inv X pins σ H s → t σ H Q → wpAny (model X.prog X.w) X.A (spliced (backTo pos (starEach es X.env))) (AP X pins σ Q) X.xe s
def PS (X : Cx) (st : Stmt) (t : TS) : Prop :=
  ∀ (pins : List (Addr × Obj)) (s : Shared) (σ : St) (H : Hp) (D : Ends), Inv X pins σ H s → t D σ H → wpAny (model X.prog X.w) X.A (exec st X.env) (SP X pins D) X.xe s
def PSs (X : Cx) (st : List Stmt) (t : TS) : Prop :=
  ∀ (pins : List (Addr × Obj)) (s : Shared) (σ : St) (H : Hp) (D : Ends), Inv X pins σ H s → t D σ H → wpAny (model X.prog X.w) X.A (execs st X.env) (SP X pins D) X.xe s
/-- weaken the end -/
theorem thn {α : Type} {t : Sem α} {Q Q' : α → Shared → Prop} {M : Model} {A : Around} {E : Value → Shared → Prop} {s : Shared} (h : wpAny M A t Q E s) (hQ : ∀ a s, Q a s → Q' a s) : wpAny M A t Q' E s := wpAny_mono h hQ fun _ _ x => x
end L2

namespace L2
open PySem PySem.Spec PyProof.Rows
section
variable {X : Cx}

/-- two expressions in a row -/
theorem bin {a b : Expr} {ta tb : TE} (ha : PE X a ta) (hb : PE X b tb) {pins : List (Addr × Obj)} {s : Shared} {σ : St} {H : Hp} {R : V → V → Hp → Prop} (I : Inv X pins σ H s) (h : ta σ H fun x H1 => tb σ H1 fun y H2 => R x y H2)
    {α : Type} {Q : α → Shared → Prop} {f : Value → Value → Sem α}
    (hf : ∀ v u s2 x y H2, Inv X pins σ H2 s2 → RelV x v → RelV y u → R x y H2 → wpAny (model X.prog X.w) X.A (f v u) Q X.xe s2) :
    wpAny (model X.prog X.w) X.A (eval a X.env) (fun v s₁ => wpAny (model X.prog X.w) X.A (eval b X.env) (fun u s₂ => wpAny (model X.prog X.w) X.A (f v u) Q X.xe s₂) X.xe s₁) X.xe s := by
  refine thn (ha pins s σ H _ I h) fun v s1 ⟨x, H1, I1, r1, q1⟩ => ?_
  refine thn (hb pins s1 σ H1 _ I1 q1) fun u s2 ⟨y, H2, I2, r2, q2⟩ => ?_
  exact hf v u s2 x y H2 I2 r1 r2 q2

/-! ### names and constants -/
def tVar (i : Nat) : TE := fun σ H Q => ∃ v, σ[i]? = some (some v) ∧ Q v H
def tC (v : V) : TE := fun _ H Q => Q v H
theorem pe_var {i : Nat} {x : Str} {pos : Pos} (hN : X.N[i]? = some x) (hv : Vis X.env.scope x) (hd : (x == ("__debug__" : Str)) = false := by decide) (hcd : (x == ("__classdict__" : Str)) = false := by decide) : PE X (.Name x pos) (tVar i) := by
  intro pins s σ H Q I h
  obtain ⟨v, e, h⟩ := h
  obtain ⟨m, hn, hl⟩ := I.loc
  obtain ⟨u, r, l⟩ := hl i x v hN e hv
  have fin : EP X pins σ Q u s := ⟨v, H, I, r, h⟩
  rcases l with ⟨hk, hm⟩ | ⟨hk, c, hc, hcell⟩
  · exact wpAny_Name (wpAny_loadName_local I.ok.kind hk hn hm fin) hd
  · rcases hk with hk | hk
    · exact wpAny_Name (wpAny_loadName_cell I.ok.kind hk hc hcell fin) hd
    · exact wpAny_Name (wpAny_loadName_free I.ok.kind hk hc hcell fin hcd) hd
theorem pe_int {i j pos} : PE X (.Constant (.int i) j pos) (tC (.int i)) := fun _ _ _ H _ I h => wpAny_Constant_int ⟨.int i, H, I.tok _, ⟨_, rfl⟩, h⟩
theorem pe_bl {b j pos} : PE X (.Constant (.bool b) j pos) (tC (.bl b)) := fun _ _ _ H _ I h => Constant_bool ⟨.bl b, H, I, rfl, h⟩
theorem pe_non {j pos} : PE X (.Constant .none j pos) (tC .non) := fun _ _ _ H _ I h => Constant_none ⟨.non, H, I, rfl, h⟩
theorem pe_str {x j pos} : PE X (.Constant (.str x) j pos) (tC (.str x)) := fun _ _ _ H _ I h => Calls.Constant_str ⟨.str x, H, I.tok _, ⟨_, rfl⟩, h⟩

/-- a global name of the def -/
def Gl (X : Cx) (x : Str) : Prop := X.env.kindOf x = some .globalImplicit
theorem ld_glob {E : Value → Shared → Prop} {pins : List (Addr × Obj)} {s : Shared} {σ : St} {H : Hp} {x : Str} {u : Value} {pos : Pos} {Q : Value → Shared → Prop} (I : Inv X pins σ H s) (hg : Gl X x) (hm : X.mg x = some u) (h : Q u s)
    (hd : (x == ("__debug__" : Str)) = false := by decide) : wpAny (model X.prog X.w) X.A (eval (.Name x pos) X.env) Q E s :=
  Calls.Name_function_global I.ok.kind hg (Calls.loadGlobal_global (by rw [I.ok.glob]; exact I.mod.glob.keeps I.bk) hm h) hd
theorem ld_blt {E : Value → Shared → Prop} {pins : List (Addr × Obj)} {s : Shared} {σ : St} {H : Hp} {x : Str} {u : Value} {pos : Pos} {Q : Value → Shared → Prop} (I : Inv X pins σ H s) (hg : Gl X x) (hm : X.mg x = none) (hv : bootBuiltins x = some u) (h : Q u s)
    (hn : x ≠ "__name__" := by decide) (hd : (x == ("__debug__" : Str)) = false := by decide) : wpAny (model X.prog X.w) X.A (eval (.Name x pos) X.env) Q E s := by
  obtain ⟨mb, h1, h2⟩ := I.mod.blt
  exact Calls.Name_function_global I.ok.kind hg (Calls.loadGlobal_builtin (by rw [I.ok.glob]; exact I.mod.glob.keeps I.bk) hm (by rw [I.ok.blt]; exact h1.keeps I.bk) ((h2 x hn).trans hv) h) hd
/-- a module's constant, a class, a function, as a value -/
theorem pe_glob {x : Str} {v : V} {u : Value} {pos : Pos} (hg : Gl X x) (hm : X.mg x = some u) (r : RelV v u) (hd : (x == ("__debug__" : Str)) = false := by decide) : PE X (.Name x pos) (tC v) :=
  fun _ _ _ H _ I h => ld_glob I hg hm ⟨v, H, I, r, h⟩ hd
theorem pe_bltn {x : Str} {v : V} {u : Value} {pos : Pos} (hg : Gl X x) (hm : X.mg x = none) (hv : bootBuiltins x = some u) (r : RelV v u) (hn : x ≠ "__name__" := by decide) (hd : (x == ("__debug__" : Str)) = false := by decide) : PE X (.Name x pos) (tC v) :=
  fun _ _ _ H _ I h => ld_blt I hg hm hv ⟨v, H, I, r, h⟩ hn hd

/-! ### arithmetic -/
/-- two ints -/
def t2I (ta tb : TE) (k : Int → Int → Hp → Prop) : St → Hp → Prop := fun σ H => ta σ H fun x H1 => tb σ H1 fun y H2 => ∃ i j, x = .int i ∧ y = .int j ∧ k i j H2
def tAdd (ta tb : TE) : TE := fun σ H Q => t2I ta tb (fun i j H2 => Q (.int (i + j)) H2) σ H
def tSub (ta tb : TE) : TE := fun σ H Q => t2I ta tb (fun i j H2 => Q (.int (i - j)) H2) σ H
/-- the left factor below 2^64 -/
def tMul (ta tb : TE) : TE := fun σ H Q => t2I ta tb (fun i j H2 => (-(2 ^ 64) < i ∧ i < 2 ^ 64) ∧ Q (.int (i * j)) H2) σ H
variable {a b : Expr} {ta tb : TE} {pos : Pos}
theorem pe_add (ha : PE X a ta) (hb : PE X b tb) : PE X (.BinOp a .Add b pos) (tAdd ta tb) := by
  intro pins s σ H Q I h
  refine wpAny_BinOp (bin ha hb I h fun v u s2 x y H2 I2 rx ry q => ?_)
  obtain ⟨i, j, rfl, rfl, q⟩ := q
  obtain ⟨t, rfl⟩ := rx
  obtain ⟨t', rfl⟩ := ry
  exact add_int ⟨.int _, H2, I2.tok _, ⟨_, rfl⟩, q⟩
theorem pe_sub (ha : PE X a ta) (hb : PE X b tb) : PE X (.BinOp a .Sub b pos) (tSub ta tb) := by
  intro pins s σ H Q I h
  refine wpAny_BinOp (bin ha hb I h fun v u s2 x y H2 I2 rx ry q => ?_)
  obtain ⟨i, j, rfl, rfl, q⟩ := q
  obtain ⟨t, rfl⟩ := rx
  obtain ⟨t', rfl⟩ := ry
  exact sub_int ⟨.int _, H2, I2.tok _, ⟨_, rfl⟩, q⟩
theorem pe_mul (ha : PE X a ta) (hb : PE X b tb) : PE X (.BinOp a .Mult b pos) (tMul ta tb) := by
  intro pins s σ H Q I h
  refine wpAny_BinOp (bin ha hb I h fun v u s2 x y H2 I2 rx ry q => ?_)
  obtain ⟨i, j, rfl, rfl, ⟨q1, q2⟩, q⟩ := q
  obtain ⟨t, rfl⟩ := rx
  obtain ⟨t', rfl⟩ := ry
  exact mul_int ⟨.int _, H2, I2.tok _, ⟨_, rfl⟩, q⟩ (.of_left (intBits_le_64 q1 q2))

/-! ### comparisons -/
def PC (X : Cx) (op : CmpOp) (a b : Expr) (t : TE) : Prop :=
  ∀ (pins : List (Addr × Obj)) (s : Shared) (σ : St) (H : Hp) (Q : VK), Inv X pins σ H s → t σ H Q →
    wpAny (model X.prog X.w) X.A (eval a X.env) (fun v s₁ => wpAny (model X.prog X.w) X.A (eval b X.env) (fun u s₂ => wpAny (model X.prog X.w) X.A (compareOp op v u) (EP X pins σ Q) X.xe s₂) X.xe s₁) X.xe s
theorem nobehind (b : Expr) {op : CmpOp} (h : op ≠ .In) (h2 : op ≠ .NotIn) : behindInMarks op b = false := by
  have e1 : (op == CmpOp.In) = false := by cases op <;> first | rfl | exact absurd rfl h
  have e2 : (op == CmpOp.NotIn) = false := by cases op <;> first | rfl | exact absurd rfl h2
  cases b <;> simp [behindInMarks, e1, e2]
def tCmp (p : Int → Int → Bool) (ta tb : TE) : TE := fun σ H Q => t2I ta tb (fun i j H2 => Q (.bl (p i j)) H2) σ H
abbrev tLt : TE → TE → TE := tCmp fun i j => decide (i < j)
abbrev tLe : TE → TE → TE := tCmp fun i j => decide (i ≤ j)
abbrev tGt : TE → TE → TE := tCmp fun i j => decide (j < i)
abbrev tGe : TE → TE → TE := tCmp fun i j => decide (j ≤ i)
abbrev tEqI : TE → TE → TE := tCmp fun i j => decide (i = j)
abbrev tNeI : TE → TE → TE := tCmp fun i j => !decide (i = j)
/-- a comparison of two ints, by its rule -/
theorem pc_int {op : CmpOp} {p : Int → Int → Bool} (ha : PE X a ta) (hb : PE X b tb)
    (rule : ∀ (i j : Int) (t u : Tok) (Q : Value → Shared → Prop) (s : Shared), Q (.bool (p i j)) s → wpAny (model X.prog X.w) X.A (compareOp op (.int i t) (.int j u)) Q X.xe s) : PC X op a b (tCmp p ta tb) := by
  intro pins s σ H Q I h
  refine bin ha hb I h fun v u s2 x y H2 I2 rx ry q => ?_
  obtain ⟨i, j, rfl, rfl, q⟩ := q
  obtain ⟨t, rfl⟩ := rx
  obtain ⟨t', rfl⟩ := ry
  exact rule i j t t' _ s2 ⟨.bl _, H2, I2, rfl, q⟩
theorem pc_lt (ha : PE X a ta) (hb : PE X b tb) : PC X .Lt a b (tLt ta tb) := pc_int ha hb fun _ _ _ _ _ _ h => lt_int h
theorem pc_le (ha : PE X a ta) (hb : PE X b tb) : PC X .LtE a b (tLe ta tb) := pc_int ha hb fun _ _ _ _ _ _ h => le_int h
theorem pc_gt (ha : PE X a ta) (hb : PE X b tb) : PC X .Gt a b (tGt ta tb) := pc_int ha hb fun _ _ _ _ _ _ h => gt_int h
theorem pc_ge (ha : PE X a ta) (hb : PE X b tb) : PC X .GtE a b (tGe ta tb) := pc_int ha hb fun _ _ _ _ _ _ h => ge_int h
theorem pc_eqI (ha : PE X a ta) (hb : PE X b tb) : PC X .Eq a b (tEqI ta tb) := pc_int ha hb fun _ _ _ _ _ _ h => eq_int (by rw [Bool.beq_eq_decide_eq]; exact h)
theorem pc_neI (ha : PE X a ta) (hb : PE X b tb) : PC X .NotEq a b (tNeI ta tb) := pc_int ha hb fun _ _ _ _ _ _ h => ne_int (by rw [bne, Bool.beq_eq_decide_eq]; exact h)
/-- is None -/
def tIsN (ta : TE) : TE := fun σ H Q => ta σ H fun x H1 => Q (.bl (decide (x = .non))) H1
def tNotN (ta : TE) : TE := fun σ H Q => ta σ H fun x H1 => Q (.bl (!decide (x = .non))) H1
theorem RelV.none_iff {x : V} {v : Value} (r : RelV x v) : (v == Value.none) = decide (x = .non) := by
  cases x with
  | non => cases r; rfl
  | bl _ => cases r; rfl
  | int _ => obtain ⟨t, rfl⟩ := r; rfl
  | str _ => obtain ⟨t, rfl⟩ := r; rfl
  | byt _ => obtain ⟨t, rfl⟩ := r; rfl
  | flt _ => obtain ⟨t, rfl⟩ := r; rfl
  | ref _ => cases r; rfl
  | ty _ => cases r; rfl
theorem pc_isN {j pos'} (ha : PE X a ta) : PC X .Is a (.Constant .none j pos') (tIsN ta) := by
  intro pins s σ H Q I h
  refine thn (ha pins s σ H _ I h) fun v s1 ⟨x, H1, I1, r1, q1⟩ => ?_
  exact Constant_none (is_none_gen ⟨.bl _, H1, I1, by rw [r1.none_iff]; rfl, q1⟩)
theorem pc_notN {j pos'} (ha : PE X a ta) : PC X .IsNot a (.Constant .none j pos') (tNotN ta) := by
  intro pins s σ H Q I h
  refine thn (ha pins s σ H _ I h) fun v s1 ⟨x, H1, I1, r1, q1⟩ => ?_
  exact Constant_none (isnot_none_gen ⟨.bl _, H1, I1, by rw [r1.none_iff]; rfl, q1⟩)
/-- a comparison as a value, as a test -/
def tB (t : TE) : TT := fun σ H Q => t σ H fun x H1 => ∃ c, x = .bl c ∧ Q c H1
theorem pe_cmp {op : CmpOp} {t : TE} (h : PC X op a b t) (h1 : behindInMarks op b = false := by first | exact nobehind _ (by decide) (by decide) | rfl) : PE X (.Compare a [op] [b] pos) t := fun pins s σ H Q I hw => wpAny_Compare1 (h pins s σ H Q I hw) h1
theorem pt_cmp {op : CmpOp} {t : TE} (h : PC X op a b t) (h1 : behindInMarks op b = false := by first | exact nobehind _ (by decide) (by decide) | rfl) : PT X (.Compare a [op] [b] pos) (tB t) := by
  intro pins s σ H Q I hw
  refine wpAny_isTrue_Compare1 (thn (h pins s σ H _ I hw) fun v s1 h1 => thn h1 fun u s2 h2 => thn h2 fun c s3 ⟨x, H1, I1, r1, q1⟩ => ?_) h1
  obtain ⟨d, rfl, q⟩ := q1
  cases r1
  exact wpAny_truthy_bool ⟨H1, I1, q⟩
/-- an expression whose value is a bool, as a test -/
theorem pt_val {e : Expr} {t : TE} (h : PE X e t) (he : ∀ whole, isTrue e X.env whole = (do let v ← whole; standAt e.pos; holding [v] (truthy v)) := by intro _; rfl) : PT X e (tB t) := by
  intro pins s σ H Q I hw
  refine isTrue_plain (thn (h pins s σ H _ I hw) fun v s1 ⟨x, H1, I1, r1, q1⟩ => ?_) (he _)
  obtain ⟨d, rfl, q⟩ := q1
  cases r1
  exact wpAny_truthy_bool ⟨H1, I1, q⟩

/-! ### and, or, not -/
variable {tA tB' : TT} {rest : List Expr}
def tAnd (t u : TT) : TT := fun σ H Q => t σ H fun c H1 => if c = true then u σ H1 Q else Q false H1
def tOr (t u : TT) : TT := fun σ H Q => t σ H fun c H1 => if c = true then Q true H1 else u σ H1 Q
def tNot (t : TT) : TT := fun σ H Q => t σ H fun c H1 => Q (!c) H1
theorem pw_and1 (ha : PT X a tA) : PW X (.BoolOp .And [a] pos) tA := by
  intro wh pins s σ H Q I h
  refine isTrue_and (thn (ha pins s σ H Q I h) fun c s1 e => ?_)
  cases c with
  | true => exact isTrue_and_nil e
  | false => exact e
theorem pw_or1 (ha : PT X a tA) : PW X (.BoolOp .Or [a] pos) tA := by
  intro wh pins s σ H Q I h
  refine isTrue_or (thn (ha pins s σ H Q I h) fun c s1 e => ?_)
  cases c with
  | false => exact isTrue_or_nil e
  | true => exact e
theorem pw_and (ha : PT X a tA) (hb : PW X (.BoolOp .And (b :: rest) pos) tB') : PW X (.BoolOp .And (a :: b :: rest) pos) (tAnd tA tB') := by
  intro wh pins s σ H Q I h
  refine isTrue_and (thn (ha pins s σ H _ I h) fun c s1 ⟨H1, I1, q1⟩ => ?_)
  cases c with
  | true => exact hb wh pins s1 σ H1 Q I1 q1
  | false => exact ⟨H1, I1, q1⟩
theorem pw_or (ha : PT X a tA) (hb : PW X (.BoolOp .Or (b :: rest) pos) tB') : PW X (.BoolOp .Or (a :: b :: rest) pos) (tOr tA tB') := by
  intro wh pins s σ H Q I h
  refine isTrue_or (thn (ha pins s σ H _ I h) fun c s1 ⟨H1, I1, q1⟩ => ?_)
  cases c with
  | true => exact ⟨H1, I1, q1⟩
  | false => exact hb wh pins s1 σ H1 Q I1 q1
theorem pt_not (ha : PT X a tA) : PT X (.UnaryOp .Not a pos) (tNot tA) := by
  intro pins s σ H Q I h
  exact isTrue_not (ha pins s σ H (fun c H1 => Q (!c) H1) I h)
/-- .. as values (bools) -/
def tAndV (ta tb : TE) : TE := fun σ H Q => ta σ H fun x H1 => ∃ c, x = .bl c ∧ if c = true then tb σ H1 Q else Q (.bl false) H1
def tOrV (ta tb : TE) : TE := fun σ H Q => ta σ H fun x H1 => ∃ c, x = .bl c ∧ if c = true then Q (.bl true) H1 else tb σ H1 Q
def tNotV (ta : TE) : TE := fun σ H Q => ta σ H fun x H1 => ∃ c, x = .bl c ∧ Q (.bl (!c)) H1
theorem pe_one {op} {t : TE} (h : PE X a t) : PE X (.BoolOp op [a] pos) t := fun pins s σ H Q I hw => BoolOp_one (h pins s σ H Q I hw)
theorem pe_and (ha : PE X a ta) (hb : PE X (.BoolOp .And (b :: rest) pos) tb) : PE X (.BoolOp .And (a :: b :: rest) pos) (tAndV ta tb) := by
  intro pins s σ H Q I h
  refine BoolOp_and (thn (ha pins s σ H _ I h) fun v s1 ⟨x, H1, I1, r1, q1⟩ => ?_)
  obtain ⟨c, rfl, q1⟩ := q1
  cases r1
  refine wpAny_truthy_bool ?_
  cases c with
  | true => exact hb pins s1 σ H1 Q I1 q1
  | false => exact ⟨.bl false, H1, I1, rfl, q1⟩
theorem pe_or (ha : PE X a ta) (hb : PE X (.BoolOp .Or (b :: rest) pos) tb) : PE X (.BoolOp .Or (a :: b :: rest) pos) (tOrV ta tb) := by
  intro pins s σ H Q I h
  refine BoolOp_or (thn (ha pins s σ H _ I h) fun v s1 ⟨x, H1, I1, r1, q1⟩ => ?_)
  obtain ⟨c, rfl, q1⟩ := q1
  cases r1
  refine wpAny_truthy_bool ?_
  cases c with
  | false => exact hb pins s1 σ H1 Q I1 q1
  | true => exact ⟨.bl true, H1, I1, rfl, q1⟩
theorem pe_not (ha : PE X a ta) : PE X (.UnaryOp .Not a pos) (tNotV ta) := by
  intro pins s σ H Q I h
  refine UnaryOp_ (thn (ha pins s σ H _ I h) fun v s1 ⟨x, H1, I1, r1, q1⟩ => ?_)
  obtain ⟨c, rfl, q1⟩ := q1
  cases r1
  exact not_of (wpAny_truthy_bool ⟨.bl (!c), H1, I1, rfl, q1⟩)
/-- a if t else b -/
def tIf (t : TT) (ta tb : TE) : TE := fun σ H Q => t σ H fun c H1 => if c = true then ta σ H1 Q else tb σ H1 Q
theorem pe_ifExp {c : Expr} (hc : PT X c tA) (ha : PE X a ta) (hb : PE X b tb) : PE X (.IfExp c a b pos) (tIf tA ta tb) := by
  intro pins s σ H Q I h
  refine wpAny_IfExp (thn (hc pins s σ H _ I h) fun d s1 ⟨H1, I1, q1⟩ => ?_)
  cases d with
  | true => exact ha pins s1 σ H1 Q I1 q1
  | false => exact hb pins s1 σ H1 Q I1 q1
end
end L2

namespace L2
open PySem PySem.Spec PyProof.Rows

/-! ### a list, a tuple that is read: tracked, frozen, or an object of the module -/
def SqL (K : PySem.W.Frag) (H : Hp) (a : Addr) (xs : List V) : Prop :=
  Rd H a (.lst xs) ∨
    ∃ (o : Obj) (its : Array Value) (n : Nat), K.lookup a = some o ∧ o.cls = .type "list" ∧ o.dict = none ∧ o.data = .seq its n ∧ its.size ≤ sizeLine ∧ Vals xs its.toList
def SqT (K : PySem.W.Frag) (H : Hp) (a : Addr) (xs : List V) : Prop :=
  Rd H a (.tup xs) ∨
    ∃ (o : Obj) (its : Array Value) (n : Nat), K.lookup a = some o ∧ o.cls = .type "tuple" ∧ o.data = .seq its n ∧ its.size ≤ sizeLine ∧ Vals xs its.toList
def absV : Value → Option V
  | .none => some .non
  | .bool b => some (.bl b)
  | .int i _ => some (.int i)
  | .str x _ => some (.str x)
  | .bytes b _ => some (.byt b)
  | .float b _ => some (.flt b)
  | .ref a => some (.ref a)
  | .type n => some (.ty n)
  | _ => none
theorem RelV.abs {x : V} {u : Value} (r : RelV x u) : absV u = some x := by
  cases x with
  | non => cases r; rfl
  | bl _ => cases r; rfl
  | int _ => obtain ⟨t, rfl⟩ := r; rfl
  | str _ => obtain ⟨t, rfl⟩ := r; rfl
  | byt _ => obtain ⟨t, rfl⟩ := r; rfl
  | flt _ => obtain ⟨t, rfl⟩ := r; rfl
  | ref _ => cases r; rfl
  | ty _ => cases r; rfl
theorem RelV.inj {x y : V} {u : Value} (r : RelV x u) (q : RelV y u) : x = y := Option.some.inj (r.abs.symm.trans q.abs)
theorem Vals.inj : ∀ {xs ys : List V} {us : List Value}, Vals xs us → Vals ys us → xs = ys
  | _, _, _, .nil, .nil => rfl
  | _, _, _, .cons r t, .cons r' t' => by rw [r.inj r', Vals.inj t t']
section
variable {X : Cx} {pins : List (Addr × Obj)} {σ : St} {H : Hp} {s : Shared} {a : Addr} {xs ys : List V}
theorem SqL.of {K : PySem.W.Frag} (h : H a = some (.lst xs)) : SqL K H a xs := .inl (.inl h)
theorem SqT.of {K : PySem.W.Frag} (h : H a = some (.tup xs)) : SqT K H a xs := .inl (.inl h)
theorem Inv.list (I : Inv X pins σ H s) (h : SqL X.K H a xs) : ∃ its : List Value, Vals xs its ∧ PlainL s.heap a its.toArray ∧ xs.length ≤ sizeLine := by
  rcases h with h | ⟨o, its, n, hk, hc, hd, hs, hz, r⟩
  · obtain ⟨z, its, n, r, e⟩ := h.ok I.hok
    exact ⟨its, r, ⟨_, n, e, rfl, rfl, rfl⟩, z⟩
  · refine ⟨its.toList, r, ⟨o, n, I.kIn a o hk, hc, hd, by simpa using hs⟩, ?_⟩
    have e := r.length
    simp only [Array.length_toList] at e
    omega
theorem Inv.tuple (I : Inv X pins σ H s) (h : SqT X.K H a xs) : ∃ its : List Value, Vals xs its ∧ IsTup s.heap a its.toArray ∧ xs.length ≤ sizeLine := by
  rcases h with h | ⟨o, its, n, hk, hc, hs, hz, r⟩
  · obtain ⟨z, its, r, p⟩ := h.ok I.hok
    exact ⟨its, r, p, z⟩
  · refine ⟨its.toList, r, ⟨o, I.kIn a o hk, hc, n, by simpa using hs⟩, ?_⟩
    have e := r.length
    simp only [Array.length_toList] at e
    omega
theorem Inv.list_inj (I : Inv X pins σ H s) (h : SqL X.K H a xs) (h' : SqL X.K H a ys) : xs = ys := by
  obtain ⟨its, r, ⟨o, n, e, _, _, d⟩, _⟩ := I.list h
  obtain ⟨its', r', ⟨o', n', e', _, _, d'⟩, _⟩ := I.list h'
  rw [e] at e'; cases e'
  rw [d] at d'
  injection d' with d1 _
  have : its = its' := by simpa using congrArg Array.toList d1
  subst this
  exact r.inj r'
theorem Inv.tuple_inj (I : Inv X pins σ H s) (h : SqT X.K H a xs) (h' : SqT X.K H a ys) : xs = ys := by
  obtain ⟨its, r, ⟨o, e, _, n, d⟩, _⟩ := I.tuple h
  obtain ⟨its', r', ⟨o', e', _, n', d'⟩, _⟩ := I.tuple h'
  rw [e] at e'; cases e'
  rw [d] at d'
  injection d' with d1 _
  have : its = its' := by simpa using congrArg Array.toList d1
  subst this
  exact r.inj r'
end

/-! ### another wish about exceptions -/
abbrev Cx.wish (X : Cx) (E : Value → Shared → Prop) : Cx := { X with xe := E }
/-- no exception leaves -/
abbrev Cx.nox (X : Cx) : Cx := X.wish fun _ _ => False
theorem Cx.Ok.wish {X : Cx} (ok : X.Ok) (E : Value → Shared → Prop) : (X.wish E).Ok :=
  ⟨ok.mod, ok.kind, ok.glob, ok.blt, ok.above, ok.inj, ok.has, ok.cab, ok.hd, ok.frames, ok.stk, ok.exf, ok.bs, ok.bsz, ok.noex, ok.exfs, ok.funs, ok.frf⟩
theorem Cx.Ok.unwish {X : Cx} {E : Value → Shared → Prop} (ok : (X.wish E).Ok) : X.Ok :=
  ⟨ok.mod, ok.kind, ok.glob, ok.blt, ok.above, ok.inj, ok.has, ok.cab, ok.hd, ok.frames, ok.stk, ok.exf, ok.bs, ok.bsz, ok.noex, ok.exfs, ok.funs, ok.frf⟩
section
variable {X : Cx} {pins : List (Addr × Obj)} {σ : St} {H : Hp} {s : Shared} {E : Value → Shared → Prop}
theorem Inv.wish (I : Inv X pins σ H s) (E : Value → Shared → Prop) : Inv (X.wish E) pins σ H s := ⟨I.ok.wish E, I.os, I.bare, I.base, I.loc, I.cell, I.free, I.freeC, I.pin, I.hok, I.len⟩
theorem Inv.unwish (I : Inv (X.wish E) pins σ H s) : Inv X pins σ H s := ⟨I.ok.unwish, I.os, I.bare, I.base, I.loc, I.cell, I.free, I.freeC, I.pin, I.hok, I.len⟩
theorem SP.unwish {D : Ends} {f : Flow} {s' : Shared} (h : SP (X.wish E) pins D f s') : SP X pins D f s' := by
  cases f with
  | next => obtain ⟨σ', H', I, q⟩ := h; exact ⟨σ', H', I.unwish, q⟩
  | brk => obtain ⟨σ', H', I, q⟩ := h; exact ⟨σ', H', I.unwish, q⟩
  | cont => obtain ⟨σ', H', I, q⟩ := h; exact ⟨σ', H', I.unwish, q⟩
  | ret u => obtain ⟨v, σ', H', I, r, q⟩ := h; exact ⟨v, σ', H', I.unwish, r, q⟩
theorem PE.nox {e : Expr} {t : TE} (h : PE X.nox e t) : PE X e t := fun pins s σ H Q I hw =>
  wpAny_mono (h pins s σ H Q (I.wish _) hw) (fun _ _ ⟨v, H', I', r, q⟩ => ⟨v, H', I'.unwish, r, q⟩) fun _ _ z => False.elim z
theorem PT.nox {e : Expr} {t : TT} (h : PT X.nox e t) : PT X e t := fun pins s σ H Q I hw =>
  wpAny_mono (h pins s σ H Q (I.wish _) hw) (fun _ _ ⟨H', I', q⟩ => ⟨H', I'.unwish, q⟩) fun _ _ z => False.elim z
theorem PSs.nox {st : List Stmt} {t : TS} (h : PSs X.nox st t) : PSs X st t := fun pins s σ H D I hw =>
  wpAny_mono (h pins s σ H D (I.wish _) hw) (fun _ _ q => q.unwish) fun _ _ z => False.elim z
end

/-! ### blocks and small statements -/
section
variable {X : Cx} {st : Stmt} {rest : List Stmt} {t u : TS} {e : Expr} {te : TE} {pos : Pos}
def tNext : TS := fun D σ H => D.nx σ H
def tSeq (t u : TS) : TS := fun D σ H => t { D with nx := u D } σ H
theorem pss_nil : PSs X [] tNext := fun _ _ σ H _ I h => wpAny_execs_nil ⟨σ, H, I, h⟩
theorem pss_cons (h1 : PS X st t) (h2 : PSs X rest u) : PSs X (st :: rest) (tSeq t u) := by
  intro pins s σ H D I h
  refine wpAny_execs_cons (thn (h1 pins s σ H { D with nx := u D } I h) fun f s1 q => ?_)
  cases f with
  | next =>
    obtain ⟨σ', H', I', q⟩ := q
    exact h2 pins s1 σ' H' D I' q
  | ret v => exact q
  | brk => exact q
  | cont => exact q
theorem pss_one (h1 : PS X st t) : PSs X [st] t := by
  intro pins s σ H D I h
  refine wpAny_execs_cons (thn (h1 pins s σ H D I h) fun f s1 q => ?_)
  cases f with
  | next => exact wpAny_execs_nil q
  | ret v => exact q
  | brk => exact q
  | cont => exact q
def tBreak : TS := fun D σ H => D.bk σ H
def tCont : TS := fun D σ H => D.ct σ H
theorem ps_pass : PS X (.Pass pos) tNext := fun _ _ σ H _ I h => wpAny_Pass ⟨σ, H, I, h⟩
theorem ps_break : PS X (.Break pos) tBreak := fun _ _ σ H _ I h => wpAny_Break ⟨σ, H, I, h⟩
theorem ps_continue : PS X (.Continue pos) tCont := fun _ _ σ H _ I h => wpAny_Continue ⟨σ, H, I, h⟩
/-- in a def's body nothing is shown -/
theorem Inv.quiet {pins : List (Addr × Obj)} {σ : St} {H : Hp} {s : Shared} (I : Inv X pins σ H s) : interactive X.env = false := by simp [interactive, I.ok.kind]
/-- a docstring -/
theorem ps_doc {x j pos pos'} : PS X (.Expr (.Constant (.str x) j pos) pos') tNext := fun _ s σ H _ I h => wpAny_Expr (Calls.Constant_str (show SP X _ _ .next { s with toks := s.toks + 1 } from ⟨σ, H, I.tok _, h⟩)) I.quiet
/-- an expression whose value is dropped -/
def tDrop (te : TE) : TS := fun D σ H => te σ H fun _ H1 => D.nx σ H1
theorem ps_expr (he : PE X e te) (hs : swapsWith e none pos.line X.env = pure false := by rfl) : PS X (.Expr e pos) (tDrop te) := by
  intro pins s σ H D I h
  exact wpAny_Expr_any (thn (he pins s σ H _ I h) fun v s1 ⟨x, H1, I1, r1, q1⟩ => ⟨σ, H1, I1, q1⟩) I.quiet hs
def tRet (te : TE) : TS := fun D σ H => te σ H D.rt
theorem ps_ret (he : PE X e te) : PS X (.Return (some e) pos) (tRet te) := by
  intro pins s σ H D I h
  exact wpAny_Return_some (thn (he pins s σ H _ I h) fun v s1 ⟨x, H1, I1, r1, q1⟩ => ⟨x, σ, H1, I1, r1, q1⟩)
def tRetN : TS := fun D _ H => D.rt .non H
theorem ps_retN : PS X (.Return none pos) tRetN := fun _ _ σ H _ I h => wpAny_Return_none ⟨.non, σ, H, I, rfl, h⟩
def tIfS (c : TT) (t u : TS) : TS := fun D σ H => c σ H fun b H1 => if b = true then t D σ H1 else u D σ H1
theorem ps_if {c : Expr} {a b : List Stmt} {tc : TT} (hc : PT X c tc) (ha : PSs X a t) (hb : PSs X b u) : PS X (.If c a b pos) (tIfS tc t u) := by
  intro pins s σ H D I h
  refine wpAny_If (thn (hc pins s σ H _ I h) fun d s1 ⟨H1, I1, q1⟩ => ?_)
  cases d with
  | true => exact ha pins s1 σ H1 D I1 q1
  | false => exact hb pins s1 σ H1 D I1 q1
/-- code that the proof never comes to -/
def tNever : TS := fun _ _ _ => False
theorem ps_never : PS X st tNever := fun _ _ _ _ _ _ h => h.elim
theorem pss_never {sts : List Stmt} : PSs X sts tNever := fun _ _ _ _ _ _ h => h.elim
end

/-! ### targets -/
abbrev TG := V → St → Hp → (St → Hp → Prop) → Prop
abbrev TGs := List V → St → Hp → (St → Hp → Prop) → Prop
def PG (X : Cx) (target : Expr) (t : TG) : Prop :=
  ∀ (pins : List (Addr × Obj)) (s : Shared) (σ : St) (H : Hp) (v : V) (u : Value) (Q : St → Hp → Prop), Inv X pins σ H s → RelV v u → t v σ H Q →
    wpAny (model X.prog X.w) X.A (assign target X.env u) (fun _ s' => ∃ σ' H', Inv X pins σ' H' s' ∧ Q σ' H') X.xe s
/-- several targets, one after another -/
def PGs (X : Cx) (ts : List Expr) (t : TGs) : Prop :=
  ∀ (pins : List (Addr × Obj)) (s : Shared) (σ : St) (H : Hp) (vs : List V) (us : List Value) (Q : St → Hp → Prop), Inv X pins σ H s → Vals vs us → t vs σ H Q →
    wpAny (model X.prog X.w) X.A (assignInOrder ((assignEach ts X.env).map (·.2)) us) (fun _ s' => ∃ σ' H', Inv X pins σ' H' s' ∧ Q σ' H') X.xe s
/-- o[i] = v, by values -/
abbrev TSet := V → V → V → Hp → (Hp → Prop) → Prop
def PSet (X : Cx) (t : TSet) : Prop :=
  ∀ (pins : List (Addr × Obj)) (s : Shared) (σ : St) (H : Hp) (o i v : V) (ov iv u : Value) (Q : Hp → Prop), Inv X pins σ H s → RelV o ov → RelV i iv → RelV v u → t o i v H Q →
    wpAny (model X.prog X.w) X.A (setItem ov iv u) (fun _ s' => ∃ H', Inv X pins σ H' s' ∧ Q H') X.xe s
/-- a op= b, by values -/
abbrev TIp := V → V → Hp → VK → Prop
def PIp (X : Cx) (op : Operator) (t : TIp) : Prop :=
  ∀ (pins : List (Addr × Obj)) (s : Shared) (σ : St) (H : Hp) (x y : V) (v u : Value) (Q : VK), Inv X pins σ H s → RelV x v → RelV y u → t x y H Q →
    wpAny (model X.prog X.w) X.A (inplaceOp op v u) (EP X pins σ Q) X.xe s
section
variable {X : Cx} {pos : Pos}
def gName (i : Nat) : TG := fun v σ H Q => Q (σ.set i (some v)) H
theorem pg_name {i : Nat} {x : Str} (hN : X.N.Nodup) (hi : X.N[i]? = some x) (hx : Loc X.env.scope x) (hf : X.fn x = true ∨ X.env.scope.names.lookup x = some .local := by first | exact .inl rfl | exact .inr rfl | assumption) : PG X (.Name x pos) (gName i) := by
  intro pins s σ H v u Q I r h
  exact wpAny_assign_Name (store_ok I hN hi hx r (fun s' I' => ⟨_, H, I', h⟩) hf)
def gNil : TGs := fun vs σ H Q => vs = [] ∧ Q σ H
def gCons (t : TG) (u : TGs) : TGs := fun vs σ H Q => ∃ v r, vs = v :: r ∧ t v σ H fun σ' H' => u r σ' H' Q
theorem pgs_nil : PGs X [] gNil := by
  intro pins s σ H vs us Q I r h
  obtain ⟨e, h⟩ := h
  subst e
  cases r
  exact assignInOrder_nil ⟨σ, H, I, h⟩
theorem pgs_cons {e : Expr} {es : List Expr} {t : TG} {u : TGs} (h1 : PG X e t) (h2 : PGs X es u)
    (hs : (assignEach (e :: es) X.env).map (·.2) = assign e X.env :: (assignEach es X.env).map (·.2) := by rfl) : PGs X (e :: es) (gCons t u) := by
  intro pins s σ H vs us Q I r h
  obtain ⟨v, vr, e1, h⟩ := h
  subst e1
  cases r with
  | cons r rr =>
    rw [hs]
    refine assignInOrder_cons (thn (h1 pins s σ H _ _ _ I r h) fun _ s1 ⟨σ1, H1, I1, q1⟩ => ?_)
    exact h2 pins s1 σ1 H1 _ _ Q I1 rr q1
/-- (a, b, ..) = a tuple of that length -/
def gTup (K : PySem.W.Frag) (n : Nat) (t : TGs) : TG := fun v σ H Q => ∃ a xs, v = .ref a ∧ SqT K H a xs ∧ xs.length = n ∧ t xs σ H Q
theorem pg_tup {es : List Expr} {k : Nat} {t : TGs} {n : Nat} (hc : X.calm = true) (h : PGs X es t)
    (hn : (assignEach es X.env).length = n := by rfl) (hst : (assignEach es X.env).findIdx? (·.1) = none := by rfl) : PG X (.Tuple es k pos) (gTup X.K n t) := by
  intro pins s σ H v u Q I r hw
  obtain ⟨a, xs, e1, hq, hl, hw⟩ := hw
  subst e1
  cases r
  obtain ⟨its, rv, ht, hz⟩ := I.tuple hq
  refine assign_Tuple_tuple (I.ok.hd hc) ht (by simp [hn, ← hl, rv.length]) hst fun h' hx => ?_
  have I1 : Inv X pins σ H { s with heap := h' } := I.kept (t' := s.toks) fun b o e => hx b o (Nat.ne_of_lt (Heap.lt_size e)) e
  exact h pins _ σ H xs _ Q I1 (by simpa using rv) hw
/-- o[i] = .. -/
def gSub (to ti : TE) (t : TSet) : TG := fun v σ H Q => to σ H fun o H1 => ti σ H1 fun i H2 => t o i v H2 fun H3 => Q σ H3
theorem pg_sub {o i : Expr} {to ti : TE} {t : TSet} (ho : PE X o to) (hi : PE X i ti) (hs : PSet X t)
    (ha : ∀ v, assign (.Subscript o i pos) X.env v = (do
      let ov ← holding [v] (eval o X.env)
      let iv ← holding [v, ov] (eval i X.env)
      standAt pos
      holding [v, ov, iv] (setItem ov iv v)
      release [v, ov, iv] []) := by intro _; rfl) : PG X (.Subscript o i pos) (gSub to ti t) := by
  intro pins s σ H v u Q I r h
  rw [ha]
  refine wpAny_bind (wpAny_holding (thn (ho pins s σ H _ I h) fun ov s1 ⟨x, H1, I1, r1, q1⟩ => ?_))
  refine wpAny_bind (wpAny_holding (thn (hi pins s1 σ H1 _ I1 q1) fun iv s2 ⟨y, H2, I2, r2, q2⟩ => ?_))
  refine wpAny_bind (wpAny_standAt (wpAny_bind (wpAny_holding (thn (hs pins s2 σ H2 x y v ov iv u _ I2 r1 r2 r q2) fun _ s3 ⟨H3, I3, q3⟩ => ?_))))
  exact wpAny_release ⟨σ, H3, I3, q3⟩
/-- target = value -/
def tAsg (te : TE) (g : TG) : TS := fun D σ H => te σ H fun x H1 => g x σ H1 D.nx
theorem ps_asg {tg e : Expr} {te : TE} {g : TG} (he : PE X e te) (hg : PG X tg g) (hs : swapsWithSole [tg] e pos.line X.env = pure false := by rfl) (hw : swappedStores [tg] e X.env = pure none := by rfl)
    (h1 : (assignEach [tg] X.env).map (·.2) = [assign tg X.env] := by rfl) : PS X (.Assign [tg] e pos) (tAsg te g) := by
  intro pins s σ H D I h
  refine wpAny_Assign_stores (thn (he pins s σ H _ I h) fun v s1 ⟨x, H1, I1, r1, q1⟩ => ?_) hs hw
  rw [h1]
  exact thn (hg pins s1 σ H1 x v _ I1 r1 q1) fun _ s2 q => q
/-- name = value -/
theorem ps_set {i : Nat} {x : Str} {e : Expr} {te : TE} {pos' : Pos} (hN : X.N.Nodup) (hi : X.N[i]? = some x) (hx : Loc X.env.scope x) (he : PE X e te) (hs : swapsWith e (some (.Name x pos')) pos.line X.env = pure false := by rfl) (hf : X.fn x = true ∨ X.env.scope.names.lookup x = some .local := by first | exact .inl rfl | exact .inr rfl | assumption) :
    PS X (.Assign [.Name x pos'] e pos) (tAsg te (gName i)) := by
  intro pins s σ H D I h
  refine wpAny_Assign_Name (thn (he pins s σ H _ I h) fun v s1 ⟨y, H1, I1, r1, q1⟩ => ?_) hs
  exact store_ok I1 hN hi hx r1 (fun s2 I2 => ⟨_, H1, I2, q1⟩) hf
/-- a, b = x, y with plain local names: stored from the right; the pair itself is not tracked (the opening rows as in PyProof/Rows/TupAssign.lean:23) -/
def tPar (i j : Nat) (ta : TA) : TS := fun D σ H => ta σ H fun vs H1 => ∃ v w, vs = [v, w] ∧ D.nx ((σ.set i (some v)).set j (some w)) H1
theorem ps_par {i j : Nat} {x y : Str} {a b : Expr} {ta : TA} {px py pt : Pos} {kt k2 pt2} (hc : X.calm = true) (hN : X.N.Nodup) (hi : X.N[i]? = some x) (hj : X.N[j]? = some y) (hij : i ≠ j)
    (hx : X.env.scope.names.lookup x = some .local) (hy : X.env.scope.names.lookup y = some .local) (ha : PA X [a, b] ta)
    (hw : swappedStores [.Tuple [.Name x px, .Name y py] kt pt] (.Tuple [a, b] k2 pt2) X.env = pure (some [x, y]))
    (hs : swapsWithSole [.Tuple [.Name x px, .Name y py] kt pt] (.Tuple [a, b] k2 pt2) pos.line X.env = pure false := by rfl) :
    PS X (.Assign [.Tuple [.Name x px, .Name y py] kt pt] (.Tuple [a, b] k2 pt2) pos) (tPar i j ta) := by
  intro pins s σ H D I h
  rw [exec_Assign_arm]
  refine wpAny_bind (wpAny_standAt ?_)
  rw [hs]
  refine wpAny_bind (wpAny_pure ?_)
  rw [if_neg (by decide)]
  refine wpAny_bind (Tuple_ (thn (ha _ pins s σ H _ I h) fun us s1 ⟨vs, H1, I1, r1, q1⟩ => ?_))
  obtain ⟨v, w, e1, q1⟩ := q1
  subst e1
  obtain ⟨u1, u2, rfl, rv, rw'⟩ : ∃ u1 u2, us = [u1, u2] ∧ RelV v u1 ∧ RelV w u2 := by
    cases r1 with
    | cons p q =>
      cases q with
      | cons p' q' =>
        cases q'
        exact ⟨_, _, rfl, p, p'⟩
  refine wpAny_newObj_type ?_ (by show 2 ≤ sizeLine; decide)
  have I2 : Inv X pins σ H1 { s1 with heap := s1.heap.push { cls := .type "tuple", data := .seq [u1, u2].toArray } } := I1.kept (t' := s1.toks) fun b o e => Heap.get?_push_of_some _ e
  rw [hw]
  refine wpAny_bind (wpAny_pure ?_)
  show wpAny (model X.prog X.w) X.A (do rule "assign.swapped-stores"; let items ← unpackItems (.ref s1.heap.objs.size) 2 none; assignInOrder [fun v => bindName X.env y v, fun v => bindName X.env x v] items.reverse; pure Flow.next) _ _ _
  refine wpAny_bind (wpAny_rule (wpAny_bind (unpackItems_tuple (items := #[u1, u2]) (I.ok.hd hc) (IsTup.new s1.heap _) fun h' hx' => ?_)))
  have I3 := I2.kept (h' := h') (t' := s1.toks) fun b o e => hx' b o (Nat.ne_of_lt (Heap.lt_size e)) e
  show wpAny _ _ (assignInOrder [fun v => bindName X.env y v, fun v => bindName X.env x v] [u2, u1] >>= fun _ => pure Flow.next) _ _ _
  refine wpAny_bind (assignInOrder_cons (wpAny_bindName (store_ok I3 hN hj (.inl hy) rw' (fun s2 I4 => ?_) (.inr hy))))
  refine assignInOrder_cons (wpAny_bindName (store_ok I4 hN hi (.inl hx) rv (fun s3 I5 => assignInOrder_nil (wpAny_pure ?_)) (.inr hx)))
  rw [List.set_comm _ _ (Ne.symm hij)] at I5
  exact ⟨_, H1, I5, q1⟩
/-- name op= e -/
def tAug (i : Nat) (te : TE) (ti : TIp) : TS := fun D σ H => ∃ x, σ[i]? = some (some x) ∧ te σ H fun y H1 => ti x y H1 fun z H2 => D.nx (σ.set i (some z)) H2
theorem ps_aug {i : Nat} {x : Str} {e : Expr} {te : TE} {op : Operator} {ti : TIp} {pos' : Pos} (hN : X.N.Nodup) (hi : X.N[i]? = some x) (hx : Loc X.env.scope x) (he : PE X e te) (ho : PIp X op ti) (hf : X.fn x = true ∨ X.env.scope.names.lookup x = some .local := by first | exact .inl rfl | exact .inr rfl | assumption) :
    PS X (.AugAssign (.Name x pos') op e pos) (tAug i te ti) := by
  intro pins s σ H D I h
  obtain ⟨v, e1, h⟩ := h
  obtain ⟨m, hn, hl⟩ := I.loc
  have vis : Vis X.env.scope x := by rcases hx with k | k; exact .inl k; exact .inr (.inl k)
  obtain ⟨u, r, l⟩ := hl i x v hi e1 vis
  refine wpAny_AugAssign_Name ?_
  have go : wpAny (model X.prog X.w) X.A (eval e X.env) (fun w s₂ => wpAny (model X.prog X.w) X.A (inplaceOp op u w) (fun r s₃ => wpAny (model X.prog X.w) X.A (storeName X.env x r) (fun _ => SP X pins D .next) X.xe s₃) X.xe s₂) X.xe s := by
    refine thn (he pins s σ H _ I h) fun w s1 ⟨y, H1, I1, r1, q1⟩ => ?_
    refine thn (ho pins s1 σ H1 v y u w _ I1 r r1 q1) fun z s2 ⟨zv, H2, I2, r2, q2⟩ => ?_
    exact store_ok I2 hN hi hx r2 (fun s3 I3 => ⟨_, H2, I3, q2⟩) hf
  rcases l with ⟨hk, hm⟩ | ⟨hk, c, hc, hcell⟩
  · exact wpAny_loadName_local I.ok.kind hk hn hm go
  · rcases hk with hk | hk
    · exact wpAny_loadName_cell I.ok.kind hk hc hcell go
    · rcases hx with k | k
      · have : X.env.scope.names.lookup x = some .free := hk
        rw [k] at this; cases this
      · have : X.env.scope.names.lookup x = some .free := hk
        rw [k] at this; cases this
/-- o[i] op= e -/
def tAugS (to ti te : TE) (tget : V → V → Hp → VK → Prop) (tip : TIp) (tset : TSet) : TS := fun D σ H => to σ H fun o H1 => ti σ H1 fun i H2 => tget o i H2 fun x H3 => te σ H3 fun y H4 => tip x y H4 fun z H5 => tset o i z H5 fun H6 => D.nx σ H6
/-- o[i], by values -/
def PGet (X : Cx) (t : V → V → Hp → VK → Prop) : Prop :=
  ∀ (pins : List (Addr × Obj)) (s : Shared) (σ : St) (H : Hp) (o i : V) (ov iv : Value) (Q : VK), Inv X pins σ H s → RelV o ov → RelV i iv → t o i H Q →
    wpAny (model X.prog X.w) X.A (getItem ov iv) (EP X pins σ Q) X.xe s
theorem ps_augS {o i e : Expr} {to ti te : TE} {tget : V → V → Hp → VK → Prop} {tip : TIp} {tset : TSet} {op : Operator} {tpos : Pos} (ho : PE X o to) (hi : PE X i ti) (hg : PGet X tget) (he : PE X e te) (hp : PIp X op tip) (hs : PSet X tset)
    (ha : ∀ ov iv new, augStore i ov iv new = (do holding [new, ov, iv] (setItem ov iv new); release [new, ov, iv] []; pure .next) := by intros; rfl) : PS X (.AugAssign (.Subscript o i tpos) op e pos) (tAugS to ti te tget tip tset) := by
  intro pins s σ H D I h
  refine wpAny_AugAssign_SubscriptAny (thn (ho pins s σ H _ I h) fun ov s1 ⟨x1, H1, I1, r1, q1⟩ => ?_) ha
  refine thn (hi pins s1 σ H1 _ I1 q1) fun iv s2 ⟨x2, H2, I2, r2, q2⟩ => ?_
  refine thn (hg pins s2 σ H2 x1 x2 ov iv _ I2 r1 r2 q2) fun old s3 ⟨x3, H3, I3, r3, q3⟩ => ?_
  refine thn (he pins s3 σ H3 _ I3 q3) fun v s4 ⟨x4, H4, I4, r4, q4⟩ => ?_
  refine thn (hp pins s4 σ H4 x3 x4 old v _ I4 r3 r4 q4) fun new s5 ⟨x5, H5, I5, r5, q5⟩ => ?_
  exact thn (hs pins s5 σ H5 x1 x2 x5 ov iv new _ I5 r1 r2 r5 q5) fun _ s6 ⟨H6, I6, q6⟩ => ⟨σ, H6, I6, q6⟩
/-- ints -/
def ipI (f : Int → Int → Int) : TIp := fun x y H Q => ∃ i j, x = .int i ∧ y = .int j ∧ Q (.int (f i j)) H
theorem ip_add : PIp X .Add (ipI fun i j => i + j) := by
  intro pins s σ H x y v u Q I r1 r2 h
  obtain ⟨i, j, e1, e2, q⟩ := h
  subst e1; subst e2
  obtain ⟨t, rfl⟩ := r1
  obtain ⟨t', rfl⟩ := r2
  exact iadd_int ⟨.int _, H, I.tok _, ⟨_, rfl⟩, q⟩
theorem ip_sub : PIp X .Sub (ipI fun i j => i - j) := by
  intro pins s σ H x y v u Q I r1 r2 h
  obtain ⟨i, j, e1, e2, q⟩ := h
  subst e1; subst e2
  obtain ⟨t, rfl⟩ := r1
  obtain ⟨t', rfl⟩ := r2
  exact isub_int ⟨.int _, H, I.tok _, ⟨_, rfl⟩, q⟩
end

/-! ### while -/
section
variable {X : Cx} {pos : Pos}
/-- the invariant W with its measure -/
def tWhile (c : TT) (tb : TS) : TS := fun D σ H => ∃ W : Nat → St → Hp → Prop, (∃ m, W m σ H) ∧ ∀ m σ H, W m σ H →
  c σ H fun b H1 => if b = true then ∃ N : St → Hp → Prop, (∀ σ' H', N σ' H' → ∃ m', m' < m ∧ W m' σ' H') ∧ tb { D with nx := N, ct := N, bk := D.nx } σ H1 else D.nx σ H1
theorem ps_while {c : Expr} {body : List Stmt} {tc : TT} {tb : TS} (hp : PassesOwn (model X.prog X.w) X.A X.env X.xe) (hc : PT X c tc) (hb : PSs X body tb) : PS X (.While c body [] pos) (tWhile tc tb) := by
  intro pins s σ H D I h
  obtain ⟨W, ⟨m0, w0⟩, turn⟩ := h
  refine wpAny_While (codeAny_whileLoop (fun n s' => ∃ σ' H', Inv X pins σ' H' s' ∧ W n σ' H') ?_ m0 ⟨σ, H, I, w0⟩)
  rintro n s1 ⟨σ1, H1, I1, w1⟩
  refine wpAny_passesOwn hp (thn (hc pins s1 σ1 H1 _ I1 (turn n σ1 H1 w1)) fun b s2 ⟨H2, I2, q2⟩ => ?_)
  cases b with
  | true =>
    obtain ⟨N, hN, q2⟩ := q2
    rw [if_pos rfl]
    refine wpAny_passesOwn hp (thn (hb pins s2 σ1 H2 _ I2 q2) fun f s3 q3 => ?_)
    cases f with
    | next =>
      obtain ⟨σ3, H3, I3, n3⟩ := q3
      obtain ⟨m', hm, w3⟩ := hN σ3 H3 n3
      exact ⟨m', hm, σ3, H3, I3, w3⟩
    | cont =>
      obtain ⟨σ3, H3, I3, n3⟩ := q3
      obtain ⟨m', hm, w3⟩ := hN σ3 H3 n3
      exact ⟨m', hm, σ3, H3, I3, w3⟩
    | brk => exact q3
    | ret v => exact q3
  | false =>
    rw [if_neg Bool.false_ne_true]
    exact wpAny_execs_nil ⟨σ1, H2, I2, q2⟩
end

/-! ### what a loop or a comprehension walks -/
/-- at turn i: it yields x (the heap may grow), or it stops -/
structure It where
  go : Nat → Hp → Prop
  yld : Nat → Hp → V → Hp → Prop
  stop : Nat → Hp → Prop
/-- the iterator's own objects may turn: they are not the frame's, not pinned, younger than the entry (or a comprehension's own) -/
def FpOk (X : Cx) (pins : List (Addr × Obj)) (H : Hp) (b : Addr) : Prop :=
  H b = none ∧ b ≠ X.env.locals ∧ b ∉ X.fs ∧ (b ∈ X.ex ∨ X.s₀.heap.objs.size ≤ b) ∧ (∀ x c, X.env.cells.lookup x = some c → c ≠ b) ∧ ∀ p ∈ X.pn ++ pins, p.1 ≠ b
theorem Inv.fpOk {X : Cx} {pins : List (Addr × Obj)} {σ : St} {H H' : Hp} {s : Shared} {b : Addr} (I : Inv X pins σ H s) (hb : s.heap.objs.size ≤ b) (hn : H' b = none) : FpOk X pins H' b := by
  refine ⟨hn, Nat.ne_of_gt (Nat.lt_of_lt_of_le I.lt hb), I.nofs hb, .inr (Nat.le_trans I.sz hb), fun x c e z => ?_, fun p hp z => ?_⟩
  · obtain ⟨v, q⟩ := I.cell x c e
    exact absurd (Nat.lt_of_lt_of_le q.lt (by rw [z]; exact hb)) (Nat.lt_irrefl _)
  · exact absurd (Nat.lt_of_lt_of_le (Heap.lt_size (I.pin p hp).1) (by rw [z]; exact hb)) (Nat.lt_irrefl _)
structure Turn (P : Program) (w : World) (K : PySem.W.Frag) (tg : Expr) (J : It) (fp : List Addr) (it : Addr) (tn : Nat → Heap → Prop) : Prop where
  mem : it ∈ fp
  obj : ∀ i h, tn i h → ∀ b ∈ fp, ∃ o, h.get? b = some o ∧ ∀ v, o.data ≠ .cell v
  keep : ∀ i h h', tn i h → (∀ b ∈ fp, ∀ o, h.get? b = some o → h'.get? b = some o) → tn i h'
  item : ∀ (X : Cx), X.prog = P → X.w = w → X.K = K → X.calm = true → ∀ (i : Nat) (pins : List (Addr × Obj)) (s : Shared) (σ : St) (H : Hp) (E : Value → Shared → Prop), Inv X pins σ H s → (∀ b ∈ fp, FpOk X pins H b) → tn i s.heap → J.go i H →
    wpAny (model P w) X.A (pyNext (.ref it)) (fun r s1 => ∃ u, r = some u ∧
      wpAny (model P w) X.A (letOwnedTupleGo tg (.ref it) u) (fun _ s2 => ∃ x H', Inv X pins σ H' s2 ∧ RelV x u ∧ J.yld i H x H' ∧ tn (i + 1) s2.heap ∧ ∀ b ∈ fp, H' b = none) E s1) E s
  done : ∀ (X : Cx), X.prog = P → X.w = w → X.K = K → X.calm = true → ∀ (i : Nat) (pins : List (Addr × Obj)) (s : Shared) (σ : St) (H : Hp) (E : Value → Shared → Prop), Inv X pins σ H s → (∀ b ∈ fp, FpOk X pins H b) → tn i s.heap → J.stop i H →
    wpAny (model P w) X.A (pyNext (.ref it)) (fun r s1 => r = none ∧ Inv X pins σ H s1) E s
  self : ∀ (A : Around) (i : Nat) (s : Shared) (Q : Value → Shared → Prop) (E : Value → Shared → Prop), tn i s.heap → Q (.ref it) s → wpAny (model P w) A (pyIter (.ref it)) Q E s
abbrev TI := St → Hp → (It → Hp → Prop) → Prop
/-- an iterator has come -/
def PIE (X : Cx) (pins : List (Addr × Obj)) (σ : St) (tg : Expr) (R : It → Hp → Prop) (itv : Value) (s2 : Shared) : Prop :=
  ∃ (it : Addr) (fp : List Addr) (tn : Nat → Heap → Prop) (J : It) (H' : Hp), itv = .ref it ∧ Inv X pins σ H' s2 ∧ Turn X.prog X.w X.K tg J fp it tn ∧ tn 0 s2.heap ∧ (∀ b ∈ fp, FpOk X pins H' b) ∧ R J H'
def PI (X : Cx) (tg iter : Expr) (wi : TI) : Prop :=
  ∀ (pins : List (Addr × Obj)) (s : Shared) (σ : St) (H : Hp) (R : It → Hp → Prop), Inv X pins σ H s → wi σ H R →
    wpAny (model X.prog X.w) X.A (eval iter X.env) (fun v s1 => wpAny (model X.prog X.w) X.A (pyIter v) (PIE X pins σ tg R) X.xe s1) X.xe s

/-- the step ahead of the store is nothing for an iterator that keeps no tuple -/
theorem go_of {M : Model} {A : Around} {E : Value → Shared → Prop} {s : Shared} {tg : Expr} {it : Addr} {u : Value} {o : Obj} {n : String} {vs : Array Value} {Q : Unit → Shared → Prop} (ho : s.heap.get? it = some o) (hc : o.cls = .type n) (hd : o.data = .fields vs)
    (hn : ["enumerate", "zip", "dict_itemiterator", "dict_reverseitemiterator", "odict_iterator", "itertools.zip_longest", "itertools.pairwise"].contains n = false) (hQ : Q () s) : wpAny M A (letOwnedTupleGo tg (.ref it) u) Q E s := by
  unfold letOwnedTupleGo
  cases tg <;> first
    | exact wpAny_pure hQ
    | (cases u <;> first
        | exact wpAny_pure hQ
        | (refine wpAny_bind (wpAny_load ho ?_)
           rw [hc, hd]
           show wpAny M A (if (["enumerate", "zip", "dict_itemiterator", "dict_reverseitemiterator", "odict_iterator", "itertools.zip_longest", "itertools.pairwise"].contains n && vs[0]? == some (rawInt _)) = true then _ else _) Q E s
           rw [if_neg (by intro h; rw [hn, Bool.false_and] at h; cases h)]
           exact wpAny_pure hQ))

/-- the list at a, as it stands at each turn (a loop may append to it) -/
def Itl (K : PySem.W.Frag) (a : Addr) : It :=
  ⟨fun i H => ∃ xs x, SqL K H a xs ∧ xs[i]? = some x, fun i H x H' => H' = H ∧ ∀ xs, SqL K H a xs → xs[i]? = some x, fun i H => ∃ xs, SqL K H a xs ∧ xs.length ≤ i⟩
def Itt (K : PySem.W.Frag) (a : Addr) : It :=
  ⟨fun i H => ∃ xs x, SqT K H a xs ∧ xs[i]? = some x, fun i H x H' => H' = H ∧ ∀ xs, SqT K H a xs → xs[i]? = some x, fun i H => ∃ xs, SqT K H a xs ∧ xs.length ≤ i⟩
/-- lo, lo + 1, .. (n of them) -/
def Itr (lo : Int) (n : Nat) : It := ⟨fun i _ => i < n, fun i H x H' => H' = H ∧ x = .int (lo + i), fun i _ => n ≤ i⟩
theorem turn_list {P : Program} {w : World} {K : PySem.W.Frag} {tg : Expr} (a it : Addr) : Turn P w K tg (Itl K a) [it] it (fun i h => h.IsListIter it a i) where
  mem := by simp
  obj := fun i h st b hb => by
    have e : b = it := by simpa using hb
    subst e
    obtain ⟨o, e, c, d⟩ := st
    exact ⟨o, e, fun v z => by rw [d] at z; cases z⟩
  keep := fun i h h' st k => st.at fun o e => k it (by simp) o e
  item := by
    intro X hP hw hK hc i pins s σ H E I hf st hg
    subst hP hw hK
    obtain ⟨xs, x, hq, hx⟩ := hg
    obtain ⟨its, rv, p, hz⟩ := I.list hq
    obtain ⟨u, hu, ru⟩ := rv.get hx
    obtain ⟨f0, f1, f2, f3, f4, f5⟩ := hf it (by simp)
    refine wpAny_pyNext_list_item st p.isList (x := u) (by simpa using hu) fun h' st' sb => ?_
    have I1 : Inv X pins σ H { s with heap := h' } := I.turned (t' := s.toks) (fun b o hb e => (sb.2 b hb).trans e) f0 f1 f3 f4 f5
    obtain ⟨o, e, c, d⟩ := id st'
    exact ⟨u, rfl, go_of (s := { s with heap := h' }) e c d (by decide) ⟨x, H, I1, ru, ⟨rfl, fun ys hy => by rw [I.list_inj hy hq]; exact hx⟩, st', fun b hb => (hf b hb).1⟩⟩
  done := by
    intro X hP hw hK hc i pins s σ H E I hf st hg
    subst hP hw hK
    obtain ⟨xs, hq, hx⟩ := hg
    obtain ⟨its, rv, p, hz⟩ := I.list hq
    obtain ⟨f0, f1, f2, f3, f4, f5⟩ := hf it (by simp)
    have hl := rv.length
    exact wpAny_pyNext_list_end (I.ok.hd hc) st p.isList (by simp; omega) fun h' eb => ⟨rfl, I.turned (t' := s.toks) (fun b o hb e => eb b o hb e) f0 f1 f3 f4 f5⟩
  self := fun _ _ _ _ _ st h => wpAny_pyIter_listiter st h
theorem turn_tuple {P : Program} {w : World} {K : PySem.W.Frag} {tg : Expr} (a it : Addr) : Turn P w K tg (Itt K a) [it] it (fun i h => h.IsTupleIter it a i) where
  mem := by simp
  obj := fun i h st b hb => by
    have e : b = it := by simpa using hb
    subst e
    obtain ⟨o, e, c, d⟩ := st
    exact ⟨o, e, fun v z => by rw [d] at z; cases z⟩
  keep := fun i h h' st k => st.at fun o e => k it (by simp) o e
  item := by
    intro X hP hw hK hc i pins s σ H E I hf st hg
    subst hP hw hK
    obtain ⟨xs, x, hq, hx⟩ := hg
    obtain ⟨its, rv, p, hz⟩ := I.tuple hq
    obtain ⟨u, hu, ru⟩ := rv.get hx
    obtain ⟨f0, f1, f2, f3, f4, f5⟩ := hf it (by simp)
    refine wpAny_pyNext_tuple_item st (show s.heap.IsTuple a its.toArray from p) (x := u) (by simpa using hu) fun h' st' sb => ?_
    have I1 : Inv X pins σ H { s with heap := h' } := I.turned (t' := s.toks) (fun b o hb e => (sb.2 b hb).trans e) f0 f1 f3 f4 f5
    obtain ⟨o, e, c, d⟩ := id st'
    exact ⟨u, rfl, go_of (s := { s with heap := h' }) e c d (by decide) ⟨x, H, I1, ru, ⟨rfl, fun ys hy => by rw [I.tuple_inj hy hq]; exact hx⟩, st', fun b hb => (hf b hb).1⟩⟩
  done := by
    intro X hP hw hK hc i pins s σ H E I hf st hg
    subst hP hw hK
    obtain ⟨xs, hq, hx⟩ := hg
    obtain ⟨its, rv, p, hz⟩ := I.tuple hq
    obtain ⟨f0, f1, f2, f3, f4, f5⟩ := hf it (by simp)
    have hl := rv.length
    exact wpAny_pyNext_tuple_end (I.ok.hd hc) st (show s.heap.IsTuple a its.toArray from p) (by simp; omega) fun h' eb => ⟨rfl, I.turned (t' := s.toks) (fun b o hb e => eb b o hb e) f0 f1 f3 f4 f5⟩
  self := fun _ _ _ _ _ st h => wpAny_pyIter_tupleiter st h
theorem turn_range {P : Program} {w : World} {K : PySem.W.Frag} {tg : Expr} (it : Addr) (lo : Int) (n : Nat) : Turn P w K tg (Itr lo n) [it] it (fun i h => IsRangeIter h it (lo + (i : Nat) * 1) ((n : Int) - (i : Nat)) 1) where
  mem := by simp
  obj := fun i h st b hb => by
    have e : b = it := by simpa using hb
    subst e
    exact ⟨_, st, fun v z => by
      have z' : Data.fields _ = Data.cell v := z
      cases z'⟩
  keep := fun i h h' st k => k it (by simp) _ st
  item := by
    intro X hP hw hK hc i pins s σ H E I hf st hg
    subst hP hw hK
    obtain ⟨f0, f1, f2, f3, f4, f5⟩ := hf it (by simp)
    have W := Walks.range (prog := X.prog) (w := X.w) (I.ok.hd hc) it lo 1 n
    refine W.item i s _ _ hg st fun v h' tk hv st' kk => ?_
    obtain ⟨t, rfl⟩ := hv
    have I1 : Inv X pins σ H { s with heap := h', toks := tk } := I.turned (fun b o hb e => kk b o (by simpa using hb) e) f0 f1 f3 f4 f5
    refine ⟨_, rfl, go_of (s := { s with heap := h', toks := tk }) (n := "range_iterator") st' rfl rfl (by decide) ⟨.int (lo + i), H, I1, ⟨t, ?_⟩, ⟨rfl, rfl⟩, st', fun b hb => (hf b hb).1⟩⟩
    rw [Int.mul_one]
  done := by
    intro X hP hw hK hc i pins s σ H E I hf st hg
    subst hP hw hK
    obtain ⟨f0, f1, f2, f3, f4, f5⟩ := hf it (by simp)
    exact wpAny_pyNext_range_end (I.ok.hd hc) st (by have : n ≤ i := hg; omega) fun h' eb => ⟨rfl, I.turned (t' := s.toks) (fun b o hb e => eb b o hb e) f0 f1 f3 f4 f5⟩
  self := fun _ _ _ _ _ st h => wpAny_pyIter_rangeiter st h
end L2

namespace L2
open PySem PySem.Spec PyProof.Rows
section
variable {X : Cx} {tg : Expr}
def iList (K : PySem.W.Frag) (tl : TE) : TI := fun σ H R => tl σ H fun x H1 => ∃ a, x = .ref a ∧ (∃ xs, SqL K H1 a xs) ∧ R (Itl K a) H1
def iTup (K : PySem.W.Frag) (tl : TE) : TI := fun σ H R => tl σ H fun x H1 => ∃ a, x = .ref a ∧ (∃ xs, SqT K H1 a xs) ∧ R (Itt K a) H1
theorem pi_list {l : Expr} {tl : TE} (hl : PE X l tl) : PI X tg l (iList X.K tl) := by
  intro pins s σ H R I h
  refine thn (hl pins s σ H _ I h) fun v s1 ⟨x, H1, I1, r1, q1⟩ => ?_
  obtain ⟨a, e, ⟨xs, hq⟩, q⟩ := q1
  subst e
  cases r1
  obtain ⟨its, rv, p, hz⟩ := I1.list hq
  refine wpAny_pyIter_list p.isList ?_
  refine ⟨s1.heap.objs.size, [s1.heap.objs.size], _, _, H1, rfl, I1.kept (t' := s1.toks) fun b o e => Heap.get?_push_of_some _ e, turn_list a _, ⟨_, Heap.get?_push_size _ rfl, rfl, rfl⟩, fun b hb => ?_, q⟩
  have e : b = s1.heap.objs.size := by simpa using hb
  subst e
  exact I1.fpOk (Nat.le_refl _) (I1.hok.fresh (Nat.le_refl _))
theorem pi_tup {l : Expr} {tl : TE} (hl : PE X l tl) : PI X tg l (iTup X.K tl) := by
  intro pins s σ H R I h
  refine thn (hl pins s σ H _ I h) fun v s1 ⟨x, H1, I1, r1, q1⟩ => ?_
  obtain ⟨a, e, ⟨xs, hq⟩, q⟩ := q1
  subst e
  cases r1
  obtain ⟨its, rv, p, hz⟩ := I1.tuple hq
  refine wpAny_pyIter_tuple (show s1.heap.IsTuple a its.toArray from p) ?_
  refine ⟨s1.heap.objs.size, [s1.heap.objs.size], _, _, H1, rfl, I1.kept (t' := s1.toks) fun b o e => Heap.get?_push_of_some _ e, turn_tuple a _, ⟨_, Heap.get?_push_size _ rfl, rfl, rfl⟩, fun b hb => ?_, q⟩
  have e : b = s1.heap.objs.size := by simpa using hb
  subst e
  exact I1.fpOk (Nat.le_refl _) (I1.hok.fresh (Nat.le_refl _))
/-- a range object just made, walked -/
theorem range_it {pins : List (Addr × Obj)} {σ : St} {H : Hp} {s : Shared} {R : It → Hp → Prop} {E : Value → Shared → Prop} {lo hi : Int} {t u v : Tok} {tk : Nat} (I : Inv X pins σ H s) (h1 : -(2 ^ 62) ≤ lo) (h2 : lo < 2 ^ 62) (h3 : -(2 ^ 62) ≤ hi) (h4 : hi < 2 ^ 62)
    (q : R (Itr lo (hi - lo).toNat) H) : wpAny (model X.prog X.w) X.A (pyIter (.ref s.heap.objs.size)) (PIE X pins σ tg R) E { s with heap := s.heap.push { cls := .type "range", data := .fields #[.int lo t, .int hi u, .int 1 v] }, toks := tk } := by
  refine wpAny_pyIter_range (IsRange.new ..) (small_one h1 h2 h3 h4) ?_
  have I1 : Inv X pins σ H { s with heap := s.heap.push { cls := .type "range", data := .fields #[.int lo t, .int hi u, .int 1 v] }, toks := tk } := I.kept fun b o e => Heap.get?_push_of_some _ e
  refine ⟨(s.heap.push { cls := .type "range", data := .fields #[.int lo t, .int hi u, .int 1 v] }).objs.size, [(s.heap.push { cls := .type "range", data := .fields #[.int lo t, .int hi u, .int 1 v] }).objs.size], _, _, H, rfl,
    I1.kept (t' := tk) fun b o e => Heap.get?_push_of_some _ e, turn_range _ lo (hi - lo).toNat, ?_, fun b hb => ?_, q⟩
  · have e1 : lo + ((0 : Nat) : Int) * 1 = lo := by simp
    have e2 : (((hi - lo).toNat : Nat) : Int) - ((0 : Nat) : Int) = Builtin.Range.rangeSize lo hi 1 := by rw [rangeSize_one]; split <;> omega
    show IsRangeIter _ _ (lo + ((0 : Nat) : Int) * 1) ((((hi - lo).toNat : Nat) : Int) - ((0 : Nat) : Int)) 1
    rw [e1, e2]
    exact Heap.get?_push_size _ rfl
  · have e : b = (s.heap.push { cls := .type "range", data := .fields #[.int lo t, .int hi u, .int 1 v] }).objs.size := by simpa using hb
    subst e
    exact I1.fpOk (Nat.le_refl _) (I1.hok.fresh (Nat.le_refl _))
def iRng1 (ta : TA) : TI := fun σ H R => ta σ H fun vs H1 => ∃ j : Int, vs = [.int j] ∧ -(2 ^ 62) ≤ j ∧ j < 2 ^ 62 ∧ R (Itr 0 j.toNat) H1
def iRng2 (ta : TA) : TI := fun σ H R => ta σ H fun vs H1 => ∃ i j : Int, vs = [.int i, .int j] ∧ (-(2 ^ 62) ≤ i ∧ i < 2 ^ 62 ∧ -(2 ^ 62) ≤ j ∧ j < 2 ^ 62) ∧ R (Itr i (j - i).toNat) H1
theorem pi_range1 {a : Expr} {ta : TA} {p pos : Pos} (hg : Gl X "range") (hm : X.mg "range" = none) (ha : PA X [a] ta) (hs : starEach [a] X.env = [(false, eval a X.env)] := by rfl) : PI X tg (.Call (.Name "range" p) [a] [] pos) (iRng1 ta) := by
  intro pins s σ H R I h
  refine Call_ (ld_blt I hg hm boot_range (PyProof.Rows.callWith_type1 (thn (ha pos pins s σ H _ I h) fun us s1 ⟨vs, H1, I1, r1, q1⟩ => ?_) hs rfl))
  obtain ⟨j, e, q1, q2, q⟩ := q1
  subst e
  cases r1 with
  | cons r rr =>
    cases rr
    obtain ⟨t, rfl⟩ := r
    exact call_range_1 (range_it I1 (by omega) (by omega) q1 q2 (by simpa using q))
theorem pi_range2 {a b : Expr} {ta : TA} {p pos : Pos} (hg : Gl X "range") (hm : X.mg "range" = none) (ha : PA X [a, b] ta) (hs : starEach [a, b] X.env = [(false, eval a X.env), (false, eval b X.env)] := by rfl) (hs2 : starEach [b] X.env = [(false, eval b X.env)] := by rfl) :
    PI X tg (.Call (.Name "range" p) [a, b] [] pos) (iRng2 ta) := by
  intro pins s σ H R I h
  refine Call_ (ld_blt I hg hm boot_range (PyProof.Rows.callWith_type1 (thn (ha pos pins s σ H _ I h) fun us s1 ⟨vs, H1, I1, r1, q1⟩ => ?_) (by rw [hs, hs2]) (by rw [hs2]; rfl)))
  obtain ⟨i, j, e, ⟨q1, q2, q3, q4⟩, q⟩ := q1
  subst e
  cases r1 with
  | cons r rr =>
    cases rr with
    | cons r' rr =>
      cases rr
      obtain ⟨t, rfl⟩ := r
      obtain ⟨t', rfl⟩ := r'
      exact call_range_2 (range_it I1 q1 q2 q3 q4 q)

/-! ### for -/
/-- W: the invariant by the turn and a measure; N: what the body is to reach -/
def tFor (wi : TI) (g : TG) (tb : TS) : TS := fun D σ H => wi σ H fun J H1 => ∃ W : Nat → Nat → St → Hp → Prop, (∃ m, W 0 m σ H1) ∧ ∀ i m σ H, W i m σ H →
  (J.stop i H ∧ D.nx σ H) ∨ (J.go i H ∧ ∃ N : St → Hp → Prop, (∀ σ' H', N σ' H' → ∃ m', m' < m ∧ W (i + 1) m' σ' H') ∧ ∀ x H', J.yld i H x H' → g x σ H' fun σ2 H2 => tb { D with nx := N, ct := N, bk := D.nx } σ2 H2)
/-- the records at fp as they stand -/
def pinsAt (fp : List Addr) (h : Heap) : List (Addr × Obj) := fp.filterMap fun b => (h.get? b).map fun o => (b, o)
theorem mem_pinsAt {fp : List Addr} {h : Heap} {b : Addr} {o : Obj} (hb : b ∈ fp) (e : h.get? b = some o) : (b, o) ∈ pinsAt fp h := List.mem_filterMap.mpr ⟨b, hb, by rw [e]; rfl⟩
theorem of_pinsAt {fp : List Addr} {h : Heap} {p : Addr × Obj} (hp : p ∈ pinsAt fp h) : p.1 ∈ fp ∧ h.get? p.1 = some p.2 := by
  obtain ⟨b, hb, e⟩ := List.mem_filterMap.mp hp
  cases q : h.get? b with
  | none => rw [q] at e; cases e
  | some o =>
    rw [q] at e
    have e' : (b, o) = p := Option.some.inj e
    subst e'
    exact ⟨hb, q⟩
theorem Inv.pinned {pins : List (Addr × Obj)} {σ : St} {H : Hp} {s : Shared} {fp : List Addr} (I : Inv X pins σ H s) (hf : ∀ b ∈ fp, FpOk X pins H b) (ho : ∀ b ∈ fp, ∃ o, s.heap.get? b = some o ∧ ∀ v, o.data ≠ .cell v) : Inv X (pins ++ pinsAt fp s.heap) σ H s :=
  I.pins_of fun p hp => (List.mem_append.mp hp).elim (fun z => I.pin p (List.mem_append_right _ z)) fun z => by
    obtain ⟨hb, e⟩ := of_pinsAt z
    obtain ⟨f0, f1, f2, _⟩ := hf p.1 hb
    obtain ⟨o, e', d⟩ := ho p.1 hb
    rw [e] at e'; cases e'
    exact ⟨e, f0, f1, f2, d⟩
theorem Inv.unpinned {pins pl : List (Addr × Obj)} {σ : St} {H : Hp} {s : Shared} (I : Inv X (pins ++ pl) σ H s) : Inv X pins σ H s := I.pins_of fun p hp => I.pin p (List.mem_append_right _ (List.mem_append_left _ hp))
theorem ps_for {iter : Expr} {body : List Stmt} {wi : TI} {g : TG} {tb : TS} {pos : Pos} (hp : PassesOwn (model X.prog X.w) X.A X.env X.xe) (hc : X.calm = true) (hi : PI X tg iter wi) (hg : PG X tg g) (hb : PSs X body tb)
    (hs : ∀ x, foldedSetIterable iter X.env x = pure x := by intro _; rfl) : PS X (.For tg iter body [] pos) (tFor wi g tb) := by
  intro pins s σ H D I h
  refine wpAny_For (thn (hi pins s σ H _ I h) fun v s1 h1 => thn h1 fun itv s2 h2 => ?_) hs
  obtain ⟨it, fp, tn, J, H2, e, I2, T, st2, f2, W, ⟨m0, w0⟩, turn⟩ := h2
  subst e
  -- what stays true of the iterator's objects through the loop
  have stat : ∀ {H' : Hp}, (∀ b ∈ fp, H' b = none) → ∀ b ∈ fp, FpOk X pins H' b := fun hn b hb => ⟨hn b hb, (f2 b hb).2⟩
  refine codeAny_forLoop_any (fun n s' => ∃ i σ' H', Inv X pins σ' H' s' ∧ tn i s'.heap ∧ (∀ b ∈ fp, H' b = none) ∧ W i n σ' H') ?_ m0 ⟨0, σ, H2, I2, st2, fun b hb => (f2 b hb).1, w0⟩
  rintro n s3 ⟨i, σ3, H3, I3, st3, fr3, w3⟩
  rcases turn i n σ3 H3 w3 with ⟨stop, qn⟩ | ⟨go, N, hN, step⟩
  · refine wpAny_passesOwn hp (thn (T.done X rfl rfl rfl hc i pins s3 σ3 H3 X.xe I3 (stat fr3) st3 stop) fun r s4 ⟨hr, I4⟩ => ?_)
    subst hr
    exact wpAny_execs_nil ⟨σ3, H3, I4, qn⟩
  · refine wpAny_passesOwn hp (thn (T.item X rfl rfl rfl hc i pins s3 σ3 H3 X.xe I3 (stat fr3) st3 go) fun r s4 ⟨u, hr, h4⟩ => ?_)
    subst hr
    refine wpAny_passesOwn hp (thn h4 fun _ s5 ⟨x, H5, I5, r5, y5, st5, fr5⟩ => ?_)
    have I5' := I5.pinned (stat fr5) (T.obj _ _ st5)
    refine wpAny_passesOwn hp (thn (hg _ s5 σ3 H5 x u _ I5' r5 (step x H5 y5)) fun _ s6 ⟨σ6, H6, I6, q6⟩ => ?_)
    refine wpAny_passesOwn hp (thn (hb _ s6 σ6 H6 _ I6 q6) fun f s7 q7 => ?_)
    have again : ∀ {σ7 : St} {H7 : Hp}, Inv X (pins ++ pinsAt fp s5.heap) σ7 H7 s7 → N σ7 H7 → ∃ m, m < n ∧ ∃ i σ' H', Inv X pins σ' H' s7 ∧ tn i s7.heap ∧ (∀ b ∈ fp, H' b = none) ∧ W i m σ' H' := fun {σ7 H7} I7 n7 => by
      obtain ⟨m', hm, w7⟩ := hN σ7 H7 n7
      refine ⟨m', hm, i + 1, σ7, H7, I7.unpinned, T.keep _ _ _ st5 fun b hb o e => (I7.pin (b, o) (List.mem_append_right _ (List.mem_append_right _ (mem_pinsAt hb e)))).1, fun b hb => ?_, w7⟩
      obtain ⟨o, e, d⟩ := T.obj _ _ st5 b hb
      exact (I7.pin (b, o) (List.mem_append_right _ (List.mem_append_right _ (mem_pinsAt hb e)))).2.1
    cases f with
    | next => obtain ⟨σ7, H7, I7, n7⟩ := q7; exact again I7 n7
    | cont => obtain ⟨σ7, H7, I7, n7⟩ := q7; exact again I7 n7
    | brk => obtain ⟨σ7, H7, I7, q7⟩ := q7; exact ⟨σ7, H7, I7.unpinned, q7⟩
    | ret v => obtain ⟨x7, σ7, H7, I7, r7, q7⟩ := q7; exact ⟨x7, σ7, H7, I7.unpinned, r7, q7⟩
end

/-! ### the forms one uses -/
/-- over a list that the body leaves as it is -/
theorem for_list {K : PySem.W.Frag} {a : Addr} {xs : List V} {g : TG} {tb : TS} {D : Ends} {σ : St} {H : Hp} (Pv : Nat → St → Hp → Prop) (h0 : Pv 0 σ H) (hl : ∀ i σ H, i ≤ xs.length → Pv i σ H → SqL K H a xs)
    (hs : ∀ i x σ H, xs[i]? = some x → Pv i σ H → g x σ H fun σ2 H2 => tb { D with nx := Pv (i + 1), ct := Pv (i + 1), bk := D.nx } σ2 H2) (hd : ∀ σ H, Pv xs.length σ H → D.nx σ H) :
    ∃ W : Nat → Nat → St → Hp → Prop, (∃ m, W 0 m σ H) ∧ ∀ i m σ H, W i m σ H →
      ((Itl K a).stop i H ∧ D.nx σ H) ∨ ((Itl K a).go i H ∧ ∃ N : St → Hp → Prop, (∀ σ' H', N σ' H' → ∃ m', m' < m ∧ W (i + 1) m' σ' H') ∧ ∀ x H', (Itl K a).yld i H x H' → g x σ H' fun σ2 H2 => tb { D with nx := N, ct := N, bk := D.nx } σ2 H2) := by
  refine ⟨fun i m σ H => m = xs.length - i ∧ i ≤ xs.length ∧ Pv i σ H, ⟨xs.length, by simp, Nat.zero_le _, h0⟩, ?_⟩
  rintro i m σ H ⟨rfl, hi, p⟩
  have q := hl i σ H hi p
  by_cases hlt : i < xs.length
  · refine .inr ⟨⟨xs, xs[i], q, by simp [hlt]⟩, Pv (i + 1), fun σ' H' p' => ⟨xs.length - (i + 1), by omega, rfl, hlt, p'⟩, fun x H' y => ?_⟩
    obtain ⟨e, y⟩ := y
    subst e
    exact hs i x σ _ (y xs q) p
  · have e : i = xs.length := by omega
    subst e
    exact .inl ⟨⟨xs, q, Nat.le_refl _⟩, hd σ H p⟩
theorem for_tup {K : PySem.W.Frag} {a : Addr} {xs : List V} {g : TG} {tb : TS} {D : Ends} {σ : St} {H : Hp} (Pv : Nat → St → Hp → Prop) (h0 : Pv 0 σ H) (hl : ∀ i σ H, i ≤ xs.length → Pv i σ H → SqT K H a xs)
    (hs : ∀ i x σ H, xs[i]? = some x → Pv i σ H → g x σ H fun σ2 H2 => tb { D with nx := Pv (i + 1), ct := Pv (i + 1), bk := D.nx } σ2 H2) (hd : ∀ σ H, Pv xs.length σ H → D.nx σ H) :
    ∃ W : Nat → Nat → St → Hp → Prop, (∃ m, W 0 m σ H) ∧ ∀ i m σ H, W i m σ H →
      ((Itt K a).stop i H ∧ D.nx σ H) ∨ ((Itt K a).go i H ∧ ∃ N : St → Hp → Prop, (∀ σ' H', N σ' H' → ∃ m', m' < m ∧ W (i + 1) m' σ' H') ∧ ∀ x H', (Itt K a).yld i H x H' → g x σ H' fun σ2 H2 => tb { D with nx := N, ct := N, bk := D.nx } σ2 H2) := by
  refine ⟨fun i m σ H => m = xs.length - i ∧ i ≤ xs.length ∧ Pv i σ H, ⟨xs.length, by simp, Nat.zero_le _, h0⟩, ?_⟩
  rintro i m σ H ⟨rfl, hi, p⟩
  have q := hl i σ H hi p
  by_cases hlt : i < xs.length
  · refine .inr ⟨⟨xs, xs[i], q, by simp [hlt]⟩, Pv (i + 1), fun σ' H' p' => ⟨xs.length - (i + 1), by omega, rfl, hlt, p'⟩, fun x H' y => ?_⟩
    obtain ⟨e, y⟩ := y
    subst e
    exact hs i x σ _ (y xs q) p
  · have e : i = xs.length := by omega
    subst e
    exact .inl ⟨⟨xs, q, Nat.le_refl _⟩, hd σ H p⟩
theorem for_range {lo : Int} {n : Nat} {g : TG} {tb : TS} {D : Ends} {σ : St} {H : Hp} (Pv : Nat → St → Hp → Prop) (h0 : Pv 0 σ H)
    (hs : ∀ i σ H, i < n → Pv i σ H → g (.int (lo + i)) σ H fun σ2 H2 => tb { D with nx := Pv (i + 1), ct := Pv (i + 1), bk := D.nx } σ2 H2) (hd : ∀ σ H, Pv n σ H → D.nx σ H) :
    ∃ W : Nat → Nat → St → Hp → Prop, (∃ m, W 0 m σ H) ∧ ∀ i m σ H, W i m σ H →
      ((Itr lo n).stop i H ∧ D.nx σ H) ∨ ((Itr lo n).go i H ∧ ∃ N : St → Hp → Prop, (∀ σ' H', N σ' H' → ∃ m', m' < m ∧ W (i + 1) m' σ' H') ∧ ∀ x H', (Itr lo n).yld i H x H' → g x σ H' fun σ2 H2 => tb { D with nx := N, ct := N, bk := D.nx } σ2 H2) := by
  refine ⟨fun i m σ H => m = n - i ∧ i ≤ n ∧ Pv i σ H, ⟨n, by simp, Nat.zero_le _, h0⟩, ?_⟩
  rintro i m σ H ⟨rfl, hi, p⟩
  by_cases hlt : i < n
  · refine .inr ⟨hlt, Pv (i + 1), fun σ' H' p' => ⟨n - (i + 1), by omega, rfl, hlt, p'⟩, fun x H' y => ?_⟩
    obtain ⟨e, y⟩ := y
    subst e y
    exact hs i σ _ hlt p
  · have e : i = n := by omega
    subst e
    exact .inl ⟨Nat.le_refl _, hd σ H p⟩
/-- while, by a word and a measure of the state -/
theorem while_by {c : TT} {tb : TS} {D : Ends} {σ : St} {H : Hp} (Pv : St → Hp → Prop) (μ : St → Hp → Nat) (h0 : Pv σ H)
    (hs : ∀ σ H, Pv σ H → c σ H fun b H1 => if b = true then tb { D with nx := fun σ' H' => Pv σ' H' ∧ μ σ' H' < μ σ H, ct := fun σ' H' => Pv σ' H' ∧ μ σ' H' < μ σ H, bk := D.nx } σ H1 else D.nx σ H1)
    (mono : ∀ σ H Q Q', (∀ b H1, Q b H1 → Q' b H1) → c σ H Q → c σ H Q') : tWhile c tb D σ H := by
  refine ⟨fun m σ H => m = μ σ H ∧ Pv σ H, ⟨_, rfl, h0⟩, ?_⟩
  rintro m σ H ⟨rfl, p⟩
  refine mono σ H _ _ (fun b H1 q => ?_) (hs σ H p)
  cases b with
  | true => exact ⟨_, fun σ' H' ⟨p', l⟩ => ⟨_, l, rfl, p'⟩, q⟩
  | false => exact q
end L2

namespace L2
open PySem PySem.Spec PyProof.Rows

abbrev R2 := V → V → Hp → VK → Prop
/-- a two-place operation on values: f is binaryOp op, inplaceOp op or compareOp op -/
def OpR (X : Cx) (f : Value → Value → Sem Value) (r : R2) : Prop :=
  ∀ (pins : List (Addr × Obj)) (s : Shared) (σ : St) (H : Hp) (x y : V) (v u : Value) (Q : VK), Inv X pins σ H s → RelV x v → RelV y u → r x y H Q →
    wpAny (model X.prog X.w) X.A (f v u) (EP X pins σ Q) X.xe s
/-- a one-place operation -/
def UnR (X : Cx) (f : Value → Sem Value) (r : V → Hp → VK → Prop) : Prop :=
  ∀ (pins : List (Addr × Obj)) (s : Shared) (σ : St) (H : Hp) (x : V) (v : Value) (Q : VK), Inv X pins σ H s → RelV x v → r x H Q →
    wpAny (model X.prog X.w) X.A (f v) (EP X pins σ Q) X.xe s
/-- a call of a value that is known (a builtin, a type) with values -/
def CallR (X : Cx) (f : Value) (r : List V → Hp → VK → Prop) : Prop :=
  ∀ (pins : List (Addr × Obj)) (s : Shared) (σ : St) (H : Hp) (xs : List V) (us : List Value) (Q : VK), Inv X pins σ H s → Vals xs us → r xs H Q →
    wpAny (model X.prog X.w) X.A (call f us) (EP X pins σ Q) X.xe s
/-- a value's truth -/
def TruR (X : Cx) (r : V → Hp → (Bool → Hp → Prop) → Prop) : Prop :=
  ∀ (pins : List (Addr × Obj)) (s : Shared) (σ : St) (H : Hp) (x : V) (v : Value) (Q : Bool → Hp → Prop), Inv X pins σ H s → RelV x v → r x H Q →
    wpAny (model X.prog X.w) X.A (truthy v) (TP X pins σ Q) X.xe s

def tOp (r : R2) (ta tb : TE) : TE := fun σ H Q => ta σ H fun x H1 => tb σ H1 fun y H2 => r x y H2 Q
def tUn (r : V → Hp → VK → Prop) (ta : TE) : TE := fun σ H Q => ta σ H fun x H1 => r x H1 Q
/-- ints in, under C, and a value out -/
def rI (C : Int → Int → Prop) (g : Int → Int → V) : R2 := fun x y H Q => ∃ i j, x = .int i ∧ y = .int j ∧ C i j ∧ Q (g i j) H
def rI0 (g : Int → Int → V) : R2 := fun x y H Q => ∃ i j, x = .int i ∧ y = .int j ∧ Q (g i j) H
def rU (g : Int → V) : V → Hp → VK → Prop := fun x H Q => ∃ i, x = .int i ∧ Q (g i) H

section
variable {X : Cx} {a b c : Expr} {ta tb tc : TE} {pos : Pos}

theorem binT (ha : PE X a ta) (hb : PE X b tb) {pins : List (Addr × Obj)} {s : Shared} {σ : St} {H : Hp} {R : V → V → Hp → Prop} (I : Inv X pins σ H s)
    (h : ta σ H fun x H1 => tb σ H1 fun y H2 => R x y H2) {Q : Value → Shared → Prop} {f : Value → Value → Sem Value}
    (hf : ∀ v u s2 x y H2, Inv X pins σ H2 s2 → RelV x v → RelV y u → R x y H2 → wpAny (model X.prog X.w) X.A (f v u) Q X.xe s2) :
    wpAny (model X.prog X.w) X.A (eval a X.env) (fun v s₁ => wpAny (model X.prog X.w) X.A (eval b X.env) (fun u s₂ => wpAny (model X.prog X.w) X.A (f v u) Q X.xe s₂) X.xe s₁) X.xe s := by
  refine thn (ha pins s σ H _ I h) fun v s1 ⟨x, H1, I1, r1, q1⟩ => ?_
  refine thn (hb pins s1 σ H1 _ I1 q1) fun u s2 ⟨y, H2, I2, r2, q2⟩ => ?_
  exact hf v u s2 x y H2 I2 r1 r2 q2

theorem pe_op {op : Operator} {r : R2} (ho : OpR X (binaryOp op) r) (ha : PE X a ta) (hb : PE X b tb) : PE X (.BinOp a op b pos) (tOp r ta tb) := by
  intro pins s σ H Q I h
  exact wpAny_BinOp (binT ha hb I h fun v u s2 x y H2 I2 rx ry q => ho pins s2 σ H2 x y v u Q I2 rx ry q)
theorem pe_un {op : UnaryOp} {r : V → Hp → VK → Prop} (ho : UnR X (unaryOp op) r) (ha : PE X a ta) : PE X (.UnaryOp op a pos) (tUn r ta) := by
  intro pins s σ H Q I h
  exact UnaryOp_ (thn (ha pins s σ H _ I h) fun v s1 ⟨x, H1, I1, r1, q1⟩ => ho pins s1 σ H1 x v Q I1 r1 q1)
/-- a op= e at a name: the name's slot i -/
theorem augR {op : Operator} {r : R2} (ho : OpR X (inplaceOp op) r) {pins : List (Addr × Obj)} {s : Shared} {σ : St} {H : Hp} {x y : V} {v u : Value} {Q : VK} (I : Inv X pins σ H s)
    (rx : RelV x v) (ry : RelV y u) (q : r x y H Q) : wpAny (model X.prog X.w) X.A (inplaceOp op v u) (EP X pins σ Q) X.xe s := ho pins s σ H x y v u Q I rx ry q

/-! ### ints -/
theorem opI {f : Value → Value → Sem Value} {C : Int → Int → Prop} {g : Int → Int → Int}
    (rule : ∀ (i j : Int) (t u : Tok) (s : Shared) (Q : Value → Shared → Prop) (E : Value → Shared → Prop), C i j → Q (.int (g i j) s.toks) { s with toks := s.toks + 1 } → wpAny (model X.prog X.w) X.A (f (.int i t) (.int j u)) Q E s) :
    OpR X f (rI C fun i j => .int (g i j)) := by
  intro pins s σ H x y v u Q I rx ry h
  obtain ⟨i, j, rfl, rfl, hc, q⟩ := h
  obtain ⟨t, rfl⟩ := rx
  obtain ⟨t', rfl⟩ := ry
  exact rule i j t t' s _ _ hc ⟨.int (g i j), H, I.tok _, ⟨_, rfl⟩, q⟩
theorem opI0 {f : Value → Value → Sem Value} {g : Int → Int → Int}
    (rule : ∀ (i j : Int) (t u : Tok) (s : Shared) (Q : Value → Shared → Prop) (E : Value → Shared → Prop), Q (.int (g i j) s.toks) { s with toks := s.toks + 1 } → wpAny (model X.prog X.w) X.A (f (.int i t) (.int j u)) Q E s) :
    OpR X f (rI0 fun i j => .int (g i j)) := by
  intro pins s σ H x y v u Q I rx ry h
  obtain ⟨i, j, rfl, rfl, q⟩ := h
  obtain ⟨t, rfl⟩ := rx
  obtain ⟨t', rfl⟩ := ry
  exact rule i j t t' s _ _ ⟨.int (g i j), H, I.tok _, ⟨_, rfl⟩, q⟩
theorem opB0 {f : Value → Value → Sem Value} {g : Int → Int → Bool}
    (rule : ∀ (i j : Int) (t u : Tok) (s : Shared) (Q : Value → Shared → Prop) (E : Value → Shared → Prop), Q (.bool (g i j)) s → wpAny (model X.prog X.w) X.A (f (.int i t) (.int j u)) Q E s) :
    OpR X f (rI0 fun i j => .bl (g i j)) := by
  intro pins s σ H x y v u Q I rx ry h
  obtain ⟨i, j, rfl, rfl, q⟩ := h
  obtain ⟨t, rfl⟩ := rx
  obtain ⟨t', rfl⟩ := ry
  exact rule i j t t' s _ _ ⟨.bl (g i j), H, I, rfl, q⟩

def CDiv (i j : Int) : Prop := 0 < j ∧ j < 1073741824
def CDivN (i j : Int) : Prop := j ≠ 0 ∧ j.natAbs < 1073741824
def CPow (i j : Int) : Prop := 0 ≤ j ∧ j ≤ 1000000 ∧ i.natAbs < 2 ^ 64
def CMul (i j : Int) : Prop := (-(2 ^ 64) < i ∧ i < 2 ^ 64) ∨ (-(2 ^ 64) < j ∧ j < 2 ^ 64)
theorem CMul.ok {i j : Int} (h : CMul i j) : IntMulOk i j := by
  rcases h with ⟨h1, h2⟩ | ⟨h1, h2⟩
  · exact .of_left (intBits_le_64 h1 h2)
  · exact .of_right (intBits_le_64 h1 h2)
theorem two_pow_nn (k : Nat) : (0 : Int) ≤ 2 ^ k := by
  rw [two_pow_cast]
  exact Int.natCast_nonneg _

theorem op_add : OpR X (binaryOp .Add) (rI0 fun i j => .int (i + j)) := opI0 fun _ _ _ _ _ _ _ q => add_int q
theorem op_sub : OpR X (binaryOp .Sub) (rI0 fun i j => .int (i - j)) := opI0 fun _ _ _ _ _ _ _ q => sub_int q
theorem op_mul : OpR X (binaryOp .Mult) (rI CMul fun i j => .int (i * j)) := opI fun _ _ _ _ _ _ _ hc q => mul_int q hc.ok
/-- // by a positive divisor -/
theorem op_fdiv : OpR X (binaryOp .FloorDiv) (rI CDiv fun i j => .int (i / j)) := opI fun i j _ _ _ _ _ hc q => by
  have h1 : (0 : Int) < j := hc.1
  have h2 : j < 1073741824 := hc.2
  exact floordiv_int (by omega) (by rw [Int.fdiv_eq_ediv_of_nonneg i (by omega)]; exact q) (.inl (PyProof.noPylong_small (by omega)))
theorem op_fdivN : OpR X (binaryOp .FloorDiv) (rI CDivN fun i j => .int (i.fdiv j)) := opI fun _ _ _ _ _ _ _ hc q => floordiv_int hc.1 q (.inl (PyProof.noPylong_small hc.2))
/-- % by a positive divisor of any size -/
theorem op_mod : OpR X (binaryOp .Mod) (rI (fun _ j => 0 < j) fun i j => .int (i % j)) := opI fun i j _ _ _ _ _ hc q => by
  have h1 : (0 : Int) < j := hc
  exact mod_int' (by omega) (by rw [Int.fmod_eq_emod_of_nonneg i (by omega)]; exact q)
theorem op_modN : OpR X (binaryOp .Mod) (rI (fun _ j => j ≠ 0) fun i j => .int (i.fmod j)) := opI fun _ _ _ _ _ _ _ hc q => mod_int' hc q
theorem op_pow : OpR X (binaryOp .Pow) (rI CPow fun i j => .int (i ^ j.toNat)) := opI fun _ _ _ _ _ _ _ hc q => pow_int_small hc.1 hc.2.1 hc.2.2 q
theorem op_shl : OpR X (binaryOp .LShift) (rI CPow fun i j => .int (i * 2 ^ j.toNat)) := opI fun _ _ _ _ _ _ _ hc q => lshift_int_small hc.1 hc.2.1 hc.2.2 q
theorem op_shr : OpR X (binaryOp .RShift) (rI (fun _ j => 0 ≤ j) fun i j => .int (i / 2 ^ j.toNat)) := opI fun i j _ _ _ _ _ hc q =>
  rshift_int hc (by rw [Int.fdiv_eq_ediv_of_nonneg i (two_pow_nn _)]; exact q)
theorem op_and : OpR X (binaryOp .BitAnd) (rI0 fun i j => .int (Builtin.bitAnd i j)) := opI0 fun _ _ _ _ _ _ _ q => and_int q
theorem op_or : OpR X (binaryOp .BitOr) (rI0 fun i j => .int (Builtin.bitOr i j)) := opI0 fun _ _ _ _ _ _ _ q => or_int q
theorem op_xor : OpR X (binaryOp .BitXor) (rI0 fun i j => .int (Builtin.bitXor i j)) := opI0 fun _ _ _ _ _ _ _ q => xor_int q

theorem iop_add : OpR X (inplaceOp .Add) (rI0 fun i j => .int (i + j)) := opI0 fun _ _ _ _ _ _ _ q => iadd_int q
theorem iop_sub : OpR X (inplaceOp .Sub) (rI0 fun i j => .int (i - j)) := opI0 fun _ _ _ _ _ _ _ q => isub_int q
theorem iop_mul : OpR X (inplaceOp .Mult) (rI CMul fun i j => .int (i * j)) := opI fun _ _ _ _ _ _ _ hc q => imul_int q hc.ok
theorem iop_fdiv : OpR X (inplaceOp .FloorDiv) (rI CDiv fun i j => .int (i / j)) := opI fun i j _ _ _ _ _ hc q => by
  have h1 : (0 : Int) < j := hc.1
  have h2 : j < 1073741824 := hc.2
  exact ifloordiv_int (by omega) (by rw [Int.fdiv_eq_ediv_of_nonneg i (by omega)]; exact q) (.inl (PyProof.noPylong_small (by omega)))
theorem iop_mod : OpR X (inplaceOp .Mod) (rI (fun _ j => 0 < j) fun i j => .int (i % j)) := opI fun i j _ _ _ _ _ hc q => by
  have h1 : (0 : Int) < j := hc
  exact imod_int (by omega) (by rw [Int.fmod_eq_emod_of_nonneg i (by omega)]; exact q)
theorem iop_shl : OpR X (inplaceOp .LShift) (rI CPow fun i j => .int (i * 2 ^ j.toNat)) := opI fun _ _ _ _ _ _ _ hc q => ilshift_int_small hc.1 hc.2.1 hc.2.2 q
theorem iop_shr : OpR X (inplaceOp .RShift) (rI (fun _ j => 0 ≤ j) fun i j => .int (i / 2 ^ j.toNat)) := opI fun i j _ _ _ _ _ hc q =>
  irshift_int hc (by rw [Int.fdiv_eq_ediv_of_nonneg i (two_pow_nn _)]; exact q)
theorem iop_and : OpR X (inplaceOp .BitAnd) (rI0 fun i j => .int (Builtin.bitAnd i j)) := opI0 fun _ _ _ _ _ _ _ q => iand_int q
theorem iop_or : OpR X (inplaceOp .BitOr) (rI0 fun i j => .int (Builtin.bitOr i j)) := opI0 fun _ _ _ _ _ _ _ q => ior_int q
theorem iop_xor : OpR X (inplaceOp .BitXor) (rI0 fun i j => .int (Builtin.bitXor i j)) := opI0 fun _ _ _ _ _ _ _ q => ixor_int q

theorem unI {f : Value → Sem Value} {g : Int → Int}
    (rule : ∀ (i : Int) (t : Tok) (s : Shared) (Q : Value → Shared → Prop) (E : Value → Shared → Prop), Q (.int (g i) s.toks) { s with toks := s.toks + 1 } → wpAny (model X.prog X.w) X.A (f (.int i t)) Q E s) :
    UnR X f (rU fun i => .int (g i)) := by
  intro pins s σ H x v Q I rx h
  obtain ⟨i, rfl, q⟩ := h
  obtain ⟨t, rfl⟩ := rx
  exact rule i t s _ _ ⟨.int (g i), H, I.tok _, ⟨_, rfl⟩, q⟩
theorem un_neg : UnR X (unaryOp .USub) (rU fun i => .int (-i)) := unI fun _ _ _ _ _ q => neg_int q
theorem un_inv : UnR X (unaryOp .Invert) (rU fun i => .int (Builtin.bitNot i)) := unI fun _ _ _ _ _ q => invert_int q

/-! ### bools among ints: n += (a < b) -/
theorem op_add_ib : OpR X (binaryOp .Add) (fun x y H Q => ∃ i k, x = .int i ∧ y = .bl k ∧ Q (.int (i + b2i k)) H) := by
  intro pins s σ H x y v u Q I rx ry h
  obtain ⟨i, k, rfl, rfl, q⟩ := h
  obtain ⟨t, rfl⟩ := rx
  cases ry
  exact add_int_bool ⟨.int (i + b2i k), H, I.tok _, ⟨_, rfl⟩, q⟩
end

/-! ### comparisons -/
/-- the scalars that == tells apart as data does -/
def scal : V → V → Bool
  | .non, .non => true | .non, .int _ => true | .int _, .non => true | .non, .bl _ => true | .bl _, .non => true | .non, .str _ => true | .str _, .non => true
  | .int _, .int _ => true | .bl _, .bl _ => true | .str _, .str _ => true | .byt _, .byt _ => true
  | .int _, .str _ => true | .str _, .int _ => true | .bl _, .str _ => true | .str _, .bl _ => true
  | _, _ => false
def rEq : R2 := fun x y H Q => scal x y = true ∧ Q (.bl (decide (x = y))) H
def rNe : R2 := fun x y H Q => scal x y = true ∧ Q (.bl (!decide (x = y))) H

theorem dec_int {i j : Int} : decide (V.int i = V.int j) = (i == j) := by
  rw [Bool.eq_iff_iff]
  simp
theorem dec_bl {i j : Bool} : decide (V.bl i = V.bl j) = (i == j) := by
  rw [Bool.eq_iff_iff]
  simp
theorem dec_str {i j : Str} : decide (V.str i = V.str j) = (i == j) := by
  rw [Bool.eq_iff_iff]
  simp
theorem dec_byt {i j : Array UInt8} : decide (V.byt i = V.byt j) = (i.toList == j.toList) := by
  rw [Bool.eq_iff_iff]
  cases i
  cases j
  simp

section
variable {X : Cx} {a b c : Expr} {ta tb tc : TE} {pos : Pos}
theorem fin_bl {pins : List (Addr × Obj)} {σ : St} {H : Hp} {s : Shared} {Q : VK} {k k' : Bool} (I : Inv X pins σ H s) (q : Q (.bl k) H) (e : k = k') : EP X pins σ Q (.bool k') s := by
  subst e
  exact ⟨.bl k, H, I, rfl, q⟩
theorem op_eq : OpR X (compareOp .Eq) rEq := by
  intro pins s σ H x y v u Q I rx ry h
  obtain ⟨hs, q⟩ := h
  cases x with
  | non =>
    cases rx
    cases y with
    | non => cases ry; exact PySem.EqNone.eq_none_none (fin_bl I q (by simp))
    | bl j => cases ry; exact PySem.EqNone.eq_none_bool (fin_bl I q (by simp))
    | int j => obtain ⟨t', rfl⟩ := ry; exact PySem.EqNone.eq_none_int (fin_bl I q (by simp))
    | str j => obtain ⟨t', rfl⟩ := ry; exact PySem.EqNone.eq_none_str (fin_bl I q (by simp))
    | _ => exact absurd (show false = true from hs) Bool.false_ne_true
  | bl i =>
    cases rx
    cases y with
    | non => cases ry; exact PySem.EqNone.eq_bool_none (fin_bl I q (by simp))
    | bl j => cases ry; exact eq_bool (fin_bl I q dec_bl)
    | str j => obtain ⟨t', rfl⟩ := ry; exact PySem.EqMixed.eq_bool_str (fin_bl I q (by simp))
    | _ => exact absurd (show false = true from hs) Bool.false_ne_true
  | int i =>
    obtain ⟨t, rfl⟩ := rx
    cases y with
    | non => cases ry; exact PySem.EqNone.eq_int_none (fin_bl I q (by simp))
    | int j => obtain ⟨t', rfl⟩ := ry; exact eq_int (fin_bl I q dec_int)
    | str j => obtain ⟨t', rfl⟩ := ry; exact PySem.EqMixed.eq_int_str (fin_bl I q (by simp))
    | _ => exact absurd (show false = true from hs) Bool.false_ne_true
  | str i =>
    obtain ⟨t, rfl⟩ := rx
    cases y with
    | non => cases ry; exact PySem.EqNone.eq_str_none (fin_bl I q (by simp))
    | bl j => cases ry; exact PySem.EqMixed.eq_str_bool (fin_bl I q (by simp))
    | int j => obtain ⟨t', rfl⟩ := ry; exact PySem.EqMixed.eq_str_int (fin_bl I q (by simp))
    | str j => obtain ⟨t', rfl⟩ := ry; exact eq_str (fin_bl I q dec_str)
    | _ => exact absurd (show false = true from hs) Bool.false_ne_true
  | byt i =>
    obtain ⟨t, rfl⟩ := rx
    cases y with
    | byt j => obtain ⟨t', rfl⟩ := ry; exact PySem.W.eq_bytes (fin_bl I q dec_byt)
    | _ => exact absurd (show false = true from hs) Bool.false_ne_true
  | _ => cases y <;> exact absurd (show false = true from hs) Bool.false_ne_true
theorem op_ne : OpR X (compareOp .NotEq) rNe := by
  intro pins s σ H x y v u Q I rx ry h
  obtain ⟨hs, q⟩ := h
  cases x with
  | non =>
    cases rx
    cases y with
    | non => cases ry; exact PySem.EqNone.ne_none_none (fin_bl I q (by simp))
    | bl j => cases ry; exact PySem.EqNone.ne_none_bool (fin_bl I q (by simp))
    | int j => obtain ⟨t', rfl⟩ := ry; exact PySem.EqNone.ne_none_int (fin_bl I q (by simp))
    | str j => obtain ⟨t', rfl⟩ := ry; exact PySem.EqNone.ne_none_str (fin_bl I q (by simp))
    | _ => exact absurd (show false = true from hs) Bool.false_ne_true
  | bl i =>
    cases rx
    cases y with
    | non => cases ry; exact PySem.EqNone.ne_bool_none (fin_bl I q (by simp))
    | bl j => cases ry; exact ne_bool (fin_bl I q (congrArg not dec_bl))
    | str j => obtain ⟨t', rfl⟩ := ry; exact PySem.EqMixed.ne_bool_str (fin_bl I q (by simp))
    | _ => exact absurd (show false = true from hs) Bool.false_ne_true
  | int i =>
    obtain ⟨t, rfl⟩ := rx
    cases y with
    | non => cases ry; exact PySem.EqNone.ne_int_none (fin_bl I q (by simp))
    | int j => obtain ⟨t', rfl⟩ := ry; exact ne_int (fin_bl I q (congrArg not dec_int))
    | str j => obtain ⟨t', rfl⟩ := ry; exact PySem.EqMixed.ne_int_str (fin_bl I q (by simp))
    | _ => exact absurd (show false = true from hs) Bool.false_ne_true
  | str i =>
    obtain ⟨t, rfl⟩ := rx
    cases y with
    | non => cases ry; exact PySem.EqNone.ne_str_none (fin_bl I q (by simp))
    | bl j => cases ry; exact PySem.EqMixed.ne_str_bool (fin_bl I q (by simp))
    | int j => obtain ⟨t', rfl⟩ := ry; exact PySem.EqMixed.ne_str_int (fin_bl I q (by simp))
    | str j => obtain ⟨t', rfl⟩ := ry; exact ne_str (fin_bl I q (congrArg not dec_str))
    | _ => exact absurd (show false = true from hs) Bool.false_ne_true
  | byt i =>
    obtain ⟨t, rfl⟩ := rx
    cases y with
    | byt j => obtain ⟨t', rfl⟩ := ry; exact PySem.W.ne_bytes (fin_bl I q (congrArg not dec_byt))
    | _ => exact absurd (show false = true from hs) Bool.false_ne_true
  | _ => cases y <;> exact absurd (show false = true from hs) Bool.false_ne_true

theorem op_lt : OpR X (compareOp .Lt) (rI0 fun i j => .bl (decide (i < j))) := opB0 fun _ _ _ _ _ _ _ q => lt_int q
theorem op_le : OpR X (compareOp .LtE) (rI0 fun i j => .bl (decide (i ≤ j))) := opB0 fun _ _ _ _ _ _ _ q => le_int q
theorem op_gt : OpR X (compareOp .Gt) (rI0 fun i j => .bl (decide (j < i))) := opB0 fun _ _ _ _ _ _ _ q => gt_int q
theorem op_ge : OpR X (compareOp .GtE) (rI0 fun i j => .bl (decide (j ≤ i))) := opB0 fun _ _ _ _ _ _ _ q => ge_int q
theorem op_lt_str : OpR X (compareOp .Lt) (fun x y H Q => ∃ i j, x = .str i ∧ y = .str j ∧ Q (.bl (decide (i.cps.toList < j.cps.toList))) H) := by
  intro pins s σ H x y v u Q I rx ry h
  obtain ⟨i, j, rfl, rfl, q⟩ := h
  obtain ⟨t, rfl⟩ := rx
  obtain ⟨t', rfl⟩ := ry
  exact lt_str (fin_bl I q rfl)
/-- the one string within the other -/
theorem op_in_str : OpR X (compareOp .In) (fun x y H Q => ∃ i j, x = .str i ∧ y = .str j ∧ Q (.bl (!(Builtin.Str.occurrences j i 0 j.length 1).isEmpty)) H) := by
  intro pins s σ H x y v u Q I rx ry h
  obtain ⟨i, j, rfl, rfl, q⟩ := h
  obtain ⟨t, rfl⟩ := rx
  obtain ⟨t', rfl⟩ := ry
  exact in_str (fin_bl I q rfl)

/-- is None, is not None: the right side a value none -/
theorem op_isN : OpR X (compareOp .Is) (fun x y H Q => y = .non ∧ Q (.bl (decide (x = .non))) H) := by
  intro pins s σ H x y v u Q I rx ry h
  obtain ⟨rfl, q⟩ := h
  cases ry
  refine is_none_gen (fin_bl I q ?_)
  cases x <;> first
    | (cases rx; rfl)
    | (obtain ⟨t, rfl⟩ := rx; rfl)
theorem op_notN : OpR X (compareOp .IsNot) (fun x y H Q => y = .non ∧ Q (.bl (!decide (x = .non))) H) := by
  intro pins s σ H x y v u Q I rx ry h
  obtain ⟨rfl, q⟩ := h
  cases ry
  refine isnot_none_gen (fin_bl I q ?_)
  cases x <;> first
    | (cases rx; rfl)
    | (obtain ⟨t, rfl⟩ := rx; rfl)

theorem op_notin_str : OpR X (compareOp .NotIn) (fun x y H Q => ∃ i j, x = .str i ∧ y = .str j ∧ Q (.bl (!(!(Builtin.Str.occurrences j i 0 j.length 1).isEmpty))) H) := by
  intro pins s σ H x y v u Q I rx ry h
  obtain ⟨i, j, rfl, rfl, q⟩ := h
  obtain ⟨t, rfl⟩ := rx
  obtain ⟨t', rfl⟩ := ry
  exact notIn_str (fin_bl I q rfl)
/-- is, is not of two objects that are tracked lists or instances -/
def isObj : HO → Bool
  | .lst _ => true
  | .ins _ _ _ => true
  | _ => false
theorem obj_there {pins : List (Addr × Obj)} {s : Shared} {σ : St} {H : Hp} {a : Addr} {o : HO} (I : Inv X pins σ H s) (h : H a = some o) (p : isObj o = true) : ∃ ob, s.heap.get? a = some ob ∧ ob.cls ≠ .type "tuple" := by
  cases o with
  | lst xs =>
    obtain ⟨_, its, n, _, e⟩ : xs.length ≤ sizeLine ∧ ∃ (its : List Value) (n : Nat), Vals xs its ∧ s.heap.get? a = some { cls := .type "list", data := .seq its.toArray n } := I.hok a _ h
    exact ⟨_, e, (by show Value.type "list" ≠ .type "tuple"; decide +kernel)⟩
  | ins C dx fs =>
    have x := I.hok a _ h
    obtain ⟨_, _, _, e, _⟩ := x
    exact ⟨_, e, (by show Value.ref C ≠ .type "tuple"; exact fun z => by cases z)⟩
  | _ => exact absurd (show false = true from p) Bool.false_ne_true
theorem op_is_ref : OpR X (compareOp .Is) (fun x y H Q => ∃ a b oa ob, x = .ref a ∧ y = .ref b ∧ H a = some oa ∧ isObj oa = true ∧ H b = some ob ∧ isObj ob = true ∧ Q (.bl (decide (a = b))) H) := by
  intro pins s σ H x y v u Q I rx ry h
  obtain ⟨a, b, oa, ob, rfl, rfl, ha, pa, hb, pb, q⟩ := h
  cases rx
  cases ry
  obtain ⟨o1, e1, n1⟩ := obj_there I ha pa
  obtain ⟨o2, e2, _⟩ := obj_there I hb pb
  by_cases z : a = b
  · subst z
    exact wpAny_is_ref_self (fin_bl I q (by simp))
  · exact wpAny_is_ref_other z e1 e2 n1 (fin_bl I q (by simp [z]))
theorem op_isnot_ref : OpR X (compareOp .IsNot) (fun x y H Q => ∃ a b oa ob, x = .ref a ∧ y = .ref b ∧ H a = some oa ∧ isObj oa = true ∧ H b = some ob ∧ isObj ob = true ∧ Q (.bl (!decide (a = b))) H) := by
  intro pins s σ H x y v u Q I rx ry h
  obtain ⟨a, b, oa, ob, rfl, rfl, ha, pa, hb, pb, q⟩ := h
  cases rx
  cases ry
  obtain ⟨o1, e1, n1⟩ := obj_there I ha pa
  obtain ⟨o2, e2, _⟩ := obj_there I hb pb
  by_cases z : a = b
  · subst z
    exact wpAny_isNot_ref_self (fin_bl I q (by simp))
  · exact wpAny_isNot_ref_other z e1 e2 n1 (fin_bl I q (by simp [z]))

/-- two rules for one operation: by cases -/
theorem OpR.or {f : Value → Value → Sem Value} {r r' : R2} (h : OpR X f r) (h' : OpR X f r') : OpR X f (fun x y H Q => r x y H Q ∨ r' x y H Q) := by
  intro pins s σ H x y v u Q I rx ry q
  rcases q with q | q
  · exact h pins s σ H x y v u Q I rx ry q
  · exact h' pins s σ H x y v u Q I rx ry q

theorem nomark (b : Expr) {op : CmpOp} (h : op ≠ .In := by decide) (h2 : op ≠ .NotIn := by decide) : behindInMarks op b = false := by
  have e1 : (op == CmpOp.In) = false := by cases op <;> first | rfl | exact absurd rfl h
  have e2 : (op == CmpOp.NotIn) = false := by cases op <;> first | rfl | exact absurd rfl h2
  cases b <;> simp [behindInMarks, e1, e2]
/-- a comparison as a value; hm: nomark b, or (for in, not in) by with_unfolding_all rfl -/
theorem pe_cmpR {op : CmpOp} {r : R2} (ho : OpR X (compareOp op) r) (ha : PE X a ta) (hb : PE X b tb) (hm : behindInMarks op b = false) : PE X (.Compare a [op] [b] pos) (tOp r ta tb) := by
  intro pins s σ H Q I h
  exact wpAny_Compare1 (binT ha hb I h fun v u s2 x y H2 I2 rx ry q => ho pins s2 σ H2 x y v u Q I2 rx ry q) hm
/-- a reading of a value as a test -/
def tTest (t : TE) : TT := fun σ H Q => t σ H fun x H' => ∃ k, x = .bl k ∧ Q k H'
theorem pt_cmpR {op : CmpOp} {r : R2} (ho : OpR X (compareOp op) r) (ha : PE X a ta) (hb : PE X b tb) (hm : behindInMarks op b = false) : PT X (.Compare a [op] [b] pos) (tTest (tOp r ta tb)) := by
  intro pins s σ H Q I h
  refine wpAny_isTrue_Compare1 (thn (ha pins s σ H _ I h) fun v s1 ⟨x, H1, I1, r1, q1⟩ => thn (hb pins s1 σ H1 _ I1 q1) fun u s2 ⟨y, H2, I2, r2, q2⟩ =>
    thn (ho pins s2 σ H2 x y v u _ I2 r1 r2 q2) fun c s3 ⟨z, H3, I3, r3, k, e, q3⟩ => ?_) hm
  subst e
  cases r3
  exact wpAny_truthy_bool ⟨H3, I3, q3⟩
/-- a op1 b op2 c -/
def tChain (r r' : R2) (ta tb tc : TE) : TE := fun σ H Q => ta σ H fun x H1 => tb σ H1 fun y H2 => r x y H2 fun z H3 => ∃ k, z = .bl k ∧
  (if k = true then tc σ H3 fun w' H4 => r' y w' H4 Q else Q (.bl false) H3)
theorem pe_chain {op op' : CmpOp} {r r' : R2} (ho : OpR X (compareOp op) r) (ho' : OpR X (compareOp op') r') (ha : PE X a ta) (hb : PE X b tb) (hc : PE X c tc)
    (hm : lastMarks [op, op'] [b, c] = false := by with_unfolding_all rfl) : PE X (.Compare a [op, op'] [b, c] pos) (tChain r r' ta tb tc) := by
  intro pins s σ H Q I h
  refine Compare_chain (thn (ha pins s σ H _ I h) fun v s1 ⟨x, H1, I1, r1, q1⟩ => chain_link (thn (hb pins s1 σ H1 _ I1 q1) fun u s2 ⟨y, H2, I2, r2, q2⟩ =>
    thn (ho pins s2 σ H2 x y v u _ I2 r1 r2 q2) fun d s3 ⟨z, H3, I3, r3, k, e, q3⟩ => ?_)) hm
  subst e
  cases r3
  refine wpAny_truthy_bool ?_
  cases k with
  | false => exact ite_ff ⟨.bl false, H3, I3, rfl, q3⟩
  | true => exact ite_tt (chain_last (thn (hc pins s3 σ H3 _ I3 q3) fun w' s4 ⟨z', H4, I4, r4, q4⟩ => ho' pins s4 σ H4 y z' u w' Q I4 r2 r4 q4))
theorem pt_chain {op op' : CmpOp} {r r' : R2} (ho : OpR X (compareOp op) r) (ho' : OpR X (compareOp op') r') (ha : PE X a ta) (hb : PE X b tb) (hc : PE X c tc)
    (hm : lastMarks [op, op'] [b, c] = false := by with_unfolding_all rfl) : PT X (.Compare a [op, op'] [b, c] pos) (tTest (tChain r r' ta tb tc)) := by
  intro pins s σ H Q I h
  refine isTrue_chain (thn (ha pins s σ H _ I h) fun v s1 ⟨x, H1, I1, r1, q1⟩ => test_link (thn (hb pins s1 σ H1 _ I1 q1) fun u s2 ⟨y, H2, I2, r2, q2⟩ =>
    thn (ho pins s2 σ H2 x y v u _ I2 r1 r2 q2) fun d s3 ⟨z, H3, I3, r3, k, e, q3⟩ => ?_)) hm
  subst e
  cases r3
  refine wpAny_truthy_bool ?_
  cases k with
  | false =>
    obtain ⟨k', e', q'⟩ := q3
    cases e'
    exact ite_ff ⟨H3, I3, q'⟩
  | true =>
    refine ite_tt (test_last (thn (hc pins s3 σ H3 _ I3 q3) fun w' s4 ⟨z', H4, I4, r4, q4⟩ => thn (ho' pins s4 σ H4 y z' u w' _ I4 r2 r4 q4) fun d' s5 ⟨z2, H5, I5, r5, k2, e2, q5⟩ => ?_))
    subst e2
    cases r5
    exact wpAny_truthy_bool ⟨H5, I5, q5⟩

/-! ### truth -/
/-- a value's truth by the abstract heap -/
def TruV (K : PySem.W.Frag) (x : V) (H : Hp) (k : Bool) : Prop :=
  match x with
  | .non => k = false
  | .bl b => k = b
  | .int i => k = (i != 0)
  | .str y => y.length ≤ sizeLine ∧ k = ((y.length : Int) != 0)
  | .byt y => y.size ≤ sizeLine ∧ k = ((y.size : Int) != 0)
  | .ref p => (∃ xs, SqL K H p xs ∧ k = !xs.isEmpty) ∨ (∃ xs, SqT K H p xs ∧ k = !xs.isEmpty) ∨ ∃ kvs, H p = some (.dK kvs) ∧ k = !kvs.isEmpty
  | _ => False
theorem isEmpty_kv {κ : Type} {kvs : List (κ × V)} {vs : List (κ × Value)} (r : KV kvs vs) : (!vs.isEmpty) = !kvs.isEmpty := by
  cases r <;> rfl
theorem isEmpty_of {xs : List V} {its : List Value} (r : Vals xs its) : (!its.toArray.isEmpty) = !xs.isEmpty := by
  cases r <;> simp
theorem line63 : (sizeLine : Nat) < 2 ^ 63 := by rw [sizeLine_eq]; decide
theorem tru_ok : TruR X (fun x H Q => ∃ k, TruV X.K x H k ∧ Q k H) := by
  intro pins s σ H x v Q I rx h
  obtain ⟨k, e, q⟩ := h
  have hl := line63
  have hs : sizeLine = 16777216 := sizeLine_eq
  cases x with
  | non =>
    cases rx
    have e' : k = false := e
    subst e'
    exact truthy_none ⟨H, I, q⟩
  | bl b =>
    cases rx
    have e' : k = b := e
    subst e'
    exact wpAny_truthy_bool ⟨H, I, q⟩
  | int i =>
    obtain ⟨t, rfl⟩ := rx
    have e' : k = (i != 0) := e
    subst e'
    exact PySem.P.truthy_int ⟨H, I, q⟩
  | str y =>
    obtain ⟨t, rfl⟩ := rx
    obtain ⟨hy, e'⟩ : y.length ≤ sizeLine ∧ k = ((y.length : Int) != 0) := e
    subst e'
    exact PySem.P.truthy_str (by omega) ⟨H, I.tok _, q⟩
  | byt y =>
    obtain ⟨t, rfl⟩ := rx
    obtain ⟨hy, e'⟩ : y.size ≤ sizeLine ∧ k = ((y.size : Int) != 0) := e
    subst e'
    exact PySem.W.truthy_bytes (by omega) ⟨H, I.tok _, q⟩
  | ref p =>
    cases rx
    have e' : (∃ xs, SqL X.K H p xs ∧ k = !xs.isEmpty) ∨ (∃ xs, SqT X.K H p xs ∧ k = !xs.isEmpty) ∨ ∃ kvs, H p = some (.dK kvs) ∧ k = !kvs.isEmpty := e
    rcases e' with ⟨xs, hx, e'⟩ | ⟨xs, hx, e'⟩ | ⟨kvs, hx, e'⟩
    · subst e'
      obtain ⟨its, r, pl, hz⟩ := I.list hx
      have hlen := r.length
      exact wpAny_truthy_list pl.isList (by simp only [List.size_toArray]; omega) ⟨H, I.tok _, by rw [isEmpty_of r]; exact q⟩
    · subst e'
      obtain ⟨its, r, pl, hz⟩ := I.tuple hx
      have hlen := r.length
      exact truthy_tuple pl (by simp only [List.size_toArray]; omega) ⟨H, I.tok _, by rw [isEmpty_of r]; exact q⟩
    · subst e'
      obtain ⟨hz, hS, vs, r, m⟩ : kvs.length ≤ sizeLine ∧ (p == sysModules) = false ∧ ∃ vs, KV kvs vs ∧ s.heap.DictOf (mixKind X.prog X.w) p vs := I.hok p _ hx
      have hlen : kvs.length = vs.length := Paired.length r
      exact wpAny_truthy_dict hS m (by omega) ⟨H, I.tok _, by rw [isEmpty_kv r]; exact q⟩
  | _ => exact (show False from e).elim
/-- any expression whose test is its value's truth (a name, a call, a subscript, a field ..: he by fun _ => rfl) -/
theorem pt_truth (ha : PE X a ta) (he : ∀ whole, isTrue a X.env whole = (do let v ← whole; standAt a.pos; holding [v] (truthy v))) :
    PT X a (fun σ H Q => ta σ H fun x H' => ∃ k, TruV X.K x H' k ∧ Q k H') := by
  intro pins s σ H Q I h
  exact isTrue_plain (thn (ha pins s σ H _ I h) fun v s1 ⟨x, H1, I1, r1, q1⟩ => tru_ok pins s1 σ H1 x v Q I1 r1 q1) (he _)

/-! ### strs and bytes -/
theorem pe_byt {x : List UInt8} {k : Nat} : PE X (.Constant (.bytes x) k pos) (fun _ H Q => Q (.byt x.toArray) H) := fun _ _ _ H _ I h => PySem.W.Constant_bytes ⟨.byt x.toArray, H, I.tok _, ⟨_, rfl⟩, h⟩
theorem op_add_str : OpR X (binaryOp .Add) (fun x y H Q => ∃ i j, x = .str i ∧ y = .str j ∧ i.length + j.length ≤ sizeLine ∧ Q (.str (i ++ j)) H) := by
  intro pins s σ H x y v u Q I rx ry h
  obtain ⟨i, j, rfl, rfl, hz, q⟩ := h
  obtain ⟨t, rfl⟩ := rx
  obtain ⟨t', rfl⟩ := ry
  exact add_str (fun t' tk => ⟨.str (i ++ j), H, I.tok _, ⟨_, rfl⟩, q⟩) hz
theorem iop_add_str : OpR X (inplaceOp .Add) (fun x y H Q => ∃ i j, x = .str i ∧ y = .str j ∧ i.length + j.length ≤ sizeLine ∧ Q (.str (i ++ j)) H) := by
  intro pins s σ H x y v u Q I rx ry h
  obtain ⟨i, j, rfl, rfl, hz, q⟩ := h
  obtain ⟨t, rfl⟩ := rx
  obtain ⟨t', rfl⟩ := ry
  exact iadd_str (fun t' tk => ⟨.str (i ++ j), H, I.tok _, ⟨_, rfl⟩, q⟩) hz
theorem op_add_byt : OpR X (binaryOp .Add) (fun x y H Q => ∃ i j, x = .byt i ∧ y = .byt j ∧ i.size + j.size ≤ 16777216 ∧ Q (.byt (i ++ j)) H) := by
  intro pins s σ H x y v u Q I rx ry h
  obtain ⟨i, j, rfl, rfl, hz, q⟩ := h
  obtain ⟨t, rfl⟩ := rx
  obtain ⟨t', rfl⟩ := ry
  exact PySem.W.KBy.add_bytes hz (fun t' tk => ⟨.byt (i ++ j), H, I.tok _, ⟨_, rfl⟩, q⟩)

def PlainIxT (b : Expr) : Prop := ∀ o i, subscripted b false o i = operate [o, i] (getItem o i)
/-- s[i], 0 ≤ i < len -/
theorem pe_item_str (ha : PE X a ta) (hb : PE X b tb) (hs : PlainIxT b) :
    PE X (.Subscript a b pos) (tOp (fun x y H Q => ∃ z i c, x = .str z ∧ y = .int i ∧ 0 ≤ i ∧ i < 2 ^ 63 ∧ i < z.length ∧ z.cps[i.toNat]? = some c ∧ Q (.str ⟨#[c]⟩) H) ta tb) := by
  intro pins s σ H Q I h
  refine Subscript_ (binT ha hb I h fun v u s2 x y H2 I2 rx ry q => ?_)
  obtain ⟨z, i, c, rfl, rfl, h0, h63, h1, hc, q⟩ := q
  obtain ⟨t, rfl⟩ := rx
  obtain ⟨t', rfl⟩ := ry
  have e : seqIndex? i z.length = some i.toNat := PySem.StrLaws.seqIndex_nonneg h0 h1
  exact tail_any (typeIs_str s2 z t) slot_str_getitem.lookup (getItem_str (c := c) (by
    have e1 : decide (i < -(2 ^ 63 : Int)) = false := decide_eq_false (by omega)
    have e2 : decide (i ≥ 2 ^ 63) = false := decide_eq_false (by omega)
    rw [e1, e2] <;> rfl) (by rw [e]; exact hc) ⟨.str ⟨#[c]⟩, H2, I2.tok _, ⟨_, rfl⟩, q⟩) (hs _ _)
/-- b[i], 0 ≤ i < len -/
theorem pe_item_byt (ha : PE X a ta) (hb : PE X b tb) (hs : PlainIxT b) :
    PE X (.Subscript a b pos) (tOp (fun x y H Q => ∃ (z : List UInt8) (i : Int), x = .byt z.toArray ∧ y = .int i ∧ z.length ≤ sizeLine ∧ 0 ≤ i ∧ i < z.length ∧ Q (.int ((z.getD i.toNat 0).toNat : Nat)) H) ta tb) := by
  intro pins s σ H Q I h
  refine Subscript_ (binT ha hb I h fun v u s2 x y H2 I2 rx ry q => ?_)
  obtain ⟨z, i, rfl, rfl, hz, h0, h1, q⟩ := q
  obtain ⟨t, rfl⟩ := rx
  obtain ⟨t', rfl⟩ := ry
  have hl : sizeLine = 16777216 := sizeLine_eq
  exact tail_any (PySem.W.typeIs_bytes s2 z.toArray t) PySem.W.FB.slot_bytes_getitem.lookup (PySem.W.getItem_bytes (by omega) h0 h1 ⟨.int ((z.getD i.toNat 0).toNat : Nat), H2, I2.tok _, ⟨_, rfl⟩, q⟩) (hs _ _)

/-! ### scalar builtins, by CallR -/
theorem vals1 {x : V} {us : List Value} (r : Vals [x] us) : ∃ u, us = [u] ∧ RelV x u := by
  cases r with
  | cons r1 r2 => cases r2; exact ⟨_, rfl, r1⟩
theorem vals2 {x y : V} {us : List Value} (r : Vals [x, y] us) : ∃ u w', us = [u, w'] ∧ RelV x u ∧ RelV y w' := by
  cases r with
  | cons r1 r2 =>
    cases r2 with
    | cons r3 r4 => cases r4; exact ⟨_, _, rfl, r1, r3⟩
theorem call_abs : CallR X (.builtin "abs") (fun xs H Q => ∃ i, xs = [.int i] ∧ Q (.int (if i < 0 then -i else i)) H) := by
  intro pins s σ H xs us Q I r h
  obtain ⟨i, rfl, q⟩ := h
  obtain ⟨u, rfl, t, rfl⟩ := vals1 r
  exact call_abs_int fun u tk => ⟨.int (if i < 0 then -i else i), H, I.tok _, ⟨_, rfl⟩, q⟩
theorem call_max2 (hc : X.calm = true) : CallR X (.builtin "max") (fun xs H Q => ∃ i j, xs = [.int i, .int j] ∧ Q (.int (if j > i then j else i)) H) := by
  intro pins s σ H xs us Q I r h
  obtain ⟨i, j, rfl, q⟩ := h
  obtain ⟨u, w', rfl, ⟨t, rfl⟩, ⟨t', rfl⟩⟩ := vals2 r
  refine max_two_ints (I.ok.hd hc) fun h' tk k => ⟨_, H, I.kept k, ?_, q⟩
  by_cases hj : j > i
  · rw [if_pos hj, if_pos hj]; exact ⟨_, rfl⟩
  · rw [if_neg hj, if_neg hj]; exact ⟨_, rfl⟩
theorem call_min2 (hc : X.calm = true) : CallR X (.builtin "min") (fun xs H Q => ∃ i j, xs = [.int i, .int j] ∧ Q (.int (if j < i then j else i)) H) := by
  intro pins s σ H xs us Q I r h
  obtain ⟨i, j, rfl, q⟩ := h
  obtain ⟨u, w', rfl, ⟨t, rfl⟩, ⟨t', rfl⟩⟩ := vals2 r
  refine min_two_ints (I.ok.hd hc) fun h' tk k => ⟨_, H, I.kept k, ?_, q⟩
  by_cases hj : j < i
  · rw [if_pos hj, if_pos hj]; exact ⟨_, rfl⟩
  · rw [if_neg hj, if_neg hj]; exact ⟨_, rfl⟩
theorem call_int1 : CallR X (.type "int") (fun xs H Q => (∃ i, xs = [.int i] ∧ Q (.int i) H) ∨ ∃ k, xs = [.bl k] ∧ Q (.int (if k then 1 else 0)) H) := by
  intro pins s σ H xs us Q I r h
  rcases h with ⟨i, rfl, q⟩ | ⟨k, rfl, q⟩
  · obtain ⟨u, rfl, t, rfl⟩ := vals1 r
    exact call_int_int ⟨.int i, H, I, ⟨_, rfl⟩, q⟩
  · obtain ⟨u, rfl, r1⟩ := vals1 r
    cases r1
    exact call_int_bool ⟨.int (if k then 1 else 0), H, I.tok _, ⟨_, rfl⟩, q⟩
theorem call_bool1 : CallR X (.type "bool") (fun xs H Q => (∃ i, xs = [.int i] ∧ Q (.bl (i != 0)) H) ∨ ∃ k, xs = [.bl k] ∧ Q (.bl k) H) := by
  intro pins s σ H xs us Q I r h
  rcases h with ⟨i, rfl, q⟩ | ⟨k, rfl, q⟩
  · obtain ⟨u, rfl, t, rfl⟩ := vals1 r
    exact call_bool_int ⟨.bl (i != 0), H, I, rfl, q⟩
  · obtain ⟨u, rfl, r1⟩ := vals1 r
    cases r1
    exact call_bool_bool ⟨.bl k, H, I, rfl, q⟩
theorem call_str_int : CallR X (.type "str") (fun xs H Q => ∃ i, xs = [.int i] ∧ i.natAbs.log2 < 1920 ∧ Q (.str (toString i)) H) := by
  intro pins s σ H xs us Q I r h
  obtain ⟨i, rfl, hz, q⟩ := h
  obtain ⟨u, rfl, t, rfl⟩ := vals1 r
  exact PySem.P.str_of_int hz ⟨.str _, H, I.tok _, ⟨_, rfl⟩, q⟩
theorem call_ord : CallR X (.builtin "ord") (fun xs H Q => ∃ x, xs = [.str x] ∧ x.length = 1 ∧ Q (.int (x.cps.getD 0 0 : Nat)) H) := by
  intro pins s σ H xs us Q I r h
  obtain ⟨x, rfl, hz, q⟩ := h
  obtain ⟨u, rfl, t, rfl⟩ := vals1 r
  exact ord_of_one hz ⟨.int _, H, I.tok _, ⟨_, rfl⟩, q⟩
theorem call_chr : CallR X (.builtin "chr") (fun xs H Q => ∃ i, xs = [.int i] ∧ 0 ≤ i ∧ i ≤ 1114111 ∧ Q (.str ⟨#[i.toNat]⟩) H) := by
  intro pins s σ H xs us Q I r h
  obtain ⟨i, rfl, h0, h1, q⟩ := h
  obtain ⟨u, rfl, t, rfl⟩ := vals1 r
  exact chr_of_range h0 h1 ⟨.str _, H, I.tok _, ⟨_, rfl⟩, q⟩
/-- len of a str, a bytes, a list, a tuple -/
def LenV (K : PySem.W.Frag) (x : V) (H : Hp) (n : Nat) : Prop :=
  match x with
  | .str y => y.length ≤ sizeLine ∧ n = y.length
  | .byt y => y.size ≤ sizeLine ∧ n = y.size
  | .ref p => (∃ xs, SqL K H p xs ∧ n = xs.length) ∨ ∃ xs, SqT K H p xs ∧ n = xs.length
  | _ => False
theorem call_len : CallR X (.builtin "len") (fun xs H Q => ∃ x n, xs = [x] ∧ LenV X.K x H n ∧ Q (.int n) H) := by
  intro pins s σ H xs us Q I r h
  obtain ⟨x, n, rfl, e, q⟩ := h
  obtain ⟨u, rfl, rx⟩ := vals1 r
  have hl := line63
  have hs : sizeLine = 16777216 := sizeLine_eq
  cases x with
  | str y =>
    obtain ⟨t, rfl⟩ := rx
    obtain ⟨hy, e'⟩ : y.length ≤ sizeLine ∧ n = y.length := e
    subst e'
    exact len_str (by omega) ⟨.int _, H, I.tok _, ⟨_, rfl⟩, q⟩
  | byt y =>
    obtain ⟨t, rfl⟩ := rx
    obtain ⟨hy, e'⟩ : y.size ≤ sizeLine ∧ n = y.size := e
    subst e'
    exact PySem.W.len_bytes (by omega) ⟨.int _, H, I.tok _, ⟨_, rfl⟩, q⟩
  | ref p =>
    cases rx
    have e' : (∃ xs, SqL X.K H p xs ∧ n = xs.length) ∨ ∃ xs, SqT X.K H p xs ∧ n = xs.length := e
    rcases e' with ⟨xs, hx, e'⟩ | ⟨xs, hx, e'⟩
    · subst e'
      obtain ⟨its, r', pl, hz⟩ := I.list hx
      have hlen := r'.length
      exact Calls.call_len_list pl.isList (by simp only [List.size_toArray]; omega) ⟨.int xs.length, H, I.tok _, ⟨_, by simp only [List.size_toArray]; rw [hlen]⟩, q⟩
    · subst e'
      obtain ⟨its, r', pl, hz⟩ := I.tuple hx
      have hlen := r'.length
      exact len_tuple pl (by simp only [List.size_toArray]; omega) ⟨.int xs.length, H, I.tok _, ⟨_, by simp only [List.size_toArray]; rw [hlen]⟩, q⟩
  | _ => exact (show False from e).elim
/-- divmod: a new tuple -/
theorem call_divmod : CallR X (.builtin "divmod") (fun xs H Q => ∃ i j, xs = [.int i, .int j] ∧ CDiv i j ∧ ∀ p, H p = none → Q (.ref p) (upd H p (.tup [.int (i / j), .int (i % j)]))) := by
  intro pins s σ H xs us Q I r h
  obtain ⟨i, j, rfl, ⟨h1, h2⟩, q⟩ := h
  obtain ⟨u, w', rfl, ⟨t, rfl⟩, ⟨t', rfl⟩⟩ := vals2 r
  refine divmod_int (by omega) ?_ (.inl (PyProof.noPylong_small (by omega)))
  rw [Int.fdiv_eq_ediv_of_nonneg i (by omega), Int.fmod_eq_emod_of_nonneg i (by omega)]
  have hn : H s.heap.objs.size = none := I.hok.fresh (Nat.le_refl _)
  refine ⟨.ref s.heap.objs.size, _, ?_, rfl, q _ hn⟩
  refine I.laid (fun b o e => Heap.get?_push_of_some _ e) (Nat.le_refl _) ⟨by simp only [List.length_cons, List.length_nil]; rw [sizeLine_eq]; decide, [.int (i / j) s.toks, .int (i % j) (s.toks + 1)], .cons ⟨_, rfl⟩ (.cons ⟨_, rfl⟩ .nil), ?_⟩
  exact ⟨_, Heap.get?_push_size s.heap rfl, rfl, 0, rfl⟩
end
end L2

namespace L2
open PySem PySem.Spec PyProof.Rows

/-! ### an instance, its attributes a map -/
structure ObjM (h : Heap) (x dx C : Addr) (mA : Str → Option Value) : Prop where
  obj : h.get? x = some (PySem.W.instObj C dx)
  ns : h.Ns1 dx mA
  ne : dx ≠ x

theorem lookIn_ns {h : Heap} {dx : Addr} {mA : Str → Option Value} (n : h.Ns1 dx mA) : ∃ od, h.get? dx = some od ∧ ∀ name, PySem.W.lookIn name od = some (mA name) := by
  obtain ⟨o, es, ep, ho, hd, hk, _, hm⟩ := n
  refine ⟨o, ho, fun name => ?_⟩
  have e := hm name
  unfold nsFind findBy at e
  rw [← Array.find?_toList] at e
  unfold PySem.W.lookIn
  rw [hd]
  dsimp only
  split
  · rename_i y q
    rw [q] at e
    exact congrArg some e
  · rename_i q
    rw [q] at e
    have a : es.toList.any (·.refKey) = false := by
      rw [List.any_eq_false]
      intro y hy
      obtain ⟨z, t, hkey⟩ := hk y (Array.mem_toList_iff.mp hy)
      simp [DictEntry.refKey, hkey]
    have a' : ¬ es.toList.any (·.refKey) = true := by rw [a]; exact Bool.false_ne_true
    rw [if_neg a']
    exact congrArg some e

theorem ObjM.look {h : Heap} {x dx C : Addr} {mA : Str → Option Value} (I : ObjM h x dx C mA) : ∃ od, PySem.W.InstAt h x (PySem.W.instObj C dx) C (some od) ∧ ∀ name, PySem.W.lookIn name od = some (mA name) :=
  let ⟨od, ho, hl⟩ := lookIn_ns I.ns
  ⟨od, ⟨I.obj, rfl, rfl, ho⟩, hl⟩

section
variable {prog : Program} {w : World} {A : Around} {E : Value → Shared → Prop} {s : Shared} {K : PySem.W.Frag} {x dx C f : Addr} {mA : Str → Option Value} {name : Str} {v : Value}

theorem get_map {expr : Bool} {Q : Value → Shared → Prop} (X : K.In s.heap) (I : ObjM s.heap x dx C mA) (hg : PySem.W.plainGet K C name = true) (hh : PySem.W.hasDictIn K C = true)
    (ha : PySem.W.findIn K (.ref C) name = some none) (hv : mA name = some v) (hv' : PySem.W.handedIn v = true) (h : Q v { s with toks := s.toks + 1 }) :
    wpAny (model prog w) A (getAttr (.ref x) name expr) Q E s := by
  obtain ⟨od, J, hl⟩ := I.look
  exact PySem.W.get_value X J (PySem.W.plainGet_of hg).1 (PySem.W.findObj_own hh ha rfl (by rw [hl, hv])) hv' h

theorem get_const {expr : Bool} {a : Value} {Q : Value → Shared → Prop} (X : K.In s.heap) (I : ObjM s.heap x dx C mA) (hg : PySem.W.plainGet K C name = true) (hh : PySem.W.hasDictIn K C = true)
    (ha : PySem.W.findIn K (.ref C) name = some (some a)) (hn : PySem.W.specialIn K a "__get__" = some none) (hc : PySem.W.copiedNames.contains name = false) (hv : mA name = none) (hv' : PySem.W.handedIn a = true)
    (h : Q a { s with toks := s.toks + 1 }) : wpAny (model prog w) A (getAttr (.ref x) name expr) Q E s := by
  obtain ⟨od, J, hl⟩ := I.look
  exact PySem.W.get_value X J (PySem.W.plainGet_of hg).1 (PySem.W.findObj_cls hh ha hn hv' hc (by rw [hl, hv])) hv' h

theorem get_meth {pl : Sem Bool} {Q : Value × List Value → Shared → Prop} (X : K.In s.heap) (I : ObjM s.heap x dx C mA) (hg : PySem.W.plainGet K C name = true)
    (hf : PySem.W.findIn K (.ref C) name = some (some (.ref f))) (ht : PySem.W.isFn K (.ref f) = true) (hv : mA name = none) (h : Q (.ref f, [.ref x]) s) :
    wpAny (model prog w) A (getMethod (.ref x) name pl) Q E s := by
  obtain ⟨od, J, hl⟩ := I.look
  exact PySem.W.method_fn X J (PySem.W.plainGet_of hg).1 (PySem.W.plainGet_of hg).2 hf (beq_iff_eq.mp ht) (by show (PySem.W.lookIn name od).map (·.isSome) = some false; rw [hl, hv]; rfl) h

theorem set_map {ns : List Str} {Q : Unit → Shared → Prop} (X : K.In s.heap) (I : ObjM s.heap x dx C mA)
    (hs : PySem.W.findIn K (.ref C) "__setattr__" = some (some (.builtin "object.__setattr__"))) (hp : PySem.W.plainOver K C = true) (ht : PySem.W.takerIn K C name = some none) (hh : PySem.W.hasDictIn K C = true)
    (hw : PySem.Within mA ns) (hsz : ns.length ≤ sizeLine)
    (h : ∀ h', ObjM h' x dx C (fun y => if y = name then some v else mA y) → Heap.SameBut dx s.heap h' → Q () { s with heap := h', toks := s.toks + 2 }) :
    wpAny (model prog w) A (setAttr (.ref x) name v) Q E s := by
  obtain ⟨od, J, hl⟩ := I.look
  refine PySem.W.set_plain X J hs (PySem.W.osa_open (s := { s with toks := s.toks + 1 }) (r := none) X J hp ht fun b => ?_)
  obtain ⟨cd, hc, hd'⟩ := PySem.W.any_some hh
  have hx : s.heap.get? x = some ⟨.ref C, some dx, .plain, #[]⟩ := I.obj
  refine wpAny_bind (wpAny_pure (wpAny_bind (wpAny_bind (wpAny_loadPart hx (wpAny_bind (PySem.W.Looks.here (s := { s with toks := s.toks + 1 }) (PySem.W.looks_clsIn X hc) ?_))))))
  rw [hd']
  refine wpAny_pure (a := some dx) (wpAny_bind (wpAny_pure (wpAny_bind ?_)))
  refine wpAny_nsSet1 (s := { s with toks := s.toks + 1 }) I.ns fun h' hn2 hs2 => ?_
  obtain ⟨oD, esD, epD, hoD, hdD, hcD⟩ := hn2.count (PySem.Within.cons name v hw)
  refine wpAny_bind (wpAny_lookBehind hoD (by rw [hdD]; exact pastItsLine_dict (Nat.le_trans hcD (by rw [List.length_cons]; omega))) ?_)
  exact wpAny_pure (h _ ⟨(hs2.2 _ (Ne.symm I.ne)).trans I.obj, hn2, I.ne⟩ hs2)

/-- C(..): the dict at the heap's end, the instance behind it; then its __init__ -/
theorem make_map {R : Result → Shared → Prop} {vs : List Value} {kw : List (Str × Value)} (X : K.In s.heap) (hm : PySem.W.makesIn K C = true)
    (hi : PySem.W.findIn K (.ref C) "__init__" = some (some (.ref f))) (hf : PySem.W.typeIn K (.ref f) = some (.type "function"))
    (h : codeAny (model prog w) (A.under (.builtin "type.__call__" ⟨.ref C :: vs, kw⟩)) (.call (.ref f) ⟨.ref (s.heap.objs.size + 1) :: vs, kw⟩) (PySem.W.InitBack (s.heap.objs.size + 1) R)
      { s with heap := (s.heap.push PySem.W.emptyDict).push (PySem.W.instObj C s.heap.objs.size) }) :
    codeAny (model prog w) A (.call (.ref C) ⟨vs, kw⟩) R s := by
  obtain ⟨hh, g, d, t, os⟩ := s
  exact PySem.W.make_core (PySem.W.makes_of X hm) (PySem.W.looks_findIn X hi) (fun self => PySem.W.bind_fn X self hf) (.inl rfl) h
/-- C() where there is no __init__ but object's -/
theorem make_map0 {R : Result → Shared → Prop} (X : K.In s.heap) (hm : PySem.W.makesIn K C = true)
    (hi : PySem.W.findIn K (.ref C) "__init__" = some (some (.builtin "object.__init__")))
    (hb : ∀ self, PySem.W.Looks (model prog w) s.heap (bindSpecial (.builtin "object.__init__") self) (.builtin "object.__init__", [self]))
    (h : codeAny (model prog w) (A.under (.builtin "type.__call__" ⟨[.ref C], []⟩)) (.call (.builtin "object.__init__") ⟨[.ref (s.heap.objs.size + 1)], []⟩) (PySem.W.InitBack (s.heap.objs.size + 1) R)
      { s with heap := (s.heap.push PySem.W.emptyDict).push (PySem.W.instObj C s.heap.objs.size) }) :
    codeAny (model prog w) A (.call (.ref C) ⟨[], []⟩) R s := by
  obtain ⟨hh, g, d, t, os⟩ := s
  exact PySem.W.make_core (PySem.W.makes_of X hm) (PySem.W.looks_findIn X hi) hb (.inr ⟨rfl, rfl⟩) h
end

/-! ### the attributes as a list of pairs -/
def putF (f : Str) (v : V) : List (Str × V) → List (Str × V)
  | [] => [(f, v)]
  | (g, x) :: r => if g = f then (g, v) :: r else (g, x) :: putF f v r
theorem lookup_putF (f g : Str) (v : V) : ∀ fs : List (Str × V), (putF f v fs).lookup g = if g = f then some v else fs.lookup g
  | [] => by
    show List.lookup g [(f, v)] = _
    by_cases h : g = f
    · have hb : (g == f) = true := beq_iff_eq.mpr h
      simp only [List.lookup, hb, if_pos h]
    · have hb : (g == f) = false := beq_eq_false_iff_ne.mpr h
      simp only [List.lookup, hb, if_neg h]
  | (k, x) :: r => by
    have ih := lookup_putF f g v r
    rw [show putF f v ((k, x) :: r) = (if k = f then (k, v) :: r else (k, x) :: putF f v r) from rfl]
    by_cases hk : k = f
    · rw [if_pos hk]
      by_cases h : g = k
      · have hb : (g == k) = true := beq_iff_eq.mpr h
        simp only [List.lookup, hb, if_pos (h.trans hk)]
      · have hb : (g == k) = false := beq_eq_false_iff_ne.mpr h
        simp only [List.lookup, hb, if_neg (fun e : g = f => h (e.trans hk.symm))]
    · rw [if_neg hk]
      by_cases h : g = k
      · have hb : (g == k) = true := beq_iff_eq.mpr h
        simp only [List.lookup, hb, if_neg (fun e : g = f => hk (h.symm.trans e))]
      · have hb : (g == k) = false := beq_eq_false_iff_ne.mpr h
        simp only [List.lookup, hb]
        exact ih
theorem keys_putF (f : Str) (v : V) : ∀ fs : List (Str × V), f ∈ (putF f v fs).map (·.1) ∧ ∀ g, g ∈ fs.map (·.1) → g ∈ (putF f v fs).map (·.1)
  | [] => ⟨by simp [putF], fun g h => by simp at h⟩
  | (k, x) :: r => by
    obtain ⟨i1, i2⟩ := keys_putF f v r
    rw [show putF f v ((k, x) :: r) = (if k = f then (k, v) :: r else (k, x) :: putF f v r) from rfl]
    by_cases hk : k = f
    · rw [if_pos hk]
      subst hk
      exact ⟨by simp, fun g h => by simpa using h⟩
    · rw [if_neg hk]
      refine ⟨?_, fun g h => ?_⟩
      · rw [List.map_cons]
        exact List.mem_cons_of_mem _ i1
      · rw [List.map_cons] at h ⊢
        rcases List.mem_cons.mp h with e | e
        · exact List.mem_cons.mpr (.inl e)
        · exact List.mem_cons_of_mem _ (i2 g e)
theorem length_putF (f : Str) (v : V) : ∀ fs : List (Str × V), (putF f v fs).length ≤ fs.length + 1
  | [] => by simp [putF]
  | (k, x) :: r => by
    have ih := length_putF f v r
    rw [show putF f v ((k, x) :: r) = (if k = f then (k, v) :: r else (k, x) :: putF f v r) from rfl]
    by_cases hk : k = f
    · rw [if_pos hk, List.length_cons, List.length_cons]; omega
    · rw [if_neg hk, List.length_cons, List.length_cons]; omega

theorem RelO.some_of {v : V} {o : Option Value} (r : RelO (some v) o) : ∃ u, o = some u ∧ RelV v u := by
  cases o with
  | none => exact (show False from r).elim
  | some u => exact ⟨u, rfl, r⟩
theorem RelO.none_of {o : Option Value} (r : RelO none o) : o = none := by
  cases o with
  | none => rfl
  | some u => exact (show False from r).elim
theorem handed_of {v : V} {u : Value} (r : RelV v u) : PySem.W.handedIn u = true := by
  cases v with
  | non => cases (show u = Value.none from r); rfl
  | bl b => cases (show u = Value.bool b from r); rfl
  | int i => obtain ⟨t, e⟩ := (show ∃ t, u = Value.int i t from r); cases e; rfl
  | str x => obtain ⟨t, e⟩ := (show ∃ t, u = Value.str x t from r); cases e; rfl
  | byt b => obtain ⟨t, e⟩ := (show ∃ t, u = Value.bytes b t from r); cases e; rfl
  | flt b => obtain ⟨t, e⟩ := (show ∃ t, u = Value.float b t from r); cases e; rfl
  | ref a => cases (show u = Value.ref a from r); rfl
  | ty n => cases (show u = Value.type n from r); rfl

section
variable {P : Program} {w : World} {H H' : Hp} {h h' : Heap} {a C dx : Addr} {fs fs' : List (Str × V)}
theorem ins_get (hok : HOk P w H h) (e : H a = some (.ins C dx fs)) : ∃ mA, ObjM h a dx C mA ∧ (∀ f, RelO (fs.lookup f) (mA f)) ∧ PySem.Within mA (fs.map (·.1)) ∧ fs.length ≤ 1000 ∧ H dx = some (.own a) := by
  obtain ⟨d, z, ne, ob, mA, n, r, q⟩ := (show ObjOk P w H h a (.ins C dx fs) from hok a _ e)
  exact ⟨mA, ⟨ob, n, ne⟩, r, q, z, d⟩
end

/-! ### what of the text a class must have -/
structure Cls (K : PySem.W.Frag) (C : Addr) : Prop where
  pg : PySem.W.plainGet K C Str.empty = true
  hd : PySem.W.hasDictIn K C = true
  po : PySem.W.plainOver K C = true
  sa : PySem.W.findIn K (.ref C) "__setattr__" = some (some (.builtin "object.__setattr__"))
theorem Cls.get {K : PySem.W.Frag} {C : Addr} (c : Cls K C) (f : Str) : PySem.W.plainGet K C f = true := c.pg
/-- no class of it has the name -/
def NoAttr (K : PySem.W.Frag) (C : Addr) (f : Str) : Prop := PySem.W.findIn K (.ref C) f = some none
theorem NoAttr.taker {K : PySem.W.Frag} {C : Addr} {f : Str} (n : NoAttr K C f) : PySem.W.takerIn K C f = some none := by
  unfold PySem.W.takerIn
  rw [show PySem.W.findIn K (.ref C) f = some none from n]
  rfl
/-- a constant of the class -/
structure Con (K : PySem.W.Frag) (C : Addr) (f : Str) (v : V) (u : Value) : Prop where
  at_ : PySem.W.findIn K (.ref C) f = some (some u)
  rel : RelV v u
  get : PySem.W.specialIn K u "__get__" = some none
  cp : PySem.W.copiedNames.contains f = false
/-- a method: a plain def of the class or of one above it -/
structure Meth (K : PySem.W.Frag) (C : Addr) (m : Str) (f : Addr) : Prop where
  at_ : PySem.W.findIn K (.ref C) m = some (some (.ref f))
  fn : PySem.W.isFn K (.ref f) = true
  kp : PySem.W.keepIn K (.ref f) = true

section
variable {X : Cx} {pins : List (Addr × Obj)} {σ : St} {H : Hp} {s : Shared} {a C dx : Addr} {fs : List (Str × V)} {f : Str} {v : V} {A : Around} {E : Value → Shared → Prop}

theorem getattr_ok {b : Bool} {Q : Value → Shared → Prop} (I : Inv X pins σ H s) (e : H a = some (.ins C dx fs)) (c : Cls X.K C) (n : NoAttr X.K C f) (l : fs.lookup f = some v)
    (h : ∀ u s', Inv X pins σ H s' → RelV v u → Q u s') : wpAny (model X.prog X.w) A (getAttr (.ref a) f b) Q E s := by
  obtain ⟨mA, O, r, _, _, _⟩ := ins_get I.hok e
  obtain ⟨u, hu, ru⟩ := RelO.some_of (v := v) (o := mA f) (by rw [← l]; exact r f)
  exact get_map I.kIn O (c.get f) c.hd n hu (handed_of ru) (h u _ (I.tok _) ru)

theorem getcon_ok {b : Bool} {u : Value} {Q : Value → Shared → Prop} (I : Inv X pins σ H s) (e : H a = some (.ins C dx fs)) (c : Cls X.K C) (k : Con X.K C f v u) (l : fs.lookup f = none)
    (h : ∀ s', Inv X pins σ H s' → Q u s') : wpAny (model X.prog X.w) A (getAttr (.ref a) f b) Q E s := by
  obtain ⟨mA, O, r, _, _, _⟩ := ins_get I.hok e
  have hn : mA f = none := RelO.none_of (by rw [← l]; exact r f)
  exact get_const I.kIn O (c.get f) c.hd k.at_ k.get k.cp hn (handed_of k.rel) (h _ (I.tok _))

theorem getmeth_ok {m : Str} {g : Addr} {pl : Sem Bool} {Q : Value × List Value → Shared → Prop} (I : Inv X pins σ H s) (e : H a = some (.ins C dx fs)) (c : Cls X.K C) (k : Meth X.K C m g) (l : fs.lookup m = none)
    (h : Q (.ref g, [.ref a]) s) : wpAny (model X.prog X.w) A (getMethod (.ref a) m pl) Q E s := by
  obtain ⟨mA, O, r, _, _, _⟩ := ins_get I.hok e
  have hn : mA m = none := RelO.none_of (by rw [← l]; exact r m)
  exact get_meth I.kIn O (c.get m) k.at_ k.fn hn h

theorem setattr_ok {y : V} {u : Value} {Q : Unit → Shared → Prop} (I : Inv X pins σ H s) (e : H a = some (.ins C dx fs)) (c : Cls X.K C) (n : NoAttr X.K C f) (hl : fs.length < 1000) (ry : RelV y u)
    (h : ∀ s', Inv X pins σ (upd H a (.ins C dx (putF f y fs))) s' → Q () s') : wpAny (model X.prog X.w) A (setAttr (.ref a) f u) Q E s := by
  obtain ⟨mA, O, r, wi, _, ho⟩ := ins_get I.hok e
  have hz : (fs.map (·.1)).length ≤ sizeLine := by rw [List.length_map, sizeLine_eq]; omega
  refine set_map I.kIn O c.sa c.po n.taker c.hd wi hz fun h' O' sb => h _ ?_
  have hd : ∃ o, h'.get? dx = some o := let ⟨o, _, _, e', _⟩ := O'.ns; ⟨o, e'⟩
  refine I.write (x := a) (e := dx) (by rw [e]; exact True.intro) (.inr ho) (fun b q hb z => (sb.2 b hb).trans z) hd ?_
  refine ⟨by rw [upd_ne O.ne]; exact ho, ?_, O.ne, O'.obj, _, O'.ns, fun g => ?_, fun g hg => ?_⟩
  · have := length_putF f y fs; omega
  · show RelO ((putF f y fs).lookup g) (if g = f then some u else mA g)
    rw [lookup_putF]
    by_cases q : g = f
    · rw [if_pos q, if_pos q]; exact ry
    · rw [if_neg q, if_neg q]; exact r g
  · by_cases q : g = f
    · rw [q]; exact (keys_putF f y fs).1
    · refine (keys_putF f y fs).2 g (wi g fun z => hg ?_)
      show (if g = f then some u else mA g) = none
      rw [if_neg q]; exact z

/-- a new instance, tracked, without attributes -/
theorem Inv.made (I : Inv X pins σ H s) : Inv X pins σ (upd (upd H s.heap.objs.size (.own (s.heap.objs.size + 1))) (s.heap.objs.size + 1) (.ins C s.heap.objs.size []))
    { s with heap := (s.heap.push PySem.W.emptyDict).push (PySem.W.instObj C s.heap.objs.size) } := by
  have e1 : (s.heap.push PySem.W.emptyDict).get? s.heap.objs.size = some PySem.W.emptyDict := Heap.get?_push_size s.heap rfl
  have e2 : ((s.heap.push PySem.W.emptyDict).push (PySem.W.instObj C s.heap.objs.size)).get? (s.heap.objs.size + 1) = some (PySem.W.instObj C s.heap.objs.size) := by
    have := Heap.get?_push_size (s.heap.push PySem.W.emptyDict) (o := PySem.W.instObj C s.heap.objs.size) rfl
    rwa [Heap.size_push] at this
  have e3 : (s.heap.push PySem.W.emptyDict).Ns s.heap.objs.size (fun _ => none) := ⟨PySem.W.emptyDict, #[], _, e1, rfl, (fun e he => absurd he (by simp)), fun _ => rfl⟩
  have I1 := I.laid (a := s.heap.objs.size) (o := .own (s.heap.objs.size + 1)) (h' := s.heap.push PySem.W.emptyDict) (t' := s.toks) (fun b u q => Heap.get?_push_of_some _ q) (Nat.le_refl _) ⟨_, e1⟩
  refine I1.laid (a := s.heap.objs.size + 1) (o := .ins C s.heap.objs.size []) (t' := s.toks) (fun b u q => Heap.get?_push_of_some _ q) (Nat.le_of_eq (Heap.size_push _ _)) ?_
  have ne : s.heap.objs.size ≠ s.heap.objs.size + 1 := Nat.ne_of_lt (Nat.lt_succ_self _)
  refine ⟨by rw [upd_ne ne, upd_same], Nat.zero_le _, ne, e2, fun _ => none, (Heap.Ns1.of_empty e3).at fun o q => Heap.get?_push_of_some _ q, fun _ => True.intro, fun y hy => absurd rfl hy⟩

/-- e.f where nothing but the object is asked: through attributeBase (super) and the last hold -/
theorem attr_of {prog : Program} {w : World} {env : Env} {e : Expr} {f : Str} {pos : Pos} {s : Shared} {Q : Value → Shared → Prop} (hb : attributeBase e f env (eval e env) = eval e env)
    (h : wpAny (model prog w) A (eval e env) (fun o s₁ => wpAny (model prog w) A (getAttr o f true) Q E s₁) E s) : wpAny (model prog w) A (eval (.Attribute e f pos) env) Q E s :=
  Attribute_any_ h (by rw [arm_eval_Attribute, hb])
end

/-! ### readings and rules -/
/-- e.f, an attribute of the instance -/
def tFld (K : PySem.W.Frag) (ta : TE) (f : Str) : TE := fun σ H Q => ta σ H fun x H1 => ∃ a C dx fs v, x = .ref a ∧ H1 a = some (.ins C dx fs) ∧ Cls K C ∧ NoAttr K C f ∧ fs.lookup f = some v ∧ Q v H1
/-- e.f, a constant of the class -/
def tCon (K : PySem.W.Frag) (ta : TE) (f : Str) : TE := fun σ H Q => ta σ H fun x H1 => ∃ a C dx fs v u, x = .ref a ∧ H1 a = some (.ins C dx fs) ∧ Cls K C ∧ Con K C f v u ∧ fs.lookup f = none ∧ Q v H1
/-- e.f = value -/
def sFld (K : PySem.W.Frag) (ta tv : TE) (f : Str) : TS := fun D σ H => tv σ H fun y H1 => ta σ H1 fun x H2 => ∃ a C dx fs, x = .ref a ∧ H2 a = some (.ins C dx fs) ∧ Cls K C ∧ NoAttr K C f ∧ fs.length < 1000 ∧
  D.nx σ (upd H2 a (.ins C dx (putF f y fs)))
/-- an augmented operator on two values -/
def InOp (X : Cx) (op : Operator) (rd : V → V → Hp → VK → Prop) : Prop :=
  ∀ (pins : List (Addr × Obj)) (s : Shared) (σ : St) (H : Hp) (x y : V) (u v : Value) (Q : VK), Inv X pins σ H s → RelV x u → RelV y v → rd x y H Q → wpAny (model X.prog X.w) X.A (inplaceOp op u v) (EP X pins σ Q) X.xe s
/-- e.f op= value -/
def sFldAug (K : PySem.W.Frag) (ta tv : TE) (rd : V → V → Hp → VK → Prop) (f : Str) : TS := fun D σ H => ta σ H fun x H1 => ∃ a C dx fs v, x = .ref a ∧ H1 a = some (.ins C dx fs) ∧ Cls K C ∧ NoAttr K C f ∧ fs.lookup f = some v ∧
  tv σ H1 fun y H2 => rd v y H2 fun z H3 => ∃ dx' fs', H3 a = some (.ins C dx' fs') ∧ fs'.length < 1000 ∧ D.nx σ (upd H3 a (.ins C dx' (putF f z fs')))

section
variable {X : Cx} {o e value : Expr} {f : Str} {pos pos' tpos : Pos} {ta tv : TE}
theorem pe_fld (he : PE X e ta) (hb : attributeBase e f X.env (eval e X.env) = eval e X.env) : PE X (.Attribute e f pos) (tFld X.K ta f) := by
  intro pins s σ H Q I h
  refine attr_of hb (thn (he pins s σ H _ I h) fun u s1 ⟨x, H1, I1, rx, a, C, dx, fs, v, ex, ea, c, n, l, q⟩ => ?_)
  subst ex
  obtain rfl : u = Value.ref a := rx
  exact getattr_ok I1 ea c n l fun u' s2 I2 ru => ⟨v, H1, I2, ru, q⟩
theorem pe_con (he : PE X e ta) (hb : attributeBase e f X.env (eval e X.env) = eval e X.env) : PE X (.Attribute e f pos) (tCon X.K ta f) := by
  intro pins s σ H Q I h
  refine attr_of hb (thn (he pins s σ H _ I h) fun u s1 ⟨x, H1, I1, rx, a, C, dx, fs, v, u0, ex, ea, c, k, l, q⟩ => ?_)
  subst ex
  obtain rfl : u = Value.ref a := rx
  exact getcon_ok I1 ea c k l fun s2 I2 => ⟨v, H1, I2, k.rel, q⟩
theorem ps_fld (ha : PE X o ta) (hv : PE X value tv) (hs : swapsWith value (some (.Attribute o f pos')) pos.line X.env = pure false) : PS X (.Assign [.Attribute o f pos'] value pos) (sFld X.K ta tv f) := by
  intro pins s σ H D I h
  refine plainObj_wpAny_Assign_Attribute (thn (hv pins s σ H _ I h) fun u s1 ⟨y, H1, I1, ry, q⟩ => thn (ha pins s1 σ H1 _ I1 q) fun ov s2 ⟨x, H2, I2, rx, a, C, dx, fs, ex, ea, c, n, l, q2⟩ => ?_) hs
  subst ex
  obtain rfl : ov = Value.ref a := rx
  exact setattr_ok I2 ea c n l ry fun s3 I3 => ⟨σ, _, I3, q2⟩
theorem ps_fldaug {op : Operator} {rd : V → V → Hp → VK → Prop} (ha : PE X o ta) (hv : PE X value tv) (hop : InOp X op rd) : PS X (.AugAssign (.Attribute o f tpos) op value pos) (sFldAug X.K ta tv rd f) := by
  intro pins s σ H D I h
  refine wpAny_AugAssign_AttributeAny (thn (ha pins s σ H _ I h) fun ov s1 ⟨x, H1, I1, rx, a, C, dx, fs, v, ex, ea, c, n, l, q⟩ => ?_)
  subst ex
  obtain rfl : ov = Value.ref a := rx
  refine getattr_ok I1 ea c n l fun u s2 I2 ru => thn (hv pins s2 σ H1 _ I2 q) fun w3 s3 ⟨y, H2, I3, ry, q3⟩ => thn (hop pins s3 σ H2 v y u w3 _ I3 ru ry q3) fun w4 s4 ⟨z, H3, I4, rz, dx', fs', ea', l', q4⟩ => ?_
  exact setattr_ok I4 ea' c n l' rz fun s5 I5 => ⟨σ, _, I5, q4⟩
def rAdd : V → V → Hp → VK → Prop := fun x y H Q => ∃ i j, x = .int i ∧ y = .int j ∧ Q (.int (i + j)) H
def rSub : V → V → Hp → VK → Prop := fun x y H Q => ∃ i j, x = .int i ∧ y = .int j ∧ Q (.int (i - j)) H
theorem in_add : InOp X .Add rAdd := by
  rintro pins s σ H x y u v Q I rx ry ⟨i, j, rfl, rfl, q⟩
  obtain ⟨t, rfl⟩ := (show ∃ t, u = Value.int i t from rx)
  obtain ⟨t', rfl⟩ := (show ∃ t', v = Value.int j t' from ry)
  exact PyProof.Rows.iadd_int ⟨.int (i + j), H, I.tok _, ⟨_, rfl⟩, q⟩
theorem in_sub : InOp X .Sub rSub := by
  rintro pins s σ H x y u v Q I rx ry ⟨i, j, rfl, rfl, q⟩
  obtain ⟨t, rfl⟩ := (show ∃ t, u = Value.int i t from rx)
  obtain ⟨t', rfl⟩ := (show ∃ t', v = Value.int j t' from ry)
  exact PyProof.Rows.isub_int ⟨.int (i - j), H, I.tok _, ⟨_, rfl⟩, q⟩

/-- what is between an instance and its method: the tree of a method call -/
theorem methcall_of {pl : Sem Bool} {m : Str} {apos : Pos} {args : List Expr} {pins : List (Addr × Obj)} {s : Shared} {σ : St} {H : Hp} {Q : Value → Shared → Prop} {te : TE} (he : PE X e te) (I : Inv X pins σ H s)
    (h : te σ H fun x H1 => ∃ a C dx fs g, x = .ref a ∧ H1 a = some (.ins C dx fs) ∧ Cls X.K C ∧ Meth X.K C m g ∧ fs.lookup m = none ∧
      ∀ s1, Inv X pins σ H1 s1 → wpAny (model X.prog X.w) X.A (callWith pos (.ref g) [.ref a] (backTo pos (starEach args X.env)) (backToKw pos (keywordEach [] X.env))) Q X.xe s1)
    (ht : eval (.Call (.Attribute e m apos) args [] pos) X.env = (do
      let ov ← eval e X.env
      standAt apos.atName
      let (f, first) ← holding [ov] (getMethod ov m pl)
      callWith pos f first (backTo pos (starEach args X.env)) (backToKw pos (keywordEach [] X.env)))) :
    wpAny (model X.prog X.w) X.A (eval (.Call (.Attribute e m apos) args [] pos) X.env) Q X.xe s := by
  refine PySem.W.methodCall_KW (pl := pl) (thn (he pins s σ H _ I h) fun u s1 ⟨x, H1, I1, rx, a, C, dx, fs, g, ex, ea, c, k, l, q⟩ => ?_) ht
  subst ex
  obtain rfl : u = Value.ref a := rx
  exact getmeth_ok I1 ea c k l (q s1 I1)
end

/-! ### isinstance -/
section
variable {X : Cx} {pins : List (Addr × Obj)} {σ : St} {H : Hp} {s : Shared} {A : Around} {E : Value → Shared → Prop} {Q : Value → Shared → Prop} {c : Value} {b : Bool}
/-- the type of a value, as the fragment's deciders take it; for an instance its class -/
inductive TyOf (K : PySem.W.Frag) (H : Hp) : V → Value → Prop where
  | non : TyOf K H .non (.type "NoneType")
  | bl (x : Bool) : TyOf K H (.bl x) (.type "bool")
  | int (i : Int) : TyOf K H (.int i) (.type "int")
  | str (x : Str) : TyOf K H (.str x) (.type "str")
  | flt (x : UInt64) : TyOf K H (.flt x) (.type "float")
  | lst {a : Addr} {xs : List V} (e : H a = some (.lst xs)) : TyOf K H (.ref a) (.type "list")
  | frz {a : Addr} {o : Obj} {xs : List V} (e : H a = some (.frz o (.lst xs))) : TyOf K H (.ref a) (.type "list")
  | tup {a : Addr} {xs : List V} (e : H a = some (.tup xs)) : TyOf K H (.ref a) (.type "tuple")
  | dK {a : Addr} {kvs : List (Key × V)} (e : H a = some (.dK kvs)) : TyOf K H (.ref a) (.type "dict")
  | dT {a : Addr} {kvs : List (List Key × V)} (e : H a = some (.dT kvs)) : TyOf K H (.ref a) (.type "dict")
  | ins {a C dx : Addr} {fs : List (Str × V)} (e : H a = some (.ins C dx fs)) (cl : Cls K C) (ha : PySem.W.findIn K (.ref C) "__class__" = some (some (.builtin "object.__class__")))
      (hn : PySem.W.specialIn K (.builtin "object.__class__") "__get__" = some (some (.builtin "getset_descriptor.__get__"))) (htk : PySem.W.takesIn K (.builtin "object.__class__") = some true)
      (hm : PySem.W.mroIn K C (.type "object") = some true) : TyOf K H (.ref a) (.ref C)
/-- isinstance(x, c) for one class c, a built-in or an own one: kitOne's answer -/
theorem isinst_ok {x : V} {u t : Value} (I : Inv X pins σ H s) (rx : RelV x u) (ty : TyOf X.K H x t) (e : PySem.W.kitOne X.K t c = some b) (h : ∀ tk, Q (.bool b) { s with toks := tk }) :
    wpAny (model X.prog X.w) A (call (.builtin "isinstance") [u, c]) Q E s := by
  cases ty with
  | non => cases (show u = Value.none from rx); exact PySem.W.kia_one PySem.W.kitx_none I.kIn True.intro e (fun z => nomatch z) h
  | bl y => cases (show u = Value.bool y from rx); exact PySem.W.kia_one PySem.W.kitx_bool I.kIn True.intro e (fun z => nomatch z) h
  | int i => obtain ⟨t, q⟩ := (show ∃ t, u = Value.int i t from rx); cases q; exact PySem.W.kia_one PySem.W.kitx_int I.kIn True.intro e (fun z => nomatch z) h
  | str y => obtain ⟨t, q⟩ := (show ∃ t, u = Value.str y t from rx); cases q; exact PySem.W.kia_one PySem.W.kitx_str I.kIn True.intro e (fun z => nomatch z) h
  | flt y => obtain ⟨t, q⟩ := (show ∃ t, u = Value.float y t from rx); cases q; exact PySem.W.kia_one PySem.W.kitx_float I.kIn True.intro e (fun z => nomatch z) h
  | @lst a xs ea =>
    cases (show u = Value.ref a from rx)
    obtain ⟨_, _, n, _, h1⟩ := (show ObjOk X.prog X.w H s.heap a (.lst xs) from I.hok a _ ea)
    exact PySem.W.kia_one PySem.W.kitx_list I.kIn ⟨_, h1, rfl⟩ e (fun z => nomatch z) h
  | @frz a ob xs ea =>
    cases (show u = Value.ref a from rx)
    obtain ⟨_, _, _, n, _, h1⟩ := (show ObjOk X.prog X.w H s.heap a (.frz ob (.lst xs)) from I.hok a _ ea)
    exact PySem.W.kia_one PySem.W.kitx_list I.kIn ⟨_, h1, rfl⟩ e (fun z => nomatch z) h
  | @tup a xs ea =>
    cases (show u = Value.ref a from rx)
    obtain ⟨_, _, _, p⟩ := (show ObjOk X.prog X.w H s.heap a (.tup xs) from I.hok a _ ea)
    obtain ⟨o, h1, h2, _⟩ := p
    exact PySem.W.kia_one PySem.W.kitx_tuple I.kIn ⟨o, h1, h2⟩ e (fun z => nomatch z) h
  | @dK a kvs ea =>
    cases (show u = Value.ref a from rx)
    obtain ⟨_, _, vs, _, p⟩ := (show ObjOk X.prog X.w H s.heap a (.dK kvs) from I.hok a _ ea)
    obtain ⟨o, es, ep, h1, h2, _⟩ := p
    exact PySem.W.kia_one PySem.W.kitx_dict I.kIn ⟨o, h1, h2.1⟩ e (fun z => nomatch z) h
  | @dT a kvs ea =>
    cases (show u = Value.ref a from rx)
    obtain ⟨_, _, xs, _, o, es, ep, h1, h2, _⟩ := (show ObjOk X.prog X.w H s.heap a (.dT kvs) from I.hok a _ ea)
    exact PySem.W.kia_one PySem.W.kitx_dict I.kIn ⟨o, h1, h2.1⟩ e (fun z => nomatch z) h
  | @ins a C dx fs ea cl ha hn htk hm =>
    cases (show u = Value.ref a from rx)
    obtain ⟨mA, O, _⟩ := ins_get I.hok ea
    obtain ⟨od, J, _⟩ := O.look
    exact PySem.W.kia_one (PySem.W.kitx_own (cl.get _) cl.hd ha hn htk hm) I.kIn J e (fun z => nomatch z) h
end
end L2

namespace L2
open PySem PySem.Spec PyProof.Rows

/-! ### room -/
structure Room (k : Nat) (A : Around) : Prop where
  hd : A.handled = none
  dp : A.depth + 3 * k + 5 < recursionLimit
  un : A.units + 16 * k + 200 < cLine
theorem Room.mono {j k : Nat} {A : Around} (r : Room k A) (h : j ≤ k) : Room j A := ⟨r.hd, by have := r.dp; omega, by have := r.un; omega⟩
theorem Room.deeper {k : Nat} {A : Around} (r : Room (k + 1) A) (env : Env) : Room k (A.deeper env) :=
  ⟨r.hd, by have := r.dp; show A.depth + 1 + 3 * k + 5 < _; omega, by have := r.un; show A.units + 3 + 16 * k + 200 < _; omega⟩
theorem Room.in1 {k : Nat} {A : Around} (r : Room (k + 1) A) : Room k A.in1 :=
  ⟨r.hd, by have := r.dp; show A.depth + 3 * k + 5 < _; omega, by have := r.un; show A.units + 1 + 16 * k + 200 < _; omega⟩
theorem make_depth {A : Around} {C : Addr} {us : List Value} {kw : List (Str × Value)} : (A.under (.builtin "type.__call__" ⟨.ref C :: us, kw⟩)).depth = A.depth + 1 := by
  first | rfl | simp [Around.under, Code.weight, Code.isCreation, Code.isGuard, Code.isCaller, Code.frames, Code.isFrame, guardIds]
theorem make_units {A : Around} {C : Addr} {us : List Value} {kw : List (Str × Value)} : (A.under (.builtin "type.__call__" ⟨.ref C :: us, kw⟩)).units = A.units + 1 := by
  first | rfl | simp [Around.under, Code.cUnits, Code.frames, Code.isFrame]
theorem Room.make {k : Nat} {A : Around} (r : Room (k + 1) A) (C : Addr) (us : List Value) (kw : List (Str × Value)) : Room k (A.under (.builtin "type.__call__" ⟨.ref C :: us, kw⟩)) :=
  ⟨r.hd, by have := r.dp; rw [make_depth]; omega, by have := r.un; rw [make_units]; omega⟩
theorem Room.depth {k : Nat} {A : Around} (r : Room k A) : A.depth < recursionLimit := by have := r.dp; omega
theorem Room.units {k : Nat} {A : Around} (r : Room k A) : A.units + 64 < cLine := by have := r.un; omega
theorem Room.units0 {k : Nat} {A : Around} (r : Room k A) : A.units < cLine := by have := r.un; omega

/-! ### argument lists and displays -/
def tNil : TA := fun _ H Q => Q [] H
def tCons (ta : TE) (tr : TA) : TA := fun σ H Q => ta σ H fun x H1 => tr σ H1 fun xs H2 => Q (x :: xs) H2
section
variable {X : Cx} {e : Expr} {es : List Expr} {te : TE} {t : TA} {pos : Pos}
theorem pa_nil : PA X [] tNil := fun _ _ _ _ H Q I h => Calls.spliced_nil ⟨[], H, I, .nil, h⟩
theorem pa_cons (ha : PE X e te) (hr : PA X es t) (hs : starEach (e :: es) X.env = (false, eval e X.env) :: starEach es X.env := by rfl) : PA X (e :: es) (tCons te t) := by
  intro pos pins s σ H Q I h
  rw [hs]
  show wpAny _ _ (spliced ((false, eval e X.env) :: backTo pos (starEach es X.env))) _ _ s
  refine Calls.spliced_cons (thn (ha pins s σ H _ I h) fun u s1 ⟨x, H1, I1, r1, q1⟩ => ?_)
  exact thn (hr pos pins s1 σ H1 _ I1 q1) fun us s2 ⟨xs, H2, I2, r2, q2⟩ => ⟨x :: xs, H2, I2, .cons r1 r2, q2⟩

/-- a tuple, a list of written items -/
def tTup (t : TA) : TE := fun σ H Q => t σ H fun xs H1 => xs.length ≤ sizeLine ∧ ∀ p, H1 p = none → Q (.ref p) (upd H1 p (.tup xs))
def tLst (t : TA) : TE := fun σ H Q => t σ H fun xs H1 => xs.length ≤ sizeLine ∧ ∀ p, H1 p = none → Q (.ref p) (upd H1 p (.lst xs))
theorem pe_tup {x1} (h : PA X es t) : PE X (.Tuple es x1 pos) (tTup t) := by
  intro pins s σ H Q I hq
  refine wpAny_Tuple_spliced (thn (h pos pins s σ H _ I hq) fun us s1 ⟨xs, H1, I1, r, z, q⟩ => ⟨by rw [← r.length]; exact z, ?_⟩)
  have hf : H1 s1.heap.objs.size = none := I1.hok.fresh (Nat.le_refl _)
  refine ⟨.ref s1.heap.objs.size, upd H1 s1.heap.objs.size (.tup xs), I1.laid (t' := s1.toks) (fun b u e => Heap.get?_push_of_some _ e) (Nat.le_refl _) ?_, rfl, q _ hf⟩
  exact ⟨z, us, r, ⟨_, Heap.get?_push_size _ rfl, rfl, _, rfl⟩⟩
theorem pe_lst (h : PA X es t) : PE X (.List es pos) (tLst t) := by
  intro pins s σ H Q I hq
  refine wpAny_List_spliced (thn (h pos pins s σ H _ I hq) fun us s1 ⟨xs, H1, I1, r, z, q⟩ => ⟨by rw [← r.length]; exact z, ?_⟩)
  have hf : H1 s1.heap.objs.size = none := I1.hok.fresh (Nat.le_refl _)
  refine ⟨.ref s1.heap.objs.size, upd H1 s1.heap.objs.size (.lst xs), I1.laid (t' := s1.toks) (fun b u e => Heap.get?_push_of_some _ e) (Nat.le_refl _) ?_, rfl, q _ hf⟩
  exact ⟨z, us, 0, r, Heap.get?_push_size _ rfl⟩
end

/-! ### what a def promises -/
/-- a def's promise: the bound arguments in the parameters' order, the heap, the wanted end, the wanted exception -/
abbrev Sp := List V → Hp → VK → XK → Prop
/-- how an exception lies behind a call (file 08 gives it): the callers' frames, abstract heap and state ahead of the call, the wish, the exception, the state -/
abbrev CXT := List Env → Hp → Shared → XK → Value → Shared → Prop

/-- the state at a call -/
structure Env0 (P : Program) (w : World) (K : PySem.W.Frag) (mg : Str → Option Value) (base : Heap) (A : Around) (outer : List Env) (s : Shared) (H : Hp) : Prop where
  frames : A.frames = some outer
  mod : Mod K mg base
  bs : ∀ b o, base.get? b = some o → s.heap.get? b = some o ∧ H b = none
  bsz : base.objs.size ≤ s.heap.objs.size
  funs : s.heap.FunFrames base outer
  frf : ∀ b ∈ frs outer, H b = none
  hok : HOk P w H s.heap
  bare : AllBare s.gens
/-- a call's end -/
def CE (outer : List Env) (P : Program) (w : World) (H : Hp) (s : Shared) (Q : VK) (u : Value) (s' : Shared) : Prop :=
  ∃ v H', s'.os = s.os ∧ AllBare s'.gens ∧ Un (frs outer) [] H H' s.heap s'.heap ∧ HOk P w H' s'.heap ∧ RelV v u ∧ Q v H'
def CR (CX : CXT) (outer : List Env) (P : Program) (w : World) (H : Hp) (s : Shared) (Q : VK) (E : XK) (r : Result) (s' : Shared) : Prop :=
  match r with
  | .ok (.ret u) => CE outer P w H s Q u s'
  | .ok _ => False
  | .error e => CX outer H s E e s'
structure FnOk (P : Program) (w : World) (K : PySem.W.Frag) (mg : Str → Option Value) (base : Heap) (CX : CXT) (k : Nat) (f : Addr) (fd : FuncData) (ps : List Str) (sp : Sp) : Prop where
  len : ∀ vs H Q E, sp vs H Q E → vs.length = ps.length
  run : ∀ (A : Around) (outer : List Env) (s : Shared) (H : Hp) (args : Args) (us : List Value) (vs : List V) (Q : VK) (E : XK), Room k A → Env0 P w K mg base A outer s H → BindsTo s fd args (ps.zip us) → Vals vs us → sp vs H Q E →
    codeAny (model P w) A (.call (.ref f) args) (CR CX outer P w H s Q E) s
theorem FnOk.mono {P : Program} {w : World} {K : PySem.W.Frag} {mg : Str → Option Value} {base : Heap} {CX : CXT} {j k : Nat} {f : Addr} {fd : FuncData} {ps : List Str} {sp : Sp} (F : FnOk P w K mg base CX j f fd ps sp) (h : j ≤ k) :
    FnOk P w K mg base CX k f fd ps sp := ⟨F.len, fun A outer s H args us vs Q E hr => F.run A outer s H args us vs Q E (hr.mono h)⟩
/-- a weaker promise -/
theorem FnOk.imp {P : Program} {w : World} {K : PySem.W.Frag} {mg : Str → Option Value} {base : Heap} {CX : CXT} {k : Nat} {f : Addr} {fd : FuncData} {ps : List Str} {sp sp' : Sp} (F : FnOk P w K mg base CX k f fd ps sp)
    (h : ∀ vs H Q E, sp' vs H Q E → sp vs H Q E) : FnOk P w K mg base CX k f fd ps sp' :=
  ⟨fun vs H Q E q => F.len vs H Q E (h _ _ _ _ q), fun A outer s H args us vs Q E hr he hb hv hs => F.run A outer s H args us vs Q E hr he hb hv (h _ _ _ _ hs)⟩

theorem Env0.make {P : Program} {w : World} {K : PySem.W.Frag} {mg : Str → Option Value} {base : Heap} {A : Around} {outer : List Env} {s : Shared} {H : Hp} (e : Env0 P w K mg base A outer s H) (C : Addr) (us : List Value) (kw : List (Str × Value)) :
    Env0 P w K mg base (A.under (.builtin "type.__call__" ⟨.ref C :: us, kw⟩)) outer s H := ⟨by first | exact e.frames | (simpa [Around.under, Code.envs, Code.isFrame, pushEnvs] using e.frames), e.mod, e.bs, e.bsz, e.funs, e.frf, e.hok, e.bare⟩
theorem Env0.in1 {P : Program} {w : World} {K : PySem.W.Frag} {mg : Str → Option Value} {base : Heap} {A : Around} {outer : List Env} {s : Shared} {H : Hp} (e : Env0 P w K mg base A outer s H) :
    Env0 P w K mg base A.in1 outer s H := ⟨e.frames, e.mod, e.bs, e.bsz, e.funs, e.frf, e.hok, e.bare⟩

section
variable {X : Cx} {pins : List (Addr × Obj)} {σ : St} {H : Hp} {s s' : Shared}
/-- from a body: what a callee wants -/
theorem Inv.env0 (I : Inv X pins σ H s) : Env0 X.prog X.w X.K X.mg X.base X.A X.stack s H :=
  ⟨I.ok.frames, I.ok.mod, I.bs, Nat.le_trans I.ok.bsz I.sz, I.stack, I.stkFree, I.hok, I.bare⟩
/-- behind a call -/
theorem Inv.after {Q : VK} {u : Value} (I : Inv X pins σ H s) (h : CE X.stack X.prog X.w H s Q u s') : EP X pins σ Q u s' := by
  obtain ⟨v, H', os, bare, un, hok, r, q⟩ := h
  obtain ⟨hh, g, d, t, os'⟩ := s'
  obtain rfl : os' = s.os := os
  exact ⟨v, H', I.call (h' := hh) (g' := g) (d' := d) (t' := t) (ch := []) un hok bare (fun b z => absurd z (by simp)), r, q⟩
end

/-! ### calls -/
/-- f(..): the written arguments, then the defaults dvs; E: what is wanted of an exception -/
def tCall (sp : Sp) (dvs : List V) (E : XK) (t : TA) : TE := fun σ H Q => t σ H fun vs H1 => sp (vs ++ dvs) H1 Q E
/-- o.m(..) of an instance of the class at C -/
def tMeth (C : Addr) (m : Str) (sp : Sp) (dvs : List V) (E : XK) (ta : TE) (t : TA) : TE := fun σ H Q => ta σ H fun x H1 => ∃ a dx fs, x = .ref a ∧ H1 a = some (.ins C dx fs) ∧ fs.lookup m = none ∧
  t σ H1 fun vs H2 => sp (x :: (vs ++ dvs)) H2 Q E
/-- C(..): a new instance and its dict, then __init__ -/
def tMake (C : Addr) (sp : Sp) (dvs : List V) (E : XK) (t : TA) : TE := fun σ H Q => t σ H fun vs H1 => ∀ x dx, H1 x = none → H1 dx = none → dx ≠ x →
  sp (.ref x :: (vs ++ dvs)) (upd (upd H1 dx (.own x)) x (.ins C dx [])) (fun v H2 => v = .non ∧ Q (.ref x) H2) E

/-- how the parameters are bound: us the positional arguments, kw the keywords' values by name, ds the defaults that fill up -/
def Binds (K : PySem.W.Frag) (fd : FuncData) (ps : List Str) (ds : List Value) : Prop :=
  ∀ (s : Shared) (us : List Value), K.In s.heap → (us ++ ds).length = ps.length → BindsTo s fd ⟨us, []⟩ (ps.zip (us ++ ds))
/-- every parameter is given -/
theorem Binds.all {K : PySem.W.Frag} {fd : FuncData} {ps : List Str} (h : ∀ us : List Value, us.length = ps.length → bindArgs fd ⟨us, []⟩ = pure (ps.zip us)) : Binds K fd ps [] := fun s us _ hl => by
  rw [List.append_nil] at hl ⊢
  exact .of_eq (h us hl)

/-- an exception of a callee reaches what this body wants of exceptions -/
def Passes (CX : CXT) (X : Cx) (E : XK) : Prop := ∀ (pins : List (Addr × Obj)) (σ : St) (H : Hp) (s : Shared) (e : Value) (s' : Shared), Inv X pins σ H s → CX X.stack H s E e s' → X.xe e s'

section
variable {X : Cx} {CX : CXT} {k : Nat} {f C : Addr} {fd : FuncData} {ps : List Str} {sp : Sp} {dvs : List V} {ds : List Value} {E : XK} {x m : Str} {p pos apos : Pos} {e o : Expr} {es : List Expr} {ta : TE} {t : TA}

/-- the callee runs -/
theorem run_fn {pins : List (Addr × Obj)} {σ : St} {H : Hp} {s : Shared} {Q : VK} {us : List Value} {vs : List V} (F : FnOk X.prog X.w X.K X.mg X.base CX k f fd ps sp) (hr : Room k X.A) (hb : Binds X.K fd ps ds) (hd : Vals dvs ds) (hx : Passes CX X E)
    (I : Inv X pins σ H s) (r : Vals vs us) (h : sp (vs ++ dvs) H Q E) : wpAny (model X.prog X.w) X.A (call (.ref f) us) (EP X pins σ Q) X.xe s := by
  have r2 : Vals (vs ++ dvs) (us ++ ds) := r.append hd
  have hl : (us ++ ds).length = ps.length := by rw [← r2.length]; exact F.len _ _ _ _ h
  refine wpAny_call (codeAny_mono (F.run X.A X.stack s H ⟨us, []⟩ (us ++ ds) (vs ++ dvs) Q E hr I.env0 (hb s us I.kIn hl) r2 h) fun r s' hq => ?_)
  cases r with
  | error e => exact hx pins σ H s e s' I hq
  | ok fl =>
    cases fl with
    | ret u => exact I.after hq
    | next => exact False.elim hq
    | brk => exact False.elim hq
    | cont => exact False.elim hq

theorem pe_call (F : FnOk X.prog X.w X.K X.mg X.base CX k f fd ps sp) (hr : Room k X.A) (hg : Gl X x) (hm : X.mg x = some (.ref f)) (hk : PySem.W.keepIn X.K (.ref f) = true) (hb : Binds X.K fd ps ds) (hd : Vals dvs ds) (hx : Passes CX X E)
    (ha : PA X (e :: es) t) (hdb : (x == ("__debug__" : Str)) = false := by decide) (he : starEach (e :: es) X.env = (false, eval e X.env) :: starEach es X.env := by rfl) (hpl : (backTo pos (starEach es X.env)).any (·.1) = false := by rfl) :
    PE X (.Call (.Name x p) (e :: es) [] pos) (tCall sp dvs E t) := by
  intro pins s σ H Q I h
  refine wpAny_Call_Name_kw (ld_glob I hg hm ?_ hdb)
  refine PySem.W.callWith_K (h₀ := X.base) I.ok.mod.kin hk (thn (ha pos pins s σ H _ I h) fun us s1 ⟨vs, H1, I1, r, q⟩ => ⟨I1.kIn, ?_⟩) he hpl
  exact run_fn F hr hb hd hx I1 r q
theorem pe_call0 (F : FnOk X.prog X.w X.K X.mg X.base CX k f fd ps sp) (hr : Room k X.A) (hg : Gl X x) (hm : X.mg x = some (.ref f)) (hk : PySem.W.keepIn X.K (.ref f) = true) (hb : Binds X.K fd ps ds) (hd : Vals dvs ds) (hx : Passes CX X E)
    (hdb : (x == ("__debug__" : Str)) = false := by decide) : PE X (.Call (.Name x p) [] [] pos) (tCall sp dvs E tNil) := by
  intro pins s σ H Q I h
  refine wpAny_Call_Name_kw (ld_glob I hg hm ?_ hdb)
  exact PySem.W.callWith_K0 I.kIn hk (run_fn (us := []) F hr hb hd hx I .nil h)

/-- o.m(e, ..) -/
theorem pe_meth {pl : Sem Bool} (he : PE X o ta) (c : Cls X.K C) (hm : Meth X.K C m f) (F : FnOk X.prog X.w X.K X.mg X.base CX k f fd ps sp) (hr : Room k X.A) (hb : Binds X.K fd ps ds) (hd : Vals dvs ds) (hx : Passes CX X E) (ha : PA X (e :: es) t)
    (hst : starEach (e :: es) X.env = (false, eval e X.env) :: starEach es X.env := by rfl) (hpl : (backTo pos (starEach es X.env)).any (·.1) = false := by rfl)
    (ht : eval (.Call (.Attribute o m apos) (e :: es) [] pos) X.env = (do
      let ov ← eval o X.env
      standAt apos.atName
      let (f, first) ← holding [ov] (getMethod ov m pl)
      callWith pos f first (backTo pos (starEach (e :: es) X.env)) (backToKw pos (keywordEach [] X.env))) := by rfl) :
    PE X (.Call (.Attribute o m apos) (e :: es) [] pos) (tMeth C m sp dvs E ta t) := by
  intro pins s σ H Q I h
  refine PySem.W.methodCall_KW (pl := pl) (thn (he pins s σ H _ I h) fun u s1 ⟨x, H1, I1, rx, a, dx, fs, ex, ea, l, q⟩ => ?_) ht
  subst ex
  obtain rfl : u = Value.ref a := rx
  refine getmeth_ok I1 ea c hm l ?_
  refine PySem.W.callWith_K (first := [.ref a]) (h₀ := X.base) I.ok.mod.kin hm.kp (thn (ha pos pins s1 σ H1 _ I1 q) fun us s2 ⟨vs, H2, I2, r, q2⟩ => ⟨I2.kIn, ?_⟩) hst hpl
  exact run_fn (us := .ref a :: us) (vs := .ref a :: vs) F hr hb hd hx I2 (.cons rfl r) q2
/-- o.m() -/
theorem pe_meth0 {pl : Sem Bool} (he : PE X o ta) (c : Cls X.K C) (hm : Meth X.K C m f) (F : FnOk X.prog X.w X.K X.mg X.base CX k f fd ps sp) (hr : Room k X.A) (hb : Binds X.K fd ps ds) (hd : Vals dvs ds) (hx : Passes CX X E)
    (ht : eval (.Call (.Attribute o m apos) [] [] pos) X.env = (do
      let ov ← eval o X.env
      standAt apos.atName
      let (f, first) ← holding [ov] (getMethod ov m pl)
      callWith pos f first (backTo pos (starEach [] X.env)) (backToKw pos (keywordEach [] X.env))) := by rfl) :
    PE X (.Call (.Attribute o m apos) [] [] pos) (tMeth C m sp dvs E ta tNil) := by
  intro pins s σ H Q I h
  refine PySem.W.methodCall_KW (pl := pl) (thn (he pins s σ H _ I h) fun u s1 ⟨x, H1, I1, rx, a, dx, fs, ex, ea, l, q⟩ => ?_) ht
  subst ex
  obtain rfl : u = Value.ref a := rx
  refine getmeth_ok I1 ea c hm l ?_
  exact PySem.W.callWith_K0 (first := [.ref a]) I1.kIn hm.kp (run_fn (us := [.ref a]) (vs := [.ref a]) F hr hb hd hx I1 (.cons rfl .nil) q)

/-- what a class must have to be made -/
structure Mk (K : PySem.W.Frag) (C f : Addr) : Prop where
  makes : PySem.W.makesIn K C = true
  init : PySem.W.findIn K (.ref C) "__init__" = some (some (.ref f))
  fn : PySem.W.isFn K (.ref f) = true
  kp : PySem.W.keepIn K (.ref C) = true

theorem run_make {pins : List (Addr × Obj)} {σ : St} {H : Hp} {s : Shared} {Q : VK} {us : List Value} {vs : List V} (M : Mk X.K C f) (F : FnOk X.prog X.w X.K X.mg X.base CX k f fd ps sp) (hr : Room (k + 1) X.A) (hb : Binds X.K fd ps ds) (hd : Vals dvs ds)
    (hx : Passes CX X E) (I : Inv X pins σ H s) (r : Vals vs us)
    (h : ∀ x dx, H x = none → H dx = none → dx ≠ x → sp (.ref x :: (vs ++ dvs)) (upd (upd H dx (.own x)) x (.ins C dx [])) (fun v H2 => v = .non ∧ Q (.ref x) H2) E) :
    wpAny (model X.prog X.w) X.A (call (.ref C) us) (EP X pins σ Q) X.xe s := by
  have hq := h (s.heap.objs.size + 1) s.heap.objs.size (I.hok.fresh (Nat.le_succ _)) (I.hok.fresh (Nat.le_refl _)) (Nat.ne_of_lt (Nat.lt_succ_self _))
  have I2 := Inv.made (C := C) I
  have r2 : Vals (V.ref (s.heap.objs.size + 1) :: (vs ++ dvs)) (Value.ref (s.heap.objs.size + 1) :: (us ++ ds)) := .cons rfl (r.append hd)
  have hl : (Value.ref (s.heap.objs.size + 1) :: us ++ ds).length = ps.length := by
    have e := r2.length
    rw [F.len _ _ _ _ hq] at e
    exact e.symm
  refine wpAny_call (make_map (f := f) I.kIn M.makes M.init (beq_iff_eq.mp M.fn) (codeAny_mono (F.run _ X.stack _ _ ⟨Value.ref (s.heap.objs.size + 1) :: us, []⟩ (Value.ref (s.heap.objs.size + 1) :: (us ++ ds)) _ _ E (hr.make C us [])
    (I2.env0.make C us []) (hb _ (Value.ref (s.heap.objs.size + 1) :: us) I2.kIn hl) r2 hq) fun r s' hq' => ?_))
  cases r with
  | error e => exact hx pins σ _ _ e s' I2 hq'
  | ok fl =>
    cases fl with
    | ret u =>
      obtain ⟨v, H', I3, rv, ev, q3⟩ := I2.after hq'
      subst ev
      exact ⟨rv, ⟨V.ref (s.heap.objs.size + 1), H', I3, rfl, q3⟩⟩
    | next => exact False.elim hq'
    | brk => exact False.elim hq'
    | cont => exact False.elim hq'
theorem pe_make (M : Mk X.K C f) (F : FnOk X.prog X.w X.K X.mg X.base CX k f fd ps sp) (hr : Room (k + 1) X.A) (hg : Gl X x) (hm : X.mg x = some (.ref C)) (hb : Binds X.K fd ps ds) (hd : Vals dvs ds) (hx : Passes CX X E)
    (ha : PA X (e :: es) t) (hdb : (x == ("__debug__" : Str)) = false := by decide) (he : starEach (e :: es) X.env = (false, eval e X.env) :: starEach es X.env := by rfl) (hpl : (backTo pos (starEach es X.env)).any (·.1) = false := by rfl) :
    PE X (.Call (.Name x p) (e :: es) [] pos) (tMake C sp dvs E t) := by
  intro pins s σ H Q I h
  refine wpAny_Call_Name_kw (ld_glob I hg hm ?_ hdb)
  refine PySem.W.callWith_K (h₀ := X.base) I.ok.mod.kin M.kp (thn (ha pos pins s σ H _ I h) fun us s1 ⟨vs, H1, I1, r, q⟩ => ⟨I1.kIn, ?_⟩) he hpl
  exact run_make M F hr hb hd hx I1 r q
theorem pe_make0 (M : Mk X.K C f) (F : FnOk X.prog X.w X.K X.mg X.base CX k f fd ps sp) (hr : Room (k + 1) X.A) (hg : Gl X x) (hm : X.mg x = some (.ref C)) (hb : Binds X.K fd ps ds) (hd : Vals dvs ds) (hx : Passes CX X E)
    (hdb : (x == ("__debug__" : Str)) = false := by decide) : PE X (.Call (.Name x p) [] [] pos) (tMake C sp dvs E tNil) := by
  intro pins s σ H Q I h
  refine wpAny_Call_Name_kw (ld_glob I hg hm ?_ hdb)
  exact PySem.W.callWith_K0 I.kIn M.kp (run_make (us := []) M F hr hb hd hx I .nil h)
end

/-! ### keywords -/
/-- the values of the keywords, from the left -/
def PK (X : Cx) (kws : List Keyword) (t : TA) : Prop :=
  ∀ (pos : Pos) (pins : List (Addr × Obj)) (s : Shared) (σ : St) (H : Hp) (Q : List V → Hp → Prop), Inv X pins σ H s → t σ H Q → wpAny (model X.prog X.w) X.A (evalAll ((backToKw pos (keywordEach kws X.env)).map (·.2))) (AP X pins σ Q) X.xe s
section
variable {X : Cx} {CX : CXT} {k : Nat} {f C : Addr} {fd : FuncData} {ps ks : List Str} {sp : Sp} {E : XK} {x m : Str} {p pos apos kpos : Pos} {e o : Expr} {es : List Expr} {kws : List Keyword} {te ta : TE} {t tk : TA} {nm : Option Str}
theorem pk_nil : PK X [] tNil := fun _ _ _ _ H Q I h => wpAny_evalAll_nil ⟨[], H, I, .nil, h⟩
theorem pk_cons (ha : PE X e te) (hr : PK X kws t) : PK X (⟨nm, e, kpos⟩ :: kws) (tCons te t) := by
  intro pos pins s σ H Q I h
  show wpAny _ _ (evalAll ((do let v ← eval e X.env; standAt pos; pure v) :: (backToKw pos (keywordEach kws X.env)).map (·.2))) _ _ s
  refine wpAny_evalAll_cons (wpAny_bind (thn (ha pins s σ H _ I h) fun u s1 ⟨x, H1, I1, r1, q1⟩ => wpAny_bind (wpAny_standAt (wpAny_pure ?_))))
  exact thn (hr pos pins s1 σ H1 _ I1 q1) fun us s2 ⟨xs, H2, I2, r2, q2⟩ => ⟨x :: xs, H2, I2, .cons r1 r2, q2⟩

/-- how a call with keywords binds: g puts the positional values us and the keywords' values ws (names ks) in the parameters' order, defaults among them -/
structure KBinds (K : PySem.W.Frag) (fd : FuncData) (ps ks : List Str) (g : List Value → List Value → List Value) (gV : List V → List V → List V) : Prop where
  to : ∀ (s : Shared) (us ws : List Value), K.In s.heap → (g us ws).length = ps.length → BindsTo s fd ⟨us, ks.zip ws⟩ (ps.zip (g us ws))
  rel : ∀ {vs : List V} {us : List Value} {zs : List V} {ws : List Value}, Vals vs us → Vals zs ws → Vals (gV vs zs) (g us ws)
def tCallK (sp : Sp) (gV : List V → List V → List V) (E : XK) (t tk : TA) : TE := fun σ H Q => t σ H fun vs H1 => tk σ H1 fun zs H2 => sp (gV vs zs) H2 Q E
variable {g : List Value → List Value → List Value} {gV : List V → List V → List V}
theorem run_fnk {pins : List (Addr × Obj)} {σ : St} {H : Hp} {s : Shared} {Q : VK} {us ws : List Value} {vs zs : List V} (F : FnOk X.prog X.w X.K X.mg X.base CX k f fd ps sp) (hr : Room k X.A) (hb : KBinds X.K fd ps ks g gV) (hx : Passes CX X E)
    (I : Inv X pins σ H s) (r : Vals vs us) (rz : Vals zs ws) (h : sp (gV vs zs) H Q E) : wpAny (model X.prog X.w) X.A (call (.ref f) us (ks.zip ws)) (EP X pins σ Q) X.xe s := by
  have r2 := hb.rel r rz
  have hl : (g us ws).length = ps.length := by rw [← r2.length]; exact F.len _ _ _ _ h
  refine wpAny_call (codeAny_mono (F.run X.A X.stack s H ⟨us, ks.zip ws⟩ (g us ws) (gV vs zs) Q E hr I.env0 (hb.to s us ws I.kIn hl) r2 h) fun r s' hq => ?_)
  cases r with
  | error e => exact hx pins σ H s e s' I hq
  | ok fl =>
    cases fl with
    | ret u => exact I.after hq
    | next => exact False.elim hq
    | brk => exact False.elim hq
    | cont => exact False.elim hq
/-- f(e, .., k = v, ..) -/
theorem pe_callK (F : FnOk X.prog X.w X.K X.mg X.base CX k f fd ps sp) (hr : Room k X.A) (hg : Gl X x) (hm : X.mg x = some (.ref f)) (hk : PySem.W.keepIn X.K (.ref f) = true) (hb : KBinds X.K fd ps ks g gV) (hx : Passes CX X E)
    (ha : PA X (e :: es) t) (hkw : PK X kws tk) (hall : (backToKw pos (keywordEach kws X.env)).all (·.1.isSome) = true := by rfl) (hks : (backToKw pos (keywordEach kws X.env)).filterMap (·.1) = ks := by rfl)
    (hdb : (x == ("__debug__" : Str)) = false := by decide) (he : starEach (e :: es) X.env = (false, eval e X.env) :: starEach es X.env := by rfl)
    (hpl : ((backTo pos (starEach (e :: es) X.env)).any (·.1) || (backToKw pos (keywordEach kws X.env)).any (·.1.isNone)) = false := by rfl) :
    PE X (.Call (.Name x p) (e :: es) kws pos) (tCallK sp gV E t tk) := by
  intro pins s σ H Q I h
  refine wpAny_Call_Name_kw (ld_glob I hg hm ?_ hdb)
  refine PySem.W.callWith_KW (h₀ := X.base) I.ok.mod.kin hk hall (thn (ha pos pins s σ H _ I h) fun us s1 ⟨vs, H1, I1, r, q⟩ => ?_) hpl he
  refine thn (hkw pos pins s1 σ H1 _ I1 q) fun ws s2 ⟨zs, H2, I2, rz, q2⟩ => ⟨I2.kIn, ?_⟩
  rw [hks]
  exact run_fnk F hr hb hx I2 r rz q2
end

/-! ### a def's body keeps its promise -/
/-- names: the parameters first -/
structure FnScope (N P : List Str) (sc : Scope) : Prop where
  kind : sc.kind = .function
  co : sc.isCoroutine = false
  gen : sc.isGenerator = false
  nd : N.Nodup
  pre : N.take P.length = P
  par : ∀ x ∈ P, sc.names.lookup x = some .local ∨ sc.names.lookup x = some .cell
  nofree : ∀ y ∈ sc.names, y.2 ≠ .free

theorem bindL_out {kindOf : Str → Option NameKind} {x : Str} : ∀ {binds : List (Str × Value)} {m : Str → Option Value}, (∀ v, (x, v) ∉ binds) → bindL kindOf binds m x = m x
  | [], _, _ => rfl
  | (n, v) :: r, m, h => by
    unfold bindL
    rw [bindL_out fun w hw => h w (List.mem_cons_of_mem _ hw)]
    split
    · have : x ≠ n := by rintro rfl; exact h v List.mem_cons_self
      simp [this]
    · rfl
theorem bindC_out {kindOf : Str → Option NameKind} {x : Str} : ∀ {binds : List (Str × Value)} {m : Str → Option Value}, (∀ v, (x, v) ∉ binds) → bindC kindOf binds m x = m x
  | [], _, _ => rfl
  | (n, v) :: r, m, h => by
    unfold bindC
    rw [bindC_out fun w hw => h w (List.mem_cons_of_mem _ hw)]
    split
    · rfl
    · have : x ≠ n := by rintro rfl; exact h v List.mem_cons_self
      simp [this]
theorem bindL_get {kindOf : Str → Option NameKind} {x : Str} {v : Value} : ∀ {P : List Str} {vs : List Value} {i : Nat} {m : Str → Option Value}, P.Nodup → P[i]? = some x → vs[i]? = some v → kindOf x = some .local →
    bindL kindOf (P.zip vs) m x = some v
  | [], _, _, _, _, h, _, _ => by simp at h
  | _ :: _, [], _, _, _, _, h, _ => by simp at h
  | p :: P, w :: vs, 0, m, nd, h1, h2, hk => by
    simp at h1 h2; subst h1; subst h2
    show bindL kindOf ((p, w) :: P.zip vs) m p = _
    unfold bindL
    rw [bindL_out fun v hv => (List.nodup_cons.mp nd).1 (List.of_mem_zip hv).1, if_pos hk]
    simp
  | p :: P, w :: vs, i + 1, m, nd, h1, h2, hk => by
    show bindL kindOf ((p, w) :: P.zip vs) m x = _
    unfold bindL
    exact bindL_get (i := i) (List.nodup_cons.mp nd).2 (by simpa using h1) (by simpa using h2) hk
theorem bindC_get {kindOf : Str → Option NameKind} {x : Str} {v : Value} : ∀ {P : List Str} {vs : List Value} {i : Nat} {m : Str → Option Value}, P.Nodup → P[i]? = some x → vs[i]? = some v → kindOf x ≠ some .local →
    bindC kindOf (P.zip vs) m x = some v
  | [], _, _, _, _, h, _, _ => by simp at h
  | _ :: _, [], _, _, _, _, h, _ => by simp at h
  | p :: P, w :: vs, 0, m, nd, h1, h2, hk => by
    simp at h1 h2; subst h1; subst h2
    show bindC kindOf ((p, w) :: P.zip vs) m p = _
    unfold bindC
    rw [bindC_out fun v hv => (List.nodup_cons.mp nd).1 (List.of_mem_zip hv).1, if_neg hk]
    simp
  | p :: P, w :: vs, i + 1, m, nd, h1, h2, hk => by
    show bindC kindOf ((p, w) :: P.zip vs) m x = _
    unfold bindC
    exact bindC_get (i := i) (List.nodup_cons.mp nd).2 (by simpa using h1) (by simpa using h2) hk

/-- the names' values at the entry -/
def start (N : List Str) (vs : List V) : St := vs.map some ++ List.replicate (N.length - vs.length) none

/-- the context of a def's body, at its entry; an exception leaves the frame, then lies as CX says -/
def cxOf (CX : CXT) (P : Program) (w : World) (K : PySem.W.Frag) (mg : Str → Option Value) (base : Heap) (N : List Str) (qual : Str) (scope : Scope) (f : Addr) (cd : Value) (A : Around) (outer : List Env) (s : Shared) (H : Hp) (E : XK) : Cx where
  prog := P
  w := w
  K := K
  mg := mg
  base := base
  A := A.deeper (envOfC qual scope s.heap.objs.size f cd)
  N := N
  s₀ := s
  H₀ := H
  env := envOfC qual scope s.heap.objs.size f cd
  outer := outer
  stack := envOfC qual scope s.heap.objs.size f cd :: outer
  ex := []
  calm := true
  fn := fun _ => true
  pn := []
  xe := fun e s' => wpAny (model P w) (A.deeper (envOfC qual scope s.heap.objs.size f cd)) (leaving (envOfC qual scope s.heap.objs.size f cd) e) (fun _ s'' => CX outer H s E e s'') (fun e' s'' => CX outer H s E e' s'') s'

theorem cell_has {sc : Scope} {n : Nat} {x : Str} (h : sc.names.lookup x = some .cell) : ∃ c, (cellsFrom n sc.names []).lookup x = some c := by
  have q := PySem.W.cellsFrom_some sc.names n [] (.inl h)
  exact Option.isSome_iff_exists.mp q

theorem inv_start {CX : CXT} {P : Program} {w : World} {K : PySem.W.Frag} {mg : Str → Option Value} {base : Heap} {N ps : List Str} {qual : Str} {scope : Scope} {f : Addr} {cd : Value} {A : Around} {outer : List Env} {s s1 : Shared} {H : Hp} {E : XK} {us : List Value} {vs : List V}
    (S : FnScope N ps scope) (hd : A.handled = none) (e0 : Env0 P w K mg base A outer s H) (hl : vs.length = ps.length) (r : Vals vs us)
    (x : InCallC s s.heap.objs.size (bindL (envOfC qual scope s.heap.objs.size f cd).kindOf (ps.zip us) fun _ => none) (cellsFrom (s.heap.objs.size + 1) scope.names []) (bindC (envOfC qual scope s.heap.objs.size f cd).kindOf (ps.zip us) fun _ => none) s1) :
    Inv (cxOf CX P w K mg base N qual scope f cd A outer s H E) [] (start N vs) H s1 := by
  have hpl : ps.length ≤ N.length := by have := congrArg List.length S.pre; rw [List.length_take] at this; omega
  obtain ⟨h1, tk, rfl, hk⟩ := x.done
  have noA : ∀ b : Addr, b ∉ (cxOf CX P w K mg base N qual scope f cd A outer s H E).ex := fun b z => absurd (show b ∈ ([] : List Addr) from z) (by simp)
  refine ⟨⟨e0.mod, S.kind, rfl, rfl, Nat.le_refl _, fun y z c h1 h2 => ?_, fun y hy => ?_, fun y c _ h => ?_, fun _ => hd, Around.frames_deeper e0.frames, .inr ⟨rfl, rfl⟩, fun b z => absurd z (noA b), e0.bs, e0.bsz, fun b _ _ => noA b, fun b z => absurd z (noA b), e0.funs, e0.frf⟩,
    rfl, e0.bare, Un.kept hk, ⟨_, x.toInCall.ns, fun i y v h1 h2 h3 => ?_⟩, fun y c h => ⟨_, x.cell y c h⟩, e0.hok.fresh (Nat.le_refl _), fun y c h => ?_, fun p hp => absurd (show p ∈ ([] : List (Addr × Obj)) from hp) (by simp), e0.hok.kept hk, ?_⟩
  · exact name_of_addr x.apart (PySem.mem_of_lookup h1) (PySem.mem_of_lookup h2)
  · have hy : scope.names.lookup y = some .cell ∨ scope.names.lookup y = some .free := hy
    rcases hy with hy | hy
    · exact cell_has hy
    · exact absurd rfl (S.nofree _ (PySem.mem_of_lookup hy))
  · exact Nat.le_of_lt (x.above y c (PySem.mem_of_lookup h))
  · have hi : i < vs.length := by
      unfold start at h2
      by_cases hi : i < vs.length
      · exact hi
      · rw [List.getElem?_append_right (by simpa using hi)] at h2
        rw [List.getElem?_replicate] at h2
        split at h2 <;> cases h2
    have ha : vs[i]? = some v := by
      unfold start at h2
      rw [List.getElem?_append_left (by simpa using hi), List.getElem?_map] at h2
      cases e : vs[i]? with
      | none => rw [e] at h2; cases h2
      | some a => rw [e] at h2; cases h2; rfl
    obtain ⟨u, hu, rv⟩ := r.get ha
    have hp : ps[i]? = some y := by
      rw [← S.pre, List.getElem?_take_of_lt (by omega)]; exact h1
    have ndP : ps.Nodup := by rw [← S.pre]; exact S.nd.sublist (List.take_sublist _ _)
    refine ⟨u, rv, ?_⟩
    rcases S.par y (List.mem_of_getElem? hp) with k | k
    · exact .inl ⟨k, bindL_get ndP hp hu k⟩
    · obtain ⟨c, e⟩ := cell_has (n := s.heap.objs.size + 1) k
      refine .inr ⟨.inl k, c, e, ?_⟩
      have q := x.cell y c e
      rw [bindC_get ndP hp hu (by show scope.names.lookup y ≠ _; rw [k]; decide)] at q
      exact q
  · exact e0.hok.fresh (Nat.le_of_lt (x.above y c (PySem.mem_of_lookup h)))
  · unfold start
    show _ = N.length
    rw [List.length_append, List.length_map, List.length_replicate]
    omega

/-- THE RULE: a def (or a method) of the text, by its body. The body's reading t is chosen for each entry; it is run at the parameters' values -/
theorem fn_of {CX : CXT} {P : Program} {w : World} {K : PySem.W.Frag} {mg : Str → Option Value} {base : Heap} {k : Nat} {f : Addr} {name qual : Str} {params : Arguments} {body : List Stmt} {scope : Scope} {dV kV doc pm cdv ct oc : Value} {an od : Option Addr}
    {osl : Array (Option Value)} {N ps : List Str} {sp : Sp} (lk : K.lookup f = some ⟨oc, od, .func (PySem.W.fnOf name qual params body scope dV kV doc pm an cdv ct), osl⟩) (hcd : PySem.W.codeIn K cdv qual = true) (S : FnScope N ps scope)
    (len : ∀ vs H Q E, sp vs H Q E → vs.length = ps.length)
    (hbody : ∀ (A : Around) (outer : List Env) (s : Shared) (H : Hp) (vs : List V) (Q : VK) (E : XK), Room k (A.deeper (envOfC qual scope s.heap.objs.size f cdv)) → sp vs H Q E →
      ∃ t, PSs (cxOf CX P w K mg base N qual scope f cdv A outer s H E) body t ∧ t { nx := fun _ H' => Q .non H', rt := Q } (start N vs) H) :
    FnOk P w K mg base CX (k + 1) f (PySem.W.fnOf name qual params body scope dV kV doc pm an cdv ct) ps sp := by
  refine ⟨len, fun A outer s H args us vs Q E hr e0 hb r hsp => ?_⟩
  have hl := len _ _ _ _ hsp
  have KX : K.In s.heap := e0.mod.kin.keeps fun b o e => (e0.bs b o e).1
  have lim : s.heap.NoLimit := e0.mod.nolimit.keeps fun b o e => (e0.bs b o e).1
  have hkind : ∀ y ∈ ps.zip us, scope.names.lookup y.1 = some .local ∨ (scope.names.lookup y.1 = some .cell ∧ ((cellsFrom (s.heap.objs.size + 1) scope.names []).lookup y.1).isSome = true) := fun ⟨n, v⟩ hy => by
    rcases S.par n (List.of_mem_zip hy).1 with q | q
    · exact .inl q
    · exact .inr ⟨q, PySem.W.cellsFrom_some _ _ _ (.inl q)⟩
  refine codeAny_call_function hr.depth (KX _ _ lk) rfl S.co S.gen rfl (PySem.W.codeRec_of KX hcd) (hb _ _ _ _ ?_)
  refine wpAny_newFunctionEnv_cells S.kind hkind fun env he s1 x => ?_
  subst he
  refine ⟨lim.keeps x.toInCall.keep, codeAny_func ?_⟩
  obtain ⟨t, ht, hq⟩ := hbody A outer s H vs Q E (hr.deeper _) hsp
  have I : Inv (cxOf CX P w K mg base N qual scope f cdv A outer s H E) [] (start N vs) H s1 := inv_start S hr.hd e0 hl r x
  refine wpAny_mono (ht [] s1 (start N vs) H _ I hq) (fun fl s' hs => ?_) fun e s' hs => hs
  have fin : ∀ {σ' : St} {H' : Hp} {v : V} {u : Value}, Inv (cxOf CX P w K mg base N qual scope f cdv A outer s H E) [] σ' H' s' → RelV v u → Q v H' → CE outer P w H s Q u s' :=
    fun {σ' H' v u} J rv q => ⟨v, H', J.os, J.bare, J.base, J.hok, rv, q⟩
  cases fl with
  | ret u =>
    obtain ⟨v, σ', H', J, rv, q⟩ := hs
    exact fin J rv q
  | next =>
    obtain ⟨σ', H', J, q⟩ := hs
    exact fin (v := V.non) (u := Value.none) J rfl q
  | brk =>
    obtain ⟨_, _, _, q⟩ := hs
    exact False.elim q
  | cont =>
    obtain ⟨_, _, _, q⟩ := hs
    exact False.elim q
end L2

namespace L2
open PySem PySem.Spec PyProof.Rows
section
variable {X : Cx} {x : Str} {p pos : Pos} {e : Expr} {es : List Expr} {t : TA} {id T : String} {r : List V → Hp → VK → Prop}

def tCB (r : List V → Hp → VK → Prop) (t : TA) : TE := fun σ H Q => t σ H fun vs H1 => r vs H1 Q
/-- f(e, ..), f a built-in function -/
theorem pe_callB (hc : CallR X (.builtin id) r) (hg : Gl X x) (hm : X.mg x = none) (hv : bootBuiltins x = some (.builtin id)) (ha : PA X (e :: es) t) (hn : x ≠ "__name__" := by decide) (hdb : (x == ("__debug__" : Str)) = false := by decide)
    (he : starEach (e :: es) X.env = (false, eval e X.env) :: starEach es X.env := by rfl) (hpl : (backTo pos (starEach es X.env)).any (·.1) = false := by rfl) : PE X (.Call (.Name x p) (e :: es) [] pos) (tCB r t) := by
  intro pins s σ H Q I h
  refine wpAny_Call_Name_kw (ld_blt I hg hm hv ?_ hn hdb)
  exact PyProof.Rows.callWith_builtin1 (thn (ha pos pins s σ H _ I h) fun us s1 ⟨vs, H1, I1, r1, q1⟩ => hc pins s1 σ H1 vs us Q I1 r1 q1) he hpl
/-- T(e, ..), T a built-in type -/
theorem pe_callTy (hc : CallR X (.type T) r) (hg : Gl X x) (hm : X.mg x = none) (hv : bootBuiltins x = some (.type T)) (ha : PA X (e :: es) t) (hn : x ≠ "__name__" := by decide) (hdb : (x == ("__debug__" : Str)) = false := by decide)
    (he : starEach (e :: es) X.env = (false, eval e X.env) :: starEach es X.env := by rfl) (hpl : (backTo pos (starEach es X.env)).any (·.1) = false := by rfl) : PE X (.Call (.Name x p) (e :: es) [] pos) (tCB r t) := by
  intro pins s σ H Q I h
  refine wpAny_Call_Name_kw (ld_blt I hg hm hv ?_ hn hdb)
  exact PyProof.Rows.callWith_type1 (thn (ha pos pins s σ H _ I h) fun us s1 ⟨vs, H1, I1, r1, q1⟩ => hc pins s1 σ H1 vs us Q I1 r1 q1) he hpl
/-- T() -/
theorem pe_callTy0 (hc : CallR X (.type T) r) (hg : Gl X x) (hm : X.mg x = none) (hv : bootBuiltins x = some (.type T)) (hn : x ≠ "__name__" := by decide) (hdb : (x == ("__debug__" : Str)) = false := by decide) :
    PE X (.Call (.Name x p) [] [] pos) (tCB r tNil) := by
  intro pins s σ H Q I h
  refine wpAny_Call_Name_kw (ld_blt I hg hm hv ?_ hn hdb)
  exact PyProof.Rows.callWith_type0 (hc pins s σ H [] [] Q I .nil h)
end
end L2

namespace HT
open PySem PyProof.Rows

/-- t < u of tuples of ints -/
def lexLt : List Int → List Int → Bool
  | [], [] => false
  | [], _ :: _ => true
  | _ :: _, [] => false
  | x :: xs, y :: ys => if x = y then lexLt xs ys else decide (x < y)
theorem lexLt_cons (x y : Int) (xs ys : List Int) : lexLt (x :: xs) (y :: ys) = if x = y then lexLt xs ys else decide (x < y) := rfl
theorem lexLt_nil_nil : lexLt [] [] = false := rfl
theorem lexLt_nil_cons (y : Int) (ys : List Int) : lexLt [] (y :: ys) = true := rfl
theorem lexLt_cons_nil (x : Int) (xs : List Int) : lexLt (x :: xs) [] = false := rfl

theorem eqAt_int (A : Around) (s : Shared) (a : Int) (t : Tok) (c : Int) (u : Tok) : ∃ e, SeqAt.EqAt A s (.int a t) (.int c u) e ∧ (e = true ↔ a = c) :=
  ⟨(a == c), SeqAt.EqAt.int_int a t c u, by simp⟩
theorem rcLt_int (A : Around) (s : Shared) (a : Int) (t : Tok) (c : Int) (u : Tok) (prog : Program) (w : World) (E : Value → Shared → Prop) (Q : Value → Shared → Prop) (h : Q (.bool (decide (a < c))) s) :
    wpAny (model prog w) A (richCompare .Lt (.int a t) (.int c u)) Q E s :=
  (PyProof.Rows.lt_int h : wpAny (model prog w) A (compareOp .Lt (.int a t) (.int c u)) Q E s)

section
open PySem.SeqAt
open PySem.AutoSeq1 (wpAny_loadPart')
open PySem.MeetsSeq PySem.MeetsSeq2 PySem.MeetsSeq3

theorem tuple_lt_ints (l b : Addr) (items items2 : Array Value) (n n2 : Nat) (dd dd2 : Option Addr) (sl sl2 : Array (Option Value)) (ns ms : List Int) (hi : IntsAre items.toList ns) (hj : IntsAre items2.toList ms) :
    Meets (Builtin.«tuple.__lt__» ⟨[.ref l, .ref b], []⟩)
      (fun _ R s => s.heap.get? l = some { cls := .type "tuple", dict := dd, data := .seq items n, slots := sl } ∧ s.heap.get? b = some { cls := .type "tuple", dict := dd2, data := .seq items2 n2, slots := sl2 } ∧
        R (.ok (.ret (.bool (lexLt ns ms)))) s) :=
  .of_wp fun prog w A R s h => by
    obtain ⟨hp, g, d, tk, os⟩ := s; obtain ⟨hl, hb, h⟩ := h
    have f2 := AutoSeq1.sub_tuple_tuple
    have z1 : items.size = ns.length := by rw [← hi.length]; simp
    have z2 : items2.size = ms.length := by rw [← hj.length]; simp
    wp_walk using wpAny_loadPart' hl, wpAny_loadPart' hb, wpAny_forIn_list _ (fun rest b s' => b.1 = none ∧ s' = ⟨hp, g, d, tk, os⟩ ∧ ∃ (vs ws : List Value) (ns' ms' : List Int), rest = vs.zip ws ∧
      IntsAre vs ns' ∧ IntsAre ws ms' ∧ ns'.length + items2.size = ms'.length + items.size ∧ R (.ok (.ret (.bool (lexLt ns' ms')))) ⟨hp, g, d, tk, os⟩) _
    case turn =>
      rintro ⟨y, x⟩ rest b s' ⟨hb', rfl, vs, ws, ns', ms', hz, hvi, hwi, hlen, hR⟩
      cases hvi with
      | nil => rw [List.zip_nil_left] at hz; cases hz
      | cons a t hvi' =>
        cases hwi with
        | nil => rw [List.zip_nil_right] at hz; cases hz
        | cons c u hwi' =>
          rw [List.zip_cons_cons] at hz
          injection hz with hyx hrest
          injection hyx with hy hx
          subst hy hx
          rw [lexLt_cons] at hR
          simp only [List.length_cons] at hlen
          obtain ⟨e, he, hiff⟩ := eqAt_int A.in1 ⟨hp, g, d, tk, os⟩ a t c u
          refine wpAny_bind (he prog w _ _ ?_)
          cases e with
          | true =>
            rw [if_pos (hiff.mp rfl)] at hR
            wp_walk
            exact ⟨rfl, rfl, _, _, _, _, hrest, hvi', hwi', by omega, hR⟩
          | false =>
            rw [if_neg (fun q => absurd (hiff.mpr q) Bool.false_ne_true)] at hR
            have hri := rcLt_int A.in1 ⟨hp, g, d, tk, os⟩ a t c u prog w
            wp_walk using hri
            exact ⟨_, rfl, by simpa using hR⟩
    case fin =>
      rintro ⟨b1, b2⟩ s' ⟨hb', rfl, vs, ws, ns', ms', hz, hvi, hwi, hlen, hR⟩
      simp only at hb'
      subst hb'
      have hv : lexLt ns' ms' = decide (items.size < items2.size) := by
        cases hvi with
        | nil =>
          cases hwi with
          | nil =>
            simp only [List.length_nil] at hlen
            rw [lexLt_nil_nil]
            exact (decide_eq_false (by omega)).symm
          | cons c u hw =>
            simp only [List.length_nil, List.length_cons] at hlen
            rw [lexLt_nil_cons]
            exact (decide_eq_true (by omega)).symm
        | cons a t hv =>
          cases hwi with
          | nil =>
            simp only [List.length_nil, List.length_cons] at hlen
            rw [lexLt_cons_nil]
            exact (decide_eq_false (by omega)).symm
          | cons c u hw =>
            rw [List.zip_cons_cons] at hz
            cases hz
      rw [hv] at hR
      wp_walk
      exact ⟨_, rfl, by simpa [Builtin.Tuple.tupleCompareSizes] using hR⟩
    case h =>
      exact ⟨rfl, rfl, items.toList, items2.toList, ns, ms, rfl, hi, hj, by omega, h⟩
end

section
variable {prog : Program} {w : World} {A : Around} {E : Value → Shared → Prop} {s : Shared}

theorem lt_tupInts {l b : Addr} {items items2 : Array Value} {ns ms : List Int} {Q : Value → Shared → Prop} (hl : IsTup s.heap l items) (hb : IsTup s.heap b items2) (hi : IntsAre items.toList ns) (hj : IntsAre items2.toList ms)
    (hu : A.units < cLine) (h : Q (.bool (lexLt ns ms)) s) : wpAny (model prog w) A (compareOp .Lt (.ref l) (.ref b)) Q E s := by
  obtain ⟨⟨cls, dd, data, sl⟩, ho, hc, n, hd⟩ := id hl
  obtain ⟨⟨cls2, dd2, data2, sl2⟩, ho2, hc2, n2, hd2⟩ := id hb
  simp only at hc hd hc2 hd2
  subst hc hd hc2 hd2
  exact richCompare_meets_room (op := .Lt) ⟨_, ho, rfl⟩ ⟨_, ho2, rfl⟩ PySem.F.slot_tuple_lt PySem.F.entry_tuple_lt (PySem.F.args_tuple_lt_2 _ _) (tuple_lt_ints l b items items2 n n2 dd dd2 sl sl2 ns ms hi hj)
    ⟨ho, ho2, show Value.bool (lexLt ns ms) ≠ Value.notImplemented ∧ Q (.bool (lexLt ns ms)) s from ⟨(fun x => nomatch x), h⟩⟩ hu

/-- t + u, t not empty -/
theorem cat_tup {t b : Addr} {vs ws : List Value} {Q : Value → Shared → Prop} (ht : IsTup s.heap t vs.toArray) (hb : IsTup s.heap b ws.toArray) (hv : vs ≠ [])
    (h1 : ws = [] → Q (.ref t) s) (h2 : ws ≠ [] → Q (.ref s.heap.objs.size) { s with heap := s.heap.push { cls := .type "tuple", data := .seq (vs ++ ws).toArray } })
    (hsz : vs.length + ws.length ≤ sizeLine) : wpAny (model prog w) A (binaryOp .Add (.ref t) (.ref b)) Q E s := by
  obtain ⟨⟨cls, dd, data, sl⟩, ho, hc, n, hd⟩ := id ht
  obtain ⟨⟨cls2, dd2, data2, sl2⟩, ho2, hc2, n2, hd2⟩ := id hb
  simp only at hc hd hc2 hd2
  subst hc hd hc2 hd2
  have e : vs.toArray ++ ws.toArray = (vs ++ ws).toArray := by simp
  by_cases hw : ws = []
  · exact concat_meets ⟨_, ho, rfl⟩ ⟨_, ho2, rfl⟩ noFill_tuple_add seq_tuple_add PySem.F.slot_tuple_add PySem.F.entry_tuple_add (PySem.F.args_tuple_add_2 _ _)
      (tuple_addW1 t b vs.toArray ws.toArray n n2 dd dd2 sl sl2 (by simpa using hv) (by simp [hw])) ⟨ho, ho2, h1 hw⟩
  · refine concat_meets ⟨_, ho, rfl⟩ ⟨_, ho2, rfl⟩ noFill_tuple_add seq_tuple_add PySem.F.slot_tuple_add PySem.F.entry_tuple_add (PySem.F.args_tuple_add_2 _ _)
      (tuple_addW2 t b vs.toArray ws.toArray n n2 dd dd2 sl sl2 (by simpa using hv) (by simpa using hw) (by rw [List.size_toArray, List.size_toArray]; exact hsz)) ⟨ho, ho2, ?_⟩
    rw [e]
    exact h2 hw

/-! ### t[a:b], not the whole -/
/-- a slice's bound as a place among n (d where it is left out) -/
def sIx (n d : Nat) : Option Int → Nat
  | none => d
  | some v => if v < 0 then (v + (n : Int)).toNat else min v.toNat n
theorem sIx_none (n d : Nat) : sIx n d none = d := rfl
theorem sIx_nat (n d k : Nat) : sIx n d (some (k : Int)) = min k n := by
  show (if (k : Int) < 0 then ((k : Int) + (n : Int)).toNat else min (k : Int).toNat n) = min k n
  rw [if_neg (by omega), Int.toNat_natCast]
theorem sIx_le (n d : Nat) (hd : d ≤ n) (o : Option Int) : sIx n d o ≤ n := by
  cases o with
  | none => exact hd
  | some v =>
    show (if v < 0 then (v + (n : Int)).toNat else min v.toNat n) ≤ n
    by_cases hv : v < 0
    · rw [if_pos hv]; omega
    · rw [if_neg hv]; exact Nat.min_le_right _ _
theorem clip_eq (v : Int) (n d : Nat) : (if v < 0 then max (v + (n : Int)) 0 else min v (n : Int)) = ((sIx n d (some v) : Nat) : Int) := by
  show (if v < 0 then max (v + (n : Int)) 0 else min v (n : Int)) = (((if v < 0 then (v + (n : Int)).toNat else min v.toNat n) : Nat) : Int)
  by_cases hv : v < 0
  · simp only [if_pos hv]; omega
  · simp only [if_neg hv]; omega
theorem adjust_gen (lo hi : Option Int) (n : Nat) : Builtin.Slice.sliceAdjust lo hi 1 (n : Int) = (((sIx n 0 lo : Nat) : Int), ((sIx n n hi : Nat) : Int)) := by
  have h1 : ¬ ((1 : Int) < 0) := by omega
  unfold Builtin.Slice.sliceAdjust
  simp only [h1, if_false]
  refine Prod.ext ?_ ?_
  · cases lo with
    | none => rfl
    | some v => exact clip_eq v n 0
  · cases hi with
    | none => rfl
    | some v => exact clip_eq v n n
theorem places_gen (i j : Nat) : Builtin.Slice.slicePlaces (i : Int) (j : Int) 1 = j - i := by
  unfold Builtin.Slice.slicePlaces
  have h1 : (1 : Int) > 0 := by omega
  simp only [h1, if_true, Int.ediv_one]
  split <;> omega
theorem slicePart_ {v : Value} {o : Option Int} {Q : Option Int → Shared → Prop} (p : IsPart v o) (h : Q o s) : wpAny (model prog w) A (Builtin.Slice.slicePartIndex v) Q E s := by
  cases p with
  | none => exact slicePart_none h
  | int i t => exact slicePart_int h
theorem sliceApplied_gen {sl : Addr} {vl vu : Value} {lo hi : Option Int} {n : Nat} {Q : Int × Int × Nat → Shared → Prop} (hs : s.heap.IsSliceOf sl vl vu .none) (pl : IsPart vl lo) (pu : IsPart vu hi)
    (h : Q (((sIx n 0 lo : Nat) : Int), 1, sIx n n hi - sIx n 0 lo) s) : wpAny (model prog w) A (Builtin.Slice.sliceApplied (.ref sl) (pure (n : Int))) Q E s := by
  obtain ⟨os, hos, hcs, hds⟩ := id hs
  unfold Builtin.Slice.sliceApplied Builtin.Slice.sliceFields
  refine wpAny_bind (wpAny_bind (wpAny_field hos hds (x := vl) rfl (wpAny_bind (wpAny_field hos hds (x := vu) rfl (wpAny_bind (wpAny_field hos hds (x := .none) rfl (wpAny_pure ?_)))))))
  refine wpAny_bind (slicePart_none ?_)
  show wpAny _ _ (if ((1 : Int) == 0) = true then _ else _) _ _ s
  rw [if_neg (by decide)]
  refine wpAny_bind (slicePart_ pl (wpAny_bind (slicePart_ pu (wpAny_bind (wpAny_pure ?_)))))
  show wpAny _ _ (match Builtin.Slice.sliceAdjust lo hi 1 (n : Int) with | (lo, hi) => pure (lo, (1 : Int), Builtin.Slice.slicePlaces lo hi 1)) _ _ s
  rw [adjust_gen lo hi n]
  show wpAny _ _ (pure (((sIx n 0 lo : Nat) : Int), (1 : Int), Builtin.Slice.slicePlaces ((sIx n 0 lo : Nat) : Int) ((sIx n n hi : Nat) : Int) 1)) _ _ s
  rw [places_gen]
  exact wpAny_pure h
theorem pick_gen (xs : Array Value) (i k : Nat) : ((List.range k).filterMap fun (m : Nat) => xs[((i : Int) + (m : Int) * 1).toNat]?).toArray = ((xs.toList.drop i).take k).toArray := by
  have e : (fun (m : Nat) => xs[((i : Int) + (m : Int) * 1).toNat]?) = fun m => xs[i + m]? := by
    funext m
    have : ((i : Int) + (m : Int) * 1).toNat = i + m := by omega
    rw [this]
  rw [e]
  have := pick_run xs i k
  rw [List.filterMap_map] at this
  have e2 : ((fun x => xs[x]?) ∘ fun x => i + x) = fun m => xs[i + m]? := rfl
  rw [e2] at this
  rw [this]

theorem getItem_tuple_cut {t sl : Addr} {items : Array Value} {vl vu : Value} {lo hi : Option Int} {Q : Value → Shared → Prop} (ht : IsTup s.heap t items) (hs : s.heap.IsSliceOf sl vl vu .none) (pl : IsPart vl lo) (pu : IsPart vu hi)
    (hw : ¬ (sIx items.size 0 lo = 0 ∧ sIx items.size items.size hi = items.size))
    (h : Q (.ref s.heap.objs.size) { s with heap := s.heap.push { cls := .type "tuple", data := .seq ((items.toList.drop (sIx items.size 0 lo)).take (sIx items.size items.size hi - sIx items.size 0 lo)).toArray } })
    (hsz : items.size ≤ sizeLine) : wpAny (model prog w) A (getItem (.ref t) (.ref sl)) Q E s := by
  have htake : sizeOk (.seq ((items.toList.drop (sIx items.size 0 lo)).take (sIx items.size items.size hi - sIx items.size 0 lo)).toArray) := by
    show ((items.toList.drop (sIx items.size 0 lo)).take (sIx items.size items.size hi - sIx items.size 0 lo)).toArray.size ≤ sizeLine
    rw [List.size_toArray, List.length_take, List.length_drop, Array.length_toList]
    omega
  have hj : sIx items.size items.size hi ≤ items.size := sIx_le _ _ (Nat.le_refl _) hi
  obtain ⟨os, hos, hcs, hds⟩ := id hs
  have hTs : s.TypeIs (.ref sl) "slice" := ⟨os, hos, hcs⟩
  unfold getItem
  try with_reducible refine wpAny_holding ?_
  first | refine wpAny_bind (wpAny_pure ?_) | skip
  refine wpAny_bind (wpAny_sequenceKey ht.typeIs (by decide) ?_)
  refine wpAny_bind (wpAny_callSpecial?_slot (name := Str.ofString "__getitem__") ht.typeIs PyProof.Rows.slot_tuple_getitem
    (wpAny_call_entry PyProof.Rows.slot_tuple_getitem ht.typeIs entry_tuple_getitem ?_ (args_tuple_getitem _ _)))
  show wpAny _ _ (Builtin.Tuple.tupleItemsOf (.ref t) >>= _) _ _ s
  refine wpAny_bind (tupleItemsOf_ ht ?_)
  refine wpAny_bind (wpAny_typeOf hTs ?_)
  rw [if_pos (by decide)]
  refine wpAny_bind (sliceApplied_gen hs pl pu ?_)
  have hno : ¬ ((((sIx items.size 0 lo : Nat) : Int) == 0 && (1 : Int) == 1 && (sIx items.size items.size hi - sIx items.size 0 lo) == items.size) = true) := by
    intro q
    rw [Bool.and_eq_true, Bool.and_eq_true] at q
    have q1 : ((sIx items.size 0 lo : Nat) : Int) = 0 := eq_of_beq q.1.1
    have q2 : sIx items.size items.size hi - sIx items.size 0 lo = items.size := eq_of_beq q.2
    exact hw ⟨by omega, by omega⟩
  show wpAny _ _ (if (((sIx items.size 0 lo : Nat) : Int) == 0 && (1 : Int) == 1 && (sIx items.size items.size hi - sIx items.size 0 lo) == items.size) = true then _ else _) _ _ s
  rw [if_neg hno, pick_gen]
  first
    | exact wpAny_bind (m := Builtin.Tuple.tupleExact _) (wpAny_newObj_type (wpAny_pure ⟨_, rfl, wpAny_pure h⟩) htake)
    | exact wpAny_bind (m := Builtin.Tuple.tupleExact _) (wpAny_newObj_type (wpAny_bind (wpAny_pure (wpAny_pure ⟨_, rfl, wpAny_pure h⟩))) htake)
    | exact wpAny_bind (wpAny_bind (m := Builtin.Tuple.tupleExact _) (wpAny_newObj_type (wpAny_pure (wpAny_pure ⟨_, rfl, wpAny_pure h⟩)) htake))
    | exact wpAny_bind (wpAny_bind (m := Builtin.Tuple.tupleExact _) (wpAny_newObj_type (wpAny_pure ⟨_, rfl, wpAny_pure h⟩) htake))
end
end HT

namespace L2
open PySem PySem.Spec PyProof.Rows

/-! ### the parts of a slice -/
abbrev TO := St → Hp → (Option Int → Hp → Prop) → Prop
/-- a slice's part (left out, or an int) -/
def PO (X : Cx) (e : Option Expr) (t : TO) : Prop :=
  ∀ (pins : List (Addr × Obj)) (s : Shared) (σ : St) (H : Hp) (Q : Option Int → Hp → Prop), Inv X pins σ H s → t σ H Q →
    wpAny (model X.prog X.w) X.A (evalPart e X.env) (fun u s' => ∃ o H', Inv X pins σ H' s' ∧ IsPart u o ∧ Q o H') X.xe s
def tNoPart : TO := fun _ H Q => Q none H
def tPart (t : TE) : TO := fun σ H Q => t σ H fun x H1 => ∃ i, x = .int i ∧ Q (some i) H1

theorem intsAre_of {ns : List Int} : ∀ {us : List Value}, Vals (ns.map V.int) us → IntsAre us ns := by
  induction ns with
  | nil => intro us r; rw [List.map_nil] at r; cases r; exact .nil
  | cons n ns ih =>
    intro us r
    rw [List.map_cons] at r
    cases r with
    | cons r1 r2 =>
      obtain ⟨t, e⟩ := r1
      subst e
      exact .cons n t (ih r2)

section
variable {X : Cx} {e : Expr} {te : TE} {lo hi : Option Expr} {tl th : TO} {pos p2 : Pos}

theorem po_none : PO X none tNoPart := by
  intro pins s σ H Q I h
  rw [evalPart_none]
  exact wpAny_pure ⟨none, H, I, .none, h⟩
theorem po_some (h : PE X e te) : PO X (some e) (tPart te) := by
  intro pins s σ H Q I hw
  rw [evalPart_some]
  refine thn (h pins s σ H _ I hw) fun u s1 ⟨x, H1, I1, r1, q1⟩ => ?_
  obtain ⟨i, rfl, q⟩ := q1
  obtain ⟨t, rfl⟩ := r1
  exact ⟨some i, H1, I1, .int i t, q⟩

/-- what a slice of a value is, by values: the slice object stands at sl -/
def SlR (X : Cx) (r : V → Option Int → Option Int → Hp → VK → Prop) : Prop :=
  ∀ (pins : List (Addr × Obj)) (s : Shared) (σ : St) (H : Hp) (x : V) (v vl vu : Value) (lo hi : Option Int) (sl : Addr) (Q : VK), Inv X pins σ H s → RelV x v → s.heap.IsSliceOf sl vl vu .none → IsPart vl lo → IsPart vu hi → r x lo hi H Q →
    ∃ T id, typeLookup (.type T) "__getitem__" = pure (some (.builtin id)) ∧ s.TypeIs v T ∧ wpAny (model X.prog X.w) X.A (getItem v (.ref sl)) (EP X pins σ Q) X.xe s
theorem SlR.or {r r' : V → Option Int → Option Int → Hp → VK → Prop} (h : SlR X r) (h' : SlR X r') : SlR X (fun x lo hi H Q => r x lo hi H Q ∨ r' x lo hi H Q) := by
  intro pins s σ H x v vl vu lo hi sl Q I rx hs pl pu q
  rcases q with q | q
  · exact h pins s σ H x v vl vu lo hi sl Q I rx hs pl pu q
  · exact h' pins s σ H x v vl vu lo hi sl Q I rx hs pl pu q
def tSl (r : V → Option Int → Option Int → Hp → VK → Prop) (te : TE) (tl th : TO) : TE := fun σ H Q => te σ H fun x H1 => tl σ H1 fun l H2 => th σ H2 fun u H3 => r x l u H3 Q
/-- a[lo:hi], any a -/
theorem pe_slice {r : V → Option Int → Option Int → Hp → VK → Prop} (hr : SlR X r) (he : PE X e te) (hl : PO X lo tl) (hu : PO X hi th) : PE X (.Subscript e (.Slice lo hi none p2) pos) (tSl r te tl th) := by
  intro pins s σ H Q I h
  refine Subscript_ (thn (he pins s σ H _ I h) fun v s1 ⟨x, H1, I1, r1, q1⟩ => ?_)
  refine wpAny_Slice (thn (hl pins s1 σ H1 _ I1 q1) fun vl s2 ⟨l, H2, I2, pl, q2⟩ => thn (hu pins s2 σ H2 _ I2 q2) fun vu s3 ⟨u, H3, I3, pu, q3⟩ => ?_)
  rw [evalPart_none]
  refine wpAny_pure ?_
  have I4 : Inv X pins σ H3 { s3 with heap := s3.heap.push { cls := .type "slice", data := .fields #[vl, vu, .none] } } := I3.kept (t' := s3.toks) fun b ob q => Heap.get?_push_of_some _ q
  obtain ⟨T, id, hT, ht, hg⟩ := hr pins { s3 with heap := s3.heap.push { cls := .type "slice", data := .fields #[vl, vu, .none] } } σ H3 x v vl vu l u s3.heap.objs.size Q I4 r1 (Heap.IsSliceOf.new ..) pl pu q3
  show wpAny (model X.prog X.w) X.A (subscriptTail e (.Slice lo hi none p2) v (.ref s3.heap.objs.size)) (EP X pins σ Q) X.xe { s3 with heap := s3.heap.push { cls := .type "slice", data := .fields #[vl, vu, .none] } }
  exact tail_any (ops := [.ref s3.heap.objs.size, v]) ht hT hg (by with_unfolding_all rfl)

/-- the items of xs[lo:hi] -/
def cutV (xs : List V) (lo hi : Option Int) : List V := (xs.drop (HT.sIx xs.length 0 lo)).take (HT.sIx xs.length xs.length hi - HT.sIx xs.length 0 lo)
theorem cutV_length (xs : List V) (lo hi : Option Int) : (cutV xs lo hi).length ≤ xs.length := by
  unfold cutV
  rw [List.length_take, List.length_drop]
  omega
/-- t[lo:hi], not the whole of it (the whole would be t itself) -/
def rSlT (K : PySem.W.Frag) : V → Option Int → Option Int → Hp → VK → Prop := fun x lo hi H Q => ∃ a xs, x = .ref a ∧ SqT K H a xs ∧
  ¬ (HT.sIx xs.length 0 lo = 0 ∧ HT.sIx xs.length xs.length hi = xs.length) ∧ ∀ p, H p = none → Q (.ref p) (upd H p (.tup (cutV xs lo hi)))
theorem sl_tup : SlR X (rSlT X.K) := by
  intro pins s σ H x v vl vu lo hi sl Q I rx hs pl pu h
  obtain ⟨a, xs, rfl, hx, hw, q⟩ := h
  cases rx
  obtain ⟨its, r, ht, hz⟩ := I.tuple hx
  have hlen : its.toArray.size = xs.length := by rw [List.size_toArray]; exact r.length.symm
  refine ⟨"tuple", _, PyProof.Rows.slot_tuple_getitem.lookup, ht.typeIs, ?_⟩
  refine HT.getItem_tuple_cut ht hs pl pu (by rw [hlen]; exact hw) ?_ (by rw [hlen]; exact hz)
  rw [hlen]
  refine ⟨.ref s.heap.objs.size, _, I.laid (t' := s.toks) (o := .tup (cutV xs lo hi)) (fun b ob q => Heap.get?_push_of_some _ q) (Nat.le_refl _) ?_, rfl, q _ (I.hok.fresh (Nat.le_refl _))⟩
  exact ⟨Nat.le_trans (cutV_length xs lo hi) hz, _, (r.drop (HT.sIx xs.length 0 lo)).take (HT.sIx xs.length xs.length hi - HT.sIx xs.length 0 lo), IsTup.new _ _⟩

/-! ### t < u, t + u -/
def rLtT (K : PySem.W.Frag) : R2 := fun x y H Q => ∃ a b ns ms, x = .ref a ∧ y = .ref b ∧ SqT K H a (ns.map V.int) ∧ SqT K H b (ms.map V.int) ∧ Q (.bl (HT.lexLt ns ms)) H
theorem op_ltT (hu : X.A.units < cLine) : OpR X (compareOp .Lt) (rLtT X.K) := by
  intro pins s σ H x y v u Q I rx ry h
  obtain ⟨a, b, ns, ms, rfl, rfl, ha, hb, q⟩ := h
  cases rx
  cases ry
  obtain ⟨its, r1, p1, _⟩ := I.tuple ha
  obtain ⟨its2, r2, p2, _⟩ := I.tuple hb
  have i1 : IntsAre its.toArray.toList ns := intsAre_of r1
  have i2 : IntsAre its2.toArray.toList ms := intsAre_of r2
  exact HT.lt_tupInts p1 p2 i1 i2 hu ⟨.bl (HT.lexLt ns ms), H, I, rfl, q⟩
/-- t + u, t not empty: u empty gives t itself -/
def rCatT (K : PySem.W.Frag) : R2 := fun x y H Q => ∃ a b xs ys, x = .ref a ∧ y = .ref b ∧ SqT K H a xs ∧ SqT K H b ys ∧ xs ≠ [] ∧ xs.length + ys.length ≤ sizeLine ∧
  (ys = [] → Q (.ref a) H) ∧ (ys ≠ [] → ∀ p, H p = none → Q (.ref p) (upd H p (.tup (xs ++ ys))))
theorem Vals.nil_iff {xs : List V} {us : List Value} (r : Vals xs us) : us = [] ↔ xs = [] := by
  cases r with
  | nil => simp
  | cons _ _ => simp
theorem op_catT : OpR X (binaryOp .Add) (rCatT X.K) := by
  intro pins s σ H x y v u Q I rx ry h
  obtain ⟨a, b, xs, ys, rfl, rfl, ha, hb, hx, hz, q1, q2⟩ := h
  cases rx
  cases ry
  obtain ⟨its, r1, p1, _⟩ := I.tuple ha
  obtain ⟨its2, r2, p2, _⟩ := I.tuple hb
  refine HT.cat_tup p1 p2 (fun z => hx (r1.nil_iff.mp z)) (fun z => ⟨.ref a, H, I, rfl, q1 (r2.nil_iff.mp z)⟩) (fun z => ?_) (by rw [← r1.length, ← r2.length]; exact hz)
  refine ⟨.ref s.heap.objs.size, _, I.laid (t' := s.toks) (o := .tup (xs ++ ys)) (fun b ob q => Heap.get?_push_of_some _ q) (Nat.le_refl _) ?_, rfl, q2 (fun w => z (r2.nil_iff.mpr w)) _ (I.hok.fresh (Nat.le_refl _))⟩
  exact ⟨by rw [List.length_append]; exact hz, _, r1.append r2, IsTup.new _ _⟩
/-- tuple(t) -/
theorem call_tupleT : CallR X (.type "tuple") (fun xs H Q => ∃ a ys, xs = [.ref a] ∧ SqT X.K H a ys ∧ Q (.ref a) H) := by
  intro pins s σ H xs us Q I r h
  obtain ⟨a, ys, rfl, ha, q⟩ := h
  obtain ⟨u, rfl, ru⟩ := vals1 r
  cases ru
  obtain ⟨its, _, p1, _⟩ := I.tuple ha
  exact call_tuple_same (items := its.toArray) p1 ⟨.ref a, H, I, rfl, q⟩
end
end L2

namespace L2
open PySem PySem.Spec PyProof.Rows

/-! ### places -/
/-- the place that an index of any sign means -/
def ixN (n : Nat) (i : Int) : Option Nat := if 0 ≤ i then (if i < n then some i.toNat else none) else if -(n : Int) ≤ i then some (i + n).toNat else none
def atI {α : Type} (xs : List α) (i : Int) : Option α := (ixN xs.length i).bind fun j => xs[j]?
theorem ixN_seq {n : Nat} {i : Int} {j : Nat} (h : ixN n i = some j) : seqIndex? i n = some j ∧ j < n ∧ -(n : Int) ≤ i ∧ i < n := by
  unfold ixN at h
  by_cases h0 : 0 ≤ i
  · rw [if_pos h0] at h
    by_cases h1 : i < n
    · rw [if_pos h1] at h
      have e : i.toNat = j := Option.some.inj h
      exact ⟨by rw [seqIndex_of h0 h1, e], by omega, by omega, h1⟩
    · rw [if_neg h1] at h; cases h
  · rw [if_neg h0] at h
    by_cases h1 : -(n : Int) ≤ i
    · rw [if_pos h1] at h
      have e : (i + n).toNat = j := Option.some.inj h
      exact ⟨by rw [seqIndex_neg (by omega) h1, e], by omega, h1, by omega⟩
    · rw [if_neg h1] at h; cases h
theorem atI_get {α : Type} {xs : List α} {i : Int} {v : α} (h : atI xs i = some v) : ∃ j, seqIndex? i xs.length = some j ∧ xs[j]? = some v ∧ j < xs.length ∧ -(xs.length : Int) ≤ i ∧ i < xs.length := by
  unfold atI at h
  cases e : ixN xs.length i with
  | none => rw [e] at h; cases h
  | some j =>
    rw [e] at h
    obtain ⟨h1, h2, h3, h4⟩ := ixN_seq e
    exact ⟨j, h1, h, h2, h3, h4⟩
theorem atI_nat {α : Type} {xs : List α} {j : Nat} {v : α} (h : xs[j]? = some v) : atI xs (j : Int) = some v := by
  have hj : j < xs.length := (List.getElem?_eq_some_iff.mp h).1
  have e : ixN xs.length (j : Int) = some j := by
    unfold ixN
    rw [if_pos (by omega), if_pos (by omega)]; simp
  unfold atI; rw [e]; exact h
theorem atI_last {α : Type} (xs : List α) (v : α) : atI (xs ++ [v]) (-1) = some v := by
  have hl : (xs ++ [v]).length = xs.length + 1 := by simp
  have e : ixN (xs ++ [v]).length (-1) = some xs.length := by
    unfold ixN
    rw [hl, if_neg (by decide), if_pos (by omega)]
    congr 1
    omega
  unfold atI
  rw [e]
  show (xs ++ [v])[xs.length]? = some v
  simp

/-! ### what may be subscripted -/
/-- what stands as an index of a plain subscript -/
def PlainIx (b : Expr) : Prop := ∀ o i, subscripted b false o i = operate [o, i] (getItem o i)
/-- a subscript by values -/
def IxR (X : Cx) (r : R2) : Prop :=
  ∀ (value slice : Expr) (pins : List (Addr × Obj)) (s : Shared) (σ : St) (H : Hp) (x y : V) (v u : Value) (Q : VK), Inv X pins σ H s → RelV x v → RelV y u → r x y H Q →
    subscripted slice false v u = operate [v, u] (getItem v u) → wpAny (model X.prog X.w) X.A (subscriptTail value slice v u) (EP X pins σ Q) X.xe s
/-- a call of a builtin's method by values: the receiver, the arguments -/
def MtR (X : Cx) (id : String) (r : V → List V → Hp → VK → Prop) : Prop :=
  ∀ (pins : List (Addr × Obj)) (s : Shared) (σ : St) (H : Hp) (x : V) (xs : List V) (v : Value) (us : List Value) (Q : VK), Inv X pins σ H s → RelV x v → Vals xs us → r x xs H Q →
    wpAny (model X.prog X.w) X.A (call (.builtin id) (v :: us)) (EP X pins σ Q) X.xe s
section
variable {X : Cx} {a b : Expr} {ta tb : TE} {pos : Pos}
theorem IxR.or {r r' : R2} (h : IxR X r) (h' : IxR X r') : IxR X (fun x y H Q => r x y H Q ∨ r' x y H Q) := by
  intro value slice pins s σ H x y v u Q I rx ry q hs
  rcases q with q | q
  · exact h value slice pins s σ H x y v u Q I rx ry q hs
  · exact h' value slice pins s σ H x y v u Q I rx ry q hs
theorem MtR.or {id : String} {r r' : V → List V → Hp → VK → Prop} (h : MtR X id r) (h' : MtR X id r') : MtR X id (fun x xs H Q => r x xs H Q ∨ r' x xs H Q) := by
  intro pins s σ H x xs v us Q I rx rs q
  rcases q with q | q
  · exact h pins s σ H x xs v us Q I rx rs q
  · exact h' pins s σ H x xs v us Q I rx rs q
/-- a[b] -/
theorem pe_ix {r : R2} (hr : IxR X r) (ha : PE X a ta) (hb : PE X b tb) (hs : PlainIx b) : PE X (.Subscript a b pos) (tOp r ta tb) := by
  intro pins s σ H Q I h
  exact Subscript_ (binT ha hb I h fun v u s2 x y H2 I2 rx ry q => hr a b pins s2 σ H2 x y v u Q I2 rx ry q (hs _ _))

def rIxL (K : PySem.W.Frag) : R2 := fun x y H Q => ∃ p xs i v, x = .ref p ∧ y = .int i ∧ SqL K H p xs ∧ atI xs i = some v ∧ Q v H
def rIxT (K : PySem.W.Frag) : R2 := fun x y H Q => ∃ p xs i v, x = .ref p ∧ y = .int i ∧ SqT K H p xs ∧ atI xs i = some v ∧ Q v H
def rIxS : R2 := fun x y H Q => ∃ z i c, x = .str z ∧ y = .int i ∧ z.length ≤ sizeLine ∧ atI z.cps.toList i = some c ∧ Q (.str ⟨#[c]⟩) H
theorem ix_list : IxR X (rIxL X.K) := by
  intro value slice pins s σ H x y v u Q I rx ry h hs
  obtain ⟨p, xs, i, z, rfl, rfl, hq, he, q⟩ := h
  cases rx
  obtain ⟨t, rfl⟩ := ry
  obtain ⟨its, r, pl, hz⟩ := I.list hq
  obtain ⟨j, h1, h2, h3, h4, h5⟩ := atI_get he
  obtain ⟨w, ew, rw'⟩ := r.get h2
  have hl := r.length
  have hn := line63
  have fin : EP X pins σ Q w s := ⟨z, H, I, rw', q⟩
  by_cases h0 : 0 ≤ i
  · have hj : i.toNat = j := by
      rw [seqIndex_of h0 h5] at h1
      exact Option.some.inj h1
    exact item_listR pl.isList h0 (by omega) (by rw [hj]; simpa using ew) fin hs
  · have hj : (i + (its.toArray.size : Int)).toNat = j := by
      rw [seqIndex_neg (by omega) h4] at h1
      rw [List.size_toArray, ← hl]
      exact Option.some.inj h1
    exact subscriptTail_builtinR (x := w) pl.isList.typeIs slot_list_getitem.lookup
      (wpAny_getItem_list_neg (Q := fun r s' => r = w ∧ EP X pins σ Q r s') pl.isList (by omega) (by rw [List.size_toArray] <;> omega) (by omega) (by rw [hj]; simpa using ew) ⟨rfl, fin⟩) hs
theorem ix_tup : IxR X (rIxT X.K) := by
  intro value slice pins s σ H x y v u Q I rx ry h hs
  obtain ⟨p, xs, i, z, rfl, rfl, hq, he, q⟩ := h
  cases rx
  obtain ⟨t, rfl⟩ := ry
  obtain ⟨its, r, pl, hz⟩ := I.tuple hq
  obtain ⟨j, h1, h2, h3, h4, h5⟩ := atI_get he
  obtain ⟨w, ew, rw'⟩ := r.get h2
  have hl := r.length
  have hn := line63
  have fin : EP X pins σ Q w s := ⟨z, H, I, rw', q⟩
  exact subscriptTail_builtinR (x := w) pl.typeIs slot_tuple_getitem.lookup
    (getItem_tuple (j := j) (Q := fun r s' => r = w ∧ EP X pins σ Q r s') pl (by omega) (by omega) (by rw [List.size_toArray, ← hl]; exact h1) (by simpa using ew) ⟨rfl, fin⟩) hs
theorem ix_str : IxR X rIxS := by
  intro value slice pins s σ H x y v u Q I rx ry h hs
  obtain ⟨z, i, c, rfl, rfl, hz, he, q⟩ := h
  obtain ⟨t, rfl⟩ := rx
  obtain ⟨t', rfl⟩ := ry
  obtain ⟨j, h1, h2, h3, h4, h5⟩ := atI_get he
  have hl : z.cps.toList.length = z.length := by simp [Str.length]
  rw [hl] at h1 h4 h5
  have hn := line63
  exact tail_any (typeIs_str s z t) slot_str_getitem.lookup (getItem_str (c := c) (by
    have e1 : decide (i < -(2 ^ 63 : Int)) = false := decide_eq_false (by omega)
    have e2 : decide (i ≥ 2 ^ 63) = false := decide_eq_false (by omega)
    rw [e1, e2, Bool.or_false]) (by rw [h1]; simpa using h2) ⟨.str ⟨#[c]⟩, H, I.tok _, ⟨_, rfl⟩, q⟩) hs
/-- list, tuple or str -/
def rIx (K : PySem.W.Frag) : R2 := fun x y H Q => rIxL K x y H Q ∨ rIxT K x y H Q ∨ rIxS x y H Q
theorem ix_seq : IxR X (rIx X.K) := ix_list.or (ix_tup.or ix_str)

/-! ### xs[i] = v, any sign -/
/-- the list's object behind a store -/
theorem mapSeq_set (its : List Value) (n j : Nat) (u : Value) : Obj.mapSeq (·.setIfInBounds j u) { cls := .type "list", data := .seq its.toArray n } = { cls := .type "list", data := .seq (its.set j u).toArray n } := by
  simp [Obj.mapSeq]
theorem Inv.lst {pins : List (Addr × Obj)} {σ : St} {H : Hp} {s : Shared} {p : Addr} {xs : List V} (I : Inv X pins σ H s) (h : H p = some (.lst xs)) :
    ∃ (its : List Value) (n : Nat), Vals xs its ∧ s.heap.get? p = some { cls := .type "list", data := .seq its.toArray n } ∧ xs.length ≤ sizeLine := by
  obtain ⟨z, its, n, r, e⟩ := I.hok p _ h
  exact ⟨its, n, r, e, z⟩
/-- the list at p is written by an update of its object -/
theorem Inv.lstUpd {pins : List (Addr × Obj)} {σ : St} {H : Hp} {s : Shared} {p : Addr} {xs ys : List V} {its its' : List Value} {n n' : Nat} {f : Obj → Obj} (I : Inv X pins σ H s) (h : H p = some (.lst xs))
    (ho : s.heap.get? p = some { cls := .type "list", data := .seq its.toArray n }) (hf : f { cls := .type "list", data := .seq its.toArray n } = { cls := .type "list", data := .seq its'.toArray n' }) (r : Vals ys its') (hz : ys.length ≤ sizeLine) (t : Nat) :
    Inv X pins σ (upd H p (.lst ys)) { s with heap := s.heap.update p f, toks := t } := by
  have e : (s.heap.update p f).get? p = some { cls := .type "list", data := .seq its'.toArray n' } := by
    rw [Heap.get?_update_self f ho (by rw [hf] <;> rfl), hf]
  refine I.write (x := p) (e := p) (by rw [h]; trivial) (.inl rfl) (fun b u hb q => (Heap.get?_update_other _ _ (Ne.symm hb)).trans q) ⟨_, e⟩ ?_
  exact ⟨hz, its', n', r, e⟩
def rSetL : V → V → V → Hp → (Hp → Prop) → Prop := fun o i v H Q => ∃ p xs k j, o = .ref p ∧ i = .int k ∧ H p = some (.lst xs) ∧ ixN xs.length k = some j ∧ Q (upd H p (.lst (xs.set j v)))
theorem set_list : PSet X rSetL := by
  intro pins s σ H o i v ov iv u Q I ro ri rv h
  obtain ⟨p, xs, k, j, rfl, rfl, hp, hj, q⟩ := h
  cases ro
  obtain ⟨t, rfl⟩ := ri
  obtain ⟨its, n, r, ho, hz⟩ := I.lst hp
  obtain ⟨h1, h2, h3, h4⟩ := ixN_seq hj
  have hl := r.length
  have hn := line63
  have I' : Inv X pins σ (upd H p (.lst (xs.set j v))) { s with heap := s.heap.update p (Obj.mapSeq (·.setIfInBounds j u)) } :=
    I.lstUpd hp ho (mapSeq_set its n j u) (r.set rv j) (by rw [List.length_set]; exact hz) s.toks
  by_cases h0 : 0 ≤ k
  · have hk : k.toNat = j := by
      rw [seqIndex_of h0 h4] at h1
      exact Option.some.inj h1
    exact PySem.W.ki_setAt ho h0 (by omega) (by rw [List.size_toArray, ← hl]; exact h4) (by rw [hk]; exact ⟨_, I', q⟩)
  · have hk : (k + (its.toArray.size : Int)).toNat = j := by
      rw [seqIndex_neg (by omega) h3] at h1
      rw [List.size_toArray, ← hl]
      exact Option.some.inj h1
    exact PySem.W.ki_setBack ho (by omega) (by rw [List.size_toArray, ← hl]; exact h3) (by omega) (by rw [hk]; exact ⟨_, I', q⟩)

/-! ### slices -/
theorem slice_bounds (lo hi : Option Int) (n : Nat) : (sliceBounds lo hi none n).1 = ((HT.sIx n 0 lo : Nat) : Int) ∧ (sliceBounds lo hi none n).2.1 = ((HT.sIx n n hi : Nat) : Int) ∧ (sliceBounds lo hi none n).2.2 = 1 := by
  refine ⟨?_, ?_, rfl⟩
  · cases lo with
    | none => simp [sliceBounds, HT.sIx]
    | some i =>
      simp only [sliceBounds, HT.sIx, Option.getD_none, show (1 : Int) > 0 by decide, if_true]
      by_cases h : i < 0
      · simp only [h, if_true] <;> omega
      · simp only [h, if_false] <;> omega
  · cases hi with
    | none => simp [sliceBounds, HT.sIx]
    | some i =>
      simp only [sliceBounds, HT.sIx, Option.getD_none, show (1 : Int) > 0 by decide, if_true]
      by_cases h : i < 0
      · simp only [h, if_true] <;> omega
      · simp only [h, if_false] <;> omega
theorem slicePick_cut (its : List Value) (lo hi : Option Int) : slicePick its.toArray lo hi none = ((its.drop (HT.sIx its.length 0 lo)).take (HT.sIx its.length its.length hi - HT.sIx its.length 0 lo)).toArray := by
  obtain ⟨h1, h2, h3⟩ := slice_bounds lo hi its.toArray.size
  unfold slicePick
  rw [h1, h2, h3]
  simp only [sliceRange_one, pick_run, List.size_toArray] <;> rfl
/-- xs[lo:hi] of a list: a new list -/
def rSlL (K : PySem.W.Frag) : V → Option Int → Option Int → Hp → VK → Prop := fun x lo hi H Q => ∃ a xs, x = .ref a ∧ SqL K H a xs ∧ ∀ p, H p = none → Q (.ref p) (upd H p (.lst (cutV xs lo hi)))
theorem sl_list : SlR X (rSlL X.K) := by
  intro pins s σ H x v vl vu lo hi sl Q I rx hs pl pu h
  obtain ⟨a, xs, rfl, hx, q⟩ := h
  cases rx
  obtain ⟨its, r, ht, hz⟩ := I.list hx
  have hlen := r.length
  refine ⟨"list", _, slot_list_getitem.lookup, ht.isList.typeIs, ?_⟩
  refine wpAny_getItem_list_slice ht.isList hs pl pu .none (by simp) ?_ (by rw [List.size_toArray] <;> omega)
  rw [slicePick_cut, ← hlen]
  refine ⟨.ref s.heap.objs.size, _, I.laid (t' := s.toks) (o := .lst (cutV xs lo hi)) (fun b ob q => Heap.get?_push_of_some _ q) (Nat.le_refl _) ?_, rfl, q _ (I.hok.fresh (Nat.le_refl _))⟩
  exact ⟨Nat.le_trans (cutV_length xs lo hi) hz, _, 0, (r.drop (HT.sIx xs.length 0 lo)).take (HT.sIx xs.length xs.length hi - HT.sIx xs.length 0 lo), Heap.get?_push_size _ rfl⟩

/-! ### in, not in: flat items -/
def flatV : V → Bool
  | .non => true
  | .bl _ => true
  | .int _ => true
  | .str _ => true
  | _ => false
/-- == of flat values -/
def eqV : V → V → Bool
  | .non, .non => true
  | .bl a, .bl b => a == b
  | .bl a, .int b => (if a then 1 else 0) == b
  | .int a, .bl b => a == (if b then 1 else 0)
  | .int a, .int b => a == b
  | .str a, .str b => a == b
  | _, _ => false
theorem eqAt_V {A : Around} {s : Shared} {y x : V} {u v : Value} (ry : RelV y u) (rx : RelV x v) (fy : flatV y = true) (fx : flatV x = true) : SeqAt.EqAt A s u v (eqV y x) := by
  cases y with
  | non =>
    cases ry
    cases x with
    | non => cases rx; exact SeqAt.EqAt.same _
    | bl b => cases rx; exact SeqAt.EqAt.none_bool b
    | int b => obtain ⟨t, rfl⟩ := rx; exact SeqAt.EqAt.none_int b t
    | str b => obtain ⟨t, rfl⟩ := rx; exact SeqAt.EqAt.none_str b t
    | _ => exact absurd (show false = true from fx) Bool.false_ne_true
  | bl a =>
    cases ry
    cases x with
    | non => cases rx; exact SeqAt.EqAt.bool_none a
    | bl b => cases rx; exact SeqAt.EqAt.bool_bool a b
    | int b => obtain ⟨t, rfl⟩ := rx; exact SeqAt.EqAt.bool_int a b t
    | str b => obtain ⟨t, rfl⟩ := rx; exact SeqAt.EqAt.bool_str a b t
    | _ => exact absurd (show false = true from fx) Bool.false_ne_true
  | int a =>
    obtain ⟨t', rfl⟩ := ry
    cases x with
    | non => cases rx; exact SeqAt.EqAt.int_none a t'
    | bl b => cases rx; exact SeqAt.EqAt.int_bool a t' b
    | int b => obtain ⟨t, rfl⟩ := rx; exact SeqAt.EqAt.int_int a t' b t
    | str b => obtain ⟨t, rfl⟩ := rx; exact SeqAt.EqAt.int_str a t' b t
    | _ => exact absurd (show false = true from fx) Bool.false_ne_true
  | str a =>
    obtain ⟨t', rfl⟩ := ry
    cases x with
    | non => cases rx; exact SeqAt.EqAt.str_none a t'
    | bl b => cases rx; exact SeqAt.EqAt.str_bool a t' b
    | int b => obtain ⟨t, rfl⟩ := rx; exact SeqAt.EqAt.str_int a t' b t
    | str b => obtain ⟨t, rfl⟩ := rx; exact SeqAt.EqAt.str_str a t' b t
    | _ => exact absurd (show false = true from fx) Bool.false_ne_true
  | _ => exact absurd (show false = true from fy) Bool.false_ne_true
/-- the items' answers, read off the values (a value's own answer does not lean on its token) -/
def eqU (x : V) (u : Value) : Bool := match u with
  | .none => eqV .non x
  | .bool b => eqV (.bl b) x
  | .int i _ => eqV (.int i) x
  | .str z _ => eqV (.str z) x
  | _ => false
theorem eqU_of {x y : V} {u : Value} (r : RelV y u) (f : flatV y = true) : eqU x u = eqV y x := by
  cases y with
  | non => cases r; rfl
  | bl b => cases r; rfl
  | int i => obtain ⟨t, rfl⟩ := r; rfl
  | str z => obtain ⟨t, rfl⟩ := r; rfl
  | _ => exact absurd (show false = true from f) Bool.false_ne_true
theorem any_eqU {x : V} : ∀ {xs : List V} {us : List Value}, Vals xs us → xs.all flatV = true → us.any (eqU x) = xs.any fun y => eqV y x
  | _, _, .nil, _ => rfl
  | y :: xs, u :: us, .cons r t, f => by
    rw [List.all_cons, Bool.and_eq_true] at f
    rw [List.any_cons, List.any_cons, eqU_of r f.1, any_eqU t f.2]
theorem mem_eqAt {A : Around} {s : Shared} {x : V} {v : Value} (rx : RelV x v) (fx : flatV x = true) : ∀ {xs : List V} {us : List Value}, Vals xs us → xs.all flatV = true → ∀ u ∈ us, SeqAt.EqAt A s u v (eqU x u)
  | _, _, .nil, _ => fun u hu => by cases hu
  | y :: xs, u :: us, .cons r t, f => fun u' hu => by
    rw [List.all_cons, Bool.and_eq_true] at f
    rcases List.mem_cons.mp hu with rfl | hu
    · rw [eqU_of r f.1]; exact eqAt_V r rx f.1 fx
    · exact mem_eqAt rx fx t f.2 u' hu
def inV (x : V) (xs : List V) : Bool := xs.any fun y => eqV y x
/-- x in a list or tuple of flat items -/
def rIn (K : PySem.W.Frag) (neg : Bool) : R2 := fun x y H Q => ∃ p xs, y = .ref p ∧ (SqL K H p xs ∨ SqT K H p xs) ∧ flatV x = true ∧ xs.all flatV = true ∧ Q (.bl (if neg then !inV x xs else inV x xs)) H
theorem op_in_seq : OpR X (compareOp .In) (rIn X.K false) := by
  intro pins s σ H x y v u Q I rx ry h
  obtain ⟨p, xs, rfl, hq, fx, fs, q⟩ := h
  cases ry
  rcases hq with hq | hq
  · obtain ⟨its, r, pl, hz⟩ := I.list hq
    refine SeqAt.in_listAt (eqU x) pl.isList (fun w hw => mem_eqAt rx fx r fs w (by simpa using hw)) ⟨.bl _, H, I, rfl, ?_⟩
    rw [show its.toArray.any (eqU x) = its.any (eqU x) by simp, any_eqU r fs]
    exact q
  · obtain ⟨its, r, pl, hz⟩ := I.tuple hq
    refine SeqAt.in_tupleAt (eqU x) pl (fun w hw => mem_eqAt rx fx r fs w (by simpa using hw)) ⟨.bl _, H, I, rfl, ?_⟩
    rw [show its.toArray.any (eqU x) = its.any (eqU x) by simp, any_eqU r fs]
    exact q
theorem op_notIn_seq : OpR X (compareOp .NotIn) (rIn X.K true) := by
  intro pins s σ H x y v u Q I rx ry h
  obtain ⟨p, xs, rfl, hq, fx, fs, q⟩ := h
  cases ry
  rcases hq with hq | hq
  · obtain ⟨its, r, pl, hz⟩ := I.list hq
    refine SeqAt.notIn_listAt (eqU x) pl.isList (fun w hw => mem_eqAt rx fx r fs w (by simpa using hw)) ⟨.bl _, H, I, rfl, ?_⟩
    rw [show its.toArray.any (eqU x) = its.any (eqU x) by simp, any_eqU r fs]
    exact q
  · obtain ⟨its, r, pl, hz⟩ := I.tuple hq
    refine SeqAt.notIn_tupleAt (eqU x) pl (fun w hw => mem_eqAt rx fx r fs w (by simpa using hw)) ⟨.bl _, H, I, rfl, ?_⟩
    rw [show its.toArray.any (eqU x) = its.any (eqU x) by simp, any_eqU r fs]
    exact q
theorem op_notIn_str : OpR X (compareOp .NotIn) (fun x y H Q => ∃ i j, x = .str i ∧ y = .str j ∧ Q (.bl (!(!(Builtin.Str.occurrences j i 0 j.length 1).isEmpty))) H) := by
  intro pins s σ H x y v u Q I rx ry h
  obtain ⟨i, j, rfl, rfl, q⟩ := h
  obtain ⟨t, rfl⟩ := rx
  obtain ⟨t', rfl⟩ := ry
  exact notIn_str ⟨.bl _, H, I, rfl, q⟩

/-! ### len, list(x), tuple(x) of any list or tuple that is read -/
theorem call_len_seq : CallR X (.builtin "len") (fun xs H Q => ∃ p ys, xs = [.ref p] ∧ (SqL X.K H p ys ∨ SqT X.K H p ys) ∧ Q (.int ys.length) H) := by
  intro pins s σ H xs us Q I r h
  obtain ⟨p, ys, rfl, hq, q⟩ := h
  obtain ⟨u, rfl, rx⟩ := vals1 r
  cases rx
  have hn := line63
  rcases hq with hq | hq
  · obtain ⟨its, r', pl, hz⟩ := I.list hq
    have hlen := r'.length
    exact Calls.call_len_list pl.isList (by simp only [List.size_toArray] <;> omega) ⟨.int ys.length, H, I.tok _, ⟨s.toks + 1, by rw [List.size_toArray, hlen]⟩, q⟩
  · obtain ⟨its, r', pl, hz⟩ := I.tuple hq
    have hlen := r'.length
    exact len_tuple pl (by simp only [List.size_toArray] <;> omega) ⟨.int ys.length, H, I.tok _, ⟨s.toks + 1, by rw [List.size_toArray, hlen]⟩, q⟩
theorem call_len_str : CallR X (.builtin "len") (fun xs H Q => ∃ z, xs = [.str z] ∧ z.length ≤ sizeLine ∧ Q (.int z.length) H) := by
  intro pins s σ H xs us Q I r h
  obtain ⟨z, rfl, hz, q⟩ := h
  obtain ⟨u, rfl, t, rfl⟩ := vals1 r
  have hn := line63
  exact len_str (by omega) ⟨.int z.length, H, I.tok _, ⟨_, rfl⟩, q⟩
theorem CallR.or {f : Value} {r r' : List V → Hp → VK → Prop} (h : CallR X f r) (h' : CallR X f r') : CallR X f (fun xs H Q => r xs H Q ∨ r' xs H Q) := by
  intro pins s σ H xs us Q I rs q
  rcases q with q | q
  · exact h pins s σ H xs us Q I rs q
  · exact h' pins s σ H xs us Q I rs q
theorem call_list_of : CallR X (.type "list") (fun xs H Q => ∃ p ys, xs = [.ref p] ∧ (SqL X.K H p ys ∨ SqT X.K H p ys) ∧ ∀ l, H l = none → Q (.ref l) (upd H l (.lst ys))) := by
  intro pins s σ H xs us Q I r h
  obtain ⟨p, ys, rfl, hq, q⟩ := h
  obtain ⟨u, rfl, rx⟩ := vals1 r
  cases rx
  have fin : ∀ (its : List Value), Vals ys its → ys.length ≤ sizeLine → ∀ (h' : Heap) (c' : Nat), (∀ b o', s.heap.get? b = some o' → h'.get? b = some o') →
      h'.get? s.heap.objs.size = some { cls := .type "list", dict := none, data := .seq its.toArray c', slots := #[] } → EP X pins σ Q (.ref s.heap.objs.size) { s with heap := h' } := fun its r' hz h' c' kp e =>
    ⟨.ref s.heap.objs.size, _, I.laid (t' := s.toks) kp (Nat.le_refl _) (show ObjOk X.prog X.w _ h' _ (.lst ys) from ⟨hz, its, c', r', e⟩), rfl, q _ (I.hok.fresh (Nat.le_refl _))⟩
  rcases hq with hq | hq
  · obtain ⟨its, r', pl, hz⟩ := I.list hq
    have hlen := r'.length
    obtain ⟨o, ho, hc, n, hd⟩ := pl.isList
    exact call_list_seq p (.inl rfl) ho hc hd (fun h' c' kp e => fin its r' hz h' c' kp e) (by simp only [List.size_toArray] <;> omega)
  · obtain ⟨its, r', pl, hz⟩ := I.tuple hq
    have hlen := r'.length
    obtain ⟨o, ho, hc, n, hd⟩ := pl
    exact call_list_seq p (.inr rfl) ho hc hd (fun h' c' kp e => fin its r' hz h' c' kp e) (by simp only [List.size_toArray] <;> omega)
theorem call_tuple_of : CallR X (.type "tuple") (fun xs H Q => ∃ p ys, xs = [.ref p] ∧ ((SqL X.K H p ys ∧ ∀ l, H l = none → Q (.ref l) (upd H l (.tup ys))) ∨ (SqT X.K H p ys ∧ Q (.ref p) H))) := by
  intro pins s σ H xs us Q I r h
  obtain ⟨p, ys, rfl, h⟩ := h
  obtain ⟨u, rfl, rx⟩ := vals1 r
  cases rx
  rcases h with ⟨hq, q⟩ | ⟨hq, q⟩
  · obtain ⟨its, r', pl, hz⟩ := I.list hq
    have hlen := r'.length
    refine call_tuple_list pl.isList (fun h' kp => ?_) (by simp only [List.size_toArray] <;> omega)
    have I1 : Inv X pins σ H { s with heap := h' } := I.kept (t' := s.toks) kp
    have I2 : Inv X pins σ (upd H h'.objs.size (.tup ys)) { s with heap := h'.push { cls := .type "tuple", data := .seq its.toArray } } :=
      I1.laid (t' := s.toks) (fun b o e => Heap.get?_push_of_some _ e) (Nat.le_refl _) (show ObjOk X.prog X.w _ _ _ (.tup ys) from ⟨hz, its, r', IsTup.new _ _⟩)
    exact ⟨.ref h'.objs.size, _, I2, rfl, q _ (I1.hok.fresh (Nat.le_refl _))⟩
  · obtain ⟨its, r', pl, hz⟩ := I.tuple hq
    exact call_tuple_same pl ⟨.ref p, H, I, rfl, q⟩

/-! ### the call of a builtin's method: o.m(..) -/
/-- the value is of that builtin type -/
def tyV (K : PySem.W.Frag) (T : String) (x : V) (H : Hp) : Prop := match x with
  | .str _ => T = "str"
  | .int _ => T = "int"
  | .ref p => (T = "list" ∧ ∃ xs, SqL K H p xs) ∨ (T = "tuple" ∧ ∃ o, K.lookup p = some o ∧ o.cls = .type "tuple" ∧ o.dict = none) ∨
      (T = "dict" ∧ ((∃ kvs, H p = some (.dK kvs)) ∨ ∃ kvs, H p = some (.dT kvs))) ∨ (T = "set" ∧ ∃ S n, H p = some (.set S n))
  | _ => False
theorem tyV_is {pins : List (Addr × Obj)} {σ : St} {H : Hp} {s : Shared} {T : String} {x : V} {v : Value} (I : Inv X pins σ H s) (r : RelV x v) (ty : tyV X.K T x H) :
    s.TypeIs v T ∧ ∀ a, v = .ref a → ∃ ob, s.heap.get? a = some ob ∧ ob.dict = none := by
  cases x with
  | str z =>
    obtain ⟨t, rfl⟩ := r
    cases (show T = "str" from ty)
    exact ⟨typeIs_str s z t, fun _ e => nomatch e⟩
  | int i =>
    obtain ⟨t, rfl⟩ := r
    cases (show T = "int" from ty)
    exact ⟨typeIs_int s i t, fun _ e => nomatch e⟩
  | ref p =>
    cases r
    rcases ty with ⟨rfl, xs, hq⟩ | ⟨rfl, o, hk, hc, hd⟩ | ⟨rfl, hk⟩ | ⟨rfl, S, n, hk⟩
    · obtain ⟨its, _, pl, _⟩ := I.list hq
      refine ⟨pl.isList.typeIs, fun a e => ?_⟩
      cases e
      obtain ⟨o, n, e, c, hd, _⟩ := pl
      exact ⟨o, e, hd⟩
    · refine ⟨⟨o, I.kIn p o hk, hc⟩, fun a e => ?_⟩
      cases e
      exact ⟨o, I.kIn _ o hk, hd⟩
    · have z : ∃ o, s.heap.get? p = some o ∧ o.ExactDict := by
        rcases hk with ⟨kvs, hk⟩ | ⟨kvs, hk⟩
        · obtain ⟨_, _, _, _, o, _, _, e, ex, _⟩ := I.hok p _ hk
          exact ⟨o, e, ex⟩
        · obtain ⟨_, _, _, _, o, _, _, e, ex, _⟩ := I.hok p _ hk
          exact ⟨o, e, ex⟩
      obtain ⟨o, e, ex⟩ := z
      refine ⟨⟨o, e, ex.1⟩, fun a e2 => ?_⟩
      cases e2
      exact ⟨o, e, ex.2.1⟩
    · obtain ⟨o, _, _, _, e, ex, _⟩ := I.hok p _ hk
      refine ⟨⟨o, e, ex.1⟩, fun a e2 => ?_⟩
      cases e2
      exact ⟨o, e, ex.2.1⟩
  | _ => exact False.elim ty
def tBM0 (K : PySem.W.Frag) (T : String) (r : V → List V → Hp → VK → Prop) (to : TE) : TE := fun σ H Q => to σ H fun x H1 => tyV K T x H1 ∧ r x [] H1 Q
def tBM (K : PySem.W.Frag) (T : String) (r : V → List V → Hp → VK → Prop) (to : TE) (t : TA) : TE := fun σ H Q => to σ H fun x H1 => tyV K T x H1 ∧ t σ H1 fun xs H2 => r x xs H2 Q
variable {o e : Expr} {es : List Expr} {to : TE} {t : TA} {name : Str} {apos cpos : Pos} {T id : String} {r : V → List V → Hp → VK → Prop}
theorem pe_bm0 (pa : PlainAttrs T) (slot : Slot T name id) (hty : typeOf (.builtin id) = pure (.type "method_descriptor")) (hm : MtR X id r) (ho : PE X o to)
    (hbase : attributeBase o name X.env (eval o X.env) = eval o X.env := by rfl) (hline : (apos.endLine == cpos.line) = true := by rfl) : PE X (.Call (.Attribute o name apos) [] [] cpos) (tBM0 X.K T r to) := by
  intro pins s σ H Q I h
  refine wpAny_Call_method0_late hbase hline (thn (ho pins s σ H _ I h) fun v s1 ⟨x, H1, I1, r1, ty, q1⟩ => ?_)
  obtain ⟨h1, h2⟩ := tyV_is I1 r1 ty
  exact ⟨T, id, pa, slot, hty, h1, h2, Calls.callWith_builtin rfl (PySem.evalArgs_none (hm pins s1 σ H1 x [] v [] Q I1 r1 .nil q1))⟩
theorem pe_bm (pa : PlainAttrs T) (slot : Slot T name id) (hty : typeOf (.builtin id) = pure (.type "method_descriptor")) (hm : MtR X id r) (ho : PE X o to) (ha : PA X (e :: es) t)
    (hbase : attributeBase o name X.env (eval o X.env) = eval o X.env := by rfl)
    (hfew : ((backTo cpos (starEach (e :: es) X.env)).all (fun x => !x.1) && (backToKw cpos (keywordEach [] X.env)).all (fun x => x.1.isSome)
      && decide ((e :: es).length + ([] : List Keyword).length + (if ([] : List Keyword).isEmpty then 0 else 1) < 30)) = true := by rfl)
    (hline : (apos.endLine == cpos.line) = true := by rfl) (hs : starEach (e :: es) X.env = (false, eval e X.env) :: starEach es X.env := by rfl) (hplain : (backTo cpos (starEach es X.env)).any (·.1) = false := by rfl) :
    PE X (.Call (.Attribute o name apos) (e :: es) [] cpos) (tBM X.K T r to t) := by
  intro pins s σ H Q I h
  refine wpAny_Call_method_late hbase hfew hline rfl (thn (ho pins s σ H _ I h) fun v s1 ⟨x, H1, I1, r1, ty, q1⟩ => ?_)
  obtain ⟨h1, h2⟩ := tyV_is I1 r1 ty
  refine ⟨T, id, pa, slot, hty, h1, h2, ?_⟩
  have hA := ha cpos pins s1 σ H1 _ I1 q1
  rw [hs] at hA ⊢
  refine Calls.callWith_builtin (by show (false || (backTo cpos (starEach es X.env)).any (·.1)) = false; rw [hplain] <;> rfl) (Calls.evalArgs_plain ?_)
  exact thn hA fun us s2 ⟨vs, H2, I2, r2, q2⟩ => hm pins s2 σ H2 x vs v us Q I2 r1 r2 q2
/- xs.append(e), list.index on a module's tuple .. are MtR facts of 06m -/
end
end L2

namespace L2
open PySem PySem.Spec PyProof.Rows

def MtM (X : Cx) (id : String) (r : V → List V → Hp → VK → Prop) : Prop :=
  ∀ (pins : List (Addr × Obj)) (s : Shared) (σ : St) (H : Hp) (x : V) (xs : List V) (v : Value) (us : List Value) (Q : VK), Inv X pins σ H s → RelV x v → Vals xs us → r x xs H Q →
    wpAny (model X.prog X.w) X.A (call (.builtin id) (v :: us)) (EP X pins σ Q) X.xe s

/-! ### lists of values -/
theorem Vals.one : ∀ {x : V} {us : List Value}, Vals [x] us → ∃ u, us = [u] ∧ RelV x u
  | _, _, .cons r .nil => ⟨_, rfl, r⟩
theorem Vals.two : ∀ {x y : V} {us : List Value}, Vals [x, y] us → ∃ u v, us = [u, v] ∧ RelV x u ∧ RelV y v
  | _, _, _, .cons r (.cons q .nil) => ⟨_, _, rfl, r, q⟩
theorem Vals.zero : ∀ {us : List Value}, Vals [] us → us = []
  | _, .nil => rfl
theorem Vals.dropLast {xs : List V} {us : List Value} (h : Vals xs us) : Vals xs.dropLast us.dropLast := by
  induction h with
  | nil => exact .nil
  | cons r t ih =>
    cases t with
    | nil => exact .nil
    | cons q t' => exact .cons r ih
theorem Vals.eraseIdx : ∀ {xs : List V} {us : List Value} (i : Nat), Vals xs us → Vals (xs.eraseIdx i) (us.eraseIdx i)
  | _, _, _, .nil => .nil
  | _, _, 0, .cons _ t => t
  | _, _, i + 1, .cons r t => .cons r (Vals.eraseIdx i t)
theorem Vals.reverse {xs : List V} {us : List Value} (h : Vals xs us) : Vals xs.reverse us.reverse := by
  induction h with
  | nil => exact .nil
  | cons r t ih => rw [List.reverse_cons, List.reverse_cons]; exact Vals.append ih (.cons r .nil)
theorem Vals.rep {xs : List V} {us : List Value} (h : Vals xs us) : ∀ k : Nat, Vals (List.replicate k xs).flatten (List.replicate k us).flatten
  | 0 => .nil
  | k + 1 => by
    rw [List.replicate_succ, List.replicate_succ, List.flatten_cons, List.flatten_cons]
    exact Vals.append h (Vals.rep h k)
theorem erase_last {α : Type} (l : List α) : l.eraseIdx (l.length - 1) = l.dropLast := by
  induction l with
  | nil => rfl
  | cons a r ih =>
    cases r with
    | nil => rfl
    | cons b r =>
      have e : (a :: b :: r).length - 1 = ((b :: r).length - 1) + 1 := by
        have h1 : (a :: b :: r).length = r.length + 2 := rfl
        have h2 : (b :: r).length = r.length + 1 := rfl
        omega
      rw [e, List.eraseIdx_cons_succ, ih]
      all_goals rfl
theorem len_erase {α : Type} : ∀ (l : List α) (i : Nat), (l.eraseIdx i).length ≤ l.length
  | [], _ => Nat.le_refl _
  | _ :: _, 0 => Nat.le_succ _
  | _ :: r, i + 1 => Nat.succ_le_succ (len_erase r i)
theorem foldl_rep (its : List Value) : ∀ (k : Nat) (acc : List Value),
    List.foldl (fun x1 x2 => x1 ++ x2) acc.toArray (List.replicate k its.toArray) = (acc ++ (List.replicate k its).flatten).toArray
  | 0, acc => by simp
  | k + 1, acc => by
    have e : acc.toArray ++ its.toArray = (acc ++ its).toArray := by simp
    have e2 : (acc ++ its) ++ (List.replicate k its).flatten = acc ++ (List.replicate (k + 1) its).flatten := by
      rw [List.replicate_succ, List.flatten_cons, List.append_assoc]
    rw [← e2, ← foldl_rep its k (acc ++ its), ← e, List.replicate_succ, List.foldl_cons]

section
variable {X : Cx} {pins : List (Addr × Obj)} {σ : St} {H : Hp} {s : Shared} {l b : Addr} {xs ys zs : List V}

/-! ### the two steps: a tracked list is rewritten, a new list is laid -/
theorem Inv.lset {its its' : List Value} {n : Nat} {f : Array Value → Array Value} {t' : Nat} (I : Inv X pins σ H s) (hH : H l = some (.lst xs))
    (e : s.heap.get? l = some { cls := .type "list", data := .seq its.toArray n }) (hf : f its.toArray = its'.toArray) (hv : Vals ys its') (hz : ys.length ≤ sizeLine) :
    Inv X pins σ (upd H l (.lst ys)) { s with heap := s.heap.update l (Obj.mapSeq f), toks := t' } := by
  have q := PySem.IsL.update e f
  rw [hf] at q
  refine I.write (x := l) (e := l) (by rw [hH]; exact trivial) (.inl rfl) (fun b' u hb hu => (Heap.get?_update_other s.heap (Obj.mapSeq f) (Ne.symm hb)).trans hu) ⟨_, q⟩ ?_
  exact ⟨hz, its', _, hv, q⟩
theorem Inv.lnew {its : List Value} {t' : Nat} (I : Inv X pins σ H s) (hv : Vals ys its) (hz : ys.length ≤ sizeLine) :
    Inv X pins σ (upd H s.heap.objs.size (.lst ys)) { s with heap := s.heap.push { cls := .type "list", data := .seq its.toArray }, toks := t' } :=
  I.laid (fun _ _ q => Heap.get?_push_of_some _ q) (Nat.le_refl _) ⟨hz, its, 0, hv, Heap.get?_push_size _ rfl⟩
theorem Inv.fresh (I : Inv X pins σ H s) : H s.heap.objs.size = none := I.hok.fresh (Nat.le_refl _)
theorem Inv.lstM (I : Inv X pins σ H s) (hH : H l = some (.lst xs)) : xs.length ≤ sizeLine ∧ ∃ (its : List Value) (n : Nat), Vals xs its ∧ xs.length = its.length ∧ s.heap.get? l = some { cls := .type "list", data := .seq its.toArray n } := by
  obtain ⟨z, its, n, r, e⟩ := I.hok l _ hH
  exact ⟨z, its, n, r, r.length, e⟩

theorem notLongL {n : Nat} (h : n ≤ sizeLine) : Builtin.List.listTooLong n = false := by
  unfold Builtin.List.listTooLong
  exact decide_eq_false (by omega)
end

section
variable {X : Cx}

/-! ### methods -/
def rAppend : V → List V → Hp → VK → Prop := fun x vs H Q => ∃ l xs y, x = .ref l ∧ vs = [y] ∧ H l = some (.lst xs) ∧ xs.length < sizeLine ∧ Q .non (upd H l (.lst (xs ++ [y])))
theorem mt_append : MtM X "list.append" rAppend := by
  intro pins s σ H x vs v us Q I rx rv h
  obtain ⟨l, xs, y, rfl, rfl, hH, hz, q⟩ := h
  cases rx
  obtain ⟨u, rfl, ru⟩ := rv.one
  obtain ⟨z, its, n, r, hl, e⟩ := I.lstM hH
  refine call_meets F.slot_list_append ⟨_, e, rfl⟩ F.entry_list_append (F.args_list_append_2 _ _) (PySem.list_append l its.toArray n u (by rw [List.size_toArray]; omega)) ⟨e, ?_⟩
  refine ⟨.non, _, I.lset (its' := its ++ [u]) hH e (by simp) (r.append (.cons ru .nil)) ?_, rfl, q⟩
  rw [List.length_append, List.length_singleton]
  omega

def rExtend : V → List V → Hp → VK → Prop := fun x vs H Q => ∃ l b xs zs, x = .ref l ∧ vs = [.ref b] ∧ H l = some (.lst xs) ∧ H b = some (.lst zs) ∧ xs.length + zs.length ≤ sizeLine ∧ Q .non (upd H l (.lst (xs ++ zs)))
theorem mt_extend : MtM X "list.extend" rExtend := by
  intro pins s σ H x vs v us Q I rx rv h
  obtain ⟨l, b, xs, zs, rfl, rfl, hH, hB, hz, q⟩ := h
  cases rx
  obtain ⟨u, rfl, ru⟩ := rv.one
  cases ru
  obtain ⟨z, its, n, r, hl, e⟩ := I.lstM hH
  obtain ⟨z2, its2, n2, r2, hl2, e2⟩ := I.lstM hB
  have hsz : its.toArray.size + its2.toArray.size ≤ sizeLine := by rw [List.size_toArray, List.size_toArray]; omega
  have hlong : ¬ (!its.toArray.isEmpty && Builtin.List.listTooLong (its.toArray.size + its2.toArray.size)) = true := by
    rw [notLongL hsz, Bool.and_false]
    exact Bool.false_ne_true
  refine call_meets F.slot_list_extend ⟨_, e, rfl⟩ F.entry_list_extend (F.args_list_extend_2 _ _)
    (AutoSeq1.list_extend_list_list_0 l its.toArray n b its2.toArray n2 hlong (by rw [List.size_toArray]; omega) (by omega)) ⟨e, e2, ?_⟩
  refine ⟨.non, _, I.lset (its' := its ++ its2) hH e (by simp) (r.append r2) ?_, rfl, q⟩
  rw [List.length_append]
  omega

def rPop : V → List V → Hp → VK → Prop := fun x vs H Q => ∃ l xs y, x = .ref l ∧ vs = [] ∧ H l = some (.lst xs) ∧ xs[xs.length - 1]? = some y ∧ Q y (upd H l (.lst xs.dropLast))
theorem mt_pop : MtM X "list.pop" rPop := by
  intro pins s σ H x vs v us Q I rx rv h
  obtain ⟨l, xs, y, rfl, rfl, hH, hy, q⟩ := h
  cases rx
  have hus := rv.zero
  subst hus
  obtain ⟨z, its, n, r, hl, e⟩ := I.lstM hH
  obtain ⟨u, hu, ru⟩ := r.get hy
  have hy' : its.toArray[its.toArray.size - 1]? = some u := by
    show its.toArray[its.length - 1]? = some u
    rw [← Array.getElem?_toList, ← hl]
    exact hu
  refine call_meets F.slot_list_pop ⟨_, e, rfl⟩ F.entry_list_pop (F.args_list_pop_1 _) (MeetsSeq.list_pop_last l its.toArray n u hy' (by rw [List.size_toArray]; omega)) ⟨e, ?_⟩
  refine ⟨y, _, I.lset (its' := its.dropLast) hH e ?_ r.dropLast ?_, ru, q⟩
  · show its.toArray.eraseIdxIfInBounds (its.toArray.size - 1) = its.dropLast.toArray
    rw [List.size_toArray, List.eraseIdxIfInBounds_toArray, erase_last]
  · rw [List.length_dropLast]
    omega

def rPopAt : V → List V → Hp → VK → Prop := fun x vs H Q => ∃ l xs i k y, x = .ref l ∧ vs = [.int i] ∧ H l = some (.lst xs) ∧ -(2 ^ 63) ≤ i ∧ i < 2 ^ 63 ∧ seqIndex? i xs.length = some k ∧ xs[k]? = some y ∧ Q y (upd H l (.lst (xs.eraseIdx k)))
theorem mt_popAt : MtM X "list.pop" rPopAt := by
  intro pins s σ H x vs v us Q I rx rv h
  obtain ⟨l, xs, i, k, y, rfl, rfl, hH, h1, h2, hk, hy, q⟩ := h
  cases rx
  obtain ⟨u, rfl, ru⟩ := rv.one
  obtain ⟨t, rfl⟩ := ru
  obtain ⟨z, its, n, r, hl, e⟩ := I.lstM hH
  obtain ⟨w, hw, rw'⟩ := r.get hy
  refine call_meets F.slot_list_pop ⟨_, e, rfl⟩ F.entry_list_pop (F.args_list_pop_2 _ _)
    (MeetsSeq.list_pop_at l its.toArray n i t k w (fitsIndex_both h1 h2) (by rw [List.size_toArray, ← hl]; exact hk) (by rw [← Array.getElem?_toList]; exact hw) (by rw [List.size_toArray]; omega)) ⟨e, ?_⟩
  refine ⟨y, _, I.lset (its' := its.eraseIdx k) hH e ?_ (r.eraseIdx k) ?_, rw', q⟩
  · show its.toArray.eraseIdxIfInBounds k = (its.eraseIdx k).toArray
    rw [List.eraseIdxIfInBounds_toArray]
  · have := len_erase xs k
    omega

def rReverse : V → List V → Hp → VK → Prop := fun x vs H Q => ∃ l xs, x = .ref l ∧ vs = [] ∧ H l = some (.lst xs) ∧ Q .non (upd H l (.lst xs.reverse))
theorem mt_reverse : MtM X "list.reverse" rReverse := by
  intro pins s σ H x vs v us Q I rx rv h
  obtain ⟨l, xs, rfl, rfl, hH, q⟩ := h
  cases rx
  have hus := rv.zero
  subst hus
  obtain ⟨z, its, n, r, hl, e⟩ := I.lstM hH
  refine call_meets F.slot_list_reverse ⟨_, e, rfl⟩ F.entry_list_reverse (F.args_list_reverse_1 _) (AutoSeq1.list_reverse_list_0 l its.toArray n (by rw [List.size_toArray]; omega)) ⟨e, ?_⟩
  refine ⟨.non, _, I.lset (its' := its.reverse) hH e (by simp) r.reverse ?_, rfl, q⟩
  rw [List.length_reverse]
  omega

def rClear : V → List V → Hp → VK → Prop := fun x vs H Q => ∃ l xs, x = .ref l ∧ vs = [] ∧ H l = some (.lst xs) ∧ Q .non (upd H l (.lst []))
theorem mt_clear : MtM X "list.clear" rClear := by
  intro pins s σ H x vs v us Q I rx rv h
  obtain ⟨l, xs, rfl, rfl, hH, q⟩ := h
  cases rx
  have hus := rv.zero
  subst hus
  obtain ⟨z, its, n, r, hl, e⟩ := I.lstM hH
  refine call_meets F.slot_list_clear ⟨_, e, rfl⟩ F.entry_list_clear (F.args_list_clear_1 _) (AutoSeq1.list_clear_list_0 l its.toArray n (by rw [List.size_toArray]; omega)) ⟨e, ?_⟩
  exact ⟨.non, _, I.lset (its' := []) (ys := []) hH e rfl .nil (Nat.zero_le _), rfl, q⟩

/-! ### list + list, list += list, list * int -/
def rCat : R2 := fun x y H Q => ∃ l b xs zs, x = .ref l ∧ y = .ref b ∧ H l = some (.lst xs) ∧ H b = some (.lst zs) ∧ xs.length + zs.length ≤ sizeLine ∧ ∀ p, H p = none → Q (.ref p) (upd H p (.lst (xs ++ zs)))
theorem op_cat : OpR X (binaryOp .Add) rCat := by
  intro pins s σ H x y v u Q I rx ry h
  obtain ⟨l, b, xs, zs, rfl, rfl, hH, hB, hz, q⟩ := h
  cases rx
  cases ry
  obtain ⟨z, its, n, r, hl, e⟩ := I.lstM hH
  obtain ⟨z2, its2, n2, r2, hl2, e2⟩ := I.lstM hB
  refine PySem.P.add_list e e2 ?_ (by rw [List.size_toArray, List.size_toArray]; omega)
  have ea : its.toArray ++ its2.toArray = (its ++ its2).toArray := by simp
  rw [ea]
  exact ⟨.ref _, _, I.lnew (t' := s.toks) (r.append r2) (by rw [List.length_append]; omega), rfl, q _ I.fresh⟩
/-- a list times an int (a negative one is nothing) -/
def rRep : R2 := fun x y H Q => ∃ l k xs, x = .ref l ∧ y = .int k ∧ H l = some (.lst xs) ∧ -(2 ^ 63) ≤ k ∧ k < 2 ^ 63 ∧ xs.length * k.toNat ≤ sizeLine ∧
  ∀ p, H p = none → Q (.ref p) (upd H p (.lst (List.replicate k.toNat xs).flatten))
theorem len_rep {α : Type} (xs : List α) (k : Nat) : (List.replicate k xs).flatten.length = k * xs.length := by
  induction k with
  | zero => simp
  | succ k ih => rw [List.replicate_succ, List.flatten_cons, List.length_append, ih, Nat.succ_mul, Nat.add_comm]
theorem op_rep : OpR X (binaryOp .Mult) rRep := by
  intro pins s σ H x y v u Q I rx ry h
  obtain ⟨l, k, xs, rfl, rfl, hH, h1, h2, hz, q⟩ := h
  cases rx
  obtain ⟨t, rfl⟩ := ry
  obtain ⟨z, its, n, r, hl, e⟩ := I.lstM hH
  have hlen : its.toArray.size * k.toNat ≤ sizeLine := by rw [List.size_toArray, ← hl]; exact hz
  have hcap : ¬ its.toArray.size * k.toNat > (2 ^ 63 - 1) / 8 := by
    have : (sizeLine : Nat) ≤ (2 ^ 63 - 1) / 8 := by decide
    omega
  have hfit : ¬ (!Builtin.List.listFitsIndex k) = true := by
    rw [fitsIndex_both h1 h2]
    exact Bool.false_ne_true
  have hlong : ¬ Builtin.List.listTooLong (its.toArray.size * k.toNat) = true := by
    rw [notLongL hlen]
    exact Bool.false_ne_true
  have hnew : List.foldl (fun x1 x2 => x1 ++ x2) #[] (List.replicate (if its.toArray.isEmpty = true then 0 else k.toNat) its.toArray) = (List.replicate k.toNat its).flatten.toArray := by
    have f0 : ∀ m : Nat, List.foldl (fun x1 x2 => x1 ++ x2) #[] (List.replicate m its.toArray) = (List.replicate m its).flatten.toArray := fun m => by
      have := foldl_rep its m []
      rw [List.nil_append] at this
      exact this
    rw [f0]
    cases its with
    | nil => simp
    | cons a r' => rw [if_neg (by simp)]
  refine wpAny_binaryOp_repeat_ref (T := "list") (U := "int") (by decide) ⟨_, e, rfl⟩ (fun s' => typeIs_int s' k t) noFill_list_mul F.fills_int_mul F.slot_int_rmul repeat_list F.slot_int_index.lookup
    (call_meets F.slot_int_rmul (typeIs_int s k t) F.entry_int_rmul (F.args_int_rmul_2 _ _) (int___rmul___int_list k t l its.toArray n)
      ⟨e, rfl, ⟨_, e, rfl⟩, call_meets F.slot_list_mul ⟨_, e, rfl⟩ F.entry_list_mul (F.args_list_mul_2 _ _) (AutoListH.list___mul___list_int_3 l its.toArray n k t hfit hcap hlong) ⟨e, ?_⟩⟩)
  rw [hnew]
  exact ⟨.ref _, _, I.lnew (t' := s.toks) (r.rep k.toNat) (by rw [len_rep, Nat.mul_comm]; exact hz), rfl, q _ I.fresh⟩

/-! ### del xs[i] -/
theorem del_list {pins : List (Addr × Obj)} {s : Shared} {σ : St} {H : Hp} {l : Addr} {xs : List V} {i : Int} {t : Tok} {k : Nat} {Q : Unit → Shared → Prop} (I : Inv X pins σ H s) (hH : H l = some (.lst xs))
    (h1 : -(2 ^ 63) ≤ i) (h2 : i < 2 ^ 63) (hk : seqIndex? i xs.length = some k) (h : ∀ s', Inv X pins σ (upd H l (.lst (xs.eraseIdx k))) s' → Q () s') :
    wpAny (model X.prog X.w) X.A (delItem (.ref l) (.int i t)) Q X.xe s := by
  obtain ⟨z, its, n, r, hl, e⟩ := I.lstM hH
  refine PySem.P.delItem_list (k := k) e (fitsIndex_both h1 h2) (by rw [List.size_toArray, ← hl]; exact hk) (h _ ?_) (by rw [List.size_toArray]; omega)
  refine I.lset (its' := its.eraseIdx k) (t' := s.toks) hH e ?_ (r.eraseIdx k) ?_
  · show its.toArray.eraseIdxIfInBounds k = (its.eraseIdx k).toArray
    rw [List.eraseIdxIfInBounds_toArray]
  · have := len_erase xs k
    omega
end

/-! ### xs[a:b] = ys -/
section
variable {prog : Program} {w : World} {A : Around} {E : Value → Shared → Prop} {s : Shared}
theorem splice_eq (its its2 : List Value) (a c : Nat) : its.toArray.extract 0 a ++ its2.toArray ++ its.toArray.extract c its.toArray.size = (its.take a ++ its2 ++ its.drop c).toArray := by
  apply Array.toList_inj.mp
  first
    | (simp
       exact List.take_of_length_le (by simp))
    | simp [List.take_of_length_le]
    | simp
theorem bounds_run {a c n : Nat} (hac : a ≤ c) (hc : c ≤ n) : sliceBounds (some (a : Int)) (some (c : Int)) none n = ((a : Int), (c : Int), 1) := by
  simp only [sliceBounds, Option.getD_none]
  have h1 : ¬ ((a : Int) < 0) := by omega
  have h2 : ¬ ((c : Int) < 0) := by omega
  simp only [h1, h2, if_false, show (1 : Int) > 0 by decide, if_true]
  congr 1
  · omega
  · congr 1; omega
set_option maxRecDepth 100000 in
/-- list.__setitem__ with a slice of step one and another list -/
theorem setItem_slice {l b sl : Addr} {items new : Array Value} {n n2 : Nat} {vl vu : Value} {a c : Nat} {Q : Unit → Shared → Prop}
    (e : s.heap.get? l = some { cls := .type "list", data := .seq items n }) (e2 : s.heap.get? b = some { cls := .type "list", data := .seq new n2 }) (hne : l ≠ b)
    (hs : s.heap.IsSliceOf sl vl vu .none) (pl : IsPart vl (some (a : Int))) (pu : IsPart vu (some (c : Int))) (hac : a ≤ c) (hc : c ≤ items.size)
    (hsz : items.size + new.size ≤ sizeLine) (h : Q () { s with heap := s.heap.update l (Obj.mapSeq fun xs => xs.extract 0 a ++ new ++ xs.extract c xs.size) }) :
    wpAny (model prog w) A (setItem (.ref l) (.ref sl) (.ref b)) Q E s := by
  have hl : s.heap.IsList l items := PySem.IsL.isList e
  have hb : s.heap.IsList b new := PySem.IsL.isList e2
  obtain ⟨os, hos, hcs, hds⟩ := id hs
  have hTs : s.TypeIs (.ref sl) "slice" := ⟨os, hos, hcs⟩
  have hstep : ¬ ((rawPart none == rawInt 0) = true) := Bool.false_ne_true
  have hsame : Builtin.List.listSameRef (.ref l) (.ref b) = false := by
    unfold Builtin.List.listSameRef
    exact beq_eq_false_iff_ne.mpr hne
  have hmax : (max (a : Int) (c : Int)).toNat = c := by omega
  have hz' : ((fun xs : Array Value => xs.extract 0 a ++ new ++ xs.extract c xs.size) items).size ≤ sizeLine + 1 := by
    simp only [Array.size_append, Array.size_extract]
    omega
  unfold setItem
  try with_reducible refine wpAny_holding ?_
  first | refine wpAny_bind (wpAny_pure ?_) | skip
  refine wpAny_bind (wpAny_sequenceKey hl.typeIs (by decide) ?_)
  refine wpAny_bind (wpAny_callSpecial?_slot (name := Str.ofString "__setitem__") hl.typeIs slot_list_setitem
    (wpAny_call_entry slot_list_setitem hl.typeIs entry_list_setitem ?_ (args_list_setitem _ _ _)))
  show wpAny _ _ (Builtin.List.listSubscript? (.ref sl) >>= _) _ _ s
  refine wpAny_bind ?_
  unfold Builtin.List.listSubscript?
  refine wpAny_bind (wpAny_specialOf hTs slice_no_index ?_)
  simp only [Option.isNone_none, if_true]
  refine wpAny_pure ?_
  show wpAny _ _ (typeOf (.ref sl) >>= _) _ _ s
  refine wpAny_bind (wpAny_typeOf hTs ?_)
  first
    | rw [if_neg (by decide)]
    | refine PySem.W.KFB.if_not (by decide) ?_
  rw [listSliceParts_eq]
  refine wpAny_bind (wpAny_bind (wpAny_field hos hds (x := .none) rfl (wpAny_bind (wpAny_listPart .none ?_))))
  rw [if_neg hstep]
  refine wpAny_bind (wpAny_field hos hds (x := vl) rfl (wpAny_bind (wpAny_listPart pl ?_)))
  refine wpAny_bind (wpAny_field hos hds (x := vu) rfl (wpAny_bind (wpAny_listPart pu (wpAny_pure ?_))))
  first
    | simp only [hsame, Bool.false_eq_true, if_false]
    | refine PySem.W.KFB.if_not hsame ?_
    | (dsimp only
       rw [if_neg (by rw [hsame]; exact Bool.false_ne_true)])
  refine wpAny_bind (m := Builtin.List.listAllItems (.ref b) "must assign iterable to extended slice") ?_
  unfold Builtin.List.listAllItems
  refine wpAny_bind (wpAny_typeOf hb.typeIs ?_)
  first
    | refine PySem.W.KFB.if_so (by decide) ?_
    | rw [if_pos (by decide)]
    | simp only [beq_self_eq_true, Bool.true_or, if_true]
  unfold Builtin.List.listItems
  refine wpAny_bind (wpAny_seqItems e2 rfl (wpAny_pure ?_))
  refine wpAny_bind (wpAny_bind (wpAny_seqItems e rfl (wpAny_pure ?_)))
  refine wpAny_bind (wpAny_of_eq ((sliceIndices_raw (some (a : Int)) (some (c : Int)) none items.size (by simp)).trans (congrArg (pure : Int × Int × Int → Sem (Int × Int × Int)) (bounds_run hac hc))) ?_)
  show wpAny _ _ (if ((1 : Int) == 1) = true then _ else _) _ _ s
  rw [if_pos (by decide)]
  refine wpAny_bind (wpAny_rule ?_)
  first
    | simp only [notLongL hsz, Bool.false_eq_true, if_false]
    | refine PySem.W.KFB.if_not (notLongL hsz) ?_
  first | refine wpAny_bind (wpAny_pure ?_) | skip
  show wpAny _ _ (updateSeq l (fun xs => xs.extract 0 ((a : Int)).toNat ++ new ++ xs.extract (max (a : Int) (c : Int)).toNat xs.size) >>= _) _ _ s
  rw [hmax, Int.toNat_natCast]
  refine wpAny_bind (wpAny_updateSeq (hz := Nat.le_trans (Nat.le_add_right _ _) hsz) (_hz' := hz') e rfl ?_)
  refine wpAny_bind (wpAny_letGo ?_)
  first
    | exact wpAny_bind (wpAny_pure (wpAny_pure ⟨.none, rfl, wpAny_pure h⟩))
    | exact wpAny_pure ⟨.none, rfl, wpAny_pure h⟩
end

section
variable {X : Cx}
/-- xs[a:c] = ys of another list, at the value level: sl is the slice object that was just made -/
theorem set_slice {pins : List (Addr × Obj)} {s : Shared} {σ : St} {H : Hp} {l b sl : Addr} {xs ys : List V} {a c : Int} {vl vu : Value} {Q : Unit → Shared → Prop} (I : Inv X pins σ H s)
    (hH : H l = some (.lst xs)) (hB : H b = some (.lst ys)) (hne : l ≠ b) (hs : s.heap.IsSliceOf sl vl vu .none) (ra : RelV (.int a) vl) (rc : RelV (.int c) vu) (h0 : 0 ≤ a) (hac : a ≤ c) (hc : c ≤ xs.length)
    (hz : xs.length + ys.length ≤ sizeLine) (h : ∀ s', Inv X pins σ (upd H l (.lst (xs.take a.toNat ++ ys ++ xs.drop c.toNat))) s' → Q () s') :
    wpAny (model X.prog X.w) X.A (setItem (.ref l) (.ref sl) (.ref b)) Q X.xe s := by
  obtain ⟨ta, rfl⟩ := ra
  obtain ⟨tc, rfl⟩ := rc
  obtain ⟨z, its, n, r, hl, e⟩ := I.lstM hH
  obtain ⟨z2, its2, n2, r2, hl2, e2⟩ := I.lstM hB
  obtain ⟨a', rfl⟩ := Int.eq_ofNat_of_zero_le h0
  obtain ⟨c', rfl⟩ := Int.eq_ofNat_of_zero_le (Int.le_trans h0 hac)
  simp only [Int.toNat_natCast] at h
  refine setItem_slice (a := a') (c := c') e e2 hne hs (.int _ _) (.int _ _) (by omega) (by rw [List.size_toArray]; omega) (by rw [List.size_toArray, List.size_toArray]; omega) (h _ ?_)
  refine I.lset (its' := its.take a' ++ its2 ++ its.drop c') (t' := s.toks) hH e ?_ (Vals.append (Vals.append (r.take _) r2) (r.drop _)) ?_
  · exact splice_eq its its2 a' c'
  · rw [List.length_append, List.length_append, List.length_take, List.length_drop]
    omega
end
end L2


namespace L2
open PySem PySem.Spec PyProof.Rows

/-! ### lists of pairs as tables -/
section
variable {κ : Type} [DecidableEq κ]
def valV (kvs : List (κ × V)) (k : κ) : Option V := (kvs.find? fun kv => decide (kv.1 = k)).map (·.2)
/-- in its place, or at the end -/
def putK (kvs : List (κ × V)) (k : κ) (v : V) : List (κ × V) :=
  if (kvs.any fun kv => decide (kv.1 = k)) = true then kvs.map (fun kv => if kv.1 = k then (kv.1, v) else kv) else kvs ++ [(k, v)]
def dropK (kvs : List (κ × V)) (k : κ) : List (κ × V) := kvs.filter fun kv => decide (kv.1 ≠ k)

theorem valV_nil {k : κ} : valV ([] : List (κ × V)) k = none := rfl
theorem valV_pos {p : κ × V} {r : List (κ × V)} {k : κ} (e : p.1 = k) : valV (p :: r) k = some p.2 := by simp [valV, List.find?_cons, e]
theorem valV_neg {p : κ × V} {r : List (κ × V)} {k : κ} (e : ¬ p.1 = k) : valV (p :: r) k = valV r k := by simp [valV, List.find?_cons, e]
theorem valV_any (k : κ) : ∀ kvs : List (κ × V), (kvs.any fun kv => decide (kv.1 = k)) = (valV kvs k).isSome
  | [] => rfl
  | p :: r => by
    rw [List.any_cons]
    by_cases e : p.1 = k
    · simp only [valV_pos e, decide_eq_true e, Bool.true_or, Option.isSome_some]
    · rw [valV_neg e, decide_eq_false e, Bool.false_or]; exact valV_any k r
theorem valV_map (k j : κ) (y : V) : ∀ kvs : List (κ × V), valV (kvs.map fun kv => if kv.1 = k then (kv.1, y) else kv) j = (valV kvs j).map fun x => if j = k then y else x
  | [] => rfl
  | p :: r => by
    have ih := valV_map k j y r
    rw [List.map_cons]
    by_cases h : p.1 = k
    · rw [if_pos h]
      by_cases e : p.1 = j
      · rw [valV_pos (p := (p.1, y)) e, valV_pos e, Option.map_some, if_pos (e.symm.trans h)]
      · rw [valV_neg (p := (p.1, y)) e, valV_neg e, ih]
    · rw [if_neg h]
      by_cases e : p.1 = j
      · rw [valV_pos (p := p) e, valV_pos e, Option.map_some, if_neg (fun z => h (e.trans z))]
      · rw [valV_neg (p := p) e, valV_neg e, ih]
theorem valV_snoc (k j : κ) (y : V) : ∀ kvs : List (κ × V), valV kvs k = none → valV (kvs ++ [(k, y)]) j = if j = k then some y else valV kvs j
  | [], _ => by
    by_cases e : k = j
    · rw [if_pos e.symm]; exact valV_pos (p := (k, y)) e
    · rw [if_neg (fun z => e z.symm)]; exact valV_neg (p := (k, y)) e
  | p :: r, hn => by
    rw [List.cons_append]
    have hk : ¬ p.1 = k := fun z => by rw [valV_pos z] at hn; cases hn
    rw [valV_neg hk] at hn
    have ih := valV_snoc k j y r hn
    by_cases e : p.1 = j
    · rw [valV_pos e, valV_pos e, if_neg (fun z => hk (e.trans z))]
    · rw [valV_neg e, valV_neg e, ih]
theorem valV_put (kvs : List (κ × V)) (k j : κ) (y : V) : valV (putK kvs k y) j = if j = k then some y else valV kvs j := by
  unfold putK
  by_cases a : (kvs.any fun kv => decide (kv.1 = k)) = true
  · rw [if_pos a, valV_map]
    rw [valV_any] at a
    by_cases e : j = k
    · obtain ⟨x, hx⟩ := Option.isSome_iff_exists.mp a
      rw [if_pos e, e, hx, Option.map_some, if_pos rfl]
    · rw [if_neg e]
      cases valV kvs j with
      | none => rfl
      | some x => rw [Option.map_some, if_neg e]
  · rw [if_neg a]
    refine valV_snoc k j y kvs ?_
    rw [valV_any] at a
    cases q : valV kvs k with
    | none => rfl
    | some x => rw [q] at a; exact (a rfl).elim
theorem length_putK (kvs : List (κ × V)) (k : κ) (v : V) : (putK kvs k v).length ≤ kvs.length + 1 := by
  unfold putK
  split
  · rw [List.length_map]; omega
  · rw [List.length_append, List.length_cons, List.length_nil]; omega
theorem putK_new {kvs : List (κ × V)} {k : κ} (v : V) (h : valV kvs k = none) : putK kvs k v = kvs ++ [(k, v)] := by
  unfold putK
  rw [valV_any, h]
  exact if_neg (by decide)

theorem RelO.isSome_eq {o : Option V} {u : Option Value} (r : RelO o u) : o.isSome = u.isSome := by
  cases o with
  | none => cases u with
    | none => rfl
    | some _ => exact (show False from r).elim
  | some _ => cases u with
    | none => exact (show False from r).elim
    | some _ => rfl
theorem RelO.getD {o : Option V} {u : Option Value} {d : V} {d' : Value} (r : RelO o u) (rd : RelV d d') : RelV (o.getD d) (u.getD d') := by
  cases o with
  | none => cases u with
    | none => exact rd
    | some _ => exact (show False from r).elim
  | some _ => cases u with
    | none => exact (show False from r).elim
    | some _ => exact r

/-- raw tables of the same keys -/
theorem KV.val {kvs : List (κ × V)} {vs : List (κ × Value)} (r : KV kvs vs) (k : κ) : RelO (valV kvs k) (valueAt vs k) := by
  unfold KV at r
  induction r with
  | nil => exact True.intro
  | @cons p q ps qs h t ih =>
    obtain ⟨h1, h2⟩ := h
    by_cases e : p.1 = k
    · have e' : q.1 = k := h1.symm.trans e
      have b : valueAt (q :: qs) k = some q.2 := by simp [valueAt, List.find?_cons, e']
      rw [valV_pos e, b]; exact h2
    · have e' : ¬ q.1 = k := fun z => e (h1.trans z)
      have b : valueAt (q :: qs) k = valueAt qs k := by simp [valueAt, List.find?_cons, e']
      rw [valV_neg e, b]; exact ih
theorem KV.any {kvs : List (κ × V)} {vs : List (κ × Value)} (r : KV kvs vs) (k : κ) : (kvs.any fun kv => decide (kv.1 = k)) = vs.any fun kv => decide (kv.1 = k) := by
  unfold KV at r
  induction r with
  | nil => rfl
  | cons h t ih => rw [List.any_cons, List.any_cons, ih, h.1]
theorem KV.repl {kvs : List (κ × V)} {vs : List (κ × Value)} (r : KV kvs vs) (k : κ) {y : V} {u : Value} (ry : RelV y u) :
    KV (kvs.map fun kv => if kv.1 = k then (kv.1, y) else kv) (vs.map fun kv => if kv.1 = k then (kv.1, u) else kv) := by
  unfold KV at r ⊢
  induction r with
  | nil => exact .nil
  | @cons p q ps qs h t ih =>
    rw [List.map_cons, List.map_cons]
    refine .cons ?_ ih
    obtain ⟨h1, h2⟩ := h
    by_cases e : p.1 = k
    · rw [if_pos e, if_pos (h1.symm.trans e)]; exact ⟨h1, ry⟩
    · rw [if_neg e, if_neg (fun z => e (h1.trans z))]; exact ⟨h1, h2⟩
theorem KV.put {kvs : List (κ × V)} {vs : List (κ × Value)} (r : KV kvs vs) (k : κ) {y : V} {u : Value} (ry : RelV y u) : KV (putK kvs k y) (stored vs k u) := by
  unfold putK stored
  rw [r.any k]
  by_cases e : (vs.any fun kv => decide (kv.1 = k)) = true
  · rw [if_pos e, if_pos e]; exact r.repl k ry
  · rw [if_neg e, if_neg e]; exact Paired.snoc r ⟨rfl, ry⟩
theorem KV.drop {kvs : List (κ × V)} {vs : List (κ × Value)} (r : KV kvs vs) (k : κ) : KV (dropK kvs k) (without vs k) := by
  unfold KV at r ⊢
  unfold dropK without
  induction r with
  | nil => exact .nil
  | @cons p q ps qs h t ih =>
    obtain ⟨h1, h2⟩ := h
    rw [List.filter_cons, List.filter_cons]
    by_cases e : p.1 = k
    · have a : ¬ decide (p.1 ≠ k) = true := by simp [e]
      have b : ¬ decide (q.1 ≠ k) = true := by simp [h1.symm.trans e]
      rw [if_neg a, if_neg b]; exact ih
    · have e' : ¬ q.1 = k := fun z => e (h1.trans z)
      have a : decide (p.1 ≠ k) = true := by simp [e]
      have b : decide (q.1 ≠ k) = true := by simp [e']
      rw [if_pos a, if_pos b]; exact .cons ⟨h1, h2⟩ ih
theorem KV.keys {kvs : List (κ × V)} {vs : List (κ × Value)} (r : KV kvs vs) : kvs.map (·.1) = vs.map (·.1) := by
  unfold KV at r
  induction r with
  | nil => rfl
  | cons h t ih => rw [List.map_cons, List.map_cons, ih, h.1]
theorem KV.length {kvs : List (κ × V)} {vs : List (κ × Value)} (r : KV kvs vs) : kvs.length = vs.length := Paired.length r
theorem dropK_le (kvs : List (κ × V)) (k : κ) : (dropK kvs k).length ≤ kvs.length := List.length_filter_le _ _
end


/-! ### a tracked dict, its keys ints and texts or tuples of these -/
theorem kV_is {P : Program} {w : World} {k : Key} {u : Value} (r : RelV (kV k) u) : (mixKind P w).is k u = true := by
  cases k with
  | inl i => obtain ⟨t, e⟩ := (show ∃ t, u = Value.int i t from r); subst e; exact mixKind_int P w i t
  | inr x => obtain ⟨t, e⟩ := (show ∃ t, u = Value.str x t from r); subst e; exact mixKind_str P w x t
theorem kV_inj {a b : Key} (e : kV a = kV b) : a = b := by
  cases a with
  | inl i => cases b with
    | inl j => have e' : V.int i = V.int j := e; injection e' with e'; rw [e']
    | inr y => exact nomatch (show V.int i = V.str y from e)
  | inr x => cases b with
    | inl j => exact nomatch (show V.str x = V.int j from e)
    | inr y => have e' : V.str x = V.str y := e; injection e' with e'; rw [e']
theorem kVs_inj : ∀ {a b : List Key}, a.map kV = b.map kV → a = b
  | [], [], _ => rfl
  | [], _ :: _, e => by simp at e
  | _ :: _, [], e => by simp at e
  | x :: xs, y :: ys, e => by
    rw [List.map_cons, List.map_cons] at e
    injection e with e1 e2
    rw [kV_inj e1, kVs_inj e2]
theorem items_are {P : Program} {w : World} : ∀ {ks : List Key} {us : List Value}, Vals (ks.map kV) us → ItemsAre (mixKind P w) ks us
  | [], _, r => by rw [List.map_nil] at r; cases r; exact .nil
  | k :: ks, _, r => by
    rw [List.map_cons] at r
    cases r with
    | cons h t => exact .cons (kV_is h) (items_are t)

/-- raw entries of a dict with tuple keys -/
abbrev KT (H : Hp) : List (List Key × V) → List (List Key × Addr × Value) → Prop := Paired fun p q => p.1 = q.1 ∧ H q.2.1 = some (.tup (p.1.map kV)) ∧ RelV p.2 q.2.2
theorem KT.val {H : Hp} {kvs : List (List Key × V)} {xs : List (List Key × Addr × Value)} (r : KT H kvs xs) (k : List Key) : RelO (valV kvs k) ((atKey xs k).map (·.2)) := by
  induction r with
  | nil => exact True.intro
  | @cons p q ps qs h t ih =>
    obtain ⟨h1, _, h2⟩ := h
    by_cases e : p.1 = k
    · have e' : q.1 = k := h1.symm.trans e
      have b : atKey (q :: qs) k = some q.2 := by simp [atKey, List.find?_cons, e']
      rw [valV_pos e, b]; exact h2
    · have e' : ¬ q.1 = k := fun z => e (h1.trans z)
      have b : atKey (q :: qs) k = atKey qs k := by simp [atKey, List.find?_cons, e']
      rw [valV_neg e, b]; exact ih
theorem KT.repl {H : Hp} {kvs : List (List Key × V)} {xs : List (List Key × Addr × Value)} (r : KT H kvs xs) (k : List Key) {y : V} {u : Value} (ry : RelV y u) :
    KT H (kvs.map fun kv => if kv.1 = k then (kv.1, y) else kv) (xs.map (putAt k u)) := by
  induction r with
  | nil => exact .nil
  | @cons p q ps qs h t ih =>
    rw [List.map_cons, List.map_cons]
    refine .cons ?_ ih
    obtain ⟨h1, h2, h3⟩ := h
    unfold putAt
    by_cases e : p.1 = k
    · rw [if_pos e, if_pos (h1.symm.trans e)]; exact ⟨h1, h2, ry⟩
    · rw [if_neg e, if_neg (fun z => e (h1.trans z))]; exact ⟨h1, h2, h3⟩
theorem KT.put {H : Hp} {kvs : List (List Key × V)} {xs : List (List Key × Addr × Value)} (r : KT H kvs xs) (k : List Key) {b : Addr} {y : V} {u : Value} (hb : H b = some (.tup (k.map kV))) (ry : RelV y u) :
    KT H (putK kvs k y) (storedH xs k b u) := by
  have e : (kvs.any fun kv => decide (kv.1 = k)) = (atKey xs k).isSome := by
    rw [valV_any, (r.val k).isSome_eq, Option.isSome_map]
  unfold putK storedH
  rw [e]
  by_cases q : (atKey xs k).isSome = true
  · rw [if_pos q, if_pos q]; exact r.repl k ry
  · rw [if_neg q, if_neg q]; exact Paired.snoc r ⟨rfl, hb, ry⟩
theorem KT.keeps {H H' : Hp} {kvs : List (List Key × V)} {xs : List (List Key × Addr × Value)} (r : KT H kvs xs) (ht : ∀ b ys, H b = some (.tup ys) → H' b = some (.tup ys)) : KT H' kvs xs :=
  Paired.mapP r fun _ _ z => ⟨z.1, ht _ _ z.2.1, z.2.2⟩

section
variable {P : Program} {w : World} {H : Hp} {h : Heap} {a : Addr}
theorem rd_of {u : HO} (ok : HOk P w H h) (e : Rd H a u) : ObjOk P w H h a u := e.ok ok
theorem dk_rd {kvs : List (Key × V)} (ok : HOk P w H h) (e : Rd H a (.dK kvs)) : kvs.length ≤ sizeLine ∧ (a == sysModules) = false ∧ ∃ vs, KV kvs vs ∧ h.DictOf (mixKind P w) a vs :=
  show ObjOk P w H h a (.dK kvs) from rd_of ok e
theorem dk_of {kvs : List (Key × V)} (ok : HOk P w H h) (e : H a = some (.dK kvs)) : kvs.length ≤ sizeLine ∧ (a == sysModules) = false ∧ ∃ vs, KV kvs vs ∧ h.DictOf (mixKind P w) a vs := dk_rd ok (.inl e)
/-- a tracked tuple of ints and texts is a key -/
theorem key_of {ks : List Key} (ok : HOk P w H h) (e : H a = some (.tup (ks.map kV))) : (tupleKind (mixKind P w)).is h ks a := by
  obtain ⟨_, its, r, o, h1, h2, n, h3⟩ := (show ObjOk P w H h a (.tup (ks.map kV)) from ok a _ e)
  exact ⟨o, its.toArray, n, h1, h2, h3, by simpa using items_are r⟩
theorem dt_rd {kvs : List (List Key × V)} (ok : HOk P w H h) (e : Rd H a (.dT kvs)) : kvs.length ≤ sizeLine ∧ (a == sysModules) = false ∧
    ∃ xs, KT H kvs xs ∧ h.DictOfH (tupleKind (mixKind P w)) a xs := by
  obtain ⟨z, y, xs, r, o, es, ep, h1, h2, h3, h4, h5⟩ := (show ObjOk P w H h a (.dT kvs) from rd_of ok e)
  refine ⟨z, y, xs, r, o, es, ep, h1, h2, h3, h4, fun x hx => ?_, h5⟩
  have all : ∀ {l : List (List Key × V)} {m : List (List Key × Addr × Value)}, KT H l m → ∀ x ∈ m, (tupleKind (mixKind P w)).is h x.1 x.2.1 := by
    intro l m q
    induction q with
    | nil => intro x hx; exact nomatch hx
    | @cons p q ps qs hq t ih =>
      intro x hx
      rcases List.mem_cons.mp hx with e | hx
      · subst e
        exact key_of ok (by rw [← hq.1]; exact hq.2.1)
      · exact ih x hx
  exact all r x hx
theorem dt_of {kvs : List (List Key × V)} (ok : HOk P w H h) (e : H a = some (.dT kvs)) : kvs.length ≤ sizeLine ∧ (a == sysModules) = false ∧
    ∃ xs, KT H kvs xs ∧ h.DictOfH (tupleKind (mixKind P w)) a xs := dt_rd ok (.inl e)
end

/-- what the dict at a holds at the key y -/
def DGet (H : Hp) (a : Addr) (y : V) (r : Option V) : Prop :=
  (∃ kvs k, Rd H a (.dK kvs) ∧ y = kV k ∧ r = valV kvs k) ∨ ∃ kvs k b, Rd H a (.dT kvs) ∧ y = .ref b ∧ H b = some (.tup (k.map kV)) ∧ r = valV kvs k
/-- the heap behind a[y] = v -/
def DPut (H : Hp) (a : Addr) (y v : V) (H' : Hp) : Prop :=
  (∃ kvs k, H a = some (.dK kvs) ∧ y = kV k ∧ kvs.length < sizeLine ∧ H' = upd H a (.dK (putK kvs k v))) ∨
  ∃ kvs k b, H a = some (.dT kvs) ∧ y = .ref b ∧ H b = some (.tup (k.map kV)) ∧ kvs.length < sizeLine ∧ H' = upd H a (.dT (putK kvs k v))
theorem DGet.k {H : Hp} {a : Addr} {kvs : List (Key × V)} {k : Key} (e : H a = some (.dK kvs)) : DGet H a (kV k) (valV kvs k) := .inl ⟨kvs, k, .inl e, rfl, rfl⟩
theorem DGet.t {H : Hp} {a b : Addr} {kvs : List (List Key × V)} {k : List Key} (e : H a = some (.dT kvs)) (eb : H b = some (.tup (k.map kV))) : DGet H a (.ref b) (valV kvs k) := .inr ⟨kvs, k, b, .inl e, rfl, eb, rfl⟩
theorem DPut.k {H : Hp} {a : Addr} {kvs : List (Key × V)} {k : Key} {v : V} (e : H a = some (.dK kvs)) (hl : kvs.length < sizeLine) : DPut H a (kV k) v (upd H a (.dK (putK kvs k v))) := .inl ⟨kvs, k, e, rfl, hl, rfl⟩
theorem DPut.t {H : Hp} {a b : Addr} {kvs : List (List Key × V)} {k : List Key} {v : V} (e : H a = some (.dT kvs)) (eb : H b = some (.tup (k.map kV))) (hl : kvs.length < sizeLine) :
    DPut H a (.ref b) v (upd H a (.dT (putK kvs k v))) := .inr ⟨kvs, k, b, e, rfl, eb, hl, rfl⟩


section
variable {X : Cx} {pins : List (Addr × Obj)} {σ : St} {H : Hp} {s : Shared} {a : Addr} {y v : V} {u r : Value} {o : Option V} {A : Around} {E : Value → Shared → Prop}

theorem Inv.big (I : Inv X pins σ H s) : sysModules < s.heap.objs.size := by
  have h : mainGlobals < s.heap.objs.size := (I.mod.glob.keeps I.bk).lt
  exact Nat.lt_trans (by decide) h

/-- d[y], there -/
theorem d_getItem {Q : Value → Shared → Prop} (hu : A.units + 1 < cLine) (I : Inv X pins σ H s) (g : DGet H a y (some v)) (ry : RelV y u) (h : ∀ w' s', Inv X pins σ H s' → RelV v w' → Q w' s') :
    wpAny (model X.prog X.w) A (getItem (.ref a) u) Q E s := by
  rcases g with ⟨kvs, k, e, ey, l⟩ | ⟨kvs, k, b, e, ey, eb, l⟩
  · subst ey
    obtain ⟨z, hd, vs, rel, dd⟩ := dk_rd I.hok e
    obtain ⟨w', hw, rw'⟩ := RelO.some_of (v := v) (o := valueAt vs k) (by rw [l]; exact rel.val k)
    exact wpAny_getItem_of (kV_is ry) dd.mapOf hw (h w' _ (I.tok _) rw')
  · subst ey
    cases (show u = Value.ref b from ry)
    obtain ⟨z, hd, xs, rel, dd⟩ := dt_rd I.hok e
    obtain ⟨w', hw, rw'⟩ := RelO.some_of (v := v) (o := (atKey xs k).map (·.2)) (by rw [l]; exact rel.val k)
    obtain ⟨p, hp, hp2⟩ := Option.map_eq_some_iff.mp hw
    refine wpAny_getItem_heap (tupleKind_room_in1 hu) (key_of I.hok eb) dd hp ?_
    rw [hp2]
    exact h w' _ (I.tok _) rw'
/-- y in d -/
theorem d_in {Q : Value → Shared → Prop} (hu : A.units + 1 < cLine) (I : Inv X pins σ H s) (g : DGet H a y o) (ry : RelV y u) (h : ∀ s', Inv X pins σ H s' → Q (.bool o.isSome) s') :
    wpAny (model X.prog X.w) A (compareOp .In u (.ref a)) Q E s := by
  rcases g with ⟨kvs, k, e, ey, l⟩ | ⟨kvs, k, b, e, ey, eb, l⟩
  · subst ey
    obtain ⟨z, hd, vs, rel, dd⟩ := dk_rd I.hok e
    refine wpAny_in_of (kV_is ry) hd dd.mapOf ?_
    rw [← (rel.val k).isSome_eq, ← l]
    exact h _ (I.tok _)
  · subst ey
    cases (show u = Value.ref b from ry)
    obtain ⟨z, hd, xs, rel, dd⟩ := dt_rd I.hok e
    refine wpAny_in_heap (tupleKind_room_in1 hu) (key_of I.hok eb) hd dd ?_
    have q := (rel.val k).isSome_eq
    rw [Option.isSome_map] at q
    rw [← q, ← l]
    exact h _ (I.tok _)
theorem d_notIn {Q : Value → Shared → Prop} (hu : A.units + 1 < cLine) (I : Inv X pins σ H s) (g : DGet H a y o) (ry : RelV y u) (h : ∀ s', Inv X pins σ H s' → Q (.bool (!o.isSome)) s') :
    wpAny (model X.prog X.w) A (compareOp .NotIn u (.ref a)) Q E s := by
  rcases g with ⟨kvs, k, e, ey, l⟩ | ⟨kvs, k, b, e, ey, eb, l⟩
  · subst ey
    obtain ⟨z, hd, vs, rel, dd⟩ := dk_rd I.hok e
    refine wpAny_notIn_of (kV_is ry) hd dd.mapOf ?_
    rw [← (rel.val k).isSome_eq, ← l]
    exact h _ (I.tok _)
  · subst ey
    cases (show u = Value.ref b from ry)
    obtain ⟨z, hd, xs, rel, dd⟩ := dt_rd I.hok e
    refine wpAny_notIn_heap (tupleKind_room_in1 hu) (key_of I.hok eb) hd dd ?_
    have q := (rel.val k).isSome_eq
    rw [Option.isSome_map] at q
    rw [← q, ← l]
    exact h _ (I.tok _)
/-- a dict's object is replaced -/
theorem d_write {h' : Heap} {t' : Nat} {ob : HO} (I : Inv X pins σ H s) (mu : Mut (H a)) (hs : Heap.SameBut a s.heap h') (he : ∃ q, h'.get? a = some q) (new : ObjOk X.prog X.w (upd H a ob) h' a ob) :
    Inv X pins σ (upd H a ob) { s with heap := h', toks := t' } :=
  I.write (x := a) (e := a) mu (.inl rfl) (fun b q hb z => (hs.2 b hb).trans z) he new
theorem dk_new {P : Program} {w : World} {H' : Hp} {h' : Heap} {kvs : List (Key × V)} {vs : List (Key × Value)} (z : kvs.length ≤ sizeLine) (hd : (a == sysModules) = false) (rel : KV kvs vs) (dd : h'.DictOf (mixKind P w) a vs) :
    ObjOk P w H' h' a (.dK kvs) := ⟨z, hd, vs, rel, dd⟩
/-- d[y] = v -/
theorem d_setItem {H' : Hp} {Q : Unit → Shared → Prop} (hu : A.units + 1 < cLine) (I : Inv X pins σ H s) (g : DPut H a y v H') (ry : RelV y u) (rv : RelV v r) (h : ∀ s', Inv X pins σ H' s' → Q () s') :
    wpAny (model X.prog X.w) A (setItem (.ref a) u r) Q E s := by
  rcases g with ⟨kvs, k, e, ey, l, eH⟩ | ⟨kvs, k, b, e, ey, eb, l, eH⟩
  · subst ey eH
    obtain ⟨z, hd, vs, rel, dd⟩ := dk_of I.hok e
    have hz : vs.length ≤ sizeLine := by rw [← rel.length]; exact z
    have hl : (putK kvs k v).length ≤ sizeLine := by have := length_putK kvs k v; omega
    refine wpAny_setItem_pairs (hsz := hz) (kV_is ry) dd fun h' dd' hs => h _ ?_
    have he : ∃ q, h'.get? a = some q := let ⟨q, _, _, hq, _⟩ := dd'; ⟨q, hq⟩
    exact d_write I (by rw [e]; exact True.intro) hs he (dk_new hl hd (rel.put k rv) dd')
  · subst ey eH
    cases (show u = Value.ref b from ry)
    obtain ⟨z, hd, xs, rel, dd⟩ := dt_of I.hok e
    have hz : xs.length ≤ sizeLine := by rw [← Paired.length rel]; exact z
    have hl : (putK kvs k v).length ≤ sizeLine := by have := length_putK kvs k v; omega
    refine wpAny_setItem_heap (hsz := hz) (tupleKind_room_in1 hu) (key_of I.hok eb) dd fun h' dd' hs => h _ ?_
    obtain ⟨q, es, ep, hq, h2, h3, h4, _, h5⟩ := dd'
    refine d_write I (by rw [e]; exact True.intro) hs ⟨q, hq⟩ ⟨hl, hd, _, (rel.put k eb rv).keeps fun c ys ec => ?_, q, es, ep, hq, h2, h3, h4, h5⟩
    rw [upd_ne (ne_of ec e (fun z => nomatch z))]
    exact ec
end

section
variable {X : Cx} {pins : List (Addr × Obj)} {σ : St} {H : Hp} {s : Shared} {a : Addr} {kvs : List (Key × V)} {k : Key} {u : Value} {A : Around} {E : Value → Shared → Prop}
/-- del d[k] -/
theorem d_delItem {Q : Unit → Shared → Prop} (I : Inv X pins σ H s) (e : H a = some (.dK kvs)) (ry : RelV (kV k) u) (l : (valV kvs k).isSome = true) (h : ∀ s', Inv X pins σ (upd H a (.dK (dropK kvs k))) s' → Q () s') :
    wpAny (model X.prog X.w) A (delItem (.ref a) u) Q E s := by
  obtain ⟨z, hd, vs, rel, dd⟩ := dk_of I.hok e
  refine wpAny_delItem_slot dd.typeIs (by decide) PySem.F.slot_dict_delitem
    (call_meetsIn PySem.F.slot_dict_delitem dd.typeIs PySem.F.entry_dict_delitem (PySem.F.args_dict_delitem_2 _ _) (meets_dict_delitem_pairs (mixKind X.prog X.w) a (kV_is ry)) ⟨vs, dd, by rw [← rel.length]; exact z, by rw [← (rel.val k).isSome_eq]; exact l, fun h' dd' hs => h _ ?_⟩)
  have he : ∃ q, h'.get? a = some q := let ⟨q, _, _, hq, _⟩ := dd'; ⟨q, hq⟩
  exact d_write I (by rw [e]; exact True.intro) hs he (dk_new (Nat.le_trans (dropK_le kvs k) z) hd (rel.drop k) dd')
/-- d.pop(k[, x]), there -/
theorem d_pop {v : V} {more : List Value} {Q : Value → Shared → Prop} (I : Inv X pins σ H s) (e : H a = some (.dK kvs)) (ry : RelV (kV k) u) (l : valV kvs k = some v) (hm : more = [] ∨ ∃ x, more = [x])
    (h : ∀ w' s', Inv X pins σ (upd H a (.dK (dropK kvs k))) s' → RelV v w' → Q w' s') : wpAny (model X.prog X.w) A (call (.builtin "dict.pop") (.ref a :: u :: more)) Q E s := by
  obtain ⟨z, hd, vs, rel, dd⟩ := dk_of I.hok e
  obtain ⟨w', hw, rw'⟩ := RelO.some_of (v := v) (o := valueAt vs k) (by rw [← l]; exact rel.val k)
  have hp : (keyPart u).isSome = true := by
    cases k with
    | inl i => obtain ⟨t, q⟩ := (show ∃ t, u = Value.int i t from ry); subst q; rfl
    | inr x => obtain ⟨t, q⟩ := (show ∃ t, u = Value.str x t from ry); subst q; rfl
  have ha : argsOk "dict.pop" ⟨.ref a :: u :: more, []⟩ := by
    rcases hm with q | ⟨x, q⟩
    · subst q; exact PySem.F.args_dict_pop_2 _ _
    · subst q; exact PySem.F.args_dict_pop_3 _ _ _
  refine call_meetsIn PySem.F.slot_dict_pop dd.typeIs PySem.F.entry_dict_pop ha (meets_dict_pop_there (mixKind X.prog X.w) a (kV_is ry) more hm hp)
    ⟨vs, w', dd, by rw [← rel.length]; exact z, hw, fun h' dd' hs => h w' _ ?_ rw'⟩
  have he : ∃ q, h'.get? a = some q := let ⟨q, _, _, hq, _⟩ := dd'; ⟨q, hq⟩
  exact d_write I (by rw [e]; exact True.intro) hs he (dk_new (Nat.le_trans (dropK_le kvs k) z) hd (rel.drop k) dd')
/-- d.pop(k, x), not there -/
theorem d_popD {r : Value} {Q : Value → Shared → Prop} (I : Inv X pins σ H s) (e : H a = some (.dK kvs)) (ry : RelV (kV k) u) (l : valV kvs k = none) (h : ∀ s', Inv X pins σ H s' → Q r s') :
    wpAny (model X.prog X.w) A (call (.builtin "dict.pop") [.ref a, u, r]) Q E s := by
  obtain ⟨z, hd, vs, rel, dd⟩ := dk_of I.hok e
  have hn : valueAt vs k = none := RelO.none_of (by rw [← l]; exact rel.val k)
  have hp : (keyPart u).isSome = true := by
    cases k with
    | inl i => obtain ⟨t, q⟩ := (show ∃ t, u = Value.int i t from ry); subst q; rfl
    | inr x => obtain ⟨t, q⟩ := (show ∃ t, u = Value.str x t from ry); subst q; rfl
  exact call_meetsIn PySem.F.slot_dict_pop dd.typeIs PySem.F.entry_dict_pop (PySem.F.args_dict_pop_3 _ _ _) (meets_dict_pop_default (mixKind X.prog X.w) a (kV_is ry) hd hp r) ⟨vs, dd, hn, h _ (I.tok _)⟩
/-- d.clear() -/
theorem d_clear {Q : Value → Shared → Prop} (I : Inv X pins σ H s) (e : H a = some (.dK kvs)) (h : ∀ s', Inv X pins σ (upd H a (.dK [])) s' → Q .none s') : wpAny (model X.prog X.w) A (call (.builtin "dict.clear") [.ref a]) Q E s := by
  obtain ⟨z, hd, vs, rel, dd⟩ := dk_of I.hok e
  refine call_meetsIn PySem.F.slot_dict_clear dd.typeIs PySem.F.entry_dict_clear (PySem.F.args_dict_clear_1 _) (meets_dict_clear (mixKind X.prog X.w) a) ⟨vs, dd, by rw [← rel.length]; exact z, fun h' dd' hs => h _ ?_⟩
  have he : ∃ q, h'.get? a = some q := let ⟨q, _, _, hq, _⟩ := dd'; ⟨q, hq⟩
  exact d_write (t' := s.toks) I (by rw [e]; exact True.intro) hs he (dk_new (Nat.zero_le _) hd .nil dd')
/-- len(d) -/
theorem d_len {Q : Value → Shared → Prop} (I : Inv X pins σ H s) (e : Rd H a (.dK kvs)) (h : ∀ t s', Inv X pins σ H s' → Q (.int kvs.length t) s') : wpAny (model X.prog X.w) A (call (.builtin "len") [.ref a]) Q E s := by
  obtain ⟨z, hd, vs, rel, dd⟩ := dk_rd I.hok e
  refine call_len_dict hd dd (by rw [← rel.length]; rw [sizeLine_eq] at z; omega) ?_
  rw [← rel.length]
  exact h _ _ (I.tok _)
/-- if d -/
theorem d_truth {Q : Bool → Shared → Prop} (I : Inv X pins σ H s) (e : Rd H a (.dK kvs)) (h : ∀ s', Inv X pins σ H s' → Q (!kvs.isEmpty) s') : wpAny (model X.prog X.w) A (truthy (.ref a)) Q E s := by
  obtain ⟨z, hd, vs, rel, dd⟩ := dk_rd I.hok e
  refine wpAny_truthy_dict hd dd (by rw [← rel.length]; rw [sizeLine_eq] at z; omega) ?_
  have q : kvs.isEmpty = vs.isEmpty := by cases rel <;> rfl
  rw [← q]
  exact h _ (I.tok _)
end


/-! ### readings and rules -/
/-- the element of a subscription, not a slice -/
def NoSl (i : Expr) : Prop := ∀ ov iv, subscripted i false ov iv = operate [ov, iv] (getItem ov iv)
theorem subD_of {prog : Program} {w : World} {A : Around} {E : Value → Shared → Prop} {s : Shared} {env : Env} {value slice : Expr} {pos : Pos} {T id : String} {Q : Value → Shared → Prop}
    (hl : typeLookup (.type T) "__getitem__" = pure (some (.builtin id))) (hs : NoSl slice)
    (h : wpAny (model prog w) A (eval value env) (fun o s₁ => wpAny (model prog w) A (eval slice env) (fun i s₂ => s₂.TypeIs o T ∧ wpAny (model prog w) A (getItem o i) Q E s₂) E s₁) E s) :
    wpAny (model prog w) A (eval (.Subscript value slice pos) env) Q E s := by
  refine Subscript_ (wpAny_mono h (fun o s₁ h₁ => wpAny_mono h₁ (fun i s₂ h₂ => ?_) fun _ _ x => x) fun _ _ x => x)
  obtain ⟨hT, h₂⟩ := h₂
  unfold subscriptTail
  refine wpAny_bind ?_
  rw [getitemInPython_of_ne hT.not_modules]
  refine wpAny_bind (wpAny_specialOf hT hl ?_)
  have fin : wpAny (model prog w) A (subscripted slice false o i) (fun r s₃ => wpAny (model prog w) A (letTemporaryGo value o r >>= fun _ => pure r) Q E s₃) E s₂ := by
    rw [hs o i]
    exact wpAny_operating (wpAny_mono h₂ (fun r s₃ h₃ => wpAny_bind (wpAny_letTemporaryGo (wpAny_pure h₃))) fun _ _ x => x)
  first
    | exact wpAny_pure (wpAny_bind fin)
    | exact wpAny_bind (wpAny_pure (wpAny_bind fin))
    | exact wpAny_bind fin

theorem dict_typeIs {X : Cx} {pins : List (Addr × Obj)} {σ : St} {H : Hp} {s : Shared} {a : Addr} {y : V} {o : Option V} (I : Inv X pins σ H s) (g : DGet H a y o) : s.TypeIs (.ref a) "dict" := by
  rcases g with ⟨kvs, k, e, _, _⟩ | ⟨kvs, k, b, e, _, _, _⟩
  · obtain ⟨_, _, vs, _, dd⟩ := dk_rd I.hok e
    exact dd.typeIs
  · obtain ⟨_, _, xs, _, dd⟩ := dt_rd I.hok e
    exact dd.typeIs
theorem dict_noDict {X : Cx} {pins : List (Addr × Obj)} {σ : St} {H : Hp} {s : Shared} {a : Addr} {y : V} {o : Option V} (I : Inv X pins σ H s) (g : DGet H a y o) :
    ∀ b, Value.ref a = .ref b → ∃ ob, s.heap.get? b = some ob ∧ ob.dict = none := fun b q => by
  cases q
  rcases g with ⟨kvs, k, e, _, _⟩ | ⟨kvs, k, b, e, _, _, _⟩
  · obtain ⟨_, _, vs, _, ob, _, _, h1, h2, _⟩ := dk_rd I.hok e
    exact ⟨ob, h1, h2.2.1⟩
  · obtain ⟨_, _, xs, _, ob, _, _, h1, h2, _⟩ := dt_rd I.hok e
    exact ⟨ob, h1, h2.2.1⟩

/-- d[y] -/
def tDGet (td ty : TE) : TE := fun σ H Q => td σ H fun x H1 => ty σ H1 fun y H2 => ∃ a v, x = .ref a ∧ DGet H2 a y (some v) ∧ Q v H2
/-- y in d, y not in d -/
def tDIn (ty td : TE) : TE := fun σ H Q => ty σ H fun y H1 => td σ H1 fun x H2 => ∃ a o, x = .ref a ∧ DGet H2 a y o ∧ Q (.bl o.isSome) H2
def tDNotIn (ty td : TE) : TE := fun σ H Q => ty σ H fun y H1 => td σ H1 fun x H2 => ∃ a o, x = .ref a ∧ DGet H2 a y o ∧ Q (.bl (!o.isSome)) H2
/-- d[y] = v -/
def sDPut (td ty tv : TE) : TS := fun D σ H => tv σ H fun v H1 => td σ H1 fun x H2 => ty σ H2 fun y H3 => ∃ a H4, x = .ref a ∧ DPut H3 a y v H4 ∧ D.nx σ H4
/-- d[y] op= v -/
def sDAug (td ty tv : TE) (rd : V → V → Hp → VK → Prop) : TS := fun D σ H => td σ H fun x H1 => ty σ H1 fun y H2 => ∃ a v, x = .ref a ∧ DGet H2 a y (some v) ∧
  tv σ H2 fun y2 H3 => rd v y2 H3 fun z H4 => ∃ H5, DPut H4 a y z H5 ∧ D.nx σ H5
/-- del d[y] -/
def sDDel (td ty : TE) : TS := fun D σ H => td σ H fun x H1 => ty σ H1 fun y H2 => ∃ a kvs k, x = .ref a ∧ H2 a = some (.dK kvs) ∧ y = kV k ∧ (valV kvs k).isSome = true ∧ D.nx σ (upd H2 a (.dK (dropK kvs k)))

section
variable {X : Cx} {o i e value : Expr} {pos pos' tpos : Pos} {td ty tv : TE}
theorem pe_dget (hu : X.A.units + 1 < cLine) (ho : PE X o td) (hi : PE X i ty) (hs : NoSl i) : PE X (.Subscript o i pos) (tDGet td ty) := by
  intro pins s σ H Q I h
  refine subD_of PySem.F.slot_dict_getitem.lookup hs (thn (ho pins s σ H _ I h) fun u s1 ⟨x, H1, I1, rx, q1⟩ => thn (hi pins s1 σ H1 _ I1 q1) fun iv s2 ⟨y, H2, I2, ry, a, v, ex, g, q2⟩ => ?_)
  subst ex
  obtain rfl : u = Value.ref a := rx
  exact ⟨dict_typeIs I2 g, d_getItem hu I2 g ry fun w' s3 I3 rw' => ⟨v, H2, I3, rw', q2⟩⟩
theorem pc_din (hu : X.A.units + 1 < cLine) (hi : PE X i ty) (ho : PE X o td) : PC X .In i o (tDIn ty td) := by
  intro pins s σ H Q I h
  refine thn (hi pins s σ H _ I h) fun iv s1 ⟨y, H1, I1, ry, q1⟩ => thn (ho pins s1 σ H1 _ I1 q1) fun u s2 ⟨x, H2, I2, rx, a, ov, ex, g, q2⟩ => ?_
  subst ex
  obtain rfl : u = Value.ref a := rx
  exact d_in hu I2 g ry fun s3 I3 => ⟨.bl ov.isSome, H2, I3, rfl, q2⟩
theorem pc_dnotin (hu : X.A.units + 1 < cLine) (hi : PE X i ty) (ho : PE X o td) : PC X .NotIn i o (tDNotIn ty td) := by
  intro pins s σ H Q I h
  refine thn (hi pins s σ H _ I h) fun iv s1 ⟨y, H1, I1, ry, q1⟩ => thn (ho pins s1 σ H1 _ I1 q1) fun u s2 ⟨x, H2, I2, rx, a, ov, ex, g, q2⟩ => ?_
  subst ex
  obtain rfl : u = Value.ref a := rx
  exact d_notIn hu I2 g ry fun s3 I3 => ⟨.bl (!ov.isSome), H2, I3, rfl, q2⟩
theorem ps_dput (hu : X.A.units + 1 < cLine) (ho : PE X o td) (hi : PE X i ty) (hv : PE X value tv) (hs : swapsWith value (some (.Subscript o i pos')) pos.line X.env = pure false) :
    PS X (.Assign [.Subscript o i pos'] value pos) (sDPut td ty tv) := by
  intro pins s σ H D I h
  refine wpAny_Assign_Subscript (thn (hv pins s σ H _ I h) fun r s1 ⟨v, H1, I1, rv, q1⟩ => thn (ho pins s1 σ H1 _ I1 q1) fun u s2 ⟨x, H2, I2, rx, q2⟩ => thn (hi pins s2 σ H2 _ I2 q2) fun iv s3 ⟨y, H3, I3, ry, a, H4, ex, g, q3⟩ => ?_) hs
  subst ex
  obtain rfl : u = Value.ref a := rx
  exact d_setItem hu I3 g ry rv fun s4 I4 => ⟨σ, H4, I4, q3⟩
theorem ps_daug {op : Operator} {rd : V → V → Hp → VK → Prop} (hu : X.A.units + 1 < cLine) (ho : PE X o td) (hi : PE X i ty) (hv : PE X value tv) (hop : InOp X op rd)
    (ha : ∀ ov iv new, augStore i ov iv new = (do holding [new, ov, iv] (setItem ov iv new); release [new, ov, iv] []; pure .next)) : PS X (.AugAssign (.Subscript o i tpos) op value pos) (sDAug td ty tv rd) := by
  intro pins s σ H D I h
  refine wpAny_AugAssign_SubscriptAny (thn (ho pins s σ H _ I h) fun u s1 ⟨x, H1, I1, rx, q1⟩ => thn (hi pins s1 σ H1 _ I1 q1) fun iv s2 ⟨y, H2, I2, ry, a, v, ex, g, q2⟩ => ?_) ha
  subst ex
  obtain rfl : u = Value.ref a := rx
  refine d_getItem hu I2 g ry fun w' s3 I3 rw' => thn (hv pins s3 σ H2 _ I3 q2) fun w2 s4 ⟨y2, H3, I4, ry2, q3⟩ => thn (hop pins s4 σ H3 v y2 w' w2 _ I4 rw' ry2 q3) fun w3 s5 ⟨z, H4, I5, rz, H5, g5, q4⟩ => ?_
  exact d_setItem hu I5 g5 ry rz fun s6 I6 => ⟨σ, H5, I6, q4⟩
theorem ps_ddel (ho : PE X o td) (hi : PE X i ty) : PS X (.Delete [.Subscript o i tpos] pos) (sDDel td ty) := by
  intro pins s σ H D I h
  refine wpAny_Delete (wpAny_deleteEach_cons (wpAny_delete_Subscript (thn (ho pins s σ H _ I h) fun u s1 ⟨x, H1, I1, rx, q1⟩ => thn (hi pins s1 σ H1 _ I1 q1) fun iv s2 ⟨y, H2, I2, ry, a, kvs, k, ex, e, ey, l, q2⟩ => ?_)))
  subst ex ey
  obtain rfl : u = Value.ref a := rx
  exact d_delItem I2 e ry l fun s3 I3 => wpAny_deleteEach_nil ⟨σ, _, I3, q2⟩
end


/-! ### displays -/
theorem dk_empty {P : Program} {w : World} {H : Hp} (h : Heap) (hb : sysModules < h.objs.size) : ObjOk P w H (h.push { cls := .type "dict", data := .dict #[] }) h.objs.size (.dK []) :=
  ⟨Nat.zero_le _, beq_eq_false_iff_ne.mpr (Ne.symm (Nat.ne_of_lt hb)), [], .nil, Heap.DictOf.new h⟩
theorem dt_empty {P : Program} {w : World} {H : Hp} (h : Heap) (hb : sysModules < h.objs.size) : ObjOk P w H (h.push { cls := .type "dict", data := .dict #[] }) h.objs.size (.dT []) :=
  ⟨Nat.zero_le _, beq_eq_false_iff_ne.mpr (Ne.symm (Nat.ne_of_lt hb)), [], .nil, _, #[], 0, Heap.get?_push_size _ rfl, ⟨rfl, rfl, rfl⟩, rfl, rfl, List.nodup_nil⟩
/-- {}, to be a dict of the kind that is wanted -/
def tDNewK : TE := fun _ H Q => ∀ p, H p = none → Q (.ref p) (upd H p (.dK []))
def tDNewT : TE := fun _ H Q => ∀ p, H p = none → Q (.ref p) (upd H p (.dT []))
section
variable {X : Cx} {pos : Pos}
theorem pe_dnewK : PE X (.Dict [] [] pos) tDNewK := fun pins s σ H Q I h =>
  wpAny_Dict_empty ⟨.ref s.heap.objs.size, _, I.laid (a := s.heap.objs.size) (o := .dK []) (t' := s.toks) (fun _ _ q => Heap.get?_push_of_some _ q) (Nat.le_refl _) (dk_empty s.heap I.big), rfl, h _ (I.hok.fresh (Nat.le_refl _))⟩
theorem pe_dnewT : PE X (.Dict [] [] pos) tDNewT := fun pins s σ H Q I h =>
  wpAny_Dict_empty ⟨.ref s.heap.objs.size, _, I.laid (a := s.heap.objs.size) (o := .dT []) (t' := s.toks) (fun _ _ q => Heap.get?_push_of_some _ q) (Nat.le_refl _) (dt_empty s.heap I.big), rfl, h _ (I.hok.fresh (Nat.le_refl _))⟩
end

/-- the pairs of a display, from the left -/
def tPairs : List (TE × TE) → St → Hp → (List (V × V) → Hp → Prop) → Prop
  | [], _, H, Q => Q [] H
  | (tk, tv) :: r, σ, H, Q => tk σ H fun x H1 => tv σ H1 fun y H2 => tPairs r σ H2 fun ps H3 => Q ((x, y) :: ps) H3
abbrev VV : List (V × V) → List (Value × Value) → Prop := Paired fun p q => RelV p.1 q.1 ∧ RelV p.2 q.2
def PPs (X : Cx) (pos : Pos) (keys : List (Option Expr)) (values : List Expr) (trs : List (TE × TE)) : Prop :=
  ∀ (pins : List (Addr × Obj)) (s : Shared) (σ : St) (H : Hp) (Q : List (V × V) → Hp → Prop), Inv X pins σ H s → tPairs trs σ H Q →
    wpAny (model X.prog X.w) X.A (evalPairs (pairTrees keys values X.env pos)) (fun vs s' => ∃ ps H', Inv X pins σ H' s' ∧ VV ps vs ∧ Q ps H') X.xe s
theorem pps_nil {X : Cx} {pos : Pos} : PPs X pos [] [] [] := fun pins s σ H Q I h => pairTrees_nil_walk ⟨[], H, I, .nil, h⟩
theorem pps_cons {X : Cx} {pos : Pos} {k v : Expr} {ks : List (Option Expr)} {vs : List Expr} {tk tv : TE} {trs : List (TE × TE)} (hk : PE X k tk) (hv : PE X v tv) (hr : PPs X pos ks vs trs) :
    PPs X pos (some k :: ks) (v :: vs) ((tk, tv) :: trs) := fun pins s σ H Q I h =>
  pairTrees_cons_walk (thn (hk pins s σ H _ I h) fun u s1 ⟨x, H1, I1, rx, q1⟩ => thn (hv pins s1 σ H1 _ I1 q1) fun w2 s2 ⟨y, H2, I2, ry, q2⟩ =>
    thn (hr pins s2 σ H2 _ I2 q2) fun ws s3 ⟨ps, H3, I3, rel, q3⟩ => ⟨(x, y) :: ps, H3, I3, .cons ⟨rx, ry⟩ rel, q3⟩)

def mergeK (kvs more : List (Key × V)) : List (Key × V) := more.foldl (fun acc kv => putK acc kv.1 kv.2) kvs
theorem KV.merge : ∀ {more : List (Key × V)} {rs : List (Key × Value)} {kvs : List (Key × V)} {vs : List (Key × Value)}, KV more rs → KV kvs vs → KV (mergeK kvs more) (merged vs rs) := by
  intro more rs kvs vs r
  unfold KV at r
  induction r generalizing kvs vs with
  | nil => intro q; exact q
  | @cons p q ps qs h t ih =>
    intro r0
    have e : KV (putK kvs p.1 p.2) (stored vs q.1 q.2) := by
      have := r0.put p.1 h.2
      rw [← h.1]; exact this
    exact ih e
theorem length_mergeK : ∀ (more kvs : List (Key × V)), (mergeK kvs more).length ≤ kvs.length + more.length
  | [], kvs => by show kvs.length ≤ kvs.length + 0; omega
  | p :: r, kvs => by
    have h1 := length_mergeK r (putK kvs p.1 p.2)
    have h2 := length_putK kvs p.1 p.2
    show (mergeK (putK kvs p.1 p.2) r).length ≤ _
    rw [List.length_cons]; omega
theorem carries_of {P : Program} {w : World} : ∀ {kvs : List (Key × V)} {ws : List (Value × Value)}, VV (kvs.map fun kv => (kV kv.1, kv.2)) ws → ∃ rs, Carries (mixKind P w) ws rs ∧ KV kvs rs
  | [], _, r => by rw [List.map_nil] at r; cases r; exact ⟨[], True.intro, .nil⟩
  | p :: kvs, _, r => by
    rw [List.map_cons] at r
    cases r with
    | @cons a b as bs h t =>
      obtain ⟨rs, c, q⟩ := carries_of (P := P) (w := w) t
      obtain ⟨b1, b2⟩ := b
      exact ⟨(p.1, b2) :: rs, ⟨kV_is h.1, rfl, c⟩, .cons ⟨rfl, h.2⟩ q⟩
/-- {k: v, ..} with keys ints and texts; the new dict stands empty while the pairs are made -/
def tDisp (trs : List (TE × TE)) : TE := fun σ H Q => ∀ p, H p = none → tPairs trs σ (upd H p (.dK [])) fun ps H2 => H2 p = some (.dK []) ∧ ∃ kvs : List (Key × V), ps = kvs.map (fun kv => (kV kv.1, kv.2)) ∧ kvs.length ≤ 15 ∧ Q (.ref p) (upd H2 p (.dK (mergeK [] kvs)))
theorem pe_disp {X : Cx} {pos : Pos} {keys : List (Option Expr)} {values : List Expr} {trs : List (TE × TE)} (h : PPs X pos keys values trs) (hall : keys.all (·.isSome) = true) (hl : keys.length = values.length) (h0 : keys ≠ [])
    (h15 : keys.length ≤ 15) : PE X (.Dict keys values pos) (tDisp trs) := by
  intro pins s σ H Q I q
  have hn := I.hok.fresh (Nat.le_refl s.heap.objs.size)
  have I1 := I.laid (a := s.heap.objs.size) (o := .dK []) (h' := s.heap.push { cls := .type "dict", data := .dict #[] }) (t' := s.toks) (fun _ _ q => Heap.get?_push_of_some _ q) (Nat.le_refl _) (dk_empty s.heap I.big)
  refine wpAny_Dict_walk (knd := mixKind X.prog X.w) hall hl h0 h15 (thn (h pins _ σ _ _ I1 (q _ hn)) fun ws s2 ⟨ps, H2, I2, rel, e, kvs, ep, lk, q2⟩ => ?_)
  subst ep
  obtain ⟨rs, c, rk⟩ := carries_of (P := X.prog) (w := X.w) rel
  obtain ⟨z, hd, vs0, r0, dd⟩ := dk_of I2.hok e
  cases r0
  refine ⟨rs, c, dd, fun h' dd' hs => ⟨.ref s.heap.objs.size, _, ?_, rfl, q2⟩⟩
  have hz : (mergeK [] kvs).length ≤ sizeLine := by
    have h1 := length_mergeK kvs []
    rw [List.length_nil] at h1
    rw [sizeLine_eq]; omega
  have he : ∃ q, h'.get? s.heap.objs.size = some q := let ⟨q, _, _, hq, _⟩ := dd'; ⟨q, hq⟩
  exact d_write I2 (by rw [e]; exact True.intro) hs he (dk_new hz hd (rk.merge .nil) dd')


/-! ### methods -/
/-- a method call o.m(e) of a built-in, with one argument: what must be seen of the text -/
structure M1 (X : Cx) (o : Expr) (m : Str) (apos : Pos) (e : Expr) (cpos : Pos) : Prop where
  base : attributeBase o m X.env (eval o X.env) = eval o X.env
  few : ((backTo cpos (starEach [e] X.env)).all (fun x => !x.1) && (backToKw cpos (keywordEach [] X.env)).all (fun x => x.1.isSome)
    && decide (([e] : List Expr).length + ([] : List Keyword).length + (if ([] : List Keyword).isEmpty then 0 else 1) < 30)) = true
  line : (apos.endLine == cpos.line) = true
  trees : backTo cpos (starEach [e] X.env) = [(false, eval e X.env)]
structure M2 (X : Cx) (o : Expr) (m : Str) (apos : Pos) (e f : Expr) (cpos : Pos) : Prop where
  base : attributeBase o m X.env (eval o X.env) = eval o X.env
  few : ((backTo cpos (starEach [e, f] X.env)).all (fun x => !x.1) && (backToKw cpos (keywordEach [] X.env)).all (fun x => x.1.isSome)
    && decide (([e, f] : List Expr).length + ([] : List Keyword).length + (if ([] : List Keyword).isEmpty then 0 else 1) < 30)) = true
  line : (apos.endLine == cpos.line) = true
  trees : backTo cpos (starEach [e, f] X.env) = [(false, eval e X.env), (false, eval f X.env)]

/-- a is a dict, whatever its keys -/
def IsD (H : Hp) (a : Addr) : Prop := (∃ kvs, Rd H a (.dK kvs)) ∨ ∃ kvs, Rd H a (.dT kvs)
theorem isD_at {X : Cx} {pins : List (Addr × Obj)} {σ : St} {H : Hp} {s : Shared} {a : Addr} (I : Inv X pins σ H s) (d : IsD H a) :
    s.TypeIs (.ref a) "dict" ∧ (∀ b, Value.ref a = .ref b → ∃ ob, s.heap.get? b = some ob ∧ ob.dict = none) ∧ (a == sysModules) = false := by
  rcases d with ⟨kvs, e⟩ | ⟨kvs, e⟩
  · obtain ⟨_, hd, vs, _, dd⟩ := dk_rd I.hok e
    refine ⟨dd.typeIs, fun b q => ?_, hd⟩
    cases q
    obtain ⟨ob, _, _, h1, h2, _⟩ := dd
    exact ⟨ob, h1, h2.2.1⟩
  · obtain ⟨_, hd, xs, _, dd⟩ := dt_rd I.hok e
    refine ⟨dd.typeIs, fun b q => ?_, hd⟩
    cases q
    obtain ⟨ob, _, _, h1, h2, _⟩ := dd
    exact ⟨ob, h1, h2.2.1⟩

section
variable {X : Cx} {pins : List (Addr × Obj)} {σ : St} {H : Hp} {s : Shared} {a : Addr} {y d : V} {u r : Value} {o : Option V} {A : Around} {E : Value → Shared → Prop}
/-- d.get(y) -/
theorem d_get1 {Q : Value → Shared → Prop} (hu : A.units + 1 < cLine) (I : Inv X pins σ H s) (g : DGet H a y o) (ry : RelV y u) (h : ∀ w' s', Inv X pins σ H s' → RelV (o.getD .non) w' → Q w' s') :
    wpAny (model X.prog X.w) A (call (.builtin "dict.get") [.ref a, u]) Q E s := by
  rcases g with ⟨kvs, k, e, ey, l⟩ | ⟨kvs, k, b, e, ey, eb, l⟩
  · subst ey
    obtain ⟨z, hd, vs, rel, dd⟩ := dk_rd I.hok e
    refine call_meetsIn PySem.F.slot_dict_get dd.typeIs PySem.F.entry_dict_get (PySem.F.args_dict_get_2 _ _) (meets_dict_get (mixKind X.prog X.w) a (kV_is ry) hd) ⟨_, dd.mapOf, h _ _ (I.tok _) ?_⟩
    rw [l]
    exact (rel.val k).getD rfl
  · subst ey
    cases (show u = Value.ref b from ry)
    obtain ⟨z, hd, xs, rel, dd⟩ := dt_rd I.hok e
    refine call_meetsIn PySem.F.slot_dict_get dd.typeIs PySem.F.entry_dict_get (PySem.F.args_dict_get_2 _ _) (meetsH_dict_get (tupleKind (mixKind X.prog X.w)) a b hd) ⟨tupleKind_room_in1 hu, k, xs, key_of I.hok eb, dd, h _ _ (I.tok _) ?_⟩
    rw [l]
    exact (rel.val k).getD rfl
/-- d.get(y, x) -/
theorem d_get2 {Q : Value → Shared → Prop} (hu : A.units + 1 < cLine) (I : Inv X pins σ H s) (g : DGet H a y o) (ry : RelV y u) (rd : RelV d r) (h : ∀ w' s', Inv X pins σ H s' → RelV (o.getD d) w' → Q w' s') :
    wpAny (model X.prog X.w) A (call (.builtin "dict.get") [.ref a, u, r]) Q E s := by
  rcases g with ⟨kvs, k, e, ey, l⟩ | ⟨kvs, k, b, e, ey, eb, l⟩
  · subst ey
    obtain ⟨z, hd, vs, rel, dd⟩ := dk_rd I.hok e
    refine call_meetsIn PySem.F.slot_dict_get dd.typeIs PySem.F.entry_dict_get (PySem.F.args_dict_get_3 _ _ _) (meets_dict_get_default (mixKind X.prog X.w) a (kV_is ry) hd r) ⟨_, dd.mapOf, h _ _ (I.tok _) ?_⟩
    rw [l]
    exact (rel.val k).getD rd
  · subst ey
    cases (show u = Value.ref b from ry)
    obtain ⟨z, hd, xs, rel, dd⟩ := dt_rd I.hok e
    refine call_meetsIn PySem.F.slot_dict_get dd.typeIs PySem.F.entry_dict_get (PySem.F.args_dict_get_3 _ _ _) (meetsH_dict_get_default (tupleKind (mixKind X.prog X.w)) a b hd r) ⟨tupleKind_room_in1 hu, k, xs, key_of I.hok eb, dd, h _ _ (I.tok _) ?_⟩
    rw [l]
    exact (rel.val k).getD rd
end

def tDGet1 (td ty : TE) : TE := fun σ H Q => td σ H fun x H1 => ∃ a, x = .ref a ∧ IsD H1 a ∧ ty σ H1 fun y H2 => ∃ o, DGet H2 a y o ∧ Q (o.getD .non) H2
def tDGet2 (td ty tx : TE) : TE := fun σ H Q => td σ H fun x H1 => ∃ a, x = .ref a ∧ IsD H1 a ∧ ty σ H1 fun y H2 => tx σ H2 fun z H3 => ∃ o, DGet H3 a y o ∧ Q (o.getD z) H3
/-- d.pop(k): there; d.pop(k, x): there or not -/
def tDPop1 (td ty : TE) : TE := fun σ H Q => td σ H fun x H1 => ∃ a, x = .ref a ∧ IsD H1 a ∧ ty σ H1 fun y H2 => ∃ kvs k v, H2 a = some (.dK kvs) ∧ y = kV k ∧ valV kvs k = some v ∧ Q v (upd H2 a (.dK (dropK kvs k)))
def tDPop2 (td ty tx : TE) : TE := fun σ H Q => td σ H fun x H1 => ∃ a, x = .ref a ∧ IsD H1 a ∧ ty σ H1 fun y H2 => tx σ H2 fun z H3 => ∃ kvs k, H3 a = some (.dK kvs) ∧ y = kV k ∧
  (∀ v, valV kvs k = some v → Q v (upd H3 a (.dK (dropK kvs k)))) ∧ (valV kvs k = none → Q z H3)
section
variable {X : Cx} {o e f : Expr} {apos cpos : Pos} {td ty tx : TE}
theorem pe_dget1 (hu : X.A.units + 1 < cLine) (ho : PE X o td) (he : PE X e ty) (m : M1 X o "get" apos e cpos) : PE X (.Call (.Attribute o "get" apos) [e] [] cpos) (tDGet1 td ty) := by
  intro pins s σ H Q I h
  refine wpAny_Call_method m.base m.few m.line PySem.F.plainAttrs_dict PySem.F.slot_dict_get PySem.F.type_dict_get (thn (ho pins s σ H _ I h) fun u s1 ⟨x, H1, I1, rx, a, ex, d, q1⟩ => ?_)
  subst ex
  obtain rfl : u = Value.ref a := rx
  obtain ⟨t1, t2, _⟩ := isD_at I1 d
  refine ⟨t1, t2, ?_⟩
  rw [m.trees]
  refine Calls.callWith_builtin rfl (Calls.evalArgs_plain (Calls.spliced_cons (thn (he pins s1 σ H1 _ I1 q1) fun iv s2 ⟨y, H2, I2, ry, ov, g, q2⟩ => Calls.spliced_nil ?_)))
  exact d_get1 hu I2 g ry fun w' s3 I3 rw' => ⟨_, H2, I3, rw', q2⟩
theorem pe_dget2 (hu : X.A.units + 1 < cLine) (ho : PE X o td) (he : PE X e ty) (hf : PE X f tx) (m : M2 X o "get" apos e f cpos) : PE X (.Call (.Attribute o "get" apos) [e, f] [] cpos) (tDGet2 td ty tx) := by
  intro pins s σ H Q I h
  refine wpAny_Call_method m.base m.few m.line PySem.F.plainAttrs_dict PySem.F.slot_dict_get PySem.F.type_dict_get (thn (ho pins s σ H _ I h) fun u s1 ⟨x, H1, I1, rx, a, ex, d, q1⟩ => ?_)
  subst ex
  obtain rfl : u = Value.ref a := rx
  obtain ⟨t1, t2, _⟩ := isD_at I1 d
  refine ⟨t1, t2, ?_⟩
  rw [m.trees]
  refine Calls.callWith_builtin rfl (Calls.evalArgs_plain (Calls.spliced_cons (thn (he pins s1 σ H1 _ I1 q1) fun iv s2 ⟨y, H2, I2, ry, q2⟩ =>
    Calls.spliced_cons (thn (hf pins s2 σ H2 _ I2 q2) fun fv s3 ⟨z, H3, I3, rz, ov, g, q3⟩ => Calls.spliced_nil ?_))))
  exact d_get2 hu I3 g ry rz fun w' s4 I4 rw' => ⟨_, H3, I4, rw', q3⟩
theorem pe_dpop1 (ho : PE X o td) (he : PE X e ty) (m : M1 X o "pop" apos e cpos) : PE X (.Call (.Attribute o "pop" apos) [e] [] cpos) (tDPop1 td ty) := by
  intro pins s σ H Q I h
  refine wpAny_Call_method m.base m.few m.line PySem.F.plainAttrs_dict PySem.F.slot_dict_pop PySem.F.type_dict_pop (thn (ho pins s σ H _ I h) fun u s1 ⟨x, H1, I1, rx, a, ex, d, q1⟩ => ?_)
  subst ex
  obtain rfl : u = Value.ref a := rx
  obtain ⟨t1, t2, _⟩ := isD_at I1 d
  refine ⟨t1, t2, ?_⟩
  rw [m.trees]
  refine Calls.callWith_builtin rfl (Calls.evalArgs_plain (Calls.spliced_cons (thn (he pins s1 σ H1 _ I1 q1) fun iv s2 ⟨y, H2, I2, ry, kvs, k, v, ea, ey, l, q2⟩ => Calls.spliced_nil ?_)))
  subst ey
  exact d_pop I2 ea ry l (.inl rfl) fun w' s3 I3 rw' => ⟨v, _, I3, rw', q2⟩
theorem pe_dpop2 (ho : PE X o td) (he : PE X e ty) (hf : PE X f tx) (m : M2 X o "pop" apos e f cpos) : PE X (.Call (.Attribute o "pop" apos) [e, f] [] cpos) (tDPop2 td ty tx) := by
  intro pins s σ H Q I h
  refine wpAny_Call_method m.base m.few m.line PySem.F.plainAttrs_dict PySem.F.slot_dict_pop PySem.F.type_dict_pop (thn (ho pins s σ H _ I h) fun u s1 ⟨x, H1, I1, rx, a, ex, d, q1⟩ => ?_)
  subst ex
  obtain rfl : u = Value.ref a := rx
  obtain ⟨t1, t2, _⟩ := isD_at I1 d
  refine ⟨t1, t2, ?_⟩
  rw [m.trees]
  refine Calls.callWith_builtin rfl (Calls.evalArgs_plain (Calls.spliced_cons (thn (he pins s1 σ H1 _ I1 q1) fun iv s2 ⟨y, H2, I2, ry, q2⟩ =>
    Calls.spliced_cons (thn (hf pins s2 σ H2 _ I2 q2) fun fv s3 ⟨z, H3, I3, rz, kvs, k, ea, ey, q3, q4⟩ => Calls.spliced_nil ?_))))
  subst ey
  cases l : valV kvs k with
  | some v => exact d_pop I3 ea ry l (.inr ⟨fv, rfl⟩) fun w' s4 I4 rw' => ⟨v, _, I4, rw', q3 v l⟩
  | none => exact d_popD I3 ea ry l fun s4 I4 => ⟨z, H3, I4, rz, q4 l⟩
end

/-! ### dict(d): a copy -/
section
variable {X : Cx} {pins : List (Addr × Obj)} {σ : St} {H : Hp} {s : Shared} {a : Addr} {kvs : List (Key × V)} {A : Around} {E : Value → Shared → Prop}
theorem d_copyOf {Q : Value → Shared → Prop} (I : Inv X pins σ H s) (e : Rd H a (.dK kvs)) (h : ∀ p s', H p = none → Inv X pins σ (upd H p (.dK kvs)) s' → Q (.ref p) s') : wpAny (model X.prog X.w) A (call (.type "dict") [.ref a]) Q E s := by
  obtain ⟨z, hd, vs, rel, dd⟩ := dk_rd I.hok e
  refine kt_call_dict hd dd (by rw [← rel.length]; exact z) fun h' dd' hs => ?_
  refine h _ _ (I.hok.fresh (Nat.le_refl _)) (I.laid (a := s.heap.objs.size) (o := .dK kvs) (t' := s.toks) (fun b q hq => ?_) (Nat.le_refl _) (dk_new z (beq_eq_false_iff_ne.mpr (Ne.symm (Nat.ne_of_lt I.big))) rel dd'))
  exact (hs.2 b (Nat.ne_of_lt (Heap.lt_size hq))).trans (Heap.get?_push_of_some _ hq)
end


section
variable {X : Cx} {pins : List (Addr × Obj)} {σ : St} {H : Hp} {s : Shared} {a : Addr} {y : V} {u : Value} {A : Around} {E : Value → Shared → Prop}
/-- d[y], not there: a KeyError -/
theorem d_missing {Q : Value → Shared → Prop} (hu : A.units + 1 < cLine) (hh : A.handled = none) (I : Inv X pins σ H s) (g : DGet H a y none) (ry : RelV y u)
    (h : ∀ h' e t', Heap.NewExc s.heap h' e "KeyError" → E (.ref e) { s with heap := h', toks := t' }) : wpAny (model X.prog X.w) A (getItem (.ref a) u) Q E s := by
  rcases g with ⟨kvs, k, e, ey, l⟩ | ⟨kvs, k, b, e, ey, eb, l⟩
  · subst ey
    obtain ⟨z, hd, vs, rel, dd⟩ := dk_rd I.hok e
    have hn : valueAt vs k = none := RelO.none_of (by rw [l]; exact rel.val k)
    exact wpAny_getItem_missing_of (kV_is ry) hd hh dd.mapOf hn fun h' ex ne => h h' ex _ ne
  · subst ey
    cases (show u = Value.ref b from ry)
    obtain ⟨z, hd, xs, rel, dd⟩ := dt_rd I.hok e
    have hn : (atKey xs k).map (·.2) = none := RelO.none_of (by rw [l]; exact rel.val k)
    exact wpAny_getItem_missing_heap (tupleKind_room_in1 hu) (key_of I.hok eb) hd hh dd (Option.map_eq_none_iff.mp hn) fun h' ex ne => h h' ex _ ne
end
end L2


namespace Att
open PySem PySem.W PySem.Calls PyProof.Rows

/-! ### the script -/
theorem ints_of_wellAll {P : Params} {h : Heap} : ∀ (ns : List Int) (vs : List Value), WellAll P h vs (ns.map WData.int) → IntsAre vs ns := by
  intro ns
  induction ns with
  | nil =>
    intro vs w
    rw [List.map_nil] at w
    cases w
    exact .nil
  | cons n ns ih =>
    intro vs w
    rw [List.map_cons] at w
    cases w with
    | cons a b =>
      cases a
      exact .cons _ _ (ih _ b)

theorem script_of {l : OpenLaw} {n : Nat} (hn : l.most = some n) {P : Params} {h : Heap} {args : List WData} {vals : List Value}
    (hpre : l.row.toRowW.claim.pre args = true) (hwl : WellAll P h vals args) :
    ∃ a vs ns, vals = [Value.ref a] ∧ args = [WData.list (ns.map WData.int)] ∧ h.get? a = some { cls := .type "list", data := .seq vs.toArray } ∧ IntsAre vs ns ∧ ns.length ≤ n := by
  have hsh : WShape.hasAll [] args [.list .int] = true := (pre_splitW hpre).1
  have hc : l.pre.holds [] { args := args } = true := (pre_splitW hpre).2
  obtain ⟨d, r, rfl, h1, h2⟩ := hasAllW_cons hsh
  obtain rfl := hasAllW_nil h2
  obtain ⟨xs, rfl, h3⟩ := hasW_list h1
  obtain ⟨ns, rfl⟩ := items_int h3
  have hlen : ns.length ≤ n := by
    unfold OpenLaw.pre at hc
    have h4 : (WTm.not (.lt (.lit (.int (n : Int))) (.len (.arg 0)))).holds [] { args := [.list (ns.map .int)] } = true := by
      have h4 := (holds_andW hc).1
      rw [hn] at h4
      exact h4
    have h5 := condW_of h4 (w_not (w_lt w_lit (w_len_list (w_arg rfl))))
    rw [List.length_map] at h5
    refine Nat.le_of_not_lt fun q => ?_
    have q' : (n : Int) < ((ns.length : Nat) : Int) := by omega
    first
      | (rw [decide_eq_true q'] at h5; exact absurd h5 (by decide))
      | (simp at h5; omega)
  cases hwl with
  | cons w1 w2 =>
    cases w2
    cases w1 with
    | list ho hall => exact ⟨_, _, ns, rfl, rfl, ho, ints_of_wellAll ns _ hall, hlen⟩

theorem post_true (l : OpenLaw) (args : List WData) : l.row.toRowW.claim.post args (.bool true) args = true :=
  postW_of (r := l.row.toRowW) (X := (true == true))
    (show WShape.has [] (.bool true) .bool = true by first | rfl | decide | simp [WShape.has, WShape.arms, WShape.armsAll])
    (show (WTm.eq .res (.lit (.bool true))).value [] { args := args, res := some (.bool true), after := args } = some (.bool (true == true)) from w_eq_bool (w_res rfl) w_lit) rfl

/-! ### the attachment: holds_open's last premise (the goal 'hc' behind k_head) from a wpAny of the law's body -/
theorem attach {l : OpenLaw} {n : Nat} {q : Program} {loose : List Str} {XP : (Str → Option Value) → Heap → Prop} {YP : World → Heap → Prop} {d : DefRec} {x : Str}
    (hn : l.most = some n) (hdf : d.params.defaults = [])
    (hbind : ∀ pm cd doc v : Value, bindArgs (docDef d.name d.params d.body d.scope pm cd doc) ⟨[v], []⟩ = pure [(x, v)])
    (hx : d.scope.names.lookup x = some .local ∨ d.scope.names.lookup x = some .cell)
    (hk : d.scope.kind = .function) (hco : d.scope.isCoroutine = false) (hgen : d.scope.isGenerator = false)
    (body : ∀ (w : World) (s₀ s₁ s : Shared) (mg mb : Str → Option Value) (fa : Addr) (o : Obj) (pm cd doc : Value) (a : Addr) (vs : List Value) (ns : List Int),
      Ground q loose [] XP w s₀ mg mb s₁.heap → YP w s₁.heap →
      s₁.heap.get? fa = some o → o.data = .func (docDef d.name d.params d.body d.scope pm cd doc) → s₁.heap.CodeRec cd d.name → mg d.name = some (.ref fa) →
      s₁.heap.get? a = some { cls := .type "list", data := .seq vs.toArray } → IntsAre vs ns → ns.length ≤ n →
      s.gens = #[] → s.os = s₁.os →
      Fr s₁.heap s₁.heap.objs.size s.heap (bindL (envOfC d.name d.scope s₁.heap.objs.size fa cd).kindOf [(x, .ref a)] fun _ => none) →
      Cl s₁.heap.objs.size (cellsFrom (s₁.heap.objs.size + 1) d.scope.names []) s.heap (bindC (envOfC d.name d.scope s₁.heap.objs.size fa cd).kindOf [(x, .ref a)] fun _ => none) →
      wpAny (model l.prog w) (callerA.deeper (envOfC d.name d.scope s₁.heap.objs.size fa cd)) (execs d.body (envOfC d.name d.scope s₁.heap.objs.size fa cd))
        (fun f s' => f = .ret (.bool true) ∧ OldK s₁.heap s'.heap ∧ s'.os = s₁.os ∧ AllBare s'.gens) (fun _ _ => False) s) :
    WalkO q loose XP YP l.row.toRowW d [] (fun f vs => PySem.call f vs) := by
  intro w s₀ s₁ mg mb G Y fa o pm cd doc dV kV ho hd hcd hD hmg hg args vals as hpre hlay hrd hwl hlo
  obtain rfl : dV = .none := Dflts.none hD hdf
  obtain rfl : kV = .none := Dflts.noKw hD
  obtain ⟨a, vs, ns, rfl, rfl, hobj, hints, hlen⟩ := script_of hn hpre hwl
  refine enter_call ?_
  refine call_cells_ret (o := o) (by rw [depth_caller]; decide) ho (fd_plain hd) G.T.nolimit hcd (hbind pm cd doc (.ref a)) (fun y hy => ?_) (fun h₁ tk F X => ?_) hco hgen hk
  · obtain rfl : y = (x, Value.ref a) := List.mem_singleton.mp hy
    rcases hx with e | e
    · exact .inl e
    · exact .inr ⟨e, cellsFrom_some _ _ _ (.inl e)⟩
  · refine wpAny_mono (body w s₀ s₁ { s₁ with heap := h₁, toks := tk } mg mb fa o pm cd doc a vs ns G Y ho (fd_plain hd) hcd hmg hobj hints hlen hg rfl F X) (fun f s' hq => ?_) (fun _ _ hq => hq)
    obtain ⟨rfl, h2, h3, h4⟩ := hq
    exact ⟨.inl ⟨.bool true, .bool true, [], rfl, fun _ => rfl, .bool true, post_true l _, fun _ => ⟨List.Pairwise.nil, fun _ hm => (nomatch hm)⟩⟩, h2, h3, h4⟩

/-- the same from a codeAny of the CALL (for a layer whose function contracts speak of calls) -/
theorem attach_call {l : OpenLaw} {n : Nat} {q : Program} {loose : List Str} {XP : (Str → Option Value) → Heap → Prop} {YP : World → Heap → Prop} {d : DefRec}
    (hn : l.most = some n) (hdf : d.params.defaults = [])
    (call : ∀ (w : World) (s₀ s₁ : Shared) (mg mb : Str → Option Value) (fa : Addr) (o : Obj) (pm cd doc : Value) (a : Addr) (vs : List Value) (ns : List Int),
      Ground q loose [] XP w s₀ mg mb s₁.heap → YP w s₁.heap →
      s₁.heap.get? fa = some o → o.data = .func (docDef d.name d.params d.body d.scope pm cd doc) → s₁.heap.CodeRec cd d.name → mg d.name = some (.ref fa) →
      s₁.heap.get? a = some { cls := .type "list", data := .seq vs.toArray } → IntsAre vs ns → ns.length ≤ n → s₁.gens = #[] →
      codeAny (model l.prog w) callerA (.call (.ref fa) ⟨[.ref a], []⟩) (fun r s' => r = .ok (.ret (.bool true)) ∧ OldK s₁.heap s'.heap ∧ s'.os = s₁.os ∧ AllBare s'.gens) s₁) :
    WalkO q loose XP YP l.row.toRowW d [] (fun f vs => PySem.call f vs) := by
  intro w s₀ s₁ mg mb G Y fa o pm cd doc dV kV ho hd hcd hD hmg hg args vals as hpre hlay hrd hwl hlo
  obtain rfl : dV = .none := Dflts.none hD hdf
  obtain rfl : kV = .none := Dflts.noKw hD
  obtain ⟨a, vs, ns, rfl, rfl, hobj, hints, hlen⟩ := script_of hn hpre hwl
  refine enter_call (codeAny_mono (call w s₀ s₁ mg mb fa o pm cd doc a vs ns G Y ho (fd_plain hd) hcd hmg hobj hints hlen hg) fun r s' hq => ?_)
  obtain ⟨rfl, h2, h3, h4⟩ := hq
  exact ⟨.inl ⟨.bool true, .bool true, [], rfl, fun _ => rfl, .bool true, post_true l _, fun _ => ⟨List.Pairwise.nil, fun _ hm => (nomatch hm)⟩⟩, h2, h3, h4⟩

/-- the same where the top left finished generators (o_head chose holds_openN): nothing may have changed at all and no generator may be left -/
theorem attachN {l : OpenLaw} {n : Nat} {q : Program} {loose : List Str} {XP : (Str → Option Value) → Heap → Prop} {YP : World → Heap → Prop} {d : DefRec} {x : Str}
    (hn : l.most = some n) (hdf : d.params.defaults = [])
    (hbind : ∀ pm cd doc v : Value, bindArgs (docDef d.name d.params d.body d.scope pm cd doc) ⟨[v], []⟩ = pure [(x, v)])
    (hx : d.scope.names.lookup x = some .local ∨ d.scope.names.lookup x = some .cell)
    (hk : d.scope.kind = .function) (hco : d.scope.isCoroutine = false) (hgen : d.scope.isGenerator = false)
    (body : ∀ (w : World) (s₀ s₁ s : Shared) (mg mb : Str → Option Value) (fa : Addr) (o : Obj) (pm cd doc : Value) (a : Addr) (vs : List Value) (ns : List Int),
      Ground q loose [] XP w s₀ mg mb s₁.heap → YP w s₁.heap →
      s₁.heap.get? fa = some o → o.data = .func (docDef d.name d.params d.body d.scope pm cd doc) → s₁.heap.CodeRec cd d.name → mg d.name = some (.ref fa) →
      s₁.heap.get? a = some { cls := .type "list", data := .seq vs.toArray } → IntsAre vs ns → ns.length ≤ n →
      s.gens = #[] → s.os = s₁.os →
      Fr s₁.heap s₁.heap.objs.size s.heap (bindL (envOfC d.name d.scope s₁.heap.objs.size fa cd).kindOf [(x, .ref a)] fun _ => none) →
      Cl s₁.heap.objs.size (cellsFrom (s₁.heap.objs.size + 1) d.scope.names []) s.heap (bindC (envOfC d.name d.scope s₁.heap.objs.size fa cd).kindOf [(x, .ref a)] fun _ => none) →
      wpAny (model l.prog w) (callerA.deeper (envOfC d.name d.scope s₁.heap.objs.size fa cd)) (execs d.body (envOfC d.name d.scope s₁.heap.objs.size fa cd))
        (fun f s' => f = .ret (.bool true) ∧ (∀ b o, s₁.heap.get? b = some o → s'.heap.get? b = some o) ∧ s'.os = s₁.os ∧ s'.gens = #[]) (fun _ _ => False) s) :
    WalkN q loose XP YP l.row.toRowW d [] (fun f vs => PySem.call f vs) := by
  intro w s₀ s₁ mg mb G Y fa o pm cd doc dV kV ho hd hcd hD hmg hg args vals as hpre hlay hrd hwl hlo
  obtain rfl : dV = .none := Dflts.none hD hdf
  obtain rfl : kV = .none := Dflts.noKw hD
  obtain ⟨a, vs, ns, rfl, rfl, hobj, hints, hlen⟩ := script_of hn hpre hwl
  refine enter_callW ?_
  refine call_cells_ret (o := o) (by rw [depth_caller]; decide) ho (fd_plain hd) G.T.nolimit hcd (hbind pm cd doc (.ref a)) (fun y hy => ?_) (fun h₁ tk F X => ?_) hco hgen hk
  · obtain rfl : y = (x, Value.ref a) := List.mem_singleton.mp hy
    rcases hx with e | e
    · exact .inl e
    · exact .inr ⟨e, cellsFrom_some _ _ _ (.inl e)⟩
  · refine wpAny_mono (body w s₀ s₁ { s₁ with heap := h₁, toks := tk } mg mb fa o pm cd doc a vs ns G Y ho (fd_plain hd) hcd hmg hobj hints hlen hg rfl F X) (fun f s' hq => ?_) (fun _ _ hq => hq)
    obtain ⟨rfl, h2, h3, h4⟩ := hq
    exact ⟨.inl ⟨.bool true, .bool true, [], rfl, fun _ => rfl, .bool true, post_true l _, fun _ => ⟨List.Pairwise.nil, fun _ hm => (nomatch hm)⟩⟩, h2, h3, h4⟩

/-! ### rules over ANY heap (no ledger) from facts about the written part K: the library's own take a ledger (News) for what they write -/
section
variable {prog : Program} {w : World} {A : Around} {E : Value → Shared → Prop} {s : Shared} {K : Frag}

/-- a def of the module, or a method (qual 'C.m'), entered: the frame is the next address; cells behind it -/
theorem call_fn {R : Result → Shared → Prop} {name qual : Str} {params : Arguments} {body : List Stmt} {scope : Scope} {dV kV doc pm cdv ct oc : Value} {an od : Option Addr} {osl : Array (Option Value)} {f : Addr} {args : Args} {binds : List (Str × Value)}
    (X : K.In s.heap) (hlim : s.heap.NoLimit) (ho : K.lookup f = some ⟨oc, od, .func (fnOf name qual params body scope dV kV doc pm an cdv ct), osl⟩) (hcd : codeIn K cdv qual = true) (hroom : A.depth < recursionLimit)
    (hbind : BindsTo s (fnOf name qual params body scope dV kV doc pm an cdv ct) args binds)
    (hkind : (binds.all fun y => scope.names.lookup y.1 == some .local || scope.names.lookup y.1 == some .cell) = true)
    (h : ∀ s₁, InCallC s s.heap.objs.size (bindL (envOfC qual scope s.heap.objs.size f cdv).kindOf binds fun _ => none) (cellsFrom (s.heap.objs.size + 1) scope.names [])
        (bindC (envOfC qual scope s.heap.objs.size f cdv).kindOf binds fun _ => none) s₁ →
      wpAny (model prog w) (A.deeper (envOfC qual scope s.heap.objs.size f cdv)) (execs body (envOfC qual scope s.heap.objs.size f cdv))
        (fun fl s' => R (.ok (.ret (match fl with | .ret v => v | _ => .none))) s')
        (fun e s' => wpAny (model prog w) (A.deeper (envOfC qual scope s.heap.objs.size f cdv)) (leaving (envOfC qual scope s.heap.objs.size f cdv) e) (fun _ s'' => R (.error e) s'') (fun e' s'' => R (.error e') s'') s') s₁)
    (hco : scope.isCoroutine = false) (hgen : scope.isGenerator = false) (hk : scope.kind = .function) : codeAny (model prog w) A (.call (.ref f) args) R s := by
  refine codeAny_call_function hroom (X _ _ ho) rfl hco hgen rfl (codeRec_of X hcd) (hbind _ _ _ _ ?_)
  refine wpAny_newFunctionEnv_cells hk (kindsX hkind _) fun env he s₁ x => ?_
  subst he
  exact ⟨hlim.keeps x.toInCall.keep, codeAny_func (h s₁ x)⟩

/-- C(..): dict at size, instance at size + 1, then __init__ -/
theorem make_obj {R : Result → Shared → Prop} {C fI : Addr} {rest : List Value} {kw : List (Str × Value)}
    (X : K.In s.heap) (hm : makesIn K C = true) (hi : findIn K (.ref C) "__init__" = some (some (.ref fI))) (hf : isFn K (.ref fI) = true)
    (h : codeAny (model prog w) (A.under (.builtin "type.__call__" ⟨.ref C :: rest, kw⟩)) (.call (.ref fI) ⟨.ref (s.heap.objs.size + 1) :: rest, kw⟩) (InitBack (s.heap.objs.size + 1) R)
      { s with heap := (s.heap.push emptyDict).push (instObj C s.heap.objs.size) }) : codeAny (model prog w) A (.call (.ref C) ⟨rest, kw⟩) R s := by
  obtain ⟨hh, g, d, t, os⟩ := s
  exact make_core (makes_of X hm) (looks_findIn X hi) (fun self => bind_fn X self (beq_iff_eq.mp hf)) (.inl rfl) h

/-- x.name where the instance's dict holds the name and the class does not -/
theorem get_field {x C : Addr} {ox : Obj} {es : List DictEntry} {n : Nat} {name : Str} {expr : Bool} {v : Value} {Q : Value → Shared → Prop}
    (X : K.In s.heap) (I : PySem.W.InstAt s.heap x ox C (some (dictOf es n))) (hg : plainGet K C name = true) (hh : hasDictIn K C = true) (ha : findIn K (.ref C) name = some none)
    (hl : getL name es = some (some v)) (hv : handedIn v = true) (h : Q v { s with toks := s.toks + 1 }) : wpAny (model prog w) A (getAttr (.ref x) name expr) Q E s :=
  get_value X I (plainGet_of hg).1 (findObj_own hh ha rfl hl) hv h

/-- x.m(..): the method found in the class -/
theorem get_method {x C f : Addr} {ox : Obj} {es : List DictEntry} {n : Nat} {name : Str} {pl : Sem Bool} {Q : Value × List Value → Shared → Prop}
    (X : K.In s.heap) (I : PySem.W.InstAt s.heap x ox C (some (dictOf es n))) (hg : plainGet K C name = true) (hf : findIn K (.ref C) name = some (some (.ref f))) (ht : isFn K (.ref f) = true)
    (hl : getL name es = some none) (h : Q (.ref f, [.ref x]) s) : wpAny (model prog w) A (getMethod (.ref x) name pl) Q E s :=
  method_fn X I (plainGet_of hg).1 (plainGet_of hg).2 hf (beq_iff_eq.mp ht) (by show (lookIn name (dictOf es n)).map _ = _; rw [lookIn_dict, hl]; rfl) h

/-! the whole heap as the ledger: makes every rule that writes through a ledger a rule over any heap -/
def noObjs (h : Heap) : Heap := { h with objs := #[] }
theorem noObjs_get (h : Heap) (b : Addr) : (noObjs h).get? b = none := by
  cases e : (noObjs h).get? b with
  | none => rfl
  | some o => exact absurd (Heap.lt_size e) (Nat.not_lt_zero _)
def ledger (h : Heap) (L d : Addr) : List (Addr × Obj) := (List.range h.objs.size).filterMap fun a => if a = L ∨ a = d then none else (h.get? a).map fun o => (a, o)
theorem mem_ledger {h : Heap} {L d a : Addr} {o : Obj} : (a, o) ∈ ledger h L d ↔ a ≠ L ∧ a ≠ d ∧ h.get? a = some o := by
  unfold ledger
  rw [List.mem_filterMap]
  constructor
  · rintro ⟨b, _, e⟩
    split at e
    · cases e
    · rename_i hb
      obtain ⟨o', ho, e'⟩ := Option.map_eq_some_iff.mp e
      cases e'
      exact ⟨fun q => hb (.inl q), fun q => hb (.inr q), ho⟩
  · rintro ⟨n1, n2, ho⟩
    refine ⟨a, List.mem_range.mpr (Heap.lt_size ho), ?_⟩
    rw [if_neg (show ¬ (a = L ∨ a = d) from fun q => q.elim n1 n2), ho] <;> rfl
theorem news_ledger {h : Heap} {L d : Addr} {od : Obj} (hne : d ≠ L) (ho : h.get? d = some od) : News (noObjs h) L h ([] ++ (d, od) :: ledger h L d) := by
  rintro ⟨a, o⟩ hp
  rcases List.mem_cons.mp hp with e | hp
  · cases e
    exact ⟨ho, hne, noObjs_get _ _⟩
  · obtain ⟨n1, n2, e⟩ := mem_ledger.mp hp
    exact ⟨e, n1, noObjs_get _ _⟩
theorem fr_all {h : Heap} {L : Addr} {m : Str → Option Value} (n : h.Ns L m) : Fr (noObjs h) L h m :=
  ⟨n, fun b o e => (by rw [noObjs_get] at e; cases e), Nat.zero_le _⟩
/-- Upd of the head entry (for append_K, setItem_K ..) -/
theorem upd_ledger {h : Heap} {L d : Addr} {o o' : Obj} : Upd d o o' ((d, o) :: ledger h L d) ((d, o') :: ledger h L d) :=
  .head fun ⟨_, _⟩ hp => (mem_ledger.mp hp).2.1

/-- x.name = v over any heap: L is any namespace of the heap (the frame's, say): its map stays, its object is not told; all else but the dict stays -/
theorem set_field {x C dx L : Addr} {ox : Obj} {m : Str → Option Value} {es es' : List DictEntry} {n n' : Nat} {name : Str} {v : Value} {Q : Unit → Shared → Prop}
    (X : K.In s.heap) (I : PySem.W.InstAt s.heap x ox C (some (dictOf es n))) (hd : ox.dict = some dx) (hL : s.heap.Ns L m) (hne : dx ≠ L)
    (hs : findIn K (.ref C) "__setattr__" = some (some (.builtin "object.__setattr__"))) (hp : plainOver K C = true) (ht : takerIn K C name = some none) (hh : hasDictIn K C = true) (hl : (getL name es).isSome = true)
    (e : (putL name (PyData.keyHash w.params name) (.str name (s.toks + 1)) v es, putN name es n) = (es', n')) (hz : es'.length ≤ 1000)
    (h : ∀ h' : Heap, h'.Ns L m → h'.get? dx = some (dictOf es' n') → (∀ b o, b ≠ dx → b ≠ L → s.heap.get? b = some o → h'.get? b = some o) → Q () { s with heap := h', toks := s.toks + 2 }) :
    wpAny (model prog w) A (setAttr (.ref x) name v) Q E s := by
  obtain ⟨e1, e2⟩ := Prod.mk.inj e
  have hdx : s.heap.get? dx = some (dictOf es n) := by
    have := I.dict
    rw [hd] at this
    exact this
  refine set_plain X I hs (osa_dict (s := { s with toks := s.toks + 1 }) (h₀ := noObjs s.heap) (L := L) (m := m) (od := dictOf es n) (od' := dictOf es' n') (es := es') (n := n') (pre := []) (post := ledger s.heap L dx)
    (fr_all hL) (news_ledger hne hdx) X I hd hp ht hh hl (fun _ q => nomatch q) (fun ⟨_, _⟩ q => (mem_ledger.mp q).2.1) (by rw [putName_dict, e1, e2]) rfl hz fun h' F' N' => ?_)
  exact h h' F'.ns (N'.get (List.Mem.head _)) fun b o n1 n2 ho => N'.get (List.Mem.tail _ (mem_ledger.mpr ⟨n2, n1, ho⟩))
end
end Att

namespace L2
open PySem PySem.Spec PyProof.Rows

theorem vals_ints : ∀ {vs : List Value} {ns : List Int}, IntsAre vs ns → Vals (ns.map V.int) vs
  | _, _, .nil => .nil
  | _, _, .cons n t h => .cons ⟨t, rfl⟩ (vals_ints h)

/-- nothing is tracked but the script, known to the object (or it is an object of the module) -/
def Only (H : Hp) : Prop := ∀ b, H b = none ∨ ∃ o xs, H b = some (.frz o (.lst xs))

/-- THE HEAD: the law's promise, at the heap behind the top. F, the promise of the law's def, may use that base is part of the heap (so K.In base, base.Ns mainGlobals mg stand in Mod) -/
theorem law_call {P : Program} {w : World} {K : PySem.W.Frag} {mg mb : Str → Option Value} {CX : CXT} {k : Nat} {fa a : Addr} {fd : FuncData} {x : Str} {sp : Sp} {s₁ : Shared} {vs : List Value} {ns : List Int}
    (KX : K.In s₁.heap) (hns : s₁.heap.Ns mainGlobals mg) (hb : s₁.heap.Ns builtinsNs mb) (hbb : ∀ x : Str, x ≠ "__name__" → mb x = bootBuiltins x) (hlim : s₁.heap.NoLimit) (hg : s₁.gens = #[])
    (ha : s₁.heap.get? a = some { cls := .type "list", data := .seq vs.toArray }) (hi : IntsAre vs ns) (hl : ns.length ≤ sizeLine) (hr : Room k callerA)
    (F : ∀ base : Heap, K.In base → base.Ns mainGlobals mg → FnOk P w K mg base CX k fa fd [x] sp) (hbind : ∀ (s : Shared) (u : Value), BindsTo s fd ⟨[u], []⟩ [(x, u)])
    (hsp : ∀ H : Hp, Only H → SqL K H a (ns.map V.int) → sp [.ref a] H (fun v _ => v = .bl true) fun _ _ _ => False)
    (hCX : ∀ H e s', CX [] H s₁ (fun _ _ _ => False) e s' → False) :
    codeAny (model P w) callerA (.call (.ref fa) ⟨[.ref a], []⟩) (fun r s' => r = .ok (.ret (.bool true)) ∧ OldK s₁.heap s'.heap ∧ s'.os = s₁.os ∧ AllBare s'.gens) s₁ := by
  have rv := vals_ints hi
  have lenV := hi.length
  -- from an abstract heap in which nothing but the script may be tracked
  have core : ∀ H : Hp, Only H → SqL K H a (ns.map V.int) → HOk P w H s₁.heap → (∀ b, H b ≠ none → b = a) → (H a ≠ none → K.lookup a = none) →
      codeAny (model P w) callerA (.call (.ref fa) ⟨[.ref a], []⟩) (fun r s' => r = .ok (.ret (.bool true)) ∧ OldK s₁.heap s'.heap ∧ s'.os = s₁.os ∧ AllBare s'.gens) s₁ := by
    intro H hO hS hok hA hK
    have base_of : ∀ {b : Addr} {o : Obj}, s₁.heap.get? b = some o → H b = none → (hidT s₁.heap H).get? b = some o := fun e n => hidT_get e n
    have noA : ∀ {b : Addr} {o : Obj} {es : Array DictEntry} {ep : Nat}, s₁.heap.get? b = some o → o.data = .dict es ep → H b = none := fun {b o es ep} e d => by
      cases q : H b with
      | none => rfl
      | some u =>
        have e' : b = a := hA b (by rw [q]; simp)
        subst e'
        rw [ha] at e; cases e
        have d' : Data.seq vs.toArray _ = Data.dict es ep := d
        cases d'
    have nsK : ∀ {b : Addr} {m : Str → Option Value}, s₁.heap.Ns b m → (hidT s₁.heap H).Ns b m := fun {b m} ⟨o, es, ep, e, d, r⟩ => ⟨o, es, ep, base_of e (noA e d), d, r⟩
    have hKb : K.In (hidT s₁.heap H) := fun b o e => base_of (KX b o e) (by
      cases q : H b with
      | none => rfl
      | some u =>
        have e' : b = a := hA b (by rw [q]; simp)
        subst e'
        rw [hK (by rw [q]; simp)] at e; cases e)
    have hM : Mod K mg (hidT s₁.heap H) := ⟨hKb, nsK hns, ⟨mb, nsK hb, hbb⟩, let ⟨mc, h1, h2⟩ := hlim; ⟨mc, nsK h1, h2⟩⟩
    have e0 : Env0 P w K mg (hidT s₁.heap H) callerA [] s₁ H := ⟨rfl, hM, fun b o e => of_hidT e, Nat.le_of_eq (hidT_size _ _), trivial, fun b hb => absurd (show b ∈ ([] : List Addr) from hb) (by simp), hok, .of_eq hg⟩
    refine codeAny_mono ((F _ hKb (nsK hns)).run callerA [] s₁ H ⟨[.ref a], []⟩ [.ref a] [.ref a] _ _ hr e0 (hbind s₁ (.ref a)) (.cons rfl .nil) (hsp H hO hS)) fun r s' h => ?_
    cases r with
    | error e => exact (hCX H e s' h).elim
    | ok fl =>
      cases fl with
      | next => exact False.elim h
      | brk => exact False.elim h
      | cont => exact False.elim h
      | ret u =>
        obtain ⟨v, H', os, bare, un, hok', r', q⟩ := h
        have q' : v = .bl true := q
        subst q'
        obtain rfl : u = Value.bool true := r'
        refine ⟨rfl, OldK.of_keep fun b o e => ?_, os, bare⟩
        cases q : H b with
        | none => exact un.keep b o e q (by intro z; exact absurd (show b ∈ ([] : List Addr) from z) (by simp)) (by simp)
        | some u =>
          rcases hO b with z | ⟨ob, xs, z⟩
          · rw [q] at z; cases z
          · have z2 := un.frzs b ob _ z
            obtain ⟨e1, _⟩ := hok b _ z
            obtain ⟨e2, _⟩ := hok' b _ z2
            rw [e] at e1; cases e1
            exact e2
  cases hk : K.lookup a with
  | some o =>
    -- the script is one of the module's own objects
    have e := KX a o hk
    rw [ha] at e
    cases e
    refine core (fun _ => none) (fun _ => .inl rfl) (.inr ⟨_, vs.toArray, _, hk, rfl, rfl, rfl, by rw [List.size_toArray, lenV]; exact hl, by simpa using rv⟩) (fun b u z => by have z' : (none : Option HO) = some u := z; cases z') (fun b z => absurd rfl z) fun z => absurd rfl z
  | none =>
    refine core (fun b => if b = a then some (.frz { cls := .type "list", data := .seq vs.toArray } (.lst (ns.map V.int))) else none) (fun b => ?_) (.inl (.inr ⟨{ cls := .type "list", data := .seq vs.toArray }, if_pos rfl⟩)) (fun b u z => ?_) (fun b z => ?_) fun _ => hk
    · by_cases hb : b = a
      · exact .inr ⟨_, _, if_pos hb⟩
      · exact .inl (if_neg hb)
    · by_cases hb : b = a
      · have z' := (if_pos hb).symm.trans z
        cases z'
        subst hb
        exact ⟨ha, by rw [List.length_map]; exact hl, vs, _, rv, ha⟩
      · have z' := (if_neg hb).symm.trans z
        cases z'
    · by_cases hb : b = a
      · exact hb
      · exact absurd (if_neg hb) z
end L2

namespace L2
open PySem PySem.Spec PyProof.Rows

abbrev KOf {K : PySem.W.Frag} {h : Heap} (_ : K.In h) : PySem.W.Frag := K

/-- the goal that k_head leaves (case hc), from the law's promise. F gives the function object fd (K's own) once, then the promise over every base -/
theorem walk_of {l : PySem.W.OpenLaw} {n k : Nat} {q : Program} {loose : List Str} {XP : (Str → Option Value) → Heap → Prop} {YP : World → Heap → Prop} {d : DefRec} {K : Params → PySem.W.Frag} {CX : World → CXT} {sp : World → Sp} {x : Str}
    (hn : l.most = some n) (hn2 : n ≤ sizeLine) (hdf : d.params.defaults = []) (hr : Room k callerA)
    (hY : ∀ (w : World) (h : Heap), YP w h → (K w.params).In h)
    (F : ∀ (w : World) (mg : Str → Option Value) (fa : Addr) (h : Heap), (K w.params).In h → h.Ns mainGlobals mg → mg d.name = some (.ref fa) →
      ∃ fd : FuncData, (∀ (s : Shared) (u : Value), BindsTo s fd ⟨[u], []⟩ [(x, u)]) ∧
        ∀ base : Heap, (K w.params).In base → base.Ns mainGlobals mg → FnOk l.prog w (K w.params) mg base (CX w) k fa fd [x] (sp w))
    (hsp : ∀ (w : World) (H : Hp) (a : Addr) (ns : List Int), ns.length ≤ n → Only H → SqL (K w.params) H a (ns.map V.int) → sp w [.ref a] H (fun v _ => v = .bl true) fun _ _ _ => False)
    (hCX : ∀ (w : World) (H : Hp) (s : Shared) (e : Value) (s' : Shared), CX w [] H s (fun _ _ _ => False) e s' → False) :
    PySem.W.WalkO q loose XP YP l.row.toRowW d [] (fun f vs => PySem.call f vs) := by
  refine Att.attach_call hn hdf fun w s₀ s₁ mg mb fa o pm cd doc a vs ns G Y ho hd hcd hmg hobj hints hlen hg => ?_
  have KX := hY w _ Y
  obtain ⟨fd, hb, hF⟩ := F w mg fa _ KX G.T.g hmg
  exact law_call KX G.T.g G.T.b G.T.builtins G.T.nolimit hg hobj hints (Nat.le_trans hlen hn2) hr hF hb (fun H hO hS => hsp w H a ns hlen hO hS) fun H e s' => hCX w H s₁ e s'
/-- the same where the promise hangs on the written part alone: (sp := My.sp_law), no hole under a binder -/
theorem walk_ofK {l : PySem.W.OpenLaw} {n k : Nat} {q : Program} {loose : List Str} {XP : (Str → Option Value) → Heap → Prop} {YP : World → Heap → Prop} {d : DefRec} {K : Params → PySem.W.Frag} {CX : CXT} {sp : PySem.W.Frag → Sp} {x : Str}
    (hn : l.most = some n) (hn2 : n ≤ sizeLine) (hdf : d.params.defaults = []) (hr : Room k callerA)
    (hY : ∀ (w : World) (h : Heap), YP w h → (K w.params).In h)
    (F : ∀ (w : World) (mg : Str → Option Value) (fa : Addr) (h : Heap), (K w.params).In h → h.Ns mainGlobals mg → mg d.name = some (.ref fa) →
      ∃ fd : FuncData, (∀ (s : Shared) (u : Value), BindsTo s fd ⟨[u], []⟩ [(x, u)]) ∧
        ∀ base : Heap, (K w.params).In base → base.Ns mainGlobals mg → FnOk l.prog w (K w.params) mg base CX k fa fd [x] (sp (K w.params)))
    (hsp : ∀ (K : PySem.W.Frag) (H : Hp) (a : Addr) (ns : List Int), ns.length ≤ n → Only H → SqL K H a (ns.map V.int) → sp K [.ref a] H (fun v _ => v = .bl true) fun _ _ _ => False)
    (hCX : ∀ (H : Hp) (s : Shared) (e : Value) (s' : Shared), CX [] H s (fun _ _ _ => False) e s' → False) :
    PySem.W.WalkO q loose XP YP l.row.toRowW d [] (fun f vs => PySem.call f vs) :=
  walk_of (K := K) (CX := fun _ => CX) (sp := fun w => sp (K w.params)) hn hn2 hdf hr hY F (fun w H a ns h1 h2 h3 => hsp (K w.params) H a ns h1 h2 h3) fun _ H s e s' => hCX H s e s'
end L2

/- THE LAST THEOREM (shape; LID, My.* are yours):
   My.Adr: a structure of the addresses that your layer names (classes, functions); My.Txt K t: a structure (Prop) of the equations over K;
   My.txt_mk : {K} {implicit addresses ..} (e1 : nsIn K mainGlobals "law" = some (some (.ref f))) (e2 : K.lookup f = some ⟨oc, od, .func (fnOf "law" "law" params body scope dV kV doc pm an cdv ct), sl⟩) (e3 : codeIn K cdv "law" = true) .. : ∃ t, My.Txt K t

set_option maxRecDepth 100000 in
set_option maxHeartbeats 0 in
theorem PySem.Challenge.cw_LID_holds : PySem.Challenge.rw_LID.Holds := by
  w_on; o_law; k_head; (case hw => w_witness2)
  k_fill
  refine L2.walk_of (l := PySem.Challenge.rw_LID) (n := 63) (k := 40) (x := "script") (CX := fun w => ..) (sp := fun _ => My.sp_law) rfl (by decide) rfl ⟨rfl, by decide, by decide⟩ (fun w h Y => PySem.W.kIn_of Y) ?F ?S ?C
  case F =>
    intro w mg fa h KX G hmg
    have T : ∃ t, My.Txt (L2.KOf KX) t := by
      dsimp only [L2.KOf]                          -- K must stand as «<heap const> w.params» for k_is
      refine' My.txt_mk ?e1 ?e2 ?e3 ..
      (case e1 => PySem.W.k_is)                    -- in the order: a name -> its address -> its object -> its parts
      (case e2 => PySem.W.k_is)
      ..
    obtain ⟨t, T⟩ := T
    have e0 := hmg.symm.trans (PySem.W.mg_of KX G T.law)
    cases e0                                       -- fa is the law's own address
    exact ⟨_, fun s u => .of_eq rfl, fun base kb nb => My.law_fn T kb nb⟩     -- if «.of_eq rfl» comes too early: refine' ⟨_, ?b, fun base kb nb => My.law_fn T kb nb⟩; exact fun s u => .of_eq rfl
  case S => exact fun w H a ns hl hO hS => ..
  case C => exact ..
(the tactic k_is has no namespace: write k_is) -/

/-! SHORT WORDS over the layer: a def of the text, its body, what a loop and a test want. -/
namespace L2
open PySem PySem.Spec PyProof.Rows

/-! ### the text by places -/
/-- the j-th statement of a class's body -/
def inClass (s : Stmt) (j : Nat) : Stmt := match s with
  | .ClassDef _ _ _ body _ _ _ _ _ _ _ => body.getD j (.Pass ⟨0, 0, 0, 0⟩)
  | _ => .Pass ⟨0, 0, 0, 0⟩
def defArgs (s : Stmt) : Arguments := match s with
  | .FunctionDef _ a _ _ _ _ _ _ _ _ => a
  | _ => { posonlyargs := [], args := [], vararg := none, kwonlyargs := [], kw_defaults := [], kwarg := none, defaults := [] }
def defBody (s : Stmt) : List Stmt := match s with
  | .FunctionDef _ _ b _ _ _ _ _ _ _ => b
  | _ => []
def defScope (s : Stmt) : Scope := match s with
  | .FunctionDef _ _ _ _ _ _ sc _ _ _ => sc
  | _ => { kind := .function, names := [], isGenerator := false, isCoroutine := false }

/-! ### no exception leaves a def -/
abbrev CX0 : CXT := fun _ _ _ _ _ _ => False
abbrev E0 : XK := fun _ _ _ => False
theorem pass0 {X : Cx} : Passes CX0 X E0 := fun _ _ _ _ _ _ _ h => h.elim

/-! ### a def (or method) of the text as it stands behind the top -/
structure Fun (K : PySem.W.Frag) (x qual : Str) (st : Stmt) (f : Addr) (fd : FuncData) : Prop where
  ex : ∃ (oc : Value) (od : Option Addr) (kV doc pm : Value) (an : Option Addr) (cdv ct : Value) (osl : Array (Option Value)),
    fd = PySem.W.fnOf x qual (defArgs st) (defBody st) (defScope st) .none kV doc pm an cdv ct ∧ K.lookup f = some ⟨oc, od, .func fd, osl⟩ ∧ PySem.W.codeIn K cdv qual = true
  kp : PySem.W.keepIn K (.ref f) = true
section
variable {P : Program} {w : World} {K : PySem.W.Frag} {mg : Str → Option Value} {base : Heap}
/-- THE RULE for a def: its body as a term of rules, and the reading of that term -/
theorem Fun.ok {x qual : Str} {st : Stmt} {f : Addr} {fd : FuncData} {N ps : List Str} {k : Nat} {sp : Sp} (F : Fun K x qual st f fd) (S : FnScope N ps (defScope st)) (len : ∀ vs H Q E, sp vs H Q E → vs.length = ps.length)
    (hbody : ∀ (cdv : Value) (A : Around) (outer : List Env) (s : Shared) (H : Hp) (vs : List V) (Q : VK) (E : XK), Room k (A.deeper (envOfC qual (defScope st) s.heap.objs.size f cdv)) → sp vs H Q E →
      ∃ t, PSs (cxOf CX0 P w K mg base N qual (defScope st) f cdv A outer s H E).nox (defBody st) t ∧ t { nx := fun _ H' => Q .non H', rt := Q } (start N vs) H) : FnOk P w K mg base CX0 (k + 1) f fd ps sp := by
  obtain ⟨oc, od, kV, doc, pm, an, cdv, ct, osl, rfl, lk, hcd⟩ := F.ex
  refine fn_of lk hcd S len fun A outer s H vs Q E hr hsp => ?_
  obtain ⟨t, h, q⟩ := hbody cdv A outer s H vs Q E hr hsp
  exact ⟨t, h.nox, q⟩
/-- how its arguments bind (no defaults): h is «fun _ _ _ _ _ _ us hl => match us, hl with | [_, _], _ => rfl», one _ a parameter -/
theorem Fun.binds {x qual : Str} {st : Stmt} {f : Addr} {fd : FuncData} {ps : List Str} (F : Fun K x qual st f fd)
    (h : ∀ (kV doc pm : Value) (an : Option Addr) (cdv ct : Value) (us : List Value), us.length = ps.length → bindArgs (PySem.W.fnOf x qual (defArgs st) (defBody st) (defScope st) .none kV doc pm an cdv ct) ⟨us, []⟩ = pure (ps.zip us)) : Binds K fd ps [] := by
  obtain ⟨oc, od, kV, doc, pm, an, cdv, ct, osl, rfl, lk, hcd⟩ := F.ex
  exact .all (h kV doc pm an cdv ct)
theorem fun_mk {x qual : Str} {st : Stmt} {f : Addr} {oc : Value} {od an : Option Addr} {osl : Array (Option Value)} {kV doc pm cdv ct : Value} (l : K.lookup f = some ⟨oc, od, .func (PySem.W.fnOf x qual (defArgs st) (defBody st) (defScope st) .none kV doc pm an cdv ct), osl⟩)
    (c : PySem.W.codeIn K cdv qual = true) (k : PySem.W.keepIn K (.ref f) = true) : Fun K x qual st f (PySem.W.fnOf x qual (defArgs st) (defBody st) (defScope st) .none kV doc pm an cdv ct) := ⟨⟨oc, od, kV, doc, pm, an, cdv, ct, osl, rfl, l, c⟩, k⟩
end
theorem hu_of {A : Around} {k : Nat} (hr : Room k A) : A.units + 1 < cLine := Nat.lt_of_le_of_lt (Nat.add_le_add_left (by decide : 1 ≤ 64) _) hr.units
theorem small1000 {n : Nat} (h : n ≤ 1000) : n < sizeLine := Nat.lt_of_le_of_lt h (by decide)

/-! ### expressions in short: the name that stands in the i-th slot -/
section
variable {X : Cx}
theorem pv (i : Nat) {x : Str} {pos : Pos} (hN : X.N[i]? = some x := by rfl) (hv : Vis X.env.scope x := by first | exact Or.inl rfl | exact Or.inr (Or.inl rfl) | exact Or.inr (Or.inr rfl)) (hd : (x == ("__debug__" : Str)) = false := by decide)
    (hcd : (x == ("__classdict__" : Str)) = false := by decide) : PE X (.Name x pos) (tVar i) := pe_var hN hv hd hcd
/-- len of a dict -/
theorem call_lenD : CallR X (.builtin "len") (fun xs H Q => ∃ a kvs, xs = [V.ref a] ∧ H a = some (.dK kvs) ∧ Q (.int kvs.length) H) := by
  intro pins s σ H xs us Q I r h
  obtain ⟨a, kvs, rfl, ha, q⟩ := h
  obtain ⟨u, rfl, ru⟩ := vals1 r
  cases ru
  exact d_len I (.inl ha) fun t s' I' => ⟨.int kvs.length, H, I', ⟨t, rfl⟩, q⟩
end

/-! ### tests -/
theorem iteF {A B : Prop} (h : B) : if false = true then A else B := by
  rw [if_neg Bool.false_ne_true]
  exact h
theorem iteT {A B : Prop} (h : A) : if true = true then A else B := by
  rw [if_pos rfl]
  exact h
theorem ite2 {c A B : Prop} [Decidable c] (h1 : c → A) (h2 : ¬ c → B) : if c then A else B := by
  by_cases h : c
  · rw [if_pos h]
    exact h1 h
  · rw [if_neg h]
    exact h2 h
theorem iteNS {c A B : Prop} [Decidable c] (hc : c) (h : B) : if (!decide c) = true then A else B := by
  rw [decide_eq_true hc]
  exact iteF h

/-! ### heaps -/
/-- all that was tracked is as it was -/
def Same (H H' : Hp) : Prop := ∀ b o, H b = some o → H' b = some o
theorem Same.refl (H : Hp) : Same H H := fun _ _ h => h
theorem Same.trans {H H1 H2 : Hp} (a : Same H H1) (b : Same H1 H2) : Same H H2 := fun c o h => b c o (a c o h)
theorem Same.free {H H' : Hp} (e : Same H H') {l : Addr} (h : H' l = Option.none) : H l = Option.none := by
  cases q : H l with
  | none => rfl
  | some o =>
    rw [e l o q] at h
    cases h
theorem Same.seq {K : PySem.W.Frag} {H H' : Hp} {a : Addr} {xs : List V} (e : Same H H') (h : SqL K H a xs) : SqL K H' a xs := by
  rcases h with (h | ⟨o, h⟩) | h
  · exact .inl (.inl (e _ _ h))
  · exact .inl (.inr ⟨o, e _ _ h⟩)
  · exact .inr h

/-! ### a dict's pairs: keys that differ -/
section
variable {κ : Type} [DecidableEq κ]
theorem valV_not {kvs : List (κ × V)} {k : κ} (h : valV kvs k = none) : ¬ k ∈ kvs.map (·.1) := by
  intro m
  obtain ⟨p, hp, e⟩ := List.mem_map.mp m
  have q : (kvs.any fun kv => decide (kv.1 = k)) = true := List.any_eq_true.mpr ⟨p, hp, decide_eq_true e⟩
  rw [valV_any, h] at q
  exact absurd q (by simp)
theorem valV_in {kvs : List (κ × V)} {k : κ} {v : V} (h : valV kvs k = some v) : k ∈ kvs.map (·.1) := by
  have q : (kvs.any fun kv => decide (kv.1 = k)) = true := by
    rw [valV_any, h]
    all_goals rfl
  obtain ⟨p, hp, e⟩ := List.any_eq_true.mp q
  exact List.mem_map.mpr ⟨p, hp, of_decide_eq_true e⟩
theorem nd_snoc : ∀ {l : List κ} {k : κ}, l.Nodup → ¬ k ∈ l → (l ++ [k]).Nodup
  | [], k, _, _ => by simp
  | a :: r, k, h, hk => by
    obtain ⟨h1, h2⟩ := List.nodup_cons.mp h
    show (a :: (r ++ [k])).Nodup
    refine List.nodup_cons.mpr ⟨fun m => ?_, nd_snoc h2 fun m => hk (List.mem_cons.mpr (Or.inr m))⟩
    rcases List.mem_append.mp m with q | q
    · exact h1 q
    · exact hk (List.mem_cons.mpr (Or.inl (List.mem_singleton.mp q).symm))
theorem nd_putK {kvs : List (κ × V)} {k : κ} (v : V) (hn : (kvs.map (·.1)).Nodup) (h : valV kvs k = none) : ((putK kvs k v).map (·.1)).Nodup := by
  rw [putK_new v h, List.map_append]
  exact nd_snoc hn (valV_not h)
theorem dropK_pos {p : κ × V} {r : List (κ × V)} {k : κ} (e : p.1 = k) : dropK (p :: r) k = dropK r k := by
  unfold dropK
  rw [List.filter_cons, if_neg (by simp [e])]
theorem dropK_neg {p : κ × V} {r : List (κ × V)} {k : κ} (e : ¬ p.1 = k) : dropK (p :: r) k = p :: dropK r k := by
  unfold dropK
  rw [List.filter_cons, if_pos (by simp [e])]
theorem dropK_no : ∀ {kvs : List (κ × V)} {k : κ}, ¬ k ∈ kvs.map (·.1) → dropK kvs k = kvs
  | [], _, _ => rfl
  | p :: r, k, h => by
    have h' : ¬ k ∈ r.map (·.1) := fun m => by
      obtain ⟨q, hq, e⟩ := List.mem_map.mp m
      exact h (List.mem_map.mpr ⟨q, List.mem_cons.mpr (Or.inr hq), e⟩)
    rw [dropK_neg fun e => h (List.mem_map.mpr ⟨p, List.mem_cons.mpr (Or.inl rfl), e⟩), dropK_no h']
theorem dropK_mem {kvs : List (κ × V)} {k : κ} {p : κ × V} (h : p ∈ dropK kvs k) : p ∈ kvs := (List.mem_filter.mp h).1
theorem nd_dropK : ∀ {kvs : List (κ × V)} {k : κ}, (kvs.map (·.1)).Nodup → ((dropK kvs k).map (·.1)).Nodup
  | [], _, _ => List.nodup_nil
  | p :: r, k, h => by
    have h : (p.1 :: r.map (·.1)).Nodup := h
    obtain ⟨h1, h2⟩ := List.nodup_cons.mp h
    by_cases e : p.1 = k
    · rw [dropK_pos e]
      exact nd_dropK h2
    · rw [dropK_neg e]
      show (p.1 :: (dropK r k).map (·.1)).Nodup
      refine List.nodup_cons.mpr ⟨fun m => h1 ?_, nd_dropK h2⟩
      obtain ⟨q, hq, eq⟩ := List.mem_map.mp m
      exact List.mem_map.mpr ⟨q, dropK_mem hq, eq⟩
theorem dropK_len : ∀ {kvs : List (κ × V)} {k : κ}, (kvs.map (·.1)).Nodup → k ∈ kvs.map (·.1) → (dropK kvs k).length + 1 = kvs.length
  | [], _, _, m => by simp at m
  | p :: r, k, h, m => by
    have h : (p.1 :: r.map (·.1)).Nodup := h
    have m : k = p.1 ∨ k ∈ r.map (·.1) := List.mem_cons.mp m
    obtain ⟨h1, h2⟩ := List.nodup_cons.mp h
    by_cases e : p.1 = k
    · subst e
      rw [dropK_pos rfl, dropK_no h1]
      all_goals rfl
    · have m' : k ∈ r.map (·.1) := m.resolve_left fun z => e z.symm
      have q := dropK_len h2 m'
      rw [dropK_neg e, List.length_cons, List.length_cons]
      omega
end
end L2


set_option maxHeartbeats 4000000
/-! PURE DATA over the hand layer: a def's body read as a Lean function over plain data (Dat), with its proof. -/
namespace MB
open PySem PySem.Spec PyProof.Rows L2
abbrev St := L2.St

/-! ### lists in pairs -/
theorem paired_mk {α β : Type} {R : α → β → Prop} : ∀ {xs : List α} {ys : List β}, xs.length = ys.length → (∀ (i : Nat) (x : α) (y : β), xs[i]? = some x → ys[i]? = some y → R x y) → Paired R xs ys
  | [], [], _, _ => .nil
  | x :: xs, y :: ys, hl, h => .cons (h 0 x y rfl rfl) (paired_mk (by simpa using hl) fun i a b ha hb => h (i + 1) a b (by simpa using ha) (by simpa using hb))
  | [], _ :: _, hl, _ => by simp at hl
  | _ :: _, [], hl, _ => by simp at hl
theorem pget {α β : Type} {R : α → β → Prop} : ∀ {xs : List α} {ys : List β} (i : Nat) {x : α} {y : β}, Paired R xs ys → xs[i]? = some x → ys[i]? = some y → R x y
  | _, _, i, _, _, .nil, hx, _ => by simp at hx
  | _, _, 0, _, _, .cons r _, hx, hy => by
    simp at hx hy
    subst hx hy
    exact r
  | _, _, i + 1, x, y, .cons _ t, hx, hy => pget i t (by simpa using hx) (by simpa using hy)
theorem pgetR {α β : Type} {R : α → β → Prop} : ∀ {xs : List α} {ys : List β} (i : Nat) {y : β}, Paired R xs ys → ys[i]? = some y → ∃ x, xs[i]? = some x ∧ R x y := fun {xs ys} i {y} p hy => by
  have hl := p.length
  have h1 : i < ys.length := (List.getElem?_eq_some_iff.mp hy).1
  have h2 : i < xs.length := by omega
  have hx : xs[i]? = some xs[i] := List.getElem?_eq_getElem h2
  exact ⟨_, hx, pget i p hx hy⟩
theorem pimp {α β : Type} {R R' : α → β → Prop} (h : ∀ a b, R a b → R' a b) {xs : List α} {ys : List β} (p : Paired R xs ys) : Paired R' xs ys := Paired.mono h p
theorem pappend {α β : Type} {R : α → β → Prop} : ∀ {xs zs : List α} {ys ws : List β}, Paired R xs ys → Paired R zs ws → Paired R (xs ++ zs) (ys ++ ws)
  | _, _, _, _, .nil, s => s
  | _, _, _, _, .cons r t, s => .cons r (pappend t s)
theorem ptake {α β : Type} {R : α → β → Prop} : ∀ {xs : List α} {ys : List β} (n : Nat), Paired R xs ys → Paired R (xs.take n) (ys.take n)
  | _, _, 0, _ => .nil
  | _, _, _ + 1, .nil => .nil
  | _, _, n + 1, .cons r t => .cons r (ptake n t)
theorem pdrop {α β : Type} {R : α → β → Prop} : ∀ {xs : List α} {ys : List β} (n : Nat), Paired R xs ys → Paired R (xs.drop n) (ys.drop n)
  | _, _, 0, r => r
  | _, _, _ + 1, .nil => .nil
  | _, _, n + 1, .cons _ t => pdrop n t
theorem pset {α β : Type} {R : α → β → Prop} {x : α} {y : β} (r : R x y) : ∀ {xs : List α} {ys : List β} (i : Nat), Paired R xs ys → Paired R (xs.set i x) (ys.set i y)
  | _, _, _, .nil => .nil
  | _, _, 0, .cons _ t => .cons r t
  | _, _, i + 1, .cons q t => .cons q (pset r i t)

/-! ### data -/
inductive Dat where
  | non | bl (b : Bool) | int (i : Int) | str (x : Str) | tup (xs : List Dat) | lst (xs : List Dat)
  | dK (kvs : List (Key × Dat)) | dT (kvs : List (List Key × Dat)) | obj (c : Nat) (fs : List (Str × Dat))
instance : Inhabited Dat := ⟨.non⟩

theorem rdSame {H H' : Hp} {a : Addr} {u : HO} (e : Same H H') (h : Rd H a u) : Rd H' a u := by
  rcases h with h | ⟨o, h⟩
  · exact .inl (e _ _ h)
  · exact .inr ⟨o, e _ _ h⟩
theorem seqT {K : PySem.W.Frag} {H H' : Hp} {a : Addr} {xs : List V} (e : Same H H') (h : SqT K H a xs) : SqT K H' a xs := by
  rcases h with (h | ⟨o, h⟩) | h
  · exact .inl (.inl (e _ _ h))
  · exact .inl (.inr ⟨o, e _ _ h⟩)
  · exact .inr h

/-- the value v stands for the data d, by the objects of F and of the text -/
inductive Rep (K : PySem.W.Frag) (cl : Nat → Addr) (F : Hp) : V → Dat → Prop
  | non : Rep K cl F .non .non
  | bl (b : Bool) : Rep K cl F (.bl b) (.bl b)
  | int (i : Int) : Rep K cl F (.int i) (.int i)
  | str (x : Str) : Rep K cl F (.str x) (.str x)
  | tup {a : Addr} {vs : List V} {ds : List Dat} (h : F a = some (.tup vs)) (hl : vs.length = ds.length)
      (hi : ∀ (i : Nat) (v : V) (d : Dat), vs[i]? = some v → ds[i]? = some d → Rep K cl F v d) : Rep K cl F (.ref a) (.tup ds)
  | lst {a : Addr} {vs : List V} {ds : List Dat} (h : SqL K F a vs) (hl : vs.length = ds.length)
      (hi : ∀ (i : Nat) (v : V) (d : Dat), vs[i]? = some v → ds[i]? = some d → Rep K cl F v d) : Rep K cl F (.ref a) (.lst ds)
  | dK {a : Addr} {vs : List (Key × V)} {ds : List (Key × Dat)} (h : F a = some (.dK vs)) (hk : vs.map (·.1) = ds.map (·.1))
      (hi : ∀ (i : Nat) (p : Key × V) (q : Key × Dat), vs[i]? = some p → ds[i]? = some q → Rep K cl F p.2 q.2) : Rep K cl F (.ref a) (.dK ds)
  | dT {a : Addr} {vs : List (List Key × V)} {ds : List (List Key × Dat)} (h : F a = some (.dT vs)) (hk : vs.map (·.1) = ds.map (·.1))
      (hi : ∀ (i : Nat) (p : List Key × V) (q : List Key × Dat), vs[i]? = some p → ds[i]? = some q → Rep K cl F p.2 q.2) : Rep K cl F (.ref a) (.dT ds)
  | obj {a dx : Addr} {c : Nat} {vs : List (Str × V)} {ds : List (Str × Dat)} (h : F a = some (.ins (cl c) dx vs)) (hk : vs.map (·.1) = ds.map (·.1))
      (hi : ∀ (i : Nat) (p : Str × V) (q : Str × Dat), vs[i]? = some p → ds[i]? = some q → Rep K cl F p.2 q.2) : Rep K cl F (.ref a) (.obj c ds)

abbrev RepL (K : PySem.W.Frag) (cl : Nat → Addr) (F : Hp) : List V → List Dat → Prop := Paired (Rep K cl F)
abbrev RepK {κ : Type} (K : PySem.W.Frag) (cl : Nat → Addr) (F : Hp) : List (κ × V) → List (κ × Dat) → Prop := Paired fun p q => p.1 = q.1 ∧ Rep K cl F p.2 q.2

section
variable {K : PySem.W.Frag} {cl : Nat → Addr} {F F' H H' H1 : Hp} {v : V} {d : Dat} {a p : Addr} {vs : List V} {ds : List Dat}
theorem Rep.mono (s : Same F F') (r : Rep K cl F v d) : Rep K cl F' v d := by
  induction r with
  | non => exact .non
  | bl b => exact .bl b
  | int i => exact .int i
  | str x => exact .str x
  | tup h hl hi ih => exact .tup (s _ _ h) hl ih
  | lst h hl hi ih => exact .lst (s.seq h) hl ih
  | dK h hk hi ih => exact .dK (s _ _ h) hk ih
  | dT h hk hi ih => exact .dT (s _ _ h) hk ih
  | obj h hk hi ih => exact .obj (s _ _ h) hk ih
theorem RepL.mono (s : Same F F') (r : RepL K cl F vs ds) : RepL K cl F' vs ds := pimp (fun _ _ q => q.mono s) r
theorem RepK.mono {κ : Type} {ws : List (κ × V)} {es : List (κ × Dat)} (s : Same F F') (r : RepK K cl F ws es) : RepK K cl F' ws es := pimp (fun _ _ q => ⟨q.1, q.2.mono s⟩) r
theorem Rep.tup' (h : F a = some (.tup vs)) (r : RepL K cl F vs ds) : Rep K cl F (.ref a) (.tup ds) := .tup h r.length fun i _ _ x y => pget i r x y
theorem Rep.lst' (h : SqL K F a vs) (r : RepL K cl F vs ds) : Rep K cl F (.ref a) (.lst ds) := .lst h r.length fun i _ _ x y => pget i r x y
theorem keysEq {κ : Type} {ws : List (κ × V)} {es : List (κ × Dat)} (r : RepK K cl F ws es) : ws.map (·.1) = es.map (·.1) := by
  induction r with
  | nil => rfl
  | cons h _ ih => rw [List.map_cons, List.map_cons, h.1, ih]
theorem keysMk {κ : Type} {ws : List (κ × V)} {es : List (κ × Dat)} (hk : ws.map (·.1) = es.map (·.1)) (hi : ∀ (i : Nat) (p : κ × V) (q : κ × Dat), ws[i]? = some p → es[i]? = some q → Rep K cl F p.2 q.2) : RepK K cl F ws es := by
  refine paired_mk (by simpa using congrArg List.length hk) fun i p q hp hq => ⟨?_, hi i p q hp hq⟩
  have h := congrArg (·[i]?) hk
  simp only [List.getElem?_map, hp, hq, Option.map_some, Option.some.injEq] at h
  exact h
theorem Rep.dK' {ws : List (Key × V)} {es : List (Key × Dat)} (h : F a = some (.dK ws)) (r : RepK K cl F ws es) : Rep K cl F (.ref a) (.dK es) := .dK h (keysEq r) fun i _ _ x y => (pget i r x y).2
theorem Rep.dT' {ws : List (List Key × V)} {es : List (List Key × Dat)} (h : F a = some (.dT ws)) (r : RepK K cl F ws es) : Rep K cl F (.ref a) (.dT es) := .dT h (keysEq r) fun i _ _ x y => (pget i r x y).2
theorem Rep.int_inv {i : Int} (r : Rep K cl F v (.int i)) : v = .int i := by cases r; rfl
theorem Rep.bl_inv {b : Bool} (r : Rep K cl F v (.bl b)) : v = .bl b := by cases r; rfl
theorem Rep.str_inv {x : Str} (r : Rep K cl F v (.str x)) : v = .str x := by cases r; rfl
theorem Rep.non_inv (r : Rep K cl F v .non) : v = .non := by cases r; rfl
theorem Rep.tup_inv (r : Rep K cl F v (.tup ds)) : ∃ a vs, v = .ref a ∧ F a = some (.tup vs) ∧ RepL K cl F vs ds := by
  cases r with
  | tup h hl hi => exact ⟨_, _, rfl, h, paired_mk hl hi⟩
theorem Rep.lst_inv (r : Rep K cl F v (.lst ds)) : ∃ a vs, v = .ref a ∧ SqL K F a vs ∧ RepL K cl F vs ds := by
  cases r with
  | lst h hl hi => exact ⟨_, _, rfl, h, paired_mk hl hi⟩
theorem Rep.dK_inv {es : List (Key × Dat)} (r : Rep K cl F v (.dK es)) : ∃ a ws, v = .ref a ∧ F a = some (.dK ws) ∧ RepK K cl F ws es := by
  cases r with
  | dK h hk hi => exact ⟨_, _, rfl, h, keysMk hk hi⟩
theorem Rep.dT_inv {es : List (List Key × Dat)} (r : Rep K cl F v (.dT es)) : ∃ a ws, v = .ref a ∧ F a = some (.dT ws) ∧ RepK K cl F ws es := by
  cases r with
  | dT h hk hi => exact ⟨_, _, rfl, h, keysMk hk hi⟩
theorem Rep.obj_inv {c : Nat} {es : List (Str × Dat)} (r : Rep K cl F v (.obj c es)) : ∃ a dx ws, v = .ref a ∧ F a = some (.ins (cl c) dx ws) ∧ RepK K cl F ws es := by
  cases r with
  | obj h hk hi => exact ⟨_, _, _, rfl, h, keysMk hk hi⟩

/-! ### heaps that grow -/
theorem same_upd {o : HO} (hp : H p = none) : Same H (upd H p o) := fun b _ e => by
  rw [upd_ne (ne_of_none e hp)]
  exact e
theorem same_upd2 {o : HO} (s : Same F H) : Same (upd F p o) (upd H p o) := fun b ob e => by
  by_cases h : b = p
  · subst h
    rw [upd_same] at e ⊢
    exact e
  · rw [upd_ne h] at e ⊢
    exact s b ob e
theorem none_of (s : Same F H) (hp : H p = none) : F p = none := s.free hp
/-- F' has more than F, at places that H did not have -/
def Grow (F H F' : Hp) : Prop := Same F F' ∧ ∀ a o, F a = none → F' a = some o → H a = none
theorem Grow.refl : Grow F H F := ⟨Same.refl F, fun a o h e => by rw [h] at e; cases e⟩
theorem Grow.trans {F1 F2 : Hp} (g1 : Grow F H F1) (s : Same H H1) (g2 : Grow F1 H1 F2) : Grow F H F2 := ⟨g1.1.trans g2.1, fun a o h0 h2 => by
  cases e : F1 a with
  | some o1 => exact g1.2 a o1 h0 e
  | none => exact s.free (g2.2 a o e h2)⟩
theorem Grow.new {o : HO} (s : Same F H) (hp : H p = none) : Grow F H (upd F p o) := ⟨same_upd (none_of s hp), fun b ob h e => by
  by_cases q : b = p
  · rw [q]; exact hp
  · rw [upd_ne q, h] at e; cases e⟩
theorem Grow.keep {F1 : Hp} {o : HO} (g : Grow F H F1) (hn : F p = none) (hp : H p = some o) : F1 p = none := by
  cases e : F1 p with
  | none => rfl
  | some q => rw [g.2 p q hn e] at hp; cases hp
end

/-- what is wanted behind an expression whose value is the data d -/
def Post (K : PySem.W.Frag) (cl : Nat → Addr) (F H : Hp) (d : Dat) (Q : VK) : Prop := ∀ v H' F', Same H H' → Same F' H' → Grow F H F' → Rep K cl F' v d → Q v H'
section
variable {K : PySem.W.Frag} {cl : Nat → Addr} {F F1 H H1 : Hp} {v : V} {d : Dat} {p : Addr} {Q : VK}
theorem Post.here (k : Post K cl F H d Q) (s : Same F H) (r : Rep K cl F v d) : Q v H := k v H F (Same.refl H) s Grow.refl r
theorem Post.new {o : HO} (k : Post K cl F H d Q) (s : Same F H) (hp : H p = none) (r : Rep K cl (upd F p o) (.ref p) d) : Q (.ref p) (upd H p o) :=
  k _ _ _ (same_upd hp) (same_upd2 s) (Grow.new s hp) r
theorem Post.step (k : Post K cl F H d Q) (s : Same H H1) (g : Grow F H F1) : Post K cl F1 H1 d Q := fun v H' F' s2 s2' g2 r => k v H' F' (s.trans s2) s2' (g.trans s g2) r
end

/-! ### what a name may hold: data, or a list or dict that is being made -/
inductive O0 where
  | val (d : Dat) | lst (xs : List Dat) | dK (kvs : List (Key × Dat)) | dT (kvs : List (List Key × Dat))
inductive Slot where
  | no | o (x : O0) | rcd (kvs : List (Key × O0))
abbrev Sto := List Slot
abbrev Lab := Nat × Option Key
def O0R (K : PySem.W.Frag) (cl : Nat → Addr) (F H : Hp) (ω : Addr → Option Lab) (l : Lab) (v : V) : O0 → Prop
  | .val d => Rep K cl F v d
  | .lst xs => ∃ p vs, v = .ref p ∧ ω p = some l ∧ H p = some (.lst vs) ∧ RepL K cl F vs xs
  | .dK kvs => ∃ p vs, v = .ref p ∧ ω p = some l ∧ H p = some (.dK vs) ∧ RepK K cl F vs kvs
  | .dT kvs => ∃ p vs, v = .ref p ∧ ω p = some l ∧ H p = some (.dT vs) ∧ RepK K cl F vs kvs
def SlotR (K : PySem.W.Frag) (cl : Nat → Addr) (F H : Hp) (ω : Addr → Option Lab) (i : Nat) (ov : Option (Option V)) : Slot → Prop
  | .no => True
  | .o x => ∃ v, ov = some (some v) ∧ O0R K cl F H ω (i, none) v x
  | .rcd kvs => ∃ p vs, ov = some (some (.ref p)) ∧ ω p = some (i, none) ∧ H p = some (.dK vs) ∧ (kvs.map (·.1)).Nodup ∧
      Paired (fun (x : Key × V) (y : Key × O0) => x.1 = y.1 ∧ O0R K cl F H ω (i, some y.1) x.2 y.2) vs kvs
/-- who holds what is being made; the slots' own numbers -/
structure Ow where
  w : Addr → Option Lab
  b : Nat → Nat
structure ER (K : PySem.W.Frag) (cl : Nat → Addr) (F H : Hp) (ω : Ow) (σ : St) (δ : Sto) : Prop where
  sub : Same F H
  own : ∀ a l, ω.w a = some l → F a = none ∧ ∃ o, H a = some o
  len : σ.length = δ.length
  at_ : ∀ (i : Nat) (s : Slot), δ[i]? = some s → SlotR K cl F H ω.w (ω.b i) σ[i]? s

section
variable {K : PySem.W.Frag} {cl : Nat → Addr} {F F' H H' : Hp} {ω : Addr → Option Lab} {wo : Ow} {l : Lab} {v : V} {d : Dat} {σ : St} {δ : Sto} {i : Nat} {x : O0} {s : Slot}
theorem O0R.grow (a : Same H H') (b : Same F F') (r : O0R K cl F H ω l v x) : O0R K cl F' H' ω l v x := by
  cases x with
  | val d => exact Rep.mono b r
  | lst xs => obtain ⟨p, vs, e, w, h, q⟩ := r; exact ⟨p, vs, e, w, a _ _ h, q.mono b⟩
  | dK kvs => obtain ⟨p, vs, e, w, h, q⟩ := r; exact ⟨p, vs, e, w, a _ _ h, RepK.mono b q⟩
  | dT kvs => obtain ⟨p, vs, e, w, h, q⟩ := r; exact ⟨p, vs, e, w, a _ _ h, RepK.mono b q⟩
theorem SlotR.grow {ov : Option (Option V)} (a : Same H H') (b : Same F F') (r : SlotR K cl F H ω i ov s) : SlotR K cl F' H' ω i ov s := by
  cases s with
  | no => exact True.intro
  | o x => obtain ⟨v, e, q⟩ := r; exact ⟨v, e, q.grow a b⟩
  | rcd kvs => obtain ⟨p, vs, e, w, h, n, q⟩ := r; exact ⟨p, vs, e, w, a _ _ h, n, pimp (fun _ _ z => ⟨z.1, z.2.grow a b⟩) q⟩
theorem ER.grow (e : ER K cl F H wo σ δ) (a : Same H H') (b : Same F' H') (g : Grow F H F') : ER K cl F' H' wo σ δ where
  sub := b
  own := fun c l h => by
    obtain ⟨h1, o, h2⟩ := e.own c l h
    exact ⟨g.keep h1 h2, o, a _ _ h2⟩
  len := e.len
  at_ := fun i s h => (e.at_ i s h).grow a g.1
theorem ER.set {v : V} (e : ER K cl F H wo σ δ) (h : SlotR K cl F H wo.w (wo.b i) (some (some v)) s) : ER K cl F H wo (σ.set i (some v)) (δ.set i s) where
  sub := e.sub
  own := e.own
  len := by rw [List.length_set, List.length_set]; exact e.len
  at_ := fun j t ht => by
    by_cases hj : i = j
    · subst hj
      by_cases hi : i < δ.length
      · rw [List.getElem?_set_self hi] at ht
        cases ht
        rw [List.getElem?_set_self (by rw [e.len]; exact hi)]
        exact h
      · rw [List.getElem?_eq_none (by rw [List.length_set]; omega)] at ht
        cases ht
    · rw [List.getElem?_set_ne hj] at ht ⊢
      exact e.at_ j t ht
theorem ER.setV (e : ER K cl F H wo σ δ) (r : Rep K cl F v d) : ER K cl F H wo (σ.set i (some v)) (δ.set i (.o (.val d))) := e.set ⟨v, rfl, r⟩
theorem ER.val (e : ER K cl F H wo σ δ) (h : δ[i]? = some (.o (.val d))) : ∃ v, σ[i]? = some (some v) ∧ Rep K cl F v d := e.at_ i _ h
end

/-! ### expressions -/
abbrev FE := Sto → Option Dat
def tP (K : PySem.W.Frag) (cl : Nat → Addr) (f : FE) : TE := fun σ H Q => ∃ δ F ω d, f δ = some d ∧ ER K cl F H ω σ δ ∧ Post K cl F H d Q
def PP (cl : Nat → Addr) (X : Cx) (e : Expr) (f : FE) : Prop := PE X e (tP X.K cl f)
section
variable {cl : Nat → Addr} {X : Cx} {e a b c : Expr} {fa fb fc : FE} {pos : Pos}
def eC (d : Dat) : FE := fun _ => some d
def eV (i : Nat) : FE := fun δ => match δ[i]? with | some (.o (.val d)) => some d | _ => none
theorem eV_some {i : Nat} {δ : Sto} {d : Dat} (h : eV i δ = some d) : δ[i]? = some (.o (.val d)) := by
  unfold eV at h
  split at h
  · rename_i d' e
    cases h
    exact e
  · cases h
theorem pp_int {i j pos} : PP cl X (.Constant (.int i) j pos) (eC (.int i)) := fun pins s σ H Q I h => by
  obtain ⟨δ, F, ω, d, hf, er, k⟩ := h
  obtain rfl : Dat.int i = d := Option.some.inj hf
  exact pe_int pins s σ H Q I (k.here er.sub (.int i))
theorem pp_bl {i j pos} : PP cl X (.Constant (.bool i) j pos) (eC (.bl i)) := fun pins s σ H Q I h => by
  obtain ⟨δ, F, ω, d, hf, er, k⟩ := h
  obtain rfl : Dat.bl i = d := Option.some.inj hf
  exact pe_bl pins s σ H Q I (k.here er.sub (.bl i))
theorem pp_str {i j pos} : PP cl X (.Constant (.str i) j pos) (eC (.str i)) := fun pins s σ H Q I h => by
  obtain ⟨δ, F, ω, d, hf, er, k⟩ := h
  obtain rfl : Dat.str i = d := Option.some.inj hf
  exact pe_str pins s σ H Q I (k.here er.sub (.str i))
theorem pp_non {j pos} : PP cl X (.Constant .none j pos) (eC .non) := fun pins s σ H Q I h => by
  obtain ⟨δ, F, ω, d, hf, er, k⟩ := h
  obtain rfl : Dat.non = d := Option.some.inj hf
  exact pe_non pins s σ H Q I (k.here er.sub .non)
theorem pp_var {i : Nat} (h : PE X e (tVar i)) : PP cl X e (eV i) := fun pins s σ H Q I hw => by
  obtain ⟨δ, F, ω, d, hf, er, k⟩ := hw
  obtain ⟨v, hv, r⟩ := er.val (eV_some hf)
  exact h pins s σ H Q I ⟨v, hv, k.here er.sub r⟩

/-- two expressions in a row -/
theorem tP2 {K : PySem.W.Frag} {δ : Sto} {F H : Hp} {ω : Ow} {σ : St} {x y : Dat} {R : V → V → Hp → Prop} (hx : fa δ = some x) (hy : fb δ = some y) (er : ER K cl F H ω σ δ)
    (k : ∀ vx vy H2 F2, Same H H2 → Grow F H F2 → ER K cl F2 H2 ω σ δ → Rep K cl F2 vx x → Rep K cl F2 vy y → R vx vy H2) : tP K cl fa σ H fun vx H1 => tP K cl fb σ H1 fun vy H2 => R vx vy H2 :=
  ⟨δ, F, ω, x, hx, er, fun vx H1 F1 s1 s1' g1 r1 => ⟨δ, F1, ω, y, hy, er.grow s1 s1' g1, fun vy H2 F2 s2 s2' g2 r2 =>
    k vx vy H2 F2 (s1.trans s2) (g1.trans s1 g2) ((er.grow s1 s1' g1).grow s2 s2' g2) (r1.mono g2.1) r2⟩⟩
def e2 (g : Dat → Dat → Option Dat) (fa fb : FE) : FE := fun δ => (fa δ).bind fun x => (fb δ).bind fun y => g x y
def e1 (g : Dat → Option Dat) (fa : FE) : FE := fun δ => (fa δ).bind g
theorem e2_some {g : Dat → Dat → Option Dat} {δ : Sto} {d : Dat} (h : e2 g fa fb δ = some d) : ∃ x y, fa δ = some x ∧ fb δ = some y ∧ g x y = some d := by
  unfold e2 at h
  cases ha : fa δ with
  | none => rw [ha] at h; cases h
  | some x =>
    rw [ha] at h
    cases hb : fb δ with
    | none => rw [hb] at h; cases h
    | some y => rw [hb] at h; exact ⟨x, y, rfl, rfl, h⟩
theorem e1_some {g : Dat → Option Dat} {δ : Sto} {d : Dat} (h : e1 g fa δ = some d) : ∃ x, fa δ = some x ∧ g x = some d := by
  unfold e1 at h
  cases ha : fa δ with
  | none => rw [ha] at h; cases h
  | some x => rw [ha] at h; exact ⟨x, rfl, h⟩
/-- an operation of two values, over data -/
def OpD (K : PySem.W.Frag) (cl : Nat → Addr) (r : R2) (g : Dat → Dat → Option Dat) : Prop :=
  ∀ F H x y a b d Q, g a b = some d → Same F H → Rep K cl F x a → Rep K cl F y b → Post K cl F H d Q → r x y H Q
theorem pp_bin {op : Operator} {r : R2} {g : Dat → Dat → Option Dat} (ho : OpR X (binaryOp op) r) (hd : OpD X.K cl r g) (ha : PP cl X a fa) (hb : PP cl X b fb) : PP cl X (.BinOp a op b pos) (e2 g fa fb) := fun pins s σ H Q I h => by
  obtain ⟨δ, F, ω, d, hf, er, k⟩ := h
  obtain ⟨x, y, hx, hy, hg⟩ := e2_some hf
  exact pe_op ho ha hb pins s σ H Q I (tP2 hx hy er fun vx vy H2 F2 s1 g1 er2 rx ry => hd F2 H2 vx vy x y d Q hg er2.sub rx ry (k.step s1 g1))
theorem pp_cmp {op : CmpOp} {r : R2} {g : Dat → Dat → Option Dat} (ho : OpR X (compareOp op) r) (hd : OpD X.K cl r g) (ha : PP cl X a fa) (hb : PP cl X b fb) (hm : behindInMarks op b = false) : PP cl X (.Compare a [op] [b] pos) (e2 g fa fb) := fun pins s σ H Q I h => by
  obtain ⟨δ, F, ω, d, hf, er, k⟩ := h
  obtain ⟨x, y, hx, hy, hg⟩ := e2_some hf
  exact pe_cmpR ho ha hb hm pins s σ H Q I (tP2 hx hy er fun vx vy H2 F2 s1 g1 er2 rx ry => hd F2 H2 vx vy x y d Q hg er2.sub rx ry (k.step s1 g1))

/-! ### ints -/
def gI (C : Int → Int → Bool) (g : Int → Int → Dat) : Dat → Dat → Option Dat
  | .int i, .int j => if C i j = true then some (g i j) else none
  | _, _ => none
theorem gI_some {C : Int → Int → Bool} {g : Int → Int → Dat} {x y d : Dat} (h : gI C g x y = some d) : ∃ i j, x = .int i ∧ y = .int j ∧ C i j = true ∧ d = g i j := by
  unfold gI at h
  split at h
  · rename_i i j
    split at h
    · rename_i c
      exact ⟨i, j, rfl, rfl, c, (Option.some.inj h).symm⟩
    · cases h
  · cases h
theorem opd_I {K : PySem.W.Frag} {P : Int → Int → Prop} {C : Int → Int → Bool} {g : Int → Int → V} {g' : Int → Int → Dat} (hc : ∀ i j, C i j = true → P i j) (hr : ∀ F i j, Rep K cl F (g i j) (g' i j)) : OpD K cl (rI P g) (gI C g') := by
  intro F H x y a b d Q hg s rx ry k
  obtain ⟨i, j, rfl, rfl, c, rfl⟩ := gI_some hg
  exact ⟨i, j, rx.int_inv, ry.int_inv, hc i j c, k.here s (hr F i j)⟩
theorem opd_I0 {K : PySem.W.Frag} {g : Int → Int → V} {g' : Int → Int → Dat} (hr : ∀ F i j, Rep K cl F (g i j) (g' i j)) : OpD K cl (rI0 g) (gI (fun _ _ => true) g') := by
  intro F H x y a b d Q hg s rx ry k
  obtain ⟨i, j, rfl, rfl, c, rfl⟩ := gI_some hg
  exact ⟨i, j, rx.int_inv, ry.int_inv, k.here s (hr F i j)⟩
def dSub := gI (fun _ _ => true) fun i j => .int (i - j)
def cMul (i j : Int) : Bool := decide ((-(2 ^ 64) < i ∧ i < 2 ^ 64) ∨ (-(2 ^ 64) < j ∧ j < 2 ^ 64))
def cDiv (_ j : Int) : Bool := decide (0 < j ∧ j < 1267650600228229401496703205376)
def cMod (_ j : Int) : Bool := decide (0 < j)
def cPow (i j : Int) : Bool := decide (0 ≤ j ∧ j ≤ 1000000 ∧ i.natAbs < 2 ^ 64)
def dDiv := gI cDiv fun i j => .int (i / j)
def dMod := gI cMod fun i j => .int (i % j)
def dPow := gI cPow fun i j => .int (i ^ j.toNat)
def dLt := gI (fun _ _ => true) fun i j => .bl (decide (i < j))
def dLe := gI (fun _ _ => true) fun i j => .bl (decide (i ≤ j))
def dGt := gI (fun _ _ => true) fun i j => .bl (decide (j < i))
def dGe := gI (fun _ _ => true) fun i j => .bl (decide (j ≤ i))
theorem pp_sub (ha : PP cl X a fa) (hb : PP cl X b fb) : PP cl X (.BinOp a .Sub b pos) (e2 dSub fa fb) := pp_bin op_sub (opd_I0 fun _ _ _ => .int _) ha hb
theorem op_fdivW : OpR X (binaryOp .FloorDiv) (rI (fun _ j => 0 < j ∧ j < 1267650600228229401496703205376) fun i j => .int (i / j)) := opI fun i j _ _ _ _ _ hc q => by
  have h1 : (0 : Int) < j := hc.1
  have h2 : j < 1267650600228229401496703205376 := hc.2
  refine floordiv_int (by omega) (by rw [Int.fdiv_eq_ediv_of_nonneg i (by omega)]; exact q) (.inl (PyProof.noPylong_of_log2 ?_))
  have h3 : j.natAbs < 2 ^ 100 := by omega
  have := (Nat.log2_lt (show j.natAbs ≠ 0 by omega)).mpr h3
  omega
theorem pp_div (ha : PP cl X a fa) (hb : PP cl X b fb) : PP cl X (.BinOp a .FloorDiv b pos) (e2 dDiv fa fb) := pp_bin op_fdivW (opd_I (fun _ j h => of_decide_eq_true (p := 0 < j ∧ j < 1267650600228229401496703205376) h) fun _ _ _ => .int _) ha hb
theorem pp_mod (ha : PP cl X a fa) (hb : PP cl X b fb) : PP cl X (.BinOp a .Mod b pos) (e2 dMod fa fb) := pp_bin op_mod (opd_I (fun _ j h => of_decide_eq_true (p := 0 < j) h) fun _ _ _ => .int _) ha hb
theorem pp_pow (ha : PP cl X a fa) (hb : PP cl X b fb) : PP cl X (.BinOp a .Pow b pos) (e2 dPow fa fb) := pp_bin op_pow (opd_I (fun i j h => of_decide_eq_true (p := 0 ≤ j ∧ j ≤ 1000000 ∧ i.natAbs < 2 ^ 64) h) fun _ _ _ => .int _) ha hb
theorem pp_lt (ha : PP cl X a fa) (hb : PP cl X b fb) : PP cl X (.Compare a [.Lt] [b] pos) (e2 dLt fa fb) := pp_cmp op_lt (opd_I0 fun _ _ _ => .bl _) ha hb (nomark _)
theorem pp_le (ha : PP cl X a fa) (hb : PP cl X b fb) : PP cl X (.Compare a [.LtE] [b] pos) (e2 dLe fa fb) := pp_cmp op_le (opd_I0 fun _ _ _ => .bl _) ha hb (nomark _)
theorem pp_gt (ha : PP cl X a fa) (hb : PP cl X b fb) : PP cl X (.Compare a [.Gt] [b] pos) (e2 dGt fa fb) := pp_cmp op_gt (opd_I0 fun _ _ _ => .bl _) ha hb (nomark _)
theorem pp_ge (ha : PP cl X a fa) (hb : PP cl X b fb) : PP cl X (.Compare a [.GtE] [b] pos) (e2 dGe fa fb) := pp_cmp op_ge (opd_I0 fun _ _ _ => .bl _) ha hb (nomark _)
/-- a < b < c of ints (also <= and so on) -/
def e3 (g g' : Dat → Dat → Option Dat) (fa fb fc : FE) : FE := fun δ => (fa δ).bind fun x => (fb δ).bind fun y => (g x y).bind fun z => match z with
  | .bl true => (fc δ).bind fun w => g' y w
  | .bl false => some (.bl false)
  | _ => none
theorem pp_chain {op op' : CmpOp} {r r' : R2} {g g' : Dat → Dat → Option Dat} (ho : OpR X (compareOp op) r) (ho' : OpR X (compareOp op') r') (hd : OpD X.K cl r g) (hd' : OpD X.K cl r' g') (ha : PP cl X a fa) (hb : PP cl X b fb) (hc : PP cl X c fc)
    (hm : lastMarks [op, op'] [b, c] = false := by with_unfolding_all rfl) : PP cl X (.Compare a [op, op'] [b, c] pos) (e3 g g' fa fb fc) := fun pins s σ H Q I h => by
  obtain ⟨δ, F, ω, d, hf, er, k⟩ := h
  unfold e3 at hf
  cases hx : fa δ with
  | none => rw [hx] at hf; cases hf
  | some x =>
    cases hy : fb δ with
    | none => rw [hx, hy] at hf; cases hf
    | some y =>
      rw [hx, hy] at hf
      simp only [Option.bind_some] at hf
      cases hz : g x y with
      | none => rw [hz] at hf; cases hf
      | some z =>
        rw [hz] at hf
        simp only [Option.bind_some] at hf
        refine pe_chain ho ho' ha hb hc hm pins s σ H Q I (tP2 hx hy er fun vx vy H2 F2 s1 g1 er2 rx ry => hd F2 H2 vx vy x y z _ hz er2.sub rx ry fun v H3 F3 s3 s3' g3 r3 => ?_)
        split at hf
        · refine ⟨true, r3.bl_inv, ?_⟩
          rw [if_pos rfl]
          cases hw : fc δ with
          | none => rw [hw] at hf; cases hf
          | some w =>
            rw [hw] at hf
            exact ⟨δ, F3, ω, w, hw, er2.grow s3 s3' g3, fun vw H4 F4 s4 s4' g4 r4 => hd' F4 H4 vy vw y w d Q hf s4' (ry.mono (g3.1.trans g4.1)) r4 (((k.step s1 g1).step s3 g3).step s4 g4)⟩
        · refine ⟨false, r3.bl_inv, ?_⟩
          rw [if_neg Bool.false_ne_true]
          cases hf
          exact k.step s1 g1 |>.step s3 g3 |>.here s3' (.bl false)
        · cases hf

/-! ### +, * -/
def dAdd : Dat → Dat → Option Dat
  | .int i, .int j => some (.int (i + j))
  | .str x, .str y => if x.length + y.length ≤ sizeLine then some (.str (x ++ y)) else none
  | .lst xs, .lst ys => if xs.length + ys.length ≤ sizeLine then some (.lst (xs ++ ys)) else none
  | _, _ => none
/-- list + list, lists that are read -/
theorem op_catS : OpR X (binaryOp .Add) (fun x y H Q => ∃ l b xs zs, x = .ref l ∧ y = .ref b ∧ SqL X.K H l xs ∧ SqL X.K H b zs ∧ xs.length + zs.length ≤ sizeLine ∧ ∀ p, H p = none → Q (.ref p) (upd H p (.lst (xs ++ zs)))) := by
  intro pins s σ H x y v u Q I rx ry h
  obtain ⟨l, b, xs, zs, rfl, rfl, hH, hB, hz, q⟩ := h
  cases rx
  cases ry
  obtain ⟨its, r, ⟨o1, n1, e1, c1, d1, z1⟩, _⟩ := I.list hH
  obtain ⟨its2, r2, ⟨o2, n2, e2, c2, d2, z2⟩, _⟩ := I.list hB
  have hl := r.length
  have hl2 := r2.length
  obtain ⟨cls, dd, data, sl⟩ := o1
  obtain ⟨cls2, dd2, data2, sl2⟩ := o2
  simp only at c1 z1 c2 z2
  subst c1 z1 c2 z2
  refine concat_meets ⟨_, e1, rfl⟩ ⟨_, e2, rfl⟩ noFill_list_add seq_list_add PySem.F.slot_list_add PySem.F.entry_list_add (PySem.F.args_list_add_2 _ _) (list_addW l b its.toArray its2.toArray n1 n2 dd dd2 sl sl2 (by rw [List.size_toArray, List.size_toArray]; omega)) ⟨e1, e2, ?_⟩
  have ea : its.toArray ++ its2.toArray = (its ++ its2).toArray := by simp
  rw [ea]
  exact ⟨.ref _, _, I.lnew (t' := s.toks) (r.append r2) (by rw [List.length_append]; omega), rfl, q _ I.fresh⟩
theorem pp_add (ha : PP cl X a fa) (hb : PP cl X b fb) : PP cl X (.BinOp a .Add b pos) (e2 dAdd fa fb) := fun pins s σ H Q I h => by
  obtain ⟨δ, F, ω, d, hf, er, k⟩ := h
  obtain ⟨x, y, hx, hy, hg⟩ := e2_some hf
  unfold dAdd at hg
  split at hg
  · cases hg
    exact pe_op op_add ha hb pins s σ H Q I (tP2 hx hy er fun vx vy H2 F2 s1 g1 er2 rx ry => ⟨_, _, rx.int_inv, ry.int_inv, (k.step s1 g1).here er2.sub (.int _)⟩)
  · split at hg
    · rename_i hl
      cases hg
      exact pe_op op_add_str ha hb pins s σ H Q I (tP2 hx hy er fun vx vy H2 F2 s1 g1 er2 rx ry => ⟨_, _, rx.str_inv, ry.str_inv, hl, (k.step s1 g1).here er2.sub (.str _)⟩)
    · cases hg
  · split at hg
    · rename_i hl
      cases hg
      refine pe_op op_catS ha hb pins s σ H Q I (tP2 hx hy er fun vx vy H2 F2 s1 g1 er2 rx ry => ?_)
      obtain ⟨p, vs, rfl, q1, r1⟩ := rx.lst_inv
      obtain ⟨p', ws, rfl, q2, r2⟩ := ry.lst_inv
      refine ⟨p, p', vs, ws, rfl, rfl, er2.sub.seq q1, er2.sub.seq q2, by rw [r1.length, r2.length]; exact hl, fun z hz => ?_⟩
      have sm : Same F2 (upd F2 z (.lst (vs ++ ws))) := same_upd (none_of er2.sub hz)
      exact (k.step s1 g1).new er2.sub hz (.lst' (SqL.of upd_same) (pappend (r1.mono sm) (r2.mono sm)))
    · cases hg
  · cases hg
def dMul : Dat → Dat → Option Dat := gI cMul fun i j => .int (i * j)
theorem pp_mul (ha : PP cl X a fa) (hb : PP cl X b fb) : PP cl X (.BinOp a .Mult b pos) (e2 dMul fa fb) := pp_bin op_mul (opd_I (fun i j h => of_decide_eq_true (p := (-(2 ^ 64) < i ∧ i < 2 ^ 64) ∨ (-(2 ^ 64) < j ∧ j < 2 ^ 64)) h) fun _ _ _ => .int _) ha hb

/-! ### argument lists, tuples, lists -/
abbrev FA := Sto → Option (List Dat)
def PostL (K : PySem.W.Frag) (cl : Nat → Addr) (F H : Hp) (ds : List Dat) (Q : List V → Hp → Prop) : Prop := ∀ vs H' F', Same H H' → Same F' H' → Grow F H F' → RepL K cl F' vs ds → Q vs H'
def tPA (K : PySem.W.Frag) (cl : Nat → Addr) (f : FA) : TA := fun σ H Q => ∃ δ F ω ds, f δ = some ds ∧ ER K cl F H ω σ δ ∧ PostL K cl F H ds Q
def PPA (cl : Nat → Addr) (X : Cx) (es : List Expr) (f : FA) : Prop := PA X es (tPA X.K cl f)
def aN : FA := fun _ => some []
def aC (f : FE) (g : FA) : FA := fun δ => (f δ).bind fun x => (g δ).bind fun xs => some (x :: xs)
theorem ppa_nil : PPA cl X [] aN := fun pos pins s σ H Q I h => by
  obtain ⟨δ, F, ω, ds, hf, er, k⟩ := h
  obtain rfl : [] = ds := Option.some.inj hf
  exact pa_nil pos pins s σ H Q I (k [] H F (Same.refl H) er.sub Grow.refl .nil)
theorem ppa_cons {es : List Expr} {g : FA} (ha : PP cl X a fa) (hr : PPA cl X es g) (hs : starEach (a :: es) X.env = (false, eval a X.env) :: starEach es X.env := by rfl) : PPA cl X (a :: es) (aC fa g) := fun pos pins s σ H Q I h => by
  obtain ⟨δ, F, ω, ds, hf, er, k⟩ := h
  unfold aC at hf
  cases hx : fa δ with
  | none => rw [hx] at hf; cases hf
  | some x =>
    cases hy : g δ with
    | none => rw [hx, hy] at hf; cases hf
    | some xs =>
      rw [hx, hy] at hf
      obtain rfl : x :: xs = ds := Option.some.inj hf
      exact pa_cons ha hr hs pos pins s σ H Q I ⟨δ, F, ω, x, hx, er, fun v H1 F1 s1 s1' g1 r1 => ⟨δ, F1, ω, xs, hy, er.grow s1 s1' g1, fun vs H2 F2 s2 s2' g2 r2 =>
        k (v :: vs) H2 F2 (s1.trans s2) s2' (g1.trans s1 g2) (.cons (r1.mono g2.1) r2)⟩⟩
def eT (g : FA) : FE := fun δ => (g δ).bind fun xs => if xs.length ≤ sizeLine then some (.tup xs) else none
def eL (g : FA) : FE := fun δ => (g δ).bind fun xs => if xs.length ≤ sizeLine then some (.lst xs) else none
theorem pp_tup {es : List Expr} {g : FA} {x1} (h : PPA cl X es g) : PP cl X (.Tuple es x1 pos) (eT g) := fun pins s σ H Q I hw => by
  obtain ⟨δ, F, ω, d, hf, er, k⟩ := hw
  unfold eT at hf
  cases hx : g δ with
  | none => rw [hx] at hf; cases hf
  | some xs =>
    rw [hx] at hf
    simp only [Option.bind_some] at hf
    split at hf
    · rename_i hl
      cases hf
      refine pe_tup h pins s σ H Q I ⟨δ, F, ω, xs, hx, er, fun vs H1 F1 s1 s1' g1 r1 => ⟨by rw [r1.length]; exact hl, fun p hp => ?_⟩⟩
      exact (k.step s1 g1).new s1' hp (.tup' upd_same (r1.mono (same_upd (none_of s1' hp))))
    · cases hf
theorem pp_lst {es : List Expr} {g : FA} (h : PPA cl X es g) : PP cl X (.List es pos) (eL g) := fun pins s σ H Q I hw => by
  obtain ⟨δ, F, ω, d, hf, er, k⟩ := hw
  unfold eL at hf
  cases hx : g δ with
  | none => rw [hx] at hf; cases hf
  | some xs =>
    rw [hx] at hf
    simp only [Option.bind_some] at hf
    split at hf
    · rename_i hl
      cases hf
      refine pe_lst h pins s σ H Q I ⟨δ, F, ω, xs, hx, er, fun vs H1 F1 s1 s1' g1 r1 => ⟨by rw [r1.length]; exact hl, fun p hp => ?_⟩⟩
      exact (k.step s1 g1).new s1' hp (.lst' (SqL.of upd_same) (r1.mono (same_upd (none_of s1' hp))))
    · cases hf

/-! ### dicts of data -/
def lookD {κ : Type} [DecidableEq κ] (kvs : List (κ × Dat)) (k : κ) : Option Dat := (kvs.find? fun kv => decide (kv.1 = k)).map (·.2)
def putD {κ : Type} [DecidableEq κ] (kvs : List (κ × Dat)) (k : κ) (v : Dat) : List (κ × Dat) :=
  if (kvs.any fun kv => decide (kv.1 = k)) = true then kvs.map (fun kv => if kv.1 = k then (kv.1, v) else kv) else kvs ++ [(k, v)]
theorem repK_look {κ : Type} [DecidableEq κ] {K : PySem.W.Frag} {F : Hp} {vs : List (κ × V)} {ds : List (κ × Dat)} (r : RepK K cl F vs ds) (k : κ) : (valV vs k = none ∧ lookD ds k = none) ∨ ∃ v d, valV vs k = some v ∧ lookD ds k = some d ∧ Rep K cl F v d := by
  induction r with
  | nil => exact .inl ⟨rfl, rfl⟩
  | @cons p q ps qs h _ ih =>
    by_cases e : p.1 = k
    · refine .inr ⟨p.2, q.2, valV_pos e, ?_, h.2⟩
      unfold lookD
      rw [List.find?_cons, decide_eq_true (show q.1 = k by rw [← h.1]; exact e)]
      rfl
    · have e' : ¬ q.1 = k := by rw [← h.1]; exact e
      rw [valV_neg e]
      have : lookD (q :: qs) k = lookD qs k := by
        unfold lookD
        rw [List.find?_cons, decide_eq_false e']
      rw [this]
      exact ih
theorem repK_any {κ : Type} [DecidableEq κ] {K : PySem.W.Frag} {F : Hp} {vs : List (κ × V)} {ds : List (κ × Dat)} (r : RepK K cl F vs ds) (k : κ) : (vs.any fun kv => decide (kv.1 = k)) = (ds.any fun kv => decide (kv.1 = k)) := by
  induction r with
  | nil => rfl
  | cons h _ ih => rw [List.any_cons, List.any_cons, ih, h.1]
theorem repK_put {κ : Type} [DecidableEq κ] {K : PySem.W.Frag} {F : Hp} {vs : List (κ × V)} {ds : List (κ × Dat)} {v : V} {d : Dat} (r : RepK K cl F vs ds) (k : κ) (rv : Rep K cl F v d) : RepK K cl F (putK vs k v) (putD ds k d) := by
  have rep : RepK K cl F (vs.map fun kv => if kv.1 = k then (kv.1, v) else kv) (ds.map fun kv => if kv.1 = k then (kv.1, d) else kv) := by
    induction r with
    | nil => exact .nil
    | @cons p q ps qs h _ ih =>
      refine .cons ?_ ih
      dsimp only
      rw [← h.1]
      split
      · exact ⟨rfl, rv⟩
      · exact h
  unfold putK putD
  rw [repK_any r k]
  split
  · exact rep
  · exact pappend r (.cons ⟨rfl, rv⟩ .nil)
/-- data that is a key -/
def keyD : Dat → Option Key
  | .int i => some (.inl i)
  | .str x => some (.inr x)
  | _ => none
theorem keyD_rep {K : PySem.W.Frag} {F : Hp} {v : V} {d : Dat} {k : Key} (r : Rep K cl F v d) (h : keyD d = some k) : v = kV k := by
  unfold keyD at h
  split at h
  · cases h; rw [r.int_inv]; rfl
  · cases h; rw [r.str_inv]; rfl
  · cases h
def keysD : List Dat → Option (List Key)
  | [] => some []
  | d :: ds => (keyD d).bind fun k => (keysD ds).bind fun ks => some (k :: ks)
theorem keysD_rep {K : PySem.W.Frag} {F : Hp} : ∀ {vs : List V} {ds : List Dat} {ks : List Key}, RepL K cl F vs ds → keysD ds = some ks → vs = ks.map kV
  | _, _, _, .nil, h => by cases h; rfl
  | _, _, ks, .cons r t, h => by
    unfold keysD at h
    rename_i v d vs ds
    cases hk : keyD d with
    | none => rw [hk] at h; cases h
    | some k =>
      rw [hk] at h
      cases hs : keysD ds with
      | none => rw [hs] at h; cases h
      | some ks' =>
        rw [hs] at h
        cases h
        rw [List.map_cons, keyD_rep r hk, keysD_rep t hs]
/-! ### subscripts -/
def dIx (x y : Dat) : Option Dat := match x with
  | .lst xs => (match y with | .int i => atI xs i | _ => none)
  | .tup xs => (match y with | .int i => atI xs i | _ => none)
  | .dT kvs => (match y with | .tup ys => (keysD ys).bind fun ks => lookD kvs ks | _ => none)
  | .dK kvs => (keyD y).bind fun k => lookD kvs k
  | _ => none
theorem atI_rep {K : PySem.W.Frag} {F : Hp} {vs : List V} {ds : List Dat} {i : Int} {d : Dat} (r : RepL K cl F vs ds) (h : atI ds i = some d) : ∃ v, atI vs i = some v ∧ Rep K cl F v d := by
  unfold atI at h ⊢
  rw [r.length]
  cases e : ixN ds.length i with
  | none => rw [e] at h; cases h
  | some j =>
    rw [e] at h
    exact pgetR j r h
theorem pp_ix (hu : X.A.units + 1 < cLine) (ha : PP cl X a fa) (hb : PP cl X b fb) (hs : PlainIx b) : PP cl X (.Subscript a b pos) (e2 dIx fa fb) := fun pins s σ H Q I h => by
  obtain ⟨δ, F, ω, d, hf, er, k⟩ := h
  obtain ⟨x, y, hx, hy, hg⟩ := e2_some hf
  unfold dIx at hg
  cases x with
  | lst xs =>
    cases y with
    | int j =>
      refine pe_ix ix_list ha hb hs pins s σ H Q I (tP2 hx hy er fun vx vy H2 F2 s1 g1 er2 rx ry => ?_)
      obtain ⟨p, vs, rfl, q1, r1⟩ := rx.lst_inv
      obtain ⟨v, hv, r⟩ := atI_rep r1 hg
      exact ⟨p, vs, _, v, rfl, ry.int_inv, er2.sub.seq q1, hv, (k.step s1 g1).here er2.sub r⟩
    | _ => cases hg
  | tup xs =>
    cases y with
    | int j =>
      refine pe_ix ix_tup ha hb hs pins s σ H Q I (tP2 hx hy er fun vx vy H2 F2 s1 g1 er2 rx ry => ?_)
      obtain ⟨p, vs, rfl, q1, r1⟩ := rx.tup_inv
      obtain ⟨v, hv, r⟩ := atI_rep r1 hg
      exact ⟨p, vs, _, v, rfl, ry.int_inv, SqT.of (er2.sub _ _ q1), hv, (k.step s1 g1).here er2.sub r⟩
    | _ => cases hg
  | dT kvs =>
    cases y with
    | tup ys =>
      dsimp only at hg
      cases hk : keysD ys with
      | none => rw [hk] at hg; cases hg
      | some kk =>
        rw [hk] at hg
        refine pe_dget hu ha hb hs pins s σ H Q I (tP2 hx hy er fun vx vy H2 F2 s1 g1 er2 rx ry => ?_)
        obtain ⟨p, ws, rfl, q1, r1⟩ := rx.dT_inv
        obtain ⟨p', vs, rfl, q2, r2⟩ := ry.tup_inv
        rcases repK_look r1 kk with ⟨_, n⟩ | ⟨v, d', h1, h2, r⟩
        · rw [show lookD kvs kk = some d from hg] at n; cases n
        · rw [show lookD kvs kk = some d from hg] at h2; cases h2
          have eb := er2.sub _ _ q2
          rw [keysD_rep r2 hk] at eb
          exact ⟨p, v, rfl, h1 ▸ DGet.t (er2.sub _ _ q1) eb, (k.step s1 g1).here er2.sub r⟩
    | _ => cases hg
  | dK kvs =>
    dsimp only at hg
    cases hk : keyD y with
    | none => rw [hk] at hg; cases hg
    | some kk =>
      rw [hk] at hg
      refine pe_dget hu ha hb hs pins s σ H Q I (tP2 hx hy er fun vx vy H2 F2 s1 g1 er2 rx ry => ?_)
      obtain ⟨p, ws, rfl, q1, r1⟩ := rx.dK_inv
      rcases repK_look r1 kk with ⟨_, n⟩ | ⟨v, d', h1, h2, r⟩
      · rw [show lookD kvs kk = some d from hg] at n; cases n
      · rw [show lookD kvs kk = some d from hg] at h2; cases h2
        rw [keyD_rep ry hk]
        exact ⟨p, v, rfl, h1 ▸ DGet.k (er2.sub _ _ q1), (k.step s1 g1).here er2.sub r⟩
  | _ => cases hg
end
end MB

namespace MB
open PySem PySem.Spec PyProof.Rows L2
/-! ### tests -/
abbrev FT := Sto → Option Bool
def tPT (K : PySem.W.Frag) (cl : Nat → Addr) (f : FT) : TT := fun σ H Q => ∃ δ F ω b, f δ = some b ∧ ER K cl F H ω σ δ ∧ ∀ H' F', Same H H' → Same F' H' → Grow F H F' → Q b H'
def PPT (cl : Nat → Addr) (X : Cx) (e : Expr) (f : FT) : Prop := PT X e (tPT X.K cl f)
def PPW (cl : Nat → Addr) (X : Cx) (e : Expr) (f : FT) : Prop := PW X e (tPT X.K cl f)
section
variable {cl : Nat → Addr} {X : Cx} {e a b c : Expr} {fa fb fc : FE} {ta tb tc : FT} {rest : List Expr} {pos : Pos}
def b1 (f : FE) : FT := fun δ => match f δ with | some (.bl b) => some b | _ => none
theorem b1_some {f : FE} {δ : Sto} {b : Bool} (h : b1 f δ = some b) : f δ = some (.bl b) := by
  unfold b1 at h
  split at h
  · rename_i b' e
    cases h
    exact e
  · cases h
theorem tp_test {K : PySem.W.Frag} {σ : St} {H : Hp} {Q : Bool → Hp → Prop} (h : tPT K cl (b1 fa) σ H Q) : tP K cl fa σ H fun x H' => ∃ k, x = .bl k ∧ Q k H' := by
  obtain ⟨δ, F, ω, b, hf, er, k⟩ := h
  exact ⟨δ, F, ω, _, b1_some hf, er, fun v H' F' s s' g r => ⟨b, r.bl_inv, k H' F' s s' g⟩⟩
/-- a value that is a bool, as a test (a call, a name) -/
theorem ppt_val (h : PP cl X e fa) (he : ∀ whole, isTrue e X.env whole = (do let v ← whole; standAt e.pos; holding [v] (truthy v)) := by intro _; rfl) : PPT cl X e (b1 fa) := fun pins s σ H Q I hw =>
  pt_val h he pins s σ H Q I (tp_test hw)
/-- a comparison as a test -/
theorem ppt_cmp {op : CmpOp} {r : R2} {g : Dat → Dat → Option Dat} (ho : OpR X (compareOp op) r) (hd : OpD X.K cl r g) (ha : PP cl X a fa) (hb : PP cl X b fb) (hm : behindInMarks op b = false) : PPT cl X (.Compare a [op] [b] pos) (b1 (e2 g fa fb)) := fun pins s σ H Q I h => by
  obtain ⟨δ, F, ω, d, hf, er, k⟩ := h
  obtain ⟨x, y, hx, hy, hg⟩ := e2_some (b1_some hf)
  exact pt_cmpR ho ha hb hm pins s σ H Q I (tP2 hx hy er fun vx vy H2 F2 s1 g1 er2 rx ry => hd F2 H2 vx vy x y _ _ hg er2.sub rx ry fun v H' F' s s' g r => ⟨d, r.bl_inv, k H' F' (s1.trans s) s' (g1.trans s1 g)⟩)
/-- any Compare, from its value -/
theorem ppt_of {op : CmpOp} (hm : behindInMarks op b = false) (h : PC X op a b (tP X.K cl fa)) : PPT cl X (.Compare a [op] [b] pos) (b1 fa) := fun pins s σ H Q I hw => pt_cmp h hm pins s σ H Q I (tp_test hw)
theorem ppt_chain {op op' : CmpOp} {r r' : R2} {g g' : Dat → Dat → Option Dat} (ho : OpR X (compareOp op) r) (ho' : OpR X (compareOp op') r') (hd : OpD X.K cl r g) (hd' : OpD X.K cl r' g') (ha : PP cl X a fa) (hb : PP cl X b fb) (hc : PP cl X c fc)
    (hm : lastMarks [op, op'] [b, c] = false := by with_unfolding_all rfl) : PPT cl X (.Compare a [op, op'] [b, c] pos) (b1 (e3 g g' fa fb fc)) := fun pins s σ H Q I h => by
  obtain ⟨δ, F, ω, bo, hf0, er, k⟩ := h
  have hf := b1_some hf0
  unfold e3 at hf
  cases hx : fa δ with
  | none => rw [hx] at hf; cases hf
  | some x =>
    cases hy : fb δ with
    | none => rw [hx, hy] at hf; cases hf
    | some y =>
      rw [hx, hy] at hf
      simp only [Option.bind_some] at hf
      cases hz : g x y with
      | none => rw [hz] at hf; cases hf
      | some z =>
        rw [hz] at hf
        simp only [Option.bind_some] at hf
        refine pt_chain ho ho' ha hb hc hm pins s σ H Q I (tP2 hx hy er fun vx vy H2 F2 s1 g1 er2 rx ry => hd F2 H2 vx vy x y z _ hz er2.sub rx ry fun v H3 F3 s3 s3' g3 r3 => ?_)
        split at hf
        · refine ⟨true, r3.bl_inv, ?_⟩
          rw [if_pos rfl]
          cases hw : fc δ with
          | none => rw [hw] at hf; cases hf
          | some w =>
            rw [hw] at hf
            exact ⟨δ, F3, ω, w, hw, er2.grow s3 s3' g3, fun vw H4 F4 s4 s4' g4 r4 => hd' F4 H4 vy vw y w _ _ hf s4' (ry.mono (g3.1.trans g4.1)) r4
              fun v5 H5 F5 s5 s5' g5 r5 => ⟨bo, r5.bl_inv, k H5 F5 (((s1.trans s3).trans s4).trans s5) s5' (((g1.trans s1 g3).trans (s1.trans s3) g4).trans ((s1.trans s3).trans s4) g5)⟩⟩
        · refine ⟨false, r3.bl_inv, ?_⟩
          rw [if_neg Bool.false_ne_true]
          cases hf
          exact ⟨false, rfl, k H3 F3 (s1.trans s3) s3' (g1.trans s1 g3)⟩
        · cases hf
def bNot (t : FT) : FT := fun δ => (t δ).map (!·)
def bAnd (t u : FT) : FT := fun δ => (t δ).bind fun c => if c = true then u δ else some false
def bOr (t u : FT) : FT := fun δ => (t δ).bind fun c => if c = true then some true else u δ
theorem ppt_not (ha : PPT cl X a ta) : PPT cl X (.UnaryOp .Not a pos) (bNot ta) := fun pins s σ H Q I h => by
  obtain ⟨δ, F, ω, b, hf, er, k⟩ := h
  unfold bNot at hf
  cases hx : ta δ with
  | none => rw [hx] at hf; cases hf
  | some x =>
    rw [hx] at hf
    obtain rfl : (!x) = b := Option.some.inj hf
    exact pt_not ha pins s σ H Q I ⟨δ, F, ω, x, hx, er, k⟩
theorem ppw_and1 (ha : PPT cl X a ta) : PPW cl X (.BoolOp .And [a] pos) ta := pw_and1 ha
theorem ppw_or1 (ha : PPT cl X a ta) : PPW cl X (.BoolOp .Or [a] pos) ta := pw_or1 ha
theorem ppw_and (ha : PPT cl X a ta) (hb : PPW cl X (.BoolOp .And (b :: rest) pos) tb) : PPW cl X (.BoolOp .And (a :: b :: rest) pos) (bAnd ta tb) := fun wh pins s σ H Q I h => by
  obtain ⟨δ, F, ω, bo, hf, er, k⟩ := h
  unfold bAnd at hf
  cases hx : ta δ with
  | none => rw [hx] at hf; cases hf
  | some x =>
    rw [hx] at hf
    refine pw_and ha hb wh pins s σ H Q I ⟨δ, F, ω, x, hx, er, fun H1 F1 s1 s1' g1 => ?_⟩
    cases x with
    | true => exact ⟨δ, F1, ω, bo, hf, er.grow s1 s1' g1, fun H2 F2 s2 s2' g2 => k H2 F2 (s1.trans s2) s2' (g1.trans s1 g2)⟩
    | false => cases hf; exact k H1 F1 s1 s1' g1
theorem ppw_or (ha : PPT cl X a ta) (hb : PPW cl X (.BoolOp .Or (b :: rest) pos) tb) : PPW cl X (.BoolOp .Or (a :: b :: rest) pos) (bOr ta tb) := fun wh pins s σ H Q I h => by
  obtain ⟨δ, F, ω, bo, hf, er, k⟩ := h
  unfold bOr at hf
  cases hx : ta δ with
  | none => rw [hx] at hf; cases hf
  | some x =>
    rw [hx] at hf
    refine pw_or ha hb wh pins s σ H Q I ⟨δ, F, ω, x, hx, er, fun H1 F1 s1 s1' g1 => ?_⟩
    cases x with
    | false => exact ⟨δ, F1, ω, bo, hf, er.grow s1 s1' g1, fun H2 F2 s2 s2' g2 => k H2 F2 (s1.trans s2) s2' (g1.trans s1 g2)⟩
    | true => cases hf; exact k H1 F1 s1 s1' g1
theorem PPW.pt (h : PPW cl X e ta) : PPT cl X e ta := h _
/-- and, or, not as values (bools) -/
def eAnd (fa fb : FE) : FE := fun δ => (fa δ).bind fun x => match x with | .bl true => fb δ | .bl false => some (.bl false) | _ => none
def eOr (fa fb : FE) : FE := fun δ => (fa δ).bind fun x => match x with | .bl true => some (.bl true) | .bl false => fb δ | _ => none
def dNot : Dat → Option Dat | .bl b => some (.bl (!b)) | _ => none
theorem pp_one {op} (h : PP cl X a fa) : PP cl X (.BoolOp op [a] pos) fa := pe_one h
theorem pp_and (ha : PP cl X a fa) (hb : PP cl X (.BoolOp .And (b :: rest) pos) fb) : PP cl X (.BoolOp .And (a :: b :: rest) pos) (eAnd fa fb) := fun pins s σ H Q I h => by
  obtain ⟨δ, F, ω, d, hf, er, k⟩ := h
  unfold eAnd at hf
  cases hx : fa δ with
  | none => rw [hx] at hf; cases hf
  | some x =>
    rw [hx] at hf
    simp only [Option.bind_some] at hf
    refine pe_and ha hb pins s σ H Q I ⟨δ, F, ω, x, hx, er, fun v H1 F1 s1 s1' g1 r1 => ?_⟩
    split at hf
    · refine ⟨true, r1.bl_inv, ?_⟩
      rw [if_pos rfl]
      exact ⟨δ, F1, ω, d, hf, er.grow s1 s1' g1, k.step s1 g1⟩
    · refine ⟨false, r1.bl_inv, ?_⟩
      rw [if_neg Bool.false_ne_true]
      cases hf
      exact (k.step s1 g1).here s1' (.bl false)
    · cases hf
theorem pp_or (ha : PP cl X a fa) (hb : PP cl X (.BoolOp .Or (b :: rest) pos) fb) : PP cl X (.BoolOp .Or (a :: b :: rest) pos) (eOr fa fb) := fun pins s σ H Q I h => by
  obtain ⟨δ, F, ω, d, hf, er, k⟩ := h
  unfold eOr at hf
  cases hx : fa δ with
  | none => rw [hx] at hf; cases hf
  | some x =>
    rw [hx] at hf
    simp only [Option.bind_some] at hf
    refine pe_or ha hb pins s σ H Q I ⟨δ, F, ω, x, hx, er, fun v H1 F1 s1 s1' g1 r1 => ?_⟩
    split at hf
    · refine ⟨true, r1.bl_inv, ?_⟩
      rw [if_pos rfl]
      cases hf
      exact (k.step s1 g1).here s1' (.bl true)
    · refine ⟨false, r1.bl_inv, ?_⟩
      rw [if_neg Bool.false_ne_true]
      exact ⟨δ, F1, ω, d, hf, er.grow s1 s1' g1, k.step s1 g1⟩
    · cases hf
theorem pp_not (ha : PP cl X a fa) : PP cl X (.UnaryOp .Not a pos) (e1 dNot fa) := fun pins s σ H Q I h => by
  obtain ⟨δ, F, ω, d, hf, er, k⟩ := h
  obtain ⟨x, hx, hg⟩ := e1_some hf
  refine pe_not ha pins s σ H Q I ⟨δ, F, ω, x, hx, er, fun v H1 F1 s1 s1' g1 r1 => ?_⟩
  unfold dNot at hg
  split at hg
  · cases hg
    exact ⟨_, r1.bl_inv, (k.step s1 g1).here s1' (.bl _)⟩
  · cases hg
/-- a if t else b -/
def eIf (t : FT) (fa fb : FE) : FE := fun δ => (t δ).bind fun c => if c = true then fa δ else fb δ
theorem pp_if (hc : PPT cl X c tc) (ha : PP cl X a fa) (hb : PP cl X b fb) : PP cl X (.IfExp c a b pos) (eIf tc fa fb) := fun pins s σ H Q I h => by
  obtain ⟨δ, F, ω, d, hf, er, k⟩ := h
  unfold eIf at hf
  cases hx : tc δ with
  | none => rw [hx] at hf; cases hf
  | some x =>
    rw [hx] at hf
    refine pe_ifExp hc ha hb pins s σ H Q I ⟨δ, F, ω, x, hx, er, fun H1 F1 s1 s1' g1 => ?_⟩
    cases x with
    | true => rw [if_pos rfl]; exact ⟨δ, F1, ω, d, hf, er.grow s1 s1' g1, k.step s1 g1⟩
    | false => rw [if_neg Bool.false_ne_true]; exact ⟨δ, F1, ω, d, hf, er.grow s1 s1' g1, k.step s1 g1⟩

/-! ### == and != at any depth -/
def eqL (f : Dat → Dat → Option Bool) : List Dat → List Dat → Option Bool
  | [], [] => some true
  | x :: xs, y :: ys => (f x y).bind fun a => (eqL f xs ys).bind fun b => some (a && b)
  | _, _ => some false
def eqS (f : Dat → Dat → Option Bool) : Dat → Dat → Option Bool
  | .int a, .int b => some (a == b)
  | .str a, .str b => some (a == b)
  | .bl a, .bl b => some (a == b)
  | .non, .non => some true
  | .int _, .str _ => some false
  | .str _, .int _ => some false
  | .tup xs, .tup ys => eqL f xs ys
  | .lst xs, .lst ys => eqL f xs ys
  | _, _ => none
def eqN : Nat → Dat → Dat → Option Bool
  | 0 => fun _ _ => none
  | n + 1 => eqS (eqN n)
def pick (f : Dat → Dat → Option Bool) (xs ys : List Dat) (j : Nat) : Bool := match xs[j]?, ys[j]? with
  | some x, some y => (f x y).getD false
  | _, _ => false
theorem eqL_spec {f : Dat → Dat → Option Bool} : ∀ {xs ys : List Dat} {e : Bool}, eqL f xs ys = some e →
    (∀ (j : Nat) (x y : Dat), xs[j]? = some x → ys[j]? = some y → f x y = some (pick f xs ys j)) ∧ e = ((List.range (min xs.length ys.length)).all (pick f xs ys) && xs.length == ys.length)
  | [], [], e, h => by
    cases h
    exact ⟨fun j x y hx => by simp at hx, rfl⟩
  | [], y :: ys, e, h => by
    cases h
    exact ⟨fun j x y hx => by simp at hx, by simp⟩
  | x :: xs, [], e, h => by
    cases h
    exact ⟨fun j x y _ hy => by simp at hy, by simp⟩
  | x :: xs, y :: ys, e, h => by
    unfold eqL at h
    cases ha : f x y with
    | none => rw [ha] at h; cases h
    | some a =>
      rw [ha] at h
      cases hb : eqL f xs ys with
      | none => rw [hb] at h; cases h
      | some b =>
        rw [hb] at h
        obtain rfl : (a && b) = e := Option.some.inj h
        obtain ⟨h1, h2⟩ := eqL_spec hb
        have p0 : pick f (x :: xs) (y :: ys) 0 = a := by simp [pick, ha]
        have pS : ∀ j, pick f (x :: xs) (y :: ys) (j + 1) = pick f xs ys j := fun j => by simp [pick]
        refine ⟨fun j x' y' hx hy => ?_, ?_⟩
        · cases j with
          | zero => simp at hx hy; subst hx hy; rw [p0]; exact ha
          | succ j => rw [pS]; exact h1 j x' y' (by simpa using hx) (by simpa using hy)
        · have hm : min (x :: xs).length (y :: ys).length = min xs.length ys.length + 1 := by simp only [List.length_cons]; omega
          rw [hm, List.range_succ_eq_map, List.all_cons, p0, List.all_map, h2]
          have : (pick f (x :: xs) (y :: ys) ∘ Nat.succ) = pick f xs ys := funext fun j => pS j
          rw [this, Bool.and_assoc]
          simp
/-- two data that one value stands for -/
theorem eqN_same {K : PySem.W.Frag} {F : Hp} (inj : ∀ a xs ys, SqL K F a xs → SqL K F a ys → xs = ys) : ∀ (n : Nat) (v : V) (a b : Dat) (e : Bool), Rep K cl F v a → Rep K cl F v b → eqN n a b = some e → e = true := by
  intro n
  have key : ∀ (f : Dat → Dat → Option Bool), (∀ (v : V) (a b : Dat) (e : Bool), Rep K cl F v a → Rep K cl F v b → f a b = some e → e = true) →
      ∀ (vs : List V) (xs ys : List Dat) (e : Bool), RepL K cl F vs xs → RepL K cl F vs ys → eqL f xs ys = some e → e = true := by
    intro f hf vs
    induction vs with
    | nil =>
      intro xs ys e r1 r2 h
      cases r1
      cases r2
      cases h
      rfl
    | cons v vs ih =>
      intro xs ys e r1 r2 h
      cases r1 with
      | @cons _ x _ xs p1 t1 =>
        cases r2 with
        | @cons _ y _ ys p2 t2 =>
          unfold eqL at h
          cases ha : f x y with
          | none => rw [ha] at h; cases h
          | some a =>
            rw [ha] at h
            cases hb : eqL f xs ys with
            | none => rw [hb] at h; cases h
            | some b =>
              rw [hb] at h
              obtain rfl : (a && b) = e := Option.some.inj h
              rw [hf v x y a p1 p2 ha, ih xs ys b t1 t2 hb]
              rfl
  induction n with
  | zero => intro v a b e r1 r2 h; cases h
  | succ n ih =>
    intro v a b e r1 r2 h
    unfold eqN eqS at h
    split at h
    · cases h; cases r1; cases r2; simp
    · cases h; cases r1; cases r2; simp
    · cases h; cases r1; cases r2; simp
    · cases h; rfl
    · cases r1; cases r2
    · cases r1; cases r2
    · rename_i xs ys
      obtain ⟨p, vs, rfl, q1, t1⟩ := r1.tup_inv
      obtain ⟨p', vs', e', q2, t2⟩ := r2.tup_inv
      cases e'
      rw [q1] at q2
      cases q2
      exact key (eqN n) ih vs xs ys e t1 t2 h
    · rename_i xs ys
      obtain ⟨p, vs, rfl, q1, t1⟩ := r1.lst_inv
      obtain ⟨p', vs', e', q2, t2⟩ := r2.lst_inv
      cases e'
      cases inj _ _ _ q1 q2
      exact key (eqN n) ih vs xs ys e t1 t2 h
    · cases h
end
end MB

namespace MB
open PySem PySem.Spec PyProof.Rows L2
/-! ### statements -/
inductive Out where
  | nx (δ : Sto) | rt (d : Dat) | bk (δ : Sto) | ct (δ : Sto) | ro (x : O0)
abbrev FS := Sto → Option Out
structure SR (K : PySem.W.Frag) (cl : Nat → Addr) (B F0 P : Hp) (δ : Sto) (σ : St) (H F : Hp) (ω : Addr → Option Lab) : Prop where
  er : ER K cl F H ⟨ω, fun i => i⟩ σ δ
  base : Same B H
  grow : Grow F0 B F
  pin : Same P F
  fresh : ∀ a l, ω a = some l → B a = none
def SRe (K : PySem.W.Frag) (cl : Nat → Addr) (B F0 P : Hp) (δ : Sto) (σ : St) (H : Hp) : Prop := ∃ F ω, SR K cl B F0 P δ σ H F ω
def RT (K : PySem.W.Frag) (cl : Nat → Addr) (B F0 : Hp) (d : Dat) (v : V) (H : Hp) : Prop := ∃ F, Same B H ∧ Same F H ∧ Grow F0 B F ∧ Rep K cl F v d
/-- a list or dict that is handed back, held by nobody else -/
def RTO (K : PySem.W.Frag) (cl : Nat → Addr) (B F0 : Hp) (x : O0) (v : V) (H : Hp) : Prop := ∃ (F : Hp) (ω : Addr → Option Lab) (l : Lab), Same B H ∧ Same F H ∧ Grow F0 B F ∧ (∀ a, ω a = some l → F a = none ∧ B a = none) ∧ O0R K cl F H ω l v x
def OutD (K : PySem.W.Frag) (cl : Nat → Addr) (B F0 P : Hp) (o : Out) (D : Ends) : Prop := match o with
  | .nx δ => ∀ σ H, SRe K cl B F0 P δ σ H → D.nx σ H
  | .rt d => ∀ v H, RT K cl B F0 d v H → D.rt v H
  | .bk δ => ∀ σ H, SRe K cl B F0 P δ σ H → D.bk σ H
  | .ct δ => ∀ σ H, SRe K cl B F0 P δ σ H → D.ct σ H
  | .ro x => ∀ v H, RTO K cl B F0 x v H → D.rt v H
def tS (K : PySem.W.Frag) (cl : Nat → Addr) (f : FS) : TS := fun D σ H => ∃ B F0 P δ o, f δ = some o ∧ SRe K cl B F0 P δ σ H ∧ OutD K cl B F0 P o D
def PB1 (cl : Nat → Addr) (X : Cx) (st : Stmt) (f : FS) : Prop := PS X st (tS X.K cl f)
def PB (cl : Nat → Addr) (X : Cx) (sts : List Stmt) (f : FS) : Prop := PSs X sts (tS X.K cl f)
section
variable {K : PySem.W.Frag} {cl : Nat → Addr} {B F0 P F F' H H' : Hp} {ω ω' : Addr → Option Lab} {σ : St} {δ : Sto} {i j : Nat} {p : Addr} {o : HO} {l l' : Lab} {v : V} {x : O0} {s : Slot} {d : Dat}
theorem SR.step (sr : SR K cl B F0 P δ σ H F ω) (a : Same H H') (b : Same F' H') (g : Grow F H F') : SR K cl B F0 P δ σ H' F' ω :=
  ⟨sr.er.grow a b g, sr.base.trans a, sr.grow.trans sr.base g, sr.pin.trans g.1, sr.fresh⟩
theorem SR.set (sr : SR K cl B F0 P δ σ H F ω) (h : SlotR K cl F H ω i (some (some v)) s) : SR K cl B F0 P (δ.set i s) (σ.set i (some v)) H F ω := ⟨sr.er.set h, sr.base, sr.grow, sr.pin, sr.fresh⟩
theorem O0R.lab (w : ∀ a l, ω a = some l → ω' a = some l) (r : O0R K cl F H ω l v x) : O0R K cl F H ω' l v x := by
  cases x with
  | val d => exact r
  | lst xs => obtain ⟨p, vs, e, z, h, q⟩ := r; exact ⟨p, vs, e, w _ _ z, h, q⟩
  | dK kvs => obtain ⟨p, vs, e, z, h, q⟩ := r; exact ⟨p, vs, e, w _ _ z, h, q⟩
  | dT kvs => obtain ⟨p, vs, e, z, h, q⟩ := r; exact ⟨p, vs, e, w _ _ z, h, q⟩
theorem SlotR.lab {ov : Option (Option V)} (w : ∀ a l, ω a = some l → ω' a = some l) (r : SlotR K cl F H ω i ov s) : SlotR K cl F H ω' i ov s := by
  cases s with
  | no => exact True.intro
  | o x => obtain ⟨v, e, q⟩ := r; exact ⟨v, e, q.lab w⟩
  | rcd kvs => obtain ⟨p, vs, e, z, h, n, q⟩ := r; exact ⟨p, vs, e, w _ _ z, h, n, pimp (fun _ _ t => ⟨t.1, t.2.lab w⟩) q⟩
def updL (ω : Addr → Option Lab) (p : Addr) (l : Lab) : Addr → Option Lab := fun a => if a = p then some l else ω a
theorem updL_same : updL ω p l p = some l := by unfold updL; rw [if_pos rfl]
theorem updL_ne {a : Addr} (h : a ≠ p) : updL ω p l a = ω a := by unfold updL; rw [if_neg h]
/-- a new object that is ours -/
theorem SR.own (sr : SR K cl B F0 P δ σ H F ω) (hp : H p = none) : SR K cl B F0 P δ σ (upd H p o) F (updL ω p l) := by
  have keep : ∀ a l', ω a = some l' → updL ω p l a = some l' := fun a l' e => by
    obtain ⟨_, o', h⟩ := sr.er.own a l' e
    rw [updL_ne (ne_of_none h hp)]
    exact e
  refine ⟨⟨sr.er.sub.trans (same_upd hp), fun a l' e => ?_, sr.er.len, fun j t ht => ((sr.er.at_ j t ht).lab keep).grow (same_upd hp) (Same.refl F)⟩, sr.base.trans (same_upd hp), sr.grow, sr.pin, fun a l' e => ?_⟩
  · by_cases ha : a = p
    · subst ha; exact ⟨none_of sr.er.sub hp, o, upd_same⟩
    · have e' : ω a = some l' := (updL_ne (ω := ω) (l := l) ha).symm.trans e
      obtain ⟨h1, o', h2⟩ := sr.er.own a l' e'
      exact ⟨h1, o', by rw [upd_ne ha]; exact h2⟩
  · by_cases ha : a = p
    · subst ha; exact none_of sr.base hp
    · rw [updL_ne ha] at e; exact sr.fresh a l' e
theorem O0R.other (hp : ω p = some l') (hl : l ≠ l') (r : O0R K cl F H ω l v x) : O0R K cl F (upd H p o) ω l v x := by
  have ne : ∀ q, ω q = some l → q ≠ p := fun q e z => by subst z; rw [e] at hp; exact hl (Option.some.inj hp)
  cases x with
  | val d => exact r
  | lst xs => obtain ⟨q, vs, e, z, h, t⟩ := r; exact ⟨q, vs, e, z, by rw [upd_ne (ne q z)]; exact h, t⟩
  | dK kvs => obtain ⟨q, vs, e, z, h, t⟩ := r; exact ⟨q, vs, e, z, by rw [upd_ne (ne q z)]; exact h, t⟩
  | dT kvs => obtain ⟨q, vs, e, z, h, t⟩ := r; exact ⟨q, vs, e, z, by rw [upd_ne (ne q z)]; exact h, t⟩
theorem SlotR.other {ov : Option (Option V)} (hp : ω p = some l') (hl : i ≠ l'.1) (r : SlotR K cl F H ω i ov s) : SlotR K cl F (upd H p o) ω i ov s := by
  cases s with
  | no => exact True.intro
  | o x => obtain ⟨v, e, q⟩ := r; exact ⟨v, e, q.other hp fun z => hl (by rw [← z])⟩
  | rcd kvs =>
    obtain ⟨q, vs, e, z, h, n, t⟩ := r
    refine ⟨q, vs, e, z, ?_, n, pimp (fun _ _ t => ⟨t.1, t.2.other hp fun z => hl (by rw [← z])⟩) t⟩
    rw [upd_ne fun y => by subst y; rw [z] at hp; exact hl (by rw [← Option.some.inj hp])]
    exact h
/-- an object of ours, of slot i, is changed -/
theorem SR.put (sr : SR K cl B F0 P δ σ H F ω) (hp : ω p = some (i, l.2)) (h : SlotR K cl F (upd H p o) ω i σ[i]? s) (hi : i < δ.length) : SR K cl B F0 P (δ.set i s) σ (upd H p o) F ω := by
  have np : ∀ b ob, F b = some ob → b ≠ p := fun b ob e z => by subst z; rw [(sr.er.own b _ hp).1] at e; cases e
  have nb : ∀ b ob, B b = some ob → b ≠ p := fun b ob e z => by subst z; rw [sr.fresh b _ hp] at e; cases e
  refine ⟨⟨fun b ob e => by rw [upd_ne (np b ob e)]; exact sr.er.sub b ob e, fun a l' e => ?_, by rw [List.length_set]; exact sr.er.len, fun j t ht => ?_⟩, fun b ob e => by rw [upd_ne (nb b ob e)]; exact sr.base b ob e, sr.grow, sr.pin, sr.fresh⟩
  · obtain ⟨h1, o', h2⟩ := sr.er.own a l' e
    by_cases ha : a = p
    · subst ha; exact ⟨h1, o, upd_same⟩
    · exact ⟨h1, o', by rw [upd_ne ha]; exact h2⟩
  · by_cases hj : i = j
    · subst hj
      rw [List.getElem?_set_self hi] at ht
      cases ht
      exact h
    · rw [List.getElem?_set_ne hj] at ht
      exact (sr.er.at_ j t ht).other hp fun z => hj z.symm
/-! freeze: what was made is now data -/
def O0.frz : O0 → Dat
  | .val d => d
  | .lst xs => .lst xs
  | .dK kvs => .dK kvs
  | .dT kvs => .dT kvs
def Slot.frz : Slot → Slot
  | .no => .no
  | .o x => .o (.val x.frz)
  | .rcd kvs => .o (.val (.dK (kvs.map fun kv => (kv.1, kv.2.frz))))
def frzS (i : Nat) (δ : Sto) : Sto := match δ[i]? with
  | some s => δ.set i s.frz
  | none => δ
def frzF (i : Nat) (ω : Addr → Option Lab) (F H : Hp) : Hp := fun a => match ω a with
  | some l => if l.1 = i then H a else F a
  | none => F a
def frzL (i : Nat) (ω : Addr → Option Lab) : Addr → Option Lab := fun a => match ω a with
  | some l => if l.1 = i then none else some l
  | none => none
theorem frzF_pos {a : Addr} (h : ω a = some l) (e : l.1 = i) : frzF i ω F H a = H a := by unfold frzF; rw [h]; exact if_pos e
theorem frzF_neg {a : Addr} (h : ω a = some l) (e : l.1 ≠ i) : frzF i ω F H a = F a := by unfold frzF; rw [h]; exact if_neg e
theorem frzF_none {a : Addr} (h : ω a = none) : frzF i ω F H a = F a := by unfold frzF; rw [h]
theorem frzL_some {a : Addr} (h : frzL i ω a = some l) : ω a = some l ∧ l.1 ≠ i := by
  unfold frzL at h
  cases e : ω a with
  | none => rw [e] at h; cases h
  | some l' =>
    rw [e] at h
    by_cases q : l'.1 = i
    · rw [show (match some l' with | some l => if l.1 = i then none else some l | none => none) = (none : Option Lab) from if_pos q] at h; cases h
    · rw [show (match some l' with | some l => if l.1 = i then none else some l | none => none) = some l' from if_neg q] at h
      cases h
      exact ⟨rfl, q⟩
theorem frzL_keep {a : Addr} (h : ω a = some l) (e : l.1 ≠ i) : frzL i ω a = some l := by unfold frzL; rw [h]; exact if_neg e
theorem O0R.frz (w : ∀ a k, ω a = some (i, k) → F' a = H a) (s : Same F F') {k : Option Key} (r : O0R K cl F H ω (i, k) v x) : Rep K cl F' v x.frz := by
  cases x with
  | val d => exact Rep.mono s r
  | lst xs => obtain ⟨p, vs, rfl, z, h, q⟩ := r; exact .lst' (SqL.of ((w p _ z).trans h)) (q.mono s)
  | dK kvs => obtain ⟨p, vs, rfl, z, h, q⟩ := r; exact .dK' ((w p _ z).trans h) (RepK.mono s q)
  | dT kvs => obtain ⟨p, vs, rfl, z, h, q⟩ := r; exact .dT' ((w p _ z).trans h) (RepK.mono s q)
theorem rcd_frz (w : ∀ a k, ω a = some (i, k) → F' a = H a) (s : Same F F') {vs : List (Key × V)} {kvs : List (Key × O0)} (q : Paired (fun (x : Key × V) (y : Key × O0) => x.1 = y.1 ∧ O0R K cl F H ω (i, some y.1) x.2 y.2) vs kvs) :
    RepK K cl F' vs (kvs.map fun kv => (kv.1, kv.2.frz)) := by
  induction q with
  | nil => exact .nil
  | cons t _ ih => exact .cons ⟨t.1, t.2.frz w s⟩ ih
theorem SR.frz (sr : SR K cl B F0 P δ σ H F ω) (i : Nat) : SR K cl B F0 P (frzS i δ) σ H (frzF i ω F H) (frzL i ω) := by
  have sF : Same F (frzF i ω F H) := fun a ob e => by
    cases q : ω a with
    | none => rw [frzF_none q]; exact e
    | some l => rw [(sr.er.own a l q).1] at e; cases e
  have sH : Same (frzF i ω F H) H := fun a ob e => by
    cases q : ω a with
    | none => rw [frzF_none q] at e; exact sr.er.sub a ob e
    | some l =>
      by_cases c : l.1 = i
      · rw [frzF_pos q c] at e; exact e
      · rw [frzF_neg q c] at e; exact sr.er.sub a ob e
  have wF : ∀ a k, ω a = some (i, k) → frzF i ω F H a = H a := fun a k e => frzF_pos e rfl
  refine ⟨⟨sH, fun a l e => ?_, ?_, fun j t ht => ?_⟩, sr.base, ⟨sr.grow.1.trans sF, fun a ob h e => ?_⟩, sr.pin.trans sF, fun a l e => sr.fresh a l (frzL_some e).1⟩
  · obtain ⟨q, c⟩ := frzL_some e
    obtain ⟨h1, o', h2⟩ := sr.er.own a l q
    exact ⟨by rw [frzF_neg q c]; exact h1, o', h2⟩
  · unfold frzS
    split
    · rw [List.length_set]; exact sr.er.len
    · exact sr.er.len
  · unfold frzS at ht
    cases hi : δ[i]? with
    | none =>
      rw [hi] at ht
      have hj : j ≠ i := fun z => by subst z; rw [hi] at ht; cases ht
      have r := sr.er.at_ j t ht
      cases t with
      | no => exact True.intro
      | o x => 
        obtain ⟨v, e, q⟩ := r
        refine ⟨v, e, ?_⟩
        have q' := q.grow (Same.refl H) sF
        cases x with
        | val d => exact q'
        | lst xs => obtain ⟨p, vs, e, z, h, q⟩ := q'; exact ⟨p, vs, e, frzL_keep z hj, h, q⟩
        | dK xs => obtain ⟨p, vs, e, z, h, q⟩ := q'; exact ⟨p, vs, e, frzL_keep z hj, h, q⟩
        | dT xs => obtain ⟨p, vs, e, z, h, q⟩ := q'; exact ⟨p, vs, e, frzL_keep z hj, h, q⟩
      | rcd kvs =>
        obtain ⟨p, vs, e, z, h, n, q⟩ := r
        refine ⟨p, vs, e, frzL_keep z hj, h, n, pimp (fun a b t => ⟨t.1, ?_⟩) q⟩
        have q' := t.2.grow (Same.refl H) sF
        revert q'
        cases b.2 with
        | val d => exact fun q' => q'
        | lst xs => intro q'; obtain ⟨p, vs, e, z, h, q⟩ := q'; exact ⟨p, vs, e, frzL_keep z hj, h, q⟩
        | dK xs => intro q'; obtain ⟨p, vs, e, z, h, q⟩ := q'; exact ⟨p, vs, e, frzL_keep z hj, h, q⟩
        | dT xs => intro q'; obtain ⟨p, vs, e, z, h, q⟩ := q'; exact ⟨p, vs, e, frzL_keep z hj, h, q⟩
    | some s0 =>
      rw [hi] at ht
      by_cases hj : i = j
      · subst hj
        have hil : i < δ.length := (List.getElem?_eq_some_iff.mp hi).1
        have ht' : some s0.frz = some t := by rw [← ht]; exact (List.getElem?_set_self hil).symm
        cases ht'
        have r := sr.er.at_ i s0 hi
        cases s0 with
        | no => exact True.intro
        | o x => obtain ⟨v, e, q⟩ := r; exact ⟨v, e, q.frz wF sF⟩
        | rcd kvs =>
          obtain ⟨p, vs, e, z, h, n, q⟩ := r
          exact ⟨.ref p, e, Rep.dK' ((wF p _ z).trans h) (rcd_frz wF sF q)⟩
      · have ht' : δ[j]? = some t := by rw [← ht]; exact (List.getElem?_set_ne hj).symm
        have hj' : j ≠ i := Ne.symm hj
        have r := sr.er.at_ j t ht'
        cases t with
        | no => exact True.intro
        | o x => 
          obtain ⟨v, e, q⟩ := r
          refine ⟨v, e, ?_⟩
          have q' := q.grow (Same.refl H) sF
          cases x with
          | val d => exact q'
          | lst xs => obtain ⟨p, vs, e, z, h, q⟩ := q'; exact ⟨p, vs, e, frzL_keep z hj', h, q⟩
          | dK xs => obtain ⟨p, vs, e, z, h, q⟩ := q'; exact ⟨p, vs, e, frzL_keep z hj', h, q⟩
          | dT xs => obtain ⟨p, vs, e, z, h, q⟩ := q'; exact ⟨p, vs, e, frzL_keep z hj', h, q⟩
        | rcd kvs =>
          obtain ⟨p, vs, e, z, h, n, q⟩ := r
          refine ⟨p, vs, e, frzL_keep z hj', h, n, pimp (fun a b t => ⟨t.1, ?_⟩) q⟩
          have q' := t.2.grow (Same.refl H) sF
          revert q'
          cases b.2 with
          | val d => exact fun q' => q'
          | lst xs => intro q'; obtain ⟨p, vs, e, z, h, q⟩ := q'; exact ⟨p, vs, e, frzL_keep z hj', h, q⟩
          | dK xs => intro q'; obtain ⟨p, vs, e, z, h, q⟩ := q'; exact ⟨p, vs, e, frzL_keep z hj', h, q⟩
          | dT xs => intro q'; obtain ⟨p, vs, e, z, h, q⟩ := q'; exact ⟨p, vs, e, frzL_keep z hj', h, q⟩
  · cases q : ω a with
    | some l => exact sr.fresh a l q
    | none => rw [frzF_none q] at e; exact sr.grow.2 a ob h e
end

section
variable {cl : Nat → Addr} {X : Cx} {st : Stmt} {sts rest : List Stmt} {f g : FS} {e : Expr} {fe : FE} {pos pos' : Pos} {i : Nat} {x : Str}
def sNil : FS := fun δ => some (.nx δ)
def sSeq (f g : FS) : FS := fun δ => match f δ with
  | some (.nx δ') => g δ'
  | o => o
theorem pb_nil : PB cl X [] sNil := fun pins s σ H D I h => by
  obtain ⟨B, F0, P, δ, o, hf, sr, out⟩ := h
  obtain rfl : Out.nx δ = o := Option.some.inj hf
  exact pss_nil pins s σ H D I (out σ H sr)
theorem pb_cons (h1 : PB1 cl X st f) (h2 : PB cl X rest g) : PB cl X (st :: rest) (sSeq f g) := fun pins s σ H D I h => by
  obtain ⟨B, F0, P, δ, o, hf, sr, out⟩ := h
  refine pss_cons h1 h2 pins s σ H D I ?_
  unfold sSeq at hf
  split at hf
  · rename_i δ' e
    exact ⟨B, F0, P, δ, _, e, sr, fun σ' H' sr' => ⟨B, F0, P, δ', o, hf, sr', out⟩⟩
  · rename_i e
    refine ⟨B, F0, P, δ, o, hf, sr, ?_⟩
    cases o with
    | nx δ' => exact (e δ' hf).elim
    | rt d => exact out
    | bk δ' => exact out
    | ct δ' => exact out
    | ro x => exact out
theorem pb_one (h1 : PB1 cl X st f) : PB cl X [st] f := fun pins s σ H D I h => pss_one h1 pins s σ H D I h
/-- a name is frozen ahead of a statement -/
def sFrz (i : Nat) (f : FS) : FS := fun δ => f (frzS i δ)
theorem pb_frz (i : Nat) (h : PB cl X sts f) : PB cl X sts (sFrz i f) := fun pins s σ H D I hw => by
  obtain ⟨B, F0, P, δ, o, hf, ⟨F, ω, sr⟩, out⟩ := hw
  exact h pins s σ H D I ⟨B, F0, P, _, o, hf, ⟨_, _, sr.frz i⟩, out⟩
theorem pb1_frz (i : Nat) (h : PB1 cl X st f) : PB1 cl X st (sFrz i f) := fun pins s σ H D I hw => by
  obtain ⟨B, F0, P, δ, o, hf, ⟨F, ω, sr⟩, out⟩ := hw
  exact h pins s σ H D I ⟨B, F0, P, _, o, hf, ⟨_, _, sr.frz i⟩, out⟩
def sAsg (i : Nat) (fe : FE) : FS := fun δ => (fe δ).bind fun d => some (.nx (δ.set i (.o (.val d))))
theorem pb_asg (hN : X.N.Nodup) (hi : X.N[i]? = some x) (hx : Loc X.env.scope x) (he : PP cl X e fe) (hs : swapsWith e (some (.Name x pos')) pos.line X.env = pure false := by rfl)
    (hf : X.fn x = true ∨ X.env.scope.names.lookup x = some .local := by first | exact .inl rfl | exact .inr rfl | assumption) : PB1 cl X (.Assign [.Name x pos'] e pos) (sAsg i fe) := fun pins s σ H D I h => by
  obtain ⟨B, F0, P, δ, o, hw, ⟨F, ω, sr⟩, out⟩ := h
  unfold sAsg at hw
  cases hd : fe δ with
  | none => rw [hd] at hw; cases hw
  | some d =>
    rw [hd] at hw
    obtain rfl : Out.nx (δ.set i (.o (.val d))) = o := Option.some.inj hw
    exact ps_set hN hi hx he hs hf pins s σ H D I ⟨δ, F, _, d, hd, sr.er, fun v H' F' s1 s1' g r => out _ _ ⟨F', ω, (sr.step s1 s1' g).set ⟨v, rfl, r⟩⟩⟩
/-- x = [] -/
def sNewL (i : Nat) : FS := fun δ => some (.nx (δ.set i (.o (.lst []))))
theorem pb_newL {p2 : Pos} (hN : X.N.Nodup) (hi : X.N[i]? = some x) (hx : Loc X.env.scope x) (hs : swapsWith (.List [] p2) (some (.Name x pos')) pos.line X.env = pure false := by rfl)
    (hf : X.fn x = true ∨ X.env.scope.names.lookup x = some .local := by first | exact .inl rfl | exact .inr rfl | assumption) : PB1 cl X (.Assign [.Name x pos'] (.List [] p2) pos) (sNewL i) := fun pins s σ H D I h => by
  obtain ⟨B, F0, P, δ, o, hw, ⟨F, ω, sr⟩, out⟩ := h
  obtain rfl := Option.some.inj hw
  refine ps_set hN hi hx (pe_lst pa_nil) hs hf pins s σ H D I ⟨Nat.zero_le _, fun p hp => out _ _ ⟨F, updL ω p (i, none), ?_⟩⟩
  exact (sr.own hp).set ⟨.ref p, rfl, p, [], rfl, updL_same, upd_same, .nil⟩
/-- x = {} -/
def sNewK (i : Nat) : FS := fun δ => some (.nx (δ.set i (.o (.dK []))))
def sNewT (i : Nat) : FS := fun δ => some (.nx (δ.set i (.o (.dT []))))
theorem pb_newK {p2 : Pos} (hN : X.N.Nodup) (hi : X.N[i]? = some x) (hx : Loc X.env.scope x) (hs : swapsWith (.Dict [] [] p2) (some (.Name x pos')) pos.line X.env = pure false := by rfl)
    (hf : X.fn x = true ∨ X.env.scope.names.lookup x = some .local := by first | exact .inl rfl | exact .inr rfl | assumption) : PB1 cl X (.Assign [.Name x pos'] (.Dict [] [] p2) pos) (sNewK i) := fun pins s σ H D I h => by
  obtain ⟨B, F0, P, δ, o, hw, ⟨F, ω, sr⟩, out⟩ := h
  obtain rfl := Option.some.inj hw
  refine ps_set hN hi hx pe_dnewK hs hf pins s σ H D I fun p hp => out _ _ ⟨F, updL ω p (i, none), ?_⟩
  exact (sr.own hp).set ⟨.ref p, rfl, p, [], rfl, updL_same, upd_same, .nil⟩
theorem pb_newT {p2 : Pos} (hN : X.N.Nodup) (hi : X.N[i]? = some x) (hx : Loc X.env.scope x) (hs : swapsWith (.Dict [] [] p2) (some (.Name x pos')) pos.line X.env = pure false := by rfl)
    (hf : X.fn x = true ∨ X.env.scope.names.lookup x = some .local := by first | exact .inl rfl | exact .inr rfl | assumption) : PB1 cl X (.Assign [.Name x pos'] (.Dict [] [] p2) pos) (sNewT i) := fun pins s σ H D I h => by
  obtain ⟨B, F0, P, δ, o, hw, ⟨F, ω, sr⟩, out⟩ := h
  obtain rfl := Option.some.inj hw
  refine ps_set hN hi hx pe_dnewT hs hf pins s σ H D I fun p hp => out _ _ ⟨F, updL ω p (i, none), ?_⟩
  exact (sr.own hp).set ⟨.ref p, rfl, p, [], rfl, updL_same, upd_same, .nil⟩
/-- x, a list or dict that is being made, is handed back -/
def sRetN (i : Nat) : FS := fun δ => match δ[i]? with
  | some (.o (.lst xs)) => some (.ro (.lst xs))
  | some (.o (.dK xs)) => some (.ro (.dK xs))
  | some (.o (.dT xs)) => some (.ro (.dT xs))
  | _ => none
theorem pb_retN {e : Expr} (hv : PE X e (tVar i)) : PB1 cl X (.Return (some e) pos) (sRetN i) := fun pins s σ H D I h => by
  obtain ⟨B, F0, P, δ, o, hw, ⟨F, ω, sr⟩, out⟩ := h
  have key : ∀ x : O0, δ[i]? = some (.o x) → OutD X.K cl B F0 P (.ro x) D → ∃ v, σ[i]? = some (some v) ∧ D.rt v H := fun x hx o' => by
    obtain ⟨v, hv', r⟩ := sr.er.at_ i _ hx
    exact ⟨v, hv', o' v H ⟨F, ω, (i, none), sr.base, sr.er.sub, sr.grow, fun a e => ⟨(sr.er.own a _ e).1, sr.fresh a _ e⟩, r⟩⟩
  unfold sRetN at hw
  split at hw
  · rename_i xs hx
    obtain rfl := Option.some.inj hw
    exact ps_ret hv pins s σ H D I (key _ hx out)
  · rename_i xs hx
    obtain rfl := Option.some.inj hw
    exact ps_ret hv pins s σ H D I (key _ hx out)
  · rename_i xs hx
    obtain rfl := Option.some.inj hw
    exact ps_ret hv pins s σ H D I (key _ hx out)
  · cases hw
def sRet (fe : FE) : FS := fun δ => (fe δ).bind fun d => some (.rt d)
theorem pb_ret (he : PP cl X e fe) : PB1 cl X (.Return (some e) pos) (sRet fe) := fun pins s σ H D I h => by
  obtain ⟨B, F0, P, δ, o, hw, ⟨F, ω, sr⟩, out⟩ := h
  unfold sRet at hw
  cases hd : fe δ with
  | none => rw [hd] at hw; cases hw
  | some d =>
    rw [hd] at hw
    obtain rfl : Out.rt d = o := Option.some.inj hw
    exact ps_ret he pins s σ H D I ⟨δ, F, _, d, hd, sr.er, fun v H' F' s1 s1' g r => out _ _ ⟨F', sr.base.trans s1, s1', sr.grow.trans sr.base g, r⟩⟩
/-- an expression whose value is dropped -/
def sExp (fe : FE) : FS := fun δ => (fe δ).bind fun _ => some (.nx δ)
theorem pb_exp (he : PP cl X e fe) (hs : swapsWith e none pos.line X.env = pure false := by rfl) : PB1 cl X (.Expr e pos) (sExp fe) := fun pins s σ H D I h => by
  obtain ⟨B, F0, P, δ, o, hw, ⟨F, ω, sr⟩, out⟩ := h
  unfold sExp at hw
  cases hd : fe δ with
  | none => rw [hd] at hw; cases hw
  | some d =>
    rw [hd] at hw
    obtain rfl : Out.nx δ = o := Option.some.inj hw
    exact ps_expr he hs pins s σ H D I ⟨δ, F, _, d, hd, sr.er, fun v H' F' s1 s1' g r => out _ _ ⟨F', ω, sr.step s1 s1' g⟩⟩
def sIf (t : FT) (f g : FS) : FS := fun δ => (t δ).bind fun c => if c = true then f δ else g δ
theorem pb_if {c : Expr} {a b : List Stmt} {t : FT} (hc : PPT cl X c t) (ha : PB cl X a f) (hb : PB cl X b g) : PB1 cl X (.If c a b pos) (sIf t f g) := fun pins s σ H D I h => by
  obtain ⟨B, F0, P, δ, o, hw, ⟨F, ω, sr⟩, out⟩ := h
  unfold sIf at hw
  cases hd : t δ with
  | none => rw [hd] at hw; cases hw
  | some d =>
    rw [hd] at hw
    refine ps_if hc ha hb pins s σ H D I ⟨δ, F, _, d, hd, sr.er, fun H' F' s1 s1' g => ?_⟩
    cases d with
    | true => rw [if_pos rfl]; exact ⟨B, F0, P, δ, o, hw, ⟨F', ω, sr.step s1 s1' g⟩, out⟩
    | false => rw [if_neg Bool.false_ne_true]; exact ⟨B, F0, P, δ, o, hw, ⟨F', ω, sr.step s1 s1' g⟩, out⟩
/-- if, names that are being made read by its test -/
def frzL' (is : List Nat) (δ : Sto) : Sto := is.foldl (fun δ i => frzS i δ) δ
def sIfT (is : List Nat) (t : FT) (f g : FS) : FS := fun δ => (t (frzL' is δ)).bind fun c => if c = true then f δ else g δ
theorem frz_many {K : PySem.W.Frag} {B F0 P H : Hp} {σ : St} : ∀ (is : List Nat) {δ : Sto} {F : Hp} {ω : Addr → Option Lab}, SR K cl B F0 P δ σ H F ω → ∃ F' ω', SR K cl B F0 P (frzL' is δ) σ H F' ω'
  | [], _, F, ω, h => ⟨F, ω, h⟩
  | i :: is, _, _, _, h => frz_many is (h.frz i)
theorem pb_ifT {c : Expr} {a b : List Stmt} {t : FT} (is : List Nat) (hc : PPT cl X c t) (ha : PB cl X a f) (hb : PB cl X b g) : PB1 cl X (.If c a b pos) (sIfT is t f g) := fun pins s σ H D I h => by
  obtain ⟨B, F0, P, δ, o, hw, ⟨F, ω, sr⟩, out⟩ := h
  unfold sIfT at hw
  cases hd : t (frzL' is δ) with
  | none => rw [hd] at hw; cases hw
  | some d =>
    rw [hd] at hw
    obtain ⟨F1, ω1, sr1⟩ := frz_many is sr
    refine ps_if hc ha hb pins s σ H D I ⟨_, F1, _, d, hd, sr1.er, fun H' F' s1 s1' g => ?_⟩
    have sr' := sr.step s1 (sr.er.sub.trans s1) Grow.refl
    cases d with
    | true => dsimp only; rw [if_pos rfl]; exact ⟨B, F0, P, δ, o, hw, ⟨F, ω, sr'⟩, out⟩
    | false => dsimp only; rw [if_neg Bool.false_ne_true]; exact ⟨B, F0, P, δ, o, hw, ⟨F, ω, sr'⟩, out⟩
def sBrk : FS := fun δ => some (.bk δ)
def sCnt : FS := fun δ => some (.ct δ)
theorem pb_pass : PB1 cl X (.Pass pos) sNil := fun pins s σ H D I h => by
  obtain ⟨B, F0, P, δ, o, hw, sr, out⟩ := h
  obtain rfl := Option.some.inj hw
  exact ps_pass pins s σ H D I (out σ H sr)
theorem pb_break : PB1 cl X (.Break pos) sBrk := fun pins s σ H D I h => by
  obtain ⟨B, F0, P, δ, o, hw, sr, out⟩ := h
  obtain rfl := Option.some.inj hw
  exact ps_break pins s σ H D I (out σ H sr)
theorem pb_continue : PB1 cl X (.Continue pos) sCnt := fun pins s σ H D I h => by
  obtain ⟨B, F0, P, δ, o, hw, sr, out⟩ := h
  obtain rfl := Option.some.inj hw
  exact ps_continue pins s σ H D I (out σ H sr)
/-- x.append(e), x a list that is being made -/
def sApp (i : Nat) (fe : FE) : FS := fun δ => match δ[i]? with
  | some (.o (.lst xs)) => (fe δ).bind fun d => if xs.length < sizeLine then some (.nx (δ.set i (.o (.lst (xs ++ [d]))))) else none
  | _ => none
theorem pb_app {nx : Expr} {apos cpos : Pos} (hv : PE X nx (tVar i)) (he : PP cl X e fe)
    (hp : ∀ {to : TE} {t : TA}, PE X nx to → PA X [e] t → PE X (.Call (.Attribute nx "append" apos) [e] [] cpos) (tBM X.K "list" rAppend to t))
    (hs1 : starEach [e] X.env = (false, eval e X.env) :: starEach [] X.env := by rfl)
    (hs : swapsWith (.Call (.Attribute nx "append" apos) [e] [] cpos) none pos.line X.env = pure false := by rfl) :
    PB1 cl X (.Expr (.Call (.Attribute nx "append" apos) [e] [] cpos) pos) (sApp i fe) := fun pins s σ H D I h => by
  obtain ⟨B, F0, P, δ, o, hw, ⟨F, ω, sr⟩, out⟩ := h
  unfold sApp at hw
  split at hw
  · rename_i xs hi
    cases hd : fe δ with
    | none => rw [hd] at hw; cases hw
    | some d =>
      rw [hd] at hw
      simp only [Option.bind_some] at hw
      split at hw
      · rename_i hl
        obtain rfl := Option.some.inj hw
        obtain ⟨v, hv', p, vs, rfl, hω, hH, r⟩ := sr.er.at_ i _ hi
        have hil : i < δ.length := (List.getElem?_eq_some_iff.mp hi).1
        refine ps_expr (hp hv (ppa_cons he ppa_nil hs1)) hs pins s σ H D I ⟨.ref p, hv', .inl ⟨rfl, vs, SqL.of hH⟩, δ, F, _, [d], by unfold aC aN; rw [hd]; rfl, sr.er, fun ws H' F' s1 s1' g q => ?_⟩
        cases q with
        | cons q1 q2 =>
          cases q2
          have sr' := sr.step s1 s1' g
          refine ⟨p, vs, _, rfl, rfl, s1 _ _ hH, by rw [r.length]; exact hl, out _ _ ⟨F', ω, sr'.put (l := (i, none)) hω ⟨.ref p, hv', p, _, rfl, hω, upd_same, ?_⟩ hil⟩⟩
          exact pappend (r.mono g.1) (.cons q1 .nil)
      · cases hw
  · cases hw
end
end MB

namespace MB
open PySem PySem.Spec PyProof.Rows L2
/-! ### targets -/
abbrev FG := Dat → Sto → Option Sto
abbrev FGs := List Dat → Sto → Option Sto
def tG (K : PySem.W.Frag) (cl : Nat → Addr) (g : FG) : TG := fun v σ H Q => ∃ δ F ω d δ', g d δ = some δ' ∧ ER K cl F H ω σ δ ∧ Rep K cl F v d ∧ ∀ σ', ER K cl F H ω σ' δ' → Q σ' H
def tGs (K : PySem.W.Frag) (cl : Nat → Addr) (g : FGs) : TGs := fun vs σ H Q => ∃ δ F ω ds δ', g ds δ = some δ' ∧ ER K cl F H ω σ δ ∧ RepL K cl F vs ds ∧ ∀ σ', ER K cl F H ω σ' δ' → Q σ' H
def PPG (cl : Nat → Addr) (X : Cx) (tg : Expr) (g : FG) : Prop := PG X tg (tG X.K cl g)
def PPGs (cl : Nat → Addr) (X : Cx) (ts : List Expr) (g : FGs) : Prop := PGs X ts (tGs X.K cl g)
section
variable {cl : Nat → Addr} {X : Cx} {tg : Expr} {ts : List Expr} {g : FG} {gs : FGs} {pos : Pos} {i : Nat} {x : Str}
def gN (i : Nat) : FG := fun d δ => some (δ.set i (.o (.val d)))
theorem ppg_name (hN : X.N.Nodup) (hi : X.N[i]? = some x) (hx : Loc X.env.scope x) (hf : X.fn x = true ∨ X.env.scope.names.lookup x = some .local := by first | exact .inl rfl | exact .inr rfl | assumption) : PPG cl X (.Name x pos) (gN i) := fun pins s σ H v u Q I r h => by
  obtain ⟨δ, F, ω, d, δ', hg, er, rv, k⟩ := h
  obtain rfl := Option.some.inj hg
  exact pg_name hN hi hx hf pins s σ H v u Q I r (k _ (er.setV rv))
def gsN : FGs := fun ds δ => match ds with | [] => some δ | _ => none
def gsC (g : FG) (gs : FGs) : FGs := fun ds δ => match ds with | d :: ds => (g d δ).bind fun δ' => gs ds δ' | [] => none
theorem ppgs_nil : PPGs cl X [] gsN := fun pins s σ H vs us Q I r h => by
  obtain ⟨δ, F, ω, ds, δ', hg, er, rv, k⟩ := h
  cases ds with
  | nil =>
    obtain rfl := Option.some.inj hg
    cases rv
    exact L2.pgs_nil pins s σ H [] us Q I r ⟨rfl, k _ er⟩
  | cons _ _ => cases hg
theorem ppgs_cons (h1 : PPG cl X tg g) (h2 : PPGs cl X ts gs) (hs : (assignEach (tg :: ts) X.env).map (·.2) = assign tg X.env :: (assignEach ts X.env).map (·.2) := by rfl) : PPGs cl X (tg :: ts) (gsC g gs) := fun pins s σ H vs us Q I r h => by
  obtain ⟨δ, F, ω, ds, δ', hg, er, rv, k⟩ := h
  cases rv with
  | nil => cases hg
  | @cons v d vs ds rv1 rv2 =>
    unfold gsC at hg
    cases h1' : g d δ with
    | none => rw [show (match d :: ds with | d :: ds => (g d δ).bind fun δ' => gs ds δ' | [] => none) = (g d δ).bind fun δ' => gs ds δ' from rfl, h1'] at hg; cases hg
    | some δ1 =>
      rw [show (match d :: ds with | d :: ds => (g d δ).bind fun δ' => gs ds δ' | [] => none) = (g d δ).bind fun δ' => gs ds δ' from rfl, h1'] at hg
      exact L2.pgs_cons h1 h2 hs pins s σ H _ us Q I r ⟨v, vs, rfl, δ, F, ω, d, δ1, h1', er, rv1, fun σ' er' => ⟨δ1, F, ω, ds, δ', hg, er', rv2, k⟩⟩
def gT (n : Nat) (gs : FGs) : FG := fun d δ => match d with | .tup ds => if ds.length = n then gs ds δ else none | _ => none
theorem ppg_tup {k : Nat} {n : Nat} (hc : X.calm = true) (h : PPGs cl X ts gs) (hn : (assignEach ts X.env).length = n := by rfl) (hst : (assignEach ts X.env).findIdx? (·.1) = none := by rfl) : PPG cl X (.Tuple ts k pos) (gT n gs) := fun pins s σ H v u Q I r hw => by
  obtain ⟨δ, F, ω, d, δ', hg, er, rv, kk⟩ := hw
  unfold gT at hg
  split at hg
  · rename_i ds
    split at hg
    · rename_i hl
      obtain ⟨a, vs, rfl, q1, r1⟩ := rv.tup_inv
      exact pg_tup hc h hn hst pins s σ H _ u Q I r ⟨a, vs, rfl, SqT.of (er.sub _ _ q1), by rw [r1.length]; exact hl, δ, F, ω, ds, δ', hg, er, r1, kk⟩
    · cases hg
  · cases hg
end
/-! ### what a loop walks -/
structure Walk (K : PySem.W.Frag) (cl : Nat → Addr) (F : Hp) (J : It) (ds : List Dat) : Prop where
  go : ∀ (i : Nat) H, Same F H → i < ds.length → J.go i H
  stop : ∀ (i : Nat) H, Same F H → ds.length ≤ i → J.stop i H
  yld : ∀ (i : Nat) H Fc x H' d, Same F Fc → Same Fc H → ds[i]? = some d → J.yld i H x H' → ∃ F', Same H H' ∧ Same F' H' ∧ Grow Fc H F' ∧ Rep K cl F' x d
def tI (K : PySem.W.Frag) (cl : Nat → Addr) (f : FA) : TI := fun σ H R => ∃ δ F ω ds, f δ = some ds ∧ ER K cl F H ω σ δ ∧ ∀ J H' F', Same H H' → Same F' H' → Grow F H F' → Walk K cl F' J ds → R J H'
def PPI (cl : Nat → Addr) (X : Cx) (tg iter : Expr) (f : FA) : Prop := PI X tg iter (tI X.K cl f)
section
variable {cl : Nat → Addr} {X : Cx} {tg iter l a b : Expr} {fe fa fb : FE} {pos : Pos}
def iSeq (fe : FE) : FA := fun δ => match fe δ with | some (.lst xs) => some xs | some (.tup xs) => some xs | _ => none
theorem walk_list {K : PySem.W.Frag} {F : Hp} {a : Addr} {vs : List V} {ds : List Dat} (h : SqL K F a vs) (r : RepL K cl F vs ds) : Walk K cl F (Itl K a) ds where
  go := fun i H s hi => ⟨vs, _, s.seq h, List.getElem?_eq_getElem (by rw [r.length]; exact hi)⟩
  stop := fun i H s hi => ⟨vs, s.seq h, by rw [r.length]; exact hi⟩
  yld := fun i H Fc x H' d s1 s2 hd y => by
    obtain ⟨rfl, y⟩ := y
    exact ⟨Fc, Same.refl _, s2, Grow.refl, (pget i r (y vs ((s1.trans s2).seq h)) hd).mono s1⟩
theorem walk_tup {K : PySem.W.Frag} {F : Hp} {a : Addr} {vs : List V} {ds : List Dat} (h : F a = some (.tup vs)) (r : RepL K cl F vs ds) : Walk K cl F (Itt K a) ds where
  go := fun i H s hi => ⟨vs, _, SqT.of (s _ _ h), List.getElem?_eq_getElem (by rw [r.length]; exact hi)⟩
  stop := fun i H s hi => ⟨vs, SqT.of (s _ _ h), by rw [r.length]; exact hi⟩
  yld := fun i H Fc x H' d s1 s2 hd y => by
    obtain ⟨rfl, y⟩ := y
    exact ⟨Fc, Same.refl _, s2, Grow.refl, (pget i r (y vs (SqT.of ((s1.trans s2) _ _ h))) hd).mono s1⟩
theorem ppi_seq (hl : PP cl X l fe) : PPI cl X tg l (iSeq fe) := fun pins s σ H R I h => by
  obtain ⟨δ, F, ω, ds, hf, er, k⟩ := h
  unfold iSeq at hf
  split at hf
  · rename_i xs e
    cases hf
    refine pi_list hl pins s σ H R I ⟨δ, F, ω, _, e, er, fun v H1 F1 s1 s1' g1 r1 => ?_⟩
    obtain ⟨a, vs, rfl, q, r⟩ := r1.lst_inv
    exact ⟨a, rfl, ⟨vs, s1'.seq q⟩, k _ H1 F1 s1 s1' g1 (walk_list q r)⟩
  · rename_i xs e
    cases hf
    refine pi_tup hl pins s σ H R I ⟨δ, F, ω, _, e, er, fun v H1 F1 s1 s1' g1 r1 => ?_⟩
    obtain ⟨a, vs, rfl, q, r⟩ := r1.tup_inv
    exact ⟨a, rfl, ⟨vs, SqT.of (s1' _ _ q)⟩, k _ H1 F1 s1 s1' g1 (walk_tup q r)⟩
  · cases hf
def rngD (lo : Int) (n : Nat) : List Dat := (List.range n).map fun j => Dat.int (lo + (j : Nat))
theorem walk_range {K : PySem.W.Frag} {F : Hp} (lo : Int) (n : Nat) : Walk K cl F (Itr lo n) (rngD lo n) where
  go := fun i H _ hi => show i < n by simpa [rngD] using hi
  stop := fun i H _ hi => show n ≤ i by simpa [rngD] using hi
  yld := fun i H Fc x H' d s1 s2 hd y => by
    obtain ⟨rfl, rfl⟩ := y
    refine ⟨Fc, Same.refl _, s2, Grow.refl, ?_⟩
    have : i < n := by
      have := (List.getElem?_eq_some_iff.mp hd).1
      simpa [rngD] using this
    have e : (rngD lo n)[i]? = some (.int (lo + (i : Nat))) := by simp [rngD, this]
    rw [e] at hd
    cases hd
    exact .int _
def iRg1 (fa : FE) : FA := fun δ => match fa δ with | some (.int j) => if -(2 ^ 62) ≤ j ∧ j < 2 ^ 62 then some (rngD 0 j.toNat) else none | _ => none
def iRg2 (fa fb : FE) : FA := fun δ => match fa δ, fb δ with | some (.int i), some (.int j) => if (-(2 ^ 62) ≤ i ∧ i < 2 ^ 62) ∧ (-(2 ^ 62) ≤ j ∧ j < 2 ^ 62) then some (rngD i (j - i).toNat) else none | _, _ => none
theorem ppi_range1 {p : Pos} (hg : Gl X "range") (hm : X.mg "range" = none) (ha : PP cl X a fa) (hs : starEach [a] X.env = [(false, eval a X.env)] := by rfl) : PPI cl X tg (.Call (.Name "range" p) [a] [] pos) (iRg1 fa) := fun pins s σ H R I h => by
  obtain ⟨δ, F, ω, ds, hf, er, k⟩ := h
  unfold iRg1 at hf
  split at hf
  · rename_i j e
    split at hf
    · rename_i c
      cases hf
      refine pi_range1 hg hm (pa_cons ha pa_nil hs) hs pins s σ H R I ⟨δ, F, ω, _, e, er, fun v H1 F1 s1 s1' g1 r1 => ?_⟩
      exact ⟨j, by rw [r1.int_inv], c.1, c.2, k _ H1 F1 s1 s1' g1 (walk_range 0 _)⟩
    · cases hf
  · cases hf
theorem ppi_range2 {p : Pos} (hg : Gl X "range") (hm : X.mg "range" = none) (ha : PP cl X a fa) (hb : PP cl X b fb) (hs : starEach [a, b] X.env = [(false, eval a X.env), (false, eval b X.env)] := by rfl) (hs2 : starEach [b] X.env = [(false, eval b X.env)] := by rfl) :
    PPI cl X tg (.Call (.Name "range" p) [a, b] [] pos) (iRg2 fa fb) := fun pins s σ H R I h => by
  obtain ⟨δ, F, ω, ds, hf, er, k⟩ := h
  unfold iRg2 at hf
  split at hf
  · rename_i i j e1 e2
    split at hf
    · rename_i c
      cases hf
      refine pi_range2 hg hm (pa_cons ha (pa_cons hb pa_nil hs2) (by rw [hs, hs2])) hs hs2 pins s σ H R I ⟨δ, F, ω, _, e1, er, fun v H1 F1 s1 s1' g1 r1 => ⟨δ, F1, ω, _, e2, er.grow s1 s1' g1, fun v2 H2 F2 s2 s2' g2 r2 => ?_⟩⟩
      exact ⟨i, j, by rw [r1.int_inv, r2.int_inv], ⟨c.1.1, c.1.2, c.2.1, c.2.2⟩, k _ H2 F2 (s1.trans s2) s2' (g1.trans s1 g2) (walk_range i _)⟩
    · cases hf
  · cases hf
/-! ### for -/
def forD (g : FG) (fb : FS) : List Dat → Sto → Option Out
  | [], δ => some (.nx δ)
  | d :: ds, δ => (g d δ).bind fun δ1 => match fb δ1 with
    | some (.nx δ2) => forD g fb ds δ2
    | some (.ct δ2) => forD g fb ds δ2
    | some (.bk δ2) => some (.nx δ2)
    | some (.rt v) => some (.rt v)
    | some (.ro v) => some (.ro v)
    | none => none
def sFor (fi : FA) (g : FG) (fb : FS) : FS := fun δ => (fi δ).bind fun ds => forD g fb ds δ
theorem SRe.unpin {K : PySem.W.Frag} {B F0 P P' : Hp} {δ : Sto} {σ : St} {H : Hp} (s : Same P P') (h : SRe K cl B F0 P' δ σ H) : SRe K cl B F0 P δ σ H := by
  obtain ⟨F, ω, sr⟩ := h
  exact ⟨F, ω, sr.er, sr.base, sr.grow, s.trans sr.pin, sr.fresh⟩
theorem pb_for {body : List Stmt} {fi : FA} {g : FG} {fb : FS} (hp : PassesOwn (model X.prog X.w) X.A X.env X.xe) (hc : X.calm = true) (hi : PPI cl X tg iter fi) (hg : PPG cl X tg g) (hb : PB cl X body fb)
    (hs : ∀ x, foldedSetIterable iter X.env x = pure x := by intro _; rfl) : PB1 cl X (.For tg iter body [] pos) (sFor fi g fb) := fun pins s σ H D I h => by
  obtain ⟨B, F0, P, δ, o, hw, ⟨F, ω, sr⟩, out⟩ := h
  unfold sFor at hw
  cases hd : fi δ with
  | none => rw [hd] at hw; cases hw
  | some ds =>
    rw [hd] at hw
    refine ps_for hp hc hi hg hb hs pins s σ H D I ⟨δ, F, _, ds, hd, sr.er, fun J H1 F1 s1 s1' g1 wk => ?_⟩
    have sr1 := sr.step s1 s1' g1
    have sp : Same P F1 := sr1.pin
    refine ⟨fun i m σ H => m = ds.length - i ∧ i ≤ ds.length ∧ ∃ δi, SRe X.K cl B F0 F1 δi σ H ∧ forD g fb (ds.drop i) δi = some o,
      ⟨ds.length, by simp, Nat.zero_le _, δ, ⟨F1, ω, sr1.er, sr1.base, sr1.grow, Same.refl _, sr1.fresh⟩, hw⟩, ?_⟩
    rintro i m σ2 H2 ⟨rfl, hil, δi, ⟨F2, ω2, sr2⟩, hrun⟩
    have sF : Same F1 H2 := sr2.pin.trans sr2.er.sub
    by_cases hlt : i < ds.length
    · refine .inr ⟨wk.go i H2 sF hlt, fun σ' H' => ∃ δ2, SRe X.K cl B F0 F1 δ2 σ' H' ∧ forD g fb (ds.drop (i + 1)) δ2 = some o, fun σ' H' ⟨δ2, a1, a2⟩ => ⟨ds.length - (i + 1), by omega, rfl, hlt, δ2, a1, a2⟩, fun x H3 hy => ?_⟩
      have hdi : ds[i]? = some ds[i] := List.getElem?_eq_getElem hlt
      obtain ⟨F3, s3, s3', g3, r3⟩ := wk.yld i H2 F2 x H3 _ sr2.pin sr2.er.sub hdi hy
      rw [List.drop_eq_getElem_cons hlt] at hrun
      unfold forD at hrun
      cases hg1 : g ds[i] δi with
      | none => rw [hg1] at hrun; cases hrun
      | some δ1 =>
        rw [hg1] at hrun
        simp only [Option.bind_some] at hrun
        have sr3 := sr2.step s3 s3' g3
        refine ⟨δi, F3, _, ds[i], δ1, hg1, sr3.er, r3, fun σ' er' => ?_⟩
        cases hb1 : fb δ1 with
        | none => rw [hb1] at hrun; cases hrun
        | some ob =>
          rw [hb1] at hrun
          refine ⟨B, F0, F1, δ1, ob, hb1, ⟨F3, ω2, er', sr3.base, sr3.grow, sr3.pin, sr3.fresh⟩, ?_⟩
          cases ob with
          | nx δ2 => exact fun σ4 H4 a => ⟨δ2, a, hrun⟩
          | ct δ2 => exact fun σ4 H4 a => ⟨δ2, a, hrun⟩
          | bk δ2 =>
            obtain rfl := Option.some.inj hrun
            exact fun σ4 H4 a => out σ4 H4 (a.unpin sp)
          | rt v =>
            obtain rfl := Option.some.inj hrun
            exact out
          | ro v =>
            obtain rfl := Option.some.inj hrun
            exact out
    · have e : ds.drop i = [] := List.drop_eq_nil_of_le (by omega)
      rw [e] at hrun
      obtain rfl := Option.some.inj hrun
      exact .inl ⟨wk.stop i H2 sF (by omega), out σ2 H2 (SRe.unpin sp ⟨F2, ω2, sr2⟩)⟩
end
/-! ### defs and their calls -/
def spD (K : PySem.W.Frag) (cl : Nat → Addr) (n : Nat) (f : List Dat → Option Dat) : Sp := fun vs H Q _ => vs.length = n ∧ ∃ ds d F, f ds = some d ∧ Same F H ∧ RepL K cl F vs ds ∧ Post K cl F H d Q
def ini (n : Nat) (ds : List Dat) : Sto := ds.map (fun d => Slot.o (.val d)) ++ List.replicate n .no
/-- a def that hands back a list or dict of its own making -/
def spO (K : PySem.W.Frag) (cl : Nat → Addr) (n : Nat) (f : List Dat → Option O0) : Sp := fun vs H Q _ => vs.length = n ∧ ∃ ds x F, f ds = some x ∧ Same F H ∧ RepL K cl F vs ds ∧ ∀ v H', RTO K cl H F x v H' → Q v H'
theorem RTO.rt {K : PySem.W.Frag} {cl : Nat → Addr} {B F0 H : Hp} {x : O0} {v : V} (h : RTO K cl B F0 x v H) : RT K cl B F0 x.frz v H := by
  obtain ⟨F, ω, l, h1, h2, h3, h4, r⟩ := h
  have key : ∀ (p : Addr) (ob : HO), ω p = some l → H p = some ob → Same (upd F p ob) H ∧ Grow F0 B (upd F p ob) ∧ Same F (upd F p ob) := fun p ob w e => by
    have hn := h4 p w
    refine ⟨fun b o q => ?_, ⟨h3.1.trans (same_upd hn.1), fun a o z q => ?_⟩, same_upd hn.1⟩
    · by_cases z : b = p
      · subst z; rw [upd_same] at q; cases q; exact e
      · rw [upd_ne z] at q; exact h2 b o q
    · by_cases y : a = p
      · subst y; exact hn.2
      · rw [upd_ne y] at q; exact h3.2 a o z q
  cases x with
  | val d => exact ⟨F, h1, h2, h3, r⟩
  | lst xs => obtain ⟨p, vs, rfl, w, e, q⟩ := r; obtain ⟨k1, k2, k3⟩ := key p _ w e; exact ⟨_, h1, k1, k2, .lst' (SqL.of upd_same) (q.mono k3)⟩
  | dK xs => obtain ⟨p, vs, rfl, w, e, q⟩ := r; obtain ⟨k1, k2, k3⟩ := key p _ w e; exact ⟨_, h1, k1, k2, .dK' upd_same (RepK.mono k3 q)⟩
  | dT xs => obtain ⟨p, vs, rfl, w, e, q⟩ := r; obtain ⟨k1, k2, k3⟩ := key p _ w e; exact ⟨_, h1, k1, k2, .dT' upd_same (RepK.mono k3 q)⟩
def endD : Option Out → Option Dat
  | some (.rt d) => some d
  | some (.ro x) => some x.frz
  | some (.nx _) => some .non
  | _ => none
def endO : Option Out → Option O0
  | some (.ro x) => some x
  | _ => none
def defO (n : Nat) (fb : FS) : List Dat → Option O0 := fun ds => endO (fb (ini n ds))
def defF (n : Nat) (fb : FS) : List Dat → Option Dat := fun ds => endD (fb (ini n ds))
theorem er_ini {K : PySem.W.Frag} {cl : Nat → Addr} {F H : Hp} {vs : List V} {ds : List Dat} {m : Nat} (sub : Same F H) (r : RepL K cl F vs ds) : ER K cl F H ⟨fun _ => none, fun i => i⟩ (vs.map some ++ List.replicate m none) (ini m ds) where
  sub := sub
  own := fun a l e => by cases e
  len := by simp [ini, r.length]
  at_ := fun i s hs => by
    unfold ini at hs
    by_cases hi : i < ds.length
    · rw [List.getElem?_append_left (by simpa using hi), List.getElem?_map, List.getElem?_eq_getElem hi] at hs
      cases hs
      have hv : vs[i]? = some (vs[i]'(by rw [r.length]; exact hi)) := List.getElem?_eq_getElem _
      refine ⟨_, ?_, (show Rep K cl F _ _ from pget i r hv (List.getElem?_eq_getElem hi))⟩
      rw [List.getElem?_append_left (by rw [List.length_map, r.length]; exact hi), List.getElem?_map, hv]
      rfl
    · rw [List.getElem?_append_right (by simpa using hi)] at hs
      have : s = .no := by
        have := List.mem_of_getElem? hs
        exact (List.mem_replicate.mp this).2
      subst this
      exact True.intro
theorem fn_pure {P : Program} {w : World} {K : PySem.W.Frag} {mg : Str → Option Value} {base : Heap} {cl : Nat → Addr} {x qual : Str} {st : Stmt} {f : Addr} {fd : FuncData} {N ps : List Str} {k : Nat} {fb : FS} (F : Fun K x qual st f fd) (S : FnScope N ps (defScope st))
    (hb : ∀ (cdv : Value) (A : Around) (outer : List Env) (s : Shared) (H : Hp) (E : XK), Room k (A.deeper (envOfC qual (defScope st) s.heap.objs.size f cdv)) →
      PB cl (cxOf CX0 P w K mg base N qual (defScope st) f cdv A outer s H E).nox (defBody st) fb) : FnOk P w K mg base CX0 (k + 1) f fd ps (spD K cl ps.length (defF (N.length - ps.length) fb)) := by
  refine F.ok S (fun vs H Q E h => h.1) (fun cdv A outer s H vs Q E hr h => ?_)
  obtain ⟨hl, ds, d, F', hf, sub, r, k⟩ := h
  refine ⟨_, hb cdv A outer s H E hr, ?_⟩
  have e0 : L2.start N vs = vs.map some ++ List.replicate (N.length - ps.length) none := by unfold L2.start; rw [hl]
  rw [e0]
  have sr : SR K cl H F' F' (ini (N.length - ps.length) ds) (vs.map some ++ List.replicate (N.length - ps.length) none) H F' (fun _ => none) := ⟨er_ini sub r, Same.refl _, Grow.refl, Same.refl _, fun a l e => by cases e⟩
  unfold defF at hf
  cases e : fb (ini (N.length - ps.length) ds) with
  | none => rw [e] at hf; cases hf
  | some o =>
    rw [e] at hf
    refine ⟨H, F', F', ini (N.length - ps.length) ds, o, e, ⟨F', _, sr⟩, ?_⟩
    cases o with
    | rt d' => cases hf; exact fun v H' ⟨F2, b, s2, g, r2⟩ => k v H' F2 b s2 g r2
    | nx δ' => cases hf; exact fun σ' H' ⟨F2, ω, sr2⟩ => k .non H' F2 sr2.base sr2.er.sub sr2.grow .non
    | bk δ' => cases hf
    | ct δ' => cases hf
    | ro x => cases hf; exact fun v H' r => by obtain ⟨F2, b, s2, g, r2⟩ := r.rt; exact k v H' F2 b s2 g r2
theorem fn_fresh {P : Program} {w : World} {K : PySem.W.Frag} {mg : Str → Option Value} {base : Heap} {cl : Nat → Addr} {x qual : Str} {st : Stmt} {f : Addr} {fd : FuncData} {N ps : List Str} {k : Nat} {fb : FS} (F : Fun K x qual st f fd) (S : FnScope N ps (defScope st))
    (hb : ∀ (cdv : Value) (A : Around) (outer : List Env) (s : Shared) (H : Hp) (E : XK), Room k (A.deeper (envOfC qual (defScope st) s.heap.objs.size f cdv)) →
      PB cl (cxOf CX0 P w K mg base N qual (defScope st) f cdv A outer s H E).nox (defBody st) fb) : FnOk P w K mg base CX0 (k + 1) f fd ps (spO K cl ps.length (defO (N.length - ps.length) fb)) := by
  refine F.ok S (fun vs H Q E h => h.1) (fun cdv A outer s H vs Q E hr h => ?_)
  obtain ⟨hl, ds, d, F', hf, sub, r, k⟩ := h
  refine ⟨_, hb cdv A outer s H E hr, ?_⟩
  have e0 : L2.start N vs = vs.map some ++ List.replicate (N.length - ps.length) none := by unfold L2.start; rw [hl]
  rw [e0]
  have sr : SR K cl H F' F' (ini (N.length - ps.length) ds) (vs.map some ++ List.replicate (N.length - ps.length) none) H F' (fun _ => none) := ⟨er_ini sub r, Same.refl _, Grow.refl, Same.refl _, fun a l e => by cases e⟩
  unfold defO at hf
  cases e : fb (ini (N.length - ps.length) ds) with
  | none => rw [e] at hf; cases hf
  | some o =>
    rw [e] at hf
    refine ⟨H, F', F', ini (N.length - ps.length) ds, o, e, ⟨F', _, sr⟩, ?_⟩
    cases o with
    | rt d' => cases hf
    | nx δ' => cases hf
    | bk δ' => cases hf
    | ct δ' => cases hf
    | ro x => cases hf; exact fun v H' r => k v H' r
def eCall (n : Nat) (f : List Dat → Option Dat) (fa : FA) : FE := fun δ => (fa δ).bind fun ds => if ds.length = n then f ds else none
section
variable {cl : Nat → Addr} {X : Cx} {CX : CXT} {k : Nat} {f : Addr} {fd : FuncData} {ps : List Str} {fn : List Dat → Option Dat} {E : XK} {x : Str} {p pos : Pos} {e : Expr} {es : List Expr} {fa : FA}
theorem pp_call (Fo : FnOk X.prog X.w X.K X.mg X.base CX k f fd ps (spD X.K cl ps.length fn)) (hr : Room k X.A) (hg : Gl X x) (hm : X.mg x = some (.ref f)) (hk : PySem.W.keepIn X.K (.ref f) = true) (hb : Binds X.K fd ps []) (hx : Passes CX X E) (ha : PPA cl X (e :: es) fa)
    (hdb : (x == ("__debug__" : Str)) = false := by decide) (he : starEach (e :: es) X.env = (false, eval e X.env) :: starEach es X.env := by rfl) (hpl : (backTo pos (starEach es X.env)).any (·.1) = false := by rfl) :
    PP cl X (.Call (.Name x p) (e :: es) [] pos) (eCall ps.length fn fa) := fun pins s σ H Q I h => by
  obtain ⟨δ, F, ω, d, hf, er, k⟩ := h
  unfold eCall at hf
  cases hd : fa δ with
  | none => rw [hd] at hf; cases hf
  | some ds =>
    rw [hd] at hf
    simp only [Option.bind_some] at hf
    split at hf
    · rename_i hl
      refine pe_call Fo hr hg hm hk hb .nil hx ha hdb he hpl pins s σ H Q I ⟨δ, F, ω, ds, hd, er, fun vs H1 F1 s1 s1' g1 r1 => ?_⟩
      show spD X.K cl ps.length fn (vs ++ []) H1 Q E
      rw [List.append_nil]
      exact ⟨by rw [r1.length]; exact hl, ds, d, F1, hf, s1', r1, k.step s1 g1⟩
    · cases hf
/-- x = f(..), f handing back a list or dict of its own making: it is ours -/
def sAsgO (i n : Nat) (f : List Dat → Option O0) (fa : FA) : FS := fun δ => (fa δ).bind fun ds => if ds.length = n then (f ds).bind fun x => some (.nx (δ.set i (.o x))) else none
theorem SR.take {K : PySem.W.Frag} {B F0 P H F H' : Hp} {δ : Sto} {σ : St} {ω : Addr → Option Lab} {i : Nat} {x : O0} {v : V} (sr : SR K cl B F0 P δ σ H F ω) (h : RTO K cl H F x v H') : ∃ F' ω', SR K cl B F0 P (δ.set i (.o x)) (σ.set i (some v)) H' F' ω' := by
  obtain ⟨F', ω', l, h1, h2, h3, h4, r⟩ := h
  have sr1 := sr.step h1 h2 h3
  have key : ∀ (p : Addr) (ob : HO), ω' p = some l → H' p = some ob → SR K cl B F0 P δ σ H' F' (updL ω p (i, none)) := fun p ob w e => by
    have hn := h4 p w
    have keep : ∀ a l', ω a = some l' → updL ω p (i, none) a = some l' := fun a l' q => by
      obtain ⟨_, o', z⟩ := sr.er.own a l' q
      rw [updL_ne (ne_of_none z hn.2)]
      exact q
    refine ⟨⟨h2, fun a l' q => ?_, sr1.er.len, fun j t ht => (sr1.er.at_ j t ht).lab keep⟩, sr1.base, sr1.grow, sr1.pin, fun a l' q => ?_⟩
    · by_cases ha : a = p
      · subst ha; exact ⟨hn.1, ob, e⟩
      · rw [show (⟨updL ω p (i, none), fun i => i⟩ : Ow).w a = ω a from updL_ne ha] at q
        exact sr1.er.own a l' q
    · by_cases ha : a = p
      · subst ha; exact none_of sr.base hn.2
      · rw [updL_ne ha] at q; exact sr.fresh a l' q
  cases x with
  | val d => exact ⟨F', ω, sr1.set ⟨v, rfl, r⟩⟩
  | lst xs => obtain ⟨p, vs, rfl, w, e, q⟩ := r; exact ⟨F', _, (key p _ w e).set ⟨.ref p, rfl, p, vs, rfl, updL_same, e, q⟩⟩
  | dK xs => obtain ⟨p, vs, rfl, w, e, q⟩ := r; exact ⟨F', _, (key p _ w e).set ⟨.ref p, rfl, p, vs, rfl, updL_same, e, q⟩⟩
  | dT xs => obtain ⟨p, vs, rfl, w, e, q⟩ := r; exact ⟨F', _, (key p _ w e).set ⟨.ref p, rfl, p, vs, rfl, updL_same, e, q⟩⟩
theorem pb_asgO {fo : List Dat → Option O0} {i : Nat} {y : Str} {pos' pos2 : Pos} (Fo : FnOk X.prog X.w X.K X.mg X.base CX k f fd ps (spO X.K cl ps.length fo)) (hr : Room k X.A) (hg : Gl X x) (hm : X.mg x = some (.ref f)) (hk : PySem.W.keepIn X.K (.ref f) = true) (hb : Binds X.K fd ps []) (hxp : Passes CX X E) (ha : PPA cl X (e :: es) fa)
    (hN : X.N.Nodup) (hi : X.N[i]? = some y) (hy : Loc X.env.scope y)
    (hdb : (x == ("__debug__" : Str)) = false := by decide) (he : starEach (e :: es) X.env = (false, eval e X.env) :: starEach es X.env := by rfl) (hpl : (backTo pos (starEach es X.env)).any (·.1) = false := by rfl)
    (hs : swapsWith (.Call (.Name x p) (e :: es) [] pos) (some (.Name y pos')) pos2.line X.env = pure false := by rfl)
    (hf : X.fn y = true ∨ X.env.scope.names.lookup y = some .local := by first | exact .inl rfl | exact .inr rfl | assumption) :
    PB1 cl X (.Assign [.Name y pos'] (.Call (.Name x p) (e :: es) [] pos) pos2) (sAsgO i ps.length fo fa) := fun pins s σ H D I h => by
  obtain ⟨B, F0, P, δ, o, hw, ⟨F, ω, sr⟩, out⟩ := h
  unfold sAsgO at hw
  cases hd : fa δ with
  | none => rw [hd] at hw; cases hw
  | some ds =>
    rw [hd] at hw
    simp only [Option.bind_some] at hw
    split at hw
    · rename_i hl
      cases hq : fo ds with
      | none => rw [hq] at hw; cases hw
      | some x1 =>
        rw [hq] at hw
        obtain rfl := Option.some.inj hw
        refine ps_set hN hi hy (pe_call Fo hr hg hm hk hb .nil hxp ha hdb he hpl) hs hf pins s σ H D I ⟨δ, F, _, ds, hd, sr.er, fun vs H1 F1 s1 s1' g1 r1 => ?_⟩
        show spO X.K cl ps.length fo (vs ++ []) H1 _ E
        rw [List.append_nil]
        exact ⟨by rw [r1.length]; exact hl, ds, x1, F1, hq, s1', r1, fun v H' r => out _ _ ((sr.step s1 s1' g1).take r)⟩
    · cases hw
/-! ### calls of built-ins -/
def CallD (K : PySem.W.Frag) (cl : Nat → Addr) (r : List V → Hp → VK → Prop) (g : List Dat → Option Dat) : Prop := ∀ F H vs ds d Q, g ds = some d → Same F H → RepL K cl F vs ds → Post K cl F H d Q → r vs H Q
def eB (g : List Dat → Option Dat) (fa : FA) : FE := fun δ => (fa δ).bind g
variable {id T : String} {r : List V → Hp → VK → Prop} {g : List Dat → Option Dat}
theorem pp_callB (hc : CallR X (.builtin id) r) (hd : CallD X.K cl r g) (hg : Gl X x) (hm : X.mg x = none) (hv : bootBuiltins x = some (.builtin id)) (ha : PPA cl X (e :: es) fa) (hn : x ≠ "__name__" := by decide) (hdb : (x == ("__debug__" : Str)) = false := by decide)
    (he : starEach (e :: es) X.env = (false, eval e X.env) :: starEach es X.env := by rfl) (hpl : (backTo pos (starEach es X.env)).any (·.1) = false := by rfl) : PP cl X (.Call (.Name x p) (e :: es) [] pos) (eB g fa) := fun pins s σ H Q I h => by
  obtain ⟨δ, F, ω, d, hf, er, k⟩ := h
  unfold eB at hf
  cases hd' : fa δ with
  | none => rw [hd'] at hf; cases hf
  | some ds =>
    rw [hd'] at hf
    exact pe_callB hc hg hm hv ha hn hdb he hpl pins s σ H Q I ⟨δ, F, ω, ds, hd', er, fun vs H1 F1 s1 s1' g1 r1 => hd F1 H1 vs ds d Q hf s1' r1 (k.step s1 g1)⟩
theorem pp_callTy (hc : CallR X (.type T) r) (hd : CallD X.K cl r g) (hg : Gl X x) (hm : X.mg x = none) (hv : bootBuiltins x = some (.type T)) (ha : PPA cl X (e :: es) fa) (hn : x ≠ "__name__" := by decide) (hdb : (x == ("__debug__" : Str)) = false := by decide)
    (he : starEach (e :: es) X.env = (false, eval e X.env) :: starEach es X.env := by rfl) (hpl : (backTo pos (starEach es X.env)).any (·.1) = false := by rfl) : PP cl X (.Call (.Name x p) (e :: es) [] pos) (eB g fa) := fun pins s σ H Q I h => by
  obtain ⟨δ, F, ω, d, hf, er, k⟩ := h
  unfold eB at hf
  cases hd' : fa δ with
  | none => rw [hd'] at hf; cases hf
  | some ds =>
    rw [hd'] at hf
    exact pe_callTy hc hg hm hv ha hn hdb he hpl pins s σ H Q I ⟨δ, F, ω, ds, hd', er, fun vs H1 F1 s1 s1' g1 r1 => hd F1 H1 vs ds d Q hf s1' r1 (k.step s1 g1)⟩
end
end MB

namespace MB
open PySem PySem.Spec PyProof.Rows L2
/-! ### a list comprehension: its loop -/
section
variable {prog : Program} {w : World} {A : Around} {R : Result → Shared → Prop} {s : Shared}
theorem compLoop_gen {elt target iter : Expr} {ifs : List Expr} {scope : Scope} {pos : Pos} {it acc : Value} {env : Env} (J : Nat → Shared → Prop)
    (turn : ∀ n s, J n s → wpAny (model prog w) A (pyNext it) (fun r s₁ => match r with
      | none => R (.ok .next) s₁
      | some v => wpAny (model prog w) A (letOwnedTupleGo target it v) (fun _ s₀ => wpAny (model prog w) A (assign target env v) (fun _ s₂ =>
          wpAny (model prog w) A (forIn ifs true fun c r => if r = true then do let ok ← isTrue c env (eval c env); pure (ForInStep.yield ok) else pure (ForInStep.yield r)) (fun ok s₃ =>
            if ok = true then wpAny (model prog w) A (eval elt env) (fun x s₄ =>
              wpAny (model prog w) A (call (.builtin "list.append") [acc, x]) (fun _ s₅ => ∃ m, m < n ∧ J m s₅) (fun _ _ => False) s₄) (fun _ _ => False) s₃
            else ∃ m, m < n ∧ J m s₃) (fun _ _ => False) s₂) (fun _ _ => False) s₀) (fun _ _ => False) s₁) (fun _ _ => False) s)
    (n : Nat) (h : J n s) :
    codeAny (model prog w) A (.compLoop (.ListComp elt [⟨target, iter, ifs, 0⟩] scope pos) 0 it acc env) R s := by
  refine codeAny_loop rfl J (fun n s hI => ?_) n h
  show wpAny _ A ((compTurn (.ListComp elt [⟨target, iter, ifs, 0⟩] scope pos) 0 it acc env).onRaise (fun x => do noteFrame x env; theTreesLotGoes x)) _ _ s
  refine wpAny_noted ?_
  rw [compTurn_list]
  refine wpAny_bind (wpAny_standAt (wpAny_bind (wpAny_mono (turn n s hI) (fun r s₁ h₁ => ?_) fun _ _ h' => h'.elim)))
  cases r with
  | none => exact wpAny_pure h₁
  | some v =>
    refine wpAny_bind (wpAny_mono h₁ (fun _ s₀ h₀ => ?_) fun _ _ h' => h'.elim)
    refine wpAny_bind (wpAny_mono h₀ (fun _ s₂ h₂ => wpAny_bind (wpAny_mono h₂ (fun ok s₃ h₃ => ?_) fun _ _ h' => h'.elim)) fun _ _ h' => h'.elim)
    cases ok with
    | false => exact wpAny_pure ⟨rfl, h₃⟩
    | true =>
      exact wpAny_bind (wpAny_bind (wpAny_mono h₃ (fun x s₄ h₄ => wpAny_bind (wpAny_mono h₄ (fun _ s₅ h₅ => wpAny_pure (wpAny_pure ⟨rfl, h₅⟩)) fun _ _ h' => h'.elim)) fun _ _ h' => h'.elim))
end
/-- the cells that a block takes along -/
def capOf (env : Env) : List (Str × NameKind) → List (Str × Addr) → List (Str × Addr)
  | [], cs => cs
  | (n, k) :: r, cs => capOf env r (if (k == .free) = true then (n, (env.cells.lookup n).getD 0) :: cs else cs)
theorem closureFor_cap {scope : Scope} {env : Env} (h : ∀ x ∈ scope.names, x.2 = .free → ∃ c, env.cells.lookup x.1 = some c) : closureFor scope env = pure (capOf env scope.names []) := by
  have key : ∀ (l : List (Str × NameKind)) (cs : List (Str × Addr)), (∀ x ∈ l, x.2 = .free → ∃ c, env.cells.lookup x.1 = some c) →
      (forIn l cs (fun x r => match x with | (name, kind) => if (kind == NameKind.free) = true then do let c ← cellOf env name; pure (ForInStep.yield ((name, c) :: r)) else pure (ForInStep.yield r)) : Sem (List (Str × Addr))) = pure (capOf env l cs) := by
    intro l
    induction l with
    | nil => intro cs _; rfl
    | cons x r ih =>
      intro cs hl
      obtain ⟨n, k⟩ := x
      have hr := ih (if (k == .free) = true then (n, (env.cells.lookup n).getD 0) :: cs else cs) fun y hy => hl y (List.mem_cons_of_mem _ hy)
      rw [List.forIn_cons]
      unfold capOf
      by_cases hk : (k == NameKind.free) = true
      · obtain ⟨c, hc⟩ := hl (n, k) List.mem_cons_self (by simpa using hk)
        have hc' : env.cells.lookup n = some c := hc
        rw [if_pos hk] at hr ⊢
        simp only [hk, if_true]
        have e : cellOf env n = pure c := by unfold cellOf; rw [hc']
        rw [e, hc']
        rw [hc'] at hr
        exact hr
      · rw [if_neg hk] at hr ⊢
        simp only [hk]
        exact hr
  unfold closureFor
  show (forIn scope.names [] _ >>= fun s => pure s) = _
  rw [key scope.names [] h]
  rfl
theorem capOf_look {env : Env} {x : Str} {c : Addr} : ∀ {l : List (Str × NameKind)} {cs : List (Str × Addr)}, (∀ y ∈ l, y.2 = .free → ∃ c, env.cells.lookup y.1 = some c) → (∀ c, cs.lookup x = some c → env.cells.lookup x = some c) →
    (capOf env l cs).lookup x = some c → env.cells.lookup x = some c
  | [], cs, _, h, e => h c e
  | (n, k) :: r, cs, hl, h, e => by
    unfold capOf at e
    refine capOf_look (fun y hy => hl y (List.mem_cons_of_mem _ hy)) (fun c' e' => ?_) e
    by_cases hk : (k == NameKind.free) = true
    · rw [if_pos hk] at e'
      rw [List.lookup_cons] at e'
      cases hx : x == n with
      | true =>
        rw [hx] at e'
        have hxn : x = n := eq_of_beq hx
        obtain ⟨c2, hc2⟩ := hl (n, k) List.mem_cons_self (by simpa using hk)
        have hc2' : env.cells.lookup n = some c2 := hc2
        rw [hc2'] at e'
        rw [hxn, hc2']
        exact e'
      | false =>
        rw [hx] at e'
        exact h c' e'
    · rw [if_neg hk] at e'
      exact h c' e'
theorem capOf_has {env : Env} {x : Str} : ∀ {l : List (Str × NameKind)} {cs : List (Str × Addr)}, ((∃ c, cs.lookup x = some c) ∨ (x, NameKind.free) ∈ l) → ∃ c, (capOf env l cs).lookup x = some c
  | [], cs, h => by
    rcases h with h | h
    · exact h
    · cases h
  | (n, k) :: r, cs, h => by
    unfold capOf
    refine capOf_has ?_
    rcases h with ⟨c, h⟩ | h
    · left
      split
      · rw [List.lookup_cons]
        cases x == n with
        | true => exact ⟨_, rfl⟩
        | false => exact ⟨c, h⟩
      · exact ⟨c, h⟩
    · rcases List.mem_cons.mp h with h | h
      · cases h
        left
        rw [if_pos (by rfl), List.lookup_cons, beq_self_eq_true]
        exact ⟨_, rfl⟩
      · exact .inr h
theorem lookup_mem {x : Str} {k : NameKind} : ∀ {l : List (Str × NameKind)}, l.lookup x = some k → (x, k) ∈ l
  | [], h => by cases h
  | (n, k0) :: r, h => by
    rw [List.lookup_cons] at h
    cases hx : x == n with
    | true => rw [hx] at h; cases h; rw [eq_of_beq hx]; exact List.mem_cons_self
    | false => rw [hx] at h; exact List.mem_cons_of_mem _ (lookup_mem h)
/-- the context of a comprehension's block -/
def compX (X : Cx) (scope : Scope) (C : Addr) (s0 : Shared) (H0 : Hp) (fp : List Addr) (N : List Str) : Cx :=
  { X with N := N, s₀ := s0, H₀ := H0, env := compEnvC scope (capOf X.env scope.names []) C X.env, outer := X.stack, stack := X.stack, ex := fp, fn := fun _ => false, pn := [], xe := fun _ _ => False }
/-- what must be seen of its scope: vars its own names, caps the slots (in X) of the names that it takes along -/
structure CompSc (X : Cx) (scope : Scope) (vars : List Str) (caps : List Nat) (N : List Str) : Prop where
  kind : scope.kind = .function
  nocell : ∀ y ∈ scope.names, y.2 ≠ .cell
  names : ∀ y ∈ scope.names, y.2 = .local → scope.names.lookup y.1 = some .local
  free : ∀ y ∈ scope.names, y.2 = .free → X.env.kindOf y.1 = some .cell ∨ X.env.kindOf y.1 = some .free
  hN : N = vars ++ caps.filterMap fun j => X.N[j]?
  capn : ∀ j ∈ caps, ∃ x, X.N[j]? = some x ∧ (X.env.kindOf x = some .cell ∨ X.env.kindOf x = some .free) ∧ scope.names.lookup x = some .free
theorem lookup_map1 {x : Str} {f : Str × NameKind → NameKind} : ∀ {l : List (Str × NameKind)} {k : NameKind}, (l.map fun p => (p.1, f p)).lookup x = some k → ∃ k', (x, k') ∈ l ∧ k = f (x, k')
  | [], k, h => by cases h
  | (n, k0) :: r, k, h => by
    rw [List.map_cons, List.lookup_cons] at h
    cases hx : x == n with
    | true =>
      rw [hx] at h
      have hxn : x = n := eq_of_beq hx
      subst hxn
      exact ⟨k0, List.mem_cons_self, (Option.some.inj h).symm⟩
    | false =>
      rw [hx] at h
      obtain ⟨k', m, q⟩ := lookup_map1 h
      exact ⟨k', List.mem_cons_of_mem _ m, q⟩
theorem lookup_map2 {x : Str} {f : Str × NameKind → NameKind} : ∀ {l : List (Str × NameKind)} {k : NameKind}, l.lookup x = some k → (l.map fun p => (p.1, f p)).lookup x = some (f (x, k))
  | [], k, h => by cases h
  | (n, k0) :: r, k, h => by
    rw [List.lookup_cons] at h
    rw [List.map_cons, List.lookup_cons]
    cases hx : x == n with
    | true =>
      rw [hx] at h
      have hxn : x = n := eq_of_beq hx
      subst hxn
      rw [Option.some.inj h]
    | false =>
      rw [hx] at h
      exact lookup_map2 h
def relK (env : Env) (p : Str × NameKind) : NameKind := if (p.2 == NameKind.free && env.scope.kind == .function && env.kindOf p.1 == some .cell) = true then .cell else p.2
theorem relabel_names {scope : Scope} {env : Env} : (relabel scope env).names = scope.names.map fun p => (p.1, relK env p) := by
  unfold relabel
  dsimp only
  congr 1
  funext p
  obtain ⟨n, k⟩ := p
  unfold relK
  dsimp only
  split <;> rfl
theorem relabel_back {scope : Scope} {env : Env} {x : Str} {k : NameKind} (h : (relabel scope env).names.lookup x = some k) : ∃ k', (x, k') ∈ scope.names ∧ (k = k' ∨ (k' = .free ∧ k = .cell)) := by
  rw [relabel_names] at h
  obtain ⟨k', m, q⟩ := lookup_map1 h
  refine ⟨k', m, ?_⟩
  unfold relK at q
  split at q
  · rename_i c
    simp only [Bool.and_eq_true] at c
    exact .inr ⟨eq_of_beq c.1.1, q⟩
  · exact .inl q
theorem relabel_free {scope : Scope} {env : Env} {x : Str} (h : scope.names.lookup x = some .free) : (relabel scope env).names.lookup x = some .cell ∨ (relabel scope env).names.lookup x = some .free := by
  rw [relabel_names, lookup_map2 h]
  unfold relK
  split
  · exact .inl rfl
  · exact .inr rfl
def capS (n : Nat) (caps : List Nat) (σ : St) : St := List.replicate n none ++ caps.map fun j => (σ[j]?).getD none
theorem fmap_get {α : Type} {f : Nat → Option α} : ∀ {l : List Nat} {i : Nat} {x : α}, (∀ j ∈ l, ∃ y, f j = some y) → (l.filterMap f)[i]? = some x → ∃ j, l[i]? = some j ∧ f j = some x
  | [], i, x, _, h => by simp at h
  | j :: r, i, x, hs, h => by
    obtain ⟨y, hy⟩ := hs j List.mem_cons_self
    rw [List.filterMap_cons, hy] at h
    cases i with
    | zero => simp at h; subst h; exact ⟨j, rfl, hy⟩
    | succ i =>
      obtain ⟨j', a, b⟩ := fmap_get (fun k hk => hs k (List.mem_cons_of_mem _ hk)) (by simpa using h)
      exact ⟨j', by simpa using a, b⟩
theorem fmap_len {α : Type} {f : Nat → Option α} : ∀ {l : List Nat}, (∀ j ∈ l, ∃ y, f j = some y) → (l.filterMap f).length = l.length
  | [], _ => rfl
  | j :: r, hs => by
    obtain ⟨y, hy⟩ := hs j List.mem_cons_self
    rw [List.filterMap_cons, hy]
    simp [fmap_len fun k hk => hs k (List.mem_cons_of_mem _ hk)]
section
variable {X : Cx} {pins : List (Addr × Obj)} {σ : St} {H : Hp} {s : Shared} {scope : Scope} {vars N : List Str} {caps : List Nat} {fp : List Addr}
theorem CompSc.cells (S : CompSc X scope vars caps N) (I : Inv X pins σ H s) : ∀ x ∈ scope.names, x.2 = .free → ∃ c, X.env.cells.lookup x.1 = some c := fun x hx hf => I.ok.has x.1 (S.free x hx hf)
theorem CompSc.look (S : CompSc X scope vars caps N) (I : Inv X pins σ H s) {x : Str} {c : Addr} (e : (capOf X.env scope.names []).lookup x = some c) : X.env.cells.lookup x = some c :=
  capOf_look (S.cells I) (fun c e => by cases e) e
theorem compX_ok (I : Inv X pins σ H s) (hf : ∀ b ∈ fp, FpOk X pins H b) (hlt : ∀ b ∈ fp, b < s.heap.objs.size) (S : CompSc X scope vars caps N) : (compX X scope s.heap.objs.size s H fp N).Ok where
  mod := I.ok.mod
  kind := S.kind
  glob := I.ok.glob
  blt := I.ok.blt
  above := Nat.le_refl _
  inj := fun x y c e1 e2 => I.ok.inj x y c (S.look I e1) (S.look I e2)
  has := fun x hk => by
    have go : ∀ k, (k = NameKind.cell ∨ k = NameKind.free) → (relabel scope X.env).names.lookup x = some k → ∃ c, (capOf X.env scope.names []).lookup x = some c := fun k hk e => by
      obtain ⟨k', m, q⟩ := relabel_back (scope := scope) e
      refine capOf_has (.inr ?_)
      rcases q with q | ⟨q, _⟩
      · subst q
        rcases hk with h | h
        · exact absurd h (S.nocell _ m)
        · rw [← h]; exact m
      · rw [← q]; exact m
    rcases hk with h | h
    · exact go _ (.inl rfl) h
    · exact go _ (.inr rfl) h
  cab := fun x c h => by cases h
  hd := I.ok.hd
  frames := I.ok.frames
  stk := .inl rfl
  exf := fun b hb => ⟨Nat.ne_of_lt (hlt b hb), fun x c e => (hf b hb).2.2.2.2.1 x c (S.look I e)⟩
  bs := fun b o e => I.bs b o e
  bsz := Nat.le_trans I.ok.bsz I.sz
  noex := fun b o e hb => by
    obtain ⟨_, _, _, h, _⟩ := hf b hb
    rcases h with h | h
    · exact I.ok.noex b o e h
    · exact absurd (Nat.lt_of_lt_of_le (Heap.lt_size e) (Nat.le_trans I.ok.bsz h)) (Nat.lt_irrefl _)
  exfs := fun b hb hs => (List.mem_cons.mp (I.stkSub b hs)).elim (fun e => (hf b hb).2.1 e) fun m => (hf b hb).2.2.1 m
  funs := I.stack
  frf := fun b hb => I.stkFree b hb
theorem compX_inv {h' : Heap} {m : Str → Option Value} {tk : Nat} (I : Inv X pins σ H s) (hf : ∀ b ∈ fp, FpOk X pins H b) (hlt : ∀ b ∈ fp, b < s.heap.objs.size) (S : CompSc X scope vars caps N)
    (hn : h'.Ns s.heap.objs.size m) (k : ∀ b o, s.heap.get? b = some o → h'.get? b = some o) : Inv (compX X scope s.heap.objs.size s H fp N) [] (capS vars.length caps σ) H { s with heap := h', toks := tk } where
  ok := compX_ok I hf hlt S
  os := rfl
  bare := I.bare
  base := Un.kept k
  loc := by
    refine ⟨m, hn, fun i x v e1 e2 e3 => ?_⟩
    have hcap : ∀ j ∈ caps, ∃ y, X.N[j]? = some y := fun j hj => let ⟨y, a, _⟩ := S.capn j hj; ⟨y, a⟩
    have e1' : (vars ++ caps.filterMap fun j => X.N[j]?)[i]? = some x := by rw [← S.hN]; exact e1
    unfold capS at e2
    by_cases hi : i < vars.length
    · rw [List.getElem?_append_left (by simpa using hi)] at e2
      have := (List.mem_replicate.mp (List.mem_of_getElem? e2)).2
      cases this
    · rw [List.getElem?_append_right (by simpa using hi), List.length_replicate, List.getElem?_map] at e2
      rw [List.getElem?_append_right (by simpa using hi)] at e1'
      obtain ⟨j, hj, hx⟩ := fmap_get hcap e1'
      rw [hj] at e2
      have e2' : (σ[j]?).getD none = some v := Option.some.inj e2
      have hσ : σ[j]? = some (some v) := by
        cases q : σ[j]? with
        | none => rw [q] at e2'; cases e2'
        | some o => rw [q] at e2'; exact congrArg some e2'
      obtain ⟨x', hx', hk, hfr⟩ := S.capn j (List.mem_of_getElem? hj)
      rw [hx] at hx'
      cases hx'
      have vis : Vis X.env.scope x := by
        rcases hk with h | h
        · exact .inr (.inl h)
        · exact .inr (.inr h)
      obtain ⟨mm, _, hl⟩ := I.loc
      obtain ⟨u, r, l⟩ := hl j x v hx hσ vis
      refine ⟨u, r, ?_⟩
      rcases l with ⟨hloc, _⟩ | ⟨_, c, hc, hcell⟩
      · rcases hk with h | h <;> (rw [hloc] at h; cases h)
      · refine .inr ⟨relabel_free hfr, ?_⟩
        obtain ⟨c', hc'⟩ := capOf_has (env := X.env) (cs := []) (.inr (lookup_mem hfr))
        have := S.look I hc'
        rw [hc] at this
        cases this
        obtain ⟨oc, hoc, hd⟩ := hcell
        exact ⟨c, hc', oc, k _ _ hoc, hd⟩
  cell := fun x c e => by
    obtain ⟨v, o, ho, hd⟩ := I.cell x c (S.look I e)
    exact ⟨v, o, k _ _ ho, hd⟩
  free := I.hok.fresh (Nat.le_refl _)
  freeC := fun x c e => I.freeC x c (S.look I e)
  pin := fun p hp => by simp [compX] at hp
  hok := I.hok.kept k
  len := by
    have hcap : ∀ j ∈ caps, ∃ y, X.N[j]? = some y := fun j hj => let ⟨y, a, _⟩ := S.capn j hj; ⟨y, a⟩
    show (capS vars.length caps σ).length = N.length
    rw [S.hN, List.length_append, fmap_len hcap]
    simp [capS]
end
end MB

namespace MB
open PySem PySem.Spec PyProof.Rows L2
/-! ### a list comprehension: the rule -/
section
variable {K : PySem.W.Frag} {cl : Nat → Addr} {F H : Hp} {ω : Ow} {σ : St} {δ : Sto} {D : Addr} {o : HO}
theorem O0R.free {w : Addr → Option Lab} {l : Lab} {v : V} {x : O0} (hw : w D = none) (r : O0R K cl F H w l v x) : O0R K cl F (upd H D o) w l v x := by
  have ne : ∀ q, w q = some l → q ≠ D := fun q e z => by subst z; rw [e] at hw; cases hw
  cases x with
  | val d => exact r
  | lst xs => obtain ⟨q, vs, e, z, h, t⟩ := r; exact ⟨q, vs, e, z, by rw [upd_ne (ne q z)]; exact h, t⟩
  | dK kvs => obtain ⟨q, vs, e, z, h, t⟩ := r; exact ⟨q, vs, e, z, by rw [upd_ne (ne q z)]; exact h, t⟩
  | dT kvs => obtain ⟨q, vs, e, z, h, t⟩ := r; exact ⟨q, vs, e, z, by rw [upd_ne (ne q z)]; exact h, t⟩
theorem ER.free (e : ER K cl F H ω σ δ) (hw : ω.w D = none) (hF : F D = none) : ER K cl F (upd H D o) ω σ δ where
  sub := fun b ob q => by
    rw [upd_ne fun z => by subst z; rw [hF] at q; cases q]
    exact e.sub b ob q
  own := fun a l h => by
    obtain ⟨h1, o', h2⟩ := e.own a l h
    exact ⟨h1, o', by rw [upd_ne fun z => by subst z; rw [hw] at h; cases h]; exact h2⟩
  len := e.len
  at_ := fun i s hs => by
    have r := e.at_ i s hs
    cases s with
    | no => exact True.intro
    | o x => obtain ⟨v, e, q⟩ := r; exact ⟨v, e, q.free hw⟩
    | rcd kvs =>
      obtain ⟨q, vs, e, z, h, n, t⟩ := r
      exact ⟨q, vs, e, z, by rw [upd_ne fun y => by subst y; rw [z] at hw; cases hw]; exact h, n, pimp (fun _ _ t => ⟨t.1, t.2.free hw⟩) t⟩
def capD (n : Nat) (caps : List Nat) (δ : Sto) : Sto := List.replicate n .no ++ caps.map fun j => (δ[j]?).getD .no
theorem er_cap (e : ER K cl F H ω σ δ) (n : Nat) (caps : List Nat) : ER K cl F H ⟨ω.w, fun i => ω.b ((caps[i - n]?).getD 0)⟩ (capS n caps σ) (capD n caps δ) where
  sub := e.sub
  own := e.own
  len := by simp [capS, capD]
  at_ := fun i s hs => by
    unfold capD at hs
    by_cases hi : i < n
    · rw [List.getElem?_append_left (by simpa using hi)] at hs
      have := (List.mem_replicate.mp (List.mem_of_getElem? hs)).2
      subst this
      exact True.intro
    · rw [List.getElem?_append_right (by simpa using hi), List.length_replicate, List.getElem?_map] at hs
      cases hj : caps[i - n]? with
      | none => rw [hj] at hs; cases hs
      | some j =>
        rw [hj] at hs
        have hs' : (δ[j]?).getD .no = s := Option.some.inj hs
        have eσ : (capS n caps σ)[i]? = some ((σ[j]?).getD none) := by
          unfold capS
          rw [List.getElem?_append_right (by simpa using hi), List.length_replicate, List.getElem?_map, hj]
          rfl
        cases hd : δ[j]? with
        | none => rw [hd] at hs'; subst hs'; exact True.intro
        | some t =>
          rw [hd] at hs'
          obtain rfl : t = s := hs'
          have r := e.at_ j t hd
          show SlotR K cl F H ω.w (ω.b ((caps[i - n]?).getD 0)) (capS n caps σ)[i]? t
          rw [hj, eσ]
          cases t with
          | no => exact True.intro
          | o x => obtain ⟨v, e, q⟩ := r; exact ⟨v, by rw [e]; rfl, q⟩
          | rcd kvs => obtain ⟨q, vs, e, z⟩ := r; exact ⟨q, vs, by rw [e]; rfl, z⟩
end
def bT : FT := fun _ => some true
def PIfs (cl : Nat → Addr) (X : Cx) (ifs : List Expr) (t : FT) : Prop := ∀ (pins : List (Addr × Obj)) (s : Shared) (σ : St) (H : Hp) (Q : Bool → Hp → Prop), Inv X pins σ H s → tPT X.K cl t σ H Q →
  wpAny (model X.prog X.w) X.A (forIn ifs true fun c r => if r = true then do let ok ← isTrue c X.env (eval c X.env); pure (ForInStep.yield ok) else pure (ForInStep.yield r)) (TP X pins σ Q) X.xe s
theorem pifs_nil {cl : Nat → Addr} {X : Cx} : PIfs cl X [] bT := fun pins s σ H Q I h => by
  obtain ⟨δ, F, ω, b, hf, er, k⟩ := h
  obtain rfl := Option.some.inj hf
  exact wpAny_tests_nil ⟨H, I, k H F (Same.refl _) er.sub Grow.refl⟩
theorem pifs_one {cl : Nat → Addr} {X : Cx} {c : Expr} {t : FT} (h : PPT cl X c t) : PIfs cl X [c] t := fun pins s σ H Q I hw => wpAny_tests_one (h pins s σ H Q I hw)
def compD (g : FG) (t : FT) (fe : FE) : List Dat → Sto → Option (List Dat)
  | [], _ => some []
  | d :: ds, δ => (g d δ).bind fun δ1 => (t δ1).bind fun c => if c = true then (fe δ1).bind fun y => (compD g t fe ds δ1).bind fun ys => some (y :: ys) else compD g t fe ds δ1
def eComp (fi : FA) (g : FG) (t : FT) (fe : FE) (n : Nat) (caps : List Nat) : FE := fun δ => (fi δ).bind fun ds => if ds.length ≤ sizeLine then (compD g t fe ds (capD n caps δ)).bind fun out => some (.lst out) else none
theorem eComp_some {fi : FA} {g : FG} {t : FT} {fe : FE} {n : Nat} {caps : List Nat} {δ : Sto} {d : Dat} (h : eComp fi g t fe n caps δ = some d) : ∃ ds out, fi δ = some ds ∧ ds.length ≤ sizeLine ∧ compD g t fe ds (capD n caps δ) = some out ∧ d = .lst out := by
  unfold eComp at h
  cases hd : fi δ with
  | none => rw [hd] at h; cases h
  | some ds =>
    rw [hd] at h
    simp only [Option.bind_some] at h
    split at h
    · rename_i hl
      cases hc : compD g t fe ds (capD n caps δ) with
      | none => rw [hc] at h; cases h
      | some out => rw [hc] at h; exact ⟨ds, out, rfl, hl, hc, (Option.some.inj h).symm⟩
    · cases h
section
variable {cl : Nat → Addr} {X : Cx} {elt target iter : Expr} {ifs : List Expr} {scope : Scope} {pos : Pos} {vars N : List Str} {caps : List Nat} {fi : FA} {g : FG} {t : FT} {fe : FE}
structure CompB (cl : Nat → Addr) (X : Cx) (target elt : Expr) (ifs : List Expr) (g : FG) (t : FT) (fe : FE) : Prop where
  tg : PPG cl X target g
  ts : PIfs cl X ifs t
  el : PP cl X elt fe
theorem comp_coreF {pins : List (Addr × Obj)} {s : Shared} {σ : St} {H F : Hp} {ω : Ow} {δ : Sto} {ds out : List Dat} {RR : Value → Addr → Result → Shared → Prop} (hc : X.calm = true) (S : CompSc X scope vars caps N) (hi : PPI cl X target iter fi)
    (hb : ∀ C s0 H0 fp, CompB cl (compX X scope C s0 H0 fp N) target elt ifs g t fe) (I : Inv X pins σ H s) (er : ER X.K cl F H ω σ δ) (hds : fi δ = some ds) (hsz : ds.length ≤ sizeLine) (hout : compD g t fe ds (capD vars.length caps δ) = some out)
    (hRR : ∀ D C s5 H5 F5 m, Inv X pins σ H5 s5 → s5.heap.Ns C m → H5 C = none → C ≠ X.env.locals → X.s₀.heap.objs.size ≤ C → (∀ x c, X.env.cells.lookup x = some c → c ≠ C) → (∀ p ∈ X.pn ++ pins, p.1 ≠ C) →
      Same H H5 → Same F5 H5 → Grow F H F5 → (H D = none ∧ F5 D = none ∧ ∃ ysV, H5 D = some (.lst ysV) ∧ RepL X.K cl F5 ysV out) → RR (.ref D) C (.ok .next) s5) :
    wpAny (model X.prog X.w) X.A (eval iter X.env) (fun x s₁ => wpAny (model X.prog X.w) X.A (pyIter x) (fun it s₂ => wpAny (model X.prog X.w) X.A (newList []) (fun acc s₃ =>
      wpAny (model X.prog X.w) X.A (newFunctionEnv scope X.env.globals (capOf X.env scope.names []) [] X.env.qual none .none (some X.env)) (fun cenv s₄ =>
        codeAny (model X.prog X.w) X.A (.compStart (.ListComp elt [⟨target, iter, ifs, 0⟩] scope pos) 0 it acc { cenv with scope := relabel scope X.env }) (RR acc cenv.locals) s₄) X.xe s₃) X.xe s₂) X.xe s₁) X.xe s := by
  refine thn (hi pins s σ H (fun J H2 => ∃ F2, Same H H2 ∧ Same F2 H2 ∧ Grow F H F2 ∧ Walk X.K cl F2 J ds) I ⟨δ, F, ω, ds, hds, er, fun J H' F' a b c d => ⟨F', a, b, c, d⟩⟩) fun v s1 h1 => thn h1 fun itv s2 h2 => ?_
  obtain ⟨it, fp, tn, J, H2, rfl, I2, T, st2, f2, F2, sH, sF, gF, wk⟩ := h2
  have er2 := er.grow sH sF gF
  have hlt2 : ∀ b ∈ fp, b < s2.heap.objs.size := fun b hb => let ⟨o, e, _⟩ := T.obj 0 _ st2 b hb; Heap.lt_size e
  refine wpAny_newObj_type ?_ (Nat.zero_le _)
  have hD : H2 s2.heap.objs.size = none := I2.fresh
  have I3 : Inv X pins σ (upd H2 s2.heap.objs.size (.lst [])) { s2 with heap := s2.heap.push { cls := .type "list", data := .seq ([] : List Value).toArray } } := I2.lnew (t' := s2.toks) .nil (Nat.zero_le _)
  generalize hs3 : ({ s2 with heap := s2.heap.push { cls := .type "list", data := .seq ([] : List Value).toArray } } : Shared) = s3 at I3
  have sz3 : s3.heap.objs.size = s2.heap.objs.size + 1 := by rw [← hs3]; exact Heap.size_push ..
  have k3 : ∀ b o, s2.heap.get? b = some o → s3.heap.get? b = some o := fun b o e => by rw [← hs3]; exact Heap.get?_push_of_some _ e
  have hlt3 : ∀ b ∈ fp, b < s3.heap.objs.size := fun b hb => by rw [sz3]; exact Nat.lt_succ_of_lt (hlt2 b hb)
  have f3 : ∀ b ∈ fp, FpOk X pins (upd H2 s2.heap.objs.size (.lst [])) b := fun b hb => ⟨by rw [upd_ne (Nat.ne_of_lt (hlt2 b hb))]; exact (f2 b hb).1, (f2 b hb).2⟩
  generalize hDD : s2.heap.objs.size = D at hD I3 f3
  refine wpAny_newFunctionEnv S.nocell (by intro y hy; cases hy) (fun h4 hns hsb => ?_) S.kind
  have k4 : ∀ b o, s3.heap.get? b = some o → h4.get? b = some o := fun b o e => (hsb.2 b (Nat.ne_of_lt (Heap.lt_size e))).trans (Heap.get?_push_of_some _ e)
  have I4 := compX_inv (tk := s3.toks + ([] : List (Str × Value)).length) I3 f3 hlt3 S hns k4
  have hwD : ω.w D = none := by
    cases q : ω.w D with
    | none => rfl
    | some l => obtain ⟨_, o, e⟩ := er2.own D l q; rw [hD] at e; cases e
  have hFD : F2 D = none := none_of sF hD
  have st4 : tn 0 h4 := T.keep 0 _ _ st2 fun b _ o e => k4 b o (k3 b o e)
  have er4 : ER X.K cl F2 (upd H2 D (.lst [])) ⟨ω.w, fun i => ω.b ((caps[i - vars.length]?).getD 0)⟩ (capS vars.length caps σ) (capD vars.length caps δ) := er_cap (er2.free hwD hFD) _ _
  have CB := hb s3.heap.objs.size s3 (upd H2 D (.lst [])) fp
  have Xok := compX_ok I3 f3 hlt3 S
  have stat : ∀ {H' : Hp}, (∀ b ∈ fp, H' b = none) → ∀ b ∈ fp, FpOk (compX X scope s3.heap.objs.size s3 (upd H2 D (.lst [])) fp N) [] H' b := fun hn b hb =>
    ⟨hn b hb, (Xok.exf b hb).1, Xok.exfs b hb, .inl hb, (Xok.exf b hb).2, fun p hp => by simp [compX] at hp⟩
  have loop : codeAny (model X.prog X.w) X.A (.compLoop (.ListComp elt [⟨target, iter, ifs, 0⟩] scope pos) 0 (.ref it) (.ref D) (compEnvC scope (capOf X.env scope.names []) s3.heap.objs.size X.env)) (RR (.ref D) s3.heap.objs.size)
      { s3 with heap := h4, toks := s3.toks + ([] : List (Str × Value)).length } := by
    refine compLoop_gen (fun n s' => ∃ i σi Hi Fi δi ysV ys rest, Inv (compX X scope s3.heap.objs.size s3 (upd H2 D (.lst [])) fp N) [] σi Hi s' ∧ tn i s'.heap ∧ (∀ b ∈ fp, Hi b = none) ∧
      ER X.K cl Fi Hi ⟨ω.w, fun i => ω.b ((caps[i - vars.length]?).getD 0)⟩ σi δi ∧ Same H2 Hi ∧ Same F2 Fi ∧ Grow F2 H2 Fi ∧ Hi D = some (.lst ysV) ∧ Fi D = none ∧ RepL X.K cl Fi ysV ys ∧ ys.length ≤ i ∧ i ≤ ds.length ∧ n = ds.length - i ∧
      compD g t fe (ds.drop i) δi = some rest ∧ ys ++ rest = out) ?_ ds.length
      ⟨0, _, _, F2, _, [], [], out, I4, st4, fun b hb => (f3 b hb).1, er4, same_upd hD, Same.refl _, Grow.refl, upd_same, hFD, .nil, Nat.le_refl _, Nat.zero_le _, by simp, hout, rfl⟩
    rintro n s' ⟨i, σi, Hi, Fi, δi, ysV, ys, rest, Ii, sti, fri, eri, a1, a2, a3, a4, a5, a6, a7, a8, rfl, hrun, hall⟩
    have sFi : Same F2 Hi := a2.trans eri.sub
    by_cases hlt : i < ds.length
    · refine thn (T.item (compX X scope s3.heap.objs.size s3 (upd H2 D (.lst [])) fp N) rfl rfl rfl hc i [] s' σi Hi (fun _ _ => False) Ii (stat fri) sti (wk.go i Hi sFi hlt)) fun r s5 ⟨u, hr, h5⟩ => ?_
      subst hr
      refine thn h5 fun _ s6 ⟨x, H6, I6, r6, y6, st6, fr6⟩ => ?_
      have hdi : ds[i]? = some ds[i] := List.getElem?_eq_getElem hlt
      obtain ⟨F6, b1, b2, b3, b4⟩ := wk.yld i Hi Fi x H6 _ a2 eri.sub hdi y6
      have er6 := eri.grow b1 b2 b3
      have I6' := I6.pinned (stat fr6) (T.obj _ _ st6)
      rw [List.drop_eq_getElem_cons hlt] at hrun
      unfold compD at hrun
      cases hg1 : g ds[i] δi with
      | none => rw [hg1] at hrun; cases hrun
      | some δ1 =>
        rw [hg1] at hrun
        simp only [Option.bind_some] at hrun
        refine thn (CB.tg _ s6 σi H6 x u (fun σ' H' => H' = H6 ∧ ER X.K cl F6 H6 ⟨ω.w, fun i => ω.b ((caps[i - vars.length]?).getD 0)⟩ σ' δ1) I6' r6 ⟨δi, F6, _, ds[i], δ1, hg1, er6, b4, fun σ' e => ⟨rfl, e⟩⟩) fun _ s7 ⟨σ7, H7, I7, e7, er7⟩ => ?_
        subst e7
        cases ht1 : t δ1 with
        | none => rw [ht1] at hrun; cases hrun
        | some c =>
          rw [ht1] at hrun
          simp only [Option.bind_some] at hrun
          refine thn (CB.ts _ s7 σ7 H7 (fun b H' => b = c ∧ ∃ F', Same H7 H' ∧ Same F' H' ∧ Grow F6 H7 F') I7 ⟨δ1, F6, _, c, ht1, er7, fun H' F' q1 q2 q3 => ⟨rfl, F', q1, q2, q3⟩⟩) fun ok s8 ⟨H8, I8, eok, F8, c1, c2, c3⟩ => ?_
          subst eok
          have er8 := er7.grow c1 c2 c3
          have keepIt : ∀ {σ9 : St} {H9 : Hp} {s9 : Shared}, Inv (compX X scope s3.heap.objs.size s3 (upd H2 D (.lst [])) fp N) ([] ++ pinsAt fp s6.heap) σ9 H9 s9 → tn (i + 1) s9.heap ∧ ∀ b ∈ fp, H9 b = none := fun {σ9 H9 s9} I9 =>
            ⟨T.keep _ _ _ st6 fun b hb o e => (I9.pin (b, o) (List.mem_append_right _ (List.mem_append_right _ (mem_pinsAt hb e)))).1, fun b hb => by
              obtain ⟨o, e, d⟩ := T.obj _ _ st6 b hb
              exact (I9.pin (b, o) (List.mem_append_right _ (List.mem_append_right _ (mem_pinsAt hb e)))).2.1⟩
          cases ok with
          | false =>
            rw [if_neg Bool.false_ne_true]
            rw [if_neg Bool.false_ne_true] at hrun
            obtain ⟨st8, fr8⟩ := keepIt I8
            have g8 : Grow F2 H2 F8 := (a3.trans a1 b3).trans (a1.trans b1) c3
            exact ⟨ds.length - (i + 1), by omega, i + 1, σ7, H8, F8, δ1, ysV, ys, rest, I8.unpinned, st8, fr8, er8, (a1.trans b1).trans c1, (a2.trans b3.1).trans c3.1, g8, c1 _ _ (b1 _ _ a4), c3.keep (b3.keep a5 a4) (b1 _ _ a4), (a6.mono b3.1).mono c3.1, by omega, hlt, rfl, hrun, hall⟩
          | true =>
            rw [if_pos rfl]
            rw [if_pos rfl] at hrun
            cases he1 : fe δ1 with
            | none => rw [he1] at hrun; cases hrun
            | some y =>
              rw [he1] at hrun
              simp only [Option.bind_some] at hrun
              cases hr1 : compD g t fe (ds.drop (i + 1)) δ1 with
              | none => rw [hr1] at hrun; cases hrun
              | some rest' =>
                rw [hr1] at hrun
                obtain rfl := Option.some.inj hrun
                refine thn (CB.el _ s8 σ7 H8 (fun v H' => ∃ F', Same H8 H' ∧ Same F' H' ∧ Grow F8 H8 F' ∧ Rep X.K cl F' v y) I8 ⟨δ1, F8, _, y, he1, er8, fun v H' F' q1 q2 q3 q4 => ⟨F', q1, q2, q3, q4⟩⟩) fun uv s9 ⟨v9, H9, I9, r9, F9, d1, d2, d3, d4⟩ => ?_
                have er9 := er8.grow d1 d2 d3
                have g9 : Grow F2 H2 F9 := ((a3.trans a1 b3).trans (a1.trans b1) c3).trans ((a1.trans b1).trans c1) d3
                have hD9 : H9 D = some (.lst ysV) := d1 _ _ (c1 _ _ (b1 _ _ a4))
                have hF9 : F9 D = none := by
                  cases q : F9 D with
                  | none => rfl
                  | some o => 
                    have e6 : F6 D = none := b3.keep a5 a4
                    have e8 : F8 D = none := c3.keep e6 (b1 _ _ a4)
                    have e9 : F9 D = none := d3.keep e8 (c1 _ _ (b1 _ _ a4))
                    rw [e9] at q; cases q
                have hz : ysV.length < sizeLine := by
                  rw [a6.length]
                  omega
                refine thn (mt_append _ s9 σ7 H9 (.ref D) [v9] (.ref D) [uv] (fun _ H' => H' = upd H9 D (.lst (ysV ++ [v9]))) I9 rfl (.cons r9 .nil) ⟨D, ysV, v9, rfl, rfl, hD9, hz, rfl⟩) fun _ s10 ⟨_, H10, I10, _, e10⟩ => ?_
                subst e10
                obtain ⟨st10, fr10⟩ := keepIt I10
                refine ⟨ds.length - (i + 1), by omega, i + 1, σ7, _, F9, δ1, ysV ++ [v9], ys ++ [y], rest', I10.unpinned, st10, fr10, er9.free hwD hF9, fun b ob e => ?_, g9.1, g9, upd_same, hF9, pappend (((a6.mono b3.1).mono c3.1).mono d3.1) (.cons d4 .nil), by rw [List.length_append]; simp; omega, hlt, rfl, hr1, by rw [List.append_assoc]; exact hall⟩
                rw [upd_ne fun z => by subst z; rw [hD] at e; cases e]
                exact d1 _ _ (c1 _ _ (b1 _ _ (a1 b ob e)))
    · have hie : i = ds.length := by omega
      refine thn (T.done (compX X scope s3.heap.objs.size s3 (upd H2 D (.lst [])) fp N) rfl rfl rfl hc i [] s' σi Hi (fun _ _ => False) Ii (stat fri) sti (wk.stop i Hi sFi (by omega))) fun r s5 ⟨hr, I5⟩ => ?_
      subst hr
      have e0 : ds.drop i = [] := List.drop_eq_nil_of_le (by omega)
      rw [e0] at hrun
      obtain rfl := Option.some.inj hrun
      have hys : ys = out := by rw [← hall, List.append_nil]
      subst hys
      obtain ⟨mC, hnC, _⟩ := I5.loc
      have IX : Inv X pins σ Hi s5 := by
        have u := I5.base
        exact I3.call' I5.os u I5.hok I5.bare fun b hb => ⟨(f3 b hb).2.2.2.1, (f3 b hb).2.1, (f3 b hb).2.2.2.2.1, (f3 b hb).2.2.2.2.2⟩
      have sz0 : X.s₀.heap.objs.size ≤ s3.heap.objs.size := I3.sz
      refine hRR D s3.heap.objs.size s5 Hi Fi mC IX hnC I5.free (Nat.ne_of_gt I3.lt) sz0 (fun x c e z => ?_) (fun p hp z => ?_) (sH.trans a1) eri.sub (gF.trans sH a3) ⟨sH.free hD, a5, ysV, a4, a6⟩
      · obtain ⟨vv, q⟩ := I3.cell x c e
        exact absurd (by rw [z] at q; exact q.lt) (Nat.lt_irrefl _)
      · exact absurd (Heap.lt_size (I3.pin p hp).1) (by rw [z]; exact Nat.lt_irrefl _)
  rw [← hDD] at loop
  have e3 : s2.heap.objs.size = D := hDD
  subst e3
  subst hs3
  exact codeAny_compStart_list loop (T.self _ 0 _ _ _ st4 loop)
theorem comp_core {pins : List (Addr × Obj)} {s : Shared} {σ : St} {H F : Hp} {ω : Ow} {δ : Sto} {ds out : List Dat} {RR : Value → Addr → Result → Shared → Prop} (hc : X.calm = true) (S : CompSc X scope vars caps N) (hi : PPI cl X target iter fi)
    (hb : ∀ C s0 H0 fp, CompB cl (compX X scope C s0 H0 fp N) target elt ifs g t fe) (I : Inv X pins σ H s) (er : ER X.K cl F H ω σ δ) (hds : fi δ = some ds) (hsz : ds.length ≤ sizeLine) (hout : compD g t fe ds (capD vars.length caps δ) = some out)
    (hRR : ∀ D C s5 H5 F5 m, Inv X pins σ H5 s5 → s5.heap.Ns C m → H5 C = none → C ≠ X.env.locals → X.s₀.heap.objs.size ≤ C → (∀ x c, X.env.cells.lookup x = some c → c ≠ C) → (∀ p ∈ X.pn ++ pins, p.1 ≠ C) →
      Same H H5 → Same F5 H5 → Grow F H F5 → Rep X.K cl F5 (.ref D) (.lst out) → RR (.ref D) C (.ok .next) s5) :
    wpAny (model X.prog X.w) X.A (eval iter X.env) (fun x s₁ => wpAny (model X.prog X.w) X.A (pyIter x) (fun it s₂ => wpAny (model X.prog X.w) X.A (newList []) (fun acc s₃ =>
      wpAny (model X.prog X.w) X.A (newFunctionEnv scope X.env.globals (capOf X.env scope.names []) [] X.env.qual none .none (some X.env)) (fun cenv s₄ =>
        codeAny (model X.prog X.w) X.A (.compStart (.ListComp elt [⟨target, iter, ifs, 0⟩] scope pos) 0 it acc { cenv with scope := relabel scope X.env }) (RR acc cenv.locals) s₄) X.xe s₃) X.xe s₂) X.xe s₁) X.xe s := by
  refine comp_coreF hc S hi hb I er hds hsz hout fun D C s5 H5 F5 m I5 hn n0 n1 n2 n3 n4 a1 a2 a3 ⟨b1, b2, ysV, b3, b4⟩ => hRR D C s5 H5 (upd F5 D (.lst ysV)) m I5 hn n0 n1 n2 n3 n4 a1 (fun b ob e => ?_) ⟨a3.1.trans (same_upd b2), fun b ob h0 e => ?_⟩ (.lst' (SqL.of upd_same) (b4.mono (same_upd b2)))
  · by_cases z : b = D
    · subst z; rw [upd_same] at e; cases e; exact b3
    · rw [upd_ne z] at e; exact a2 b ob e
  · by_cases z : b = D
    · subst z; exact b1
    · rw [upd_ne z] at e; exact a3.2 b ob h0 e
end
end MB

namespace MB
open PySem PySem.Spec PyProof.Rows L2
section
variable {cl : Nat → Addr} {X : Cx} {e a b c elt target iter : Expr} {ifs : List Expr} {fa fb fc : FE} {pos pos' : Pos} {scope : Scope} {vars N : List Str} {caps : List Nat} {fi : FA} {g : FG} {t : FT} {fe : FE} {i : Nat} {x : Str}
/-! ### comprehensions -/
theorem pp_comp (hc : X.calm = true) (S : CompSc X scope vars caps N) (hi : PPI cl X target iter fi) (hb : ∀ C s0 H0 fp, CompB cl (compX X scope C s0 H0 fp N) target elt ifs g t fe)
    (hs : ∀ x, foldedSetIterable iter X.env x = pure x := by intro _; rfl) : PP cl X (.ListComp elt [⟨target, iter, ifs, 0⟩] scope pos) (eComp fi g t fe vars.length caps) := fun pins s σ H Q I h => by
  obtain ⟨δ, F, ω, d, hf, er, k⟩ := h
  obtain ⟨ds, out, h1, h2, h3, rfl⟩ := eComp_some hf
  rw [eval_ListComp]
  refine wpAny_comprehension_free (use := none) rfl hs (closureFor_cap (S.cells I)) S.kind S.names ?_
  refine comp_core (RR := fun acc C => compPost (model X.prog X.w) X.A X.xe none (EP X pins σ Q) acc C) hc S hi hb I er h1 h2 h3 fun D C s5 H5 F5 m I5 hn n0 n1 n2 n3 n4 a1 a2 a3 r => ?_
  exact ⟨m, hn, fun h' hsb => ⟨.ref D, H5, I5.turned (t' := s5.toks) (fun b o hb e => (hsb.2 b hb).trans e) n0 n1 (.inr n2) n3 n4, rfl, k _ H5 F5 a1 a2 a3 r⟩⟩
/-- return [.. for ..]: a list of its own -/
def sRetC (fe : FE) : FS := fun δ => match fe δ with | some (.lst xs) => some (.ro (.lst xs)) | _ => none
theorem pb_retC {p2 : Pos} (hc : X.calm = true) (S : CompSc X scope vars caps N) (hi : PPI cl X target iter fi) (hb : ∀ C s0 H0 fp, CompB cl (compX X scope C s0 H0 fp N) target elt ifs g t fe)
    (hs : ∀ x, foldedSetIterable iter X.env x = pure x := by intro _; rfl) : PB1 cl X (.Return (some (.ListComp elt [⟨target, iter, ifs, 0⟩] scope p2)) pos) (sRetC (eComp fi g t fe vars.length caps)) := fun pins s σ H D I h => by
  obtain ⟨B, F0, P, δ, o, hw, ⟨F, ω, sr⟩, outD⟩ := h
  unfold sRetC at hw
  split at hw
  · rename_i xs hd
    obtain rfl := Option.some.inj hw
    obtain ⟨ds, out, h1, h2, h3, he⟩ := eComp_some hd
    cases he
    have hE : PE X (.ListComp elt [⟨target, iter, ifs, 0⟩] scope p2) (fun σ' H' Q => σ' = σ ∧ H' = H ∧ ∀ v H', RTO X.K cl B F0 (.lst xs) v H' → Q v H') := fun pins1 s1 σ' H' Q I1 hq => by
      obtain ⟨rfl, rfl, hq⟩ := hq
      rw [eval_ListComp]
      refine wpAny_comprehension_free (use := none) rfl hs (closureFor_cap (S.cells I1)) S.kind S.names ?_
      refine comp_coreF (RR := fun acc C => compPost (model X.prog X.w) X.A X.xe none (EP X pins1 σ' Q) acc C) hc S hi hb I1 sr.er h1 h2 h3 fun D C s5 H5 F5 m I5 hn n0 n1 n2 n3 n4 a1 a2 a3 ⟨b1, b2, ysV, b3, b4⟩ => ?_
      refine ⟨m, hn, fun h' hsb => ⟨.ref D, H5, I5.turned (t' := s5.toks) (fun b o hb e => (hsb.2 b hb).trans e) n0 n1 (.inr n2) n3 n4, rfl, hq _ H5 ⟨F5, fun a => if a = D then some (0, none) else none, (0, none), sr.base.trans a1, a2, sr.grow.trans sr.base a3, fun a e => ?_, D, ysV, rfl, if_pos rfl, b3, b4⟩⟩⟩
      by_cases z : a = D
      · subst z; exact ⟨b2, sr.base.free b1⟩
      · dsimp only at e; rw [if_neg z] at e; cases e
    exact ps_ret hE pins s σ H D I ⟨rfl, rfl, fun v H' r => outD v H' r⟩
  · cases hw
/-- x = [.. for ..], x a local name: stored ahead of the block's end -/
theorem pb_comp {p2 : Pos} (hN : X.N.Nodup) (hix : X.N[i]? = some x) (hx : X.env.scope.names.lookup x = some .local) (hc : X.calm = true) (S : CompSc X scope vars caps N) (hi : PPI cl X target iter fi) (hb : ∀ C s0 H0 fp, CompB cl (compX X scope C s0 H0 fp N) target elt ifs g t fe)
    (hsw : swapsWith (.ListComp elt [⟨target, iter, ifs, 0⟩] scope p2) (some (.Name x pos')) pos.line X.env = pure true) (hs : ∀ x, foldedSetIterable iter X.env x = pure x := by intro _; rfl) :
    PB1 cl X (.Assign [.Name x pos'] (.ListComp elt [⟨target, iter, ifs, 0⟩] scope p2) pos) (sAsg i (eComp fi g t fe vars.length caps)) := fun pins s σ H D I h => by
  obtain ⟨B, F0, P, δ, o, hw, ⟨F, ω, sr⟩, outD⟩ := h
  unfold sAsg at hw
  cases hd : eComp fi g t fe vars.length caps δ with
  | none => rw [hd] at hw; cases hw
  | some d =>
    rw [hd] at hw
    obtain rfl : Out.nx (δ.set i (.o (.val d))) = o := Option.some.inj hw
    obtain ⟨ds, out, h1, h2, h3, rfl⟩ := eComp_some hd
    rw [exec_Assign_Name_used _ _ _ _ hsw]
    refine wpAny_bind (wpAny_standAt (wpAny_bind ?_))
    show wpAny _ X.A (do let _ ← comprehension (.ListComp elt [⟨target, iter, ifs, 0⟩] scope p2) scope X.env _ (newList []) false (eval iter X.env) (some (assign (.Name x pos') X.env))) _ _ s
    refine wpAny_bind (wpAny_mono (wpAny_comprehension_free (use := some (assign (.Name x pos') X.env)) (Q := fun _ s' => SP X pins D .next s') rfl hs (closureFor_cap (S.cells I)) S.kind S.names ?_) (fun _ s' hq => wpAny_pure (wpAny_pure hq)) fun _ _ e => e)
    refine comp_core (RR := fun acc C => compPost (model X.prog X.w) X.A X.xe (some (assign (.Name x pos') X.env)) (fun _ s' => SP X pins D .next s') acc C) hc S hi hb I sr.er h1 h2 h3 fun D' C s5 H5 F5 m I5 hn n0 n1 n2 n3 n4 a1 a2 a3 r => ?_
    show wpAny _ X.A (assign (.Name x pos') X.env (.ref D')) _ _ _
    refine wpAny_assign_Name (store_ok2 I5 hN hix (.inl hx) (v := .ref D') rfl (fun s6 I6 hsb6 => ?_) (.inr hx))
    obtain ⟨ad, hsb, had⟩ := hsb6
    have hCa : C ≠ ad := by
      rcases had with h | h
      · rw [h]; exact n1
      · exact fun z => n3 x ad h z.symm
    have hn6 : s6.heap.Ns C m := hn.sameBut hsb hCa
    exact ⟨m, hn6, fun h' hsb' => ⟨_, H5, I6.turned (t' := s6.toks) (fun b o hb e => (hsb'.2 b hb).trans e) n0 n1 (.inr n2) n3 n4, outD _ _ ⟨F5, ω, (sr.step a1 a2 a3).set ⟨.ref D', rfl, r⟩⟩⟩⟩

/-! ### == and != -/
theorem eqAt_D {pins : List (Addr × Obj)} {σ : St} {H F : Hp} {s : Shared} (I : Inv X pins σ H s) (sub : Same F H) : ∀ (n : Nat) (A : Around) (x y : V) (da db : Dat) (u v : Value) (r : Bool), A.units + n < cLine →
    Rep X.K cl F x da → Rep X.K cl F y db → RelV x u → RelV y v → eqN n da db = some r → SeqAt.EqAt A s u v r := by
  intro n
  induction n with
  | zero => intro A x y da db u v r hu r1 r2 q1 q2 h; cases h
  | succ n ih =>
    intro A x y da db u v r hu r1 r2 q1 q2 h
    have h0 := h
    unfold eqN eqS at h
    split at h
    · cases h; cases r1; cases r2; obtain ⟨t1, rfl⟩ := q1; obtain ⟨t2, rfl⟩ := q2; exact SeqAt.EqAt.int_int _ _ _ _
    · cases h; cases r1; cases r2; obtain ⟨t1, rfl⟩ := q1; obtain ⟨t2, rfl⟩ := q2; exact SeqAt.EqAt.str_str _ _ _ _
    · cases h; cases r1; cases r2; cases q1; cases q2; exact SeqAt.EqAt.bool_bool _ _
    · cases h; cases r1; cases r2; cases q1; cases q2; exact SeqAt.EqAt.same _
    · cases h; cases r1; cases r2; obtain ⟨t1, rfl⟩ := q1; obtain ⟨t2, rfl⟩ := q2; exact SeqAt.EqAt.int_str _ _ _ _
    · cases h; cases r1; cases r2; obtain ⟨t1, rfl⟩ := q1; obtain ⟨t2, rfl⟩ := q2; exact SeqAt.EqAt.str_int _ _ _ _
    · rename_i xs ys
      by_cases hp : u = v
      · subst hp
        rw [eqN_same (fun a xs ys q q' => I.list_inj (sub.seq q) (sub.seq q')) (n + 1) x _ _ r r1 (by rw [q1.inj q2]; exact r2) h0]
        exact SeqAt.EqAt.same _
      · obtain ⟨p, vs, rfl, e1, t1⟩ := r1.tup_inv
        obtain ⟨p', vs', rfl, e2, t2⟩ := r2.tup_inv
        cases q1
        cases q2
        obtain ⟨its, w1, k1, _⟩ := I.tuple (SqT.of (sub _ _ e1))
        obtain ⟨its', w2, k2, _⟩ := I.tuple (SqT.of (sub _ _ e2))
        obtain ⟨sp1, sp2⟩ := eqL_spec h
        have l1 := t1.length; have l2 := t2.length; have l3 := w1.length; have l4 := w2.length
        refine SeqAt.EqAt.of_refs (fun z => hp (by rw [z])) ?_
        have R := SeqAt.RcAt.tuples (A := A) (s := s) (e := pick (eqN n) xs ys) (show s.heap.IsTuple p its.toArray from k1) (show s.heap.IsTuple p' its'.toArray from k2) (by omega) fun j h1 h2 => by
          simp only [List.size_toArray] at h1 h2
          have g1 : vs[j]? = some (vs[j]'(by omega)) := List.getElem?_eq_getElem _
          have g2 : vs'[j]? = some (vs'[j]'(by omega)) := List.getElem?_eq_getElem _
          have g3 : xs[j]? = some (xs[j]'(by omega)) := List.getElem?_eq_getElem _
          have g4 : ys[j]? = some (ys[j]'(by omega)) := List.getElem?_eq_getElem _
          have g5 : its[j]? = some (its[j]'h1) := List.getElem?_eq_getElem _
          have g6 : its'[j]? = some (its'[j]'h2) := List.getElem?_eq_getElem _
          exact ih A.in1 _ _ _ _ _ _ _ (by show A.units + 1 + n < cLine; omega) (pget j t1 g1 g3) (pget j t2 g2 g4) (pget j w1 g1 g5) (pget j w2 g2 g6) (sp1 j _ _ g3 g4)
        simp only [List.size_toArray] at R
        rw [sp2]
        rw [show min xs.length ys.length = min its.length its'.length by omega, show (xs.length == ys.length) = (its.length == its'.length) by rw [← l1, ← l2, l3, l4]]
        exact R
    · rename_i xs ys
      by_cases hp : u = v
      · subst hp
        rw [eqN_same (fun a xs ys q q' => I.list_inj (sub.seq q) (sub.seq q')) (n + 1) x _ _ r r1 (by rw [q1.inj q2]; exact r2) h0]
        exact SeqAt.EqAt.same _
      · obtain ⟨p, vs, rfl, e1, t1⟩ := r1.lst_inv
        obtain ⟨p', vs', rfl, e2, t2⟩ := r2.lst_inv
        cases q1
        cases q2
        obtain ⟨its, w1, k1, _⟩ := I.list (sub.seq e1)
        obtain ⟨its', w2, k2, _⟩ := I.list (sub.seq e2)
        obtain ⟨sp1, sp2⟩ := eqL_spec h
        have l1 := t1.length; have l2 := t2.length; have l3 := w1.length; have l4 := w2.length
        refine SeqAt.EqAt.of_refs (fun z => hp (by rw [z])) ?_
        by_cases hl : its.length = its'.length
        · have R := SeqAt.RcAt.lists (A := A) (s := s) (e := pick (eqN n) xs ys) k1.isList k2.isList (by simpa using hl) (by omega) fun j h1 h2 => by
            simp only [List.size_toArray] at h1 h2
            have g1 : vs[j]? = some (vs[j]'(by omega)) := List.getElem?_eq_getElem _
            have g2 : vs'[j]? = some (vs'[j]'(by omega)) := List.getElem?_eq_getElem _
            have g3 : xs[j]? = some (xs[j]'(by omega)) := List.getElem?_eq_getElem _
            have g4 : ys[j]? = some (ys[j]'(by omega)) := List.getElem?_eq_getElem _
            have g5 : its[j]? = some (its[j]'h1) := List.getElem?_eq_getElem _
            have g6 : its'[j]? = some (its'[j]'h2) := List.getElem?_eq_getElem _
            exact ih A.in1 _ _ _ _ _ _ _ (by show A.units + 1 + n < cLine; omega) (pget j t1 g1 g3) (pget j t2 g2 g4) (pget j w1 g1 g5) (pget j w2 g2 g6) (sp1 j _ _ g3 g4)
          simp only [List.size_toArray] at R
          rw [sp2, show (xs.length == ys.length) = true by simp; omega, Bool.and_true, show min xs.length ys.length = its.length by omega]
          exact R
        · rw [sp2, show (xs.length == ys.length) = false by simp; omega, Bool.and_false]
          exact SeqAt.RcAt.lists_lengths k1.isList k2.isList (by simp; omega) (by omega)
    · cases h
def dEq (x y : Dat) : Option Dat := (eqN 8 x y).map .bl
def dNe (x y : Dat) : Option Dat := (eqN 8 x y).map fun r => .bl (!r)
/-- == by data: from the deep comparison, at the top without the look at identity -/
theorem rc_D {pins : List (Addr × Obj)} {σ : St} {H F : Hp} {s : Shared} (I : Inv X pins σ H s) (sub : Same F H) (hu : X.A.units + 64 < cLine) {x y : V} {da db : Dat} {u v : Value} {r : Bool} (r1 : Rep X.K cl F x da) (r2 : Rep X.K cl F y db) (q1 : RelV x u) (q2 : RelV y v) (h : eqN 8 da db = some r) :
    SeqAt.RcAt X.A s u v r ∧ SeqAt.RcNeAt X.A s u v (!r) := by
  unfold eqN eqS at h
  split at h
  · cases h; cases r1; cases r2; obtain ⟨t1, rfl⟩ := q1; obtain ⟨t2, rfl⟩ := q2; exact ⟨SeqAt.RcAt.int_int _ _ _ _, SeqAt.RcNeAt.int_int _ _ _ _⟩
  · cases h; cases r1; cases r2; obtain ⟨t1, rfl⟩ := q1; obtain ⟨t2, rfl⟩ := q2; exact ⟨SeqAt.RcAt.str_str _ _ _ _, SeqAt.RcNeAt.str_str _ _ _ _⟩
  · cases h; cases r1; cases r2; cases q1; cases q2; exact ⟨SeqAt.RcAt.bool_bool _ _, SeqAt.RcNeAt.bool_bool _ _⟩
  · cases h; cases r1; cases r2; cases q1; cases q2; exact ⟨SeqAt.RcAt.none_none, SeqAt.RcNeAt.none_none⟩
  · cases h; cases r1; cases r2; obtain ⟨t1, rfl⟩ := q1; obtain ⟨t2, rfl⟩ := q2; exact ⟨SeqAt.RcAt.int_str _ _ _ _, SeqAt.RcNeAt.int_str _ _ _ _⟩
  · cases h; cases r1; cases r2; obtain ⟨t1, rfl⟩ := q1; obtain ⟨t2, rfl⟩ := q2; exact ⟨SeqAt.RcAt.str_int _ _ _ _, SeqAt.RcNeAt.str_int _ _ _ _⟩
  · rename_i xs ys
    obtain ⟨p, vs, rfl, e1, t1⟩ := r1.tup_inv
    obtain ⟨p', vs', rfl, e2, t2⟩ := r2.tup_inv
    cases q1
    cases q2
    obtain ⟨its, w1, k1, _⟩ := I.tuple (SqT.of (sub _ _ e1))
    obtain ⟨its', w2, k2, _⟩ := I.tuple (SqT.of (sub _ _ e2))
    obtain ⟨sp1, sp2⟩ := eqL_spec h
    have l1 := t1.length; have l2 := t2.length; have l3 := w1.length; have l4 := w2.length
    have E : ∀ (j : Nat) (h1 : j < its.toArray.size) (h2 : j < its'.toArray.size), SeqAt.EqAt X.A.in1 s its.toArray[j] its'.toArray[j] (pick (eqN 7) xs ys j) := fun j h1 h2 => by
      simp only [List.size_toArray] at h1 h2
      have g1 : vs[j]? = some (vs[j]'(by omega)) := List.getElem?_eq_getElem _
      have g2 : vs'[j]? = some (vs'[j]'(by omega)) := List.getElem?_eq_getElem _
      have g3 : xs[j]? = some (xs[j]'(by omega)) := List.getElem?_eq_getElem _
      have g4 : ys[j]? = some (ys[j]'(by omega)) := List.getElem?_eq_getElem _
      have g5 : its[j]? = some (its[j]'h1) := List.getElem?_eq_getElem _
      have g6 : its'[j]? = some (its'[j]'h2) := List.getElem?_eq_getElem _
      exact eqAt_D I sub 7 X.A.in1 _ _ _ _ _ _ _ (by show X.A.units + 1 + 7 < cLine; omega) (pget j t1 g1 g3) (pget j t2 g2 g4) (pget j w1 g1 g5) (pget j w2 g2 g6) (sp1 j _ _ g3 g4)
    have R := SeqAt.RcAt.tuples (A := X.A) (s := s) (show s.heap.IsTuple p its.toArray from k1) (show s.heap.IsTuple p' its'.toArray from k2) (by omega) E
    have R' := SeqAt.RcNeAt.tuples (A := X.A) (s := s) (show s.heap.IsTuple p its.toArray from k1) (show s.heap.IsTuple p' its'.toArray from k2) (by omega) E
    simp only [List.size_toArray] at R R'
    have er : r = ((List.range (min its.length its'.length)).all (pick (eqN 7) xs ys) && its.length == its'.length) := by
      rw [sp2, show min xs.length ys.length = min its.length its'.length by omega, show (xs.length == ys.length) = (its.length == its'.length) by rw [← l1, ← l2, l3, l4]]
    rw [er]
    exact ⟨R, R'⟩
  · rename_i xs ys
    obtain ⟨p, vs, rfl, e1, t1⟩ := r1.lst_inv
    obtain ⟨p', vs', rfl, e2, t2⟩ := r2.lst_inv
    cases q1
    cases q2
    obtain ⟨its, w1, k1, _⟩ := I.list (sub.seq e1)
    obtain ⟨its', w2, k2, _⟩ := I.list (sub.seq e2)
    obtain ⟨sp1, sp2⟩ := eqL_spec h
    have l1 := t1.length; have l2 := t2.length; have l3 := w1.length; have l4 := w2.length
    by_cases hl : its.length = its'.length
    · have E : ∀ (j : Nat) (h1 : j < its.toArray.size) (h2 : j < its'.toArray.size), SeqAt.EqAt X.A.in1 s its.toArray[j] its'.toArray[j] (pick (eqN 7) xs ys j) := fun j h1 h2 => by
        simp only [List.size_toArray] at h1 h2
        have g1 : vs[j]? = some (vs[j]'(by omega)) := List.getElem?_eq_getElem _
        have g2 : vs'[j]? = some (vs'[j]'(by omega)) := List.getElem?_eq_getElem _
        have g3 : xs[j]? = some (xs[j]'(by omega)) := List.getElem?_eq_getElem _
        have g4 : ys[j]? = some (ys[j]'(by omega)) := List.getElem?_eq_getElem _
        have g5 : its[j]? = some (its[j]'h1) := List.getElem?_eq_getElem _
        have g6 : its'[j]? = some (its'[j]'h2) := List.getElem?_eq_getElem _
        exact eqAt_D I sub 7 X.A.in1 _ _ _ _ _ _ _ (by show X.A.units + 1 + 7 < cLine; omega) (pget j t1 g1 g3) (pget j t2 g2 g4) (pget j w1 g1 g5) (pget j w2 g2 g6) (sp1 j _ _ g3 g4)
      have R := SeqAt.RcAt.lists (A := X.A) (s := s) k1.isList k2.isList (by simpa using hl) (by omega) E
      have R' := SeqAt.RcNeAt.lists (A := X.A) (s := s) k1.isList k2.isList (by simpa using hl) (by omega) E
      simp only [List.size_toArray] at R R'
      have er : r = (List.range its.length).all (pick (eqN 7) xs ys) := by
        rw [sp2, show (xs.length == ys.length) = true by simp; omega, Bool.and_true, show min xs.length ys.length = its.length by omega]
      rw [er]
      exact ⟨R, R'⟩
    · have er : r = false := by rw [sp2, show (xs.length == ys.length) = false by simp; omega, Bool.and_false]
      rw [er]
      exact ⟨SeqAt.RcAt.lists_lengths k1.isList k2.isList (by simp; omega) (by omega), SeqAt.RcNeAt.lists_lengths k1.isList k2.isList (by simp; omega) (by omega)⟩
  · cases h
def rEqD (K : PySem.W.Frag) (cl : Nat → Addr) : R2 := fun x y H Q => ∃ F da db r, Same F H ∧ Rep K cl F x da ∧ Rep K cl F y db ∧ eqN 8 da db = some r ∧ Q (.bl r) H
def rNeD (K : PySem.W.Frag) (cl : Nat → Addr) : R2 := fun x y H Q => ∃ F da db r, Same F H ∧ Rep K cl F x da ∧ Rep K cl F y db ∧ eqN 8 da db = some r ∧ Q (.bl (!r)) H
theorem op_eqD (hu : X.A.units + 64 < cLine) : OpR X (compareOp .Eq) (rEqD X.K cl) := fun pins s σ H x y v u Q I rx ry h => by
  obtain ⟨F, da, db, r, sub, r1, r2, he, q⟩ := h
  exact (rc_D I sub hu r1 r2 rx ry he).1 _ _ _ _ ⟨.bl r, H, I, rfl, q⟩
theorem op_neD (hu : X.A.units + 64 < cLine) : OpR X (compareOp .NotEq) (rNeD X.K cl) := fun pins s σ H x y v u Q I rx ry h => by
  obtain ⟨F, da, db, r, sub, r1, r2, he, q⟩ := h
  exact (rc_D I sub hu r1 r2 rx ry he).2 _ _ _ _ ⟨.bl (!r), H, I, rfl, q⟩
theorem opd_eq {K : PySem.W.Frag} : OpD K cl (rEqD K cl) dEq := fun F H x y da db d Q hg s rx ry k => by
  unfold dEq at hg
  cases he : eqN 8 da db with
  | none => rw [he] at hg; cases hg
  | some r => rw [he] at hg; cases hg; exact ⟨F, da, db, r, s, rx, ry, he, k.here s (.bl r)⟩
theorem opd_ne {K : PySem.W.Frag} : OpD K cl (rNeD K cl) dNe := fun F H x y da db d Q hg s rx ry k => by
  unfold dNe at hg
  cases he : eqN 8 da db with
  | none => rw [he] at hg; cases hg
  | some r => rw [he] at hg; cases hg; exact ⟨F, da, db, r, s, rx, ry, he, k.here s (.bl (!r))⟩
theorem pp_eq (hu : X.A.units + 64 < cLine) (ha : PP cl X a fa) (hb : PP cl X b fb) : PP cl X (.Compare a [.Eq] [b] pos) (e2 dEq fa fb) := pp_cmp (op_eqD hu) opd_eq ha hb (nomark _)
theorem pp_ne (hu : X.A.units + 64 < cLine) (ha : PP cl X a fa) (hb : PP cl X b fb) : PP cl X (.Compare a [.NotEq] [b] pos) (e2 dNe fa fb) := pp_cmp (op_neD hu) opd_ne ha hb (nomark _)
theorem ppt_eq (hu : X.A.units + 64 < cLine) (ha : PP cl X a fa) (hb : PP cl X b fb) : PPT cl X (.Compare a [.Eq] [b] pos) (b1 (e2 dEq fa fb)) := ppt_cmp (op_eqD hu) opd_eq ha hb (nomark _)
theorem ppt_ne (hu : X.A.units + 64 < cLine) (ha : PP cl X a fa) (hb : PP cl X b fb) : PPT cl X (.Compare a [.NotEq] [b] pos) (b1 (e2 dNe fa fb)) := ppt_cmp (op_neD hu) opd_ne ha hb (nomark _)
theorem ppt_lt (ha : PP cl X a fa) (hb : PP cl X b fb) : PPT cl X (.Compare a [.Lt] [b] pos) (b1 (e2 dLt fa fb)) := ppt_cmp op_lt (opd_I0 fun _ _ _ => .bl _) ha hb (nomark _)
theorem ppt_le (ha : PP cl X a fa) (hb : PP cl X b fb) : PPT cl X (.Compare a [.LtE] [b] pos) (b1 (e2 dLe fa fb)) := ppt_cmp op_le (opd_I0 fun _ _ _ => .bl _) ha hb (nomark _)
theorem ppt_gt (ha : PP cl X a fa) (hb : PP cl X b fb) : PPT cl X (.Compare a [.Gt] [b] pos) (b1 (e2 dGt fa fb)) := ppt_cmp op_gt (opd_I0 fun _ _ _ => .bl _) ha hb (nomark _)
theorem ppt_ge (ha : PP cl X a fa) (hb : PP cl X b fb) : PPT cl X (.Compare a [.GtE] [b] pos) (b1 (e2 dGe fa fb)) := ppt_cmp op_ge (opd_I0 fun _ _ _ => .bl _) ha hb (nomark _)
end
end MB

namespace MB
open PySem PySem.Spec PyProof.Rows L2
section
variable {cl : Nat → Addr} {X : Cx} {e a b c : Expr} {es : List Expr} {fa fb fc : FE} {fl : FA} {pos p : Pos} {i : Nat} {x : Str}
/-! ### len, list -/
def dLenB : List Dat → Option Dat
  | [.lst xs] => some (.int (xs.length : Nat))
  | [.tup xs] => some (.int (xs.length : Nat))
  | [.str x] => if x.length ≤ sizeLine then some (.int (x.length : Nat)) else none
  | [.dK kvs] => some (.int (kvs.length : Nat))
  | _ => none
theorem one_inv {K : PySem.W.Frag} {F : Hp} {vs : List V} {d : Dat} (r : RepL K cl F vs [d]) : ∃ v, vs = [v] ∧ Rep K cl F v d := by
  cases r with
  | cons r t => cases t; exact ⟨_, rfl, r⟩
theorem two_inv {K : PySem.W.Frag} {F : Hp} {vs : List V} {d d' : Dat} (r : RepL K cl F vs [d, d']) : ∃ v w, vs = [v, w] ∧ Rep K cl F v d ∧ Rep K cl F w d' := by
  cases r with
  | cons r t =>
    cases t with
    | cons r' t' => cases t'; exact ⟨_, _, rfl, r, r'⟩
theorem pp_len (hg : Gl X "len") (hm : X.mg "len" = none) (ha : PPA cl X [e] fl) (he : starEach [e] X.env = (false, eval e X.env) :: starEach [] X.env := by rfl) : PP cl X (.Call (.Name "len" p) [e] [] pos) (eB dLenB fl) := by
  refine pp_callB (call_len.or call_lenD) (fun F H vs ds d Q h s r k => ?_) hg hm PySem.boot_len ha (he := he)
  unfold dLenB at h
  split at h
  · obtain ⟨v, rfl, r0⟩ := one_inv r
    cases h
    obtain ⟨a, ws, rfl, q, t⟩ := r0.lst_inv
    exact .inl ⟨_, _, rfl, .inl ⟨ws, s.seq q, rfl⟩, by rw [t.length]; exact k.here s (.int _)⟩
  · obtain ⟨v, rfl, r0⟩ := one_inv r
    cases h
    obtain ⟨a, ws, rfl, q, t⟩ := r0.tup_inv
    exact .inl ⟨_, _, rfl, .inr ⟨ws, SqT.of (s _ _ q), rfl⟩, by rw [t.length]; exact k.here s (.int _)⟩
  · split at h
    · rename_i hl
      obtain ⟨v, rfl, r0⟩ := one_inv r
      cases h
      rw [r0.str_inv]
      exact .inl ⟨_, _, rfl, ⟨hl, rfl⟩, k.here s (.int _)⟩
    · cases h
  · obtain ⟨v, rfl, r0⟩ := one_inv r
    cases h
    obtain ⟨a, ws, rfl, q, t⟩ := r0.dK_inv
    exact .inr ⟨_, _, rfl, s _ _ q, by rw [t.length]; exact k.here s (.int _)⟩
  · cases h
def dListB : List Dat → Option Dat
  | [.lst xs] => some (.lst xs)
  | [.tup xs] => some (.lst xs)
  | _ => none
theorem pp_listc (hg : Gl X "list") (hm : X.mg "list" = none) (ha : PPA cl X [e] fl) (he : starEach [e] X.env = (false, eval e X.env) :: starEach [] X.env := by rfl) : PP cl X (.Call (.Name "list" p) [e] [] pos) (eB dListB fl) := by
  refine pp_callTy call_list_of (fun F H vs ds d Q h s r k => ?_) hg hm (by decide +kernel) ha (he := he)
  unfold dListB at h
  split at h
  · obtain ⟨v, rfl, r0⟩ := one_inv r
    cases h
    obtain ⟨a, ws, rfl, q, t⟩ := r0.lst_inv
    exact ⟨a, ws, rfl, .inl (s.seq q), fun l hl => k.new s hl (.lst' (SqL.of upd_same) (t.mono (same_upd (none_of s hl))))⟩
  · obtain ⟨v, rfl, r0⟩ := one_inv r
    cases h
    obtain ⟨a, ws, rfl, q, t⟩ := r0.tup_inv
    exact ⟨a, ws, rfl, .inr (SqT.of (s _ _ q)), fun l hl => k.new s hl (.lst' (SqL.of upd_same) (t.mono (same_upd (none_of s hl))))⟩
  · cases h
/-! ### max, min of two; of a list of ints; all -/
def dMax2 : List Dat → Option Dat
  | [.int i, .int j] => some (.int (if j > i then j else i))
  | _ => none
def dMin2 : List Dat → Option Dat
  | [.int i, .int j] => some (.int (if j < i then j else i))
  | _ => none
theorem pp_max2 (hg : Gl X "max") (hm : X.mg "max" = none) (ha : PPA cl X [a, b] fl) (hc : X.calm = true := by rfl) (he : starEach [a, b] X.env = (false, eval a X.env) :: starEach [b] X.env := by rfl) (hpl : (backTo pos (starEach [b] X.env)).any (·.1) = false := by rfl) :
    PP cl X (.Call (.Name "max" p) [a, b] [] pos) (eB dMax2 fl) := by
  refine pp_callB (call_max2 hc) (fun F H vs ds d Q h s r k => ?_) hg hm (by decide +kernel) ha (he := he) (hpl := hpl)
  unfold dMax2 at h
  split at h
  · cases h
    obtain ⟨v, w, rfl, r1, r2⟩ := two_inv r
    rw [r1.int_inv, r2.int_inv]
    exact ⟨_, _, rfl, k.here s (.int _)⟩
  · cases h
theorem pp_min2 (hg : Gl X "min") (hm : X.mg "min" = none) (ha : PPA cl X [a, b] fl) (hc : X.calm = true := by rfl) (he : starEach [a, b] X.env = (false, eval a X.env) :: starEach [b] X.env := by rfl) (hpl : (backTo pos (starEach [b] X.env)).any (·.1) = false := by rfl) :
    PP cl X (.Call (.Name "min" p) [a, b] [] pos) (eB dMin2 fl) := by
  refine pp_callB (call_min2 hc) (fun F H vs ds d Q h s r k => ?_) hg hm (by decide +kernel) ha (he := he) (hpl := hpl)
  unfold dMin2 at h
  split at h
  · cases h
    obtain ⟨v, w, rfl, r1, r2⟩ := two_inv r
    rw [r1.int_inv, r2.int_inv]
    exact ⟨_, _, rfl, k.here s (.int _)⟩
  · cases h
def intsD : List Dat → Option (List Int)
  | [] => some []
  | .int i :: r => (intsD r).bind fun is => some (i :: is)
  | _ :: _ => none
theorem intsD_map (ns : List Int) : intsD (ns.map .int) = some ns := by
  induction ns with
  | nil => rfl
  | cons n r ih => rw [List.map_cons]; unfold intsD; rw [ih]; rfl
theorem intsD_inv : ∀ {ds : List Dat} {ns : List Int}, intsD ds = some ns → ds = ns.map .int
  | [], ns, h => by cases h; rfl
  | .int i :: r, ns, h => by
    unfold intsD at h
    cases hr : intsD r with
    | none => rw [hr] at h; cases h
    | some is => rw [hr] at h; cases h; rw [intsD_inv hr]; rfl
  | .non :: _, ns, h => by cases h
  | .bl _ :: _, ns, h => by cases h
  | .str _ :: _, ns, h => by cases h
  | .tup _ :: _, ns, h => by cases h
  | .lst _ :: _, ns, h => by cases h
  | .dK _ :: _, ns, h => by cases h
  | .dT _ :: _, ns, h => by cases h
  | .obj _ _ :: _, ns, h => by cases h
theorem repL_ints {K : PySem.W.Frag} {F : Hp} : ∀ {ns : List Int} {vs : List V}, RepL K cl F vs (ns.map .int) → vs = ns.map V.int
  | [], _, .nil => rfl
  | n :: ns, _, .cons r t => by rw [r.int_inv, repL_ints t]; rfl
/-- the greatest, the least of a list that is not empty, as Python finds it -/
def maxI (ns : List Int) : Int := ns.getD (argBest (fun i j => decide (ns.getD i 0 > ns.getD j 0)) (ns.length - 1)) 0
def minI (ns : List Int) : Int := ns.getD (argBest (fun i j => decide (ns.getD i 0 < ns.getD j 0)) (ns.length - 1)) 0
def dMaxB : List Dat → Option Dat
  | [.lst xs] => (intsD xs).bind fun ns => if 0 < ns.length then some (.int (maxI ns)) else none
  | _ => none
theorem vals_at {ns : List Int} {its : List Value} (r : Vals (ns.map V.int) its) {i : Nat} {v : Value} (h : its.toArray[i]? = some v) : ∃ t, v = .int (ns.getD i 0) t := by
  have h' : its[i]? = some v := by simpa using h
  have hl := r.length
  rw [List.length_map] at hl
  have hi : i < its.length := (List.getElem?_eq_some_iff.mp h').1
  have hn : ns[i]? = some (ns[i]'(by omega)) := List.getElem?_eq_getElem _
  have hx : (ns.map V.int)[i]? = some (.int (ns[i]'(by omega))) := by rw [List.getElem?_map, hn]; rfl
  obtain ⟨t, ht⟩ := pget i r hx h'
  refine ⟨t, ?_⟩
  rw [ht, List.getD_eq_getElem?_getD, hn]
  rfl
theorem old_keep {s : Shared} {l : Addr} {h' : Heap} (hk : ∀ b o, b ∉ [s.heap.objs.size] → (s.heap.push { cls := .type "list_iterator", data := .fields #[.ref l, .int 0 0] }).get? b = some o → h'.get? b = some o) :
    ∀ b o, s.heap.get? b = some o → h'.get? b = some o := fun b o e => by
  refine hk b o (fun hm => ?_) (Heap.get?_push_of_some _ e)
  rcases List.mem_cons.mp hm with e1 | hm
  · exact absurd (e1 ▸ Heap.lt_size e) (Nat.lt_irrefl _)
  · cases hm
theorem call_max1 (hc : X.calm = true) : CallR X (.builtin "max") (fun xs H Q => ∃ a ns, xs = [.ref a] ∧ SqL X.K H a (ns.map V.int) ∧ 0 < ns.length ∧ Q (.int (maxI ns)) H) := fun pins s σ H xs us Q I r h => by
  obtain ⟨a, ns, rfl, hq, hn, q⟩ := h
  obtain ⟨u, rfl, ru⟩ := vals1 r
  cases ru
  obtain ⟨its, rv, pl, hz⟩ := I.list hq
  have hl := rv.length
  rw [List.length_map] at hl
  have hne : a ≠ s.heap.objs.size := by
    obtain ⟨o, n, e, _⟩ := pl
    exact Nat.ne_of_lt (Heap.lt_size e)
  refine call_max_walk (wpAny_pyIter_list pl.isList ⟨s.heap.objs.size, [s.heap.objs.size, a], [s.heap.objs.size], its.toArray.size, _, _, _, rfl, Walks.list (A := X.A.in1) (I.ok.hd hc) _ a hne its.toArray, ⟨⟨_, Heap.get?_push_size _ rfl, rfl, rfl⟩, Heap.IsList.push pl.isList _⟩, fun b hb => ?_, by simp; omega,
    CmpOf.ints_gt (fun i => ns.getD i 0) (fun i v h => vals_at rv h), fun v h' tk hP hk => ?_⟩)
  · rw [Heap.size_push]
    rcases List.mem_cons.mp hb with e | hb
    · rw [e]; exact Nat.lt_succ_self _
    · rcases List.mem_cons.mp hb with e | hb
      · rw [e]; obtain ⟨o, n, e, _⟩ := pl; exact Nat.lt_succ_of_lt (Heap.lt_size e)
      · cases hb
  · obtain ⟨t, rfl⟩ := vals_at rv hP
    refine ⟨.int (maxI ns), H, I.kept (old_keep hk), ⟨t, ?_⟩, q⟩
    have e1 : its.toArray.size - 1 = ns.length - 1 := by simp; omega
    rw [e1]
    rfl
theorem pp_max (hg : Gl X "max") (hm : X.mg "max" = none) (ha : PPA cl X [e] fl) (hc : X.calm = true := by rfl) (he : starEach [e] X.env = (false, eval e X.env) :: starEach [] X.env := by rfl) : PP cl X (.Call (.Name "max" p) [e] [] pos) (eB dMaxB fl) := by
  refine pp_callB (call_max1 hc) (fun F H vs ds d Q h s r k => ?_) hg hm (by decide +kernel) ha (he := he)
  unfold dMaxB at h
  split at h
  · rename_i xs
    obtain ⟨v, rfl, r0⟩ := one_inv r
    cases hi : intsD xs with
    | none => rw [hi] at h; cases h
    | some ns =>
      rw [hi] at h
      simp only [Option.bind_some] at h
      split at h
      · rename_i hl
        cases h
        rw [intsD_inv hi] at r0
        obtain ⟨a, ws, rfl, q, t⟩ := r0.lst_inv
        rw [repL_ints t] at q
        exact ⟨a, ns, rfl, s.seq q, hl, k.here s (.int _)⟩
      · cases h
  · cases h
def blsD : List Dat → Option (List Bool)
  | [] => some []
  | .bl i :: r => (blsD r).bind fun is => some (i :: is)
  | _ :: _ => none
theorem blsD_map (ns : List Bool) : blsD (ns.map .bl) = some ns := by
  induction ns with
  | nil => rfl
  | cons n r ih => rw [List.map_cons]; unfold blsD; rw [ih]; rfl
theorem blsD_inv : ∀ {ds : List Dat} {ns : List Bool}, blsD ds = some ns → ds = ns.map .bl
  | [], ns, h => by cases h; rfl
  | .bl i :: r, ns, h => by
    unfold blsD at h
    cases hr : blsD r with
    | none => rw [hr] at h; cases h
    | some is => rw [hr] at h; cases h; rw [blsD_inv hr]; rfl
  | .non :: _, ns, h => by cases h
  | .int _ :: _, ns, h => by cases h
  | .str _ :: _, ns, h => by cases h
  | .tup _ :: _, ns, h => by cases h
  | .lst _ :: _, ns, h => by cases h
  | .dK _ :: _, ns, h => by cases h
  | .dT _ :: _, ns, h => by cases h
  | .obj _ _ :: _, ns, h => by cases h
theorem repL_bls {K : PySem.W.Frag} {F : Hp} : ∀ {ns : List Bool} {vs : List V}, RepL K cl F vs (ns.map .bl) → vs = ns.map V.bl
  | [], _, .nil => rfl
  | n :: ns, _, .cons r t => by rw [r.bl_inv, repL_bls t]; rfl
def dAllB : List Dat → Option Dat
  | [.lst xs] => (blsD xs).bind fun ns => some (.bl (ns.all fun b => b))
  | _ => none
theorem valsb_at {ns : List Bool} {its : List Value} (r : Vals (ns.map V.bl) its) {i : Nat} {v : Value} (h : its.toArray[i]? = some v) : v = .bool (ns.getD i false) := by
  have h' : its[i]? = some v := by simpa using h
  have hl := r.length
  rw [List.length_map] at hl
  have hi : i < its.length := (List.getElem?_eq_some_iff.mp h').1
  have hn : ns[i]? = some (ns[i]'(by omega)) := List.getElem?_eq_getElem _
  have hx : (ns.map V.bl)[i]? = some (.bl (ns[i]'(by omega))) := by rw [List.getElem?_map, hn]; rfl
  have ht : v = .bool (ns[i]'(by omega)) := (show RelV (.bl (ns[i]'(by omega))) v from pget i r hx h')
  rw [ht, List.getD_eq_getElem?_getD, hn]
  rfl
theorem all_range (ns : List Bool) : (List.range ns.length).all (fun i => ns.getD i false) = ns.all fun b => b := by
  rw [Bool.eq_iff_iff, List.all_eq_true, List.all_eq_true]
  constructor
  · intro h b hb
    obtain ⟨i, hi, e⟩ := List.getElem_of_mem hb
    have := h i (List.mem_range.mpr hi)
    rw [List.getD_eq_getElem?_getD, List.getElem?_eq_getElem hi] at this
    rw [← e]
    exact this
  · intro h i hi
    have hi' := List.mem_range.mp hi
    rw [List.getD_eq_getElem?_getD, List.getElem?_eq_getElem hi']
    exact h _ (List.getElem_mem hi')
theorem call_all1 (hc : X.calm = true) : CallR X (.builtin "all") (fun xs H Q => ∃ (a : Addr) (ns : List Bool), xs = [.ref a] ∧ SqL X.K H a (ns.map V.bl) ∧ Q (.bl (ns.all fun b => b)) H) := fun pins s σ H xs us Q I r h => by
  obtain ⟨a, ns, rfl, hq, q⟩ := h
  obtain ⟨u, rfl, ru⟩ := vals1 r
  cases ru
  obtain ⟨its, rv, pl, hz⟩ := I.list hq
  have hl := rv.length
  rw [List.length_map] at hl
  have hne : a ≠ s.heap.objs.size := by
    obtain ⟨o, n, e, _⟩ := pl
    exact Nat.ne_of_lt (Heap.lt_size e)
  refine call_all_walk (wpAny_pyIter_list pl.isList ⟨s.heap.objs.size, [s.heap.objs.size, a], [s.heap.objs.size], its.toArray.size, _, _, fun i => ns.getD i false, rfl, Walks.list (A := X.A.in1) (I.ok.hd hc) _ a hne its.toArray, ⟨⟨_, Heap.get?_push_size _ rfl, rfl, rfl⟩, Heap.IsList.push pl.isList _⟩,
    fun i v s' Q' E' hP hQ => ?_, fun h' tk hk => ?_⟩)
  · rw [valsb_at rv hP]; exact wpAny_truthy_bool hQ
  · refine ⟨.bl (ns.all fun b => b), H, I.kept (old_keep hk), ?_, q⟩
    have e1 : its.toArray.size = ns.length := by simp; omega
    rw [e1, all_range]
    rfl
theorem pp_all (hg : Gl X "all") (hm : X.mg "all" = none) (ha : PPA cl X [e] fl) (hc : X.calm = true := by rfl) (he : starEach [e] X.env = (false, eval e X.env) :: starEach [] X.env := by rfl) : PP cl X (.Call (.Name "all" p) [e] [] pos) (eB dAllB fl) := by
  refine pp_callB (call_all1 hc) (fun F H vs ds d Q h s r k => ?_) hg hm (by decide +kernel) ha (he := he)
  unfold dAllB at h
  split at h
  · rename_i xs
    obtain ⟨v, rfl, r0⟩ := one_inv r
    cases hi : blsD xs with
    | none => rw [hi] at h; cases h
    | some ns =>
      rw [hi] at h
      cases h
      rw [blsD_inv hi] at r0
      obtain ⟨a, ws, rfl, q, t⟩ := r0.lst_inv
      rw [repL_bls t] at q
      exact ⟨a, ns, rfl, s.seq q, k.here s (.bl _)⟩
  · cases h
/-! ### int(x), 'a' * n -/
def dIntB : List Dat → Option Dat
  | [.int i] => some (.int i)
  | [.bl b] => some (.int (if b then 1 else 0))
  | [.str x] => match PySem.intText? x with | some n => if x.length ≤ 640 then some (.int n) else none | none => none
  | _ => none
theorem call_intT : CallR X (.type "int") (fun xs H Q => ∃ x n, xs = [.str x] ∧ PySem.intText? x = some n ∧ x.length ≤ 640 ∧ Q (.int n) H) := fun pins s σ H xs us Q I r h => by
  obtain ⟨x, n, rfl, h1, h2, q⟩ := h
  obtain ⟨u, rfl, ru⟩ := vals1 r
  obtain ⟨t, rfl⟩ := ru
  exact PySem.W.KIN.call_text h1 h2 ⟨.int n, H, I.tok _, ⟨_, rfl⟩, q⟩
theorem pp_intc (hg : Gl X "int") (hm : X.mg "int" = none) (ha : PPA cl X [e] fl) (he : starEach [e] X.env = (false, eval e X.env) :: starEach [] X.env := by rfl) : PP cl X (.Call (.Name "int" p) [e] [] pos) (eB dIntB fl) := by
  refine pp_callTy (call_int1.or call_intT) (fun F H vs ds d Q h s r k => ?_) hg hm (by decide +kernel) ha (he := he)
  unfold dIntB at h
  split at h
  · cases h
    obtain ⟨v, rfl, r0⟩ := one_inv r
    rw [r0.int_inv]
    exact .inl (.inl ⟨_, rfl, k.here s (.int _)⟩)
  · cases h
    obtain ⟨v, rfl, r0⟩ := one_inv r
    rw [r0.bl_inv]
    exact .inl (.inr ⟨_, rfl, k.here s (.int _)⟩)
  · obtain ⟨v, rfl, r0⟩ := one_inv r
    split at h
    · rename_i n hn
      split at h
      · rename_i hl
        cases h
        rw [r0.str_inv]
        exact .inr ⟨_, _, rfl, hn, hl, k.here s (.int _)⟩
      · cases h
    · cases h
  · cases h
def dMulS : Dat → Dat → Option Dat
  | .str x, .int n => if 0 ≤ n ∧ n ≤ 1000 ∧ x.length ≤ 1000 then some (.str (Txt.mul x n)) else none
  | _, _ => none
theorem mulOk_small {x : Str} {n : Int} (h0 : 0 ≤ n) (h1 : n ≤ 1000) (h2 : x.length ≤ 1000) : MulOk x n := by
  refine ⟨by simp; omega, fun hn _ => ?_, fun hn _ => ?_⟩
  · have hp : (0 : Int) < n := by omega
    intro hgt
    have h3 : ((2 : Int) ^ 63 - 1) / n < (x.length : Int) := hgt
    have h4 := Int.lt_mul_of_ediv_lt hp h3
    have h5 : (x.length : Int) * n ≤ 1000 * 1000 := by
      have a1 : (x.length : Int) ≤ 1000 := by omega
      exact Int.le_trans (Int.mul_le_mul_of_nonneg_right a1 h0) (Int.mul_le_mul_of_nonneg_left h1 (by decide))
    have h6 : ((2 : Int) ^ 63 - 1) = 9223372036854775807 := by decide
    rw [h6] at h4
    omega
  · have hk : x.length * n.toNat ≤ 1000 * 1000 := Nat.mul_le_mul h2 (by omega)
    have : ¬ x.length * n.toNat > sizeLine := by rw [PySem.sizeLine_eq]; omega
    simp [Builtin.Str.tooLong, this]
theorem pp_mulS (ha : PP cl X a fa) (hb : PP cl X b fb) : PP cl X (.BinOp a .Mult b pos) (e2 dMulS fa fb) := by
  refine pp_bin (r := fun x y H Q => ∃ z n, x = .str z ∧ y = .int n ∧ MulOk z n ∧ Q (.str (Txt.mul z n)) H) (fun pins s σ H x y v u Q I rx ry h => ?_) (fun F H x y da db d Q hg s rx ry k => ?_) ha hb
  · obtain ⟨z, n, rfl, rfl, hok, q⟩ := h
    obtain ⟨t1, rfl⟩ := rx
    obtain ⟨t2, rfl⟩ := ry
    exact SB.mul hok fun t' k => ⟨.str _, H, I.tok _, ⟨_, rfl⟩, q⟩
  · unfold dMulS at hg
    split at hg
    · split at hg
      · rename_i c
        cases hg
        exact ⟨_, _, rx.str_inv, ry.int_inv, mulOk_small c.1 c.2.1 c.2.2, k.here s (.str _)⟩
      · cases hg
    · cases hg
/-! ### slices -/
def cutD (xs : List Dat) (lo hi : Option Int) : List Dat := (xs.drop (HT.sIx xs.length 0 lo)).take (HT.sIx xs.length xs.length hi - HT.sIx xs.length 0 lo)
theorem cut_rep {K : PySem.W.Frag} {F : Hp} {vs : List V} {ds : List Dat} (r : RepL K cl F vs ds) (lo hi : Option Int) : RepL K cl F (cutV vs lo hi) (cutD ds lo hi) := by
  unfold cutV cutD
  rw [r.length]
  exact ptake _ (pdrop _ r)
abbrev FO := Sto → Option (Option Int)
def tPO (K : PySem.W.Frag) (cl : Nat → Addr) (f : FO) : TO := fun σ H Q => ∃ δ F ω o, f δ = some o ∧ ER K cl F H ω σ δ ∧ ∀ H' F', Same H H' → Same F' H' → Grow F H F' → Q o H'
def PPO (cl : Nat → Addr) (X : Cx) (e : Option Expr) (f : FO) : Prop := PO X e (tPO X.K cl f)
def oN : FO := fun _ => some none
def oS (f : FE) : FO := fun δ => match f δ with | some (.int i) => some (some i) | _ => none
theorem ppo_none : PPO cl X none oN := fun pins s σ H Q I h => by
  obtain ⟨δ, F, ω, o, hf, er, k⟩ := h
  obtain rfl := Option.some.inj hf
  exact po_none pins s σ H Q I (k H F (Same.refl _) er.sub Grow.refl)
theorem ppo_some (h : PP cl X e fa) : PPO cl X (some e) (oS fa) := fun pins s σ H Q I hw => by
  obtain ⟨δ, F, ω, o, hf, er, k⟩ := hw
  unfold oS at hf
  split at hf
  · rename_i i e1
    cases hf
    exact po_some h pins s σ H Q I ⟨δ, F, ω, _, e1, er, fun v H' F' s1 s1' g r => ⟨i, r.int_inv, k H' F' s1 s1' g⟩⟩
  · cases hf
def dSl (d : Dat) (lo hi : Option Int) : Option Dat := match d with
  | .lst xs => some (.lst (cutD xs lo hi))
  | .tup xs => if HT.sIx xs.length 0 lo = 0 ∧ HT.sIx xs.length xs.length hi = xs.length then none else some (.tup (cutD xs lo hi))
  | _ => none
def eSl (fa : FE) (l h : FO) : FE := fun δ => (fa δ).bind fun d => (l δ).bind fun lo => (h δ).bind fun hi => dSl d lo hi
theorem pp_sl {lo hi : Option Expr} {fl fh : FO} {p2 : Pos} (ha : PP cl X a fa) (hl : PPO cl X lo fl) (hh : PPO cl X hi fh) : PP cl X (.Subscript a (.Slice lo hi none p2) pos) (eSl fa fl fh) := fun pins s σ H Q I h => by
  obtain ⟨δ, F, ω, d, hf, er, k⟩ := h
  unfold eSl at hf
  cases hx : fa δ with
  | none => rw [hx] at hf; cases hf
  | some x =>
    cases hy : fl δ with
    | none => rw [hx, hy] at hf; cases hf
    | some lo' =>
      cases hz : fh δ with
      | none => rw [hx, hy, hz] at hf; cases hf
      | some hi' =>
        rw [hx, hy, hz] at hf
        simp only [Option.bind_some] at hf
        have R : ∀ (r : V → Option Int → Option Int → Hp → VK → Prop), SlR X r → (∀ v H3 F3, Same H H3 → Same F3 H3 → Grow F H F3 → Rep X.K cl F3 v x → r v lo' hi' H3 Q) → wpAny (model X.prog X.w) X.A (eval (.Subscript a (.Slice lo hi none p2) pos) X.env) (EP X pins σ Q) X.xe s := fun r hr hq =>
          pe_slice hr ha hl hh pins s σ H Q I ⟨δ, F, ω, x, hx, er, fun v H1 F1 s1 s1' g1 r1 => ⟨δ, F1, ω, lo', hy, er.grow s1 s1' g1, fun H2 F2 s2 s2' g2 => ⟨δ, F2, ω, hi', hz, (er.grow s1 s1' g1).grow s2 s2' g2, fun H3 F3 s3 s3' g3 =>
            hq v H3 F3 ((s1.trans s2).trans s3) s3' ((g1.trans s1 g2).trans (s1.trans s2) g3) ((r1.mono g2.1).mono g3.1)⟩⟩⟩
        unfold dSl at hf
        split at hf
        · cases hf
          refine R _ sl_list fun v H3 F3 s3 s3' g3 r3 => ?_
          obtain ⟨p, vs, rfl, q1, r1⟩ := r3.lst_inv
          exact ⟨p, vs, rfl, s3'.seq q1, fun z hz => (k.step s3 g3).new s3' hz (.lst' (SqL.of upd_same) ((cut_rep r1 lo' hi').mono (same_upd (none_of s3' hz))))⟩
        · split at hf
          · cases hf
          · rename_i hn
            cases hf
            refine R _ sl_tup fun v H3 F3 s3 s3' g3 r3 => ?_
            obtain ⟨p, vs, rfl, q1, r1⟩ := r3.tup_inv
            exact ⟨p, vs, rfl, SqT.of (s3' _ _ q1), by rw [r1.length]; exact hn, fun z hz => (k.step s3 g3).new s3' hz (.tup' upd_same ((cut_rep r1 lo' hi').mono (same_upd (none_of s3' hz))))⟩
        · cases hf
end
end MB

namespace MB
open PySem PySem.Spec PyProof.Rows L2
section
variable {cl : Nat → Addr} {X : Cx} {e a b c : Expr} {es : List Expr} {fa fb fc fk fv : FE} {fl : FA} {pos pos' p : Pos} {i : Nat} {x : Str}
/-! ### calls of the text's defs, in one word -/
structure Cal (P : Program) (w : World) (K : PySem.W.Frag) (mg : Str → Option Value) (base : Heap) (cl : Nat → Addr) (x : Str) (k : Nat) (ps : List Str) (fn : List Dat → Option Dat) : Prop where
  ex : ∃ f fd, FnOk P w K mg base CX0 k f fd ps (spD K cl ps.length fn) ∧ mg x = some (.ref f) ∧ PySem.W.keepIn K (.ref f) = true ∧ L2.Binds K fd ps []
theorem pp_callC {k j n : Nat} {ps : List Str} {fn : List Dat → Option Dat} (C : Cal X.prog X.w X.K X.mg X.base cl x k ps fn) (hr : Room j X.A) (hg : Gl X x) (ha : PPA cl X (e :: es) fl) (hj : k ≤ j := by decide) (hn : ps.length = n := by rfl) (hx : Passes CX0 X E0 := by exact pass0)
    (hdb : (x == ("__debug__" : Str)) = false := by decide +kernel) (he : starEach (e :: es) X.env = (false, eval e X.env) :: starEach es X.env := by rfl) (hpl : (backTo pos (starEach es X.env)).any (·.1) = false := by rfl) :
    PP cl X (.Call (.Name x p) (e :: es) [] pos) (eCall n fn fl) := by
  obtain ⟨f, fd, h1, h2, h3, h4⟩ := C.ex
  subst hn
  exact pp_call h1 (hr.mono hj) hg h2 h3 h4 hx ha hdb he hpl
/-! ### in, not in -/
def flatD : Dat → Bool
  | .non => true
  | .bl _ => true
  | .int _ => true
  | .str _ => true
  | _ => false
def eqFD : Dat → Dat → Bool
  | .non, .non => true
  | .bl a, .bl b => a == b
  | .bl a, .int b => (if a then 1 else 0) == b
  | .int a, .bl b => a == (if b then 1 else 0)
  | .int a, .int b => a == b
  | .str a, .str b => a == b
  | _, _ => false
theorem flat_rep {K : PySem.W.Frag} {F : Hp} {v : V} {d : Dat} (r : Rep K cl F v d) (h : flatD d = true) : flatV v = true := by
  cases r <;> first | rfl | cases h
theorem eqF_rep {K : PySem.W.Frag} {F : Hp} {v w : V} {d d' : Dat} (r : Rep K cl F v d) (r' : Rep K cl F w d') (h : flatD d = true) (h' : flatD d' = true) : eqV v w = eqFD d d' := by
  cases r <;> first | (cases h; done) | (cases r' <;> first | rfl | (cases h'; done))
theorem flats_rep {K : PySem.W.Frag} {F : Hp} : ∀ {vs : List V} {ds : List Dat}, RepL K cl F vs ds → ds.all flatD = true → vs.all flatV = true
  | _, _, .nil, _ => rfl
  | _, _, .cons r t, h => by
    rw [List.all_cons, Bool.and_eq_true] at h
    rw [List.all_cons, flat_rep r h.1, flats_rep t h.2]
    rfl
theorem inV_rep {K : PySem.W.Frag} {F : Hp} {v : V} {d : Dat} (r : Rep K cl F v d) (h : flatD d = true) : ∀ {vs : List V} {ds : List Dat}, RepL K cl F vs ds → ds.all flatD = true → inV v vs = ds.any fun y => eqFD y d
  | _, _, .nil, _ => rfl
  | _, _, .cons r' t, h' => by
    rw [List.all_cons, Bool.and_eq_true] at h'
    have := inV_rep r h t h'.2
    unfold inV at this ⊢
    rw [List.any_cons, List.any_cons, eqF_rep r' r h'.1 h, this]
def inD (x : Dat) (xs : List Dat) : Option Bool := if flatD x = true ∧ xs.all flatD = true then some (xs.any fun y => eqFD y x) else none
def hasK (kvs : List (Key × Dat)) (x : Dat) : Option Bool := (keyD x).bind fun k => some (lookD kvs k).isSome
def hasT (kvs : List (List Key × Dat)) (x : Dat) : Option Bool := match x with | .tup ys => (keysD ys).bind fun ks => some (lookD kvs ks).isSome | _ => none
def hasD (x y : Dat) : Option Bool := match y with
  | .lst xs => inD x xs
  | .tup xs => inD x xs
  | .dK kvs => hasK kvs x
  | .dT kvs => hasT kvs x
  | _ => none
def dIn (x y : Dat) : Option Dat := (hasD x y).bind fun r => some (.bl r)
def dNIn (x y : Dat) : Option Dat := (hasD x y).bind fun r => some (.bl (!r))
theorem pc_op {op : CmpOp} {r : R2} {ta tb : TE} (ho : OpR X (compareOp op) r) (ha : PE X a ta) (hb : PE X b tb) : PC X op a b (tOp r ta tb) := fun pins s σ H Q I h =>
  binT ha hb I h fun v u s2 x y H2 I2 rx ry q => ho pins s2 σ H2 x y v u Q I2 rx ry q
theorem dget_rep {K : PySem.W.Frag} {F H : Hp} {p : Addr} {ws : List (Key × V)} {kvs : List (Key × Dat)} {v : V} {x : Dat} {r : Bool} (hH : H p = some (.dK ws)) (t : RepK K cl F ws kvs) (rx : Rep K cl F v x) (h : hasK kvs x = some r) : ∃ o, DGet H p v o ∧ o.isSome = r := by
  unfold hasK at h
  cases hk : keyD x with
  | none => rw [hk] at h; cases h
  | some k =>
    rw [hk] at h
    have hr : (lookD kvs k).isSome = r := Option.some.inj h
    rw [keyD_rep rx hk]
    refine ⟨valV ws k, DGet.k hH, ?_⟩
    rcases repK_look t k with ⟨h1, h2⟩ | ⟨v', d', h1, h2, _⟩
    · rw [h1, ← hr, h2]; rfl
    · rw [h1, ← hr, h2]; rfl
theorem dgetT_rep {K : PySem.W.Frag} {F H : Hp} {p : Addr} {ws : List (List Key × V)} {kvs : List (List Key × Dat)} {v : V} {x : Dat} {r : Bool} (sub : Same F H) (hH : H p = some (.dT ws)) (t : RepK K cl F ws kvs) (rx : Rep K cl F v x) (h : hasT kvs x = some r) : ∃ o, DGet H p v o ∧ o.isSome = r := by
  unfold hasT at h
  split at h
  · rename_i ys
    cases hk : keysD ys with
    | none => rw [hk] at h; cases h
    | some ks =>
      rw [hk] at h
      have hr : (lookD kvs ks).isSome = r := Option.some.inj h
      obtain ⟨p', vs, rfl, q2, r2⟩ := rx.tup_inv
      have eb := sub _ _ q2
      rw [keysD_rep r2 hk] at eb
      refine ⟨valV ws ks, DGet.t hH eb, ?_⟩
      rcases repK_look t ks with ⟨h1, h2⟩ | ⟨v', d', h1, h2, _⟩
      · rw [h1, ← hr, h2]; rfl
      · rw [h1, ← hr, h2]; rfl
  · cases h
theorem pc_in (hu : X.A.units + 1 < cLine) (ha : PP cl X a fa) (hb : PP cl X b fb) : PC X .In a b (tP X.K cl (e2 dIn fa fb)) := fun pins s σ H Q I h => by
  obtain ⟨δ, F, ω, d, hf, er, k⟩ := h
  obtain ⟨x, y, hx, hy, hg⟩ := e2_some hf
  unfold dIn at hg
  cases hh : hasD x y with
  | none => rw [hh] at hg; cases hg
  | some r =>
    rw [hh] at hg
    obtain rfl := Option.some.inj hg
    unfold hasD at hh
    cases y with
    | lst xs =>
      dsimp only at hh
      unfold inD at hh
      split at hh
      · rename_i c
        cases hh
        refine pc_op op_in_seq ha hb pins s σ H Q I (tP2 hx hy er fun vx vy H2 F2 s1 g1 er2 rx ry => ?_)
        obtain ⟨p, vs, rfl, q1, r1⟩ := ry.lst_inv
        exact ⟨p, vs, rfl, .inl (er2.sub.seq q1), flat_rep rx c.1, flats_rep r1 c.2, by rw [if_neg Bool.false_ne_true, inV_rep rx c.1 r1 c.2]; exact (k.step s1 g1).here er2.sub (.bl _)⟩
      · cases hh
    | tup xs =>
      dsimp only at hh
      unfold inD at hh
      split at hh
      · rename_i c
        cases hh
        refine pc_op op_in_seq ha hb pins s σ H Q I (tP2 hx hy er fun vx vy H2 F2 s1 g1 er2 rx ry => ?_)
        obtain ⟨p, vs, rfl, q1, r1⟩ := ry.tup_inv
        exact ⟨p, vs, rfl, .inr (SqT.of (er2.sub _ _ q1)), flat_rep rx c.1, flats_rep r1 c.2, by rw [if_neg Bool.false_ne_true, inV_rep rx c.1 r1 c.2]; exact (k.step s1 g1).here er2.sub (.bl _)⟩
      · cases hh
    | dK kvs =>
      refine pc_din hu ha hb pins s σ H Q I (tP2 hx hy er fun vx vy H2 F2 s1 g1 er2 rx ry => ?_)
      obtain ⟨p, ws, rfl, q1, r1⟩ := ry.dK_inv
      obtain ⟨o, g, eo⟩ := dget_rep (er2.sub _ _ q1) r1 rx hh
      exact ⟨p, o, rfl, g, by rw [eo]; exact (k.step s1 g1).here er2.sub (.bl _)⟩
    | dT kvs =>
      refine pc_din hu ha hb pins s σ H Q I (tP2 hx hy er fun vx vy H2 F2 s1 g1 er2 rx ry => ?_)
      obtain ⟨p, ws, rfl, q1, r1⟩ := ry.dT_inv
      obtain ⟨o, g, eo⟩ := dgetT_rep er2.sub (er2.sub _ _ q1) r1 rx hh
      exact ⟨p, o, rfl, g, by rw [eo]; exact (k.step s1 g1).here er2.sub (.bl _)⟩
    | _ => cases hh
theorem pc_nin (hu : X.A.units + 1 < cLine) (ha : PP cl X a fa) (hb : PP cl X b fb) : PC X .NotIn a b (tP X.K cl (e2 dNIn fa fb)) := fun pins s σ H Q I h => by
  obtain ⟨δ, F, ω, d, hf, er, k⟩ := h
  obtain ⟨x, y, hx, hy, hg⟩ := e2_some hf
  unfold dNIn at hg
  cases hh : hasD x y with
  | none => rw [hh] at hg; cases hg
  | some r =>
    rw [hh] at hg
    obtain rfl := Option.some.inj hg
    unfold hasD at hh
    cases y with
    | lst xs =>
      dsimp only at hh
      unfold inD at hh
      split at hh
      · rename_i c
        cases hh
        refine pc_op op_notIn_seq ha hb pins s σ H Q I (tP2 hx hy er fun vx vy H2 F2 s1 g1 er2 rx ry => ?_)
        obtain ⟨p, vs, rfl, q1, r1⟩ := ry.lst_inv
        exact ⟨p, vs, rfl, .inl (er2.sub.seq q1), flat_rep rx c.1, flats_rep r1 c.2, by rw [if_pos rfl, inV_rep rx c.1 r1 c.2]; exact (k.step s1 g1).here er2.sub (.bl _)⟩
      · cases hh
    | tup xs =>
      dsimp only at hh
      unfold inD at hh
      split at hh
      · rename_i c
        cases hh
        refine pc_op op_notIn_seq ha hb pins s σ H Q I (tP2 hx hy er fun vx vy H2 F2 s1 g1 er2 rx ry => ?_)
        obtain ⟨p, vs, rfl, q1, r1⟩ := ry.tup_inv
        exact ⟨p, vs, rfl, .inr (SqT.of (er2.sub _ _ q1)), flat_rep rx c.1, flats_rep r1 c.2, by rw [if_pos rfl, inV_rep rx c.1 r1 c.2]; exact (k.step s1 g1).here er2.sub (.bl _)⟩
      · cases hh
    | dK kvs =>
      refine pc_dnotin hu ha hb pins s σ H Q I (tP2 hx hy er fun vx vy H2 F2 s1 g1 er2 rx ry => ?_)
      obtain ⟨p, ws, rfl, q1, r1⟩ := ry.dK_inv
      obtain ⟨o, g, eo⟩ := dget_rep (er2.sub _ _ q1) r1 rx hh
      exact ⟨p, o, rfl, g, by rw [eo]; exact (k.step s1 g1).here er2.sub (.bl _)⟩
    | dT kvs =>
      refine pc_dnotin hu ha hb pins s σ H Q I (tP2 hx hy er fun vx vy H2 F2 s1 g1 er2 rx ry => ?_)
      obtain ⟨p, ws, rfl, q1, r1⟩ := ry.dT_inv
      obtain ⟨o, g, eo⟩ := dgetT_rep er2.sub (er2.sub _ _ q1) r1 rx hh
      exact ⟨p, o, rfl, g, by rw [eo]; exact (k.step s1 g1).here er2.sub (.bl _)⟩
    | _ => cases hh
theorem pp_in (hu : X.A.units + 1 < cLine) (ha : PP cl X a fa) (hb : PP cl X b fb) (hm : behindInMarks .In b = false := by with_unfolding_all rfl) : PP cl X (.Compare a [.In] [b] pos) (e2 dIn fa fb) := pe_cmp (pc_in hu ha hb) hm
theorem pp_nin (hu : X.A.units + 1 < cLine) (ha : PP cl X a fa) (hb : PP cl X b fb) (hm : behindInMarks .NotIn b = false := by with_unfolding_all rfl) : PP cl X (.Compare a [.NotIn] [b] pos) (e2 dNIn fa fb) := pe_cmp (pc_nin hu ha hb) hm
theorem ppt_in (hu : X.A.units + 1 < cLine) (ha : PP cl X a fa) (hb : PP cl X b fb) (hm : behindInMarks .In b = false := by with_unfolding_all rfl) : PPT cl X (.Compare a [.In] [b] pos) (b1 (e2 dIn fa fb)) := ppt_of hm (pc_in hu ha hb)
theorem ppt_nin (hu : X.A.units + 1 < cLine) (ha : PP cl X a fa) (hb : PP cl X b fb) (hm : behindInMarks .NotIn b = false := by with_unfolding_all rfl) : PPT cl X (.Compare a [.NotIn] [b] pos) (b1 (e2 dNIn fa fb)) := ppt_of hm (pc_nin hu ha hb)
/-! ### what is being made, read by its name -/
def lookO (kvs : List (Key × O0)) (k : Key) : Option O0 := (kvs.find? fun kv => decide (kv.1 = k)).map (·.2)
/-- a subscript of what a slot holds -/
def slIx (s : Slot) (y : Dat) : Option Dat := match s with
  | .o (.val d) => dIx d y
  | .o (.lst xs) => (match y with | .int j => atI xs j | _ => none)
  | .o (.dK kvs) => (keyD y).bind fun k => lookD kvs k
  | .o (.dT kvs) => (match y with | .tup ys => (keysD ys).bind fun ks => lookD kvs ks | _ => none)
  | .rcd kvs => (keyD y).bind fun k => match lookO kvs k with | some (.val d) => some d | _ => none
  | .no => none
def eIxN (i : Nat) (fb : FE) : FE := fun δ => (δ[i]?).bind fun s => (fb δ).bind fun y => slIx s y
theorem rcd_look {K : PySem.W.Frag} {F H : Hp} {w : Addr → Option Lab} {n : Nat} {vs : List (Key × V)} {kvs : List (Key × O0)} (q : Paired (fun (x : Key × V) (y : Key × O0) => x.1 = y.1 ∧ O0R K cl F H w (n, some y.1) x.2 y.2) vs kvs) (k : Key) :
    (valV vs k = none ∧ lookO kvs k = none) ∨ ∃ v o, valV vs k = some v ∧ lookO kvs k = some o ∧ O0R K cl F H w (n, some k) v o := by
  induction q with
  | nil => exact .inl ⟨rfl, rfl⟩
  | @cons p q ps qs h _ ih =>
    by_cases e : p.1 = k
    · have e' : q.1 = k := by rw [← h.1]; exact e
      refine .inr ⟨p.2, q.2, valV_pos e, ?_, by have := h.2; rw [e'] at this; exact this⟩
      unfold lookO
      rw [List.find?_cons, decide_eq_true e']
      rfl
    · have e' : ¬ q.1 = k := by rw [← h.1]; exact e
      rw [valV_neg e]
      have : lookO (q :: qs) k = lookO qs k := by
        unfold lookO
        rw [List.find?_cons, decide_eq_false e']
      rw [this]
      exact ih
theorem pp_ixN (hu : X.A.units + 1 < cLine) (hv : PE X a (tVar i)) (hb : PP cl X b fb) (hs : PlainIx b) : PP cl X (.Subscript a b pos) (eIxN i fb) := fun pins s σ H Q I h => by
  obtain ⟨δ, F, ω, d, hf, er, k⟩ := h
  unfold eIxN at hf
  cases hi : δ[i]? with
  | none => rw [hi] at hf; cases hf
  | some sl =>
    cases hy : fb δ with
    | none => rw [hi, hy] at hf; cases hf
    | some y =>
      rw [hi, hy] at hf
      simp only [Option.bind_some] at hf
      have r0 := er.at_ i sl hi
      unfold slIx at hf
      cases sl with
      | no => cases hf
      | o x =>
        obtain ⟨v, ev, q⟩ := r0
        cases x with
        | val d0 =>
          have hx : eV i δ = some d0 := by unfold eV; rw [hi]
          exact pp_ix hu (pp_var hv) hb hs pins s σ H Q I ⟨δ, F, ω, d, by unfold e2; rw [hx, hy]; exact hf, er, k⟩
        | lst xs =>
          obtain ⟨p, vs, rfl, hw, hH, r1⟩ := q
          cases y with
          | int j =>
            refine pe_ix ix_list hv hb hs pins s σ H Q I ⟨.ref p, ev, δ, F, ω, .int j, hy, er, fun vy H2 F2 s1 s1' g1 ry => ?_⟩
            obtain ⟨v, hv', r⟩ := atI_rep r1 hf
            exact ⟨p, vs, j, v, rfl, ry.int_inv, SqL.of (s1 _ _ hH), hv', (k.step s1 g1).here s1' (r.mono g1.1)⟩
          | _ => cases hf
        | dK kvs =>
          obtain ⟨p, vs, rfl, hw, hH, r1⟩ := q
          dsimp only at hf
          cases hk : keyD y with
          | none => rw [hk] at hf; cases hf
          | some kk =>
            rw [hk] at hf
            refine pe_dget hu hv hb hs pins s σ H Q I ⟨.ref p, ev, δ, F, ω, y, hy, er, fun vy H2 F2 s1 s1' g1 ry => ?_⟩
            rcases repK_look r1 kk with ⟨_, n⟩ | ⟨v, d', h1, h2, r⟩
            · rw [show lookD kvs kk = some d from hf] at n; cases n
            · rw [show lookD kvs kk = some d from hf] at h2; cases h2
              rw [keyD_rep ry hk]
              exact ⟨p, v, rfl, h1 ▸ DGet.k (s1 _ _ hH), (k.step s1 g1).here s1' (r.mono g1.1)⟩
        | dT kvs =>
          obtain ⟨p, vs, rfl, hw, hH, r1⟩ := q
          cases y with
          | tup ys =>
            dsimp only at hf
            cases hk : keysD ys with
            | none => rw [hk] at hf; cases hf
            | some kk =>
              rw [hk] at hf
              refine pe_dget hu hv hb hs pins s σ H Q I ⟨.ref p, ev, δ, F, ω, .tup ys, hy, er, fun vy H2 F2 s1 s1' g1 ry => ?_⟩
              obtain ⟨p', ws, rfl, q2, r2⟩ := ry.tup_inv
              have eb := s1' _ _ q2
              rw [keysD_rep r2 hk] at eb
              rcases repK_look r1 kk with ⟨_, n⟩ | ⟨v, d', h1, h2, r⟩
              · rw [show lookD kvs kk = some d from hf] at n; cases n
              · rw [show lookD kvs kk = some d from hf] at h2; cases h2
                exact ⟨p, v, rfl, h1 ▸ DGet.t (s1 _ _ hH) eb, (k.step s1 g1).here s1' (r.mono g1.1)⟩
          | _ => cases hf
      | rcd kvs =>
        obtain ⟨p, vs, ev, hw, hH, hn, q⟩ := r0
        dsimp only at hf
        cases hk : keyD y with
        | none => rw [hk] at hf; cases hf
        | some kk =>
          rw [hk] at hf
          simp only [Option.bind_some] at hf
          split at hf
          · rename_i d0 hl
            cases hf
            refine pe_dget hu hv hb hs pins s σ H Q I ⟨.ref p, ev, δ, F, ω, y, hy, er, fun vy H2 F2 s1 s1' g1 ry => ?_⟩
            rcases rcd_look q kk with ⟨_, n⟩ | ⟨v, o, h1, h2, r⟩
            · rw [hl] at n; cases n
            · rw [hl] at h2; cases h2
              rw [keyD_rep ry hk]
              exact ⟨p, v, rfl, h1 ▸ DGet.k (s1 _ _ hH), (k.step s1 g1).here s1' ((show Rep X.K cl F v d from r).mono g1.1)⟩
          · cases hf
/-- x in what a slot holds -/
def slIn (s : Slot) (x : Dat) : Option Bool := match s with
  | .o (.val d) => hasD x d
  | .o (.lst xs) => inD x xs
  | .o (.dK kvs) => hasK kvs x
  | .o (.dT kvs) => hasT kvs x
  | _ => none
def eInN (fa : FE) (i : Nat) : FE := fun δ => (δ[i]?).bind fun s => (fa δ).bind fun x => (slIn s x).bind fun r => some (.bl r)
def eNInN (fa : FE) (i : Nat) : FE := fun δ => (δ[i]?).bind fun s => (fa δ).bind fun x => (slIn s x).bind fun r => some (.bl (!r))
theorem inN_some {neg : Bool} {δ : Sto} {d : Dat} (h : ((δ[i]?).bind fun s => (fa δ).bind fun x => (slIn s x).bind fun r => some (Dat.bl (if neg then !r else r))) = some d) : ∃ s x r, δ[i]? = some s ∧ fa δ = some x ∧ slIn s x = some r ∧ d = .bl (if neg then !r else r) := by
  cases h1 : δ[i]? with
  | none => rw [h1] at h; cases h
  | some s =>
    cases h2 : fa δ with
    | none => rw [h1, h2] at h; cases h
    | some x =>
      cases h3 : slIn s x with
      | none => rw [h1, h2] at h; simp only [Option.bind_some] at h; rw [h3] at h; cases h
      | some r => rw [h1, h2] at h; simp only [Option.bind_some] at h; rw [h3] at h; exact ⟨s, x, r, rfl, rfl, h3, (Option.some.inj h).symm⟩
theorem pc_ninN (hu : X.A.units + 1 < cLine) (ha : PP cl X a fa) (hv : PE X b (tVar i)) : PC X .NotIn a b (tP X.K cl (eNInN fa i)) := fun pins s σ H Q I h => by
  obtain ⟨δ, F, ω, d, hf, er, k⟩ := h
  obtain ⟨sl, x, r, hi, hx, hh, rfl⟩ := inN_some (neg := true) hf
  have r0 := er.at_ i sl hi
  unfold slIn at hh
  cases sl with
  | no => cases hh
  | rcd kvs => cases hh
  | o y =>
    obtain ⟨v, ev, q⟩ := r0
    cases y with
    | val d0 =>
      have hy : eV i δ = some d0 := by unfold eV; rw [hi]
      refine pc_nin hu ha (pp_var hv) pins s σ H Q I ⟨δ, F, ω, .bl (!r), ?_, er, k⟩
      unfold e2 dNIn
      rw [hx, hy]
      simp only [Option.bind_some]
      rw [show hasD x d0 = some r from hh]
      rfl
    | lst xs =>
      obtain ⟨p, vs, rfl, hw, hH, r1⟩ := q
      dsimp only at hh
      unfold inD at hh
      split at hh
      · rename_i c
        cases hh
        refine pc_op op_notIn_seq ha hv pins s σ H Q I ⟨δ, F, ω, x, hx, er, fun vx H1 F1 s1 s1' g1 rx => ⟨.ref p, ev, p, vs, rfl, .inl (SqL.of (s1 _ _ hH)), flat_rep rx c.1, flats_rep r1 c.2, ?_⟩⟩
        rw [if_pos rfl, inV_rep rx c.1 (r1.mono g1.1) c.2]
        exact (k.step s1 g1).here s1' (.bl _)
      · cases hh
    | dK kvs =>
      obtain ⟨p, vs, rfl, hw, hH, r1⟩ := q
      refine pc_dnotin hu ha hv pins s σ H Q I ⟨δ, F, ω, x, hx, er, fun vx H1 F1 s1 s1' g1 rx => ⟨.ref p, ev, ?_⟩⟩
      obtain ⟨o, g, eo⟩ := dget_rep (s1 _ _ hH) (RepK.mono g1.1 r1) rx hh
      exact ⟨p, o, rfl, g, by rw [eo]; exact (k.step s1 g1).here s1' (.bl _)⟩
    | dT kvs =>
      obtain ⟨p, vs, rfl, hw, hH, r1⟩ := q
      refine pc_dnotin hu ha hv pins s σ H Q I ⟨δ, F, ω, x, hx, er, fun vx H1 F1 s1 s1' g1 rx => ⟨.ref p, ev, ?_⟩⟩
      obtain ⟨o, g, eo⟩ := dgetT_rep s1' (s1 _ _ hH) (RepK.mono g1.1 r1) rx hh
      exact ⟨p, o, rfl, g, by rw [eo]; exact (k.step s1 g1).here s1' (.bl _)⟩
theorem pp_ninN (hu : X.A.units + 1 < cLine) (ha : PP cl X a fa) (hv : PE X b (tVar i)) (hm : behindInMarks .NotIn b = false := by with_unfolding_all rfl) : PP cl X (.Compare a [.NotIn] [b] pos) (eNInN fa i) := pe_cmp (pc_ninN hu ha hv) hm
theorem ppt_ninN (hu : X.A.units + 1 < cLine) (ha : PP cl X a fa) (hv : PE X b (tVar i)) (hm : behindInMarks .NotIn b = false := by with_unfolding_all rfl) : PPT cl X (.Compare a [.NotIn] [b] pos) (b1 (eNInN fa i)) := ppt_of hm (pc_ninN hu ha hv)
end
end MB

namespace MB
open PySem PySem.Spec PyProof.Rows L2
section
variable {cl : Nat → Addr} {X : Cx} {e a b c : Expr} {es : List Expr} {fa fb fc fk fv : FE} {fl : FA} {pos pos' p p2 : Pos} {i j : Nat} {x y : Str}
/-! ### x[k] = v, x being made -/
def sPut (i : Nat) (fk fv : FE) : FS := fun δ => (δ[i]?).bind fun s => (fk δ).bind fun k => (fv δ).bind fun v => match s with
  | .o (.dK kvs) => (keyD k).bind fun kk => if kvs.length < sizeLine then some (.nx (δ.set i (.o (.dK (putD kvs kk v))))) else none
  | .o (.dT kvs) => (match k with | .tup ys => (keysD ys).bind fun ks => if kvs.length < sizeLine then some (.nx (δ.set i (.o (.dT (putD kvs ks v))))) else none | _ => none)
  | .o (.lst xs) => (match k with | .int j => if 0 ≤ j ∧ j < (xs.length : Nat) then some (.nx (δ.set i (.o (.lst (xs.set j.toNat v))))) else none | _ => none)
  | _ => none
/-- xs[j] = v, a list of ours -/
theorem setItem_U {prog : Program} {w : World} {A : Around} {E : Value → Shared → Prop} {s : Shared} {l : Addr} {items : Array Value} {n : Nat} {k : Int} {t : Tok} {v : Value} {Q : Unit → Shared → Prop} (hl : s.heap.get? l = some { cls := .type "list", data := .seq items n })
    (h0 : 0 ≤ k) (hfit : k < 2 ^ 63) (hn : k < items.size) (hQ : Q () { s with heap := s.heap.update l (Obj.mapSeq (·.setIfInBounds k.toNat v)) }) : wpAny (model prog w) A (setItem (.ref l) (.int k t) v) Q E s := by
  have hL : s.heap.IsList l items := ⟨_, hl, rfl, n, rfl⟩
  unfold setItem
  try with_reducible refine wpAny_holding ?_
  first | refine wpAny_bind (wpAny_pure ?_) | skip
  refine wpAny_bind (wpAny_sequenceKey hL.typeIs (by decide) ?_)
  refine wpAny_bind (wpAny_callSpecial?_slot (name := Str.ofString "__setitem__") hL.typeIs slot_list_setitem
    (wpAny_call_entry slot_list_setitem hL.typeIs entry_list_setitem ?_ (args_list_setitem _ _ _)))
  show wpAny _ _ (Builtin.List.listSubscript? (.int k t) >>= _) _ _ s
  refine wpAny_bind (wpAny_listSubscript_int (fitsIndex_of h0 hfit) ?_)
  clear hfit
  obtain ⟨j, rfl⟩ := Int.eq_ofNat_of_zero_le h0
  have hj : j < items.size := by omega
  have hx' : items[j]? = some items[j] := Array.getElem?_eq_getElem hj
  show wpAny _ _ ((seqItemAt l j >>= fun r => pure (r.map (j, ·))) >>= _) _ _ s
  refine wpAny_bind (wpAny_bind (wpAny_seqItemAt hl rfl (wpAny_pure ?_)))
  rw [hx']
  show wpAny _ _ (setSeqItemAt l j v >>= _) _ _ s
  refine wpAny_bind (wpAny_setSeqItemAt hl rfl ?_)
  first
    | exact wpAny_bind (wpAny_pure (wpAny_pure ⟨.none, rfl, wpAny_pure hQ⟩))
    | exact wpAny_pure ⟨.none, rfl, wpAny_pure hQ⟩
theorem vals_set {x : V} {u : Value} (r : RelV x u) : ∀ {xs : List V} {us : List Value} (j : Nat), Vals xs us → Vals (xs.set j x) (us.set j u)
  | _, _, _, .nil => .nil
  | _, _, 0, .cons _ t => .cons r t
  | _, _, j + 1, .cons q t => .cons q (vals_set r j t)
theorem pset_list : PSet X (fun o i v H Q => ∃ a j xs, o = .ref a ∧ i = .int j ∧ H a = some (.lst xs) ∧ 0 ≤ j ∧ j < (xs.length : Nat) ∧ Q (upd H a (.lst (xs.set j.toNat v)))) := fun pins s σ H o i v ov iv u Q I ro ri rv h => by
  obtain ⟨a, j, xs, rfl, rfl, hH, h0, h1, q⟩ := h
  cases (show ov = Value.ref a from ro)
  obtain ⟨t, rfl⟩ := (show ∃ t, iv = Value.int j t from ri)
  obtain ⟨z, its, n, r, hl, e⟩ := I.lstM hH
  have hz : xs.length ≤ 16777216 := by rw [← PySem.sizeLine_eq]; exact z
  refine setItem_U e h0 (by omega) (by rw [List.size_toArray]; omega) ⟨_, I.lset (its' := its.set j.toNat u) (ys := xs.set j.toNat v) (t' := s.toks) hH e ?_ (vals_set rv _ r) (by rw [List.length_set]; exact z), q⟩
  rw [← List.setIfInBounds_toArray]
theorem SR.setV {K : PySem.W.Frag} {B F0 P H F : Hp} {δ : Sto} {σ : St} {ω : Addr → Option Lab} {i : Nat} {v : V} {d : Dat} (sr : SR K cl B F0 P δ σ H F ω) (r : Rep K cl F v d) : SR K cl B F0 P (δ.set i (.o (.val d))) (σ.set i (some v)) H F ω := sr.set (s := .o (.val d)) ⟨v, rfl, r⟩
theorem pimp2 {α β : Type} {R R' : α → β → Prop} : ∀ {xs : List α} {ys : List β}, (∀ a b, b ∈ ys → R a b → R' a b) → Paired R xs ys → Paired R' xs ys
  | _, _, _, .nil => .nil
  | _, _, h, .cons r t => .cons (h _ _ List.mem_cons_self r) (pimp2 (fun a b m q => h a b (List.mem_cons_of_mem _ m) q) t)
theorem bind3 {α β γ δ : Type} {x : Option α} {y : Option β} {z : Option γ} {f : α → β → γ → Option δ} {r : δ} (h : (x.bind fun a => y.bind fun b => z.bind fun c => f a b c) = some r) : ∃ a b c, x = some a ∧ y = some b ∧ z = some c ∧ f a b c = some r := by
  cases x with
  | none => cases h
  | some a =>
    cases y with
    | none => cases h
    | some b =>
      cases z with
      | none => cases h
      | some c => exact ⟨a, b, c, rfl, rfl, rfl, h⟩
theorem bind2 {α β δ : Type} {x : Option α} {y : Option β} {f : α → β → Option δ} {r : δ} (h : (x.bind fun a => y.bind fun b => f a b) = some r) : ∃ a b, x = some a ∧ y = some b ∧ f a b = some r := by
  cases x with
  | none => cases h
  | some a =>
    cases y with
    | none => cases h
    | some b => exact ⟨a, b, rfl, rfl, h⟩
theorem bind1 {α δ : Type} {x : Option α} {f : α → Option δ} {r : δ} (h : x.bind f = some r) : ∃ a, x = some a ∧ f a = some r := by
  cases x with
  | none => cases h
  | some a => exact ⟨a, rfl, h⟩
theorem pb_put {nx k v : Expr} (hu : X.A.units + 1 < cLine) (hv : PE X nx (tVar i)) (hk : PP cl X k fk) (hw : PP cl X v fv) (hs : swapsWith v (some (.Subscript nx k pos')) pos.line X.env = pure false := by rfl)
    (hs2 : swapsWithSole [.Subscript nx k pos'] v pos.line X.env = pure false := by rfl) (hs3 : swappedStores [.Subscript nx k pos'] v X.env = pure none := by rfl) (hs4 : (assignEach [.Subscript nx k pos'] X.env).map (·.2) = [assign (.Subscript nx k pos') X.env] := by rfl)
    (hs5 : ∀ v, assign (.Subscript nx k pos') X.env v = (do
      let ov ← holding [v] (eval nx X.env)
      let iv ← holding [v, ov] (eval k X.env)
      standAt pos'
      holding [v, ov, iv] (setItem ov iv v)
      release [v, ov, iv] []) := by intro _; rfl) : PB1 cl X (.Assign [.Subscript nx k pos'] v pos) (sPut i fk fv) := fun pins s σ H D I h => by
  obtain ⟨B, F0, P, δ, o, hf, ⟨F, ω, sr⟩, out⟩ := h
  obtain ⟨sl, dk, dv, hi, h1, h2, hf⟩ := bind3 hf
  have hil : i < δ.length := (List.getElem?_eq_some_iff.mp hi).1
  have r0 := sr.er.at_ i sl hi
  split at hf
  · rename_i kvs
    obtain ⟨kk, hkk, hf⟩ := bind1 hf
    split at hf
    · rename_i hl
      obtain rfl := Option.some.inj hf
      obtain ⟨v0, ev, p, ws, rfl, hw0, hH, r1⟩ := r0
      refine ps_dput hu hv hk hw hs pins s σ H D I ⟨δ, F, _, dv, h2, sr.er, fun v1 H1 F1 s1 s1' g1 q1 => ⟨.ref p, ev, δ, F1, _, dk, h1, sr.er.grow s1 s1' g1, fun v2 H2 F2 s2 s2' g2 q2 => ?_⟩⟩
      have sr2 := (sr.step s1 s1' g1).step s2 s2' g2
      rw [keyD_rep q2 hkk]
      refine ⟨p, _, rfl, DPut.k (s2 _ _ (s1 _ _ hH)) (by rw [r1.length]; exact hl), out _ _ ⟨F2, ω, sr2.put (l := (i, none)) hw0 ⟨.ref p, ev, p, _, rfl, hw0, upd_same, ?_⟩ hil⟩⟩
      exact repK_put (RepK.mono g2.1 (RepK.mono g1.1 r1)) kk (q1.mono g2.1)
    · cases hf
  · rename_i kvs
    split at hf
    · rename_i ys
      obtain ⟨kk, hkk, hf⟩ := bind1 hf
      split at hf
      · rename_i hl
        obtain rfl := Option.some.inj hf
        obtain ⟨v0, ev, p, ws, rfl, hw0, hH, r1⟩ := r0
        refine ps_dput hu hv hk hw hs pins s σ H D I ⟨δ, F, _, dv, h2, sr.er, fun v1 H1 F1 s1 s1' g1 q1 => ⟨.ref p, ev, δ, F1, _, .tup ys, h1, sr.er.grow s1 s1' g1, fun v2 H2 F2 s2 s2' g2 q2 => ?_⟩⟩
        have sr2 := (sr.step s1 s1' g1).step s2 s2' g2
        obtain ⟨p', vs, rfl, q3, r3⟩ := q2.tup_inv
        have eb := s2' _ _ q3
        rw [keysD_rep r3 hkk] at eb
        refine ⟨p, _, rfl, DPut.t (s2 _ _ (s1 _ _ hH)) eb (by rw [r1.length]; exact hl), out _ _ ⟨F2, ω, sr2.put (l := (i, none)) hw0 ⟨.ref p, ev, p, _, rfl, hw0, upd_same, ?_⟩ hil⟩⟩
        exact repK_put (RepK.mono g2.1 (RepK.mono g1.1 r1)) kk (q1.mono g2.1)
      · cases hf
    · cases hf
  · rename_i xs
    split at hf
    · rename_i j
      split at hf
      · rename_i hj
        obtain rfl := Option.some.inj hf
        obtain ⟨v0, ev, p, ws, rfl, hw0, hH, r1⟩ := r0
        refine ps_asg hw (pg_sub hv hk pset_list hs5) hs2 hs3 hs4 pins s σ H D I ⟨δ, F, _, dv, h2, sr.er, fun v1 H1 F1 s1 s1' g1 q1 => ⟨.ref p, ev, δ, F1, _, .int j, h1, sr.er.grow s1 s1' g1, fun v2 H2 F2 s2 s2' g2 q2 => ?_⟩⟩
        have sr2 := (sr.step s1 s1' g1).step s2 s2' g2
        refine ⟨p, j, ws, rfl, q2.int_inv, s2 _ _ (s1 _ _ hH), hj.1, by rw [r1.length]; exact hj.2, out _ _ ⟨F2, ω, sr2.put (l := (i, none)) hw0 ⟨.ref p, ev, p, _, rfl, hw0, upd_same, ?_⟩ hil⟩⟩
        exact pset (q1.mono g2.1) _ ((r1.mono g1.1).mono g2.1)
      · cases hf
    · cases hf
  · cases hf
/-! ### a, b = x, y; a, b = t -/
def sPar (i j : Nat) (fl : FA) : FS := fun δ => match fl δ with
  | some [d, d'] => some (.nx ((δ.set i (.o (.val d))).set j (.o (.val d'))))
  | _ => none
theorem pb_par {px py pt : Pos} {kt k2 pt2} (hc : X.calm = true) (hN : X.N.Nodup) (hi : X.N[i]? = some x) (hj : X.N[j]? = some y) (hij : i ≠ j) (hx : X.env.scope.names.lookup x = some .local) (hy : X.env.scope.names.lookup y = some .local) (ha : PPA cl X [a, b] fl)
    (hw : swappedStores [.Tuple [.Name x px, .Name y py] kt pt] (.Tuple [a, b] k2 pt2) X.env = pure (some [x, y])) (hs : swapsWithSole [.Tuple [.Name x px, .Name y py] kt pt] (.Tuple [a, b] k2 pt2) pos.line X.env = pure false := by rfl) :
    PB1 cl X (.Assign [.Tuple [.Name x px, .Name y py] kt pt] (.Tuple [a, b] k2 pt2) pos) (sPar i j fl) := fun pins s σ H D I h => by
  obtain ⟨B, F0, P, δ, o, hf, ⟨F, ω, sr⟩, out⟩ := h
  unfold sPar at hf
  split at hf
  · rename_i d d' e0
    obtain rfl := Option.some.inj hf
    refine ps_par hc hN hi hj hij hx hy ha hw hs pins s σ H D I ⟨δ, F, _, _, e0, sr.er, fun vs H1 F1 s1 s1' g1 r1 => ?_⟩
    obtain ⟨v, w, rfl, q1, q2⟩ := two_inv r1
    exact ⟨v, w, rfl, out _ _ ⟨F1, ω, ((sr.step s1 s1' g1).setV q1).setV q2⟩⟩
  · cases hf
/-! ### records: a dict of written text keys, its values data or dicts that are being made -/
def putO (kvs : List (Key × O0)) (k : Key) (v : O0) : List (Key × O0) :=
  if (kvs.any fun kv => decide (kv.1 = k)) = true then kvs.map (fun kv => if kv.1 = k then (kv.1, v) else kv) else kvs ++ [(k, v)]
abbrev RcR (K : PySem.W.Frag) (cl : Nat → Addr) (F H : Hp) (w : Addr → Option Lab) (i : Nat) : List (Key × V) → List (Key × O0) → Prop := Paired (fun (x : Key × V) (y : Key × O0) => x.1 = y.1 ∧ O0R K cl F H w (i, some y.1) x.2 y.2)
theorem rcR_any {K : PySem.W.Frag} {F H : Hp} {w : Addr → Option Lab} {vs : List (Key × V)} {ds : List (Key × O0)} (r : RcR K cl F H w i vs ds) (k : Key) : (vs.any fun kv => decide (kv.1 = k)) = (ds.any fun kv => decide (kv.1 = k)) := by
  induction r with
  | nil => rfl
  | cons h _ ih => rw [List.any_cons, List.any_cons, ih, h.1]
theorem rcR_put {K : PySem.W.Frag} {F H : Hp} {w : Addr → Option Lab} {vs : List (Key × V)} {ds : List (Key × O0)} {v : V} {o : O0} (r : RcR K cl F H w i vs ds) (k : Key) (rv : O0R K cl F H w (i, some k) v o) : RcR K cl F H w i (putK vs k v) (putO ds k o) := by
  have rep : RcR K cl F H w i (vs.map fun kv => if kv.1 = k then (kv.1, v) else kv) (ds.map fun kv => if kv.1 = k then (kv.1, o) else kv) := by
    induction r with
    | nil => exact .nil
    | @cons p q ps qs h _ ih =>
      refine .cons ?_ ih
      dsimp only
      rw [← h.1]
      split
      · rename_i e; exact ⟨rfl, by rw [e]; exact rv⟩
      · rename_i e; exact ⟨h.1, h.2⟩
  unfold putK putO
  rw [rcR_any r k]
  split
  · exact rep
  · exact pappend r (.cons ⟨rfl, rv⟩ .nil)
theorem putO_keys (kvs : List (Key × O0)) (k : Key) (v : O0) (h : (kvs.map (·.1)).Nodup) : ((putO kvs k v).map (·.1)).Nodup := by
  unfold putO
  split
  · rw [List.map_map]
    have : (fun kv : Key × O0 => kv.1) ∘ (fun kv => if kv.1 = k then (kv.1, v) else kv) = fun kv => kv.1 := by
      funext kv
      simp only [Function.comp]
      split <;> rfl
    rw [this]
    exact h
  · rename_i hn
    rw [List.map_append]
    refine nd_snoc h fun m => hn ?_
    obtain ⟨q, hq, e⟩ := List.mem_map.mp m
    exact List.any_eq_true.mpr ⟨q, hq, decide_eq_true e⟩
/-- x['k'] = v -/
def sPutR (i : Nat) (k : Str) (fv : FE) : FS := fun δ => (δ[i]?).bind fun s => (fv δ).bind fun v => match s with
  | .rcd kvs => if kvs.length < sizeLine then some (.nx (δ.set i (.rcd (putO kvs (.inr k) (.val v))))) else none
  | _ => none
theorem rcR_upd {K : PySem.W.Frag} {F H : Hp} {w : Addr → Option Lab} {vs : List (Key × V)} {ds : List (Key × O0)} {p : Addr} {o : HO} (hw : w p = some (i, none)) (r : RcR K cl F H w i vs ds) : RcR K cl F (upd H p o) w i vs ds :=
  pimp (fun _ _ t => ⟨t.1, t.2.other hw fun z => by cases z⟩) r
theorem pb_putR {nx v : Expr} {k : Str} {kj} (hu : X.A.units + 1 < cLine) (hv : PE X nx (tVar i)) (hw : PP cl X v fv) (hs : swapsWith v (some (.Subscript nx (.Constant (.str k) kj p2) pos')) pos.line X.env = pure false := by rfl) :
    PB1 cl X (.Assign [.Subscript nx (.Constant (.str k) kj p2) pos'] v pos) (sPutR i k fv) := fun pins s σ H D I h => by
  obtain ⟨B, F0, P, δ, o, hf, ⟨F, ω, sr⟩, out⟩ := h
  obtain ⟨sl, dv, hi, h2, hf⟩ := bind2 hf
  have hil : i < δ.length := (List.getElem?_eq_some_iff.mp hi).1
  have r0 := sr.er.at_ i sl hi
  split at hf
  · rename_i kvs
    split at hf
    · rename_i hl
      obtain rfl := Option.some.inj hf
      obtain ⟨p, ws, ev, hw0, hH, hn, r1⟩ := r0
      refine ps_dput hu hv pe_str hw hs pins s σ H D I ⟨δ, F, _, dv, h2, sr.er, fun v1 H1 F1 s1 s1' g1 q1 => ⟨.ref p, ev, ?_⟩⟩
      have sr1 := sr.step s1 s1' g1
      refine ⟨p, _, rfl, DPut.k (k := Sum.inr k) (s1 _ _ hH) (by rw [r1.length]; exact hl), out _ _ ⟨F1, ω, sr1.put (l := (i, none)) hw0 ⟨p, _, ev, hw0, upd_same, putO_keys _ _ _ hn, ?_⟩ hil⟩⟩
      exact rcR_put (rcR_upd hw0 (pimp (fun _ _ t => ⟨t.1, t.2.grow s1 g1.1⟩) r1)) (.inr k) (show O0R X.K cl F1 _ ω (i, some (Sum.inr k)) v1 (.val dv) from q1)
    · cases hf
  · cases hf
/-- x['k'] = {} -/
def sPutRN (i : Nat) (k : Str) : FS := fun δ => (δ[i]?).bind fun s => match s with
  | .rcd kvs => if kvs.length < sizeLine then some (.nx (δ.set i (.rcd (putO kvs (.inr k) (.dK []))))) else none
  | _ => none
theorem pb_putRN {nx : Expr} {k : Str} {kj} {p3 : Pos} (hu : X.A.units + 1 < cLine) (hv : PE X nx (tVar i)) (hs : swapsWith (.Dict [] [] p3) (some (.Subscript nx (.Constant (.str k) kj p2) pos')) pos.line X.env = pure false := by rfl) :
    PB1 cl X (.Assign [.Subscript nx (.Constant (.str k) kj p2) pos'] (.Dict [] [] p3) pos) (sPutRN i k) := fun pins s σ H D I h => by
  obtain ⟨B, F0, P, δ, o, hf, ⟨F, ω, sr⟩, out⟩ := h
  obtain ⟨sl, hi, hf⟩ := bind1 hf
  have hil : i < δ.length := (List.getElem?_eq_some_iff.mp hi).1
  split at hf
  · rename_i kvs
    split at hf
    · rename_i hl
      obtain rfl := Option.some.inj hf
      obtain ⟨p, ws, ev, hw0, hH, hn, r1⟩ := sr.er.at_ i _ hi
      refine ps_dput hu hv pe_str pe_dnewK hs pins s σ H D I fun z hz => ⟨.ref p, ev, ?_⟩
      have sr1 := sr.own (o := .dK []) (l := (i, some (Sum.inr k))) hz
      have keep : ∀ a l', ω a = some l' → updL ω z (i, some (Sum.inr k)) a = some l' := fun a l' e => by
        obtain ⟨_, o', h⟩ := sr.er.own a l' e
        rw [updL_ne (ne_of_none h hz)]
        exact e
      refine ⟨p, _, rfl, DPut.k (k := Sum.inr k) ((same_upd hz) _ _ hH) (by rw [r1.length]; exact hl), out _ _ ⟨F, _, sr1.put (l := (i, none)) (keep _ _ hw0) ⟨p, _, ev, keep _ _ hw0, upd_same, putO_keys _ _ _ hn, ?_⟩ hil⟩⟩
      have nzp : z ≠ p := fun q => by subst q; rw [hz] at hH; cases hH
      refine rcR_put (rcR_upd (keep _ _ hw0) (pimp (fun _ _ t => ⟨t.1, (t.2.lab keep).grow (same_upd hz) (Same.refl F)⟩) r1)) (.inr k) ?_
      exact ⟨z, [], rfl, updL_same, by rw [upd_ne nzp, upd_same], .nil⟩
    · cases hf
  · cases hf
/-- x['k'][e] = v -/
def sPutRR (i : Nat) (k : Str) (fk fv : FE) : FS := fun δ => (δ[i]?).bind fun s => (fk δ).bind fun y => (fv δ).bind fun v => match s with
  | .rcd kvs => (match lookO kvs (.inr k) with
    | some (.dK ds) => (keyD y).bind fun kk => if ds.length < sizeLine then some (.nx (δ.set i (.rcd (putO kvs (.inr k) (.dK (putD ds kk v)))))) else none
    | _ => none)
  | _ => none
theorem rcR_set {K : PySem.W.Frag} {F H : Hp} {w : Addr → Option Lab} {k : Key} {q : Addr} {o : HO} {x : O0} (hw : w q = some (i, some k)) (rx : O0R K cl F (upd H q o) w (i, some k) (.ref q) x) : ∀ {vs : List (Key × V)} {ds : List (Key × O0)},
    RcR K cl F H w i vs ds → valV vs k = some (.ref q) → (ds.map (·.1)).Nodup → RcR K cl F (upd H q o) w i vs (putO ds k x) := by
  intro vs ds r hv hn
  have hany : (ds.any fun kv => decide (kv.1 = k)) = true := by rw [← rcR_any r k, valV_any, hv]; rfl
  unfold putO
  rw [if_pos hany]
  clear hany
  induction r with
  | nil => exact .nil
  | @cons p y ps ys h t ih =>
    rw [List.map_cons] at hn ⊢
    obtain ⟨hn1, hn2⟩ := List.nodup_cons.mp hn
    by_cases e : p.1 = k
    · rw [valV_pos e] at hv
      have e' : y.1 = k := by rw [← h.1]; exact e
      have ep : p.2 = .ref q := Option.some.inj hv
      refine .cons ?_ ?_
      · rw [if_pos e']
        exact ⟨h.1, by rw [ep, e']; exact rx⟩
      · -- the rest has other keys
        have hno : ∀ z ∈ ys, z.1 ≠ k := fun z hz ez => hn1 (by rw [e', ← ez]; exact List.mem_map.mpr ⟨z, hz, rfl⟩)
        have em : ys.map (fun kv => if kv.1 = k then (kv.1, x) else kv) = ys := by
          have : ys.map (fun kv => if kv.1 = k then (kv.1, x) else kv) = ys.map fun kv => kv := List.map_congr_left fun z hz => if_neg (hno z hz)
          rw [this, List.map_id']
        rw [em]
        exact pimp2 (fun a b hb t => ⟨t.1, t.2.other hw fun z => hno b hb (by injection z with _ z; injection z)⟩) t
    · rw [valV_neg e] at hv
      have e' : ¬ y.1 = k := by rw [← h.1]; exact e
      rw [if_neg e']
      exact .cons ⟨h.1, h.2.other hw fun z => e' (by injection z with _ z; injection z)⟩ (ih hv hn2)
end
end MB

namespace MB
open PySem PySem.Spec PyProof.Rows L2
section
variable {cl : Nat → Addr} {X : Cx} {e a b c : Expr} {es : List Expr} {fa fb fc fk fv : FE} {fl : FA} {pos pos' p p2 p3 : Pos} {i j : Nat} {x y : Str}
theorem pb_putRR {nx ke v : Expr} {k : Str} {kj} (hu : X.A.units + 1 < cLine) (hv : PE X nx (tVar i)) (hk : PP cl X ke fk) (hw : PP cl X v fv) (hns : NoSl (.Constant (.str k) kj p2) := by intro _ _; rfl)
    (hs : swapsWith v (some (.Subscript (.Subscript nx (.Constant (.str k) kj p2) p3) ke pos')) pos.line X.env = pure false := by rfl) :
    PB1 cl X (.Assign [.Subscript (.Subscript nx (.Constant (.str k) kj p2) p3) ke pos'] v pos) (sPutRR i k fk fv) := fun pins s σ H D I h => by
  obtain ⟨B, F0, P, δ, o, hf, ⟨F, ω, sr⟩, out⟩ := h
  obtain ⟨sl, dk, dv, hi, h1, h2, hf⟩ := bind3 hf
  have hil : i < δ.length := (List.getElem?_eq_some_iff.mp hi).1
  split at hf
  · rename_i kvs
    split at hf
    · rename_i ds hlo
      obtain ⟨kk, hkk, hf⟩ := bind1 hf
      split at hf
      · rename_i hl
        obtain rfl := Option.some.inj hf
        obtain ⟨p, ws, ev, hw0, hH, hn, r1⟩ := sr.er.at_ i _ hi
        rcases rcd_look r1 (Sum.inr k) with ⟨_, n⟩ | ⟨v0, o0, e1, e2, q0⟩
        · rw [hlo] at n; cases n
        · rw [hlo] at e2
          cases e2
          obtain ⟨q, vs, rfl, hwq, hHq, rq⟩ := q0
          refine ps_dput hu (pe_dget hu hv pe_str hns) hk hw hs pins s σ H D I ⟨δ, F, _, dv, h2, sr.er, fun v1 H1 F1 s1 s1' g1 t1 => ⟨.ref p, ev, p, .ref q, rfl, e1 ▸ DGet.k (k := Sum.inr k) (s1 _ _ hH), δ, F1, _, dk, h1, sr.er.grow s1 s1' g1, fun v2 H2 F2 s2 s2' g2 t2 => ?_⟩⟩
          have sr2 := (sr.step s1 s1' g1).step s2 s2' g2
          have hH2 := s2 _ _ (s1 _ _ hH)
          have nqp : p ≠ q := fun z => by subst z; rw [hw0] at hwq; cases hwq
          rw [keyD_rep t2 hkk]
          refine ⟨q, _, rfl, DPut.k (s2 _ _ (s1 _ _ hHq)) (by rw [rq.length]; exact hl), out _ _ ⟨F2, ω, sr2.put (l := (i, some (Sum.inr k))) hwq ⟨p, ws, ev, hw0, by rw [upd_ne nqp]; exact hH2, putO_keys _ _ _ hn, ?_⟩ hil⟩⟩
          refine rcR_set hwq ?_ (pimp (fun _ _ t => ⟨t.1, (t.2.grow s1 g1.1).grow s2 g2.1⟩) r1) e1 hn
          exact ⟨q, _, rfl, hwq, upd_same, repK_put (RepK.mono g2.1 (RepK.mono g1.1 rq)) kk (t1.mono g2.1)⟩
      · cases hf
    · cases hf
  · cases hf
/-- a not in x['k'] -/
def eNInR (fa : FE) (i : Nat) (k : Str) : FE := fun δ => (δ[i]?).bind fun s => (fa δ).bind fun x => match s with
  | .rcd kvs => (match lookO kvs (.inr k) with
    | some (.dK ds) => (hasK ds x).bind fun r => some (.bl (!r))
    | some (.val d) => (hasD x d).bind fun r => some (.bl (!r))
    | _ => none)
  | .o (.val d) => (dIx d (.str k)).bind fun y => (hasD x y).bind fun r => some (.bl (!r))
  | _ => none
theorem pc_ninR {nx : Expr} {k : Str} {kj} (hu : X.A.units + 1 < cLine) (ha : PP cl X a fa) (hv : PE X nx (tVar i)) (hns : NoSl (.Constant (.str k) kj p2)) : PC X .NotIn a (.Subscript nx (.Constant (.str k) kj p2) p3) (tP X.K cl (eNInR fa i k)) := fun pins s σ H Q I h => by
  obtain ⟨δ, F, ω, d, hf, er, kp⟩ := h
  obtain ⟨sl, x, hi, hx, hf⟩ := bind2 hf
  split at hf
  · rename_i kvs
    obtain ⟨p, ws, ev, hw0, hH, hn, r1⟩ := er.at_ i _ hi
    split at hf
    · rename_i ds hlo
      obtain ⟨r, hr, hf⟩ := bind1 hf
      obtain rfl := Option.some.inj hf
      rcases rcd_look r1 (Sum.inr k) with ⟨_, n⟩ | ⟨v0, o0, e1, e2, q0⟩
      · rw [hlo] at n; cases n
      · rw [hlo] at e2
        cases e2
        obtain ⟨q, vs, rfl, hwq, hHq, rq⟩ := q0
        refine pc_dnotin hu ha (pe_dget hu hv pe_str hns) pins s σ H Q I ⟨δ, F, ω, x, hx, er, fun vx H1 F1 s1 s1' g1 rx => ⟨.ref p, ev, p, .ref q, rfl, e1 ▸ DGet.k (k := Sum.inr k) (s1 _ _ hH), ?_⟩⟩
        obtain ⟨o, g, eo⟩ := dget_rep (s1 _ _ hHq) (RepK.mono g1.1 rq) rx hr
        exact ⟨q, o, rfl, g, by rw [eo]; exact (kp.step s1 g1).here s1' (.bl _)⟩
    · rename_i d0 hlo
      obtain ⟨r, hr, hf⟩ := bind1 hf
      obtain rfl := Option.some.inj hf
      refine pc_nin hu ha (pp_ixN hu hv pp_str hns) pins s σ H Q I ⟨δ, F, ω, .bl (!r), ?_, er, kp⟩
      have hy : eIxN i (eC (.str k)) δ = some d0 := by
        unfold eIxN
        rw [hi]
        show slIx (.rcd kvs) (.str k) = some d0
        unfold slIx keyD
        simp only [Option.bind_some]
        rw [hlo]
      unfold e2 dNIn
      rw [hx, hy]
      simp only [Option.bind_some]
      rw [hr]
      rfl
    · cases hf
  · rename_i d0
    obtain ⟨y, hy0, hf⟩ := bind1 hf
    obtain ⟨r, hr, hf⟩ := bind1 hf
    obtain rfl := Option.some.inj hf
    refine pc_nin hu ha (pp_ixN hu hv pp_str hns) pins s σ H Q I ⟨δ, F, ω, .bl (!r), ?_, er, kp⟩
    have hy : eIxN i (eC (.str k)) δ = some y := by
      unfold eIxN
      rw [hi]
      exact hy0
    unfold e2 dNIn
    rw [hx, hy]
    simp only [Option.bind_some]
    rw [hr]
    rfl
  · cases hf
theorem ppt_ninR {nx : Expr} {k : Str} {kj} (hu : X.A.units + 1 < cLine) (ha : PP cl X a fa) (hv : PE X nx (tVar i)) (hns : NoSl (.Constant (.str k) kj p2) := by intro _ _; rfl) (hm : behindInMarks .NotIn (.Subscript nx (.Constant (.str k) kj p2) p3) = false := by with_unfolding_all rfl) :
    PPT cl X (.Compare a [.NotIn] [.Subscript nx (.Constant (.str k) kj p2) p3] pos) (b1 (eNInR fa i k)) := ppt_of hm (pc_ninR hu ha hv hns)
/-! the display {'k': v, .. } that makes a record -/
abbrev FR := Sto → Option (List (Key × O0))
structure RcS (K : PySem.W.Frag) (cl : Nat → Addr) (i : Nat) (B F0 P : Hp) (δ : Sto) (σ : St) (H F : Hp) (ω : Addr → Option Lab) (H' F' : Hp) (ω' : Addr → Option Lab) : Prop where
  sr : SR K cl B F0 P δ σ H' F' ω'
  sH : Same H H'
  sF : Same F F'
  sw : ∀ a l, ω a = some l → ω' a = some l
def tRc (K : PySem.W.Frag) (cl : Nat → Addr) (i : Nat) (f : FR) : St → Hp → (List (V × V) → Hp → Prop) → Prop := fun σ H Q => ∃ B F0 P δ F ω kos, f δ = some kos ∧ SR K cl B F0 P δ σ H F ω ∧
  ∀ ps H' F' ω', RcS K cl i B F0 P δ σ H F ω H' F' ω' → Paired (fun (x : V × V) (y : Key × O0) => x.1 = kV y.1 ∧ O0R K cl F' H' ω' (i, some y.1) x.2 y.2) ps kos → Q ps H'
def PRc (cl : Nat → Addr) (X : Cx) (i : Nat) (pos : Pos) (keys : List (Option Expr)) (values : List Expr) (f : FR) : Prop := ∃ trs, PPs X pos keys values trs ∧ ∀ σ H Q, tRc X.K cl i f σ H Q → tPairs trs σ H Q
def rcN : FR := fun _ => some []
def rcV (k : Str) (fv : FE) (f : FR) : FR := fun δ => (fv δ).bind fun v => (f δ).bind fun r => some ((Sum.inr k, .val v) :: r)
def rcE (k : Str) (f : FR) : FR := fun δ => (f δ).bind fun r => some ((Sum.inr k, .dK []) :: r)
variable {keys : List (Option Expr)} {values : List Expr} {f : FR}
theorem rc_nil : PRc cl X i pos [] [] rcN := ⟨[], pps_nil, fun σ H Q h => by
  obtain ⟨B, F0, P, δ, F, ω, kos, hf, sr, k⟩ := h
  obtain rfl := Option.some.inj hf
  exact k [] H F ω ⟨sr, Same.refl _, Same.refl _, fun _ _ e => e⟩ .nil⟩
theorem rc_val {v : Expr} {k : Str} {kj} (hv : PP cl X v fv) (hr : PRc cl X i pos keys values f) : PRc cl X i pos (some (.Constant (.str k) kj p2) :: keys) (v :: values) (rcV k fv f) := by
  obtain ⟨trs, h1, h2⟩ := hr
  refine ⟨_, pps_cons pe_str hv h1, fun σ H Q h => ?_⟩
  obtain ⟨B, F0, P, δ, F, ω, kos, hf, sr, kk⟩ := h
  obtain ⟨dv, r, e1, e2, hf⟩ := bind2 hf
  obtain rfl := Option.some.inj hf
  refine ⟨δ, F, _, dv, e1, sr.er, fun v1 H1 F1 s1 s1' g1 q1 => h2 σ H1 _ ⟨B, F0, P, δ, F1, ω, r, e2, sr.step s1 s1' g1, fun ps H2 F2 ω2 S pr => ?_⟩⟩
  exact kk _ H2 F2 ω2 ⟨S.sr, s1.trans S.sH, g1.1.trans S.sF, S.sw⟩ (.cons ⟨rfl, (show Rep X.K cl F2 v1 dv from q1.mono S.sF)⟩ pr)
theorem rc_new {k : Str} {kj} (hr : PRc cl X i pos keys values f) : PRc cl X i pos (some (.Constant (.str k) kj p2) :: keys) (.Dict [] [] p3 :: values) (rcE k f) := by
  obtain ⟨trs, h1, h2⟩ := hr
  refine ⟨_, pps_cons pe_str pe_dnewK h1, fun σ H Q h => ?_⟩
  obtain ⟨B, F0, P, δ, F, ω, kos, hf, sr, kk⟩ := h
  obtain ⟨r, e2, hf⟩ := bind1 hf
  obtain rfl := Option.some.inj hf
  intro z hz
  have keep : ∀ a l', ω a = some l' → updL ω z (i, some (Sum.inr k)) a = some l' := fun a l' e => by
    obtain ⟨_, o', h⟩ := sr.er.own a l' e
    rw [updL_ne (ne_of_none h hz)]
    exact e
  refine h2 σ _ _ ⟨B, F0, P, δ, F, _, r, e2, sr.own (o := .dK []) (l := (i, some (Sum.inr k))) hz, fun ps H2 F2 ω2 S pr => ?_⟩
  exact kk _ H2 F2 ω2 ⟨S.sr, (same_upd hz).trans S.sH, S.sF, fun a l e => S.sw a l (keep a l e)⟩ (.cons ⟨rfl, (show O0R X.K cl F2 H2 ω2 (i, some (Sum.inr k)) (.ref z) (.dK []) from ⟨z, [], rfl, S.sw _ _ updL_same, S.sH _ _ upd_same, .nil⟩)⟩ pr)
def sRcd (i : Nat) (f : FR) : FS := fun δ => (f δ).bind fun kos => if (kos.map (·.1)).Nodup ∧ kos.length ≤ 15 then some (.nx (δ.set i (.rcd kos))) else none
theorem mergeK_nd : ∀ (more kvs : List (Key × V)), ((kvs ++ more).map (·.1)).Nodup → mergeK kvs more = kvs ++ more
  | [], kvs, _ => by simp [mergeK]
  | q :: r, kvs, h => by
    have hnone : valV kvs q.1 = none := by
      cases e : valV kvs q.1 with
      | none => rfl
      | some v =>
        have m := valV_in e
        rw [List.map_append, List.map_cons] at h
        exact absurd rfl ((List.nodup_append.mp h).2.2 q.1 m q.1 List.mem_cons_self)
    have e1 : mergeK kvs (q :: r) = mergeK (putK kvs q.1 q.2) r := rfl
    rw [e1, putK_new _ hnone, mergeK_nd r (kvs ++ [(q.1, q.2)]) (by rw [List.append_assoc]; exact h), List.append_assoc]
    rfl
theorem rc_kvs {K : PySem.W.Frag} {F H : Hp} {w : Addr → Option Lab} : ∀ {ps : List (V × V)} {kos : List (Key × O0)}, Paired (fun (x : V × V) (y : Key × O0) => x.1 = kV y.1 ∧ O0R K cl F H w (i, some y.1) x.2 y.2) ps kos →
    ∃ kvs : List (Key × V), ps = kvs.map (fun kv => (kV kv.1, kv.2)) ∧ kvs.map (·.1) = kos.map (·.1) ∧ RcR K cl F H w i kvs kos
  | _, _, .nil => ⟨[], rfl, rfl, .nil⟩
  | _, _, .cons (a := pq) (b := y) h t => by
    obtain ⟨kvs, e1, e2, r⟩ := rc_kvs t
    refine ⟨(y.1, pq.2) :: kvs, ?_, by rw [List.map_cons, List.map_cons, e2], .cons ⟨rfl, h.2⟩ r⟩
    rw [List.map_cons, e1, ← h.1]
theorem pb_rcd (hN : X.N.Nodup) (hi : X.N[i]? = some x) (hx : Loc X.env.scope x) (hr : PRc cl X i p2 keys values f) (hall : keys.all (·.isSome) = true) (hl : keys.length = values.length) (h0 : keys ≠ []) (h15 : keys.length ≤ 15)
    (hs : swapsWith (.Dict keys values p2) (some (.Name x pos')) pos.line X.env = pure false := by rfl)
    (hf : X.fn x = true ∨ X.env.scope.names.lookup x = some .local := by first | exact .inl rfl | exact .inr rfl | assumption) : PB1 cl X (.Assign [.Name x pos'] (.Dict keys values p2) pos) (sRcd i f) := fun pins s σ H D I h => by
  obtain ⟨B, F0, P, δ, o, hw, ⟨F, ω, sr⟩, out⟩ := h
  obtain ⟨kos, hk, hw⟩ := bind1 hw
  split at hw
  · rename_i c
    obtain rfl := Option.some.inj hw
    obtain ⟨trs, h1, h2⟩ := hr
    refine ps_set hN hi hx (pe_disp h1 hall hl h0 h15) hs hf pins s σ H D I fun z hz => h2 σ _ _ ⟨B, F0, P, δ, F, updL ω z (i, none), kos, hk, sr.own (o := .dK []) (l := (i, none)) hz, fun ps H2 F2 ω2 S pr => ?_⟩
    have hz2 : H2 z = some (.dK []) := S.sH _ _ upd_same
    have hwz : ω2 z = some (i, none) := S.sw _ _ updL_same
    obtain ⟨kvs, e1, e2, r⟩ := rc_kvs pr
    have hl2 : kvs.length = kos.length := by simpa using congrArg List.length e2
    refine ⟨hz2, kvs, e1, by rw [hl2]; exact c.2, out _ _ ⟨F2, ω2, ?_⟩⟩
    have em : mergeK [] kvs = kvs := by
      have := mergeK_nd kvs [] (by rw [List.nil_append, e2]; exact c.1)
      rw [this, List.nil_append]
    rw [em]
    have np : ∀ b ob, F2 b = some ob → b ≠ z := fun b ob e q => by subst q; rw [(S.sr.er.own b _ hwz).1] at e; cases e
    have nb : ∀ b ob, B b = some ob → b ≠ z := fun b ob e q => by subst q; rw [S.sr.fresh b _ hwz] at e; cases e
    -- the record's own dict is written, then the name is set
    have er' : ER X.K cl F2 (upd H2 z (.dK kvs)) ⟨ω2, fun i => i⟩ (σ.set i (some (.ref z))) (δ.set i (.rcd kos)) := by
      refine ⟨fun b ob e => by rw [upd_ne (np b ob e)]; exact S.sr.er.sub b ob e, fun a l' e => ?_, by rw [List.length_set, List.length_set]; exact S.sr.er.len, fun j t ht => ?_⟩
      · obtain ⟨q1, o', q2⟩ := S.sr.er.own a l' e
        by_cases ha : a = z
        · subst ha; exact ⟨q1, _, upd_same⟩
        · exact ⟨q1, o', by rw [upd_ne ha]; exact q2⟩
      · by_cases hj : i = j
        · subst hj
          by_cases hil : i < δ.length
          · rw [List.getElem?_set_self hil] at ht
            cases ht
            rw [List.getElem?_set_self (by rw [S.sr.er.len]; exact hil)]
            exact ⟨z, kvs, rfl, hwz, upd_same, c.1, rcR_upd hwz r⟩
          · rw [List.getElem?_eq_none (by rw [List.length_set]; omega)] at ht
            cases ht
        · rw [List.getElem?_set_ne hj] at ht ⊢
          exact (S.sr.er.at_ j t ht).other hwz fun q => hj q.symm
    exact ⟨er', fun b ob e => by rw [upd_ne (nb b ob e)]; exact S.sr.base b ob e, S.sr.grow, S.sr.pin, S.sr.fresh⟩
  · cases hw
end
end MB

namespace MB
open PySem PySem.Spec PyProof.Rows L2
/-! ### an iterator that makes a tuple at each turn -/
section
variable {X : Cx} {pins : List (Addr × Obj)} {σ : St} {H : Hp} {s : Shared} {h' : Heap} {fp : List Addr} {o : HO}
theorem Inv.turnNew {t' : Nat} (I : L2.Inv X pins σ H s) (hf : ∀ b ∈ fp, FpOk X pins H b) (k : ∀ b ob, b ∉ fp → s.heap.get? b = some ob → h'.get? b = some ob) (hlt : ∀ b ∈ fp, b < s.heap.objs.size)
    (new : ObjOk X.prog X.w (upd H s.heap.objs.size o) h' s.heap.objs.size o) : L2.Inv X pins σ (upd H s.heap.objs.size o) { s with heap := h', toks := t' } := by
  have hn : H s.heap.objs.size = none := I.hok.fresh (Nat.le_refl _)
  have old : ∀ b ob, s.heap.get? b = some ob → b ≠ s.heap.objs.size := fun b ob e => Nat.ne_of_lt (Heap.lt_size e)
  have tr : ∀ b u, H b = some u → b ∉ fp := fun b u e m => by rw [(hf b m).1] at e; cases e
  refine I.step (g' := s.gens) (d' := s.drawn) (ch := fp) (fun b hb => ⟨(hf b hb).2.2.2.1, (hf b hb).2.1, (hf b hb).2.2.2.2.1, (hf b hb).2.2.2.2.2⟩) (fun b ob _ _ hc e _ => k b ob hc e) (fun b ob _ _ hc e _ => ⟨ob.slots, k b ob hc e⟩)
    (fun b ob _ e n => by rw [upd_ne (old b ob e)]; exact n) (fun b ob hc e => ⟨ob, k b ob hc e⟩) (fun b xs e => by rw [upd_ne (ne_of_none e hn)]; exact e) (fun b ob u e => by rw [upd_ne (ne_of_none e hn)]; exact e)
    (fun b ps e => ⟨#[], by rw [upd_ne (ne_of_none e hn), e]; simp⟩) (fun m hm => ?_) (fun b u e => ?_) I.bare
  · obtain ⟨ob, es, ep, ho, r⟩ := hm
    exact ⟨ob, es, ep, k _ ob (fun m => (hf _ m).2.1 rfl) ho, r⟩
  · by_cases hb : b = s.heap.objs.size
    · subst hb; rw [upd_same] at e; cases e; exact new
    · rw [upd_ne hb] at e
      refine (I.hok b u e).stay (fun c v hc q => k c v ?_ q) (fun c q => by rw [upd_ne (ne_of_none q hn)]; exact q) fun c xs q => by rw [upd_ne (ne_of_none q hn)]; exact q
      rcases hc with z | z
      · rw [z]; exact tr b u e
      · exact tr c _ z
end
/-- enumerate(list) -/
def Iten (K : PySem.W.Frag) (a : Addr) : It :=
  ⟨fun i H => ∃ xs x, SqL K H a xs ∧ xs[i]? = some x, fun i H x H' => ∃ p v, x = .ref p ∧ H p = none ∧ H' = upd H p (.tup [.int (i : Nat), v]) ∧ ∀ xs, SqL K H a xs → xs[i]? = some v, fun i H => ∃ xs, SqL K H a xs ∧ xs.length ≤ i⟩
theorem turn_enum {P : Program} {w : World} {K : PySem.W.Frag} {elts : List Expr} {x1 : Nat} {tp : Pos} (a it e : Addr) (hne : e ≠ it) : Turn P w K (.Tuple elts x1 tp) (Iten K a) [e, it] e (fun i h => (∃ old, IsEnum h e it (i : Nat) old) ∧ h.IsListIter it a i) where
  mem := by simp
  obj := fun i h st b hb => by
    obtain ⟨⟨old, h1⟩, o, h2, h3, h4⟩ := st
    rcases List.mem_cons.mp hb with rfl | hb
    · exact ⟨_, h1, fun v z => by cases z⟩
    · rw [List.mem_singleton.mp hb]
      exact ⟨o, h2, fun v z => by rw [h4] at z; cases z⟩
  keep := fun i h h' st k => ⟨let ⟨old, h1⟩ := st.1; ⟨old, k e (by simp) _ h1⟩, st.2.at fun o q => k it (by simp) o q⟩
  item := by
    intro X hP hw hK hc i pins s σ H E I hf st hg
    subst hP hw hK
    obtain ⟨xs, x, hq, hx⟩ := hg
    obtain ⟨its, rv, p, hz⟩ := I.list hq
    obtain ⟨u, hu, ru⟩ := rv.get hx
    obtain ⟨⟨old, he⟩, hit⟩ := st
    refine wpAny_pyNext_enum_item he hit p.isList (x := u) (by simpa using hu) hne fun h1 a1 a2 a3 a4 a5 => ⟨_, rfl, wpAny_letOwnedTupleGo_enum a1 fun h2 b1 b2 => ?_⟩
    have hlt : ∀ b ∈ [e, it], b < s.heap.objs.size := fun b hb => by
      rcases List.mem_cons.mp hb with rfl | hb
      · exact Heap.lt_size he
      · rw [List.mem_singleton.mp hb]; obtain ⟨o, h2, _⟩ := hit; exact Heap.lt_size h2
    have hes : e ≠ s.heap.objs.size := Nat.ne_of_lt (hlt e (by simp))
    have k : ∀ b ob, b ∉ [e, it] → s.heap.get? b = some ob → h2.get? b = some ob := fun b ob hb q => by
      have n1 : b ≠ e := fun z => hb (by simp [z])
      have n2 : b ≠ it := fun z => hb (by simp [z])
      exact (b2.2 b n1).trans (a5 b ob n1 n2 q)
    have tup : h2.get? s.heap.objs.size = some { cls := .type "tuple", data := .seq #[.int (i : Nat) s.toks, u] } := (b2.2 _ (Ne.symm hes)).trans a3
    have new : ObjOk X.prog X.w (upd H s.heap.objs.size (.tup [.int (i : Nat), x])) h2 s.heap.objs.size (.tup [.int (i : Nat), x]) :=
      ⟨by show 2 ≤ sizeLine; decide, [.int (i : Nat) s.toks, u], .cons ⟨_, rfl⟩ (.cons ru .nil), _, tup, rfl, _, rfl⟩
    refine ⟨.ref s.heap.objs.size, _, Inv.turnNew (s := s) (t' := s.toks + 1) I hf k hlt new, rfl, ⟨s.heap.objs.size, x, rfl, I.hok.fresh (Nat.le_refl _), rfl, fun ys hy => by rw [I.list_inj hy hq]; exact hx⟩, ⟨⟨_, b1⟩, a2.at fun o q => (b2.2 it (Ne.symm hne)).trans q⟩, fun b hb => ?_⟩
    rw [upd_ne (Nat.ne_of_lt (hlt b hb))]
    exact (hf b hb).1
  done := by
    intro X hP hw hK hc i pins s σ H E I hf st hg
    subst hP hw hK
    obtain ⟨xs, hq, hx⟩ := hg
    obtain ⟨its, rv, p, hz⟩ := I.list hq
    obtain ⟨f0, f1, f2, f3, f4, f5⟩ := hf it (by simp)
    obtain ⟨⟨old, he⟩, hit⟩ := st
    have hl := rv.length
    exact wpAny_pyNext_enum_end (I.ok.hd hc) he hit p.isList (by simp; omega) fun h' eb => ⟨rfl, I.turned (t' := s.toks) (fun b o hb e => eb b o hb e) f0 f1 f3 f4 f5⟩
  self := fun _ _ _ _ _ st h => let ⟨old, h1⟩ := st.1; wpAny_pyIter_enum h1 h
section
variable {cl : Nat → Addr} {X : Cx} {l l2 : Expr} {fe fe2 : FE} {pos p tp : Pos} {elts : List Expr} {x1 : Nat}
def enumD (xs : List Dat) : List Dat := xs.zipIdx.map fun q => Dat.tup [.int (q.2 : Nat), q.1]
def iEnum (fe : FE) : FA := fun δ => match fe δ with | some (.lst xs) => some (enumD xs) | _ => none
theorem enumD_get {xs : List Dat} {i : Nat} {d : Dat} (h : (enumD xs)[i]? = some d) : ∃ x, xs[i]? = some x ∧ d = .tup [.int (i : Nat), x] := by
  unfold enumD at h
  rw [List.getElem?_map, List.getElem?_zipIdx] at h
  cases e : xs[i]? with
  | none => rw [e] at h; cases h
  | some x => rw [e] at h; simp at h; exact ⟨x, rfl, h.symm⟩
theorem walk_enum {K : PySem.W.Frag} {F : Hp} {a : Addr} {vs : List V} {ds : List Dat} (h : SqL K F a vs) (r : RepL K cl F vs ds) : Walk K cl F (Iten K a) (enumD ds) where
  go := fun i H s hi => ⟨vs, _, s.seq h, List.getElem?_eq_getElem (by rw [r.length]; simpa [enumD] using hi)⟩
  stop := fun i H s hi => ⟨vs, s.seq h, by rw [r.length]; simpa [enumD] using hi⟩
  yld := fun i H Fc x H' d s1 s2 hd y => by
    obtain ⟨p, v, rfl, hp, rfl, y⟩ := y
    obtain ⟨d0, e0, rfl⟩ := enumD_get hd
    have hFp : Fc p = none := none_of s2 hp
    refine ⟨upd Fc p (.tup [.int (i : Nat), v]), same_upd hp, same_upd2 s2, Grow.new s2 hp, .tup' upd_same (.cons (.int _) (.cons ?_ .nil))⟩
    exact ((pget i r (y vs ((s1.trans s2).seq h)) e0).mono s1).mono (same_upd hFp)
theorem ppi_enum (hg : Gl X "enumerate") (hm : X.mg "enumerate" = none) (hl : PP cl X l fe) (hs : starEach [l] X.env = [(false, eval l X.env)] := by rfl) : PPI cl X (.Tuple elts x1 tp) (.Call (.Name "enumerate" p) [l] [] pos) (iEnum fe) := fun pins s σ H R I h => by
  obtain ⟨δ, F, ω, ds, hf, er, k⟩ := h
  unfold iEnum at hf
  split at hf
  · rename_i xs e
    cases hf
    refine Call_ (ld_blt I hg hm (show bootBuiltins "enumerate" = some (.type "enumerate") by decide +kernel) (PyProof.Rows.callWith_type1 (thn (pa_cons hl pa_nil hs pos pins s σ H (fun vs H1 => ∃ v F1, vs = [v] ∧ Same H H1 ∧ Same F1 H1 ∧ Grow F H F1 ∧ Rep X.K cl F1 v (.lst xs)) I ⟨δ, F, ω, _, e, er, fun v H1 F1 a b c d => ⟨v, F1, rfl, a, b, c, d⟩⟩) fun us s1 ⟨vs, H1, I1, r1, v, F1, ev, s1', s2', g1, rv⟩ => ?_) hs rfl))
    subst ev
    cases r1 with
    | cons r rr =>
      cases rr
      obtain ⟨a, ws, rfl, q, t⟩ := rv.lst_inv
      cases r
      obtain ⟨its, rv', pl, hz⟩ := I1.list (s2'.seq q)
      refine call_enumerate_list pl.isList fun h2 b1 b2 b3 b4 => wpAny_pyIter_enum b1 ?_
      have I2 : L2.Inv X pins σ H1 { s1 with heap := h2 } := I1.kept (t' := s1.toks) b4
      have fr : ∀ b ∈ [s1.heap.objs.size + 1, s1.heap.objs.size], FpOk X pins H1 b := fun b hb => by
        rcases List.mem_cons.mp hb with rfl | hb
        · exact I1.fpOk (Nat.le_succ _) (I1.hok.fresh (Nat.le_succ _))
        · rw [List.mem_singleton.mp hb]; exact I1.fpOk (Nat.le_refl _) (I1.hok.fresh (Nat.le_refl _))
      exact ⟨s1.heap.objs.size + 1, [s1.heap.objs.size + 1, s1.heap.objs.size], _, _, H1, rfl, I2, turn_enum a _ _ (Nat.succ_ne_self _), ⟨⟨_, b1⟩, b2⟩, fr, k _ H1 F1 s1' s2' g1 (walk_enum q t)⟩
  · cases hf
end
theorem zip_apart (n : Nat) (l1 l2 : Addr) (n1 : l1 ≠ (n + 4 : Nat)) (n2 : l1 ≠ (n + 3 : Nat)) (n3 : l1 ≠ n) (n4 : l1 ≠ (n + 1 : Nat)) (n5 : l2 ≠ (n + 4 : Nat)) (n6 : l2 ≠ (n + 3 : Nat)) (n7 : l2 ≠ n) (n8 : l2 ≠ (n + 1 : Nat)) : ZipApart (n + 4 : Nat) (n + 2 : Nat) (n + 3 : Nat) n (n + 1 : Nat) l1 l2 :=
  ⟨(show ¬ n + 2 = n + 4 by omega), (show ¬ n + 3 = n + 4 by omega), (show ¬ n = n + 4 by omega), (show ¬ n + 1 = n + 4 by omega), (show ¬ n + 2 = n + 3 by omega), (show ¬ n + 2 = n by omega), (show ¬ n + 2 = n + 1 by omega), (show ¬ n + 3 = n by omega), (show ¬ n + 3 = n + 1 by omega), (show ¬ n = n + 1 by omega), n1, n2, n3, n4, n5, n6, n7, n8⟩
/-- zip(list, list) -/
def Itz (K : PySem.W.Frag) (a b : Addr) : It :=
  ⟨fun i H => ∃ xs ys x y, SqL K H a xs ∧ SqL K H b ys ∧ xs[i]? = some x ∧ ys[i]? = some y, fun i H x H' => ∃ p v u, x = .ref p ∧ H p = none ∧ H' = upd H p (.tup [v, u]) ∧ ∀ xs ys, SqL K H a xs → SqL K H b ys → xs[i]? = some v ∧ ys[i]? = some u,
    fun i H => ∃ xs ys, SqL K H a xs ∧ SqL K H b ys ∧ (xs.length ≤ i ∨ ys.length ≤ i)⟩
theorem turn_zip {P : Program} {w : World} {K : PySem.W.Frag} {elts : List Expr} {x1 : Nat} {tp : Pos} (a b z TI TO i1 i2 : Addr) (D : ∀ l1 l2, l1 ≠ z → l1 ≠ TO → l1 ≠ i1 → l1 ≠ i2 → l2 ≠ z → l2 ≠ TO → l2 ≠ i1 → l2 ≠ i2 → ZipApart z TI TO i1 i2 l1 l2) :
    Turn P w K (.Tuple elts x1 tp) (Itz K a b) [z, TI, TO, i1, i2] z (fun i h => IsZip h z TI TO .none ∧ IsPair h TI (.ref i1) (.ref i2) ∧ (∃ c d, IsPair h TO c d) ∧ h.IsListIter i1 a i ∧ h.IsListIter i2 b i) where
  mem := by simp
  obj := fun i h st q hb => by
    obtain ⟨h1, h2, ⟨c, d, h3⟩, ⟨o4, h4, _, h4'⟩, ⟨o5, h5, _, h5'⟩⟩ := st
    simp only [List.mem_cons, List.not_mem_nil, or_false] at hb
    rcases hb with rfl | rfl | rfl | rfl | rfl
    · exact ⟨_, h1, fun v z => by cases z⟩
    · exact ⟨_, h2, fun v z => by cases z⟩
    · exact ⟨_, h3, fun v z => by cases z⟩
    · exact ⟨o4, h4, fun v z => by rw [h4'] at z; cases z⟩
    · exact ⟨o5, h5, fun v z => by rw [h5'] at z; cases z⟩
  keep := fun i h h' st k => by
    obtain ⟨h1, h2, ⟨c, d, h3⟩, h4, h5⟩ := st
    exact ⟨k z (by simp) _ h1, k TI (by simp) _ h2, ⟨c, d, k TO (by simp) _ h3⟩, h4.at fun o q => k i1 (by simp) o q, h5.at fun o q => k i2 (by simp) o q⟩
  item := by
    intro X hP hw hK hc i pins s σ H E I hf st hg
    subst hP hw hK
    obtain ⟨xs, ys, x, y, hq, hq', hx, hy⟩ := hg
    obtain ⟨its, rv, p, hz⟩ := I.list hq
    obtain ⟨its', rv', p', hz'⟩ := I.list hq'
    obtain ⟨u, hu, ru⟩ := rv.get hx
    obtain ⟨u', hu', ru'⟩ := rv'.get hy
    obtain ⟨h1, h2, ⟨c, d, h3⟩, h4, h5⟩ := st
    have ap : ∀ q ob, (SqL X.K H q ob) → ∀ f ∈ [z, TI, TO, i1, i2], q ≠ f := fun q ob hq f hm e => by
      subst e
      obtain ⟨n0, n1, n2, n3, n4, n5⟩ := hf q hm
      rcases hq with (h | ⟨o, h⟩) | ⟨o, its, n, hk, _⟩
      · rw [n0] at h; cases h
      · rw [n0] at h; cases h
      · have hb := I.mod.kin q o hk
        rcases n3 with m | m
        · exact I.ok.noex q o hb m
        · exact absurd (Nat.lt_of_lt_of_le (Heap.lt_size hb) (Nat.le_trans I.ok.bsz m)) (Nat.lt_irrefl _)
    have DD := D a b (ap a xs hq z (by simp)) (ap a xs hq TO (by simp)) (ap a xs hq i1 (by simp)) (ap a xs hq i2 (by simp)) (ap b ys hq' z (by simp)) (ap b ys hq' TO (by simp)) (ap b ys hq' i1 (by simp)) (ap b ys hq' i2 (by simp))
    have hlt : ∀ q ∈ [z, TI, TO, i1, i2], q < s.heap.objs.size := fun q hb => by
      simp only [List.mem_cons, List.not_mem_nil, or_false] at hb
      rcases hb with rfl | rfl | rfl | rfl | rfl
      · exact Heap.lt_size h1
      · exact Heap.lt_size h2
      · exact Heap.lt_size h3
      · obtain ⟨o, e, _⟩ := h4; exact Heap.lt_size e
      · obtain ⟨o, e, _⟩ := h5; exact Heap.lt_size e
    refine wpAny_pyNext_zip_item DD h1 h2 h3 h4 h5 p.isList p'.isList (x := u) (y := u') (by simpa using hu) (by simpa using hu') fun g1 a1 a2 a3 a4 a5 a6 a7 => ⟨_, rfl, wpAny_letOwnedTupleGo_zip a1 fun g2 b1 b2 => ?_⟩
    have hzs : z ≠ s.heap.objs.size := Nat.ne_of_lt (hlt z (by simp))
    have k : ∀ q ob, q ∉ [z, TI, TO, i1, i2] → s.heap.get? q = some ob → g2.get? q = some ob := fun q ob hb e => by
      have n1 : q ≠ z := fun y => hb (by simp [y])
      have n2 : q ≠ TO := fun y => hb (by simp [y])
      have n3 : q ≠ i1 := fun y => hb (by simp [y])
      have n4 : q ≠ i2 := fun y => hb (by simp [y])
      exact (b2.2 q n1).trans (a7 q ob n1 n2 n3 n4 e)
    have tup : g2.get? s.heap.objs.size = some { cls := .type "tuple", data := .seq #[u, u'] } := (b2.2 _ (Ne.symm hzs)).trans a5
    have new : ObjOk X.prog X.w (upd H s.heap.objs.size (.tup [x, y])) g2 s.heap.objs.size (.tup [x, y]) := ⟨by show 2 ≤ sizeLine; decide, [u, u'], .cons ru (.cons ru' .nil), _, tup, rfl, _, rfl⟩
    refine ⟨.ref s.heap.objs.size, _, Inv.turnNew (s := s) (t' := s.toks) I hf k hlt new, rfl, ⟨s.heap.objs.size, x, y, rfl, I.hok.fresh (Nat.le_refl _), rfl, fun vs ws hv hw => ⟨by rw [I.list_inj hv hq]; exact hx, by rw [I.list_inj hw hq']; exact hy⟩⟩, ⟨b1, ?_, ⟨_, _, (b2.2 TO DD.TOz).trans a2⟩, a3.at fun o q => (b2.2 i1 DD.i1z).trans q, a4.at fun o q => (b2.2 i2 DD.i2z).trans q⟩, fun q hb => ?_⟩
    · exact (b2.2 TI DD.TIz).trans (a7 TI _ DD.TIz DD.TITO DD.TIi1 DD.TIi2 h2)
    · rw [upd_ne (Nat.ne_of_lt (hlt q hb))]
      exact (hf q hb).1
  done := by
    intro X hP hw hK hc i pins s σ H E I hf st hg
    subst hP hw hK
    obtain ⟨xs, ys, hq, hq', hx⟩ := hg
    obtain ⟨its, rv, p, hz⟩ := I.list hq
    obtain ⟨its', rv', p', hz'⟩ := I.list hq'
    obtain ⟨h1, h2, ⟨c, d, h3⟩, h4, h5⟩ := st
    have ap : ∀ q ob, (SqL X.K H q ob) → ∀ f ∈ [z, TI, TO, i1, i2], q ≠ f := fun q ob hq f hm e => by
      subst e
      obtain ⟨n0, n1, n2, n3, n4, n5⟩ := hf q hm
      rcases hq with (h | ⟨o, h⟩) | ⟨o, its, n, hk, _⟩
      · rw [n0] at h; cases h
      · rw [n0] at h; cases h
      · have hb := I.mod.kin q o hk
        rcases n3 with m | m
        · exact I.ok.noex q o hb m
        · exact absurd (Nat.lt_of_lt_of_le (Heap.lt_size hb) (Nat.le_trans I.ok.bsz m)) (Nat.lt_irrefl _)
    have DD := D a b (ap a xs hq z (by simp)) (ap a xs hq TO (by simp)) (ap a xs hq i1 (by simp)) (ap a xs hq i2 (by simp)) (ap b ys hq' z (by simp)) (ap b ys hq' TO (by simp)) (ap b ys hq' i1 (by simp)) (ap b ys hq' i2 (by simp))
    have hl := rv.length
    have hl' := rv'.length
    refine wpAny_pyNext_zip_end (I.ok.hd hc) DD h1 h2 h3 h4 h5 p.isList p'.isList ?_ fun g1 kk => ⟨rfl, ?_⟩
    · rcases hx with hx | hx
      · exact .inl (by simp; omega)
      · exact .inr (by simp; omega)
    · refine I.step (g' := s.gens) (d' := s.drawn) (ch := [z, TI, TO, i1, i2]) (fun q hb => ⟨(hf q hb).2.2.2.1, (hf q hb).2.1, (hf q hb).2.2.2.2.1, (hf q hb).2.2.2.2.2⟩) (fun q ob _ _ hc e _ => ?_) (fun q ob _ _ hc e _ => ⟨ob.slots, ?_⟩) (fun _ _ _ _ n => n) (fun q ob hc e => ⟨ob, ?_⟩) (fun _ _ e => e) (fun _ _ _ e => e) (fun q ps e => ⟨#[], by rw [e]; simp⟩) (fun m hm => ?_) (fun q u e => ?_) I.bare
      · exact kk q ob (fun y => hc (by simp [y])) (fun y => hc (by simp [y])) (fun y => hc (by simp [y])) (fun y => hc (by simp [y])) e
      · exact kk q ob (fun y => hc (by simp [y])) (fun y => hc (by simp [y])) (fun y => hc (by simp [y])) (fun y => hc (by simp [y])) e
      · exact kk q ob (fun y => hc (by simp [y])) (fun y => hc (by simp [y])) (fun y => hc (by simp [y])) (fun y => hc (by simp [y])) e
      · obtain ⟨ob, es, ep, ho, r⟩ := hm
        exact ⟨ob, es, ep, kk _ ob (fun y => (hf z (by simp)).2.1 y.symm) (fun y => (hf TO (by simp)).2.1 y.symm) (fun y => (hf i1 (by simp)).2.1 y.symm) (fun y => (hf i2 (by simp)).2.1 y.symm) ho, r⟩
      · have tr : ∀ b u, H b = some u → ∀ f ∈ [z, TI, TO, i1, i2], b ≠ f := fun b u e f m y => by subst y; rw [(hf b m).1] at e; cases e
        refine (I.hok q u e).stay (fun c v hc r => kk c v ?_ ?_ ?_ ?_ r) (fun _ r => r) fun _ _ r => r
        all_goals (rcases hc with y | y <;> first | (rw [y]; exact tr q u e _ (by simp)) | exact tr c _ y _ (by simp))
  self := fun _ _ _ _ _ st h => wpAny_pyIter_zip st.1 h
section
variable {cl : Nat → Addr} {X : Cx} {l l2 : Expr} {fe fe2 : FE} {pos p tp : Pos} {elts : List Expr} {x1 : Nat}
def zipD (xs ys : List Dat) : List Dat := (xs.zip ys).map fun q => Dat.tup [q.1, q.2]
def iZip (fe fe2 : FE) : FA := fun δ => match fe δ, fe2 δ with | some (.lst xs), some (.lst ys) => some (zipD xs ys) | _, _ => none
theorem zipD_get {xs ys : List Dat} {i : Nat} {d : Dat} (h : (zipD xs ys)[i]? = some d) : ∃ x y, xs[i]? = some x ∧ ys[i]? = some y ∧ d = .tup [x, y] := by
  unfold zipD at h
  rw [List.getElem?_map] at h
  cases e : (xs.zip ys)[i]? with
  | none => rw [e] at h; cases h
  | some q =>
    rw [e] at h
    obtain ⟨h1, h2⟩ := List.getElem?_zip_eq_some.mp e
    exact ⟨q.1, q.2, h1, h2, (Option.some.inj h).symm⟩
theorem walk_zip {K : PySem.W.Frag} {F : Hp} {a b : Addr} {vs ws : List V} {ds es : List Dat} (h : SqL K F a vs) (h' : SqL K F b ws) (r : RepL K cl F vs ds) (r' : RepL K cl F ws es) : Walk K cl F (Itz K a b) (zipD ds es) where
  go := fun i H s hi => by
    have hl : i < min ds.length es.length := by simpa [zipD] using hi
    exact ⟨vs, ws, _, _, s.seq h, s.seq h', List.getElem?_eq_getElem (by rw [r.length]; omega), List.getElem?_eq_getElem (by rw [r'.length]; omega)⟩
  stop := fun i H s hi => by
    have hl : min ds.length es.length ≤ i := by simpa [zipD] using hi
    exact ⟨vs, ws, s.seq h, s.seq h', by rw [r.length, r'.length]; omega⟩
  yld := fun i H Fc x H' d s1 s2 hd y => by
    obtain ⟨p, v, u, rfl, hp, rfl, y⟩ := y
    obtain ⟨d0, d1, e0, e1, rfl⟩ := zipD_get hd
    have hFp : Fc p = none := none_of s2 hp
    obtain ⟨y1, y2⟩ := y vs ws ((s1.trans s2).seq h) ((s1.trans s2).seq h')
    exact ⟨upd Fc p (.tup [v, u]), same_upd hp, same_upd2 s2, Grow.new s2 hp, .tup' upd_same (.cons (((pget i r y1 e0).mono s1).mono (same_upd hFp)) (.cons (((pget i r' y2 e1).mono s1).mono (same_upd hFp)) .nil))⟩
theorem ppi_zip (hg : Gl X "zip") (hm : X.mg "zip" = none) (hl : PP cl X l fe) (hl2 : PP cl X l2 fe2) (hs : starEach [l, l2] X.env = [(false, eval l X.env), (false, eval l2 X.env)] := by rfl) (hs2 : starEach [l2] X.env = [(false, eval l2 X.env)] := by rfl) :
    PPI cl X (.Tuple elts x1 tp) (.Call (.Name "zip" p) [l, l2] [] pos) (iZip fe fe2) := fun pins s σ H R I h => by
  obtain ⟨δ, F, ω, ds, hf, er, k⟩ := h
  unfold iZip at hf
  split at hf
  · rename_i xs ys e1 e2
    cases hf
    refine Call_ (ld_blt I hg hm (show bootBuiltins "zip" = some (.type "zip") by decide +kernel) (PyProof.Rows.callWith_type1 (thn (pa_cons hl (pa_cons hl2 pa_nil hs2) (by rw [hs, hs2]) pos pins s σ H (fun vs H1 => ∃ v u F1, vs = [v, u] ∧ Same H H1 ∧ Same F1 H1 ∧ Grow F H F1 ∧ Rep X.K cl F1 v (.lst xs) ∧ Rep X.K cl F1 u (.lst ys)) I
      (tP2 e1 e2 er fun vx vy H2 F2 s1 g1 er2 rx ry => ⟨vx, vy, F2, rfl, s1, er2.sub, g1, rx, ry⟩)) fun us s1 ⟨vs, H1, I1, r1, v, u, F1, ev, s1', s2', g1, rv, ru⟩ => ?_) (by rw [hs, hs2]) (by rw [hs2]; rfl)))
    subst ev
    obtain ⟨w1, w2, rfl, q1, q2⟩ := vals2 r1
    obtain ⟨a, ws, rfl, q, t⟩ := rv.lst_inv
    obtain ⟨a', ws', rfl, q', t'⟩ := ru.lst_inv
    cases q1
    cases q2
    obtain ⟨its, rv1, pl, _⟩ := I1.list (s2'.seq q)
    obtain ⟨its', rv2, pl', _⟩ := I1.list (s2'.seq q')
    refine call_zip_2 pl.isList pl'.isList fun h2 b1 b2 b3 b4 b5 b6 b7 => wpAny_pyIter_zip b1 ?_
    have I2 : L2.Inv X pins σ H1 { s1 with heap := h2 } := I1.kept (t' := s1.toks) b7
    have fr : ∀ b ∈ [s1.heap.objs.size + 4, s1.heap.objs.size + 2, s1.heap.objs.size + 3, s1.heap.objs.size, s1.heap.objs.size + 1], FpOk X pins H1 b := fun b hb => by
      have : s1.heap.objs.size ≤ b := by simp at hb; omega
      exact I1.fpOk this (I1.hok.fresh this)
    refine ⟨s1.heap.objs.size + 4, [s1.heap.objs.size + 4, s1.heap.objs.size + 2, s1.heap.objs.size + 3, s1.heap.objs.size, s1.heap.objs.size + 1], _, _, H1, rfl, I2, turn_zip a a' (s1.heap.objs.size + 4) (s1.heap.objs.size + 2) (s1.heap.objs.size + 3) s1.heap.objs.size (s1.heap.objs.size + 1) (zip_apart s1.heap.objs.size),
      ⟨b1, b2, ⟨_, _, b3⟩, b4, b5⟩, fr, k _ H1 F1 s1' s2' g1 (walk_zip q q' t t')⟩
  · cases hf
end
end MB

namespace MB
open PySem PySem.Spec PyProof.Rows L2
/-! ### isinstance with a built-in type -/
def tyN : Dat → Option String
  | .non => some "NoneType"
  | .bl _ => some "bool"
  | .int _ => some "int"
  | .str _ => some "str"
  | .tup _ => some "tuple"
  | .lst _ => some "list"
  | .dK _ => some "dict"
  | .dT _ => some "dict"
  | .obj _ _ => none
section
variable {cl : Nat → Addr} {X : Cx} {e a b c : Expr} {es : List Expr} {fa fb fc : FE} {fl : FA} {pos p p2 : Pos} {i : Nat} {x : Str}
theorem isinst_D {pins : List (Addr × Obj)} {σ : St} {H F : Hp} {s : Shared} {v : V} {d : Dat} {n : String} {u c : Value} {bo : Bool} {A : Around} {Q : Value → Shared → Prop} {E : Value → Shared → Prop} (I : L2.Inv X pins σ H s) (sub : Same F H) (r : Rep X.K cl F v d) (hn : tyN d = some n) (rx : RelV v u)
    (e : PySem.W.kitOne X.K (.type n) c = some bo) (h : ∀ tk, Q (.bool bo) { s with toks := tk }) : wpAny (model X.prog X.w) A (call (.builtin "isinstance") [u, c]) Q E s := by
  cases r with
  | non => cases hn; exact isinst_ok I rx .non e h
  | bl b => cases hn; exact isinst_ok I rx (.bl b) e h
  | int i => cases hn; exact isinst_ok I rx (.int i) e h
  | str x => cases hn; exact isinst_ok I rx (.str x) e h
  | tup h1 _ _ => cases hn; exact isinst_ok I rx (.tup (sub _ _ h1)) e h
  | @lst a _ _ h1 _ _ =>
    cases hn
    cases (show u = Value.ref a from rx)
    obtain ⟨its, _, ⟨o, n, e1, c1, _⟩, _⟩ := I.list (sub.seq h1)
    exact PySem.W.kia_one PySem.W.kitx_list I.kIn ⟨o, e1, c1⟩ e (fun z => nomatch z) h
  | dK h1 _ _ => cases hn; exact isinst_ok I rx (.dK (sub _ _ h1)) e h
  | dT h1 _ _ => cases hn; exact isinst_ok I rx (.dT (sub _ _ h1)) e h
  | obj _ _ _ => cases hn
def isiD (g : String → Option Bool) (d : Dat) : Option Dat := (tyN d).bind fun n => (g n).bind fun b => some (.bl b)
theorem pp_isi {T : String} {g : String → Option Bool} (hT : ∀ K n b, g n = some b → PySem.W.kitOne K (.type n) (.type T) = some b) (hgi : Gl X "isinstance") (hmi : X.mg "isinstance" = none) (hg : Gl X x) (hm : X.mg x = none) (hv : bootBuiltins x = some (.type T)) (hn : x ≠ "__name__") (hd : (x == ("__debug__" : Str)) = false) (ha : PP cl X e fa)
    (he : starEach [e, .Name x p2] X.env = (false, eval e X.env) :: starEach [.Name x p2] X.env := by rfl) (he2 : starEach [.Name x p2] X.env = (false, eval (.Name x p2) X.env) :: starEach [] X.env := by rfl) (hpl : (backTo pos (starEach [.Name x p2] X.env)).any (·.1) = false := by rfl) :
    PP cl X (.Call (.Name "isinstance" p) [e, .Name x p2] [] pos) (e1 (isiD g) fa) := fun pins s σ H Q I h => by
  obtain ⟨δ, F, ω, d, hf, er, k⟩ := h
  obtain ⟨dx, hx, hf⟩ := e1_some hf
  obtain ⟨n, hn1, hf⟩ := bind1 hf
  obtain ⟨bb, hb, hf⟩ := bind1 hf
  obtain rfl := Option.some.inj hf
  refine (pe_callB (r := fun xs H Q => ∃ v F' d' t, xs = [v, .ty T] ∧ Same F' H ∧ Rep X.K cl F' v d' ∧ tyN d' = some t ∧ g t = some bb ∧ Q (.bl bb) H) (fun pins s σ H xs us Q I r h => ?_) hgi hmi (by decide +kernel : bootBuiltins "isinstance" = some (.builtin "isinstance")) (pa_cons ha (pa_cons (pe_bltn hg hm hv (v := .ty T) rfl hn hd) pa_nil he2) he) (hn := by decide +kernel) (hdb := by decide +kernel) (he := he) (hpl := hpl)) pins s σ H Q I
    ⟨δ, F, ω, dx, hx, er, fun v H1 F1 s1 s1' g1 r1 => ⟨v, F1, dx, n, rfl, s1', r1, hn1, hb, (k.step s1 g1).here s1' (.bl bb)⟩⟩
  obtain ⟨v, F', d', t, rfl, sub, rv, ty, ht, q⟩ := h
  obtain ⟨u, w, rfl, q1, q2⟩ := vals2 r
  cases q2
  exact isinst_D I sub rv ty q1 (hT X.K t bb ht) fun tk => ⟨.bl bb, H, I.tok tk, rfl, q⟩
def gInt : String → Option Bool | "int" => some true | "bool" => some true | "NoneType" => some false | "str" => some false | "tuple" => some false | "list" => some false | "dict" => some false | _ => none
def gBool : String → Option Bool | "int" => some false | "bool" => some true | "NoneType" => some false | "str" => some false | "tuple" => some false | "list" => some false | "dict" => some false | _ => none
def gList : String → Option Bool | "int" => some false | "bool" => some false | "NoneType" => some false | "str" => some false | "tuple" => some false | "list" => some true | "dict" => some false | _ => none
def gTuple : String → Option Bool | "int" => some false | "bool" => some false | "NoneType" => some false | "str" => some false | "tuple" => some true | "list" => some false | "dict" => some false | _ => none
def isiInt := isiD gInt
def isiBool := isiD gBool
def isiList := isiD gList
def isiTuple := isiD gTuple
theorem kit_int (K : PySem.W.Frag) (n : String) (b : Bool) (h : gInt n = some b) : PySem.W.kitOne K (.type n) (.type "int") = some b := by
  unfold gInt at h
  split at h
  all_goals first | (cases h; rfl) | (cases h; kernel_rfl) | cases h
theorem kit_bool (K : PySem.W.Frag) (n : String) (b : Bool) (h : gBool n = some b) : PySem.W.kitOne K (.type n) (.type "bool") = some b := by
  unfold gBool at h
  split at h
  all_goals first | (cases h; rfl) | (cases h; kernel_rfl) | cases h
theorem kit_list (K : PySem.W.Frag) (n : String) (b : Bool) (h : gList n = some b) : PySem.W.kitOne K (.type n) (.type "list") = some b := by
  unfold gList at h
  split at h
  all_goals first | (cases h; rfl) | (cases h; kernel_rfl) | cases h
theorem kit_tuple (K : PySem.W.Frag) (n : String) (b : Bool) (h : gTuple n = some b) : PySem.W.kitOne K (.type n) (.type "tuple") = some b := by
  unfold gTuple at h
  split at h
  all_goals first | (cases h; rfl) | (cases h; kernel_rfl) | cases h
theorem pp_isiInt (hgi : Gl X "isinstance") (hmi : X.mg "isinstance" = none) (hg : Gl X "int") (hm : X.mg "int" = none) (ha : PP cl X e fa) (he : starEach [e, .Name "int" p2] X.env = (false, eval e X.env) :: starEach [.Name "int" p2] X.env := by rfl) :
    PP cl X (.Call (.Name "isinstance" p) [e, .Name "int" p2] [] pos) (e1 isiInt fa) := pp_isi kit_int hgi hmi hg hm (by decide +kernel) (by decide +kernel) (by decide +kernel) ha he
theorem pp_isiBool (hgi : Gl X "isinstance") (hmi : X.mg "isinstance" = none) (hg : Gl X "bool") (hm : X.mg "bool" = none) (ha : PP cl X e fa) (he : starEach [e, .Name "bool" p2] X.env = (false, eval e X.env) :: starEach [.Name "bool" p2] X.env := by rfl) :
    PP cl X (.Call (.Name "isinstance" p) [e, .Name "bool" p2] [] pos) (e1 isiBool fa) := pp_isi kit_bool hgi hmi hg hm (by decide +kernel) (by decide +kernel) (by decide +kernel) ha he
theorem pp_isiList (hgi : Gl X "isinstance") (hmi : X.mg "isinstance" = none) (hg : Gl X "list") (hm : X.mg "list" = none) (ha : PP cl X e fa) (he : starEach [e, .Name "list" p2] X.env = (false, eval e X.env) :: starEach [.Name "list" p2] X.env := by rfl) :
    PP cl X (.Call (.Name "isinstance" p) [e, .Name "list" p2] [] pos) (e1 isiList fa) := pp_isi kit_list hgi hmi hg hm (by decide +kernel) (by decide +kernel) (by decide +kernel) ha he
theorem pp_isiTuple (hgi : Gl X "isinstance") (hmi : X.mg "isinstance" = none) (hg : Gl X "tuple") (hm : X.mg "tuple" = none) (ha : PP cl X e fa) (he : starEach [e, .Name "tuple" p2] X.env = (false, eval e X.env) :: starEach [.Name "tuple" p2] X.env := by rfl) :
    PP cl X (.Call (.Name "isinstance" p) [e, .Name "tuple" p2] [] pos) (e1 isiTuple fa) := pp_isi kit_tuple hgi hmi hg hm (by decide +kernel) (by decide +kernel) (by decide +kernel) ha he
theorem obj_at {P : Program} {w : World} {H : Hp} {h : Heap} {a : Addr} {o : HO} (x : ObjOk P w H h a o) : ∃ ob, h.get? a = some ob := by
  cases o with
  | lst xs => obtain ⟨_, _, _, _, e⟩ := x; exact ⟨_, e⟩
  | tup xs => obtain ⟨_, _, _, ob, e, _⟩ := x; exact ⟨_, e⟩
  | dK kvs => obtain ⟨_, _, _, _, o, _, _, e, _⟩ := x; exact ⟨_, e⟩
  | dT kvs => obtain ⟨_, _, _, _, o, _, _, e, _⟩ := x; exact ⟨_, e⟩
  | set S n => obtain ⟨o, _, _, _, e, _⟩ := x; exact ⟨_, e⟩
  | ins C dx fs => obtain ⟨_, _, _, e, _⟩ := x; exact ⟨_, e⟩
  | own y => obtain ⟨_, e⟩ := x; exact ⟨_, e⟩
  | xd fs => obtain ⟨_, ⟨_, _, _, e, _⟩, _⟩ := x; exact ⟨_, e⟩
  | rng lo hi => obtain ⟨_, _, _, e⟩ := x; exact ⟨_, e⟩
  | frz ob u => obtain ⟨e, _⟩ := x; exact ⟨_, e⟩
  | tbl ps => exact ⟨_, (show h.get? a = some _ from x)⟩
  | met f y => exact ⟨_, (show h.get? a = some _ from x)⟩
  | ext φ => obtain ⟨_, ⟨_, e⟩, _⟩ := x; exact ⟨_, e⟩
theorem free_at {P : Program} {w : World} {H : Hp} {h : Heap} {a : Addr} (x : HOk P w H h) (e : h.get? a = none) : H a = none := by
  cases q : H a with
  | none => rfl
  | some u => obtain ⟨ob, z⟩ := obj_at (x a u q); rw [e] at z; cases z
theorem Inv.laidAt {pins : List (Addr × Obj)} {σ : St} {H : Hp} {s : Shared} {h' : Heap} {a : Addr} {o : HO} {t' : Nat} (I : L2.Inv X pins σ H s) (k : ∀ b ob, s.heap.get? b = some ob → h'.get? b = some ob) (hno : s.heap.get? a = none) (new : ObjOk X.prog X.w (upd H a o) h' a o) :
    L2.Inv X pins σ (upd H a o) { s with heap := h', toks := t' } := by
  have hn : H a = none := free_at I.hok hno
  have old : ∀ b ob, s.heap.get? b = some ob → b ≠ a := fun b ob e z => by subst z; rw [hno] at e; cases e
  refine I.step (g' := s.gens) (d' := s.drawn) (ch := []) (fun b hb => nomatch hb) (fun b ob _ _ _ e _ => k b ob e) (fun b ob _ _ _ e _ => ⟨ob.slots, k b ob e⟩) (fun b ob _ e n => by rw [upd_ne (old b ob e)]; exact n) (fun b ob _ e => ⟨ob, k b ob e⟩)
    (fun b xs e => by rw [upd_ne (ne_of_none e hn)]; exact e) (fun b ob u e => by rw [upd_ne (ne_of_none e hn)]; exact e) (fun b ps e => ⟨#[], by rw [upd_ne (ne_of_none e hn), e]; simp⟩) (fun m hm => ?_) (fun b u e => ?_) I.bare
  · obtain ⟨ob, es, ep, ho, r⟩ := hm
    exact ⟨ob, es, ep, k _ ob ho, r⟩
  · by_cases hb : b = a
    · subst hb; rw [upd_same] at e; cases e; exact new
    · rw [upd_ne hb] at e
      exact (I.hok b u e).stay (fun c v _ q => k c v q) (fun c q => by rw [upd_ne (ne_of_none q hn)]; exact q) fun c xs q => by rw [upd_ne (ne_of_none q hn)]; exact q
/-! ### sorted of a dict with int keys, of a list of ints -/
def insI (x : Int) : List Int → List Int
  | [] => [x]
  | y :: r => if x ≤ y then x :: y :: r else y :: insI x r
def sortI : List Int → List Int
  | [] => []
  | x :: r => insI x (sortI r)
theorem insI_perm (x : Int) : ∀ l : List Int, (insI x l).Perm (x :: l)
  | [] => .refl _
  | y :: r => by
    unfold insI
    split
    · exact .refl _
    · exact (List.Perm.cons y (insI_perm x r)).trans (List.Perm.swap x y r)
theorem sortI_perm : ∀ l : List Int, (sortI l).Perm l
  | [] => .refl _
  | x :: r => (insI_perm x (sortI r)).trans (List.Perm.cons x (sortI_perm r))
theorem insI_sorted (x : Int) : ∀ l : List Int, l.Pairwise (· ≤ ·) → (insI x l).Pairwise (· ≤ ·)
  | [], _ => List.pairwise_singleton _ _
  | y :: r, h => by
    unfold insI
    obtain ⟨h1, h2⟩ := List.pairwise_cons.mp h
    split
    · rename_i c
      refine List.pairwise_cons.mpr ⟨fun z hz => ?_, h⟩
      rcases List.mem_cons.mp hz with rfl | hz
      · exact c
      · exact Int.le_trans c (h1 z hz)
    · rename_i c
      refine List.pairwise_cons.mpr ⟨fun z hz => ?_, insI_sorted x r h2⟩
      rcases List.mem_cons.mp ((insI_perm x r).mem_iff.mp hz) with rfl | hz
      · omega
      · exact h1 z hz
theorem sortI_sorted : ∀ l : List Int, (sortI l).Pairwise (· ≤ ·)
  | [] => .nil
  | x :: r => insI_sorted x _ (sortI_sorted r)
def keysI : List (Key × Dat) → Option (List Int)
  | [] => some []
  | (.inl i, _) :: r => (keysI r).bind fun is => some (i :: is)
  | (.inr _, _) :: _ => none
def dSortedB : List Dat → Option Dat
  | [.dK kvs] => (keysI kvs).bind fun ns => if ns.length < 64 then some (.lst ((sortI ns).map .int)) else none
  | _ => none
theorem keysI_inv : ∀ {kvs : List (Key × Dat)} {ns : List Int}, keysI kvs = some ns → kvs.map (·.1) = ns.map Sum.inl
  | [], ns, h => by cases h; rfl
  | (.inl i, _) :: r, ns, h => by
    unfold keysI at h
    obtain ⟨is, h1, h2⟩ := bind1 h
    obtain rfl := Option.some.inj h2
    rw [List.map_cons, List.map_cons, keysI_inv h1]
  | (.inr _, _) :: _, ns, h => by cases h
theorem call_sortedK (hc : X.calm = true) : CallR X (.builtin "sorted") (fun xs H Q => ∃ (a : Addr) (kvs : List (Key × V)) (ns : List Int), xs = [.ref a] ∧ Rd H a (.dK kvs) ∧ kvs.map (·.1) = ns.map Sum.inl ∧ ns.length < 64 ∧ ∀ p, H p = none → Q (.ref p) (upd H p (.lst ((sortI ns).map V.int)))) := fun pins s σ H xs us Q I r h => by
  obtain ⟨a, kvs, ns, rfl, hd, hk, h64, q⟩ := h
  obtain ⟨u, rfl, ru⟩ := vals1 r
  cases ru
  obtain ⟨z, hsys, vs, rel, ob, es, ep, e1, e2, e3, e4, e5, e6⟩ := dk_rd I.hok hd
  have hl : vs.length = ns.length := by
    have h1 := rel.length
    have h2 : kvs.length = ns.length := by simpa using congrArg List.length hk
    have h3 : kvs.length = vs.length := Paired.length rel
    omega
  have hkeys : vs.map (·.1) = ns.map Sum.inl := by rw [← KV.keys rel]; exact hk
  refine PySem.Calls.call_function_entry kind_sorted plain_sorted entry_sorted (args_sorted1 _) ?_
  unfold Builtin.«sorted»
  refine wpAny_bind (m := checkCount "sorted" 1 1 _) (wpAny_pure ?_)
  refine wpAny_bind (PySem.W.kdu_collect (A := X.A.in1) (PySem.W.kdl_dict (knd := mixKind X.prog X.w) (kvs := vs) (ep := ep) hsys) (I.ok.hd hc) ⟨ob, es, e1, e2, e3, e4, e5, e6⟩ (by rw [hl, PySem.sizeLine_eq]; omega) fun h' tk acc hkp hacc => ?_)
  have hal : acc.toList.length = ns.length := by rw [Array.length_toList, hacc.1, hl]
  have hints : ∀ (ws : List Value) (ms : List Int), ws.length = ms.length → (∀ (j : Nat) (v : Value), ws[j]? = some v → ∃ m t, ms[j]? = some m ∧ v = .int m t) → IntsAre ws ms := by
    intro ws
    induction ws with
    | nil => intro ms h _; cases ms with | nil => exact .nil | cons _ _ => simp at h
    | cons w ws ih =>
      intro ms h hj
      cases ms with
      | nil => simp at h
      | cons m ms =>
        obtain ⟨m', t, h1, h2⟩ := hj 0 w rfl
        cases h1
        subst h2
        exact .cons m t (ih ms (by simpa using h) fun j v e => hj (j + 1) v (by simpa using e))
  have hI : IntsAre acc.toList ns := hints _ _ hal fun j v e => by
    obtain ⟨k, x, h1, h2⟩ := hacc.2 j v (by rw [← Array.getElem?_toList]; exact e)
    have h3 := congrArg (·[j]?) hkeys
    simp only [List.getElem?_map, h1, Option.map_some] at h3
    cases h4 : ns[j]? with
    | none => rw [h4] at h3; cases h3
    | some m =>
      rw [h4] at h3
      have h5 : k = Sum.inl m := Option.some.inj h3
      subst h5
      obtain ⟨t, ht⟩ := Value.isInt_shape (k := m) (v := v) h2
      exact ⟨m, t, rfl, ht⟩
  refine wpAny_bind (wpAny_newList ?_ (by rw [hal, PySem.sizeLine_eq]; omega))
  have hoL : (h'.push (seqObj "list" acc.toList.toArray 0)).get? h'.objs.size = some (seqObj "list" acc.toList.toArray 0) := Heap.get?_push_size _ rfl
  refine wpAny_bind (wpAny_holding (wpAny_call_entry slot_list_sort ⟨_, hoL, rfl⟩ entry_list_sort (list_sort_tree (s := { s with heap := h'.push (seqObj "list" acc.toList.toArray 0), toks := tk }) hoL hI (by rw [hal]; exact h64) fun out ns' a1 a2 a3 => ⟨_, rfl, ?_⟩) (args_list_sort _)))
  refine wpAny_pure ⟨_, rfl, ?_⟩
  have es : ns' = sortI ns := PySem.W.ksm_same (a2.trans (sortI_perm ns).symm) a3 (sortI_sorted ns)
  obtain ⟨e9, he9⟩ := sortedHeap_at (out := out) (vs := acc.toList) hoL
  have kp : ∀ b o, s.heap.get? b = some o → (sortedHeap (h'.push (seqObj "list" acc.toList.toArray 0)) h'.objs.size acc.toList out).get? b = some o := fun b o e => by
    have h1 := hkp b o e
    have hlt := Heap.lt_size h1
    rw [sortedHeap_old (Nat.ne_of_lt hlt) (by rw [size_push']; exact Nat.lt_succ_of_lt hlt)]
    exact Heap.get?_push_of_some _ h1
  have hno : s.heap.get? h'.objs.size = none := by
    cases q0 : s.heap.get? h'.objs.size with
    | none => rfl
    | some o => exact absurd (Heap.lt_size (hkp _ _ q0)) (Nat.lt_irrefl _)
  refine ⟨.ref h'.objs.size, _, Inv.laidAt (s := s) (t' := tk) I kp hno ?_, rfl, q _ (free_at I.hok hno)⟩
  refine ⟨by rw [List.length_map, (sortI_perm ns).length_eq, PySem.sizeLine_eq]; omega, out.toList, e9, ?_, by rw [Array.toArray_toList]; exact he9⟩
  rw [← es]
  exact vals_ints a1
theorem pp_sorted (hg : Gl X "sorted") (hm : X.mg "sorted" = none) (ha : PPA cl X [e] fl) (hc : X.calm = true := by rfl) (he : starEach [e] X.env = (false, eval e X.env) :: starEach [] X.env := by rfl) : PP cl X (.Call (.Name "sorted" p) [e] [] pos) (eB dSortedB fl) := by
  refine pp_callB (call_sortedK hc) (fun F H vs ds d Q h s r k => ?_) hg hm (by decide +kernel) ha (he := he)
  unfold dSortedB at h
  split at h
  · rename_i kvs
    obtain ⟨v, rfl, r0⟩ := one_inv r
    obtain ⟨ns, hi, h⟩ := bind1 h
    split at h
    · rename_i hl
      cases h
      obtain ⟨a, ws, rfl, q, t⟩ := r0.dK_inv
      refine ⟨a, ws, ns, rfl, .inl (s _ _ q), by rw [keysEq t]; exact keysI_inv hi, hl, fun z hz => k.new s hz (.lst' (SqL.of upd_same) ?_)⟩
      have : ∀ ms : List Int, RepL X.K cl (upd F z (.lst ((sortI ns).map V.int))) (ms.map V.int) (ms.map .int) := by
        intro ms
        induction ms with
        | nil => exact .nil
        | cons m r ih => exact .cons (.int m) ih
      exact this _
    · cases h
  · cases h
end
end MB

namespace MB
open PySem PySem.Spec PyProof.Rows L2
section
variable {cl : Nat → Addr} {X : Cx} {e a b c : Expr} {es : List Expr} {fl : FA} {pos pos' pos2 p : Pos} {i : Nat} {x y : Str}
structure CalO (P : Program) (w : World) (K : PySem.W.Frag) (mg : Str → Option Value) (base : Heap) (cl : Nat → Addr) (x : Str) (k : Nat) (ps : List Str) (fo : List Dat → Option O0) : Prop where
  ex : ∃ f fd, FnOk P w K mg base CX0 k f fd ps (spO K cl ps.length fo) ∧ mg x = some (.ref f) ∧ PySem.W.keepIn K (.ref f) = true ∧ L2.Binds K fd ps []
theorem pb_asgOC {k j n : Nat} {ps : List Str} {fo : List Dat → Option O0} (C : CalO X.prog X.w X.K X.mg X.base cl x k ps fo) (hr : Room j X.A) (hg : Gl X x) (ha : PPA cl X (e :: es) fl) (hN : X.N.Nodup) (hi : X.N[i]? = some y) (hy : Loc X.env.scope y) (hj : k ≤ j := by decide) (hn : ps.length = n := by rfl) (hx : Passes CX0 X E0 := by exact pass0)
    (hdb : (x == ("__debug__" : Str)) = false := by decide +kernel) (he : starEach (e :: es) X.env = (false, eval e X.env) :: starEach es X.env := by rfl) (hpl : (backTo pos (starEach es X.env)).any (·.1) = false := by rfl)
    (hs : swapsWith (.Call (.Name x p) (e :: es) [] pos) (some (.Name y pos')) pos2.line X.env = pure false := by rfl)
    (hf : X.fn y = true ∨ X.env.scope.names.lookup y = some .local := by first | exact .inl rfl | exact .inr rfl | assumption) :
    PB1 cl X (.Assign [.Name y pos'] (.Call (.Name x p) (e :: es) [] pos) pos2) (sAsgO i n fo fl) := by
  obtain ⟨f, fd, h1, h2, h3, h4⟩ := C.ex
  subst hn
  exact pb_asgO h1 (hr.mono hj) hg h2 h3 h4 hx ha hN hi hy hdb he hpl hs hf
/-- x = [a, ..], x a list that is being made -/
def sNewLs (i : Nat) (fl : FA) : FS := fun δ => (fl δ).bind fun xs => if xs.length ≤ sizeLine then some (.nx (δ.set i (.o (.lst xs)))) else none
theorem pb_newLs {p2 : Pos} (hN : X.N.Nodup) (hi : X.N[i]? = some x) (hx : Loc X.env.scope x) (ha : PPA cl X es fl) (hs : swapsWith (.List es p2) (some (.Name x pos')) pos.line X.env = pure false := by rfl)
    (hf : X.fn x = true ∨ X.env.scope.names.lookup x = some .local := by first | exact .inl rfl | exact .inr rfl | assumption) : PB1 cl X (.Assign [.Name x pos'] (.List es p2) pos) (sNewLs i fl) := fun pins s σ H D I h => by
  obtain ⟨B, F0, P, δ, o, hw, ⟨F, ω, sr⟩, out⟩ := h
  obtain ⟨xs, h1, hw⟩ := bind1 hw
  split at hw
  · rename_i hl
    obtain rfl := Option.some.inj hw
    refine ps_set hN hi hx (pe_lst ha) hs hf pins s σ H D I ⟨δ, F, _, xs, h1, sr.er, fun vs H1 F1 s1 s1' g1 r1 => ⟨by rw [r1.length]; exact hl, fun p hp => out _ _ ⟨F1, updL ω p (i, none), ?_⟩⟩⟩
    exact ((sr.step s1 s1' g1).own hp).set ⟨.ref p, rfl, p, vs, rfl, updL_same, upd_same, r1⟩
  · cases hw
/-- x['k'][e], x a record that is being made -/
def eIxRR (i : Nat) (k : Str) (fb : FE) : FE := fun δ => (δ[i]?).bind fun s => (fb δ).bind fun y => match s with
  | .rcd kvs => (match lookO kvs (.inr k) with
    | some (.dK ds) => (keyD y).bind fun kk => lookD ds kk
    | some (.val d) => dIx d y
    | _ => none)
  | .o (.val d) => (dIx d (.str k)).bind fun z => dIx z y
  | _ => none
theorem ixN_rcd {i : Nat} {δ : Sto} {kvs : List (Key × O0)} {k : Str} {d : Dat} (hi : δ[i]? = some (.rcd kvs)) (hlo : lookO kvs (.inr k) = some (.val d)) : eIxN i (eC (.str k)) δ = some d := by
  unfold eIxN
  rw [hi]
  show slIx (.rcd kvs) (.str k) = some d
  unfold slIx keyD
  simp only [Option.bind_some]
  rw [hlo]
theorem pp_ixRR {nx : Expr} {k : Str} {kj} {p2 p3 : Pos} {fb : FE} (hu : X.A.units + 1 < cLine) (hv : PE X nx (tVar i)) (hb : PP cl X b fb) (hs : PlainIx b) (hns : NoSl (.Constant (.str k) kj p2) := by intro _ _; rfl) :
    PP cl X (.Subscript (.Subscript nx (.Constant (.str k) kj p2) p3) b pos) (eIxRR i k fb) := fun pins s σ H Q I h => by
  obtain ⟨δ, F, ω, d, hf, er, kp⟩ := h
  obtain ⟨sl, y, hi, hy, hf⟩ := bind2 hf
  split at hf
  · rename_i kvs
    split at hf
    · rename_i ds hlo
      obtain ⟨kk, hkk, hf⟩ := bind1 hf
      obtain ⟨p, ws, ev, hw0, hH, hn, r1⟩ := er.at_ i _ hi
      rcases rcd_look r1 (Sum.inr k) with ⟨_, n⟩ | ⟨v0, o0, e1, e2, q0⟩
      · rw [hlo] at n; cases n
      · rw [hlo] at e2
        cases e2
        obtain ⟨q, vs, rfl, hwq, hHq, rq⟩ := q0
        refine pe_dget hu (pe_dget hu hv pe_str hns) hb hs pins s σ H Q I ⟨.ref p, ev, p, .ref q, rfl, e1 ▸ DGet.k (k := Sum.inr k) hH, δ, F, ω, y, hy, er, fun vy H2 F2 s1 s1' g1 ry => ?_⟩
        rcases repK_look rq kk with ⟨_, n⟩ | ⟨v, d', h1, h2, r⟩
        · rw [hf] at n; cases n
        · rw [hf] at h2; cases h2
          rw [keyD_rep ry hkk]
          exact ⟨q, v, rfl, h1 ▸ DGet.k (s1 _ _ hHq), (kp.step s1 g1).here s1' (r.mono g1.1)⟩
    · rename_i d0 hlo
      exact pp_ix hu (pp_ixN hu hv pp_str hns) hb hs pins s σ H Q I ⟨δ, F, ω, d, by unfold e2; rw [ixN_rcd hi hlo, hy]; exact hf, er, kp⟩
    · cases hf
  · rename_i d0
    obtain ⟨z, hz, hf⟩ := bind1 hf
    have hx : eIxN i (eC (.str k)) δ = some z := by
      unfold eIxN
      rw [hi]
      exact hz
    exact pp_ix hu (pp_ixN hu hv pp_str hns) hb hs pins s σ H Q I ⟨δ, F, ω, d, by unfold e2; rw [hx, hy]; exact hf, er, kp⟩
  · cases hf
/-- sorted(x['k']), x a record that is being made -/
def eSortR (i : Nat) (k : Str) : FE := fun δ => (δ[i]?).bind fun s => match s with
  | .rcd kvs => (match lookO kvs (.inr k) with
    | some (.dK ds) => dSortedB [.dK ds]
    | some (.val d) => dSortedB [d]
    | _ => none)
  | .o (.val d) => (dIx d (.str k)).bind fun z => dSortedB [z]
  | _ => none
theorem ints_rep {K : PySem.W.Frag} {F : Hp} : ∀ ms : List Int, RepL K cl F (ms.map V.int) (ms.map .int)
  | [] => .nil
  | m :: r => .cons (.int m) (ints_rep r)
theorem pp_sortR {nx : Expr} {k : Str} {kj} {p2 p3 : Pos} (hg : Gl X "sorted") (hm : X.mg "sorted" = none) (hu : X.A.units + 1 < cLine) (hv : PE X nx (tVar i)) (hc : X.calm = true := by rfl) (hns : NoSl (.Constant (.str k) kj p2) := by intro _ _; rfl)
    (he : starEach [.Subscript nx (.Constant (.str k) kj p2) p3] X.env = (false, eval (.Subscript nx (.Constant (.str k) kj p2) p3) X.env) :: starEach [] X.env := by rfl) :
    PP cl X (.Call (.Name "sorted" p) [.Subscript nx (.Constant (.str k) kj p2) p3] [] pos) (eSortR i k) := fun pins s σ H Q I h => by
  obtain ⟨δ, F, ω, d, hf, er, kp⟩ := h
  obtain ⟨sl, hi, hf⟩ := bind1 hf
  split at hf
  · rename_i kvs
    split at hf
    · rename_i ds hlo
      unfold dSortedB at hf
      obtain ⟨ns, hns', hf⟩ := bind1 hf
      split at hf
      · rename_i hl
        obtain rfl := Option.some.inj hf
        obtain ⟨p, ws, ev, hw0, hH, hn, r1⟩ := er.at_ i _ hi
        rcases rcd_look r1 (Sum.inr k) with ⟨_, n⟩ | ⟨v0, o0, e1, e2, q0⟩
        · rw [hlo] at n; cases n
        · rw [hlo] at e2
          cases e2
          obtain ⟨q, vs, rfl, hwq, hHq, rq⟩ := q0
          refine pe_callB (call_sortedK hc) hg hm (by decide +kernel) (pa_cons (pe_dget hu hv pe_str hns) pa_nil he) (hn := by decide +kernel) (hdb := by decide +kernel) (he := he) (hpl := rfl) pins s σ H Q I ⟨.ref p, ev, p, .ref q, rfl, e1 ▸ DGet.k (k := Sum.inr k) hH, q, vs, ns, rfl, .inl hHq, by rw [keysEq rq]; exact keysI_inv hns', hl, fun z hz => ?_⟩
          exact kp.new er.sub hz (.lst' (SqL.of upd_same) (ints_rep _))
      · cases hf
    · rename_i d0 hlo
      exact pp_sorted hg hm (ppa_cons (pp_ixN hu hv pp_str hns) ppa_nil he) hc he pins s σ H Q I ⟨δ, F, ω, d, by unfold eB aC aN; rw [ixN_rcd hi hlo]; exact hf, er, kp⟩
    · cases hf
  · rename_i d0
    obtain ⟨z, hz, hf⟩ := bind1 hf
    have hx : eIxN i (eC (.str k)) δ = some z := by
      unfold eIxN
      rw [hi]
      exact hz
    exact pp_sorted hg hm (ppa_cons (pp_ixN hu hv pp_str hns) ppa_nil he) hc he pins s σ H Q I ⟨δ, F, ω, d, by unfold eB aC aN; rw [hx]; exact hf, er, kp⟩
  · cases hf
def compOk (sn : List (Str × NameKind)) (N0 : List Str) (scope : Scope) (vars : List Str) (caps : List Nat) (N : List Str) : Bool :=
  decide (scope.kind = .function) && scope.names.all (fun y => decide (y.2 ≠ .cell)) && scope.names.all (fun y => decide (y.2 ≠ .local) || decide (scope.names.lookup y.1 = some .local)) &&
  scope.names.all (fun y => decide (y.2 ≠ .free) || (decide (sn.lookup y.1 = some .cell) || decide (sn.lookup y.1 = some .free))) && decide (N = vars ++ caps.filterMap fun j => N0[j]?) &&
  caps.all fun j => match N0[j]? with
    | some x => (decide (sn.lookup x = some .cell) || decide (sn.lookup x = some .free)) && decide (scope.names.lookup x = some .free)
    | none => false
theorem compSc_of {scope : Scope} {vars N : List Str} {caps : List Nat} (sn : List (Str × NameKind)) (N0 : List Str) (hk : ∀ x, X.env.kindOf x = sn.lookup x) (h0 : X.N = N0) (h : compOk sn N0 scope vars caps N = true) : CompSc X scope vars caps N := by
  unfold compOk at h
  simp only [Bool.and_eq_true, Bool.or_eq_true, List.all_eq_true, decide_eq_true_eq] at h
  obtain ⟨⟨⟨⟨⟨h1, h2⟩, h3⟩, h4⟩, h5⟩, h6⟩ := h
  refine ⟨h1, h2, fun y hy hl => (h3 y hy).resolve_left fun z => z hl, fun y hy hf => ?_, by rw [h0]; exact h5, fun j hj => ?_⟩
  · rw [hk]
    exact (h4 y hy).resolve_left fun z => z hf
  · have q := h6 j hj
    rw [h0]
    cases e : N0[j]? with
    | none => rw [e] at q; cases q
    | some x =>
      rw [e] at q
      simp only [Bool.and_eq_true, Bool.or_eq_true, decide_eq_true_eq] at q
      exact ⟨x, rfl, by rw [hk]; exact q.1, q.2⟩
/-- a display of written texts -/
def strEs (xs : List (Str × Pos)) : List Expr := xs.map fun x => .Constant (.str x.1) 0 x.2
theorem ppa_strs : ∀ xs : List (Str × Pos), PPA cl X (strEs xs) (fun _ => some (xs.map fun x => .str x.1))
  | [] => ppa_nil
  | x :: xs => by
    have h := ppa_cons (cl := cl) (X := X) (a := .Constant (.str x.1) 0 x.2) (pp_str (j := 0)) (ppa_strs xs) rfl
    have e : aC (eC (.str x.1)) (fun _ => some (xs.map fun x => Dat.str x.1)) = fun _ => some ((x :: xs).map fun x => Dat.str x.1) := rfl
    rw [e] at h
    exact h
def aStrs (xs : List Str) : FA := fun _ => some (xs.map .str)
def unStr : List Expr → List (Str × Pos)
  | .Constant (.str x) _ p :: r => (x, p) :: unStr r
  | _ => []
theorem ppa_strsE {xs : List Str} (he : strEs (unStr es) = es) (hx : (unStr es).map (·.1) = xs) : PPA cl X es (aStrs xs) := by
  have h := ppa_strs (cl := cl) (X := X) (unStr es)
  rw [he] at h
  subst hx
  have e : aStrs ((unStr es).map (·.1)) = fun _ => some ((unStr es).map fun x => Dat.str x.1) := by unfold aStrs; funext δ; rw [List.map_map]; rfl
  rw [e]
  exact h
theorem repL_of_ints {K : PySem.W.Frag} {F : Hp} : ∀ ns : List Int, RepL K cl F (ns.map V.int) (ns.map .int)
  | [] => .nil
  | n :: r => .cons (.int n) (repL_of_ints r)
end
end MB

namespace MB
open PySem PySem.Spec PyProof.Rows L2
section
variable {cl : Nat → Addr} {X : Cx} {e a b c : Expr} {es : List Expr} {fa fb fc fe : FE} {fl : FA} {pos pos' pos2 p p2 p3 p4 : Pos} {i : Nat} {x y : Str}
/-! ### sum of a list of ints -/
def dSumB : List Dat → Option Dat
  | [.lst xs] => (intsD xs).bind fun ns => some (.int ns.sum)
  | _ => none
theorem vals_toks : ∀ {ns : List Int} {its : List Value}, Vals (ns.map V.int) its → ∃ ts : List (Int × Tok), its = ts.map (fun q => .int q.1 q.2) ∧ ts.map (·.1) = ns
  | [], _, .nil => ⟨[], rfl, rfl⟩
  | n :: ns, _, .cons r t => by
    obtain ⟨ts, rfl, h⟩ := vals_toks t
    obtain ⟨k, rfl⟩ := r
    exact ⟨(n, k) :: ts, rfl, by rw [List.map_cons, h]⟩
theorem call_sum1 (hc : X.calm = true) : CallR X (.builtin "sum") (fun xs H Q => ∃ (a : Addr) (ns : List Int), xs = [.ref a] ∧ SqL X.K H a (ns.map V.int) ∧ Q (.int ns.sum) H) := fun pins s σ H xs us Q I r h => by
  obtain ⟨a, ns, rfl, hq, q⟩ := h
  obtain ⟨u, rfl, ru⟩ := vals1 r
  cases ru
  obtain ⟨its, rv, pl, hz⟩ := I.list hq
  obtain ⟨ts, rfl, hts⟩ := vals_toks rv
  have e : (ts.map fun q => Value.int q.1 q.2).toArray = intItems ts.toArray := by unfold intItems; simp
  refine sum_intListG (xs := ts.toArray) (I.ok.hd hc) (by rw [← e]; exact pl.isList) fun h' tk t' hk => ?_
  refine ⟨.int ns.sum, H, I.kept hk, ⟨t', ?_⟩, q⟩
  rw [preSum_eq, List.take_of_length_le (by simp)]
  rw [← hts]
theorem pp_sum (hg : Gl X "sum") (hm : X.mg "sum" = none) (ha : PPA cl X [e] fl) (hc : X.calm = true := by rfl) (he : starEach [e] X.env = (false, eval e X.env) :: starEach [] X.env := by rfl) : PP cl X (.Call (.Name "sum" p) [e] [] pos) (eB dSumB fl) := by
  refine pp_callB (call_sum1 hc) (fun F H vs ds d Q h s r k => ?_) hg hm (by decide +kernel) ha (he := he)
  unfold dSumB at h
  split at h
  · rename_i xs
    obtain ⟨v, rfl, r0⟩ := one_inv r
    obtain ⟨ns, hi, h⟩ := bind1 h
    cases h
    obtain rfl := intsD_inv hi
    obtain ⟨a, ws, rfl, q, t⟩ := r0.lst_inv
    obtain rfl := repL_ints t
    exact ⟨a, ns, rfl, s.seq q, k.here s (.int _)⟩
  · cases h
/-! ### isinstance(x, (list, tuple)) -/
def gLT (n : String) : Option Bool := (gList n).bind fun l => (gTuple n).bind fun t => some (l || t)
def isiLT := isiD gLT
theorem kit_LT (K : PySem.W.Frag) (n : String) (b : Bool) (h : gLT n = some b) : PySem.W.kitAny K (.type n) [.type "list", .type "tuple"] = some b := by
  obtain ⟨l, hl, h⟩ := bind1 h
  obtain ⟨t, ht, h⟩ := bind1 h
  obtain rfl := Option.some.inj h
  have e1 := kit_list K n l hl
  have e2 := kit_tuple K n t ht
  unfold PySem.W.kitAny
  rw [e1]
  cases l with
  | true => rfl
  | false =>
    show PySem.W.kitAny K (.type n) [.type "tuple"] = _
    unfold PySem.W.kitAny
    rw [e2]
    cases t with
    | true => rfl
    | false => rfl
theorem isinst_D2 {pins : List (Addr × Obj)} {σ : St} {H F : Hp} {s : Shared} {v : V} {d : Dat} {n : String} {u : Value} {tp : Addr} {bo : Bool} {A : Around} {Q : Value → Shared → Prop} {E : Value → Shared → Prop} (I : L2.Inv X pins σ H s) (sub : Same F H) (r : Rep X.K cl F v d) (hn : tyN d = some n) (rx : RelV v u)
    (ht : H tp = some (.tup [.ty "list", .ty "tuple"])) (e : PySem.W.kitAny X.K (.type n) [.type "list", .type "tuple"] = some bo) (h : ∀ tk, Q (.bool bo) { s with toks := tk }) : wpAny (model X.prog X.w) A (call (.builtin "isinstance") [u, .ref tp]) Q E s := by
  obtain ⟨its, rv, ⟨o, h1, h2, m, h3⟩, _⟩ := I.tuple (SqT.of ht)
  obtain ⟨cls, dd, data, slots⟩ := o
  simp only at h2 h3
  subst h2 h3
  have ei : its = [.type "list", .type "tuple"] := by
    cases rv with
    | cons r1 t1 =>
      cases t1 with
      | cons r2 t2 =>
        cases t2
        cases r1
        cases r2
        rfl
  subst ei
  cases r with
  | non => cases hn; cases (show u = Value.none from rx); exact PySem.W.kia_tup PySem.W.kitx_none I.kIn True.intro h1 e (fun z => nomatch z) h
  | bl b => cases hn; cases (show u = Value.bool b from rx); exact PySem.W.kia_tup PySem.W.kitx_bool I.kIn True.intro h1 e (fun z => nomatch z) h
  | int i => cases hn; obtain ⟨t, q⟩ := (show ∃ t, u = Value.int i t from rx); cases q; exact PySem.W.kia_tup PySem.W.kitx_int I.kIn True.intro h1 e (fun z => nomatch z) h
  | str x => cases hn; obtain ⟨t, q⟩ := (show ∃ t, u = Value.str x t from rx); cases q; exact PySem.W.kia_tup PySem.W.kitx_str I.kIn True.intro h1 e (fun z => nomatch z) h
  | @tup a' _ _ h4 _ _ =>
    cases hn
    cases (show u = Value.ref a' from rx)
    obtain ⟨_, _, ⟨o', g1, g2, _⟩, _⟩ := I.tuple (SqT.of (sub _ _ h4))
    exact PySem.W.kia_tup PySem.W.kitx_tuple I.kIn ⟨o', g1, g2⟩ h1 e (fun z => nomatch z) h
  | @lst a' _ _ h4 _ _ =>
    cases hn
    cases (show u = Value.ref a' from rx)
    obtain ⟨_, _, ⟨o', m', g1, g2, _⟩, _⟩ := I.list (sub.seq h4)
    exact PySem.W.kia_tup PySem.W.kitx_list I.kIn ⟨o', g1, g2⟩ h1 e (fun z => nomatch z) h
  | @dK a' _ _ h4 _ _ =>
    cases hn
    cases (show u = Value.ref a' from rx)
    obtain ⟨_, _, _, _, q⟩ := dk_of I.hok (sub _ _ h4)
    obtain ⟨o', es, ep, g1, g2, _⟩ := q
    exact PySem.W.kia_tup PySem.W.kitx_dict I.kIn ⟨o', g1, g2.1⟩ h1 e (fun z => nomatch z) h
  | @dT a' _ _ h4 _ _ =>
    cases hn
    cases (show u = Value.ref a' from rx)
    obtain ⟨_, _, _, _, o', es, ep, g1, g2, _⟩ := dt_of I.hok (sub _ _ h4)
    exact PySem.W.kia_tup PySem.W.kitx_dict I.kIn ⟨o', g1, g2.1⟩ h1 e (fun z => nomatch z) h
  | obj _ _ _ => cases hn
theorem pp_isiLT {k2} (hgi : Gl X "isinstance") (hmi : X.mg "isinstance" = none) (hgl : Gl X "list") (hml : X.mg "list" = none) (hgt : Gl X "tuple") (hmt : X.mg "tuple" = none) (ha : PP cl X e fa)
    (he : starEach [e, .Tuple [.Name "list" p2, .Name "tuple" p3] k2 p4] X.env = (false, eval e X.env) :: starEach [.Tuple [.Name "list" p2, .Name "tuple" p3] k2 p4] X.env := by rfl)
    (he2 : starEach [.Tuple [.Name "list" p2, .Name "tuple" p3] k2 p4] X.env = (false, eval (.Tuple [.Name "list" p2, .Name "tuple" p3] k2 p4) X.env) :: starEach [] X.env := by rfl)
    (he3 : starEach [.Name "list" p2, .Name "tuple" p3] X.env = (false, eval (.Name "list" p2) X.env) :: starEach [.Name "tuple" p3] X.env := by rfl) (he4 : starEach [.Name "tuple" p3] X.env = (false, eval (.Name "tuple" p3) X.env) :: starEach [] X.env := by rfl)
    (hpl : (backTo pos (starEach [.Tuple [.Name "list" p2, .Name "tuple" p3] k2 p4] X.env)).any (·.1) = false := by rfl) :
    PP cl X (.Call (.Name "isinstance" p) [e, .Tuple [.Name "list" p2, .Name "tuple" p3] k2 p4] [] pos) (e1 isiLT fa) := fun pins s σ H Q I h => by
  obtain ⟨δ, F, ω, d, hf, er, k⟩ := h
  obtain ⟨dx, hx, hf⟩ := e1_some hf
  obtain ⟨n, hn1, hf⟩ := bind1 hf
  obtain ⟨bb, hb, hf⟩ := bind1 hf
  obtain rfl := Option.some.inj hf
  refine (pe_callB (r := fun xs H Q => ∃ v F' d' t tp, xs = [v, .ref tp] ∧ Same F' H ∧ Rep X.K cl F' v d' ∧ tyN d' = some t ∧ gLT t = some bb ∧ H tp = some (.tup [.ty "list", .ty "tuple"]) ∧ Q (.bl bb) H) (fun pins s σ H xs us Q I r h => ?_) hgi hmi (by decide +kernel : bootBuiltins "isinstance" = some (.builtin "isinstance"))
    (pa_cons ha (pa_cons (pe_tup (pa_cons (pe_bltn hgl hml (by decide +kernel : bootBuiltins "list" = some (.type "list")) (v := .ty "list") rfl (by decide +kernel) (by decide +kernel)) (pa_cons (pe_bltn hgt hmt (by decide +kernel : bootBuiltins "tuple" = some (.type "tuple")) (v := .ty "tuple") rfl (by decide +kernel) (by decide +kernel)) pa_nil he4) he3)) pa_nil he2) he) (hn := by decide +kernel) (hdb := by decide +kernel) (he := he) (hpl := hpl)) pins s σ H Q I
    ⟨δ, F, ω, dx, hx, er, fun v H1 F1 s1 s1' g1 r1 => ⟨by show 2 ≤ sizeLine; decide, fun tp htp => ⟨v, F1, dx, n, tp, rfl, s1'.trans (same_upd htp), r1, hn1, hb, upd_same, ?_⟩⟩⟩
  · obtain ⟨v, F', d', t, tp, rfl, sub, rv, ty, ht, htp, q⟩ := h
    obtain ⟨u, w, rfl, q1, q2⟩ := vals2 r
    cases q2
    exact isinst_D2 I sub rv ty q1 htp (kit_LT X.K t bb ht) fun tk => ⟨.bl bb, H, I.tok tk, rfl, q⟩
  · exact k (.bl bb) _ F1 (s1.trans (same_upd htp)) (s1'.trans (same_upd htp)) (g1.trans (Same.refl _) Grow.refl) (.bl bb)
/-! ### x = list(e), a list of ours -/
def sNewLc (i : Nat) (fe : FE) : FS := fun δ => match fe δ with
  | some (.lst xs) => some (.nx (δ.set i (.o (.lst xs))))
  | some (.tup xs) => some (.nx (δ.set i (.o (.lst xs))))
  | _ => none
theorem pb_newLc (hN : X.N.Nodup) (hi : X.N[i]? = some x) (hx : Loc X.env.scope x) (hg : Gl X "list") (hm : X.mg "list" = none) (ha : PP cl X e fe) (he : starEach [e] X.env = (false, eval e X.env) :: starEach [] X.env := by rfl)
    (hs : swapsWith (.Call (.Name "list" p) [e] [] pos2) (some (.Name x pos')) pos.line X.env = pure false := by rfl)
    (hf : X.fn x = true ∨ X.env.scope.names.lookup x = some .local := by first | exact .inl rfl | exact .inr rfl | assumption) : PB1 cl X (.Assign [.Name x pos'] (.Call (.Name "list" p) [e] [] pos2) pos) (sNewLc i fe) := fun pins s σ H D I h => by
  obtain ⟨B, F0, P, δ, o, hw, ⟨F, ω, sr⟩, out⟩ := h
  have fin : ∀ {H1 F1 : Hp} {vs : List V} {xs : List Dat}, Same H H1 → Same F1 H1 → Grow F H F1 → RepL X.K cl F1 vs xs → OutD X.K cl B F0 P (.nx (δ.set i (.o (.lst xs)))) D → ∀ l, H1 l = none → D.nx (σ.set i (some (.ref l))) (upd H1 l (.lst vs)) := fun {H1 F1 vs xs} s1 s1' g1 r1 o' l hl =>
    o' _ _ ⟨F1, updL ω l (i, none), ((sr.step s1 s1' g1).own hl).set ⟨.ref l, rfl, l, vs, rfl, updL_same, upd_same, r1⟩⟩
  have pe := pe_callTy (p := p) (pos := pos2) call_list_of hg hm (by decide +kernel : bootBuiltins "list" = some (.type "list")) (ppa_cons ha ppa_nil he) (by decide +kernel) (by decide +kernel) he rfl
  unfold sNewLc at hw
  split at hw
  · rename_i xs hd
    obtain rfl := Option.some.inj hw
    refine ps_set hN hi hx pe hs hf pins s σ H D I ⟨δ, F, _, [.lst xs], by unfold aC aN; rw [hd]; rfl, sr.er, fun vs H1 F1 s1 s1' g1 r1 => ?_⟩
    obtain ⟨v, rfl, r0⟩ := one_inv r1
    obtain ⟨a, ws, rfl, q, t⟩ := r0.lst_inv
    exact ⟨a, ws, rfl, .inl (s1'.seq q), fin s1 s1' g1 t out⟩
  · rename_i xs hd
    obtain rfl := Option.some.inj hw
    refine ps_set hN hi hx pe hs hf pins s σ H D I ⟨δ, F, _, [.tup xs], by unfold aC aN; rw [hd]; rfl, sr.er, fun vs H1 F1 s1 s1' g1 r1 => ?_⟩
    obtain ⟨v, rfl, r0⟩ := one_inv r1
    obtain ⟨a, ws, rfl, q, t⟩ := r0.tup_inv
    exact ⟨a, ws, rfl, .inr (SqT.of (s1' _ _ q)), fin s1 s1' g1 t out⟩
  · cases hw
/-! ### x = f(..), what is being made handed in for the while; the list that comes back holds nothing but plain values -/
def sAsgOT (is : List Nat) (i n : Nat) (f : List Dat → Option O0) (fa : FA) : FS := fun δ => (fa (frzL' is δ)).bind fun ds => if ds.length = n then (match f ds with
  | some (.lst xs) => if xs.all flatD = true then some (.nx (δ.set i (.o (.lst xs)))) else none
  | _ => none) else none
theorem rep_flat {K : PySem.W.Frag} {F F' : Hp} {v : V} {d : Dat} (h : flatD d = true) (r : Rep K cl F v d) : Rep K cl F' v d := by
  cases r with
  | non => exact .non
  | bl b => exact .bl b
  | int i => exact .int i
  | str x => exact .str x
  | _ => cases h
theorem repL_flat {K : PySem.W.Frag} {F F' : Hp} : ∀ {vs : List V} {ds : List Dat}, ds.all flatD = true → RepL K cl F vs ds → RepL K cl F' vs ds
  | _, _, _, .nil => .nil
  | _, _, h, .cons r t => by
    rw [List.all_cons, Bool.and_eq_true] at h
    exact .cons (rep_flat h.1 r) (repL_flat h.2 t)
theorem pb_asgOT {CX : CXT} {E : XK} {k : Nat} {f : Addr} {fd : FuncData} {ps : List Str} {fo : List Dat → Option O0} (is : List Nat) (Fo : FnOk X.prog X.w X.K X.mg X.base CX k f fd ps (spO X.K cl ps.length fo)) (hr : Room k X.A) (hg : Gl X x) (hm : X.mg x = some (.ref f)) (hk : PySem.W.keepIn X.K (.ref f) = true) (hb : Binds X.K fd ps []) (hxp : Passes CX X E) (ha : PPA cl X (e :: es) fl)
    (hN : X.N.Nodup) (hi : X.N[i]? = some y) (hy : Loc X.env.scope y)
    (hdb : (x == ("__debug__" : Str)) = false := by decide) (he : starEach (e :: es) X.env = (false, eval e X.env) :: starEach es X.env := by rfl) (hpl : (backTo pos (starEach es X.env)).any (·.1) = false := by rfl)
    (hs : swapsWith (.Call (.Name x p) (e :: es) [] pos) (some (.Name y pos')) pos2.line X.env = pure false := by rfl)
    (hf : X.fn y = true ∨ X.env.scope.names.lookup y = some .local := by first | exact .inl rfl | exact .inr rfl | assumption) :
    PB1 cl X (.Assign [.Name y pos'] (.Call (.Name x p) (e :: es) [] pos) pos2) (sAsgOT is i ps.length fo fl) := fun pins s σ H D I h => by
  obtain ⟨B, F0, P, δ, o, hw, ⟨F, ω, sr⟩, out⟩ := h
  obtain ⟨ds, hd, hw⟩ := bind1 hw
  split at hw
  · rename_i hl
    split at hw
    · rename_i xs hq
      split at hw
      · rename_i hfl
        obtain rfl := Option.some.inj hw
        obtain ⟨Fz, ωz, srz⟩ := frz_many is sr
        refine ps_set hN hi hy (pe_call Fo hr hg hm hk hb .nil hxp ha hdb he hpl) hs hf pins s σ H D I ⟨_, Fz, _, ds, hd, srz.er, fun vs H1 F1 s1 s1' g1 r1 => ?_⟩
        show spO X.K cl ps.length fo (vs ++ []) H1 _ E
        rw [List.append_nil]
        refine ⟨by rw [r1.length]; exact hl, ds, .lst xs, F1, hq, s1', r1, fun v H' r => ?_⟩
        obtain ⟨F2, ω2, l2, b1, b2, b3, b4, pp, ws, rfl, w2, hH, rr⟩ := r
        have sAll := s1.trans b1
        have hn := b4 pp w2
        have hF : F pp = none := by
          have : H pp = none := s1.free hn.2
          exact none_of sr.er.sub this
        have sr1 := sr.step sAll (sr.er.sub.trans sAll) Grow.refl
        have keep : ∀ a l', ω a = some l' → updL ω pp (i, none) a = some l' := fun a l' q => by
          obtain ⟨_, o', z⟩ := sr.er.own a l' q
          rw [updL_ne (ne_of_none z (s1.free hn.2))]
          exact q
        refine out _ _ ⟨F, updL ω pp (i, none), SR.set (i := i) ⟨⟨sr1.er.sub, fun a l' q => ?_, sr1.er.len, fun j t ht => (sr1.er.at_ j t ht).lab keep⟩, sr1.base, sr1.grow, sr1.pin, fun a l' q => ?_⟩ ⟨.ref pp, rfl, pp, ws, rfl, updL_same, hH, repL_flat hfl rr⟩⟩
        · by_cases hap : a = pp
          · subst hap; exact ⟨hF, _, hH⟩
          · rw [show (⟨updL ω pp (i, none), fun i => i⟩ : Ow).w a = ω a from updL_ne hap] at q
            exact sr1.er.own a l' q
        · by_cases hap : a = pp
          · subst hap; exact none_of sr.base (s1.free hn.2)
          · rw [updL_ne hap] at q; exact sr.fresh a l' q
      · cases hw
    · cases hw
  · cases hw
theorem pb_asgOCT {k j n : Nat} {ps : List Str} {fo : List Dat → Option O0} (is : List Nat) (C : CalO X.prog X.w X.K X.mg X.base cl x k ps fo) (hr : Room j X.A) (hg : Gl X x) (ha : PPA cl X (e :: es) fl) (hN : X.N.Nodup) (hi : X.N[i]? = some y) (hy : Loc X.env.scope y) (hj : k ≤ j := by decide) (hn : ps.length = n := by rfl) (hx : Passes CX0 X E0 := by exact pass0)
    (hdb : (x == ("__debug__" : Str)) = false := by decide +kernel) (he : starEach (e :: es) X.env = (false, eval e X.env) :: starEach es X.env := by rfl) (hpl : (backTo pos (starEach es X.env)).any (·.1) = false := by rfl)
    (hs : swapsWith (.Call (.Name x p) (e :: es) [] pos) (some (.Name y pos')) pos2.line X.env = pure false := by rfl)
    (hf : X.fn y = true ∨ X.env.scope.names.lookup y = some .local := by first | exact .inl rfl | exact .inr rfl | assumption) :
    PB1 cl X (.Assign [.Name y pos'] (.Call (.Name x p) (e :: es) [] pos) pos2) (sAsgOT is i n fo fl) := by
  obtain ⟨f, fd, h1, h2, h3, h4⟩ := C.ex
  subst hn
  exact pb_asgOT is h1 (hr.mono hj) hg h2 h3 h4 hx ha hN hi hy hdb he hpl hs hf
/-! ### a def that calls itself, a few levels deep: at the last one it is not claimed at all -/
theorem fn_none {P : Program} {w : World} {K : PySem.W.Frag} {mg : Str → Option Value} {base : Heap} {f : Addr} {fd : FuncData} {ps : List Str} : FnOk P w K mg base CX0 0 f fd ps (spD K cl ps.length fun _ => none) :=
  ⟨fun vs H Q E h => h.1, fun A outer s H args us vs Q E _ _ _ _ h => by obtain ⟨_, _, _, _, h, _⟩ := h; cases h⟩
end
end MB

namespace MB
open PySem PySem.Spec PyProof.Rows L2
/-! ### range(a, b, c), c above 0 -/
def Itr3 (lo c : Int) (n : Nat) : It := ⟨fun i _ => i < n, fun i H x H' => H' = H ∧ x = .int (lo + (i : Nat) * c), fun i _ => n ≤ i⟩
theorem turn_range3 {P : Program} {w : World} {K : PySem.W.Frag} {tg : Expr} (it : Addr) (lo c : Int) (n : Nat) : Turn P w K tg (Itr3 lo c n) [it] it (fun i h => IsRangeIter h it (lo + (i : Nat) * c) ((n : Int) - (i : Nat)) c) where
  mem := by simp
  obj := fun i h st b hb => by
    have e : b = it := by simpa using hb
    subst e
    exact ⟨_, st, fun v z => by
      have z' : Data.fields _ = Data.cell v := z
      cases z'⟩
  keep := fun i h h' st k => k it (by simp) _ st
  item := by
    intro X hP hw hK hc i pins s σ H E I hf st hg
    subst hP hw hK
    obtain ⟨f0, f1, f2, f3, f4, f5⟩ := hf it (by simp)
    have W := Walks.range (prog := X.prog) (w := X.w) (I.ok.hd hc) it lo c n
    refine W.item i s _ _ hg st fun v h' tk hv st' kk => ?_
    obtain ⟨t, rfl⟩ := hv
    have I1 : L2.Inv X pins σ H { s with heap := h', toks := tk } := I.turned (fun b o hb e => kk b o (by simpa using hb) e) f0 f1 f3 f4 f5
    exact ⟨_, rfl, go_of (s := { s with heap := h', toks := tk }) (n := "range_iterator") st' rfl rfl (by decide) ⟨.int (lo + (i : Nat) * c), H, I1, ⟨t, rfl⟩, ⟨rfl, rfl⟩, st', fun b hb => (hf b hb).1⟩⟩
  done := by
    intro X hP hw hK hc i pins s σ H E I hf st hg
    subst hP hw hK
    obtain ⟨f0, f1, f2, f3, f4, f5⟩ := hf it (by simp)
    exact wpAny_pyNext_range_end (I.ok.hd hc) st (by have : n ≤ i := hg; omega) fun h' eb => ⟨rfl, I.turned (t' := s.toks) (fun b o hb e => eb b o hb e) f0 f1 f3 f4 f5⟩
  self := fun _ _ _ _ _ st h => wpAny_pyIter_rangeiter st h
def rg3N (lo hi c : Int) : Nat := if lo < hi then ((hi - lo - 1) / c + 1).toNat else 0
theorem div_le_self' {x c : Int} (hx : 0 ≤ x) (hc : 0 < c) : 0 ≤ x / c ∧ x / c ≤ x := by
  have h1 := Int.ediv_nonneg hx (Int.le_of_lt hc)
  have h2 := Int.mul_ediv_self_le (x := x) (k := c) (by omega)
  have h3 : 1 * (x / c) ≤ c * (x / c) := Int.mul_le_mul_of_nonneg_right (by omega) h1
  omega
theorem size_rg3 {lo hi c : Int} (hc : 0 < c) : Builtin.Range.rangeSize lo hi c = (rg3N lo hi c : Nat) := by
  unfold Builtin.Range.rangeSize rg3N
  rw [if_pos hc]
  split
  · rename_i h
    have := (div_le_self' (x := hi - lo - 1) (by omega) hc).1
    omega
  · rfl
theorem small_rg3 {lo hi c : Int} (h1 : -(2 ^ 60) ≤ lo ∧ lo < 2 ^ 60) (h2 : -(2 ^ 60) ≤ hi ∧ hi < 2 ^ 60) (hc : 0 < c ∧ c < 2 ^ 60) : Builtin.Range.small lo hi c = true := by
  have hs : 0 ≤ Builtin.Range.rangeSize lo hi c ∧ Builtin.Range.rangeSize lo hi c < 2 ^ 62 := by
    unfold Builtin.Range.rangeSize
    rw [if_pos hc.1]
    split
    · have := div_le_self' (x := hi - lo - 1) (by omega) hc.1
      omega
    · omega
  have fit : ∀ x : Int, -(2 ^ 62) ≤ x → x < 2 ^ 62 → Builtin.Range.rangeFitsLong x = true := fun x a b => by
    unfold Builtin.Range.rangeFitsLong
    rw [Bool.and_eq_true]
    exact ⟨decide_eq_true (by omega), decide_eq_true (by omega)⟩
  unfold Builtin.Range.small
  rw [fit lo (by omega) (by omega), fit hi (by omega) (by omega), fit c (by omega) (by omega), fit _ (by omega) hs.2, if_pos hc.1, fit (hi + (c - 1)) (by omega) (by omega)]
  simp
section
variable {cl : Nat → Addr} {X : Cx} {tg a b c : Expr} {fa fb fc : FE} {pos p : Pos}
theorem range_it3 {pins : List (Addr × Obj)} {σ : St} {H : Hp} {s : Shared} {R : It → Hp → Prop} {E : Value → Shared → Prop} {lo hi st : Int} {t u v : Tok} {tk : Nat} (I : L2.Inv X pins σ H s) (h1 : -(2 ^ 60) ≤ lo ∧ lo < 2 ^ 60) (h2 : -(2 ^ 60) ≤ hi ∧ hi < 2 ^ 60) (hc : 0 < st ∧ st < 2 ^ 60)
    (q : R (Itr3 lo st (rg3N lo hi st)) H) : wpAny (model X.prog X.w) X.A (pyIter (.ref s.heap.objs.size)) (PIE X pins σ tg R) E { s with heap := s.heap.push { cls := .type "range", data := .fields #[.int lo t, .int hi u, .int st v] }, toks := tk } := by
  refine wpAny_pyIter_range (IsRange.new ..) (small_rg3 h1 h2 hc) ?_
  have I1 : L2.Inv X pins σ H { s with heap := s.heap.push { cls := .type "range", data := .fields #[.int lo t, .int hi u, .int st v] }, toks := tk } := I.kept fun b o e => Heap.get?_push_of_some _ e
  refine ⟨(s.heap.push { cls := .type "range", data := .fields #[.int lo t, .int hi u, .int st v] }).objs.size, [(s.heap.push { cls := .type "range", data := .fields #[.int lo t, .int hi u, .int st v] }).objs.size], _, _, H, rfl,
    I1.kept (t' := tk) fun b o e => Heap.get?_push_of_some _ e, turn_range3 _ lo st (rg3N lo hi st), ?_, fun b hb => ?_, q⟩
  · have e1 : lo + ((0 : Nat) : Int) * st = lo := by simp
    have e2 : ((rg3N lo hi st : Nat) : Int) - ((0 : Nat) : Int) = Builtin.Range.rangeSize lo hi st := by rw [size_rg3 hc.1]; omega
    show IsRangeIter _ _ (lo + ((0 : Nat) : Int) * st) (((rg3N lo hi st : Nat) : Int) - ((0 : Nat) : Int)) st
    rw [e1, e2]
    exact Heap.get?_push_size _ rfl
  · have e : b = (s.heap.push { cls := .type "range", data := .fields #[.int lo t, .int hi u, .int st v] }).objs.size := by simpa using hb
    subst e
    exact I1.fpOk (Nat.le_refl _) (I1.hok.fresh (Nat.le_refl _))
def rngD3 (lo c : Int) (n : Nat) : List Dat := (List.range n).map fun j => Dat.int (lo + (j : Nat) * c)
theorem walk_range3 {K : PySem.W.Frag} {F : Hp} (lo c : Int) (n : Nat) : Walk K cl F (Itr3 lo c n) (rngD3 lo c n) where
  go := fun i H _ hi => show i < n by simpa [rngD3] using hi
  stop := fun i H _ hi => show n ≤ i by simpa [rngD3] using hi
  yld := fun i H Fc x H' d s1 s2 hd y => by
    obtain ⟨rfl, rfl⟩ := y
    refine ⟨Fc, Same.refl _, s2, Grow.refl, ?_⟩
    have : i < n := by
      have := (List.getElem?_eq_some_iff.mp hd).1
      simpa [rngD3] using this
    have e : (rngD3 lo c n)[i]? = some (.int (lo + (i : Nat) * c)) := by simp [rngD3, this]
    rw [e] at hd
    cases hd
    exact .int _
def iRg3 (fa fb fc : FE) : FA := fun δ => match fa δ, fb δ, fc δ with
  | some (.int i), some (.int j), some (.int k) => if (-(2 ^ 60) ≤ i ∧ i < 2 ^ 60) ∧ (-(2 ^ 60) ≤ j ∧ j < 2 ^ 60) ∧ (0 < k ∧ k < 1073741824) then some (rngD3 i k (rg3N i j k)) else none
  | _, _, _ => none
theorem ppi_range3 (hg : Gl X "range") (hm : X.mg "range" = none) (ha : PP cl X a fa) (hb : PP cl X b fb) (hc : PP cl X c fc) (hs : starEach [a, b, c] X.env = (false, eval a X.env) :: starEach [b, c] X.env := by rfl) (hs2 : starEach [b, c] X.env = (false, eval b X.env) :: starEach [c] X.env := by rfl) (hs3 : starEach [c] X.env = (false, eval c X.env) :: starEach [] X.env := by rfl)
    (hp : (backTo pos (starEach [b, c] X.env)).any (·.1) = false := by rfl) : PPI cl X tg (.Call (.Name "range" p) [a, b, c] [] pos) (iRg3 fa fb fc) := fun pins s σ H R I h => by
  obtain ⟨δ, F, ω, ds, hf, er, k⟩ := h
  unfold iRg3 at hf
  split at hf
  · rename_i i j st e1 e2 e3
    split at hf
    · rename_i cc
      cases hf
      have hA : PA X [a, b, c] (tPA X.K cl (aC fa (aC fb (aC fc aN)))) := ppa_cons ha (ppa_cons hb (ppa_cons hc ppa_nil hs3) hs2) hs
      refine Call_ (ld_blt I hg hm boot_range (PyProof.Rows.callWith_type1 (thn (hA pos pins s σ H (fun vs H1 => ∃ F1, Same H H1 ∧ Same F1 H1 ∧ Grow F H F1 ∧ vs = [.int i, .int j, .int st]) I ⟨δ, F, ω, [.int i, .int j, .int st], by unfold aC aN; rw [e1, e2, e3]; rfl, er, fun vs H1 F1 s1 s1' g1 r1 => ⟨F1, s1, s1', g1, by
        cases r1 with | cons q1 r1 => cases r1 with | cons q2 r1 => cases r1 with | cons q3 r1 => cases r1; rw [q1.int_inv, q2.int_inv, q3.int_inv]⟩⟩) fun us s1 ⟨vs, H1, I1, r1, F1, b1, b2, b3, ev⟩ => ?_) hs hp))
      subst ev
      cases r1 with
      | cons r rr =>
        cases rr with
        | cons r' rr =>
          cases rr with
          | cons r'' rr =>
            cases rr
            obtain ⟨t, rfl⟩ := r
            obtain ⟨t', rfl⟩ := r'
            obtain ⟨t'', rfl⟩ := r''
            refine call_range_3 (by omega) ?_ (.inl (PyProof.noPylong_small (by omega)))
            exact range_it3 I1 cc.1 cc.2.1 ⟨cc.2.2.1, by omega⟩ (k _ H1 F1 b1 b2 b3 (walk_range3 i st _))
    · cases hf
  · cases hf
theorem pp_globI {x : Str} {i : Int} (hg : Gl X x) (hm : ∃ t, X.mg x = some (.int i t)) (hd : (x == ("__debug__" : Str)) = false := by decide +kernel) : PP cl X (.Name x pos) (eC (.int i)) := fun pins s σ H Q I h => by
  obtain ⟨δ, F, ω, d, hf, er, k⟩ := h
  obtain rfl : Dat.int i = d := Option.some.inj hf
  obtain ⟨t, hm⟩ := hm
  exact pe_glob (v := .int i) hg hm ⟨t, rfl⟩ hd pins s σ H Q I (k.here er.sub (.int i))
end
end MB

namespace MB
open PySem PySem.Spec PyProof.Rows L2
/-! ### running the functions over data -/
section
variable {δ δ' δ'' : Sto} {fa fb fc fe fk fv : FE} {fl : FA} {x y z d w : Dat} {xs ys : List Dat} {f g : FS} {o : Out} {t u : FT} {b b' : Bool} {i j n : Nat} {P : Out → Prop}
theorem ev_C : eC d δ = some d := rfl
theorem ev_V (h : δ[i]? = some (.o (.val d))) : eV i δ = some d := by unfold eV; rw [h]
theorem ev_1 {g : Dat → Option Dat} (ha : fa δ = some x) (hg : g x = some z) : e1 g fa δ = some z := by unfold e1; rw [ha]; exact hg
theorem ev_2 {g : Dat → Dat → Option Dat} (ha : fa δ = some x) (hb : fb δ = some y) (hg : g x y = some z) : e2 g fa fb δ = some z := by unfold e2; rw [ha, hb]; exact hg
theorem ev_3 {g g' : Dat → Dat → Option Dat} (ha : fa δ = some x) (hb : fb δ = some y) (hg : g x y = some (.bl true)) (hc : fc δ = some w) (hg' : g' y w = some z) : e3 g g' fa fb fc δ = some z := by
  unfold e3; rw [ha, hb]; simp only [Option.bind_some]; rw [hg]; simp only [Option.bind_some]; rw [hc]; exact hg'
theorem ev_aN : aN δ = some [] := rfl
theorem ev_aC (h : fe δ = some x) (hr : fl δ = some xs) : aC fe fl δ = some (x :: xs) := by unfold aC; rw [h, hr]; rfl
theorem ev_aS {ss : List Str} : aStrs ss δ = some (ss.map .str) := rfl
theorem ev_T (h : fl δ = some xs) (hl : Nat.ble xs.length 1000 = true) : eT fl δ = some (.tup xs) := by
  unfold eT; rw [h]; exact if_pos (Nat.le_trans (Nat.le_of_ble_eq_true hl) (by decide))
theorem ev_L (h : fl δ = some xs) (hl : Nat.ble xs.length 1000 = true) : eL fl δ = some (.lst xs) := by
  unfold eL; rw [h]; exact if_pos (Nat.le_trans (Nat.le_of_ble_eq_true hl) (by decide))
theorem ev_call {f : List Dat → Option Dat} (h : fl δ = some xs) (hn : xs.length = n) (hf : f xs = some d) : eCall n f fl δ = some d := by
  unfold eCall; rw [h]; exact (if_pos hn).trans hf
theorem ev_B {g : List Dat → Option Dat} (h : fl δ = some xs) (hg : g xs = some d) : eB g fl δ = some d := by unfold eB; rw [h]; exact hg
theorem ev_if_t (h : t δ = some true) (h2 : fa δ = some d) : eIf t fa fb δ = some d := by unfold eIf; rw [h]; exact h2
theorem ev_if_f (h : t δ = some false) (h2 : fb δ = some d) : eIf t fa fb δ = some d := by unfold eIf; rw [h]; exact h2
theorem ev_and_t (h : fa δ = some (.bl true)) (h2 : fb δ = some d) : eAnd fa fb δ = some d := by unfold eAnd; rw [h]; exact h2
theorem ev_and_f (h : fa δ = some (.bl false)) : eAnd fa fb δ = some (.bl false) := by unfold eAnd; rw [h]; rfl
theorem ev_not : dNot (.bl b) = some (.bl (!b)) := rfl
/-! ints -/
theorem dAdd_int {i j : Int} : dAdd (.int i) (.int j) = some (.int (i + j)) := rfl
theorem dSub_int {i j : Int} : dSub (.int i) (.int j) = some (.int (i - j)) := rfl
theorem dLt_int {i j : Int} : dLt (.int i) (.int j) = some (.bl (decide (i < j))) := rfl
theorem dLe_int {i j : Int} : dLe (.int i) (.int j) = some (.bl (decide (i ≤ j))) := rfl
theorem dGt_int {i j : Int} : dGt (.int i) (.int j) = some (.bl (decide (j < i))) := rfl
theorem dGe_int {i j : Int} : dGe (.int i) (.int j) = some (.bl (decide (j ≤ i))) := rfl
theorem dMulR {i j : Int} (h : -18446744073709551616 < j ∧ j < 18446744073709551616) : dMul (.int i) (.int j) = some (.int (i * j)) := by
  unfold dMul gI cMul; exact if_pos (decide_eq_true (.inr h))
theorem dMulL {i j : Int} (h : -18446744073709551616 < i ∧ i < 18446744073709551616) : dMul (.int i) (.int j) = some (.int (i * j)) := by
  unfold dMul gI cMul; exact if_pos (decide_eq_true (.inl h))
theorem dMod_int {i j : Int} (h : 0 < j) : dMod (.int i) (.int j) = some (.int (i % j)) := by unfold dMod gI cMod; exact if_pos (decide_eq_true h)
theorem dDiv_int {i j : Int} (h : 0 < j ∧ j < 1267650600228229401496703205376) : dDiv (.int i) (.int j) = some (.int (i / j)) := by unfold dDiv gI cDiv; exact if_pos (decide_eq_true h)
theorem dPow_10 {j : Int} (h : 0 ≤ j ∧ j ≤ 1000000) : dPow (.int 10) (.int j) = some (.int (10 ^ j.toNat)) := by unfold dPow gI cPow; exact if_pos (decide_eq_true ⟨h.1, h.2, by decide⟩)
theorem dEq_int {i j : Int} : dEq (.int i) (.int j) = some (.bl (i == j)) := rfl
theorem dNe_int {i j : Int} : dNe (.int i) (.int j) = some (.bl (!(i == j))) := rfl
theorem dEq_str {i j : Str} : dEq (.str i) (.str j) = some (.bl (i == j)) := rfl
theorem int_bl : dIntB [.bl b] = some (.int (if b then 1 else 0)) := rfl
/-! lists -/
theorem atI_of {α : Type} {xs : List α} {i : Int} {d : α} (h0 : 0 ≤ i) (h : xs[i.toNat]? = some d) : atI xs i = some d := by
  have hl : i.toNat < xs.length := (List.getElem?_eq_some_iff.mp h).1
  unfold atI ixN
  rw [if_pos h0, if_pos (by omega)]
  exact h
theorem ix_l {i : Int} (h0 : 0 ≤ i) (h : xs[i.toNat]? = some d) : dIx (.lst xs) (.int i) = some d := atI_of h0 h
theorem ix_t {i : Int} (h0 : 0 ≤ i) (h : xs[i.toNat]? = some d) : dIx (.tup xs) (.int i) = some d := atI_of h0 h
def ati (ns : List Int) (i : Int) : Int := ns.getD i.toNat 0
def ats (ns : List Str) (i : Int) : Str := ns.getD i.toNat ""
theorem ix_ints {ns : List Int} {i : Int} (h0 : 0 ≤ i) (h1 : i < (ns.length : Nat)) : dIx (.lst (ns.map .int)) (.int i) = some (.int (ati ns i)) := by
  refine ix_l h0 ?_
  have h : i.toNat < ns.length := by omega
  rw [List.getElem?_map, List.getElem?_eq_getElem h]
  unfold ati
  rw [List.getD_eq_getElem?_getD, List.getElem?_eq_getElem h]
  rfl
theorem ix_strs {ns : List Str} {i : Int} (h0 : 0 ≤ i) (h1 : i < (ns.length : Nat)) : dIx (.lst (ns.map .str)) (.int i) = some (.str (ats ns i)) := by
  refine ix_l h0 ?_
  have h : i.toNat < ns.length := by omega
  rw [List.getElem?_map, List.getElem?_eq_getElem h]
  unfold ats
  rw [List.getD_eq_getElem?_getD, List.getElem?_eq_getElem h]
  rfl
theorem ix_i2 {a b i : Int} (h : 0 ≤ i ∧ i < 2) : dIx (.lst [.int a, .int b]) (.int i) = some (.int (ati [a, b] i)) := ix_ints (ns := [a, b]) h.1 h.2
theorem ix_i3 {a b c i : Int} (h : 0 ≤ i ∧ i < 3) : dIx (.lst [.int a, .int b, .int c]) (.int i) = some (.int (ati [a, b, c] i)) := ix_ints (ns := [a, b, c]) h.1 h.2
theorem ix_i4 {a b c d i : Int} (h : 0 ≤ i ∧ i < 4) : dIx (.lst [.int a, .int b, .int c, .int d]) (.int i) = some (.int (ati [a, b, c, d] i)) := ix_ints (ns := [a, b, c, d]) h.1 h.2
theorem ix_i5 {a b c d e i : Int} (h : 0 ≤ i ∧ i < 5) : dIx (.lst [.int a, .int b, .int c, .int d, .int e]) (.int i) = some (.int (ati [a, b, c, d, e] i)) := ix_ints (ns := [a, b, c, d, e]) h.1 h.2
theorem ix_i6 {a b c d e f i : Int} (h : 0 ≤ i ∧ i < 6) : dIx (.lst [.int a, .int b, .int c, .int d, .int e, .int f]) (.int i) = some (.int (ati [a, b, c, d, e, f] i)) := ix_ints (ns := [a, b, c, d, e, f]) h.1 h.2
theorem ix_s3 {a b c : Str} {i : Int} (h : 0 ≤ i ∧ i < 3) : dIx (.lst [.str a, .str b, .str c]) (.int i) = some (.str (ats [a, b, c] i)) := ix_strs (ns := [a, b, c]) h.1 h.2
theorem ati_all {P : Int → Prop} {ns : List Int} {k : Int} (h : ∀ x ∈ ns, P x) (h0 : P 0) : P (ati ns k) := by
  unfold ati
  rw [List.getD_eq_getElem?_getD]
  cases e : ns[k.toNat]? with
  | none => exact h0
  | some v => exact h v (List.mem_of_getElem? e)
theorem ati_in {P : Int → Prop} {ns : List Int} {k : Int} (h : ∀ x ∈ ns, P x) (h0 : 0 ≤ k) (hk : k < (ns.length : Nat)) : P (ati ns k) := by
  unfold ati
  have hk : k.toNat < ns.length := by omega
  rw [List.getD_eq_getElem?_getD, List.getElem?_eq_getElem hk]
  exact h _ (List.getElem_mem hk)
theorem ats_in {P : Str → Prop} {ns : List Str} {k : Int} (h : ∀ x ∈ ns, P x) (h0 : 0 ≤ k) (hk : k < (ns.length : Nat)) : P (ats ns k) := by
  unfold ats
  have hk : k.toNat < ns.length := by omega
  rw [List.getD_eq_getElem?_getD, List.getElem?_eq_getElem hk]
  exact h _ (List.getElem_mem hk)
theorem getD_all {P : Int → Prop} {ns : List Int} {k : Nat} (h : ∀ x ∈ ns, P x) (h0 : P 0) : P (ns.getD k 0) := by
  rw [List.getD_eq_getElem?_getD]
  cases e : ns[k]? with
  | none => exact h0
  | some v => exact h v (List.mem_of_getElem? e)
theorem getD_in {P : Int → Prop} {ns : List Int} {k : Nat} (h : ∀ x ∈ ns, P x) (hk : k < ns.length) : P (ns.getD k 0) := by
  rw [List.getD_eq_getElem?_getD, List.getElem?_eq_getElem hk]
  exact h _ (List.getElem_mem hk)
theorem len_l : dLenB [.lst xs] = some (.int (xs.length : Nat)) := rfl
theorem len_t : dLenB [.tup xs] = some (.int (xs.length : Nat)) := rfl
/-! tests -/
theorem tv_1 (h : fa δ = some (.bl b)) : b1 fa δ = some b := by unfold b1; rw [h]
theorem tv_not (h : t δ = some b) : bNot t δ = some (!b) := by unfold bNot; rw [h]; rfl
theorem tv_or_f (h : t δ = some false) (h2 : u δ = some b) : bOr t u δ = some b := by unfold bOr; rw [h]; exact h2
theorem tv_or_t (h : t δ = some true) : bOr t u δ = some true := by unfold bOr; rw [h]; rfl
theorem tv_and_t (h : t δ = some true) (h2 : u δ = some b) : bAnd t u δ = some b := by unfold bAnd; rw [h]; exact h2
theorem tv_or (h : t δ = some b) (h2 : u δ = some b') : bOr t u δ = some (b || b') := by unfold bOr; rw [h]; cases b with | true => rfl | false => exact h2
/-! statements -/
def W (f : FS) (δ : Sto) (P : Out → Prop) : Prop := ∃ o, f δ = some o ∧ P o
theorem W.mono {P P' : Out → Prop} (h : W f δ P) (i : ∀ o, P o → P' o) : W f δ P' := by obtain ⟨o, a, b⟩ := h; exact ⟨o, a, i o b⟩
theorem w_seq (h : f δ = some (.nx δ')) (h2 : W g δ' P) : W (sSeq f g) δ P := by
  obtain ⟨o, a, b⟩ := h2
  refine ⟨o, ?_, b⟩
  unfold sSeq
  rw [h]
  exact a
theorem w_seqW (h : W f δ fun o => ∃ δ', o = .nx δ' ∧ W g δ' P) : W (sSeq f g) δ P := by
  obtain ⟨o, a, δ', rfl, b⟩ := h
  exact w_seq a b
theorem st_asg (h : fe δ = some d) : sAsg i fe δ = some (.nx (δ.set i (.o (.val d)))) := by unfold sAsg; rw [h]; rfl
theorem st_newL : sNewL i δ = some (.nx (δ.set i (.o (.lst [])))) := rfl
theorem st_newT : sNewT i δ = some (.nx (δ.set i (.o (.dT [])))) := rfl
theorem st_newK : sNewK i δ = some (.nx (δ.set i (.o (.dK [])))) := rfl
theorem st_app (hi : δ[i]? = some (.o (.lst xs))) (h : fe δ = some d) (hl : xs.length < 16777216) : sApp i fe δ = some (.nx (δ.set i (.o (.lst (xs ++ [d]))))) := by
  unfold sApp; rw [hi, h]; exact if_pos hl
theorem w_ret (h : fe δ = some d) (p : P (.rt d)) : W (sRet fe) δ P := ⟨.rt d, by unfold sRet; rw [h]; rfl, p⟩
theorem w_retN {xs : List Dat} (h : δ[i]? = some (.o (.lst xs))) (p : P (.ro (.lst xs))) : W (sRetN i) δ P := ⟨_, by unfold sRetN; rw [h], p⟩
theorem w_retT {xs : List (List Key × Dat)} (h : δ[i]? = some (.o (.dT xs))) (p : P (.ro (.dT xs))) : W (sRetN i) δ P := ⟨_, by unfold sRetN; rw [h], p⟩
theorem w_nil (p : P (.nx δ)) : W sNil δ P := ⟨_, rfl, p⟩
theorem w_of (h : f δ = some o) (p : P o) : W f δ P := ⟨o, h, p⟩
theorem w_if (h : t δ = some b) (h1 : b = true → W f δ P) (h2 : b = false → W g δ P) : W (sIf t f g) δ P := by
  cases b with
  | true => obtain ⟨o, a, c⟩ := h1 rfl; exact ⟨o, by unfold sIf; rw [h]; exact a, c⟩
  | false => obtain ⟨o, a, c⟩ := h2 rfl; exact ⟨o, by unfold sIf; rw [h]; exact a, c⟩
theorem w_ifT {is : List Nat} (h : t (frzL' is δ) = some b) (h1 : b = true → W f δ P) (h2 : b = false → W g δ P) : W (sIfT is t f g) δ P := by
  cases b with
  | true => obtain ⟨o, a, c⟩ := h1 rfl; exact ⟨o, by unfold sIfT; rw [h]; exact a, c⟩
  | false => obtain ⟨o, a, c⟩ := h2 rfl; exact ⟨o, by unfold sIfT; rw [h]; exact a, c⟩
theorem w_frz {i : Nat} (h : W f (frzS i δ) P) : W (sFrz i f) δ P := h
theorem forD_inv {g : FG} {fb : FS} (Inv : Nat → Sto → Prop) : ∀ (ds : List Dat) (k : Nat) (δ : Sto), Inv k δ → (∀ i d δ, ds[i]? = some d → Inv (k + i) δ → ∃ δ1, g d δ = some δ1 ∧ W fb δ1 fun o => ∃ δ2, o = .nx δ2 ∧ Inv (k + i + 1) δ2) → ∃ δ', forD g fb ds δ = some (.nx δ') ∧ Inv (k + ds.length) δ'
  | [], k, δ, h, _ => ⟨δ, rfl, h⟩
  | d :: ds, k, δ, h, hs => by
    obtain ⟨δ1, h1, o, h2, δ2, rfl, h3⟩ := hs 0 d δ rfl h
    obtain ⟨δ', h4, h5⟩ := forD_inv Inv ds (k + 1) δ2 h3 fun i d' δ' hi hI => by
      have := hs (i + 1) d' δ' (by simpa using hi) (by rw [show k + (i + 1) = k + 1 + i by omega]; exact hI)
      rw [show k + (i + 1) + 1 = k + 1 + i + 1 by omega] at this
      exact this
    refine ⟨δ', ?_, by rw [List.length_cons, show k + (ds.length + 1) = k + 1 + ds.length by omega]; exact h5⟩
    unfold forD
    rw [h1]
    simp only [Option.bind_some]
    rw [h2]
    exact h4
/-- a for that ends, by what holds between its turns -/
theorem w_for {fi : FA} {g : FG} {fb : FS} {ds : List Dat} (Inv : Nat → Sto → Prop) (hi : fi δ = some ds) (h0 : Inv 0 δ) (hs : ∀ i d δ, ds[i]? = some d → Inv i δ → ∃ δ1, g d δ = some δ1 ∧ W fb δ1 fun o => ∃ δ2, o = .nx δ2 ∧ Inv (i + 1) δ2)
    (h : ∀ δ', Inv ds.length δ' → P (.nx δ')) : W (sFor fi g fb) δ P := by
  obtain ⟨δ', h1, h2⟩ := forD_inv Inv ds 0 δ h0 fun i d δ a b => by
    have := hs i d δ a (by rw [Nat.zero_add] at b; exact b)
    rw [Nat.zero_add]
    exact this
  rw [Nat.zero_add] at h2
  exact ⟨_, by unfold sFor; rw [hi]; exact h1, h δ' h2⟩
theorem rng_get {lo : Int} {n i : Nat} {d : Dat} (h : (rngD lo n)[i]? = some d) : d = .int (lo + (i : Nat)) ∧ i < n := by
  have hl : i < n := by
    have := (List.getElem?_eq_some_iff.mp h).1
    simpa [rngD] using this
  have e : (rngD lo n)[i]? = some (.int (lo + (i : Nat))) := by simp [rngD, hl]
  rw [e] at h
  exact ⟨(Option.some.inj h).symm, hl⟩
theorem rng_len {lo : Int} {n : Nat} : (rngD lo n).length = n := by simp [rngD]
theorem it_rg1 {j : Int} (h : fa δ = some (.int j)) (hj : 0 ≤ j ∧ j < 4611686018427387904) : iRg1 fa δ = some (rngD 0 j.toNat) := by
  unfold iRg1; rw [h]; exact if_pos ⟨by omega, by omega⟩
theorem it_lst (h : fa δ = some (.lst xs)) : iSeq fa δ = some xs := by unfold iSeq; rw [h]
theorem it_enum (h : fa δ = some (.lst xs)) : iEnum fa δ = some (enumD xs) := by unfold iEnum; rw [h]
theorem enum_len : (enumD xs).length = xs.length := by simp [enumD]
/-! defs -/
theorem fn_W {n : Nat} {fb : FS} {ds : List Dat} {P : Dat → Prop} (h : W fb (ini n ds) fun o => ∃ d, endD (some o) = some d ∧ P d) : ∃ d, defF n fb ds = some d ∧ P d := by
  obtain ⟨o, a, d, b, c⟩ := h
  exact ⟨d, by unfold defF; rw [a]; exact b, c⟩
theorem fo_W {n : Nat} {fb : FS} {ds : List Dat} {P : O0 → Prop} (h : W fb (ini n ds) fun o => ∃ d, endO (some o) = some d ∧ P d) : ∃ d, defO n fb ds = some d ∧ P d := by
  obtain ⟨o, a, d, b, c⟩ := h
  exact ⟨d, by unfold defO; rw [a]; exact b, c⟩
end
end MB

namespace MB
open PySem PySem.Spec PyProof.Rows L2
def b_plan : FS := (sSeq (sNewL 2)
      (sSeq (sAsg 3 (eC (.int 0)))
      (sSeq (sFor (iRg3 (eC (.int 0)) (eB dLenB (aC (eV 0) aN)) (eC (.int 12))) (gN 4) (sSeq (sAsg 5 (eSl (eV 0) (oS (eV 4)) (oS (e2 dAdd (eV 4) (eC (.int 12))))))
      (sSeq (sAsg 6 (eB dSumB (aC (eV 5) aN)))
      (sSeq (sAsg 7 (e2 dMul (eV 1) (eB dLenB (aC (eV 5) aN))))
      (sSeq (sAsg 3 (e2 dSub (e2 dAdd (eV 3) (eV 6)) (eV 7)))
      (sApp 2 (eT (aC (eV 6) (aC (eV 7) (aC (eV 3) aN))))))))))
      (sRetN 2))))
def f_plan : List Dat → Option Dat := defF 6 b_plan
def fo_plan : List Dat → Option O0 := defO 6 b_plan
def b_l_mixed : FS := (sSeq (sAsg 2 (e2 dMod (e2 dMul (e2 dAdd (e2 dAdd (e2 dMod (eV 0) (eC (.int 1000000007))) (e2 dMul (eC (.int 7)) (eV 1))) (eC (.int 1))) (eC (.int 48271))) (eC (.int 2147483647))))
      (sRet (e2 dMod (e2 dMul (eV 2) (e2 dAdd (e2 dAdd (e2 dMod (eV 2) (eC (.int 1009))) (eV 1)) (eC (.int 3)))) (eC (.int 998244353)))))
def f_l_mixed : List Dat → Option Dat := defF 1 b_l_mixed
def b_l_draws : FS := (sSeq (sNewL 3)
      (sSeq (sAsg 4 (e2 dDiv (eV 0) (eC (.int 2))))
      (sSeq (sFor (iRg1 (eV 1)) (gN 5) (sIf (b1 (e2 dEq (e2 dMod (eV 0) (eC (.int 2))) (eC (.int 0)))) (sSeq (sApp 3 (e2 dMod (eV 4) (eV 2)))
      (sAsg 4 (e2 dDiv (eV 4) (eV 2)))) (sApp 3 (e2 dMod (eCall 2 f_l_mixed (aC (eCall 2 f_l_mixed (aC (eV 0) (aC (eV 5) aN))) (aC (eC (.int 3)) aN))) (eV 2)))))
      (sRetN 3))))
def f_l_draws : List Dat → Option Dat := defF 3 b_l_draws
def b_l_same (frec : List Dat → Option Dat) : FS := (sSeq (sIf (b1 (e1 isiLT (eV 1))) (sSeq (sIf (bOr (b1 (e2 dNe (e1 isiList (eV 1)) (e1 isiList (eV 0)))) (b1 (e2 dNe (e1 isiTuple (eV 1)) (e1 isiTuple (eV 0))))) (sRet (eC (.bl false))) sNil)
      (sSeq (sIf (b1 (e2 dNe (eB dLenB (aC (eV 0) aN)) (eB dLenB (aC (eV 1) aN)))) (sRet (eC (.bl false))) sNil)
      (sRet (eB dAllB (aC (eComp (iRg1 (eB dLenB (aC (eV 1) aN))) (gN 0) bT (eCall 2 frec (aC (e2 dIx (eV 1) (eV 0)) (aC (e2 dIx (eV 2) (eV 0)) aN))) 1 [0, 1]) aN))))) sNil)
      (sRet (eAnd (e1 isiInt (eV 0)) (eAnd (e1 dNot (e1 isiBool (eV 0))) (e2 dEq (eV 0) (eV 1))))))
def f_l_same_0 : List Dat → Option Dat := fun _ => none
def f_l_same_1 : List Dat → Option Dat := defF 0 (b_l_same f_l_same_0)
def f_l_same_2 : List Dat → Option Dat := defF 0 (b_l_same f_l_same_1)
def f_l_same : List Dat → Option Dat := defF 0 (b_l_same f_l_same_2)
def b_l_totals : FS := (sSeq (sAsg 2 (eCall 3 f_l_draws (aC (e2 dAdd (eV 0) (eV 1)) (aC (eC (.int 62)) (aC (eC (.int 60)) aN)))))
      (sSeq (sAsg 3 (e2 dIx (eL (aC (e2 dIx (eV 2) (eC (.int 60))) (aC (e2 dMul (eC (.int 12)) (e2 dMod (e2 dIx (eV 2) (eC (.int 60))) (eC (.int 6)))) (aC (e2 dMod (e2 dIx (eV 2) (eC (.int 60))) (eC (.int 13))) (aC (e2 dIx (eV 2) (eC (.int 60))) aN))))) (e2 dMod (e2 dIx (eV 2) (eC (.int 61))) (eC (.int 4)))))
      (sSeq (sNewL 4)
      (sSeq (sFor (iSeq (eSl (eV 2) oN (oS (eV 3)))) (gN 5) (sApp 4 (e2 dIx (eL (aC (eV 5) (aC (e2 dSub (e2 dMul (eV 5) (e2 dPow (eC (.int 10)) (eC (.int 10)))) (eV 5)) (aC (e2 dSub (eC (.int 30)) (eV 5)) (aC (e2 dSub (eC (.int 0)) (e2 dMul (eV 5) (e2 dPow (eC (.int 10)) (eC (.int 9))))) aN))))) (e2 dMod (e2 dDiv (e2 dIx (eV 2) (eC (.int 61))) (eC (.int 4))) (eC (.int 4))))))
      (sRetN 4)))))
def f_l_totals : List Dat → Option Dat := defF 4 b_l_totals
def b_law : FS := (sSeq (sFor (iEnum (e2 dAdd (eSl (eV 0) oN (oS (eC (.int 20)))) (eL (aC (eB dLenB (aC (eV 0) aN)) aN)))) (gT 2 (gsC (gN 1) (gsC (gN 2) gsN))) (sSeq (sAsg 3 (eCall 2 f_l_totals (aC (eV 2) (aC (eV 1) aN))))
      (sSeq (sAsg 4 (eCall 2 f_l_mixed (aC (eV 2) (aC (e2 dAdd (eC (.int 5)) (eV 1)) aN))))
      (sSeq (sAsg 5 (e2 dIx (eL (aC (e2 dMod (e2 dDiv (eV 4) (eC (.int 3))) (eC (.int 100))) (aC (eC (.int 0)) (aC (e2 dMod (eV 2) (e2 dPow (eC (.int 10)) (eC (.int 12)))) aN)))) (e2 dMod (eV 4) (eC (.int 3)))))
      (sSeq (sNewL 6)
      (sSeq (sFor (iRg1 (eB dLenB (aC (eV 3) aN))) (gN 7) (sIf (bOr (b1 (e2 dEq (e2 dMod (eV 7) (eC (.int 12))) (eC (.int 11)))) (b1 (e2 dEq (eV 7) (e2 dSub (eB dLenB (aC (eV 3) aN)) (eC (.int 1)))))) (sSeq (sAsg 8 (eSl (eV 3) (oS (e2 dSub (eV 7) (e2 dMod (eV 7) (eC (.int 12))))) (oS (e2 dAdd (eV 7) (eC (.int 1))))))
      (sApp 6 (eT (aC (eB dSumB (aC (eV 8) aN)) (aC (e2 dMul (eV 5) (eB dLenB (aC (eV 8) aN))) (aC (e2 dSub (eB dSumB (aC (eSl (eV 3) oN (oS (e2 dAdd (eV 7) (eC (.int 1))))) aN)) (e2 dMul (eV 5) (e2 dAdd (eV 7) (eC (.int 1))))) aN)))))) sNil))
      (sSeq (sAsg 9 (eB dListB (aC (eV 3) aN)))
      (sFor (iRg1 (eC (.int 2))) (gN 10) (sSeq (sAsgO 11 2 fo_plan (aC (eV 9) (aC (eV 5) aN)))
      (sSeq (sIfT [11, 6] (bOr (bNot (b1 (eCall 2 f_l_same (aC (eV 11) (aC (eV 6) aN))))) (b1 (e2 dNe (eV 9) (eV 3)))) (sRet (eC (.bl false))) sNil)
      (sApp 11 (eC (.int 7)))))))))))))
      (sRet (eC (.bl true))))
def f_law : List Dat → Option Dat := defF 11 b_law
end MB

namespace MB
open PySem PySem.Spec PyProof.Rows L2
local macro_rules | `(tactic| walk_at "ev1") => `(tactic| first
  | with_reducible assumption
  | with_reducible exact ev_C
  | ((with_reducible apply ev_V); exact rfl)
  | with_reducible apply ev_2
  | with_reducible apply ev_1
  | with_reducible apply ev_call
  | with_reducible apply ev_B
  | with_reducible exact ev_aN
  | with_reducible apply ev_aC
  | with_reducible exact ev_aS
  | with_reducible apply ev_T
  | with_reducible apply ev_L
  | with_reducible exact dAdd_int
  | with_reducible exact dSub_int
  | with_reducible exact dMulR (by omega)
  | with_reducible exact dMulL (by omega)
  | with_reducible exact dMod_int (by omega)
  | with_reducible exact dDiv_int (by omega)
  | with_reducible exact dPow_10 (by omega)
  | with_reducible exact dEq_int
  | with_reducible exact dNe_int
  | with_reducible exact dLt_int
  | with_reducible exact dLe_int
  | with_reducible exact dGt_int
  | with_reducible exact dGe_int
  | with_reducible exact int_bl
  | with_reducible exact len_l
  | with_reducible exact len_t
  | with_reducible exact ix_i2 (by omega)
  | with_reducible exact ix_i3 (by omega)
  | with_reducible exact ix_i4 (by omega)
  | with_reducible exact ix_i5 (by omega)
  | with_reducible exact ix_i6 (by omega)
  | with_reducible exact ix_s3 (by omega)
  | with_reducible exact ix_ints (by omega) (by omega)
  | with_reducible exact ix_strs (by omega) (by omega)
  | with_reducible apply tv_1
  | with_reducible apply tv_not
  | (show Nat.ble _ _ = true; exact rfl)
  | (show List.length _ = _; exact rfl))
local macro_rules | `(tactic| walk_at "ev") => `(tactic| repeat' walk_at "ev1")
theorem sum_l {ns : List Int} : dSumB [.lst (ns.map .int)] = some (.int ns.sum) := by
  show (intsD (ns.map .int)).bind _ = _
  rw [intsD_map]
  rfl
/-! ### the draws -/
theorem mixed_ok (c k : Int) (h : 0 ≤ k ∧ k ≤ 1000000000000) : ∃ m, f_l_mixed [.int c, .int k] = some (.int m) ∧ 0 ≤ m ∧ m < 998244353 := by
  have hq : 0 ≤ (c % 1000000007 + 7 * k + 1) * 48271 % 2147483647 ∧ (c % 1000000007 + 7 * k + 1) * 48271 % 2147483647 < 2147483647 := by omega
  generalize hw : (c % 1000000007 + 7 * k + 1) * 48271 % 2147483647 = q at hq
  obtain ⟨d, h1, m, h2, h3⟩ : ∃ d, f_l_mixed [.int c, .int k] = some d ∧ ∃ m, d = .int m ∧ 0 ≤ m ∧ m < 998244353 := by
    refine fn_W (w_seq (st_asg (d := .int q) ?_) (w_ret (d := .int (q * (q % 1009 + k + 3) % 998244353)) ?_ ⟨_, rfl, _, rfl, ?_⟩))
    · rw [← hw]
      walk_at "ev"
    · walk_at "ev"
    · omega
  subst h2
  exact ⟨m, h1, h3⟩
theorem draws_ok (c : Int) (n : Nat) (size : Int) (hn : n ≤ 1000) (hs : 0 < size ∧ size < 1073741824) :
    ∃ ns : List Int, f_l_draws [.int c, .int (n : Nat), .int size] = some (.lst (ns.map .int)) ∧ ns.length = n ∧ ∀ x ∈ ns, 0 ≤ x ∧ x < size := by
  obtain ⟨d, h1, ns, h2, h3⟩ : ∃ d, f_l_draws [.int c, .int (n : Nat), .int size] = some d ∧ ∃ ns : List Int, d = .lst (ns.map .int) ∧ ns.length = n ∧ ∀ x ∈ ns, 0 ≤ x ∧ x < size := by
    refine fn_W (w_seq st_newL (w_seq (st_asg (d := .int (c / 2)) ?_) (w_seqW ?_)))
    · walk_at "ev"
    refine w_for (fun i δ => ∃ (ns : List Int) (left : Int) (s5 : Slot), δ = [.o (.val (.int c)), .o (.val (.int (n : Nat))), .o (.val (.int size)), .o (.lst (ns.map .int)), .o (.val (.int left)), s5] ∧ ns.length = i ∧ ∀ x ∈ ns, 0 ≤ x ∧ x < size)
      (it_rg1 (j := (n : Nat)) (ev_V rfl) (by omega)) ⟨[], _, _, rfl, rfl, fun x hx => nomatch hx⟩ ?_ ?_
    · rintro i d δ hd ⟨ns, left, s5, rfl, hl, hb⟩
      obtain ⟨rfl, hi⟩ := rng_get hd
      refine ⟨_, rfl, ?_⟩
      rw [Int.toNat_natCast] at hi
      have key : ∀ v : Int, 0 ≤ v % size ∧ v % size < size := fun v => ⟨Int.emod_nonneg _ (by omega), Int.emod_lt_of_pos _ hs.1⟩
      have fin : ∀ v : Int, 0 ≤ v ∧ v < size → (ns ++ [v]).length = i + 1 ∧ ∀ x ∈ ns ++ [v], 0 ≤ x ∧ x < size := fun v hv => ⟨by simp [hl], fun x hx => by
        rcases List.mem_append.mp hx with h | h
        · exact hb x h
        · rw [List.mem_singleton.mp h]; exact hv⟩
      refine w_if (tv_1 (b := (c % 2 == 0)) (by walk_at "ev")) (fun _ => ?_) (fun _ => ?_)
      · refine w_seq (st_app (xs := ns.map .int) (d := .int (left % size)) rfl (by walk_at "ev") (by rw [List.length_map]; omega)) (w_of (st_asg (d := .int (left / size)) (by walk_at "ev")) ⟨_, rfl, ns ++ [left % size], left / size, .o (.val (.int (0 + (i : Nat)))), by rw [List.map_append]; rfl, fin _ (key _)⟩)
      · obtain ⟨m1, e1, _⟩ := mixed_ok c (0 + (i : Nat)) (by omega)
        obtain ⟨m2, e2, _⟩ := mixed_ok m1 3 (by omega)
        refine w_of (st_app (xs := ns.map .int) (d := .int (m2 % size)) rfl (by walk_at "ev") (by rw [List.length_map]; omega)) ⟨_, rfl, ns ++ [m2 % size], left, .o (.val (.int (0 + (i : Nat)))), by rw [List.map_append]; rfl, fin _ (key _)⟩
    · rintro δ ⟨ns, left, s5, rfl, hl, hb⟩
      rw [rng_len, Int.toNat_natCast] at hl
      exact ⟨_, rfl, w_retN rfl ⟨_, rfl, ns, rfl, hl, hb⟩⟩
  subst h2
  exact ⟨ns, h1, h3⟩
theorem draws_okI (c m size : Int) (hn : 0 ≤ m ∧ m ≤ 1000) (hs : 0 < size ∧ size < 1073741824) :
    ∃ ns : List Int, f_l_draws [.int c, .int m, .int size] = some (.lst (ns.map .int)) ∧ (ns.length : Nat) = m ∧ (∀ x ∈ ns, 0 ≤ x ∧ x < size) ∧ ∀ k, 0 ≤ ati ns k ∧ ati ns k < size := by
  obtain ⟨n, rfl⟩ : ∃ n : Nat, m = (n : Nat) := ⟨m.toNat, by omega⟩
  obtain ⟨ns, h1, h2, h3⟩ := draws_ok c n size (by omega) hs
  exact ⟨ns, h1, by rw [h2], h3, fun k => ati_all (P := fun v => 0 ≤ v ∧ v < size) h3 (by omega)⟩

theorem ev_sl0 {δ : Sto} {fa fb : FE} {xs : List Dat} {k : Int} (ha : fa δ = some (.lst xs)) (hb : fb δ = some (.int k)) (h0 : 0 ≤ k) : eSl fa oN (oS fb) δ = some (.lst (xs.take k.toNat)) := by
  unfold eSl oS oN
  rw [ha, hb]
  show some (Dat.lst (cutD xs none (some k))) = _
  unfold cutD
  have e1 : HT.sIx xs.length 0 none = 0 := rfl
  have e2 : HT.sIx xs.length xs.length (some k) = min k.toNat xs.length := by
    show (if k < 0 then _ else min k.toNat xs.length) = _
    rw [if_neg (by omega)]
  rw [e1, e2, List.drop_zero, Nat.sub_zero]
  rw [show xs.take (min k.toNat xs.length) = xs.take k.toNat from List.take_eq_take_iff.mpr (by simp)]
theorem map_get {α : Type} {f : α → Dat} {ms : List α} {i : Nat} {d : Dat} (h : (ms.map f)[i]? = some d) : ∃ m, ms[i]? = some m ∧ d = f m := by
  rw [List.getElem?_map] at h
  cases e : ms[i]? with
  | none => rw [e] at h; cases h
  | some m => rw [e] at h; exact ⟨m, rfl, (Option.some.inj h).symm⟩
theorem w_seqI {f g : FS} {δ : Sto} {P : Out → Prop} (Q : Sto → Prop) (h : W f δ fun o => ∃ δ', o = .nx δ' ∧ Q δ') (h2 : ∀ δ', Q δ' → W g δ' P) : W (sSeq f g) δ P :=
  w_seqW (h.mono fun o ⟨δ', e, q⟩ => ⟨δ', e, h2 δ' q⟩)
theorem st_if_f {δ : Sto} {t : FT} {f g : FS} {o : Out} (h : t δ = some false) (h2 : g δ = some o) : sIf t f g δ = some o := by unfold sIf; rw [h]; exact h2
theorem ev_sl2 {δ : Sto} {fa fb fc : FE} {xs : List Dat} {j k : Int} (ha : fa δ = some (.lst xs)) (hb : fb δ = some (.int j)) (hc : fc δ = some (.int k)) (h0 : 0 ≤ j) (h1 : 0 ≤ k) : eSl fa (oS fb) (oS fc) δ = some (.lst ((xs.drop j.toNat).take (min k.toNat xs.length - min j.toNat xs.length))) := by
  unfold eSl oS
  rw [ha, hb, hc]
  show some (Dat.lst (cutD xs (some j) (some k))) = _
  unfold cutD
  have e1 : HT.sIx xs.length 0 (some j) = min j.toNat xs.length := by
    show (if j < 0 then _ else min j.toNat xs.length) = _
    rw [if_neg (by omega)]
  have e2 : HT.sIx xs.length xs.length (some k) = min k.toNat xs.length := by
    show (if k < 0 then _ else min k.toNat xs.length) = _
    rw [if_neg (by omega)]
  rw [e1, e2]
  by_cases h : j.toNat ≤ xs.length
  · rw [Nat.min_eq_left h]
  · rw [Nat.min_eq_right (Nat.le_of_not_le h), List.drop_eq_nil_of_le (Nat.le_refl _), List.drop_eq_nil_of_le (Nat.le_of_not_le h)]
/-! ### comprehensions over ints -/
theorem comp_ints {fe : FE} {R : Int → Dat} {rest : List Slot} : ∀ (ns : List Int) (s0 : Slot), (∀ n ∈ ns, fe (.o (.val (.int n)) :: rest) = some (R n)) → compD (gN 0) bT fe (ns.map .int) (s0 :: rest) = some (ns.map R)
  | [], _, _ => rfl
  | n :: ns, s0, h => by
    have ih := comp_ints (fe := fe) (R := R) (rest := rest) ns (.o (.val (.int n))) fun m hm => h m (List.mem_cons_of_mem _ hm)
    rw [List.map_cons]
    unfold compD
    show ((some (Slot.o (.val (.int n)) :: rest)).bind _) = _
    simp only [Option.bind_some, bT, if_true]
    rw [h n (List.mem_cons_self ..)]
    simp only [Option.bind_some]
    rw [ih]
    rfl
theorem ev_comp {fi : FA} {g : FG} {t : FT} {fe : FE} {n : Nat} {caps : List Nat} {δ : Sto} {ds out : List Dat} (hi : fi δ = some ds) (hl : ds.length ≤ 1000) (hc : compD g t fe ds (capD n caps δ) = some out) : eComp fi g t fe n caps δ = some (.lst out) := by
  unfold eComp
  rw [hi]
  simp only [Option.bind_some]
  rw [if_pos (by rw [PySem.sizeLine_eq]; omega), hc]
  rfl
theorem eqN_ints (k : Nat) : ∀ ns : List Int, eqL (eqN (k + 1)) (ns.map .int) (ns.map .int) = some true
  | [] => rfl
  | n :: ns => by
    show (eqN (k + 1) (.int n) (.int n)).bind _ = _
    rw [show eqN (k + 1) (.int n) (.int n) = some (n == n) from rfl, beq_self_eq_true]
    simp only [Option.bind_some]
    rw [eqN_ints k ns]
    rfl
theorem ne_ints (ns : List Int) : dNe (.lst (ns.map .int)) (.lst (ns.map .int)) = some (.bl false) := by
  show (eqL (eqN 7) (ns.map .int) (ns.map .int)).map _ = _
  rw [eqN_ints 6]
  rfl
theorem isi_int {i : Int} : isiInt (.int i) = some (.bl true) := rfl
theorem isi_bool_int {i : Int} : isiBool (.int i) = some (.bl false) := rfl
theorem isi_list {xs : List Dat} : isiList (.lst xs) = some (.bl true) := rfl
theorem isi_tuple_l {xs : List Dat} : isiTuple (.lst xs) = some (.bl false) := rfl
theorem isi_LT_l {xs : List Dat} : isiLT (.lst xs) = some (.bl true) := rfl
theorem isi_LT_i {i : Int} : isiLT (.int i) = some (.bl false) := rfl
theorem isi_list_t {xs : List Dat} : isiList (.tup xs) = some (.bl false) := rfl
theorem isi_tuple {xs : List Dat} : isiTuple (.tup xs) = some (.bl true) := rfl
theorem isi_LT_t {xs : List Dat} : isiLT (.tup xs) = some (.bl true) := rfl
theorem w_seqR {f g : FS} {δ : Sto} {P : Out → Prop} (h : W f δ fun o => ∃ d, o = .rt d ∧ P (.rt d)) : W (sSeq f g) δ P := by
  obtain ⟨o, a, d, rfl, b⟩ := h
  exact ⟨.rt d, by unfold sSeq; rw [a], b⟩
theorem same_int (frec : List Dat → Option Dat) (a : Int) : defF 0 (b_l_same frec) [.int a, .int a] = some (.bl true) := by
  obtain ⟨d, h1, rfl⟩ : ∃ d, defF 0 (b_l_same frec) [.int a, .int a] = some d ∧ d = .bl true := by
    refine fn_W (w_seq (st_if_f (tv_1 (ev_1 (ev_V rfl) isi_LT_i)) rfl) (w_ret (d := .bl true) (ev_and_t (ev_1 (ev_V rfl) isi_int) (ev_and_t (ev_1 (ev_1 (ev_V rfl) isi_bool_int) ev_not) (ev_2 (ev_V rfl) (ev_V rfl) ?_))) ⟨_, rfl, rfl⟩))
    rw [dEq_int, beq_self_eq_true]
  exact h1
theorem blsD_true : ∀ n : Nat, blsD (List.replicate n (.bl true)) = some (List.replicate n true)
  | 0 => rfl
  | n + 1 => by
    show (blsD (List.replicate n (.bl true))).bind _ = _
    rw [blsD_true n]
    rfl
theorem rng_map (n : Nat) : rngD 0 n = ((List.range n).map fun j => (0 + ((j : Nat) : Int))).map .int := by
  unfold rngD
  rw [List.map_map]
  rfl
/-- two lists whose items are the same, one level deeper -/
theorem same_list (frec : List Dat → Option Dat) (ds : List Dat) (hl : ds.length ≤ 1000) (h : ∀ d ∈ ds, frec [d, d] = some (.bl true)) : defF 0 (b_l_same frec) [.lst ds, .lst ds] = some (.bl true) := by
  obtain ⟨d, h1, rfl⟩ : ∃ d, defF 0 (b_l_same frec) [.lst ds, .lst ds] = some d ∧ d = .bl true := by
    refine fn_W (w_seqR (w_if (tv_1 (ev_1 (ev_V rfl) isi_LT_l)) (fun _ => ?_) (fun z => by cases z)))
    refine w_seq (st_if_f (tv_or_f (tv_1 (ev_2 (ev_1 (ev_V rfl) isi_list) (ev_1 (ev_V rfl) isi_list) rfl)) (tv_1 (ev_2 (ev_1 (ev_V rfl) isi_tuple_l) (ev_1 (ev_V rfl) isi_tuple_l) rfl))) rfl) ?_
    refine w_seq (st_if_f (tv_1 (b := false) (ev_2 (ev_B (ev_aC (ev_V rfl) ev_aN) len_l) (ev_B (ev_aC (ev_V rfl) ev_aN) len_l) (by rw [dNe_int, beq_self_eq_true]; rfl))) rfl) ?_
    have e : eComp (iRg1 (eB dLenB (aC (eV 1) aN))) (gN 0) bT (eCall 2 frec (aC (e2 dIx (eV 1) (eV 0)) (aC (e2 dIx (eV 2) (eV 0)) aN))) 1 [0, 1] (ini 0 [.lst ds, .lst ds]) = some (.lst (List.replicate ds.length (.bl true))) := by
      have hi : iRg1 (eB dLenB (aC (eV 1) aN)) (ini 0 [.lst ds, .lst ds]) = some (((List.range ds.length).map fun j => (0 + ((j : Nat) : Int))).map .int) := by
        rw [← rng_map]
        exact it_rg1 (j := (ds.length : Nat)) (ev_B (ev_aC (ev_V rfl) ev_aN) len_l) (by omega)
      refine ev_comp hi (by rw [List.length_map, List.length_map, List.length_range]; exact hl) ?_
      have hc := comp_ints (fe := eCall 2 frec (aC (e2 dIx (eV 1) (eV 0)) (aC (e2 dIx (eV 2) (eV 0)) aN))) (R := fun _ => .bl true) (rest := [.o (.val (.lst ds)), .o (.val (.lst ds))]) ((List.range ds.length).map fun j => (0 + ((j : Nat) : Int))) .no fun n hn => by
        obtain ⟨j, hj, rfl⟩ := List.mem_map.mp hn
        have hj' := List.mem_range.mp hj
        have ix : dIx (.lst ds) (.int (0 + (j : Nat))) = some ds[j] := ix_l (by omega) (by rw [show (0 + ((j : Nat) : Int)).toNat = j by omega]; exact List.getElem?_eq_getElem hj')
        exact ev_call (ev_aC (ev_2 (ev_V rfl) (ev_V rfl) ix) (ev_aC (ev_2 (ev_V rfl) (ev_V rfl) ix) ev_aN)) rfl (h _ (List.getElem_mem hj'))
      rw [show List.replicate ds.length (Dat.bl true) = ((List.range ds.length).map fun j => (0 + ((j : Nat) : Int))).map fun _ => Dat.bl true by
        rw [List.map_map]
        have : ∀ n : Nat, ((List.range n).map fun _ => Dat.bl true) = List.replicate n (Dat.bl true) := fun n => by rw [List.map_const', List.length_range]
        exact (this ds.length).symm]
      exact hc
    refine w_ret (d := .bl true) (ev_B (ev_aC e ev_aN) ?_) ⟨_, rfl, _, rfl, rfl⟩
    show (blsD (List.replicate ds.length (.bl true))).bind _ = _
    rw [blsD_true]
    simp
  exact h1
theorem same_ints (ns : List Int) (hl : ns.length ≤ 1000) : f_l_same [.lst (ns.map .int), .lst (ns.map .int)] = some (.bl true) :=
  same_list f_l_same_2 _ (by rw [List.length_map]; exact hl) fun d hd => by
    obtain ⟨n, _, rfl⟩ := List.mem_map.mp hd
    exact same_int f_l_same_1 n
/-- two lists whose items are the same, one level deeper -/
theorem same_tup (frec : List Dat → Option Dat) (ds : List Dat) (hl : ds.length ≤ 1000) (h : ∀ d ∈ ds, frec [d, d] = some (.bl true)) : defF 0 (b_l_same frec) [.tup ds, .tup ds] = some (.bl true) := by
  obtain ⟨d, h1, rfl⟩ : ∃ d, defF 0 (b_l_same frec) [.tup ds, .tup ds] = some d ∧ d = .bl true := by
    refine fn_W (w_seqR (w_if (tv_1 (ev_1 (ev_V rfl) isi_LT_t)) (fun _ => ?_) (fun z => by cases z)))
    refine w_seq (st_if_f (tv_or_f (tv_1 (ev_2 (ev_1 (ev_V rfl) isi_list_t) (ev_1 (ev_V rfl) isi_list_t) rfl)) (tv_1 (ev_2 (ev_1 (ev_V rfl) isi_tuple) (ev_1 (ev_V rfl) isi_tuple) rfl))) rfl) ?_
    refine w_seq (st_if_f (tv_1 (b := false) (ev_2 (ev_B (ev_aC (ev_V rfl) ev_aN) len_t) (ev_B (ev_aC (ev_V rfl) ev_aN) len_t) (by rw [dNe_int, beq_self_eq_true]; rfl))) rfl) ?_
    have e : eComp (iRg1 (eB dLenB (aC (eV 1) aN))) (gN 0) bT (eCall 2 frec (aC (e2 dIx (eV 1) (eV 0)) (aC (e2 dIx (eV 2) (eV 0)) aN))) 1 [0, 1] (ini 0 [.tup ds, .tup ds]) = some (.lst (List.replicate ds.length (.bl true))) := by
      have hi : iRg1 (eB dLenB (aC (eV 1) aN)) (ini 0 [.tup ds, .tup ds]) = some (((List.range ds.length).map fun j => (0 + ((j : Nat) : Int))).map .int) := by
        rw [← rng_map]
        exact it_rg1 (j := (ds.length : Nat)) (ev_B (ev_aC (ev_V rfl) ev_aN) len_t) (by omega)
      refine ev_comp hi (by rw [List.length_map, List.length_map, List.length_range]; exact hl) ?_
      have hc := comp_ints (fe := eCall 2 frec (aC (e2 dIx (eV 1) (eV 0)) (aC (e2 dIx (eV 2) (eV 0)) aN))) (R := fun _ => .bl true) (rest := [.o (.val (.tup ds)), .o (.val (.tup ds))]) ((List.range ds.length).map fun j => (0 + ((j : Nat) : Int))) .no fun n hn => by
        obtain ⟨j, hj, rfl⟩ := List.mem_map.mp hn
        have hj' := List.mem_range.mp hj
        have ix : dIx (.tup ds) (.int (0 + (j : Nat))) = some ds[j] := ix_t (by omega) (by rw [show (0 + ((j : Nat) : Int)).toNat = j by omega]; exact List.getElem?_eq_getElem hj')
        exact ev_call (ev_aC (ev_2 (ev_V rfl) (ev_V rfl) ix) (ev_aC (ev_2 (ev_V rfl) (ev_V rfl) ix) ev_aN)) rfl (h _ (List.getElem_mem hj'))
      rw [show List.replicate ds.length (Dat.bl true) = ((List.range ds.length).map fun j => (0 + ((j : Nat) : Int))).map fun _ => Dat.bl true by
        rw [List.map_map]
        have : ∀ n : Nat, ((List.range n).map fun _ => Dat.bl true) = List.replicate n (Dat.bl true) := fun n => by rw [List.map_const', List.length_range]
        exact (this ds.length).symm]
      exact hc
    refine w_ret (d := .bl true) (ev_B (ev_aC e ev_aN) ?_) ⟨_, rfl, _, rfl, rfl⟩
    show (blsD (List.replicate ds.length (.bl true))).bind _ = _
    rw [blsD_true]
    simp
  exact h1
theorem ev_cat {δ : Sto} {fa fb : FE} {xs ys : List Dat} (ha : fa δ = some (.lst xs)) (hb : fb δ = some (.lst ys)) (hl : xs.length + ys.length ≤ 1000) : e2 dAdd fa fb δ = some (.lst (xs ++ ys)) := by
  refine ev_2 ha hb ?_
  unfold dAdd
  exact if_pos (by rw [PySem.sizeLine_eq]; omega)

/-! ### the rows of a plan -/
def seg (ts : List Int) (q : Nat) : List Int := (ts.drop (12 * q)).take 12
def upto (ts : List Int) (q : Nat) : Nat := min (12 * q) ts.length
abbrev Rw := Int × Int × Int
def rw3 (r : Rw) : Dat := .tup [.int r.1, .int r.2.1, .int r.2.2]
def rowP (ts : List Int) (s : Int) (q : Nat) : Rw := ((seg ts q).sum, s * ((seg ts q).length : Nat), (ts.take (upto ts (q + 1))).sum - s * (upto ts (q + 1) : Nat))
def planP (ts : List Int) (s : Int) (n : Nat) : List Rw := (List.range n).map (rowP ts s)
def many (ts : List Int) : Nat := rg3N 0 ((ts.length : Nat) : Int) 12
theorem many_eq (ts : List Int) : many ts = (ts.length + 11) / 12 := by
  unfold many rg3N
  split <;> omega
theorem planP_succ (ts : List Int) (s : Int) (n : Nat) : planP ts s (n + 1) = planP ts s n ++ [rowP ts s n] := by
  unfold planP
  rw [List.range_succ, List.map_append]
  rfl
theorem seg_len (ts : List Int) (q : Nat) : (seg ts q).length = min 12 (ts.length - 12 * q) := by
  unfold seg
  rw [List.length_take, List.length_drop]
theorem take_add' {α : Type} (xs : List α) (a b : Nat) : xs.take (a + b) = xs.take a ++ (xs.drop a).take b := List.take_add
theorem upto_next (ts : List Int) (q : Nat) (h : 12 * q < ts.length) : upto ts q = 12 * q ∧ upto ts (q + 1) = 12 * q + (seg ts q).length ∧ ts.take (upto ts (q + 1)) = ts.take (upto ts q) ++ seg ts q := by
  have e1 : upto ts q = 12 * q := by unfold upto; omega
  have e2 : upto ts (q + 1) = 12 * q + (seg ts q).length := by rw [seg_len]; unfold upto; omega
  refine ⟨e1, e2, ?_⟩
  rw [e1, e2, take_add']
  congr 1
  unfold seg
  rw [List.take_eq_take_iff, List.length_take, List.length_drop]
  omega
theorem same_rows (rs : List Rw) (hl : rs.length ≤ 1000) : f_l_same [.lst (rs.map rw3), .lst (rs.map rw3)] = some (.bl true) :=
  same_list f_l_same_2 _ (by rw [List.length_map]; exact hl) fun d hd => by
    obtain ⟨r, _, rfl⟩ := List.mem_map.mp hd
    refine same_tup f_l_same_1 _ (by show 3 ≤ 1000; omega) fun x hx => ?_
    simp only [List.mem_cons, List.not_mem_nil, or_false] at hx
    rcases hx with rfl | rfl | rfl <;> exact same_int f_l_same_0 _
theorem totals_ok (c k : Int) : ∃ ts : List Int, f_l_totals [.int c, .int k] = some (.lst (ts.map .int)) ∧ ts.length ≤ 60 := by
  obtain ⟨ns, hd, hl, hb, gb⟩ := draws_okI (c + k) 62 60 (by omega) (by omega)
  obtain ⟨d, h1, ts, h2, h3⟩ : ∃ d, f_l_totals [.int c, .int k] = some d ∧ ∃ ts : List Int, d = .lst (ts.map .int) ∧ ts.length ≤ 60 := by
    have g60 := gb 60
    have g61 := gb 61
    have p10 : dPow (.int 10) (.int 10) = some (.int 10000000000) := dPow_10 (j := 10) (by omega)
    have p9 : dPow (.int 10) (.int 9) = some (.int 1000000000) := dPow_10 (j := 9) (by omega)
    obtain ⟨m, hm, hme⟩ : ∃ m : Int, (0 ≤ m ∧ m ≤ 60) ∧ m = ati [ati ns 60, 12 * (ati ns 60 % 6), ati ns 60 % 13, ati ns 60] (ati ns 61 % 4) :=
      ⟨_, ati_all (P := fun v => 0 ≤ v ∧ v ≤ 60) (by intro x hx; simp only [List.mem_cons, List.not_mem_nil, or_false] at hx; rcases hx with rfl | rfl | rfl | rfl <;> omega) (by omega), rfl⟩
    refine fn_W (w_seq (st_asg (d := .lst (ns.map .int)) (by walk_at "ev")) (w_seq (st_asg (d := .int m) (by rw [hme]; walk_at "ev")) (w_seq st_newL ?_)))
    have hit : eSl (eV 2) oN (oS (eV 3)) [.o (.val (.int c)), .o (.val (.int k)), .o (.val (.lst (ns.map .int))), .o (.val (.int m)), .o (.lst []), .no] = some (.lst ((ns.take m.toNat).map .int)) := by
      have := ev_sl0 (fa := eV 2) (fb := eV 3) (xs := ns.map .int) (k := m) (δ := [.o (.val (.int c)), .o (.val (.int k)), .o (.val (.lst (ns.map .int))), .o (.val (.int m)), .o (.lst []), .no]) (ev_V rfl) (ev_V rfl) (by omega)
      rw [← List.map_take] at this
      exact this
    refine w_seqW (w_for (fun i δ => ∃ (ts : List Int) (s5 : Slot), δ = [.o (.val (.int c)), .o (.val (.int k)), .o (.val (.lst (ns.map .int))), .o (.val (.int m)), .o (.lst (ts.map .int)), s5] ∧ ts.length = i) (it_lst hit) ⟨[], .no, rfl, rfl⟩ ?_ ?_)
    · rintro i d δ hd ⟨ts, s5, rfl, wl⟩
      obtain ⟨one, ho, rfl⟩ := map_get hd
      have hob := hb one (List.mem_of_mem_take (List.mem_of_getElem? ho))
      have hil : i < 62 := by
        have := (List.getElem?_eq_some_iff.mp ho).1
        rw [List.length_take] at this
        omega
      exact ⟨_, rfl, w_of (st_app (xs := ts.map .int) (d := .int (ati [one, one * 10000000000 - one, 30 - one, 0 - one * 1000000000] (ati ns 61 / 4 % 4))) rfl (by walk_at "ev") (by rw [List.length_map]; omega)) ⟨_, rfl, ts ++ [ati [one, one * 10000000000 - one, 30 - one, 0 - one * 1000000000] (ati ns 61 / 4 % 4)], .o (.val (.int one)), by rw [List.map_append]; rfl, by simp [wl]⟩⟩
    · rintro δ ⟨ts, s5, rfl, wl⟩
      rw [List.length_map, List.length_take] at wl
      exact ⟨_, rfl, w_retN rfl ⟨_, rfl, ts, rfl, by omega⟩⟩
  subst h2
  exact ⟨ts, h1, h3⟩
theorem rng3_get {lo c : Int} {n i : Nat} {d : Dat} (h : (rngD3 lo c n)[i]? = some d) : d = .int (lo + (i : Nat) * c) ∧ i < n := by
  have hl : i < n := by
    have := (List.getElem?_eq_some_iff.mp h).1
    simpa [rngD3] using this
  have e : (rngD3 lo c n)[i]? = some (.int (lo + (i : Nat) * c)) := by simp [rngD3, hl]
  rw [e] at h
  exact ⟨(Option.some.inj h).symm, hl⟩
theorem it_rg3 {δ : Sto} {fa fb fc : FE} {i j k : Int} (h1 : fa δ = some (.int i)) (h2 : fb δ = some (.int j)) (h3 : fc δ = some (.int k)) (hb : (-1152921504606846976 ≤ i ∧ i < 1152921504606846976) ∧ (-1152921504606846976 ≤ j ∧ j < 1152921504606846976) ∧ (0 < k ∧ k < 1073741824)) : iRg3 fa fb fc δ = some (rngD3 i k (rg3N i j k)) := by
  unfold iRg3
  rw [h1, h2, h3]
  exact if_pos ⟨⟨by omega, by omega⟩, ⟨by omega, by omega⟩, hb.2.2⟩
/-! ### plan -/
theorem plan_b (ts : List Int) (s : Int) (hl : ts.length ≤ 60) (hs : 0 ≤ s ∧ s < 1000000000000) : b_plan (ini 6 [.lst (ts.map .int), .int s]) = some (.ro (.lst ((planP ts s (many ts)).map rw3))) := by
  have hmn := many_eq ts
  have : W b_plan (ini 6 [.lst (ts.map .int), .int s]) fun o => o = .ro (.lst ((planP ts s (many ts)).map rw3)) := by
    refine w_seq st_newL (w_seq (st_asg (d := .int 0) ev_C) (w_seqW ?_))
    refine w_for (fun q δ => ∃ s4 s5 s6 s7 : Slot, δ = [.o (.val (.lst (ts.map .int))), .o (.val (.int s)), .o (.lst ((planP ts s q).map rw3)), .o (.val (.int ((ts.take (upto ts q)).sum - s * (upto ts q : Nat)))), s4, s5, s6, s7])
      (it_rg3 (i := 0) (j := ((ts.map Dat.int).length : Nat)) (k := 12) ev_C (ev_B (ev_aC (ev_V rfl) ev_aN) len_l) ev_C (by rw [List.length_map]; omega)) ⟨.no, .no, .no, .no, ?_⟩ ?_ ?_
    · have : (ts.take (upto ts 0)).sum - s * (upto ts 0 : Nat) = 0 := by unfold upto; simp
      rw [this]
      rfl
    · rintro q d δ hd ⟨s4, s5, s6, s7, rfl⟩
      obtain ⟨rfl, hq⟩ := rng3_get hd
      rw [List.length_map] at hq
      have hq : q < many ts := hq
      have hlt : 12 * q < ts.length := by omega
      obtain ⟨u1, u2, u3⟩ := upto_next ts q hlt
      have hsl := seg_len ts q
      refine ⟨_, rfl, ?_⟩
      have hsg : eSl (eV 0) (oS (eV 4)) (oS (e2 dAdd (eV 4) (eC (.int 12)))) [.o (.val (.lst (ts.map .int))), .o (.val (.int s)), .o (.lst ((planP ts s q).map rw3)), .o (.val (.int ((ts.take (upto ts q)).sum - s * (upto ts q : Nat)))), .o (.val (.int (0 + (q : Nat) * 12))), s5, s6, s7] = some (.lst ((seg ts q).map .int)) := by
        have e := ev_sl2 (fa := eV 0) (fb := eV 4) (fc := e2 dAdd (eV 4) (eC (.int 12))) (j := 0 + (q : Nat) * 12) (k := 0 + (q : Nat) * 12 + 12) (xs := ts.map .int) (δ := [.o (.val (.lst (ts.map .int))), .o (.val (.int s)), .o (.lst ((planP ts s q).map rw3)), .o (.val (.int ((ts.take (upto ts q)).sum - s * (upto ts q : Nat)))), .o (.val (.int (0 + (q : Nat) * 12))), s5, s6, s7]) (ev_V rfl) (ev_V rfl) (ev_2 (ev_V rfl) ev_C dAdd_int) (by omega) (by omega)
        rw [← List.map_drop, ← List.map_take, List.length_map] at e
        rw [e]
        congr 2
        congr 1
        unfold seg
        rw [show (0 + ((q : Nat) : Int) * 12).toNat = 12 * q by omega, List.take_eq_take_iff, List.length_drop]
        omega
      refine w_seq (st_asg (d := .lst ((seg ts q).map .int)) hsg) (w_seq (st_asg (d := .int (seg ts q).sum) (ev_B (ev_aC (ev_V rfl) ev_aN) sum_l)) ?_)
      refine w_seq (st_asg (d := .int (s * ((seg ts q).length : Nat))) (ev_2 (ev_V rfl) (ev_B (ev_aC (ev_V rfl) ev_aN) len_l) (by rw [List.length_map]; exact dMulL (by omega)))) ?_
      refine w_seq (st_asg (d := .int ((ts.take (upto ts (q + 1))).sum - s * (upto ts (q + 1) : Nat))) ?_) ?_
      · have e : (ts.take (upto ts (q + 1))).sum - s * (upto ts (q + 1) : Nat) = (ts.take (upto ts q)).sum - s * (upto ts q : Nat) + (seg ts q).sum - s * ((seg ts q).length : Nat) := by
          rw [u3, List.sum_append, u2, u1, show ((12 * q + (seg ts q).length : Nat) : Int) = ((12 * q : Nat) : Int) + ((seg ts q).length : Nat) by omega, Int.mul_add]
          omega
        rw [e]
        exact ev_2 (ev_2 (ev_V rfl) (ev_V rfl) dAdd_int) (ev_V rfl) dSub_int
      refine w_of (st_app (xs := (planP ts s q).map rw3) (d := rw3 (rowP ts s q)) rfl (ev_T (ev_aC (ev_V rfl) (ev_aC (ev_V rfl) (ev_aC (ev_V rfl) ev_aN))) rfl) (by unfold planP; rw [List.length_map, List.length_map, List.length_range]; omega)) ⟨_, rfl, .o (.val (.int (0 + (q : Nat) * 12))), .o (.val (.lst ((seg ts q).map .int))), .o (.val (.int (seg ts q).sum)), .o (.val (.int (s * ((seg ts q).length : Nat)))), by rw [planP_succ, List.map_append]; rfl⟩
    · rintro δ ⟨s4, s5, s6, s7, rfl⟩
      have : (rngD3 0 12 (rg3N 0 (((ts.map Dat.int).length : Nat) : Int) 12)).length = many ts := by rw [List.length_map]; simp [rngD3, many]
      rw [this]
      exact ⟨_, rfl, w_retN rfl rfl⟩
  obtain ⟨o, h1, rfl⟩ := this
  exact h1
theorem plan_oko (ts : List Int) (s : Int) (hl : ts.length ≤ 60) (hs : 0 ≤ s ∧ s < 1000000000000) : fo_plan [.lst (ts.map .int), .int s] = some (.lst ((planP ts s (many ts)).map rw3)) := by
  unfold fo_plan defO
  rw [plan_b ts s hl hs]
  rfl
end MB

namespace MB
open PySem PySem.Spec PyProof.Rows L2
local macro_rules | `(tactic| walk_at "ev1") => `(tactic| first
  | with_reducible assumption
  | with_reducible exact ev_C
  | ((with_reducible apply ev_V); exact rfl)
  | with_reducible apply ev_2
  | with_reducible apply ev_1
  | with_reducible apply ev_call
  | with_reducible apply ev_B
  | with_reducible exact ev_aN
  | with_reducible apply ev_aC
  | with_reducible exact ev_aS
  | with_reducible apply ev_T
  | with_reducible apply ev_L
  | with_reducible exact dAdd_int
  | with_reducible exact dSub_int
  | with_reducible exact dMulR (by omega)
  | with_reducible exact dMulL (by omega)
  | with_reducible exact dMod_int (by omega)
  | with_reducible exact dDiv_int (by omega)
  | with_reducible exact dPow_10 (by omega)
  | with_reducible exact dEq_int
  | with_reducible exact dNe_int
  | with_reducible exact dLt_int
  | with_reducible exact dLe_int
  | with_reducible exact dGt_int
  | with_reducible exact dGe_int
  | with_reducible exact int_bl
  | with_reducible exact len_l
  | with_reducible exact len_t
  | with_reducible exact sum_l
  | with_reducible exact ix_i2 (by omega)
  | with_reducible exact ix_i3 (by omega)
  | with_reducible exact ix_i4 (by omega)
  | with_reducible exact ix_i5 (by omega)
  | with_reducible exact ix_i6 (by omega)
  | with_reducible exact ix_s3 (by omega)
  | with_reducible exact ix_ints (by omega) (by omega)
  | with_reducible exact ix_strs (by omega) (by omega)
  | with_reducible apply tv_1
  | with_reducible apply tv_not
  | (show Nat.ble _ _ = true; exact rfl)
  | (show List.length _ = _; exact rfl))
local macro_rules | `(tactic| walk_at "ev") => `(tactic| repeat' walk_at "ev1")
theorem st_asgO {δ : Sto} {i n : Nat} {f : List Dat → Option O0} {fl : FA} {ds : List Dat} {x : O0} (h : fl δ = some ds) (hn : ds.length = n) (hf : f ds = some x) : sAsgO i n f fl δ = some (.nx (δ.set i (.o x))) := by
  unfold sAsgO
  rw [h]
  simp only [Option.bind_some]
  rw [if_pos hn, hf]
  rfl
theorem list_l {xs : List Dat} : dListB [.lst xs] = some (.lst xs) := rfl
/-- how many rows are told when i totals have been looked at -/
def doneN (ts : List Int) (i : Nat) : Nat := if i = ts.length then many ts else i / 12
theorem due_row (ts : List Int) (s : Int) (j : Nat) (hj : j < ts.length) (h : j % 12 = 11 ∨ j = ts.length - 1) :
    rowP ts s (j / 12) = (((ts.drop (j - j % 12)).take (j + 1 - (j - j % 12))).sum, s * (((ts.drop (j - j % 12)).take (j + 1 - (j - j % 12))).length : Nat), (ts.take (j + 1)).sum - s * ((j : Nat) + 1)) := by
  have e1 : j - j % 12 = 12 * (j / 12) := by omega
  have e2 : (ts.drop (j - j % 12)).take (j + 1 - (j - j % 12)) = seg ts (j / 12) := by
    unfold seg
    rw [e1, List.take_eq_take_iff, List.length_drop]
    omega
  have e3 : upto ts (j / 12 + 1) = j + 1 := by unfold upto; omega
  rw [e2]
  unfold rowP
  rw [e3]
  rfl
theorem math (ns : List Int) (hlen : ns.length ≤ 63) : f_law [.lst (ns.map .int)] = some (.bl true) := by
  obtain ⟨d, h1, rfl⟩ : ∃ d, f_law [.lst (ns.map .int)] = some d ∧ d = .bl true := by
    refine fn_W (w_seqW ?_)
    obtain ⟨cs, hcs, hcl⟩ : ∃ cs : List Int, e2 dAdd (eSl (eV 0) oN (oS (eC (.int 20)))) (eL (aC (eB dLenB (aC (eV 0) aN)) aN)) (ini 11 [.lst (ns.map .int)]) = some (.lst (cs.map .int)) ∧ cs.length ≤ 21 := by
      have e := ev_sl0 (fa := eV 0) (fb := eC (.int 20)) (k := 20) (xs := ns.map .int) (δ := ini 11 [.lst (ns.map .int)]) (ev_V rfl) ev_C (by omega)
      rw [← List.map_take] at e
      have c := ev_cat (fb := eL (aC (eB dLenB (aC (eV 0) aN)) aN)) (ys := [.int ((ns.map Dat.int).length : Nat)]) e (ev_L (ev_aC (ev_B (ev_aC (ev_V rfl) ev_aN) len_l) ev_aN) rfl) (by rw [List.length_map, List.length_take]; simp; omega)
      refine ⟨ns.take (20 : Int).toNat ++ [(((ns.map Dat.int).length : Nat) : Int)], ?_, ?_⟩
      · rw [List.map_append]
        exact c
      · rw [List.length_append, List.length_take]
        simp
        omega
    refine w_for (fun i δ => ∃ s1 s2 s3 s4 s5 s6 s7 s8 s9 s10 s11 : Slot, δ = [.o (.val (.lst (ns.map .int))), s1, s2, s3, s4, s5, s6, s7, s8, s9, s10, s11]) (it_enum hcs) ⟨.no, .no, .no, .no, .no, .no, .no, .no, .no, .no, .no, rfl⟩ ?_ ?_
    · rintro i d δ hd ⟨s1, s2, s3, s4, s5, s6, s7, s8, s9, s10, s11, rfl⟩
      obtain ⟨x, hx, rfl⟩ := enumD_get hd
      obtain ⟨c, hci, rfl⟩ := map_get hx
      have hil : i < cs.length := (List.getElem?_eq_some_iff.mp hci).1
      obtain ⟨ts, hts, htl⟩ := totals_ok c ((i : Nat) : Int)
      obtain ⟨m, hm, hm0, hm1⟩ := mixed_ok c (5 + ((i : Nat) : Int)) (by omega)
      have p12 : dPow (.int 10) (.int 12) = some (.int 1000000000000) := dPow_10 (j := 12) (by omega)
      have hmn := many_eq ts
      refine ⟨_, rfl, w_seq (st_asg (d := .lst (ts.map .int)) (by walk_at "ev")) (w_seq (st_asg (d := .int m) (by walk_at "ev")) ?_)⟩
      refine w_seq (st_asg (d := .int (ati [m / 3 % 100, 0, c % 1000000000000] (m % 3))) (by walk_at "ev")) ?_
      have hs : 0 ≤ ati [m / 3 % 100, 0, c % 1000000000000] (m % 3) ∧ ati [m / 3 % 100, 0, c % 1000000000000] (m % 3) < 1000000000000 :=
        ati_all (P := fun v => 0 ≤ v ∧ v < 1000000000000) (by intro x hx; simp only [List.mem_cons, List.not_mem_nil, or_false] at hx; rcases hx with rfl | rfl | rfl <;> omega) (by omega)
      generalize ati [m / 3 % 100, 0, c % 1000000000000] (m % 3) = s at hs
      refine w_seq st_newL ?_
      refine w_seqI (fun δ => ∃ s7 s8 : Slot, δ = [.o (.val (.lst (ns.map .int))), .o (.val (.int (i : Nat))), .o (.val (.int c)), .o (.val (.lst (ts.map .int))), .o (.val (.int m)), .o (.val (.int s)), .o (.lst ((planP ts s (many ts)).map rw3)), s7, s8, s9, s10, s11]) ?_ ?_
      · refine w_for (fun j δ => ∃ s7 s8 : Slot, δ = [.o (.val (.lst (ns.map .int))), .o (.val (.int (i : Nat))), .o (.val (.int c)), .o (.val (.lst (ts.map .int))), .o (.val (.int m)), .o (.val (.int s)), .o (.lst ((planP ts s (doneN ts j)).map rw3)), s7, s8, s9, s10, s11]) (it_rg1 (j := ((ts.map Dat.int).length : Nat)) (ev_B (ev_aC (ev_V rfl) ev_aN) len_l) (by rw [List.length_map]; omega)) ⟨s7, s8, ?_⟩ ?_ ?_
        · have : doneN ts 0 = 0 := by
            unfold doneN
            split <;> omega
          rw [this]
          rfl
        · rintro j d δ hd ⟨t7, t8, rfl⟩
          obtain ⟨rfl, hj⟩ := rng_get hd
          rw [Int.toNat_natCast, List.length_map] at hj
          have hd0 : doneN ts j = j / 12 := by
            unfold doneN
            rw [if_neg (by omega)]
          have hmod : ((0 + ((j : Nat) : Int)) % 12 == 11) = decide (j % 12 = 11) := by
            rw [Bool.eq_iff_iff, beq_iff_eq, decide_eq_true_iff]
            omega
          have hlast : ((0 + ((j : Nat) : Int)) == (((ts.map Dat.int).length : Nat) : Int) - 1) = decide (j = ts.length - 1) := by
            rw [Bool.eq_iff_iff, beq_iff_eq, decide_eq_true_iff, List.length_map]
            omega
          refine ⟨_, rfl, w_if (b := decide (j % 12 = 11) || decide (j = ts.length - 1)) ((tv_or (tv_1 (ev_2 (ev_2 (ev_V rfl) ev_C (dMod_int (by omega))) ev_C dEq_int)) (tv_1 (ev_2 (ev_V rfl) (ev_2 (ev_B (ev_aC (ev_V rfl) ev_aN) len_l) ev_C dSub_int) dEq_int))).trans (by rw [hmod, hlast])) (fun hb => ?_) (fun hb => ?_)⟩
          · have hb : j % 12 = 11 ∨ j = ts.length - 1 := by
              rcases Bool.or_eq_true_iff.mp hb with h | h
              · exact .inl (of_decide_eq_true h)
              · exact .inr (of_decide_eq_true h)
            have hd1 : doneN ts (j + 1) = j / 12 + 1 := by
              unfold doneN
              split <;> omega
            have hrow := due_row ts s j hj hb
            have hsg : eSl (eV 3) (oS (e2 dSub (eV 7) (e2 dMod (eV 7) (eC (.int 12))))) (oS (e2 dAdd (eV 7) (eC (.int 1)))) [.o (.val (.lst (ns.map .int))), .o (.val (.int (i : Nat))), .o (.val (.int c)), .o (.val (.lst (ts.map .int))), .o (.val (.int m)), .o (.val (.int s)), .o (.lst ((planP ts s (doneN ts j)).map rw3)), .o (.val (.int (0 + (j : Nat)))), t8, s9, s10, s11] = some (.lst (((ts.drop (j - j % 12)).take (j + 1 - (j - j % 12))).map .int)) := by
              have e := ev_sl2 (fa := eV 3) (fb := e2 dSub (eV 7) (e2 dMod (eV 7) (eC (.int 12)))) (fc := e2 dAdd (eV 7) (eC (.int 1))) (j := 0 + (j : Nat) - (0 + (j : Nat)) % 12) (k := 0 + (j : Nat) + 1) (xs := ts.map .int) (δ := [.o (.val (.lst (ns.map .int))), .o (.val (.int (i : Nat))), .o (.val (.int c)), .o (.val (.lst (ts.map .int))), .o (.val (.int m)), .o (.val (.int s)), .o (.lst ((planP ts s (doneN ts j)).map rw3)), .o (.val (.int (0 + (j : Nat)))), t8, s9, s10, s11]) (ev_V rfl) (ev_2 (ev_V rfl) (ev_2 (ev_V rfl) ev_C (dMod_int (by omega))) dSub_int) (ev_2 (ev_V rfl) ev_C dAdd_int) (by omega) (by omega)
              rw [← List.map_drop, ← List.map_take, List.length_map, show (0 + ((j : Nat) : Int) - (0 + ((j : Nat) : Int)) % 12).toNat = j - j % 12 by omega, show min (0 + ((j : Nat) : Int) + 1).toNat ts.length - min (j - j % 12) ts.length = j + 1 - (j - j % 12) by omega] at e
              exact e
            have hpre : eSl (eV 3) oN (oS (e2 dAdd (eV 7) (eC (.int 1)))) [.o (.val (.lst (ns.map .int))), .o (.val (.int (i : Nat))), .o (.val (.int c)), .o (.val (.lst (ts.map .int))), .o (.val (.int m)), .o (.val (.int s)), .o (.lst ((planP ts s (doneN ts j)).map rw3)), .o (.val (.int (0 + (j : Nat)))), .o (.val (.lst (((ts.drop (j - j % 12)).take (j + 1 - (j - j % 12))).map .int))), s9, s10, s11] = some (.lst ((ts.take (j + 1)).map .int)) := by
              have e := ev_sl0 (fa := eV 3) (fb := e2 dAdd (eV 7) (eC (.int 1))) (k := 0 + (j : Nat) + 1) (xs := ts.map .int) (δ := [.o (.val (.lst (ns.map .int))), .o (.val (.int (i : Nat))), .o (.val (.int c)), .o (.val (.lst (ts.map .int))), .o (.val (.int m)), .o (.val (.int s)), .o (.lst ((planP ts s (doneN ts j)).map rw3)), .o (.val (.int (0 + (j : Nat)))), .o (.val (.lst (((ts.drop (j - j % 12)).take (j + 1 - (j - j % 12))).map .int))), s9, s10, s11]) (ev_V rfl) (ev_2 (ev_V rfl) ev_C dAdd_int) (by omega)
              rw [← List.map_take, show (0 + ((j : Nat) : Int) + 1).toNat = j + 1 by omega] at e
              exact e
            refine w_seq (st_asg hsg) ?_
            refine w_of (st_app (xs := (planP ts s (doneN ts j)).map rw3) (d := rw3 (rowP ts s (j / 12))) rfl ?_ (by unfold planP; rw [List.length_map, List.length_map, List.length_range]; omega)) ⟨_, rfl, .o (.val (.int (0 + (j : Nat)))), .o (.val (.lst (((ts.drop (j - j % 12)).take (j + 1 - (j - j % 12))).map .int))), by rw [hd1, planP_succ, List.map_append, hd0]; rfl⟩
            rw [hrow]
            refine ev_T (ev_aC (ev_B (ev_aC (ev_V rfl) ev_aN) sum_l) (ev_aC (ev_2 (ev_V rfl) (ev_B (ev_aC (ev_V rfl) ev_aN) len_l) (by rw [List.length_map]; exact dMulL (by omega))) (ev_aC (ev_2 (ev_B (ev_aC hpre ev_aN) sum_l) (ev_2 (ev_V rfl) (ev_2 (ev_V rfl) ev_C dAdd_int) (dMulL (by omega))) ?_) ev_aN))) rfl
            rw [dSub_int, Int.zero_add]
          · have hb : ¬ (j % 12 = 11) ∧ ¬ (j = ts.length - 1) := by
              rcases Bool.or_eq_false_iff.mp hb with ⟨h, h'⟩
              exact ⟨of_decide_eq_false h, of_decide_eq_false h'⟩
            have hd1 : doneN ts (j + 1) = j / 12 := by
              unfold doneN
              split <;> omega
            exact w_nil ⟨_, rfl, .o (.val (.int (0 + (j : Nat)))), t8, by rw [hd1, hd0]; rfl⟩
        · rintro δ ⟨t7, t8, rfl⟩
          have : doneN ts (rngD 0 (((ts.map Dat.int).length : Nat) : Int).toNat).length = many ts := by
            rw [rng_len, Int.toNat_natCast, List.length_map]
            unfold doneN
            rw [if_pos rfl]
          rw [this]
          exact ⟨_, rfl, t7, t8, rfl⟩
      rintro δ ⟨t7, t8, rfl⟩
      have hpo := plan_oko ts s htl hs
      have hpl : (planP ts s (many ts)).length = many ts := by unfold planP; rw [List.length_map, List.length_range]
      have hsame := same_rows (planP ts s (many ts)) (by omega)
      refine w_seq (st_asg (d := .lst (ts.map .int)) (ev_B (ev_aC (ev_V rfl) ev_aN) list_l)) ?_
      refine w_for (fun j δ => ∃ s10 s11 : Slot, δ = [.o (.val (.lst (ns.map .int))), .o (.val (.int (i : Nat))), .o (.val (.int c)), .o (.val (.lst (ts.map .int))), .o (.val (.int m)), .o (.val (.int s)), .o (.lst ((planP ts s (many ts)).map rw3)), t7, t8, .o (.val (.lst (ts.map .int))), s10, s11]) (it_rg1 (j := 2) ev_C (by omega)) ⟨s10, s11, rfl⟩ ?_ ?_
      · rintro j d δ hd ⟨t10, t11, rfl⟩
        obtain ⟨rfl, hj⟩ := rng_get hd
        refine ⟨_, rfl, w_seq (st_asgO (x := .lst ((planP ts s (many ts)).map rw3)) (ev_aC (ev_V rfl) (ev_aC (ev_V rfl) ev_aN)) rfl hpo) ?_⟩
        refine w_seqI (fun δ => δ = [.o (.val (.lst (ns.map .int))), .o (.val (.int (i : Nat))), .o (.val (.int c)), .o (.val (.lst (ts.map .int))), .o (.val (.int m)), .o (.val (.int s)), .o (.lst ((planP ts s (many ts)).map rw3)), t7, t8, .o (.val (.lst (ts.map .int))), .o (.val (.int (0 + (j : Nat)))), .o (.lst ((planP ts s (many ts)).map rw3))]) ?_ ?_
        · exact w_ifT (b := false) (tv_or_f (tv_not (b := true) (tv_1 (ev_call (ev_aC (ev_V rfl) (ev_aC (ev_V rfl) ev_aN)) rfl hsame))) (tv_1 (ev_2 (ev_V rfl) (ev_V rfl) (ne_ints ts)))) (fun z => by cases z) (fun _ => w_nil ⟨_, rfl, rfl⟩)
        rintro δ rfl
        exact w_of (st_app (xs := (planP ts s (many ts)).map rw3) (d := .int 7) rfl ev_C (by rw [List.length_map]; omega)) ⟨_, rfl, _, _, rfl⟩
      · rintro δ ⟨t10, t11, rfl⟩
        exact ⟨_, rfl, _, _, _, _, _, _, _, _, _, _, _, rfl⟩
    · rintro δ ⟨s1, s2, s3, s4, s5, s6, s7, s8, s9, s10, s11, rfl⟩
      exact ⟨_, rfl, w_ret ev_C ⟨_, rfl, rfl⟩⟩
  exact h1
end MB

namespace MB
open PySem PySem.Spec PyProof.Rows L2
seal PB1 PB PP PPA PPT PPW PPG PPGs PPI PPO PIfs PRc
def top (i : Nat) : Stmt := PySem.Challenge.pw_meterbook_k10_plans.main.body.getD i (.Pass ⟨0, 0, 0, 0⟩)
abbrev s_plan : Stmt := top 2
abbrev s_l_mixed : Stmt := top 4
abbrev s_l_draws : Stmt := top 5
abbrev s_l_same : Stmt := top 6
abbrev s_l_totals : Stmt := top 7
abbrev s_law : Stmt := top 8
structure Zs (mg : Str → Option Value) : Prop where
  range : mg "range" = none
  len : mg "len" = none
  PLANNED : ∃ t, mg "PLANNED" = some (.int 12 t)
  sum : mg "sum" = none
  isinstance : mg "isinstance" = none
  list : mg "list" = none
  tuple : mg "tuple" = none
  all : mg "all" = none
  int : mg "int" = none
  bool : mg "bool" = none
  enumerate : mg "enumerate" = none
section
variable {P : Program} {w : World} {K : PySem.W.Frag} {mg : Str → Option Value} {base : Heap} {cl : Nat → Addr}
theorem sc_plan : FnScope ["totals", "monthly", "told", "balance", "begin", "due", "owed", "paid"] ["totals", "monthly"] (defScope s_plan) := ⟨rfl, rfl, rfl, by decide +kernel, rfl, by decide +kernel, by decide +kernel⟩
theorem bd_plan (Z : Zs mg)  (f : Addr) (cdv : Value) (A : Around) (outer : List Env) (s : Shared) (H : Hp) (E : XK) (hr : Room 0 (A.deeper (envOfC "plan" (defScope s_plan) s.heap.objs.size f cdv))) :
    PB cl (cxOf CX0 P w K mg base ["totals", "monthly", "told", "balance", "begin", "due", "owed", "paid"] "plan" (defScope s_plan) f cdv A outer s H E).nox (defBody s_plan) b_plan := by
  have hu := hu_of hr
  have hv := hr.units
  have nd := sc_plan.nd
  exact (pb_cons (pb_newL (i := 2) nd rfl (by first | exact Or.inl rfl | exact Or.inr rfl))
      (pb_cons (pb_asg (i := 3) nd rfl (by first | exact Or.inl rfl | exact Or.inr rfl) pp_int)
      (pb_cons (pb_for PassesOwn.never rfl (ppi_range3 rfl Z.range pp_int (pp_len rfl Z.len (ppa_cons (pp_var (pv 0)) ppa_nil)) (pp_globI rfl Z.PLANNED)) (ppg_name (i := 4) nd rfl (by first | exact Or.inl rfl | exact Or.inr rfl)) (pb_cons (pb_asg (i := 5) nd rfl (by first | exact Or.inl rfl | exact Or.inr rfl) (pp_sl (pp_var (pv 0)) (ppo_some (pp_var (pv 4))) (ppo_some (pp_add (pp_var (pv 4)) (pp_globI rfl Z.PLANNED)))))
      (pb_cons (pb_asg (i := 6) nd rfl (by first | exact Or.inl rfl | exact Or.inr rfl) (pp_sum rfl Z.sum (ppa_cons (pp_var (pv 5)) ppa_nil)))
      (pb_cons (pb_asg (i := 7) nd rfl (by first | exact Or.inl rfl | exact Or.inr rfl) (pp_mul (pp_var (pv 1)) (pp_len rfl Z.len (ppa_cons (pp_var (pv 5)) ppa_nil))))
      (pb_cons (pb_asg (i := 3) nd rfl (by first | exact Or.inl rfl | exact Or.inr rfl) (pp_sub (pp_add (pp_var (pv 3)) (pp_var (pv 6))) (pp_var (pv 7))))
      (pb_one (pb_app (pv 2) (pp_tup (ppa_cons (pp_var (pv 6)) (ppa_cons (pp_var (pv 7)) (ppa_cons (pp_var (pv 3)) ppa_nil)))) (fun ho ha => pe_bm PySem.F.plainAttrs_list PySem.F.slot_list_append PySem.F.type_list_append mt_append ho ha))))))))
      (pb_one (pb_retN (pv 2))))))
theorem ok_plan {f : Addr} {fd : FuncData} (Fx : Fun K "plan" "plan" s_plan f fd) (Z : Zs mg)  : FnOk P w K mg base CX0 1 f fd ["totals", "monthly"] (spD K cl 2 f_plan) :=
  fn_pure (N := ["totals", "monthly", "told", "balance", "begin", "due", "owed", "paid"]) (k := 0) Fx sc_plan (bd_plan Z  f)
theorem oko_plan {f : Addr} {fd : FuncData} (Fx : Fun K "plan" "plan" s_plan f fd) (Z : Zs mg)  : FnOk P w K mg base CX0 1 f fd ["totals", "monthly"] (spO K cl 2 fo_plan) :=
  fn_fresh (N := ["totals", "monthly", "told", "balance", "begin", "due", "owed", "paid"]) (k := 0) Fx sc_plan (bd_plan Z  f)
theorem sc_l_mixed : FnScope ["_law_number", "_law_k", "_law_once"] ["_law_number", "_law_k"] (defScope s_l_mixed) := ⟨rfl, rfl, rfl, by decide +kernel, rfl, by decide +kernel, by decide +kernel⟩
theorem bd_l_mixed (Z : Zs mg)  (f : Addr) (cdv : Value) (A : Around) (outer : List Env) (s : Shared) (H : Hp) (E : XK) (hr : Room 0 (A.deeper (envOfC "_law_mixed" (defScope s_l_mixed) s.heap.objs.size f cdv))) :
    PB cl (cxOf CX0 P w K mg base ["_law_number", "_law_k", "_law_once"] "_law_mixed" (defScope s_l_mixed) f cdv A outer s H E).nox (defBody s_l_mixed) b_l_mixed := by
  have hu := hu_of hr
  have hv := hr.units
  have nd := sc_l_mixed.nd
  exact (pb_cons (pb_asg (i := 2) nd rfl (by first | exact Or.inl rfl | exact Or.inr rfl) (pp_mod (pp_mul (pp_add (pp_add (pp_mod (pp_var (pv 0)) pp_int) (pp_mul pp_int (pp_var (pv 1)))) pp_int) pp_int) pp_int))
      (pb_one (pb_ret (pp_mod (pp_mul (pp_var (pv 2)) (pp_add (pp_add (pp_mod (pp_var (pv 2)) pp_int) (pp_var (pv 1))) pp_int)) pp_int))))
theorem ok_l_mixed {f : Addr} {fd : FuncData} (Fx : Fun K "_law_mixed" "_law_mixed" s_l_mixed f fd) (Z : Zs mg)  : FnOk P w K mg base CX0 1 f fd ["_law_number", "_law_k"] (spD K cl 2 f_l_mixed) :=
  fn_pure (N := ["_law_number", "_law_k", "_law_once"]) (k := 0) Fx sc_l_mixed (bd_l_mixed Z  f)
theorem sc_l_draws : FnScope ["_law_cell", "_law_many", "_law_size", "_law_found", "_law_left", "_law_k"] ["_law_cell", "_law_many", "_law_size"] (defScope s_l_draws) := ⟨rfl, rfl, rfl, by decide +kernel, rfl, by decide +kernel, by decide +kernel⟩
theorem bd_l_draws (Z : Zs mg) (c_l_mixed : Cal P w K mg base cl "_law_mixed" 1 ["_law_number", "_law_k"] f_l_mixed) (f : Addr) (cdv : Value) (A : Around) (outer : List Env) (s : Shared) (H : Hp) (E : XK) (hr : Room 1 (A.deeper (envOfC "_law_draws" (defScope s_l_draws) s.heap.objs.size f cdv))) :
    PB cl (cxOf CX0 P w K mg base ["_law_cell", "_law_many", "_law_size", "_law_found", "_law_left", "_law_k"] "_law_draws" (defScope s_l_draws) f cdv A outer s H E).nox (defBody s_l_draws) b_l_draws := by
  have hu := hu_of hr
  have hv := hr.units
  have nd := sc_l_draws.nd
  exact (pb_cons (pb_newL (i := 3) nd rfl (by first | exact Or.inl rfl | exact Or.inr rfl))
      (pb_cons (pb_asg (i := 4) nd rfl (by first | exact Or.inl rfl | exact Or.inr rfl) (pp_div (pp_var (pv 0)) pp_int))
      (pb_cons (pb_for PassesOwn.never rfl (ppi_range1 rfl Z.range (pp_var (pv 1))) (ppg_name (i := 5) nd rfl (by first | exact Or.inl rfl | exact Or.inr rfl)) (pb_one (pb_if (ppt_eq hv (pp_mod (pp_var (pv 0)) pp_int) pp_int) (pb_cons (pb_app (pv 3) (pp_mod (pp_var (pv 4)) (pp_var (pv 2))) (fun ho ha => pe_bm PySem.F.plainAttrs_list PySem.F.slot_list_append PySem.F.type_list_append mt_append ho ha))
      (pb_one (pb_asg (i := 4) nd rfl (by first | exact Or.inl rfl | exact Or.inr rfl) (pp_div (pp_var (pv 4)) (pp_var (pv 2)))))) (pb_one (pb_app (pv 3) (pp_mod (pp_callC c_l_mixed hr rfl (ppa_cons (pp_callC c_l_mixed hr rfl (ppa_cons (pp_var (pv 0)) (ppa_cons (pp_var (pv 5)) ppa_nil))) (ppa_cons pp_int ppa_nil))) (pp_var (pv 2))) (fun ho ha => pe_bm PySem.F.plainAttrs_list PySem.F.slot_list_append PySem.F.type_list_append mt_append ho ha))))))
      (pb_one (pb_retN (pv 3))))))
theorem ok_l_draws {f : Addr} {fd : FuncData} (Fx : Fun K "_law_draws" "_law_draws" s_l_draws f fd) (Z : Zs mg) (c_l_mixed : Cal P w K mg base cl "_law_mixed" 1 ["_law_number", "_law_k"] f_l_mixed) : FnOk P w K mg base CX0 2 f fd ["_law_cell", "_law_many", "_law_size"] (spD K cl 3 f_l_draws) :=
  fn_pure (N := ["_law_cell", "_law_many", "_law_size", "_law_found", "_law_left", "_law_k"]) (k := 1) Fx sc_l_draws (bd_l_draws Z c_l_mixed f)
theorem sc_l_same : FnScope ["_law_found", "_law_due"] ["_law_found", "_law_due"] (defScope s_l_same) := ⟨rfl, rfl, rfl, by decide +kernel, rfl, by decide +kernel, by decide +kernel⟩
theorem bd_l_same_1 (Z : Zs mg)  (crec : Cal P w K mg base cl "_law_same" 0 ["_law_found", "_law_due"] f_l_same_0) (f : Addr) (cdv : Value) (A : Around) (outer : List Env) (s : Shared) (H : Hp) (E : XK) (hr : Room 0 (A.deeper (envOfC "_law_same" (defScope s_l_same) s.heap.objs.size f cdv))) :
    PB cl (cxOf CX0 P w K mg base ["_law_found", "_law_due"] "_law_same" (defScope s_l_same) f cdv A outer s H E).nox (defBody s_l_same) (b_l_same f_l_same_0) := by
  have hu := hu_of hr
  have hv := hr.units
  have nd := sc_l_same.nd
  exact (pb_cons (pb_if (ppt_val (pp_isiLT rfl Z.isinstance rfl Z.list rfl Z.tuple (pp_var (pv 1)))) (pb_cons (pb_if (PPW.pt (ppw_or (ppt_ne hv (pp_isiList rfl Z.isinstance rfl Z.list (pp_var (pv 1))) (pp_isiList rfl Z.isinstance rfl Z.list (pp_var (pv 0)))) (ppw_or1 (ppt_ne hv (pp_isiTuple rfl Z.isinstance rfl Z.tuple (pp_var (pv 1))) (pp_isiTuple rfl Z.isinstance rfl Z.tuple (pp_var (pv 0))))))) (pb_one (pb_ret pp_bl)) pb_nil)
      (pb_cons (pb_if (ppt_ne hv (pp_len rfl Z.len (ppa_cons (pp_var (pv 0)) ppa_nil)) (pp_len rfl Z.len (ppa_cons (pp_var (pv 1)) ppa_nil))) (pb_one (pb_ret pp_bl)) pb_nil)
      (pb_one (pb_ret (pp_all rfl Z.all (ppa_cons (pp_comp (N := ["_law_k", "_law_found", "_law_due"]) (vars := ["_law_k"]) (caps := [0, 1]) rfl (compSc_of (defScope s_l_same).names ["_law_found", "_law_due"] (fun _ => rfl) rfl (by decide +kernel)) (ppi_range1 rfl Z.range (pp_len rfl Z.len (ppa_cons (pp_var (pv 1)) ppa_nil))) (fun C s0 H0 fp => ⟨(ppg_name (i := 0) (show List.Nodup (["_law_k", "_law_found", "_law_due"] : List Str) by decide +kernel) rfl (Or.inl rfl)), pifs_nil, (pp_callC crec hr rfl (ppa_cons (pp_ix hu (pp_var (pv 1)) (pp_var (pv 0)) (fun _ _ => rfl)) (ppa_cons (pp_ix hu (pp_var (pv 2)) (pp_var (pv 0)) (fun _ _ => rfl)) ppa_nil)))⟩)) ppa_nil)))))) pb_nil)
      (pb_one (pb_ret (pp_and (pp_isiInt rfl Z.isinstance rfl Z.int (pp_var (pv 0))) (pp_and (pp_not (pp_isiBool rfl Z.isinstance rfl Z.bool (pp_var (pv 0)))) (pp_one (pp_eq hv (pp_var (pv 0)) (pp_var (pv 1)))))))))
theorem ok_l_same_1 {f : Addr} {fd : FuncData} (Fx : Fun K "_law_same" "_law_same" s_l_same f fd) (Z : Zs mg)  (crec : Cal P w K mg base cl "_law_same" 0 ["_law_found", "_law_due"] f_l_same_0) : FnOk P w K mg base CX0 1 f fd ["_law_found", "_law_due"] (spD K cl 2 f_l_same_1) :=
  fn_pure (N := ["_law_found", "_law_due"]) (k := 0) Fx sc_l_same (bd_l_same_1 Z  crec f)
theorem bd_l_same_2 (Z : Zs mg)  (crec : Cal P w K mg base cl "_law_same" 1 ["_law_found", "_law_due"] f_l_same_1) (f : Addr) (cdv : Value) (A : Around) (outer : List Env) (s : Shared) (H : Hp) (E : XK) (hr : Room 1 (A.deeper (envOfC "_law_same" (defScope s_l_same) s.heap.objs.size f cdv))) :
    PB cl (cxOf CX0 P w K mg base ["_law_found", "_law_due"] "_law_same" (defScope s_l_same) f cdv A outer s H E).nox (defBody s_l_same) (b_l_same f_l_same_1) := by
  have hu := hu_of hr
  have hv := hr.units
  have nd := sc_l_same.nd
  exact (pb_cons (pb_if (ppt_val (pp_isiLT rfl Z.isinstance rfl Z.list rfl Z.tuple (pp_var (pv 1)))) (pb_cons (pb_if (PPW.pt (ppw_or (ppt_ne hv (pp_isiList rfl Z.isinstance rfl Z.list (pp_var (pv 1))) (pp_isiList rfl Z.isinstance rfl Z.list (pp_var (pv 0)))) (ppw_or1 (ppt_ne hv (pp_isiTuple rfl Z.isinstance rfl Z.tuple (pp_var (pv 1))) (pp_isiTuple rfl Z.isinstance rfl Z.tuple (pp_var (pv 0))))))) (pb_one (pb_ret pp_bl)) pb_nil)
      (pb_cons (pb_if (ppt_ne hv (pp_len rfl Z.len (ppa_cons (pp_var (pv 0)) ppa_nil)) (pp_len rfl Z.len (ppa_cons (pp_var (pv 1)) ppa_nil))) (pb_one (pb_ret pp_bl)) pb_nil)
      (pb_one (pb_ret (pp_all rfl Z.all (ppa_cons (pp_comp (N := ["_law_k", "_law_found", "_law_due"]) (vars := ["_law_k"]) (caps := [0, 1]) rfl (compSc_of (defScope s_l_same).names ["_law_found", "_law_due"] (fun _ => rfl) rfl (by decide +kernel)) (ppi_range1 rfl Z.range (pp_len rfl Z.len (ppa_cons (pp_var (pv 1)) ppa_nil))) (fun C s0 H0 fp => ⟨(ppg_name (i := 0) (show List.Nodup (["_law_k", "_law_found", "_law_due"] : List Str) by decide +kernel) rfl (Or.inl rfl)), pifs_nil, (pp_callC crec hr rfl (ppa_cons (pp_ix hu (pp_var (pv 1)) (pp_var (pv 0)) (fun _ _ => rfl)) (ppa_cons (pp_ix hu (pp_var (pv 2)) (pp_var (pv 0)) (fun _ _ => rfl)) ppa_nil)))⟩)) ppa_nil)))))) pb_nil)
      (pb_one (pb_ret (pp_and (pp_isiInt rfl Z.isinstance rfl Z.int (pp_var (pv 0))) (pp_and (pp_not (pp_isiBool rfl Z.isinstance rfl Z.bool (pp_var (pv 0)))) (pp_one (pp_eq hv (pp_var (pv 0)) (pp_var (pv 1)))))))))
theorem ok_l_same_2 {f : Addr} {fd : FuncData} (Fx : Fun K "_law_same" "_law_same" s_l_same f fd) (Z : Zs mg)  (crec : Cal P w K mg base cl "_law_same" 1 ["_law_found", "_law_due"] f_l_same_1) : FnOk P w K mg base CX0 2 f fd ["_law_found", "_law_due"] (spD K cl 2 f_l_same_2) :=
  fn_pure (N := ["_law_found", "_law_due"]) (k := 1) Fx sc_l_same (bd_l_same_2 Z  crec f)
theorem bd_l_same_3 (Z : Zs mg)  (crec : Cal P w K mg base cl "_law_same" 2 ["_law_found", "_law_due"] f_l_same_2) (f : Addr) (cdv : Value) (A : Around) (outer : List Env) (s : Shared) (H : Hp) (E : XK) (hr : Room 2 (A.deeper (envOfC "_law_same" (defScope s_l_same) s.heap.objs.size f cdv))) :
    PB cl (cxOf CX0 P w K mg base ["_law_found", "_law_due"] "_law_same" (defScope s_l_same) f cdv A outer s H E).nox (defBody s_l_same) (b_l_same f_l_same_2) := by
  have hu := hu_of hr
  have hv := hr.units
  have nd := sc_l_same.nd
  exact (pb_cons (pb_if (ppt_val (pp_isiLT rfl Z.isinstance rfl Z.list rfl Z.tuple (pp_var (pv 1)))) (pb_cons (pb_if (PPW.pt (ppw_or (ppt_ne hv (pp_isiList rfl Z.isinstance rfl Z.list (pp_var (pv 1))) (pp_isiList rfl Z.isinstance rfl Z.list (pp_var (pv 0)))) (ppw_or1 (ppt_ne hv (pp_isiTuple rfl Z.isinstance rfl Z.tuple (pp_var (pv 1))) (pp_isiTuple rfl Z.isinstance rfl Z.tuple (pp_var (pv 0))))))) (pb_one (pb_ret pp_bl)) pb_nil)
      (pb_cons (pb_if (ppt_ne hv (pp_len rfl Z.len (ppa_cons (pp_var (pv 0)) ppa_nil)) (pp_len rfl Z.len (ppa_cons (pp_var (pv 1)) ppa_nil))) (pb_one (pb_ret pp_bl)) pb_nil)
      (pb_one (pb_ret (pp_all rfl Z.all (ppa_cons (pp_comp (N := ["_law_k", "_law_found", "_law_due"]) (vars := ["_law_k"]) (caps := [0, 1]) rfl (compSc_of (defScope s_l_same).names ["_law_found", "_law_due"] (fun _ => rfl) rfl (by decide +kernel)) (ppi_range1 rfl Z.range (pp_len rfl Z.len (ppa_cons (pp_var (pv 1)) ppa_nil))) (fun C s0 H0 fp => ⟨(ppg_name (i := 0) (show List.Nodup (["_law_k", "_law_found", "_law_due"] : List Str) by decide +kernel) rfl (Or.inl rfl)), pifs_nil, (pp_callC crec hr rfl (ppa_cons (pp_ix hu (pp_var (pv 1)) (pp_var (pv 0)) (fun _ _ => rfl)) (ppa_cons (pp_ix hu (pp_var (pv 2)) (pp_var (pv 0)) (fun _ _ => rfl)) ppa_nil)))⟩)) ppa_nil)))))) pb_nil)
      (pb_one (pb_ret (pp_and (pp_isiInt rfl Z.isinstance rfl Z.int (pp_var (pv 0))) (pp_and (pp_not (pp_isiBool rfl Z.isinstance rfl Z.bool (pp_var (pv 0)))) (pp_one (pp_eq hv (pp_var (pv 0)) (pp_var (pv 1)))))))))
theorem ok_l_same_3 {f : Addr} {fd : FuncData} (Fx : Fun K "_law_same" "_law_same" s_l_same f fd) (Z : Zs mg)  (crec : Cal P w K mg base cl "_law_same" 2 ["_law_found", "_law_due"] f_l_same_2) : FnOk P w K mg base CX0 3 f fd ["_law_found", "_law_due"] (spD K cl 2 f_l_same) :=
  fn_pure (N := ["_law_found", "_law_due"]) (k := 2) Fx sc_l_same (bd_l_same_3 Z  crec f)
theorem sc_l_totals : FnScope ["_law_cell", "_law_k", "_law_draws_here", "_law_many", "_law_made", "_law_one"] ["_law_cell", "_law_k"] (defScope s_l_totals) := ⟨rfl, rfl, rfl, by decide +kernel, rfl, by decide +kernel, by decide +kernel⟩
theorem bd_l_totals (Z : Zs mg) (c_l_draws : Cal P w K mg base cl "_law_draws" 2 ["_law_cell", "_law_many", "_law_size"] f_l_draws) (f : Addr) (cdv : Value) (A : Around) (outer : List Env) (s : Shared) (H : Hp) (E : XK) (hr : Room 2 (A.deeper (envOfC "_law_totals" (defScope s_l_totals) s.heap.objs.size f cdv))) :
    PB cl (cxOf CX0 P w K mg base ["_law_cell", "_law_k", "_law_draws_here", "_law_many", "_law_made", "_law_one"] "_law_totals" (defScope s_l_totals) f cdv A outer s H E).nox (defBody s_l_totals) b_l_totals := by
  have hu := hu_of hr
  have hv := hr.units
  have nd := sc_l_totals.nd
  exact (pb_cons (pb_asg (i := 2) nd rfl (by first | exact Or.inl rfl | exact Or.inr rfl) (pp_callC c_l_draws hr rfl (ppa_cons (pp_add (pp_var (pv 0)) (pp_var (pv 1))) (ppa_cons pp_int (ppa_cons pp_int ppa_nil)))))
      (pb_cons (pb_asg (i := 3) nd rfl (by first | exact Or.inl rfl | exact Or.inr rfl) (pp_ix hu (pp_lst (ppa_cons (pp_ix hu (pp_var (pv 2)) pp_int (fun _ _ => rfl)) (ppa_cons (pp_mul pp_int (pp_mod (pp_ix hu (pp_var (pv 2)) pp_int (fun _ _ => rfl)) pp_int)) (ppa_cons (pp_mod (pp_ix hu (pp_var (pv 2)) pp_int (fun _ _ => rfl)) pp_int) (ppa_cons (pp_ix hu (pp_var (pv 2)) pp_int (fun _ _ => rfl)) ppa_nil))))) (pp_mod (pp_ix hu (pp_var (pv 2)) pp_int (fun _ _ => rfl)) pp_int) (fun _ _ => rfl)))
      (pb_cons (pb_newL (i := 4) nd rfl (by first | exact Or.inl rfl | exact Or.inr rfl))
      (pb_cons (pb_for PassesOwn.never rfl (ppi_seq (pp_sl (pp_var (pv 2)) ppo_none (ppo_some (pp_var (pv 3))))) (ppg_name (i := 5) nd rfl (by first | exact Or.inl rfl | exact Or.inr rfl)) (pb_one (pb_app (pv 4) (pp_ix hu (pp_lst (ppa_cons (pp_var (pv 5)) (ppa_cons (pp_sub (pp_mul (pp_var (pv 5)) (pp_pow pp_int pp_int)) (pp_var (pv 5))) (ppa_cons (pp_sub pp_int (pp_var (pv 5))) (ppa_cons (pp_sub pp_int (pp_mul (pp_var (pv 5)) (pp_pow pp_int pp_int))) ppa_nil))))) (pp_mod (pp_div (pp_ix hu (pp_var (pv 2)) pp_int (fun _ _ => rfl)) pp_int) pp_int) (fun _ _ => rfl)) (fun ho ha => pe_bm PySem.F.plainAttrs_list PySem.F.slot_list_append PySem.F.type_list_append mt_append ho ha))))
      (pb_one (pb_retN (pv 4)))))))
theorem ok_l_totals {f : Addr} {fd : FuncData} (Fx : Fun K "_law_totals" "_law_totals" s_l_totals f fd) (Z : Zs mg) (c_l_draws : Cal P w K mg base cl "_law_draws" 2 ["_law_cell", "_law_many", "_law_size"] f_l_draws) : FnOk P w K mg base CX0 3 f fd ["_law_cell", "_law_k"] (spD K cl 2 f_l_totals) :=
  fn_pure (N := ["_law_cell", "_law_k", "_law_draws_here", "_law_many", "_law_made", "_law_one"]) (k := 2) Fx sc_l_totals (bd_l_totals Z c_l_draws f)
theorem sc_law : FnScope ["_law_script", "_law_k", "_law_cell", "_law_totals_here", "_law_number", "_law_paid", "_law_due", "_law_j", "_law_some", "_law_handed", "_law_turn", "_law_found"] ["_law_script"] (defScope s_law) := ⟨rfl, rfl, rfl, by decide +kernel, rfl, by decide +kernel, by decide +kernel⟩
theorem bd_law (Z : Zs mg) (c_l_totals : Cal P w K mg base cl "_law_totals" 3 ["_law_cell", "_law_k"] f_l_totals) (c_l_mixed : Cal P w K mg base cl "_law_mixed" 1 ["_law_number", "_law_k"] f_l_mixed) (co_plan : CalO P w K mg base cl "plan" 1 ["totals", "monthly"] fo_plan) (c_l_same : Cal P w K mg base cl "_law_same" 3 ["_law_found", "_law_due"] f_l_same) (f : Addr) (cdv : Value) (A : Around) (outer : List Env) (s : Shared) (H : Hp) (E : XK) (hr : Room 3 (A.deeper (envOfC "law" (defScope s_law) s.heap.objs.size f cdv))) :
    PB cl (cxOf CX0 P w K mg base ["_law_script", "_law_k", "_law_cell", "_law_totals_here", "_law_number", "_law_paid", "_law_due", "_law_j", "_law_some", "_law_handed", "_law_turn", "_law_found"] "law" (defScope s_law) f cdv A outer s H E).nox (defBody s_law) b_law := by
  have hu := hu_of hr
  have hv := hr.units
  have nd := sc_law.nd
  exact (pb_cons (pb_for PassesOwn.never rfl (ppi_enum rfl Z.enumerate (pp_add (pp_sl (pp_var (pv 0)) ppo_none (ppo_some pp_int)) (pp_lst (ppa_cons (pp_len rfl Z.len (ppa_cons (pp_var (pv 0)) ppa_nil)) ppa_nil)))) (ppg_tup rfl (ppgs_cons (ppg_name (i := 1) nd rfl (by first | exact Or.inl rfl | exact Or.inr rfl)) (ppgs_cons (ppg_name (i := 2) nd rfl (by first | exact Or.inl rfl | exact Or.inr rfl)) ppgs_nil))) (pb_cons (pb_asg (i := 3) nd rfl (by first | exact Or.inl rfl | exact Or.inr rfl) (pp_callC c_l_totals hr rfl (ppa_cons (pp_var (pv 2)) (ppa_cons (pp_var (pv 1)) ppa_nil))))
      (pb_cons (pb_asg (i := 4) nd rfl (by first | exact Or.inl rfl | exact Or.inr rfl) (pp_callC c_l_mixed hr rfl (ppa_cons (pp_var (pv 2)) (ppa_cons (pp_add pp_int (pp_var (pv 1))) ppa_nil))))
      (pb_cons (pb_asg (i := 5) nd rfl (by first | exact Or.inl rfl | exact Or.inr rfl) (pp_ix hu (pp_lst (ppa_cons (pp_mod (pp_div (pp_var (pv 4)) pp_int) pp_int) (ppa_cons pp_int (ppa_cons (pp_mod (pp_var (pv 2)) (pp_pow pp_int pp_int)) ppa_nil)))) (pp_mod (pp_var (pv 4)) pp_int) (fun _ _ => rfl)))
      (pb_cons (pb_newL (i := 6) nd rfl (by first | exact Or.inl rfl | exact Or.inr rfl))
      (pb_cons (pb_for PassesOwn.never rfl (ppi_range1 rfl Z.range (pp_len rfl Z.len (ppa_cons (pp_var (pv 3)) ppa_nil))) (ppg_name (i := 7) nd rfl (by first | exact Or.inl rfl | exact Or.inr rfl)) (pb_one (pb_if (PPW.pt (ppw_or (ppt_eq hv (pp_mod (pp_var (pv 7)) pp_int) pp_int) (ppw_or1 (ppt_eq hv (pp_var (pv 7)) (pp_sub (pp_len rfl Z.len (ppa_cons (pp_var (pv 3)) ppa_nil)) pp_int))))) (pb_cons (pb_asg (i := 8) nd rfl (by first | exact Or.inl rfl | exact Or.inr rfl) (pp_sl (pp_var (pv 3)) (ppo_some (pp_sub (pp_var (pv 7)) (pp_mod (pp_var (pv 7)) pp_int))) (ppo_some (pp_add (pp_var (pv 7)) pp_int))))
      (pb_one (pb_app (pv 6) (pp_tup (ppa_cons (pp_sum rfl Z.sum (ppa_cons (pp_var (pv 8)) ppa_nil)) (ppa_cons (pp_mul (pp_var (pv 5)) (pp_len rfl Z.len (ppa_cons (pp_var (pv 8)) ppa_nil))) (ppa_cons (pp_sub (pp_sum rfl Z.sum (ppa_cons (pp_sl (pp_var (pv 3)) ppo_none (ppo_some (pp_add (pp_var (pv 7)) pp_int))) ppa_nil)) (pp_mul (pp_var (pv 5)) (pp_add (pp_var (pv 7)) pp_int))) ppa_nil)))) (fun ho ha => pe_bm PySem.F.plainAttrs_list PySem.F.slot_list_append PySem.F.type_list_append mt_append ho ha)))) pb_nil)))
      (pb_cons (pb_asg (i := 9) nd rfl (by first | exact Or.inl rfl | exact Or.inr rfl) (pp_listc rfl Z.list (ppa_cons (pp_var (pv 3)) ppa_nil)))
      (pb_one (pb_for PassesOwn.never rfl (ppi_range1 rfl Z.range pp_int) (ppg_name (i := 10) nd rfl (by first | exact Or.inl rfl | exact Or.inr rfl)) (pb_cons (pb_asgOC (i := 11) co_plan hr rfl (ppa_cons (pp_var (pv 9)) (ppa_cons (pp_var (pv 5)) ppa_nil)) nd rfl (by first | exact Or.inl rfl | exact Or.inr rfl))
      (pb_cons (pb_ifT [11, 6] (PPW.pt (ppw_or (ppt_not (ppt_val (pp_callC c_l_same hr rfl (ppa_cons (pp_var (pv 11)) (ppa_cons (pp_var (pv 6)) ppa_nil))))) (ppw_or1 (ppt_ne hv (pp_var (pv 9)) (pp_var (pv 3)))))) (pb_one (pb_ret pp_bl)) pb_nil)
      (pb_one (pb_app (pv 11) pp_int (fun ho ha => pe_bm PySem.F.plainAttrs_list PySem.F.slot_list_append PySem.F.type_list_append mt_append ho ha))))))))))))))
      (pb_one (pb_ret pp_bl)))
theorem ok_law {f : Addr} {fd : FuncData} (Fx : Fun K "law" "law" s_law f fd) (Z : Zs mg) (c_l_totals : Cal P w K mg base cl "_law_totals" 3 ["_law_cell", "_law_k"] f_l_totals) (c_l_mixed : Cal P w K mg base cl "_law_mixed" 1 ["_law_number", "_law_k"] f_l_mixed) (co_plan : CalO P w K mg base cl "plan" 1 ["totals", "monthly"] fo_plan) (c_l_same : Cal P w K mg base cl "_law_same" 3 ["_law_found", "_law_due"] f_l_same) : FnOk P w K mg base CX0 4 f fd ["_law_script"] (spD K cl 1 f_law) :=
  fn_pure (N := ["_law_script", "_law_k", "_law_cell", "_law_totals_here", "_law_number", "_law_paid", "_law_due", "_law_j", "_law_some", "_law_handed", "_law_turn", "_law_found"]) (k := 3) Fx sc_law (bd_law Z c_l_totals c_l_mixed co_plan c_l_same f)
end
theorem all_mk {l : PySem.W.OpenLaw} {w : World} {K : PySem.W.Frag} {h : Heap} {mg : Str → Option Value} {fa f0 f1 f2 f3 f4 f5 : Addr} (X : K.In h) (G : h.Ns mainGlobals mg) (hfa : mg "law" = some (.ref fa))
    {od0 an0 od1 an1 od2 an2 od3 an3 od4 an4 od5 an5 : Option Addr} {sl0 sl1 sl2 sl3 sl4 sl5 : Array (Option Value)} {oc0 kV0 dc0 pm0 cd0 ct0 oc1 kV1 dc1 pm1 cd1 ct1 oc2 kV2 dc2 pm2 cd2 ct2 oc3 kV3 dc3 pm3 cd3 ct3 oc4 kV4 dc4 pm4 cd4 ct4 oc5 kV5 dc5 pm5 cd5 ct5 : Value} {tk2 : Tok}
    (a0 : PySem.W.nsIn K mainGlobals "plan" = some (some (.ref f0))) (l0 : K.lookup f0 = some ⟨oc0, od0, .func (PySem.W.fnOf "plan" "plan" (defArgs s_plan) (defBody s_plan) (defScope s_plan) .none kV0 dc0 pm0 an0 cd0 ct0), sl0⟩) (c0 : PySem.W.codeIn K cd0 "plan" = true) (k0 : PySem.W.keepIn K (.ref f0) = true)
    (a1 : PySem.W.nsIn K mainGlobals "_law_mixed" = some (some (.ref f1))) (l1 : K.lookup f1 = some ⟨oc1, od1, .func (PySem.W.fnOf "_law_mixed" "_law_mixed" (defArgs s_l_mixed) (defBody s_l_mixed) (defScope s_l_mixed) .none kV1 dc1 pm1 an1 cd1 ct1), sl1⟩) (c1 : PySem.W.codeIn K cd1 "_law_mixed" = true) (k1 : PySem.W.keepIn K (.ref f1) = true)
    (a2 : PySem.W.nsIn K mainGlobals "_law_draws" = some (some (.ref f2))) (l2 : K.lookup f2 = some ⟨oc2, od2, .func (PySem.W.fnOf "_law_draws" "_law_draws" (defArgs s_l_draws) (defBody s_l_draws) (defScope s_l_draws) .none kV2 dc2 pm2 an2 cd2 ct2), sl2⟩) (c2 : PySem.W.codeIn K cd2 "_law_draws" = true) (k2 : PySem.W.keepIn K (.ref f2) = true)
    (a3 : PySem.W.nsIn K mainGlobals "_law_same" = some (some (.ref f3))) (l3 : K.lookup f3 = some ⟨oc3, od3, .func (PySem.W.fnOf "_law_same" "_law_same" (defArgs s_l_same) (defBody s_l_same) (defScope s_l_same) .none kV3 dc3 pm3 an3 cd3 ct3), sl3⟩) (c3 : PySem.W.codeIn K cd3 "_law_same" = true) (k3 : PySem.W.keepIn K (.ref f3) = true)
    (a4 : PySem.W.nsIn K mainGlobals "_law_totals" = some (some (.ref f4))) (l4 : K.lookup f4 = some ⟨oc4, od4, .func (PySem.W.fnOf "_law_totals" "_law_totals" (defArgs s_l_totals) (defBody s_l_totals) (defScope s_l_totals) .none kV4 dc4 pm4 an4 cd4 ct4), sl4⟩) (c4 : PySem.W.codeIn K cd4 "_law_totals" = true) (k4 : PySem.W.keepIn K (.ref f4) = true)
    (a5 : PySem.W.nsIn K mainGlobals "law" = some (some (.ref f5))) (l5 : K.lookup f5 = some ⟨oc5, od5, .func (PySem.W.fnOf "law" "law" (defArgs s_law) (defBody s_law) (defScope s_law) .none kV5 dc5 pm5 an5 cd5 ct5), sl5⟩) (c5 : PySem.W.codeIn K cd5 "law" = true) (k5 : PySem.W.keepIn K (.ref f5) = true)
    (z0 : PySem.W.nsIn K mainGlobals "range" = some none)
    (z1 : PySem.W.nsIn K mainGlobals "len" = some none)
    (z2 : PySem.W.nsIn K mainGlobals "PLANNED" = some (some (.int 12 tk2)))
    (z3 : PySem.W.nsIn K mainGlobals "sum" = some none)
    (z4 : PySem.W.nsIn K mainGlobals "isinstance" = some none)
    (z5 : PySem.W.nsIn K mainGlobals "list" = some none)
    (z6 : PySem.W.nsIn K mainGlobals "tuple" = some none)
    (z7 : PySem.W.nsIn K mainGlobals "all" = some none)
    (z8 : PySem.W.nsIn K mainGlobals "int" = some none)
    (z9 : PySem.W.nsIn K mainGlobals "bool" = some none)
    (z10 : PySem.W.nsIn K mainGlobals "enumerate" = some none)
    : ∃ fd : FuncData, (∀ (s : Shared) (v : Value), BindsTo s fd ⟨[v], []⟩ [("_law_script", v)]) ∧ ∀ base : Heap, K.In base → base.Ns mainGlobals mg → FnOk l.prog w K mg base CX0 4 fa fd ["_law_script"] (spD K (fun _ => 0) 1 f_law) := by
  have e := hfa.symm.trans (PySem.W.mg_of X G a5)
  cases e
  have Z : Zs mg := ⟨PySem.W.mg_none_of X G z0, PySem.W.mg_none_of X G z1, ⟨_, PySem.W.mg_of X G z2⟩, PySem.W.mg_none_of X G z3, PySem.W.mg_none_of X G z4, PySem.W.mg_none_of X G z5, PySem.W.mg_none_of X G z6, PySem.W.mg_none_of X G z7, PySem.W.mg_none_of X G z8, PySem.W.mg_none_of X G z9, PySem.W.mg_none_of X G z10⟩
  have F0 := fun_mk (st := s_plan) l0 c0 k0
  have b0 := F0.binds (ps := ["totals", "monthly"]) fun _ _ _ _ _ _ us hl => match us, hl with | [_, _], _ => rfl
  have F1 := fun_mk (st := s_l_mixed) l1 c1 k1
  have b1 := F1.binds (ps := ["_law_number", "_law_k"]) fun _ _ _ _ _ _ us hl => match us, hl with | [_, _], _ => rfl
  have F2 := fun_mk (st := s_l_draws) l2 c2 k2
  have b2 := F2.binds (ps := ["_law_cell", "_law_many", "_law_size"]) fun _ _ _ _ _ _ us hl => match us, hl with | [_, _, _], _ => rfl
  have F3 := fun_mk (st := s_l_same) l3 c3 k3
  have b3 := F3.binds (ps := ["_law_found", "_law_due"]) fun _ _ _ _ _ _ us hl => match us, hl with | [_, _], _ => rfl
  have F4 := fun_mk (st := s_l_totals) l4 c4 k4
  have b4 := F4.binds (ps := ["_law_cell", "_law_k"]) fun _ _ _ _ _ _ us hl => match us, hl with | [_, _], _ => rfl
  have F5 := fun_mk (st := s_law) l5 c5 k5
  have b5 := F5.binds (ps := ["_law_script"]) fun _ _ _ _ _ _ us hl => match us, hl with | [_], _ => rfl
  refine ⟨PySem.W.fnOf "law" "law" (defArgs s_law) (defBody s_law) (defScope s_law) .none kV5 dc5 pm5 an5 cd5 ct5, fun s v => .of_eq rfl, fun base _ _ => ?_⟩
  have c_plan : Cal l.prog w K mg base (fun _ => 0) "plan" 1 ["totals", "monthly"] f_plan := ⟨f0, _, ok_plan F0 Z , PySem.W.mg_of X G a0, k0, b0⟩
  have co_plan : CalO l.prog w K mg base (fun _ => 0) "plan" 1 ["totals", "monthly"] fo_plan := ⟨f0, _, oko_plan F0 Z , PySem.W.mg_of X G a0, k0, b0⟩
  have c_l_mixed : Cal l.prog w K mg base (fun _ => 0) "_law_mixed" 1 ["_law_number", "_law_k"] f_l_mixed := ⟨f1, _, ok_l_mixed F1 Z , PySem.W.mg_of X G a1, k1, b1⟩
  have c_l_draws : Cal l.prog w K mg base (fun _ => 0) "_law_draws" 2 ["_law_cell", "_law_many", "_law_size"] f_l_draws := ⟨f2, _, ok_l_draws F2 Z c_l_mixed, PySem.W.mg_of X G a2, k2, b2⟩
  have c_l_same_0 : Cal l.prog w K mg base (fun _ => 0) "_law_same" 0 ["_law_found", "_law_due"] f_l_same_0 := ⟨f3, _, fn_none.mono (Nat.zero_le _), PySem.W.mg_of X G a3, k3, b3⟩
  have c_l_same_1 : Cal l.prog w K mg base (fun _ => 0) "_law_same" 1 ["_law_found", "_law_due"] f_l_same_1 := ⟨f3, _, ok_l_same_1 F3 Z  c_l_same_0, PySem.W.mg_of X G a3, k3, b3⟩
  have c_l_same_2 : Cal l.prog w K mg base (fun _ => 0) "_law_same" 2 ["_law_found", "_law_due"] f_l_same_2 := ⟨f3, _, ok_l_same_2 F3 Z  c_l_same_1, PySem.W.mg_of X G a3, k3, b3⟩
  have c_l_same : Cal l.prog w K mg base (fun _ => 0) "_law_same" 3 ["_law_found", "_law_due"] f_l_same := ⟨f3, _, ok_l_same_3 F3 Z  c_l_same_2, PySem.W.mg_of X G a3, k3, b3⟩
  have c_l_totals : Cal l.prog w K mg base (fun _ => 0) "_law_totals" 3 ["_law_cell", "_law_k"] f_l_totals := ⟨f4, _, ok_l_totals F4 Z c_l_draws, PySem.W.mg_of X G a4, k4, b4⟩
  exact ok_law F5 Z c_l_totals c_l_mixed co_plan c_l_same
theorem walk (math : ∀ ns : List Int, ns.length ≤ 63 → f_law [.lst (ns.map .int)] = some (.bl true)) {l : PySem.W.OpenLaw} {q : Program} {loose : List Str} {XP : (Str → Option Value) → Heap → Prop} {YP : World → Heap → Prop} {d : DefRec} {K : Params → PySem.W.Frag} (hn : l.most = some 63) (hdf : d.params.defaults = [])
    (hY : ∀ (w : World) (h : Heap), YP w h → (K w.params).In h)
    (F : ∀ (w : World) (mg : Str → Option Value) (fa : Addr) (h : Heap), (K w.params).In h → h.Ns mainGlobals mg → mg d.name = some (.ref fa) →
      ∃ fd : FuncData, (∀ (s : Shared) (u : Value), BindsTo s fd ⟨[u], []⟩ [("_law_script", u)]) ∧ ∀ base : Heap, (K w.params).In base → base.Ns mainGlobals mg → FnOk l.prog w (K w.params) mg base CX0 4 fa fd ["_law_script"] (spD (K w.params) (fun _ => 0) 1 f_law)) :
    PySem.W.WalkO q loose XP YP l.row.toRowW d [] (fun f vs => PySem.call f vs) :=
  L2.walk_of (n := 63) (k := 4) (x := "_law_script") (CX := fun _ => CX0) (sp := fun w => spD (K w.params) (fun _ => 0) 1 f_law) hn (by decide) hdf ⟨rfl, by decide, by decide⟩ hY F (fun _ H a ns hl _ hS => ⟨rfl, [.lst (ns.map .int)], .bl true, H, math ns hl, Same.refl _, .cons (.lst' hS (repL_of_ints ns)) .nil, fun v H' F' _ _ _ r => r.bl_inv⟩) fun _ _ _ _ _ z => z
end MB

open PySem PySem.W PyProof.Rows
set_option maxRecDepth 100000 in
set_option maxHeartbeats 0 in
theorem PySem.Challenge.cw_meterbook_k10_plans_holds : PySem.Challenge.rw_meterbook_k10_plans.Holds := by
  w_on; o_law; k_head; (case hw => w_witness2)
  k_fill
  refine MB.walk MB.math (l := PySem.Challenge.rw_meterbook_k10_plans) rfl rfl (fun w h Y => PySem.W.kIn_of Y) ?F
  case F =>
    intro w mg fa h KX G hmg
    refine' MB.all_mk KX G hmg ?a0 ?l0 ?c0 ?k0 ?a1 ?l1 ?c1 ?k1 ?a2 ?l2 ?c2 ?k2 ?a3 ?l3 ?c3 ?k3 ?a4 ?l4 ?c4 ?k4 ?a5 ?l5 ?c5 ?k5 ?z0 ?z1 ?z2 ?z3 ?z4 ?z5 ?z6 ?z7 ?z8 ?z9 ?z10
    (case a0 => k_is)
    (case l0 => k_is)
    (case c0 => k_is)
    (case k0 => k_is)
    (case a1 => k_is)
    (case l1 => k_is)
    (case c1 => k_is)
    (case k1 => k_is)
    (case a2 => k_is)
    (case l2 => k_is)
    (case c2 => k_is)
    (case k2 => k_is)
    (case a3 => k_is)
    (case l3 => k_is)
    (case c3 => k_is)
    (case k3 => k_is)
    (case a4 => k_is)
    (case l4 => k_is)
    (case c4 => k_is)
    (case k4 => k_is)
    (case a5 => k_is)
    (case l5 => k_is)
    (case c5 => k_is)
    (case k5 => k_is)
    (case z0 => k_is)
    (case z1 => k_is)
    (case z2 => k_is)
    (case z3 => k_is)
    (case z4 => k_is)
    (case z5 => k_is)
    (case z6 => k_is)
    (case z7 => k_is)
    (case z8 => k_is)
    (case z9 => k_is)
    (case z10 => k_is)
