import PyProof.Rows.All
import Wide.All
import OpenK.AllK
import Wide.FinOn
import Lean
import PyProof.EqAt
import PyProof.EqKinds
import PyProof.TupleCall
import KE.KIntText
import PyProof.ExcClass3
import PyProof.ExcInit
import PySem.Challenge.RW_meterbook_k20_log_texts
set_option Elab.async false
set_option linter.all false
set_option maxRecDepth 100000
namespace L2
open PySem PySem.Spec PyProof.Rows
abbrev Key := Sum Int Str
def keyIs : Key → Value → Bool
  | .inl k, v => Value.isInt k v
  | .inr x, v => Value.isStrOf x v
def keyH (w : World) : Key → Int
  | .inl k => hashInt k
  | .inr x => hashStr w x
theorem keyIs_shape : ∀ {k : Key} {v : Value}, keyIs k v = true → (∃ i t, k = Sum.inl i ∧ v = Value.int i t) ∨ (∃ x t, k = Sum.inr x ∧ v = Value.str x t)
  | .inl i, v, h => by
    obtain ⟨t, e⟩ := Value.isInt_shape (k := i) (v := v) h
    exact .inl ⟨i, t, rfl, e⟩
  | .inr x, v, h => by
    obtain ⟨t, e⟩ := Value.isStrOf_shape (x := x) (v := v) h
    exact .inr ⟨x, t, rfl, e⟩
theorem keyIs_int (i : Int) (t : Tok) : keyIs (.inl i) (.int i t) = true := by simp [keyIs, Value.isInt]
theorem keyIs_str (x : Str) (t : Tok) : keyIs (.inr x) (.str x t) = true := by simp [keyIs, Value.isStrOf]
theorem key_ll (a b : Int) : decide ((Sum.inl a : Key) = Sum.inl b) = (a == b) := by
  by_cases e : a = b
  · subst e; simp
  · have h : ¬ (Sum.inl a : Key) = Sum.inl b := fun q => e (Sum.inl.inj q)
    rw [decide_eq_false h]
    exact (beq_eq_false_iff_ne.mpr e).symm
theorem key_rr (a b : Str) : decide ((Sum.inr a : Key) = Sum.inr b) = decide (a = b) := by
  by_cases e : a = b
  · subst e; simp
  · have h : ¬ (Sum.inr a : Key) = Sum.inr b := fun q => e (Sum.inr.inj q)
    rw [decide_eq_false h, decide_eq_false e]
theorem key_lr (a : Int) (b : Str) : decide ((Sum.inl a : Key) = Sum.inr b) = false := decide_eq_false (fun q => nomatch q)
theorem key_rl (a : Str) (b : Int) : decide ((Sum.inr a : Key) = Sum.inl b) = false := decide_eq_false (fun q => nomatch q)
def mixKind (prog : Program) (w : World) : PySem.KeyKind prog w Key where
  is := keyIs
  hash := keyH w
  inj := fun v a b ha hb => by
    rcases keyIs_shape ha with ⟨i, t, rfl, rfl⟩ | ⟨x, t, rfl, rfl⟩
    · rcases keyIs_shape hb with ⟨j, u, rfl, e⟩ | ⟨y, u, rfl, e⟩
      · injection e with e1 _; rw [e1]
      · exact nomatch e
    · rcases keyIs_shape hb with ⟨j, u, rfl, e⟩ | ⟨y, u, rfl, e⟩
      · exact nomatch e
      · injection e with e1 _; rw [e1]
  byValue := fun k v h => by
    rcases keyIs_shape h with ⟨i, t, rfl, rfl⟩ | ⟨x, t, rfl, rfl⟩ <;> rfl
  pyHash := fun hv h => by
    rcases keyIs_shape hv with ⟨i, t, rfl, rfl⟩ | ⟨x, t, rfl, rfl⟩
    · exact wpAny_pyHash_int h
    · exact wpAny_pyHash_str h
  eqBool := fun hu hv h => by
    rcases keyIs_shape hu with ⟨i, t, rfl, rfl⟩ | ⟨x, t, rfl, rfl⟩
    · rcases keyIs_shape hv with ⟨j, u, rfl, rfl⟩ | ⟨y, u, rfl, rfl⟩
      · rw [key_ll] at h; exact wpAny_eqBool_int h
      · rw [key_lr] at h; exact SeqAt.EqAt.int_str i t y u _ _ _ _ h
    · rcases keyIs_shape hv with ⟨j, u, rfl, rfl⟩ | ⟨y, u, rfl, rfl⟩
      · rw [key_rl] at h; exact SeqAt.EqAt.str_int x t j u _ _ _ _ h
      · rw [key_rr] at h; exact wpAny_eqBool_str h
  «strs» := fun k x t v h => by
    rcases keyIs_shape h with ⟨i, u, rfl, e⟩ | ⟨y, u, rfl, e⟩
    · exact nomatch e
    · injection e with e1 _
      subst e1
      cases v <;> rfl
theorem mixKind_int (prog : Program) (w : World) (i : Int) (t : Tok) : (mixKind prog w).is (.inl i) (.int i t) = true := keyIs_int i t
theorem mixKind_str (prog : Program) (w : World) (x : Str) (t : Tok) : (mixKind prog w).is (.inr x) (.str x t) = true := keyIs_str x t
end L2
namespace L2
open PySem PySem.Spec PyProof.Rows
inductive V where
  | non | bl (b : Bool) | int (i : Int) | str (x : Str) | byt (b : Array UInt8) | flt (b : UInt64) | ref (a : Addr) | ty (n : String)
  deriving DecidableEq
def RelV : V → Value → Prop
  | .non, u => u = Value.none
  | .bl b, u => u = Value.bool b
  | .int i, u => ∃ t, u = Value.int i t
  | .str x, u => ∃ t, u = Value.str x t
  | .byt b, u => ∃ t, u = Value.bytes b t
  | .flt b, u => ∃ t, u = Value.float b t
  | .ref a, u => u = Value.ref a
  | .ty n, u => u = Value.type n
abbrev Vals : List V → List Value → Prop := Paired RelV
theorem Vals.length {xs : List V} {us : List Value} (r : Vals xs us) : xs.length = us.length := Paired.length r
theorem Vals.get : ∀ {xs : List V} {us : List Value} {i : Nat} {x : V}, Vals xs us → xs[i]? = some x → ∃ u, us[i]? = some u ∧ RelV x u
  | _, _, _, _, .nil, e => by simp at e
  | _, _, 0, _, .cons r _, e => by simp at e; subst e; exact ⟨_, rfl, r⟩
  | _, _, i + 1, x, .cons _ t, e => by
    obtain ⟨u, h1, h2⟩ := Vals.get (i := i) (x := x) t (by simpa using e)
    exact ⟨u, by simpa using h1, h2⟩
theorem Vals.set {x : V} {u : Value} (r : RelV x u) : ∀ {xs : List V} {us : List Value} (i : Nat), Vals xs us → Vals (xs.set i x) (us.set i u)
  | _, _, _, .nil => .nil
  | _, _, 0, .cons _ t => .cons r t
  | _, _, i + 1, .cons q t => .cons q (Vals.set r i t)
theorem Vals.append : ∀ {xs ys : List V} {us ws : List Value}, Vals xs us → Vals ys ws → Vals (xs ++ ys) (us ++ ws)
  | _, _, _, _, .nil, s => s
  | _, _, _, _, .cons r t, s => .cons r (Vals.append t s)
theorem Vals.take : ∀ {xs : List V} {us : List Value} (n : Nat), Vals xs us → Vals (xs.take n) (us.take n)
  | _, _, 0, _ => .nil
  | _, _, _ + 1, .nil => .nil
  | _, _, n + 1, .cons r t => .cons r (Vals.take n t)
theorem Vals.drop : ∀ {xs : List V} {us : List Value} (n : Nat), Vals xs us → Vals (xs.drop n) (us.drop n)
  | _, _, 0, r => r
  | _, _, _ + 1, .nil => .nil
  | _, _, n + 1, .cons _ t => Vals.drop n t
theorem Vals.none_of : ∀ {xs : List V} {us : List Value} {i : Nat}, Vals xs us → xs[i]? = none → us[i]? = none := fun {xs us i} r e => by
  have h1 := r.length
  have h2 : xs.length ≤ i := List.getElem?_eq_none_iff.mp e
  exact List.getElem?_eq_none_iff.mpr (by omega)
def RelO : Option V → Option Value → Prop
  | some v, some u => RelV v u
  | none, none => True
  | _, _ => False
def KV {κ : Type} : List (κ × V) → List (κ × Value) → Prop := Paired fun (p : κ × V) (q : κ × Value) => p.1 = q.1 ∧ RelV p.2 q.2
def kV : Key → V
  | .inl i => .int i
  | .inr x => .str x
inductive HO where
  | lst (xs : List V)
  | tup (xs : List V)
  | dK (kvs : List (Key × V)) | dT (kvs : List (List Key × V))
  | set (S : Int → Bool) (n : Nat)
  | ins (C dx : Addr) (fs : List (Str × V))
  | own (x : Addr)
  | xd (fs : List (Str × V))
  | met (f x : Addr)
  | rng (lo hi : Int)
  | frz (o : Obj) (u : HO)
  | tbl (ps : Array Value)
  | ext (φ : Heap → Prop)
abbrev Hp := Addr → Option HO
def upd (H : Hp) (a : Addr) (o : HO) : Hp := fun b => if b = a then some o else H b
theorem upd_same {H : Hp} {a : Addr} {o : HO} : upd H a o a = some o := by unfold upd; rw [if_pos rfl]
theorem upd_ne {H : Hp} {a b : Addr} {o : HO} (h : b ≠ a) : upd H a o b = H b := by unfold upd; rw [if_neg h]
theorem ne_of {H : Hp} {a b : Addr} {o u : HO} (h : H a = some o) (h' : H b = some u) (d : o ≠ u) : a ≠ b := by
  intro e; subst e; rw [h] at h'; exact d (Option.some.inj h')
theorem ne_of_none {H : Hp} {a b : Addr} {o : HO} (h : H a = some o) (h' : H b = none) : a ≠ b := by
  intro e; subst e; rw [h] at h'; cases h'
section
variable (P : Program) (w : World)
def ObjOk (H : Hp) (h : Heap) (a : Addr) : HO → Prop
  | .lst xs => xs.length ≤ sizeLine ∧ ∃ (its : List Value) (n : Nat), Vals xs its ∧ h.get? a = some { cls := .type "list", data := .seq its.toArray n }
  | .tup xs => xs.length ≤ sizeLine ∧ ∃ its : List Value, Vals xs its ∧ IsTup h a its.toArray
  | .dK kvs => kvs.length ≤ sizeLine ∧ (a == sysModules) = false ∧ ∃ vs, KV kvs vs ∧ h.DictOf (mixKind P w) a vs
  | .dT kvs => kvs.length ≤ sizeLine ∧ (a == sysModules) = false ∧ ∃ xs : List (List Key × Addr × Value),
      Paired (fun (p : List Key × V) (q : List Key × Addr × Value) => p.1 = q.1 ∧ H q.2.1 = some (.tup (p.1.map kV)) ∧ RelV p.2 q.2.2) kvs xs ∧
      ∃ o es ep, h.get? a = some o ∧ o.ExactDict ∧ o.data = .dict es ep ∧ es.toList = xs.map (entryOfKey (tupleKind (mixKind P w))) ∧ (xs.map (·.1)).Nodup
  | .set S n => h.SetOf (intKind P w) a S n
  | .ins C dx fs => H dx = some (.own a) ∧ fs.length ≤ 1000 ∧ dx ≠ a ∧ h.get? a = some (PySem.W.instObj C dx) ∧
      ∃ mA, h.Ns1 dx mA ∧ (∀ f, RelO (fs.lookup f) (mA f)) ∧ PySem.Within mA (fs.map (·.1))
  | .own _ => ∃ o, h.get? a = some o
  | .xd fs => ∃ mA, h.Ns1 a mA ∧ ∀ f, RelO (fs.lookup f) (mA f)
  | .rng lo hi => ∃ t u v, h.get? a = some { cls := .type "range", data := .fields #[.int lo t, .int hi u, .int 1 v] }
  | .frz o u => h.get? a = some o ∧ ObjOk H h a u
  | .tbl ps => h.get? a = some { cls := .none, data := .fields ps }
  | .met f x => h.get? a = some (PySem.W.methodObj (.ref f) (.ref x))
  | .ext φ => φ h ∧ (∃ o, h.get? a = some o) ∧ ∀ h1 h2 : Heap, φ h1 → (∀ o, h1.get? a = some o → h2.get? a = some o) → φ h2
def HOk (H : Hp) (h : Heap) : Prop := ∀ a o, H a = some o → ObjOk P w H h a o
end
section
variable {P : Program} {w : World} {H H' : Hp} {h h' : Heap} {a : Addr} {o : HO}
theorem ObjOk.lt (x : ObjOk P w H h a o) : a < h.objs.size := by
  cases o with
  | lst xs => obtain ⟨_, _, _, _, e⟩ := x; exact Heap.lt_size e
  | tup xs => obtain ⟨_, _, _, p⟩ := x; exact p.lt
  | dK kvs => obtain ⟨_, _, _, _, o, _, _, e, _⟩ := x; exact Heap.lt_size e
  | dT kvs => obtain ⟨_, _, _, _, o, _, _, e, _⟩ := x; exact Heap.lt_size e
  | set S n => obtain ⟨o, _, _, _, e, _⟩ := x; exact Heap.lt_size e
  | ins C dx fs => obtain ⟨_, _, _, e, _⟩ := x; exact Heap.lt_size e
  | own y => obtain ⟨_, e⟩ := x; exact Heap.lt_size e
  | xd fs => obtain ⟨_, ⟨_, _, _, e, _⟩, _⟩ := x; exact Heap.lt_size e
  | rng lo hi => obtain ⟨_, _, _, e⟩ := x; exact Heap.lt_size e
  | frz ob u => obtain ⟨e, _⟩ := x; exact Heap.lt_size e
  | tbl ps => exact Heap.lt_size (show h.get? a = some _ from x)
  | met f y => exact Heap.lt_size (show h.get? a = some _ from x)
  | ext φ => obtain ⟨_, ⟨_, e⟩, _⟩ := x; exact Heap.lt_size e
theorem Paired.mapP {α β : Type} {F G : α → β → Prop} : ∀ {l₁ : List α} {l₂ : List β}, Paired F l₁ l₂ → (∀ a b, F a b → G a b) → Paired G l₁ l₂
  | _, _, .nil, _ => .nil
  | _, _, .cons r t, f => .cons (f _ _ r) (Paired.mapP t f)
theorem ObjOk.stay (x : ObjOk P w H h a o) (k : ∀ b u, (b = a ∨ H b = some (.own a)) → h.get? b = some u → h'.get? b = some u)
    (ho : ∀ b, H b = some (.own a) → H' b = some (.own a)) (ht : ∀ b xs, H b = some (.tup xs) → H' b = some (.tup xs)) : ObjOk P w H' h' a o := by
  induction o with
  | lst xs => obtain ⟨z, its, n, r, e⟩ := x; exact ⟨z, its, n, r, k _ _ (.inl rfl) e⟩
  | tup xs => obtain ⟨z, its, r, ob, e, c⟩ := x; exact ⟨z, its, r, ob, k _ _ (.inl rfl) e, c⟩
  | dK kvs => obtain ⟨z, y, vs, r, ob, es, ep, e, c⟩ := x; exact ⟨z, y, vs, r, ob, es, ep, k _ _ (.inl rfl) e, c⟩
  | dT kvs =>
    obtain ⟨z, y, xs, r, ob, es, ep, e, c⟩ := x
    exact ⟨z, y, xs, Paired.mapP r fun p q z => ⟨z.1, ht _ _ z.2.1, z.2.2⟩, ob, es, ep, k _ _ (.inl rfl) e, c⟩
  | set S n => obtain ⟨ob, es, ep, t, e, c⟩ := x; exact ⟨ob, es, ep, t, k _ _ (.inl rfl) e, c⟩
  | ins C dx fs =>
    obtain ⟨d, z, ne, e, mA, ⟨od, es, ep, e2, c⟩, r⟩ := x
    exact ⟨ho _ d, z, ne, k _ _ (.inl rfl) e, mA, ⟨od, es, ep, k _ _ (.inr d) e2, c⟩, r⟩
  | own y => obtain ⟨ob, e⟩ := x; exact ⟨ob, k _ _ (.inl rfl) e⟩
  | xd fs => obtain ⟨mA, ⟨od, es, ep, e, c⟩, r⟩ := x; exact ⟨mA, ⟨od, es, ep, k _ _ (.inl rfl) e, c⟩, r⟩
  | rng lo hi => obtain ⟨t, u, v, e⟩ := x; exact ⟨t, u, v, k _ _ (.inl rfl) e⟩
  | frz ob u ih => obtain ⟨e, q⟩ := x; exact ⟨k _ _ (.inl rfl) e, ih q⟩
  | tbl ps =>
    have e : h.get? a = some { cls := .none, data := .fields ps } := x
    show h'.get? a = some { cls := .none, data := .fields ps }
    exact k a _ (.inl rfl) e
  | met f y =>
    have e : h.get? a = some (PySem.W.methodObj (.ref f) (.ref y)) := x
    show h'.get? a = some (PySem.W.methodObj (.ref f) (.ref y))
    exact k a _ (.inl rfl) e
  | ext φ => obtain ⟨p, ⟨o, e⟩, st⟩ := x; exact ⟨st _ _ p fun o q => k _ _ (.inl rfl) q, ⟨o, k _ _ (.inl rfl) e⟩, st⟩
theorem HOk.lt (x : HOk P w H h) (e : H a = some o) : a < h.objs.size := (x a o e).lt
theorem HOk.fresh (x : HOk P w H h) (e : h.objs.size ≤ a) : H a = none := by
  cases q : H a with
  | none => rfl
  | some u => exact absurd (Nat.lt_of_lt_of_le (x.lt q) e) (Nat.lt_irrefl _)
theorem HOk.kept (x : HOk P w H h) (k : ∀ b u, h.get? b = some u → h'.get? b = some u) : HOk P w H h' := fun a o e =>
  (x a o e).stay (fun b u _ q => k b u q) (fun _ q => q) fun _ _ q => q
theorem HOk.laid (x : HOk P w H h) (k : ∀ b u, h.get? b = some u → h'.get? b = some u) (hp : h.objs.size ≤ a) (new : ObjOk P w (upd H a o) h' a o) : HOk P w (upd H a o) h' := fun b u e => by
  have hn := x.fresh hp
  by_cases hb : b = a
  · subst hb; rw [upd_same] at e; cases e; exact new
  · rw [upd_ne hb] at e
    exact (x b u e).stay (fun c v _ q => k c v q) (fun c q => by rw [upd_ne (ne_of_none q hn)]; exact q) fun c xs q => by rw [upd_ne (ne_of_none q hn)]; exact q
end
def Rd (H : Hp) (a : Addr) (u : HO) : Prop := H a = some u ∨ ∃ o, H a = some (.frz o u)
theorem Rd.of {H : Hp} {a : Addr} {u : HO} (h : H a = some u) : Rd H a u := .inl h
theorem Rd.ok {P : Program} {w : World} {H : Hp} {h : Heap} {a : Addr} {u : HO} (r : Rd H a u) (x : HOk P w H h) : ObjOk P w H h a u := by
  rcases r with r | ⟨o, r⟩
  · exact x a u r
  · obtain ⟨_, q⟩ := x a _ r
    exact q
def Mut : Option HO → Prop
  | some (.lst _) => True
  | some (.dK _) => True
  | some (.dT _) => True
  | some (.set _ _) => True
  | some (.ins _ _ _) => True
  | some (.ext _) => True
  | _ => False
section
variable {P : Program} {w : World} {H : Hp} {h h' : Heap} {x e : Addr} {o' : HO}
theorem HOk.write (ok : HOk P w H h) (mu : Mut (H x)) (he : e = x ∨ H e = some (.own x)) (k : ∀ b u, b ≠ e → h.get? b = some u → h'.get? b = some u) (heo : ∃ u, h'.get? e = some u)
    (new : ObjOk P w (upd H x o') h' x o') : HOk P w (upd H x o') h' := fun b u q => by
  have nown : ∀ c y, H c = some (.own y) → c ≠ x := fun c y r z => by subst z; rw [r] at mu; exact mu
  have ntup : ∀ c xs, H c = some (.tup xs) → c ≠ x := fun c xs r z => by subst z; rw [r] at mu; exact mu
  by_cases hb : b = x
  · subst hb; rw [upd_same] at q; cases q; exact new
  · rw [upd_ne hb] at q
    by_cases hbe : b = e
    · have q' : H b = some (.own x) := by
        rcases he with z | z
        · exact absurd (hbe.trans z) hb
        · rw [hbe]; exact z
      rw [q] at q'; cases q'
      obtain ⟨v, hv⟩ := heo
      exact ⟨v, by rw [hbe]; exact hv⟩
    · refine (ok b u q).stay (fun c v hc r => k c v ?_ r) (fun c r => by rw [upd_ne (nown c b r)]; exact r) fun c xs r => by rw [upd_ne (ntup c xs r)]; exact r
      rcases hc with rfl | hc
      · exact hbe
      · rintro rfl
        rcases he with z | z
        · exact nown c b hc z
        · rw [hc] at z; cases z; exact hb rfl
end
structure Un (fs ex : List Addr) (H H' : Hp) (h h' : Heap) : Prop where
  keep : ∀ b o, h.get? b = some o → H b = none → b ∉ fs → b ∉ ex → h'.get? b = some o
  slot : ∀ b o, h.get? b = some o → H b = none → b ∈ fs → b ∉ ex → ∃ sl, h'.get? b = some { o with slots := sl }
  free : ∀ b o, h.get? b = some o → H b = none → b ∉ ex → H' b = none
  there : ∀ b o, h.get? b = some o → b ∉ ex → ∃ o', h'.get? b = some o'
  tups : ∀ b xs, H b = some (.tup xs) → H' b = some (.tup xs)
  frzs : ∀ b o u, H b = some (.frz o u) → H' b = some (.frz o u)
  tbls : ∀ b ps, H b = some (.tbl ps) → ∃ more, H' b = some (.tbl (ps ++ more))
section
variable {fs fs' ex ex' : List Addr} {H H1 H2 : Hp} {h h1 h2 h' : Heap} {a x e : Addr} {o : HO}
theorem Un.any (u : Un fs ex H H1 h h1) {b : Addr} {ob : Obj} (q : h.get? b = some ob) (n : H b = none) (hx : b ∉ ex) : ∃ sl, h1.get? b = some { ob with slots := sl } := by
  by_cases hb : b ∈ fs
  · exact u.slot b ob q n hb hx
  · exact ⟨ob.slots, u.keep b ob q n hb hx⟩
theorem Un.trans (a : Un fs ex H H1 h h1) (b : Un fs ex H1 H2 h1 h2) : Un fs ex H H2 h h2 where
  keep := fun c ob q n hc hx => b.keep c ob (a.keep c ob q n hc hx) (a.free c ob q n hx) hc hx
  slot := fun c ob q n hc hx => by
    obtain ⟨sl, e1⟩ := a.slot c ob q n hc hx
    obtain ⟨sl', e2⟩ := b.slot c _ e1 (a.free c ob q n hx) hc hx
    exact ⟨sl', e2⟩
  free := fun c ob q n hx => by
    obtain ⟨o', e1⟩ := a.there c ob q hx
    exact b.free c o' e1 (a.free c ob q n hx) hx
  there := fun c ob q hx => by
    obtain ⟨o', e1⟩ := a.there c ob q hx
    exact b.there c o' e1 hx
  tups := fun c xs q => b.tups c xs (a.tups c xs q)
  frzs := fun c ob xs q => b.frzs c ob xs (a.frzs c ob xs q)
  tbls := fun c ps q => by
    obtain ⟨m1, e1⟩ := a.tbls c ps q
    obtain ⟨m2, e2⟩ := b.tbls c _ e1
    exact ⟨m1 ++ m2, by rw [e2, Array.append_assoc]⟩
theorem Un.kept (k : ∀ b u, h.get? b = some u → h'.get? b = some u) : Un fs ex H H h h' :=
  ⟨fun b ob q _ _ _ => k b ob q, fun b ob q _ _ _ => ⟨ob.slots, k b ob q⟩, fun _ _ _ n _ => n, fun b ob q _ => ⟨ob, k b ob q⟩, fun _ _ q => q, fun _ _ _ q => q, fun _ ps q => ⟨#[], by rw [q]; simp⟩⟩
theorem Un.refl : Un fs ex H H h h := Un.kept fun _ _ q => q
theorem Un.laid (k : ∀ b u, h.get? b = some u → h'.get? b = some u) (hp : h.objs.size ≤ a) (hn : H a = none) : Un fs ex H (upd H a o) h h' where
  keep := fun b u q _ _ _ => k b u q
  slot := fun b u q _ _ _ => ⟨u.slots, k b u q⟩
  free := fun b u q n _ => by rw [upd_ne (Nat.ne_of_lt (Nat.lt_of_lt_of_le (Heap.lt_size q) hp))]; exact n
  there := fun b u q _ => ⟨u, k b u q⟩
  tups := fun b xs q => by rw [upd_ne (ne_of_none q hn)]; exact q
  frzs := fun b u xs q => by rw [upd_ne (ne_of_none q hn)]; exact q
  tbls := fun b ps q => ⟨#[], by rw [upd_ne (ne_of_none q hn), q]; simp⟩
theorem Un.write (mu : Mut (H x)) (he : e = x ∨ H e = some (.own x)) (k : ∀ b u, b ≠ e → h.get? b = some u → h'.get? b = some u) (heo : ∃ u, h'.get? e = some u) : Un fs ex H (upd H x o) h h' := by
  have hx : ∀ b, H b = none → b ≠ x := fun b n z => by subst z; rw [n] at mu; exact mu
  have hb : ∀ b, H b = none → b ≠ e := fun b n z => by
    subst z
    rcases he with r | r
    · exact hx b n r
    · rw [n] at r; cases r
  have hm : ∀ b u, H b = some u → ¬ Mut (some u) → b ≠ x := fun b u q nm z => by subst z; rw [q] at mu; exact nm mu
  refine ⟨fun b u q n _ _ => k b u (hb b n) q, fun b u q n _ _ => ⟨u.slots, k b u (hb b n) q⟩, fun b u q n _ => by rw [upd_ne (hx b n)]; exact n, fun b u q _ => ?_,
    fun b xs q => by rw [upd_ne (hm b _ q fun z => z)]; exact q, fun b u xs q => by rw [upd_ne (hm b _ q fun z => z)]; exact q, fun b ps q => ⟨#[], by rw [upd_ne (hm b _ q fun z => z), q]; simp⟩⟩
  by_cases hbe : b = e
  · subst hbe; exact heo
  · exact ⟨u, k b u hbe q⟩
theorem Un.mono (u : Un fs ex H H1 h h1) (hs : ∀ b ∈ fs, b ∈ fs') (hx : ∀ b ∈ ex, b ∈ ex') : Un fs' ex' H H1 h h1 :=
  ⟨fun b ob q n hb he => u.keep b ob q n (fun z => hb (hs b z)) fun z => he (hx b z), fun _ _ q n _ he => u.any q n fun z => he (hx _ z), fun b ob q n he => u.free b ob q n fun z => he (hx b z), fun b ob q he => u.there b ob q fun z => he (hx b z), u.tups, u.frzs, u.tbls⟩
end
def trk (h : Heap) (H : Hp) : List Addr := (List.range h.objs.size).filter fun a => (H a).isSome
def hidT (h : Heap) (H : Hp) : Heap := PySem.W.hideAll h (trk h H)
theorem hidT_size (h : Heap) (H : Hp) : (hidT h H).objs.size = h.objs.size := PySem.W.hideAll_size _ _
theorem hidT_get {h : Heap} {H : Hp} {b : Addr} {o : Obj} (e : h.get? b = some o) (n : H b = none) : (hidT h H).get? b = some o :=
  PySem.W.hideAll_get _ e fun hm => by
    have q : (H b).isSome = true := (List.mem_filter.mp hm).2
    rw [n] at q; simp at q
theorem of_hidT {h : Heap} {H : Hp} {b : Addr} {o : Obj} (e : (hidT h H).get? b = some o) : h.get? b = some o ∧ H b = none := by
  have e' : h.get? b = some o := PySem.W.of_hideAll (trk h H) e
  refine ⟨e', ?_⟩
  cases q : H b with
  | none => rfl
  | some x =>
    have hm : b ∈ trk h H := List.mem_filter.mpr ⟨List.mem_range.mpr (Heap.lt_size e'), by simp [q]⟩
    have z : (hidT h H).get? b = none := PySem.W.hideAll_none (trk h H) hm
    rw [z] at e; cases e
def allNews (g h : Heap) (L : Addr) : List (Addr × Obj) := (List.range h.objs.size).filterMap fun a => if a = L ∨ (g.get? a).isSome = true then none else (h.get? a).map fun o => (a, o)
def rest (g h : Heap) (L d : Addr) : List (Addr × Obj) := (allNews g h L).filter fun p => decide (p.1 ≠ d)
end L2
namespace L2
open PySem PySem.Spec PyProof.Rows
structure Mod (K : PySem.W.Frag) (mg : Str → Option Value) (base : Heap) : Prop where
  kin : K.In base
  glob : base.Ns mainGlobals mg
  blt : ∃ mb, base.Ns builtinsNs mb ∧ ∀ x : Str, x ≠ "__name__" → mb x = bootBuiltins x
  nolimit : base.NoLimit
structure Cx where
  prog : Program
  w : World
  K : PySem.W.Frag
  mg : Str → Option Value
  base : Heap
  A : Around
  N : List Str
  s₀ : Shared
  H₀ : Hp
  env : Env
  outer : List Env
  stack : List Env
  ex : List Addr
  fn : Str → Bool
  calm : Bool
  pn : List (Addr × Obj)
  xe : Value → Shared → Prop
def frs (l : List Env) : List Addr := l.filterMap (·.frame)
abbrev Cx.fs (X : Cx) : List Addr := frs X.outer
def Vis (sc : Scope) (x : Str) : Prop := sc.names.lookup x = some .local ∨ sc.names.lookup x = some .cell ∨ sc.names.lookup x = some .free
def Loc (sc : Scope) (x : Str) : Prop := sc.names.lookup x = some .local ∨ sc.names.lookup x = some .cell
def Look (env : Env) (h : Heap) (m : Str → Option Value) (x : Str) (u : Value) : Prop :=
  (env.kindOf x = some .local ∧ m x = some u) ∨ ((env.kindOf x = some .cell ∨ env.kindOf x = some .free) ∧ ∃ c, env.cells.lookup x = some c ∧ h.IsCell c (some u))
structure Cx.Ok (X : Cx) : Prop where
  mod : Mod X.K X.mg X.base
  kind : X.env.scope.kind = .function
  glob : X.env.globals = mainGlobals
  blt : X.env.builtins = builtinsNs
  above : X.s₀.heap.objs.size ≤ X.env.locals
  inj : ∀ x y c, X.env.cells.lookup x = some c → X.env.cells.lookup y = some c → x = y
  has : ∀ x, (X.env.kindOf x = some .cell ∨ X.env.kindOf x = some .free) → ∃ c, X.env.cells.lookup x = some c
  cab : ∀ x c, X.fn x = true → X.env.cells.lookup x = some c → X.s₀.heap.objs.size ≤ c
  hd : X.calm = true → X.A.handled = none
  frames : X.A.frames = some X.stack
  stk : X.stack = X.outer ∨ (X.stack = X.env :: X.outer ∧ X.env.frame = some X.env.locals)
  exf : ∀ b ∈ X.ex, b ≠ X.env.locals ∧ ∀ x c, X.env.cells.lookup x = some c → c ≠ b
  bs : ∀ b o, X.base.get? b = some o → X.s₀.heap.get? b = some o ∧ X.H₀ b = none
  bsz : X.base.objs.size ≤ X.s₀.heap.objs.size
  noex : ∀ b o, X.base.get? b = some o → b ∉ X.ex
  exfs : ∀ b ∈ X.ex, b ∉ X.fs
  funs : X.s₀.heap.FunFrames X.base X.outer
  frf : ∀ b ∈ X.fs, X.H₀ b = none
structure Inv (X : Cx) (pins : List (Addr × Obj)) (σ : List (Option V)) (H : Hp) (s : Shared) : Prop where
  ok : X.Ok
  os : s.os = X.s₀.os
  bare : AllBare s.gens
  base : Un X.fs X.ex X.H₀ H X.s₀.heap s.heap
  loc : ∃ m, s.heap.Ns X.env.locals m ∧ ∀ (i : Nat) (x : Str) (v : V), X.N[i]? = some x → σ[i]? = some (some v) → Vis X.env.scope x → ∃ u, RelV v u ∧ Look X.env s.heap m x u
  cell : ∀ x c, X.env.cells.lookup x = some c → ∃ v, s.heap.IsCell c v
  free : H X.env.locals = none
  freeC : ∀ x c, X.env.cells.lookup x = some c → H c = none
  pin : ∀ p ∈ X.pn ++ pins, s.heap.get? p.1 = some p.2 ∧ H p.1 = none ∧ p.1 ≠ X.env.locals ∧ p.1 ∉ X.fs ∧ ∀ v, p.2.data ≠ .cell v
  hok : HOk X.prog X.w H s.heap
  len : σ.length = X.N.length
section
variable {X : Cx} {pins : List (Addr × Obj)} {σ : List (Option V)} {H H' : Hp} {s : Shared} {h' : Heap}
theorem Cx.Ok.nofr (ok : X.Ok) {b : Addr} {o : Obj} (e : X.base.get? b = some o) : b ∉ X.fs := fun hb => by
  have := (ok.funs.mem hb).1
  rw [e] at this; cases this
theorem Inv.bs (I : Inv X pins σ H s) : ∀ b o, X.base.get? b = some o → s.heap.get? b = some o ∧ H b = none := fun b o e =>
  ⟨I.base.keep b o (I.ok.bs b o e).1 (I.ok.bs b o e).2 (I.ok.nofr e) (I.ok.noex b o e), I.base.free b o (I.ok.bs b o e).1 (I.ok.bs b o e).2 (I.ok.noex b o e)⟩
theorem Inv.bk (I : Inv X pins σ H s) : ∀ b o, X.base.get? b = some o → s.heap.get? b = some o := fun b o e => (I.bs b o e).1
theorem Inv.mod (I : Inv X pins σ H s) : Mod X.K X.mg X.base := I.ok.mod
theorem Inv.kIn (I : Inv X pins σ H s) : X.K.In s.heap := I.ok.mod.kin.keeps I.bk
theorem Inv.nolimit (I : Inv X pins σ H s) : s.heap.NoLimit := I.ok.mod.nolimit.keeps I.bk
theorem Inv.fr (I : Inv X pins σ H s) : ∃ m, Fr X.base X.env.locals s.heap m :=
  let ⟨m, hn, _⟩ := I.loc
  ⟨m, hn, I.bk, Nat.le_trans I.ok.bsz I.ok.above⟩
theorem Inv.lt (I : Inv X pins σ H s) : X.env.locals < s.heap.objs.size := let ⟨_, hn, _⟩ := I.loc; hn.lt
theorem Inv.sz (I : Inv X pins σ H s) : X.s₀.heap.objs.size ≤ s.heap.objs.size := Nat.le_trans I.ok.above (Nat.le_of_lt I.lt)
theorem Inv.nofs (I : Inv X pins σ H s) {a : Addr} (h : s.heap.objs.size ≤ a) : a ∉ X.fs := fun hb => by
  obtain ⟨_, o, ho, _⟩ := I.ok.funs.mem hb
  exact absurd (Nat.lt_of_lt_of_le (Heap.lt_size ho) (Nat.le_trans I.sz h)) (Nat.lt_irrefl _)
theorem Inv.cne (I : Inv X pins σ H s) : ∀ x c, X.env.cells.lookup x = some c → c ≠ X.env.locals := fun x c e z => by
  obtain ⟨v, o, ho, hd⟩ := I.cell x c e
  obtain ⟨m, ⟨o', es, ep, ho', hd', _⟩, _⟩ := I.loc
  rw [z, ho'] at ho; cases ho; rw [hd'] at hd; cases hd
theorem Inv.funs (I : Inv X pins σ H s) : s.heap.FunFrames X.base X.outer := by
  have all : ∀ (l : List Env), (∀ b ∈ frs l, b ∈ X.fs) → X.s₀.heap.FunFrames X.base l → s.heap.FunFrames X.base l := by
    intro l
    induction l with
    | nil => intro _ _; trivial
    | cons env r ih =>
      intro hs hl
      obtain ⟨hk, ⟨L, o, hf, hn, ho, hd⟩, hr⟩ := hl
      have hL : L ∈ X.fs := hs L (by unfold frs; rw [List.filterMap_cons, hf]; exact List.mem_cons_self)
      obtain ⟨sl, e⟩ := I.base.slot L o ho (I.ok.frf L hL) hL fun z => I.ok.exfs L z hL
      exact ⟨hk, ⟨L, _, hf, hn, e, hd⟩, ih (fun b hb => hs b (by unfold frs; rw [List.filterMap_cons, hf]; exact List.mem_cons_of_mem _ hb)) hr⟩
  exact all X.outer (fun _ hb => hb) I.ok.funs
theorem Inv.stack (I : Inv X pins σ H s) : s.heap.FunFrames X.base X.stack := by
  rcases I.ok.stk with e | ⟨e, hf⟩
  · rw [e]; exact I.funs
  · rw [e]
    obtain ⟨m, hn, _⟩ := I.loc
    refine .cons (by rw [I.ok.kind]; decide) hf hn ?_ I.funs
    exact Heap.get?_none_of_le (Nat.le_trans I.ok.bsz I.ok.above)
theorem Inv.stkSub (I : Inv X pins σ H s) : ∀ b ∈ frs X.stack, b ∈ X.env.locals :: X.fs := fun b hb => by
  rcases I.ok.stk with e | ⟨e, hf⟩
  · rw [e] at hb; exact List.mem_cons_of_mem _ hb
  · rw [e] at hb
    unfold frs at hb
    rw [List.filterMap_cons, hf] at hb
    exact hb
theorem Inv.stkFree (I : Inv X pins σ H s) : ∀ b ∈ frs X.stack, H b = none := fun b hb => by
  rcases List.mem_cons.mp (I.stkSub b hb) with e | hb
  · rw [e]; exact I.free
  · obtain ⟨_, o, ho, _⟩ := I.ok.funs.mem hb
    exact I.base.free b o ho (I.ok.frf b hb) fun z => I.ok.exfs b z hb
theorem Inv.step {g' : Array GenState} {t' : Nat} {d' : Drawn} {ch : List Addr} (I : Inv X pins σ H s)
    (hch : ∀ b ∈ ch, (b ∈ X.ex ∨ X.s₀.heap.objs.size ≤ b) ∧ b ≠ X.env.locals ∧ (∀ x c, X.env.cells.lookup x = some c → c ≠ b) ∧ ∀ p ∈ X.pn ++ pins, p.1 ≠ b)
    (keep : ∀ b o, b ≠ X.env.locals → b ∉ X.fs → b ∉ ch → s.heap.get? b = some o → H b = none → h'.get? b = some o)
    (slot : ∀ b o, b ≠ X.env.locals → b ∈ X.fs → b ∉ ch → s.heap.get? b = some o → H b = none → ∃ sl, h'.get? b = some { o with slots := sl }) (free : ∀ b o, b ∉ ch → s.heap.get? b = some o → H b = none → H' b = none)
    (there : ∀ b o, b ∉ ch → s.heap.get? b = some o → ∃ o', h'.get? b = some o')
    (tups : ∀ b xs, H b = some (.tup xs) → H' b = some (.tup xs)) (frzs : ∀ b o u, H b = some (.frz o u) → H' b = some (.frz o u)) (tbls : ∀ b ps, H b = some (.tbl ps) → ∃ more, H' b = some (.tbl (ps ++ more)))
    (ns : ∀ m, s.heap.Ns X.env.locals m → h'.Ns X.env.locals m) (hok : HOk X.prog X.w H' h') (hg : AllBare g') :
    Inv X pins σ H' { s with heap := h', gens := g', drawn := d', toks := t' } := by
  have neL : ∀ b o, X.s₀.heap.get? b = some o → b ≠ X.env.locals := fun b o e => Nat.ne_of_lt (Nat.lt_of_lt_of_le (Heap.lt_size e) I.ok.above)
  have neC : ∀ b o, X.s₀.heap.get? b = some o → b ∉ X.ex → b ∉ ch := fun b o e hx hb => by
    rcases (hch b hb).1 with z | z
    · exact hx z
    · exact absurd (Nat.lt_of_lt_of_le (Heap.lt_size e) z) (Nat.lt_irrefl _)
  have cellK : ∀ x c, X.env.cells.lookup x = some c → ∀ v, s.heap.IsCell c v → h'.IsCell c v := fun x c e v ⟨o, ho, hd⟩ => by
    have nch : c ∉ ch := fun z => (hch c z).2.2.1 x c e rfl
    by_cases hc : c ∈ X.fs
    · obtain ⟨sl, q⟩ := slot c o (I.cne x c e) hc nch ho (I.freeC x c e)
      exact ⟨_, q, hd⟩
    · exact ⟨o, keep c o (I.cne x c e) hc nch ho (I.freeC x c e), hd⟩
  refine ⟨I.ok, I.os, hg, ⟨fun b o e n hb hx => ?_, fun b o e n hb hx => ?_, fun b o e n hx => ?_, fun b o e hx => ?_, fun b xs e => tups b xs (I.base.tups b xs e), fun b o xs e => frzs b o xs (I.base.frzs b o xs e), fun b ps e => ?_⟩, ?_, fun x c e => ?_, ?_, fun x c e => ?_, fun p hp => ?_, hok, I.len⟩
  · exact keep b o (neL b o e) hb (neC b o e hx) (I.base.keep b o e n hb hx) (I.base.free b o e n hx)
  · obtain ⟨sl, e1⟩ := I.base.slot b o e n hb hx
    obtain ⟨sl', e2⟩ := slot b _ (neL b o e) hb (neC b o e hx) e1 (I.base.free b o e n hx)
    exact ⟨sl', e2⟩
  · obtain ⟨o', e1⟩ := I.base.there b o e hx
    exact free b o' (neC b o e hx) e1 (I.base.free b o e n hx)
  · obtain ⟨o', e1⟩ := I.base.there b o e hx
    exact there b o' (neC b o e hx) e1
  · obtain ⟨m1, e1⟩ := I.base.tbls b ps e
    obtain ⟨m2, e2⟩ := tbls b _ e1
    exact ⟨m1 ++ m2, by rw [e2, Array.append_assoc]⟩
  · obtain ⟨m, hn, hl⟩ := I.loc
    refine ⟨m, ns m hn, fun i x v e1 e2 e3 => ?_⟩
    obtain ⟨u, r, l⟩ := hl i x v e1 e2 e3
    refine ⟨u, r, ?_⟩
    rcases l with l | ⟨k, c, e, z⟩
    · exact .inl l
    · exact .inr ⟨k, c, e, cellK x c e _ z⟩
  · obtain ⟨v, z⟩ := I.cell x c e
    exact ⟨v, cellK x c e v z⟩
  · obtain ⟨m, ⟨o, _, _, ho, _⟩, _⟩ := I.loc
    exact free _ o (fun z => (hch _ z).2.1 rfl) ho I.free
  · obtain ⟨v, o, ho, hd⟩ := I.cell x c e
    exact free c o (fun z => (hch c z).2.2.1 x c e rfl) ho (I.freeC x c e)
  · obtain ⟨e, n, ne, nf, d⟩ := I.pin p hp
    have nch : p.1 ∉ ch := fun z => (hch p.1 z).2.2.2 p hp rfl
    exact ⟨keep p.1 p.2 ne nf nch e n, free p.1 p.2 nch e n, ne, nf, d⟩
theorem Inv.un {t' : Nat} (I : Inv X pins σ H s) (u : Un X.fs [] H H' s.heap h') (hok : HOk X.prog X.w H' h') : Inv X pins σ H' { s with heap := h', toks := t' } := by
  obtain ⟨m, ⟨o, es, ep, ho, r⟩, _⟩ := id I.loc
  obtain ⟨sl, hL⟩ := u.any ho I.free (by simp)
  exact I.step (g' := s.gens) (d' := s.drawn) (ch := []) (fun _ z => nomatch z) (fun b o _ hb _ e n => u.keep b o e n hb (by simp)) (fun b o _ hb _ e n => u.slot b o e n hb (by simp)) (fun b o _ e n => u.free b o e n (by simp)) (fun b o _ e => u.there b o e (by simp)) u.tups u.frzs u.tbls (fun m' hm => by
    obtain ⟨o', es', ep', ho', r'⟩ := hm
    rw [ho] at ho'; cases ho'
    exact ⟨_, es', ep', hL, r'⟩) hok I.bare
theorem Inv.call {g' : Array GenState} {t' : Nat} {d' : Drawn} {ch : List Addr} (I : Inv X pins σ H s) (u : Un (frs X.stack) ch H H' s.heap h') (hok : HOk X.prog X.w H' h') (hg : AllBare g')
    (hch : ∀ b ∈ ch, (b ∈ X.ex ∨ X.s₀.heap.objs.size ≤ b) ∧ b ≠ X.env.locals ∧ (∀ x c, X.env.cells.lookup x = some c → c ≠ b) ∧ ∀ p ∈ X.pn ++ pins, p.1 ≠ b) :
    Inv X pins σ H' { s with heap := h', gens := g', drawn := d', toks := t' } := by
  obtain ⟨m, ⟨o, es, ep, ho, r⟩, _⟩ := id I.loc
  obtain ⟨sl, hL⟩ := u.any ho I.free fun z => (hch _ z).2.1 rfl
  exact I.step (ch := ch) hch (fun b o hL hb hc e n => u.keep b o e n (fun z => (List.mem_cons.mp (I.stkSub b z)).elim hL hb) hc) (fun b o _ _ hc e n => u.any e n hc) (fun b o hc e n => u.free b o e n hc) (fun b o hc e => u.there b o e hc) u.tups u.frzs u.tbls (fun m' hm => by
    obtain ⟨o', es', ep', ho', r'⟩ := hm
    rw [ho] at ho'; cases ho'
    exact ⟨_, es', ep', hL, r'⟩) hok hg
theorem Inv.turned {t' : Nat} {it : Addr} (I : Inv X pins σ H s) (k : ∀ b o, b ≠ it → s.heap.get? b = some o → h'.get? b = some o) (hn : H it = none) (hL : it ≠ X.env.locals)
    (h1 : it ∈ X.ex ∨ X.s₀.heap.objs.size ≤ it) (h2 : ∀ x c, X.env.cells.lookup x = some c → c ≠ it) (h3 : ∀ p ∈ X.pn ++ pins, p.1 ≠ it) : Inv X pins σ H { s with heap := h', toks := t' } := by
  have nit : ∀ b u, H b = some u → b ≠ it := fun b u e z => by rw [z, hn] at e; cases e
  refine I.step (g' := s.gens) (d' := s.drawn) (ch := [it]) (fun b hb => ?_) (fun b o _ _ hc e _ => k b o (fun z => hc (by simp [z])) e) (fun b o _ _ hc e _ => ⟨o.slots, k b o (fun z => hc (by simp [z])) e⟩) (fun _ _ _ _ n => n)
    (fun b o hc e => ⟨o, k b o (fun z => hc (by simp [z])) e⟩) (fun _ _ e => e) (fun _ _ _ e => e) (fun b ps e => ⟨#[], by rw [e]; simp⟩) (fun m hm => ?_) (fun b u e => ?_) I.bare
  · have e : b = it := by simpa using hb
    subst e
    exact ⟨h1, hL, h2, h3⟩
  · obtain ⟨o, es, ep, ho, r⟩ := hm
    exact ⟨o, es, ep, k _ o (Ne.symm hL) ho, r⟩
  · refine (I.hok b u e).stay (fun c v hc q => k c v ?_ q) (fun _ q => q) fun _ _ q => q
    rcases hc with z | z
    · rw [z]; exact nit b u e
    · exact nit c _ z
theorem Inv.tok (I : Inv X pins σ H s) (t : Nat) : Inv X pins σ H { s with toks := t } := I.un (h' := s.heap) (t' := t) Un.refl I.hok
theorem Inv.kept {t' : Nat} (I : Inv X pins σ H s) (k : ∀ b u, s.heap.get? b = some u → h'.get? b = some u) : Inv X pins σ H { s with heap := h', toks := t' } := I.un (Un.kept k) (I.hok.kept k)
theorem Inv.laid {a : Addr} {o : HO} {t' : Nat} (I : Inv X pins σ H s) (k : ∀ b u, s.heap.get? b = some u → h'.get? b = some u) (hp : s.heap.objs.size ≤ a) (new : ObjOk X.prog X.w (upd H a o) h' a o) :
    Inv X pins σ (upd H a o) { s with heap := h', toks := t' } := I.un (Un.laid k hp (I.hok.fresh hp)) (I.hok.laid k hp new)
theorem Inv.write {x e : Addr} {o : HO} {t' : Nat} (I : Inv X pins σ H s) (mu : Mut (H x)) (he : e = x ∨ H e = some (.own x)) (k : ∀ b u, b ≠ e → s.heap.get? b = some u → h'.get? b = some u) (heo : ∃ u, h'.get? e = some u)
    (new : ObjOk X.prog X.w (upd H x o) h' x o) : Inv X pins σ (upd H x o) { s with heap := h', toks := t' } := I.un (Un.write mu he k heo) (I.hok.write mu he k heo new)
theorem Inv.weak {σ' : List (Option V)} (I : Inv X pins σ H s) (hl : σ'.length = σ.length) (w : ∀ (i : Nat) v, σ'[i]? = some (some v) → σ[i]? = some (some v)) : Inv X pins σ' H s :=
  ⟨I.ok, I.os, I.bare, I.base, let ⟨m, hn, hl'⟩ := I.loc; ⟨m, hn, fun i x v e1 e2 e3 => hl' i x v e1 (w i v e2) e3⟩, I.cell, I.free, I.freeC, I.pin, I.hok, hl.trans I.len⟩
theorem Inv.pins_of {pins' : List (Addr × Obj)} (I : Inv X pins σ H s) (h : ∀ p ∈ pins', s.heap.get? p.1 = some p.2 ∧ H p.1 = none ∧ p.1 ≠ X.env.locals ∧ p.1 ∉ X.fs ∧ ∀ v, p.2.data ≠ .cell v) : Inv X pins' σ H s :=
  ⟨I.ok, I.os, I.bare, I.base, I.loc, I.cell, I.free, I.freeC, fun p hp => (List.mem_append.mp hp).elim (fun z => I.pin p (List.mem_append_left _ z)) (h p), I.hok, I.len⟩
theorem nodup_ix {N : List Str} (hN : N.Nodup) {i j : Nat} {x : Str} (a : N[i]? = some x) (b : N[j]? = some x) : i = j := by
  obtain ⟨h1, e1⟩ := List.getElem?_eq_some_iff.mp a
  obtain ⟨h2, e2⟩ := List.getElem?_eq_some_iff.mp b
  exact (List.getElem_inj hN).mp (e1.trans e2.symm)
theorem store_ok2 {M : Model} {A : Around} {E : Value → Shared → Prop} {i : Nat} {x : Str} {v : V} {u : Value} {Q : Unit → Shared → Prop} (I : Inv X pins σ H s) (hN : X.N.Nodup) (hi : X.N[i]? = some x) (hx : Loc X.env.scope x) (r : RelV v u)
    (h : ∀ s', Inv X pins (σ.set i (some v)) H s' → (∃ a, Heap.SameBut a s.heap s'.heap ∧ (a = X.env.locals ∨ X.env.cells.lookup x = some a)) → Q () s') (hf : X.fn x = true ∨ X.env.scope.names.lookup x = some .local := by first | exact .inl rfl | exact .inr rfl | assumption) : wpAny M A (storeName X.env x u) Q E s := by
  obtain ⟨m, hn, hl⟩ := id I.loc
  have hcls : (X.env.scope.kind == .class || (X.env.scope.kind == .module && X.env.locals != X.env.globals)) = false := by rw [I.ok.kind]; rfl
  have hiσ : i < σ.length := by rw [I.len]; exact (List.getElem?_eq_some_iff.mp hi).1
  have cne := I.cne
  have tracked : ∀ {a : Addr} {h' : Heap}, (∃ o, s.heap.get? a = some o ∧ H a = none) → Heap.SameBut a s.heap h' → HOk X.prog X.w H h' := fun {a h'} ha hs b ob e => by
    obtain ⟨_, _, hfree⟩ := ha
    refine (I.hok b ob e).stay (fun c w' hc q => (hs.2 c ?_).trans q) (fun _ q => q) fun _ _ q => q
    rintro rfl
    rcases hc with rfl | hc
    · rw [hfree] at e; cases e
    · rw [hfree] at hc; cases hc
  rcases hx with hk | hk
  · refine wpAny_storeName_local hk hn (fun h' hn' hs => ?_) hcls
    obtain ⟨oL, _, _, hoL, _⟩ := id hn
    refine h _ ⟨I.ok, I.os, I.bare, ⟨fun b o e n hb hx => ?_, fun b o e n hb hx => ?_, I.base.free, fun b o e hx => ?_, I.base.tups, I.base.frzs, I.base.tbls⟩, ⟨_, hn', fun j y v' e1 e2 e3 => ?_⟩, fun y c e => ?_, I.free, I.freeC, fun p hp => ?_, tracked ⟨oL, hoL, I.free⟩ hs, by simpa using I.len⟩ ⟨_, hs, .inl rfl⟩
    · exact (hs.2 b (Nat.ne_of_lt (Nat.lt_of_lt_of_le (Heap.lt_size e) I.ok.above))).trans (I.base.keep b o e n hb hx)
    · obtain ⟨sl, e1⟩ := I.base.slot b o e n hb hx
      exact ⟨sl, (hs.2 b (Nat.ne_of_lt (Nat.lt_of_lt_of_le (Heap.lt_size e) I.ok.above))).trans e1⟩
    · obtain ⟨o', e1⟩ := I.base.there b o e hx
      exact ⟨o', (hs.2 b (Nat.ne_of_lt (Nat.lt_of_lt_of_le (Heap.lt_size e) I.ok.above))).trans e1⟩
    · by_cases hj : j = i
      · subst hj
        rw [hi] at e1; cases e1
        rw [List.getElem?_set_self hiσ] at e2
        cases e2
        exact ⟨u, r, .inl ⟨hk, by simp⟩⟩
      · rw [List.getElem?_set_ne (Ne.symm hj)] at e2
        obtain ⟨u', r', q⟩ := hl j y v' e1 e2 e3
        refine ⟨u', r', ?_⟩
        rcases q with ⟨k, e⟩ | ⟨k, c, e, z⟩
        · refine .inl ⟨k, ?_⟩
          have : y ≠ x := fun e => hj (nodup_ix hN e1 (e ▸ hi))
          simp [this, e]
        · exact .inr ⟨k, c, e, z.sameBut hs (cne y c e)⟩
    · obtain ⟨w', z⟩ := I.cell y c e
      exact ⟨w', z.sameBut hs (cne y c e)⟩
    · obtain ⟨e, n, ne, nf, d⟩ := I.pin p hp
      exact ⟨(hs.2 p.1 ne).trans e, n, ne, nf, d⟩
  · have hfn : X.fn x = true := by
      rcases hf with z | z
      · exact z
      · rw [z] at hk; cases hk
    obtain ⟨c, hc⟩ := I.ok.has x (.inl hk)
    obtain ⟨w', z⟩ := I.cell x c hc
    refine wpAny_storeName_cell I.ok.kind hk hc z (fun h' hc' hs => ?_)
    obtain ⟨oc, hoc, hocd⟩ := id z
    refine h { s with heap := h' } ⟨I.ok, I.os, I.bare, ⟨fun b o e n hb hx => ?_, fun b o e n hb hx => ?_, I.base.free, fun b o e hx => ?_, I.base.tups, I.base.frzs, I.base.tbls⟩, ⟨m, hn.sameBut hs (Ne.symm (cne x c hc)), fun j y v' e1 e2 e3 => ?_⟩, fun y c' e => ?_, I.free, I.freeC, fun p hp => ?_, tracked ⟨oc, hoc, I.freeC x c hc⟩ hs, by simpa using I.len⟩ ⟨c, hs, .inr hc⟩
    · exact (hs.2 b (Nat.ne_of_lt (Nat.lt_of_lt_of_le (Heap.lt_size e) (I.ok.cab x c hfn hc)))).trans (I.base.keep b o e n hb hx)
    · obtain ⟨sl, e1⟩ := I.base.slot b o e n hb hx
      exact ⟨sl, (hs.2 b (Nat.ne_of_lt (Nat.lt_of_lt_of_le (Heap.lt_size e) (I.ok.cab x c hfn hc)))).trans e1⟩
    · obtain ⟨o', e1⟩ := I.base.there b o e hx
      exact ⟨o', (hs.2 b (Nat.ne_of_lt (Nat.lt_of_lt_of_le (Heap.lt_size e) (I.ok.cab x c hfn hc)))).trans e1⟩
    · by_cases hj : j = i
      · subst hj
        rw [hi] at e1; cases e1
        rw [List.getElem?_set_self hiσ] at e2
        cases e2
        exact ⟨u, r, .inr ⟨.inl hk, c, hc, hc'⟩⟩
      · rw [List.getElem?_set_ne (Ne.symm hj)] at e2
        obtain ⟨u', r', q⟩ := hl j y v' e1 e2 e3
        refine ⟨u', r', ?_⟩
        rcases q with q | ⟨k, c', e, z'⟩
        · exact .inl q
        · refine .inr ⟨k, c', e, z'.sameBut hs ?_⟩
          rintro rfl
          exact hj (nodup_ix hN e1 (I.ok.inj _ _ _ e hc ▸ hi))
    · by_cases hcc : c' = c
      · subst hcc; exact ⟨_, hc'⟩
      · obtain ⟨w2, z2⟩ := I.cell y c' e
        exact ⟨w2, z2.sameBut hs hcc⟩
    · obtain ⟨e, n, ne, nf, d⟩ := I.pin p hp
      refine ⟨(hs.2 p.1 ?_).trans e, n, ne, nf, d⟩
      intro q
      rw [q, hoc] at e
      have q' : oc = p.2 := Option.some.inj e
      exact d w' (by rw [← q']; exact hocd)
theorem store_ok {M : Model} {A : Around} {E : Value → Shared → Prop} {i : Nat} {x : Str} {v : V} {u : Value} {Q : Unit → Shared → Prop} (I : Inv X pins σ H s) (hN : X.N.Nodup) (hi : X.N[i]? = some x) (hx : Loc X.env.scope x) (r : RelV v u)
    (h : ∀ s', Inv X pins (σ.set i (some v)) H s' → Q () s') (hf : X.fn x = true ∨ X.env.scope.names.lookup x = some .local := by first | exact .inl rfl | exact .inr rfl | assumption) : wpAny M A (storeName X.env x u) Q E s :=
  store_ok2 I hN hi hx r (fun s' I' _ => h s' I') hf
theorem Inv.call' {s' : Shared} {ch : List Addr} (I : Inv X pins σ H s) (ho : s'.os = s.os) (u : Un (frs X.stack) ch H H' s.heap s'.heap) (hok : HOk X.prog X.w H' s'.heap) (hg : AllBare s'.gens)
    (hch : ∀ b ∈ ch, (b ∈ X.ex ∨ X.s₀.heap.objs.size ≤ b) ∧ b ≠ X.env.locals ∧ (∀ x c, X.env.cells.lookup x = some c → c ≠ b) ∧ ∀ p ∈ X.pn ++ pins, p.1 ≠ b) : Inv X pins σ H' s' := by
  obtain ⟨h', g', d', t', o'⟩ := s'
  have e : o' = s.os := ho
  subst e
  exact I.call (g' := g') (t' := t') (d' := d') u hok hg hch
end
abbrev XK := Value → Option Addr → Hp → Prop
abbrev St := List (Option V)
abbrev VK := V → Hp → Prop
abbrev TE := St → Hp → VK → Prop
abbrev TT := St → Hp → (Bool → Hp → Prop) → Prop
abbrev TA := St → Hp → (List V → Hp → Prop) → Prop
structure Ends where
  nx : St → Hp → Prop
  rt : VK
  bk : St → Hp → Prop := fun _ _ => False
  ct : St → Hp → Prop := fun _ _ => False
abbrev TS := Ends → St → Hp → Prop
def EP (X : Cx) (pins : List (Addr × Obj)) (σ : St) (Q : VK) (u : Value) (s' : Shared) : Prop := ∃ v H', Inv X pins σ H' s' ∧ RelV v u ∧ Q v H'
def TP (X : Cx) (pins : List (Addr × Obj)) (σ : St) (Q : Bool → Hp → Prop) (b : Bool) (s' : Shared) : Prop := ∃ H', Inv X pins σ H' s' ∧ Q b H'
def AP (X : Cx) (pins : List (Addr × Obj)) (σ : St) (Q : List V → Hp → Prop) (us : List Value) (s' : Shared) : Prop := ∃ vs H', Inv X pins σ H' s' ∧ Vals vs us ∧ Q vs H'
def SP (X : Cx) (pins : List (Addr × Obj)) (D : Ends) (f : Flow) (s' : Shared) : Prop :=
  match f with
  | .next => ∃ σ' H', Inv X pins σ' H' s' ∧ D.nx σ' H'
  | .brk => ∃ σ' H', Inv X pins σ' H' s' ∧ D.bk σ' H'
  | .cont => ∃ σ' H', Inv X pins σ' H' s' ∧ D.ct σ' H'
  | .ret u => ∃ v σ' H', Inv X pins σ' H' s' ∧ RelV v u ∧ D.rt v H'
def PE (X : Cx) (e : Expr) (t : TE) : Prop :=
  ∀ (pins : List (Addr × Obj)) (s : Shared) (σ : St) (H : Hp) (Q : VK), Inv X pins σ H s → t σ H Q → wpAny (model X.prog X.w) X.A (eval e X.env) (EP X pins σ Q) X.xe s
def PT (X : Cx) (e : Expr) (t : TT) : Prop :=
  ∀ (pins : List (Addr × Obj)) (s : Shared) (σ : St) (H : Hp) (Q : Bool → Hp → Prop), Inv X pins σ H s → t σ H Q → wpAny (model X.prog X.w) X.A (isTrue e X.env (eval e X.env)) (TP X pins σ Q) X.xe s
def PW (X : Cx) (e : Expr) (t : TT) : Prop :=
  ∀ (whole : Sem Value) (pins : List (Addr × Obj)) (s : Shared) (σ : St) (H : Hp) (Q : Bool → Hp → Prop), Inv X pins σ H s → t σ H Q → wpAny (model X.prog X.w) X.A (isTrue e X.env whole) (TP X pins σ Q) X.xe s
theorem PW.pt {X : Cx} {e : Expr} {t : TT} (h : PW X e t) : PT X e t := h _
def PA (X : Cx) (es : List Expr) (t : TA) : Prop :=
  ∀ (pos : Pos) (pins : List (Addr × Obj)) (s : Shared) (σ : St) (H : Hp) (Q : List V → Hp → Prop), Inv X pins σ H s → t σ H Q → wpAny (model X.prog X.w) X.A (spliced (backTo pos (starEach es X.env))) (AP X pins σ Q) X.xe s
def PS (X : Cx) (st : Stmt) (t : TS) : Prop :=
  ∀ (pins : List (Addr × Obj)) (s : Shared) (σ : St) (H : Hp) (D : Ends), Inv X pins σ H s → t D σ H → wpAny (model X.prog X.w) X.A (exec st X.env) (SP X pins D) X.xe s
def PSs (X : Cx) (st : List Stmt) (t : TS) : Prop :=
  ∀ (pins : List (Addr × Obj)) (s : Shared) (σ : St) (H : Hp) (D : Ends), Inv X pins σ H s → t D σ H → wpAny (model X.prog X.w) X.A (execs st X.env) (SP X pins D) X.xe s
theorem thn {α : Type} {t : Sem α} {Q Q' : α → Shared → Prop} {M : Model} {A : Around} {E : Value → Shared → Prop} {s : Shared} (h : wpAny M A t Q E s) (hQ : ∀ a s, Q a s → Q' a s) : wpAny M A t Q' E s := wpAny_mono h hQ fun _ _ x => x
end L2
namespace L2
open PySem PySem.Spec PyProof.Rows
section
variable {X : Cx}
def tVar (i : Nat) : TE := fun σ H Q => ∃ v, σ[i]? = some (some v) ∧ Q v H
def tC (v : V) : TE := fun _ H Q => Q v H
theorem pe_var {i : Nat} {x : Str} {pos : Pos} (hN : X.N[i]? = some x) (hv : Vis X.env.scope x) (hd : (x == ("__debug__" : Str)) = false := by decide) (hcd : (x == ("__classdict__" : Str)) = false := by decide) : PE X (.Name x pos) (tVar i) := by
  intro pins s σ H Q I h
  obtain ⟨v, e, h⟩ := h
  obtain ⟨m, hn, hl⟩ := I.loc
  obtain ⟨u, r, l⟩ := hl i x v hN e hv
  have fin : EP X pins σ Q u s := ⟨v, H, I, r, h⟩
  rcases l with ⟨hk, hm⟩ | ⟨hk, c, hc, hcell⟩
  · exact wpAny_Name (wpAny_loadName_local I.ok.kind hk hn hm fin) hd
  · rcases hk with hk | hk
    · exact wpAny_Name (wpAny_loadName_cell I.ok.kind hk hc hcell fin) hd
    · exact wpAny_Name (wpAny_loadName_free I.ok.kind hk hc hcell fin hcd) hd
theorem pe_int {i j pos} : PE X (.Constant (.int i) j pos) (tC (.int i)) := fun _ _ _ H _ I h => wpAny_Constant_int ⟨.int i, H, I.tok _, ⟨_, rfl⟩, h⟩
theorem pe_bl {b j pos} : PE X (.Constant (.bool b) j pos) (tC (.bl b)) := fun _ _ _ H _ I h => Constant_bool ⟨.bl b, H, I, rfl, h⟩
theorem pe_non {j pos} : PE X (.Constant .none j pos) (tC .non) := fun _ _ _ H _ I h => Constant_none ⟨.non, H, I, rfl, h⟩
theorem pe_str {x j pos} : PE X (.Constant (.str x) j pos) (tC (.str x)) := fun _ _ _ H _ I h => Calls.Constant_str ⟨.str x, H, I.tok _, ⟨_, rfl⟩, h⟩
def Gl (X : Cx) (x : Str) : Prop := X.env.kindOf x = some .globalImplicit
theorem ld_glob {E : Value → Shared → Prop} {pins : List (Addr × Obj)} {s : Shared} {σ : St} {H : Hp} {x : Str} {u : Value} {pos : Pos} {Q : Value → Shared → Prop} (I : Inv X pins σ H s) (hg : Gl X x) (hm : X.mg x = some u) (h : Q u s)
    (hd : (x == ("__debug__" : Str)) = false := by decide) : wpAny (model X.prog X.w) X.A (eval (.Name x pos) X.env) Q E s :=
  Calls.Name_function_global I.ok.kind hg (Calls.loadGlobal_global (by rw [I.ok.glob]; exact I.mod.glob.keeps I.bk) hm h) hd
theorem ld_blt {E : Value → Shared → Prop} {pins : List (Addr × Obj)} {s : Shared} {σ : St} {H : Hp} {x : Str} {u : Value} {pos : Pos} {Q : Value → Shared → Prop} (I : Inv X pins σ H s) (hg : Gl X x) (hm : X.mg x = none) (hv : bootBuiltins x = some u) (h : Q u s)
    (hn : x ≠ "__name__" := by decide) (hd : (x == ("__debug__" : Str)) = false := by decide) : wpAny (model X.prog X.w) X.A (eval (.Name x pos) X.env) Q E s := by
  obtain ⟨mb, h1, h2⟩ := I.mod.blt
  exact Calls.Name_function_global I.ok.kind hg (Calls.loadGlobal_builtin (by rw [I.ok.glob]; exact I.mod.glob.keeps I.bk) hm (by rw [I.ok.blt]; exact h1.keeps I.bk) ((h2 x hn).trans hv) h) hd
theorem pe_glob {x : Str} {v : V} {u : Value} {pos : Pos} (hg : Gl X x) (hm : X.mg x = some u) (r : RelV v u) (hd : (x == ("__debug__" : Str)) = false := by decide) : PE X (.Name x pos) (tC v) :=
  fun _ _ _ H _ I h => ld_glob I hg hm ⟨v, H, I, r, h⟩ hd
theorem pe_bltn {x : Str} {v : V} {u : Value} {pos : Pos} (hg : Gl X x) (hm : X.mg x = none) (hv : bootBuiltins x = some u) (r : RelV v u) (hn : x ≠ "__name__" := by decide) (hd : (x == ("__debug__" : Str)) = false := by decide) : PE X (.Name x pos) (tC v) :=
  fun _ _ _ H _ I h => ld_blt I hg hm hv ⟨v, H, I, r, h⟩ hn hd
variable {a b : Expr} {ta tb : TE} {pos : Pos}
def PC (X : Cx) (op : CmpOp) (a b : Expr) (t : TE) : Prop :=
  ∀ (pins : List (Addr × Obj)) (s : Shared) (σ : St) (H : Hp) (Q : VK), Inv X pins σ H s → t σ H Q →
    wpAny (model X.prog X.w) X.A (eval a X.env) (fun v s₁ => wpAny (model X.prog X.w) X.A (eval b X.env) (fun u s₂ => wpAny (model X.prog X.w) X.A (compareOp op v u) (EP X pins σ Q) X.xe s₂) X.xe s₁) X.xe s
theorem nobehind (b : Expr) {op : CmpOp} (h : op ≠ .In) (h2 : op ≠ .NotIn) : behindInMarks op b = false := by
  have e1 : (op == CmpOp.In) = false := by cases op <;> first | rfl | exact absurd rfl h
  have e2 : (op == CmpOp.NotIn) = false := by cases op <;> first | rfl | exact absurd rfl h2
  cases b <;> simp [behindInMarks, e1, e2]
def tIsN (ta : TE) : TE := fun σ H Q => ta σ H fun x H1 => Q (.bl (decide (x = .non))) H1
theorem RelV.none_iff {x : V} {v : Value} (r : RelV x v) : (v == Value.none) = decide (x = .non) := by
  cases x with
  | non => cases r; rfl
  | bl _ => cases r; rfl
  | int _ => obtain ⟨t, rfl⟩ := r; rfl
  | str _ => obtain ⟨t, rfl⟩ := r; rfl
  | byt _ => obtain ⟨t, rfl⟩ := r; rfl
  | flt _ => obtain ⟨t, rfl⟩ := r; rfl
  | ref _ => cases r; rfl
  | ty _ => cases r; rfl
theorem pc_isN {j pos'} (ha : PE X a ta) : PC X .Is a (.Constant .none j pos') (tIsN ta) := by
  intro pins s σ H Q I h
  refine thn (ha pins s σ H _ I h) fun v s1 ⟨x, H1, I1, r1, q1⟩ => ?_
  exact Constant_none (is_none_gen ⟨.bl _, H1, I1, by rw [r1.none_iff]; rfl, q1⟩)
def tB (t : TE) : TT := fun σ H Q => t σ H fun x H1 => ∃ c, x = .bl c ∧ Q c H1
theorem pe_cmp {op : CmpOp} {t : TE} (h : PC X op a b t) (h1 : behindInMarks op b = false := by first | exact nobehind _ (by decide) (by decide) | rfl) : PE X (.Compare a [op] [b] pos) t := fun pins s σ H Q I hw => wpAny_Compare1 (h pins s σ H Q I hw) h1
theorem pt_cmp {op : CmpOp} {t : TE} (h : PC X op a b t) (h1 : behindInMarks op b = false := by first | exact nobehind _ (by decide) (by decide) | rfl) : PT X (.Compare a [op] [b] pos) (tB t) := by
  intro pins s σ H Q I hw
  refine wpAny_isTrue_Compare1 (thn (h pins s σ H _ I hw) fun v s1 h1 => thn h1 fun u s2 h2 => thn h2 fun c s3 ⟨x, H1, I1, r1, q1⟩ => ?_) h1
  obtain ⟨d, rfl, q⟩ := q1
  cases r1
  exact wpAny_truthy_bool ⟨H1, I1, q⟩
theorem pt_val {e : Expr} {t : TE} (h : PE X e t) (he : ∀ whole, isTrue e X.env whole = (do let v ← whole; standAt e.pos; holding [v] (truthy v)) := by intro _; rfl) : PT X e (tB t) := by
  intro pins s σ H Q I hw
  refine isTrue_plain (thn (h pins s σ H _ I hw) fun v s1 ⟨x, H1, I1, r1, q1⟩ => ?_) (he _)
  obtain ⟨d, rfl, q⟩ := q1
  cases r1
  exact wpAny_truthy_bool ⟨H1, I1, q⟩
variable {tA tB' : TT} {rest : List Expr}
def tAnd (t u : TT) : TT := fun σ H Q => t σ H fun c H1 => if c = true then u σ H1 Q else Q false H1
def tOr (t u : TT) : TT := fun σ H Q => t σ H fun c H1 => if c = true then Q true H1 else u σ H1 Q
def tNot (t : TT) : TT := fun σ H Q => t σ H fun c H1 => Q (!c) H1
theorem pw_and1 (ha : PT X a tA) : PW X (.BoolOp .And [a] pos) tA := by
  intro wh pins s σ H Q I h
  refine isTrue_and (thn (ha pins s σ H Q I h) fun c s1 e => ?_)
  cases c with
  | true => exact isTrue_and_nil e
  | false => exact e
theorem pw_or1 (ha : PT X a tA) : PW X (.BoolOp .Or [a] pos) tA := by
  intro wh pins s σ H Q I h
  refine isTrue_or (thn (ha pins s σ H Q I h) fun c s1 e => ?_)
  cases c with
  | false => exact isTrue_or_nil e
  | true => exact e
theorem pw_and (ha : PT X a tA) (hb : PW X (.BoolOp .And (b :: rest) pos) tB') : PW X (.BoolOp .And (a :: b :: rest) pos) (tAnd tA tB') := by
  intro wh pins s σ H Q I h
  refine isTrue_and (thn (ha pins s σ H _ I h) fun c s1 ⟨H1, I1, q1⟩ => ?_)
  cases c with
  | true => exact hb wh pins s1 σ H1 Q I1 q1
  | false => exact ⟨H1, I1, q1⟩
theorem pw_or (ha : PT X a tA) (hb : PW X (.BoolOp .Or (b :: rest) pos) tB') : PW X (.BoolOp .Or (a :: b :: rest) pos) (tOr tA tB') := by
  intro wh pins s σ H Q I h
  refine isTrue_or (thn (ha pins s σ H _ I h) fun c s1 ⟨H1, I1, q1⟩ => ?_)
  cases c with
  | true => exact ⟨H1, I1, q1⟩
  | false => exact hb wh pins s1 σ H1 Q I1 q1
theorem pt_not (ha : PT X a tA) : PT X (.UnaryOp .Not a pos) (tNot tA) := by
  intro pins s σ H Q I h
  exact isTrue_not (ha pins s σ H (fun c H1 => Q (!c) H1) I h)
def tAndV (ta tb : TE) : TE := fun σ H Q => ta σ H fun x H1 => ∃ c, x = .bl c ∧ if c = true then tb σ H1 Q else Q (.bl false) H1
def tOrV (ta tb : TE) : TE := fun σ H Q => ta σ H fun x H1 => ∃ c, x = .bl c ∧ if c = true then Q (.bl true) H1 else tb σ H1 Q
theorem pe_one {op} {t : TE} (h : PE X a t) : PE X (.BoolOp op [a] pos) t := fun pins s σ H Q I hw => BoolOp_one (h pins s σ H Q I hw)
theorem pe_and (ha : PE X a ta) (hb : PE X (.BoolOp .And (b :: rest) pos) tb) : PE X (.BoolOp .And (a :: b :: rest) pos) (tAndV ta tb) := by
  intro pins s σ H Q I h
  refine BoolOp_and (thn (ha pins s σ H _ I h) fun v s1 ⟨x, H1, I1, r1, q1⟩ => ?_)
  obtain ⟨c, rfl, q1⟩ := q1
  cases r1
  refine wpAny_truthy_bool ?_
  cases c with
  | true => exact hb pins s1 σ H1 Q I1 q1
  | false => exact ⟨.bl false, H1, I1, rfl, q1⟩
theorem pe_or (ha : PE X a ta) (hb : PE X (.BoolOp .Or (b :: rest) pos) tb) : PE X (.BoolOp .Or (a :: b :: rest) pos) (tOrV ta tb) := by
  intro pins s σ H Q I h
  refine BoolOp_or (thn (ha pins s σ H _ I h) fun v s1 ⟨x, H1, I1, r1, q1⟩ => ?_)
  obtain ⟨c, rfl, q1⟩ := q1
  cases r1
  refine wpAny_truthy_bool ?_
  cases c with
  | false => exact hb pins s1 σ H1 Q I1 q1
  | true => exact ⟨.bl true, H1, I1, rfl, q1⟩
end
end L2
namespace L2
open PySem PySem.Spec PyProof.Rows
def SqL (K : PySem.W.Frag) (H : Hp) (a : Addr) (xs : List V) : Prop :=
  Rd H a (.lst xs) ∨
    ∃ (o : Obj) (its : Array Value) (n : Nat), K.lookup a = some o ∧ o.cls = .type "list" ∧ o.dict = none ∧ o.data = .seq its n ∧ its.size ≤ sizeLine ∧ Vals xs its.toList
def SqT (K : PySem.W.Frag) (H : Hp) (a : Addr) (xs : List V) : Prop :=
  Rd H a (.tup xs) ∨
    ∃ (o : Obj) (its : Array Value) (n : Nat), K.lookup a = some o ∧ o.cls = .type "tuple" ∧ o.data = .seq its n ∧ its.size ≤ sizeLine ∧ Vals xs its.toList
def absV : Value → Option V
  | .none => some .non
  | .bool b => some (.bl b)
  | .int i _ => some (.int i)
  | .str x _ => some (.str x)
  | .bytes b _ => some (.byt b)
  | .float b _ => some (.flt b)
  | .ref a => some (.ref a)
  | .type n => some (.ty n)
  | _ => none
theorem RelV.abs {x : V} {u : Value} (r : RelV x u) : absV u = some x := by
  cases x with
  | non => cases r; rfl
  | bl _ => cases r; rfl
  | int _ => obtain ⟨t, rfl⟩ := r; rfl
  | str _ => obtain ⟨t, rfl⟩ := r; rfl
  | byt _ => obtain ⟨t, rfl⟩ := r; rfl
  | flt _ => obtain ⟨t, rfl⟩ := r; rfl
  | ref _ => cases r; rfl
  | ty _ => cases r; rfl
theorem RelV.inj {x y : V} {u : Value} (r : RelV x u) (q : RelV y u) : x = y := Option.some.inj (r.abs.symm.trans q.abs)
theorem Vals.inj : ∀ {xs ys : List V} {us : List Value}, Vals xs us → Vals ys us → xs = ys
  | _, _, _, .nil, .nil => rfl
  | _, _, _, .cons r t, .cons r' t' => by rw [r.inj r', Vals.inj t t']
section
variable {X : Cx} {pins : List (Addr × Obj)} {σ : St} {H : Hp} {s : Shared} {a : Addr} {xs ys : List V}
theorem SqL.of {K : PySem.W.Frag} (h : H a = some (.lst xs)) : SqL K H a xs := .inl (.inl h)
theorem SqT.of {K : PySem.W.Frag} (h : H a = some (.tup xs)) : SqT K H a xs := .inl (.inl h)
theorem Inv.list (I : Inv X pins σ H s) (h : SqL X.K H a xs) : ∃ its : List Value, Vals xs its ∧ PlainL s.heap a its.toArray ∧ xs.length ≤ sizeLine := by
  rcases h with h | ⟨o, its, n, hk, hc, hd, hs, hz, r⟩
  · obtain ⟨z, its, n, r, e⟩ := h.ok I.hok
    exact ⟨its, r, ⟨_, n, e, rfl, rfl, rfl⟩, z⟩
  · refine ⟨its.toList, r, ⟨o, n, I.kIn a o hk, hc, hd, by simpa using hs⟩, ?_⟩
    have e := r.length
    simp only [Array.length_toList] at e
    omega
theorem Inv.tuple (I : Inv X pins σ H s) (h : SqT X.K H a xs) : ∃ its : List Value, Vals xs its ∧ IsTup s.heap a its.toArray ∧ xs.length ≤ sizeLine := by
  rcases h with h | ⟨o, its, n, hk, hc, hs, hz, r⟩
  · obtain ⟨z, its, r, p⟩ := h.ok I.hok
    exact ⟨its, r, p, z⟩
  · refine ⟨its.toList, r, ⟨o, I.kIn a o hk, hc, n, by simpa using hs⟩, ?_⟩
    have e := r.length
    simp only [Array.length_toList] at e
    omega
theorem Inv.list_inj (I : Inv X pins σ H s) (h : SqL X.K H a xs) (h' : SqL X.K H a ys) : xs = ys := by
  obtain ⟨its, r, ⟨o, n, e, _, _, d⟩, _⟩ := I.list h
  obtain ⟨its', r', ⟨o', n', e', _, _, d'⟩, _⟩ := I.list h'
  rw [e] at e'; cases e'
  rw [d] at d'
  injection d' with d1 _
  have : its = its' := by simpa using congrArg Array.toList d1
  subst this
  exact r.inj r'
theorem Inv.tuple_inj (I : Inv X pins σ H s) (h : SqT X.K H a xs) (h' : SqT X.K H a ys) : xs = ys := by
  obtain ⟨its, r, ⟨o, e, _, n, d⟩, _⟩ := I.tuple h
  obtain ⟨its', r', ⟨o', e', _, n', d'⟩, _⟩ := I.tuple h'
  rw [e] at e'; cases e'
  rw [d] at d'
  injection d' with d1 _
  have : its = its' := by simpa using congrArg Array.toList d1
  subst this
  exact r.inj r'
end
abbrev Cx.wish (X : Cx) (E : Value → Shared → Prop) : Cx := { X with xe := E }
abbrev Cx.nox (X : Cx) : Cx := X.wish fun _ _ => False
theorem Cx.Ok.wish {X : Cx} (ok : X.Ok) (E : Value → Shared → Prop) : (X.wish E).Ok :=
  ⟨ok.mod, ok.kind, ok.glob, ok.blt, ok.above, ok.inj, ok.has, ok.cab, ok.hd, ok.frames, ok.stk, ok.exf, ok.bs, ok.bsz, ok.noex, ok.exfs, ok.funs, ok.frf⟩
theorem Cx.Ok.unwish {X : Cx} {E : Value → Shared → Prop} (ok : (X.wish E).Ok) : X.Ok :=
  ⟨ok.mod, ok.kind, ok.glob, ok.blt, ok.above, ok.inj, ok.has, ok.cab, ok.hd, ok.frames, ok.stk, ok.exf, ok.bs, ok.bsz, ok.noex, ok.exfs, ok.funs, ok.frf⟩
section
variable {X : Cx} {pins : List (Addr × Obj)} {σ : St} {H : Hp} {s : Shared} {E : Value → Shared → Prop}
theorem Inv.wish (I : Inv X pins σ H s) (E : Value → Shared → Prop) : Inv (X.wish E) pins σ H s := ⟨I.ok.wish E, I.os, I.bare, I.base, I.loc, I.cell, I.free, I.freeC, I.pin, I.hok, I.len⟩
theorem Inv.unwish (I : Inv (X.wish E) pins σ H s) : Inv X pins σ H s := ⟨I.ok.unwish, I.os, I.bare, I.base, I.loc, I.cell, I.free, I.freeC, I.pin, I.hok, I.len⟩
theorem SP.unwish {D : Ends} {f : Flow} {s' : Shared} (h : SP (X.wish E) pins D f s') : SP X pins D f s' := by
  cases f with
  | next => obtain ⟨σ', H', I, q⟩ := h; exact ⟨σ', H', I.unwish, q⟩
  | brk => obtain ⟨σ', H', I, q⟩ := h; exact ⟨σ', H', I.unwish, q⟩
  | cont => obtain ⟨σ', H', I, q⟩ := h; exact ⟨σ', H', I.unwish, q⟩
  | ret u => obtain ⟨v, σ', H', I, r, q⟩ := h; exact ⟨v, σ', H', I.unwish, r, q⟩
theorem PE.nox {e : Expr} {t : TE} (h : PE X.nox e t) : PE X e t := fun pins s σ H Q I hw =>
  wpAny_mono (h pins s σ H Q (I.wish _) hw) (fun _ _ ⟨v, H', I', r, q⟩ => ⟨v, H', I'.unwish, r, q⟩) fun _ _ z => False.elim z
theorem PT.nox {e : Expr} {t : TT} (h : PT X.nox e t) : PT X e t := fun pins s σ H Q I hw =>
  wpAny_mono (h pins s σ H Q (I.wish _) hw) (fun _ _ ⟨H', I', q⟩ => ⟨H', I'.unwish, q⟩) fun _ _ z => False.elim z
theorem PSs.nox {st : List Stmt} {t : TS} (h : PSs X.nox st t) : PSs X st t := fun pins s σ H D I hw =>
  wpAny_mono (h pins s σ H D (I.wish _) hw) (fun _ _ q => q.unwish) fun _ _ z => False.elim z
end
section
variable {X : Cx} {st : Stmt} {rest : List Stmt} {t u : TS} {e : Expr} {te : TE} {pos : Pos}
def tNext : TS := fun D σ H => D.nx σ H
def tSeq (t u : TS) : TS := fun D σ H => t { D with nx := u D } σ H
theorem pss_nil : PSs X [] tNext := fun _ _ σ H _ I h => wpAny_execs_nil ⟨σ, H, I, h⟩
theorem pss_cons (h1 : PS X st t) (h2 : PSs X rest u) : PSs X (st :: rest) (tSeq t u) := by
  intro pins s σ H D I h
  refine wpAny_execs_cons (thn (h1 pins s σ H { D with nx := u D } I h) fun f s1 q => ?_)
  cases f with
  | next =>
    obtain ⟨σ', H', I', q⟩ := q
    exact h2 pins s1 σ' H' D I' q
  | ret v => exact q
  | brk => exact q
  | cont => exact q
theorem pss_one (h1 : PS X st t) : PSs X [st] t := by
  intro pins s σ H D I h
  refine wpAny_execs_cons (thn (h1 pins s σ H D I h) fun f s1 q => ?_)
  cases f with
  | next => exact wpAny_execs_nil q
  | ret v => exact q
  | brk => exact q
  | cont => exact q
theorem Inv.quiet {pins : List (Addr × Obj)} {σ : St} {H : Hp} {s : Shared} (I : Inv X pins σ H s) : interactive X.env = false := by simp [interactive, I.ok.kind]
def tDrop (te : TE) : TS := fun D σ H => te σ H fun _ H1 => D.nx σ H1
theorem ps_expr (he : PE X e te) (hs : swapsWith e none pos.line X.env = pure false := by rfl) : PS X (.Expr e pos) (tDrop te) := by
  intro pins s σ H D I h
  exact wpAny_Expr_any (thn (he pins s σ H _ I h) fun v s1 ⟨x, H1, I1, r1, q1⟩ => ⟨σ, H1, I1, q1⟩) I.quiet hs
def tRet (te : TE) : TS := fun D σ H => te σ H D.rt
theorem ps_ret (he : PE X e te) : PS X (.Return (some e) pos) (tRet te) := by
  intro pins s σ H D I h
  exact wpAny_Return_some (thn (he pins s σ H _ I h) fun v s1 ⟨x, H1, I1, r1, q1⟩ => ⟨x, σ, H1, I1, r1, q1⟩)
def tIfS (c : TT) (t u : TS) : TS := fun D σ H => c σ H fun b H1 => if b = true then t D σ H1 else u D σ H1
theorem ps_if {c : Expr} {a b : List Stmt} {tc : TT} (hc : PT X c tc) (ha : PSs X a t) (hb : PSs X b u) : PS X (.If c a b pos) (tIfS tc t u) := by
  intro pins s σ H D I h
  refine wpAny_If (thn (hc pins s σ H _ I h) fun d s1 ⟨H1, I1, q1⟩ => ?_)
  cases d with
  | true => exact ha pins s1 σ H1 D I1 q1
  | false => exact hb pins s1 σ H1 D I1 q1
def tNever : TS := fun _ _ _ => False
theorem pss_never {sts : List Stmt} : PSs X sts tNever := fun _ _ _ _ _ _ h => h.elim
end
abbrev TG := V → St → Hp → (St → Hp → Prop) → Prop
abbrev TGs := List V → St → Hp → (St → Hp → Prop) → Prop
def PG (X : Cx) (target : Expr) (t : TG) : Prop :=
  ∀ (pins : List (Addr × Obj)) (s : Shared) (σ : St) (H : Hp) (v : V) (u : Value) (Q : St → Hp → Prop), Inv X pins σ H s → RelV v u → t v σ H Q →
    wpAny (model X.prog X.w) X.A (assign target X.env u) (fun _ s' => ∃ σ' H', Inv X pins σ' H' s' ∧ Q σ' H') X.xe s
def PGs (X : Cx) (ts : List Expr) (t : TGs) : Prop :=
  ∀ (pins : List (Addr × Obj)) (s : Shared) (σ : St) (H : Hp) (vs : List V) (us : List Value) (Q : St → Hp → Prop), Inv X pins σ H s → Vals vs us → t vs σ H Q →
    wpAny (model X.prog X.w) X.A (assignInOrder ((assignEach ts X.env).map (·.2)) us) (fun _ s' => ∃ σ' H', Inv X pins σ' H' s' ∧ Q σ' H') X.xe s
abbrev TSet := V → V → V → Hp → (Hp → Prop) → Prop
def PSet (X : Cx) (t : TSet) : Prop :=
  ∀ (pins : List (Addr × Obj)) (s : Shared) (σ : St) (H : Hp) (o i v : V) (ov iv u : Value) (Q : Hp → Prop), Inv X pins σ H s → RelV o ov → RelV i iv → RelV v u → t o i v H Q →
    wpAny (model X.prog X.w) X.A (setItem ov iv u) (fun _ s' => ∃ H', Inv X pins σ H' s' ∧ Q H') X.xe s
section
variable {X : Cx} {pos : Pos}
def gName (i : Nat) : TG := fun v σ H Q => Q (σ.set i (some v)) H
theorem pg_name {i : Nat} {x : Str} (hN : X.N.Nodup) (hi : X.N[i]? = some x) (hx : Loc X.env.scope x) (hf : X.fn x = true ∨ X.env.scope.names.lookup x = some .local := by first | exact .inl rfl | exact .inr rfl | assumption) : PG X (.Name x pos) (gName i) := by
  intro pins s σ H v u Q I r h
  exact wpAny_assign_Name (store_ok I hN hi hx r (fun s' I' => ⟨_, H, I', h⟩) hf)
def gNil : TGs := fun vs σ H Q => vs = [] ∧ Q σ H
def gCons (t : TG) (u : TGs) : TGs := fun vs σ H Q => ∃ v r, vs = v :: r ∧ t v σ H fun σ' H' => u r σ' H' Q
theorem pgs_nil : PGs X [] gNil := by
  intro pins s σ H vs us Q I r h
  obtain ⟨e, h⟩ := h
  subst e
  cases r
  exact assignInOrder_nil ⟨σ, H, I, h⟩
theorem pgs_cons {e : Expr} {es : List Expr} {t : TG} {u : TGs} (h1 : PG X e t) (h2 : PGs X es u)
    (hs : (assignEach (e :: es) X.env).map (·.2) = assign e X.env :: (assignEach es X.env).map (·.2) := by rfl) : PGs X (e :: es) (gCons t u) := by
  intro pins s σ H vs us Q I r h
  obtain ⟨v, vr, e1, h⟩ := h
  subst e1
  cases r with
  | cons r rr =>
    rw [hs]
    refine assignInOrder_cons (thn (h1 pins s σ H _ _ _ I r h) fun _ s1 ⟨σ1, H1, I1, q1⟩ => ?_)
    exact h2 pins s1 σ1 H1 _ _ Q I1 rr q1
def gTup (K : PySem.W.Frag) (n : Nat) (t : TGs) : TG := fun v σ H Q => ∃ a xs, v = .ref a ∧ SqT K H a xs ∧ xs.length = n ∧ t xs σ H Q
theorem pg_tup {es : List Expr} {k : Nat} {t : TGs} {n : Nat} (hc : X.calm = true) (h : PGs X es t)
    (hn : (assignEach es X.env).length = n := by rfl) (hst : (assignEach es X.env).findIdx? (·.1) = none := by rfl) : PG X (.Tuple es k pos) (gTup X.K n t) := by
  intro pins s σ H v u Q I r hw
  obtain ⟨a, xs, e1, hq, hl, hw⟩ := hw
  subst e1
  cases r
  obtain ⟨its, rv, ht, hz⟩ := I.tuple hq
  refine assign_Tuple_tuple (I.ok.hd hc) ht (by simp [hn, ← hl, rv.length]) hst fun h' hx => ?_
  have I1 : Inv X pins σ H { s with heap := h' } := I.kept (t' := s.toks) fun b o e => hx b o (Nat.ne_of_lt (Heap.lt_size e)) e
  exact h pins _ σ H xs _ Q I1 (by simpa using rv) hw
def gSub (to ti : TE) (t : TSet) : TG := fun v σ H Q => to σ H fun o H1 => ti σ H1 fun i H2 => t o i v H2 fun H3 => Q σ H3
theorem pg_sub {o i : Expr} {to ti : TE} {t : TSet} (ho : PE X o to) (hi : PE X i ti) (hs : PSet X t)
    (ha : ∀ v, assign (.Subscript o i pos) X.env v = (do
      let ov ← holding [v] (eval o X.env)
      let iv ← holding [v, ov] (eval i X.env)
      standAt pos
      holding [v, ov, iv] (setItem ov iv v)
      release [v, ov, iv] []) := by intro _; rfl) : PG X (.Subscript o i pos) (gSub to ti t) := by
  intro pins s σ H v u Q I r h
  rw [ha]
  refine wpAny_bind (wpAny_holding (thn (ho pins s σ H _ I h) fun ov s1 ⟨x, H1, I1, r1, q1⟩ => ?_))
  refine wpAny_bind (wpAny_holding (thn (hi pins s1 σ H1 _ I1 q1) fun iv s2 ⟨y, H2, I2, r2, q2⟩ => ?_))
  refine wpAny_bind (wpAny_standAt (wpAny_bind (wpAny_holding (thn (hs pins s2 σ H2 x y v ov iv u _ I2 r1 r2 r q2) fun _ s3 ⟨H3, I3, q3⟩ => ?_))))
  exact wpAny_release ⟨σ, H3, I3, q3⟩
def tAsg (te : TE) (g : TG) : TS := fun D σ H => te σ H fun x H1 => g x σ H1 D.nx
theorem ps_asg {tg e : Expr} {te : TE} {g : TG} (he : PE X e te) (hg : PG X tg g) (hs : swapsWithSole [tg] e pos.line X.env = pure false := by rfl) (hw : swappedStores [tg] e X.env = pure none := by rfl)
    (h1 : (assignEach [tg] X.env).map (·.2) = [assign tg X.env] := by rfl) : PS X (.Assign [tg] e pos) (tAsg te g) := by
  intro pins s σ H D I h
  refine wpAny_Assign_stores (thn (he pins s σ H _ I h) fun v s1 ⟨x, H1, I1, r1, q1⟩ => ?_) hs hw
  rw [h1]
  exact thn (hg pins s1 σ H1 x v _ I1 r1 q1) fun _ s2 q => q
theorem ps_set {i : Nat} {x : Str} {e : Expr} {te : TE} {pos' : Pos} (hN : X.N.Nodup) (hi : X.N[i]? = some x) (hx : Loc X.env.scope x) (he : PE X e te) (hs : swapsWith e (some (.Name x pos')) pos.line X.env = pure false := by rfl) (hf : X.fn x = true ∨ X.env.scope.names.lookup x = some .local := by first | exact .inl rfl | exact .inr rfl | assumption) :
    PS X (.Assign [.Name x pos'] e pos) (tAsg te (gName i)) := by
  intro pins s σ H D I h
  refine wpAny_Assign_Name (thn (he pins s σ H _ I h) fun v s1 ⟨y, H1, I1, r1, q1⟩ => ?_) hs
  exact store_ok I1 hN hi hx r1 (fun s2 I2 => ⟨_, H1, I2, q1⟩) hf
end
section
variable {X : Cx} {pos : Pos}
end
structure It where
  go : Nat → Hp → Prop
  yld : Nat → Hp → V → Hp → Prop
  stop : Nat → Hp → Prop
def FpOk (X : Cx) (pins : List (Addr × Obj)) (H : Hp) (b : Addr) : Prop :=
  H b = none ∧ b ≠ X.env.locals ∧ b ∉ X.fs ∧ (b ∈ X.ex ∨ X.s₀.heap.objs.size ≤ b) ∧ (∀ x c, X.env.cells.lookup x = some c → c ≠ b) ∧ ∀ p ∈ X.pn ++ pins, p.1 ≠ b
theorem Inv.fpOk {X : Cx} {pins : List (Addr × Obj)} {σ : St} {H H' : Hp} {s : Shared} {b : Addr} (I : Inv X pins σ H s) (hb : s.heap.objs.size ≤ b) (hn : H' b = none) : FpOk X pins H' b := by
  refine ⟨hn, Nat.ne_of_gt (Nat.lt_of_lt_of_le I.lt hb), I.nofs hb, .inr (Nat.le_trans I.sz hb), fun x c e z => ?_, fun p hp z => ?_⟩
  · obtain ⟨v, q⟩ := I.cell x c e
    exact absurd (Nat.lt_of_lt_of_le q.lt (by rw [z]; exact hb)) (Nat.lt_irrefl _)
  · exact absurd (Nat.lt_of_lt_of_le (Heap.lt_size (I.pin p hp).1) (by rw [z]; exact hb)) (Nat.lt_irrefl _)
structure Turn (P : Program) (w : World) (K : PySem.W.Frag) (tg : Expr) (J : It) (fp : List Addr) (it : Addr) (tn : Nat → Heap → Prop) : Prop where
  mem : it ∈ fp
  obj : ∀ i h, tn i h → ∀ b ∈ fp, ∃ o, h.get? b = some o ∧ ∀ v, o.data ≠ .cell v
  keep : ∀ i h h', tn i h → (∀ b ∈ fp, ∀ o, h.get? b = some o → h'.get? b = some o) → tn i h'
  item : ∀ (X : Cx), X.prog = P → X.w = w → X.K = K → X.calm = true → ∀ (i : Nat) (pins : List (Addr × Obj)) (s : Shared) (σ : St) (H : Hp) (E : Value → Shared → Prop), Inv X pins σ H s → (∀ b ∈ fp, FpOk X pins H b) → tn i s.heap → J.go i H →
    wpAny (model P w) X.A (pyNext (.ref it)) (fun r s1 => ∃ u, r = some u ∧
      wpAny (model P w) X.A (letOwnedTupleGo tg (.ref it) u) (fun _ s2 => ∃ x H', Inv X pins σ H' s2 ∧ RelV x u ∧ J.yld i H x H' ∧ tn (i + 1) s2.heap ∧ ∀ b ∈ fp, H' b = none) E s1) E s
  done : ∀ (X : Cx), X.prog = P → X.w = w → X.K = K → X.calm = true → ∀ (i : Nat) (pins : List (Addr × Obj)) (s : Shared) (σ : St) (H : Hp) (E : Value → Shared → Prop), Inv X pins σ H s → (∀ b ∈ fp, FpOk X pins H b) → tn i s.heap → J.stop i H →
    wpAny (model P w) X.A (pyNext (.ref it)) (fun r s1 => r = none ∧ Inv X pins σ H s1) E s
  self : ∀ (A : Around) (i : Nat) (s : Shared) (Q : Value → Shared → Prop) (E : Value → Shared → Prop), tn i s.heap → Q (.ref it) s → wpAny (model P w) A (pyIter (.ref it)) Q E s
abbrev TI := St → Hp → (It → Hp → Prop) → Prop
def PIE (X : Cx) (pins : List (Addr × Obj)) (σ : St) (tg : Expr) (R : It → Hp → Prop) (itv : Value) (s2 : Shared) : Prop :=
  ∃ (it : Addr) (fp : List Addr) (tn : Nat → Heap → Prop) (J : It) (H' : Hp), itv = .ref it ∧ Inv X pins σ H' s2 ∧ Turn X.prog X.w X.K tg J fp it tn ∧ tn 0 s2.heap ∧ (∀ b ∈ fp, FpOk X pins H' b) ∧ R J H'
def PI (X : Cx) (tg iter : Expr) (wi : TI) : Prop :=
  ∀ (pins : List (Addr × Obj)) (s : Shared) (σ : St) (H : Hp) (R : It → Hp → Prop), Inv X pins σ H s → wi σ H R →
    wpAny (model X.prog X.w) X.A (eval iter X.env) (fun v s1 => wpAny (model X.prog X.w) X.A (pyIter v) (PIE X pins σ tg R) X.xe s1) X.xe s
theorem go_of {M : Model} {A : Around} {E : Value → Shared → Prop} {s : Shared} {tg : Expr} {it : Addr} {u : Value} {o : Obj} {n : String} {vs : Array Value} {Q : Unit → Shared → Prop} (ho : s.heap.get? it = some o) (hc : o.cls = .type n) (hd : o.data = .fields vs)
    (hn : ["enumerate", "zip", "dict_itemiterator", "dict_reverseitemiterator", "odict_iterator", "itertools.zip_longest", "itertools.pairwise"].contains n = false) (hQ : Q () s) : wpAny M A (letOwnedTupleGo tg (.ref it) u) Q E s := by
  unfold letOwnedTupleGo
  cases tg <;> first
    | exact wpAny_pure hQ
    | (cases u <;> first
        | exact wpAny_pure hQ
        | (refine wpAny_bind (wpAny_load ho ?_)
           rw [hc, hd]
           show wpAny M A (if (["enumerate", "zip", "dict_itemiterator", "dict_reverseitemiterator", "odict_iterator", "itertools.zip_longest", "itertools.pairwise"].contains n && vs[0]? == some (rawInt _)) = true then _ else _) Q E s
           rw [if_neg (by intro h; rw [hn, Bool.false_and] at h; cases h)]
           exact wpAny_pure hQ))
def Itl (K : PySem.W.Frag) (a : Addr) : It :=
  ⟨fun i H => ∃ xs x, SqL K H a xs ∧ xs[i]? = some x, fun i H x H' => H' = H ∧ ∀ xs, SqL K H a xs → xs[i]? = some x, fun i H => ∃ xs, SqL K H a xs ∧ xs.length ≤ i⟩
def Itt (K : PySem.W.Frag) (a : Addr) : It :=
  ⟨fun i H => ∃ xs x, SqT K H a xs ∧ xs[i]? = some x, fun i H x H' => H' = H ∧ ∀ xs, SqT K H a xs → xs[i]? = some x, fun i H => ∃ xs, SqT K H a xs ∧ xs.length ≤ i⟩
def Itr (lo : Int) (n : Nat) : It := ⟨fun i _ => i < n, fun i H x H' => H' = H ∧ x = .int (lo + i), fun i _ => n ≤ i⟩
theorem turn_list {P : Program} {w : World} {K : PySem.W.Frag} {tg : Expr} (a it : Addr) : Turn P w K tg (Itl K a) [it] it (fun i h => h.IsListIter it a i) where
  mem := by simp
  obj := fun i h st b hb => by
    have e : b = it := by simpa using hb
    subst e
    obtain ⟨o, e, c, d⟩ := st
    exact ⟨o, e, fun v z => by rw [d] at z; cases z⟩
  keep := fun i h h' st k => st.at fun o e => k it (by simp) o e
  item := by
    intro X hP hw hK hc i pins s σ H E I hf st hg
    subst hP hw hK
    obtain ⟨xs, x, hq, hx⟩ := hg
    obtain ⟨its, rv, p, hz⟩ := I.list hq
    obtain ⟨u, hu, ru⟩ := rv.get hx
    obtain ⟨f0, f1, f2, f3, f4, f5⟩ := hf it (by simp)
    refine wpAny_pyNext_list_item st p.isList (x := u) (by simpa using hu) fun h' st' sb => ?_
    have I1 : Inv X pins σ H { s with heap := h' } := I.turned (t' := s.toks) (fun b o hb e => (sb.2 b hb).trans e) f0 f1 f3 f4 f5
    obtain ⟨o, e, c, d⟩ := id st'
    exact ⟨u, rfl, go_of (s := { s with heap := h' }) e c d (by decide) ⟨x, H, I1, ru, ⟨rfl, fun ys hy => by rw [I.list_inj hy hq]; exact hx⟩, st', fun b hb => (hf b hb).1⟩⟩
  done := by
    intro X hP hw hK hc i pins s σ H E I hf st hg
    subst hP hw hK
    obtain ⟨xs, hq, hx⟩ := hg
    obtain ⟨its, rv, p, hz⟩ := I.list hq
    obtain ⟨f0, f1, f2, f3, f4, f5⟩ := hf it (by simp)
    have hl := rv.length
    exact wpAny_pyNext_list_end (I.ok.hd hc) st p.isList (by simp; omega) fun h' eb => ⟨rfl, I.turned (t' := s.toks) (fun b o hb e => eb b o hb e) f0 f1 f3 f4 f5⟩
  self := fun _ _ _ _ _ st h => wpAny_pyIter_listiter st h
theorem turn_tuple {P : Program} {w : World} {K : PySem.W.Frag} {tg : Expr} (a it : Addr) : Turn P w K tg (Itt K a) [it] it (fun i h => h.IsTupleIter it a i) where
  mem := by simp
  obj := fun i h st b hb => by
    have e : b = it := by simpa using hb
    subst e
    obtain ⟨o, e, c, d⟩ := st
    exact ⟨o, e, fun v z => by rw [d] at z; cases z⟩
  keep := fun i h h' st k => st.at fun o e => k it (by simp) o e
  item := by
    intro X hP hw hK hc i pins s σ H E I hf st hg
    subst hP hw hK
    obtain ⟨xs, x, hq, hx⟩ := hg
    obtain ⟨its, rv, p, hz⟩ := I.tuple hq
    obtain ⟨u, hu, ru⟩ := rv.get hx
    obtain ⟨f0, f1, f2, f3, f4, f5⟩ := hf it (by simp)
    refine wpAny_pyNext_tuple_item st (show s.heap.IsTuple a its.toArray from p) (x := u) (by simpa using hu) fun h' st' sb => ?_
    have I1 : Inv X pins σ H { s with heap := h' } := I.turned (t' := s.toks) (fun b o hb e => (sb.2 b hb).trans e) f0 f1 f3 f4 f5
    obtain ⟨o, e, c, d⟩ := id st'
    exact ⟨u, rfl, go_of (s := { s with heap := h' }) e c d (by decide) ⟨x, H, I1, ru, ⟨rfl, fun ys hy => by rw [I.tuple_inj hy hq]; exact hx⟩, st', fun b hb => (hf b hb).1⟩⟩
  done := by
    intro X hP hw hK hc i pins s σ H E I hf st hg
    subst hP hw hK
    obtain ⟨xs, hq, hx⟩ := hg
    obtain ⟨its, rv, p, hz⟩ := I.tuple hq
    obtain ⟨f0, f1, f2, f3, f4, f5⟩ := hf it (by simp)
    have hl := rv.length
    exact wpAny_pyNext_tuple_end (I.ok.hd hc) st (show s.heap.IsTuple a its.toArray from p) (by simp; omega) fun h' eb => ⟨rfl, I.turned (t' := s.toks) (fun b o hb e => eb b o hb e) f0 f1 f3 f4 f5⟩
  self := fun _ _ _ _ _ st h => wpAny_pyIter_tupleiter st h
theorem turn_range {P : Program} {w : World} {K : PySem.W.Frag} {tg : Expr} (it : Addr) (lo : Int) (n : Nat) : Turn P w K tg (Itr lo n) [it] it (fun i h => IsRangeIter h it (lo + (i : Nat) * 1) ((n : Int) - (i : Nat)) 1) where
  mem := by simp
  obj := fun i h st b hb => by
    have e : b = it := by simpa using hb
    subst e
    exact ⟨_, st, fun v z => by
      have z' : Data.fields _ = Data.cell v := z
      cases z'⟩
  keep := fun i h h' st k => k it (by simp) _ st
  item := by
    intro X hP hw hK hc i pins s σ H E I hf st hg
    subst hP hw hK
    obtain ⟨f0, f1, f2, f3, f4, f5⟩ := hf it (by simp)
    have W := Walks.range (prog := X.prog) (w := X.w) (I.ok.hd hc) it lo 1 n
    refine W.item i s _ _ hg st fun v h' tk hv st' kk => ?_
    obtain ⟨t, rfl⟩ := hv
    have I1 : Inv X pins σ H { s with heap := h', toks := tk } := I.turned (fun b o hb e => kk b o (by simpa using hb) e) f0 f1 f3 f4 f5
    refine ⟨_, rfl, go_of (s := { s with heap := h', toks := tk }) (n := "range_iterator") st' rfl rfl (by decide) ⟨.int (lo + i), H, I1, ⟨t, ?_⟩, ⟨rfl, rfl⟩, st', fun b hb => (hf b hb).1⟩⟩
    rw [Int.mul_one]
  done := by
    intro X hP hw hK hc i pins s σ H E I hf st hg
    subst hP hw hK
    obtain ⟨f0, f1, f2, f3, f4, f5⟩ := hf it (by simp)
    exact wpAny_pyNext_range_end (I.ok.hd hc) st (by have : n ≤ i := hg; omega) fun h' eb => ⟨rfl, I.turned (t' := s.toks) (fun b o hb e => eb b o hb e) f0 f1 f3 f4 f5⟩
  self := fun _ _ _ _ _ st h => wpAny_pyIter_rangeiter st h
end L2
namespace L2
open PySem PySem.Spec PyProof.Rows
section
variable {X : Cx} {tg : Expr}
def iList (K : PySem.W.Frag) (tl : TE) : TI := fun σ H R => tl σ H fun x H1 => ∃ a, x = .ref a ∧ (∃ xs, SqL K H1 a xs) ∧ R (Itl K a) H1
def iTup (K : PySem.W.Frag) (tl : TE) : TI := fun σ H R => tl σ H fun x H1 => ∃ a, x = .ref a ∧ (∃ xs, SqT K H1 a xs) ∧ R (Itt K a) H1
theorem pi_list {l : Expr} {tl : TE} (hl : PE X l tl) : PI X tg l (iList X.K tl) := by
  intro pins s σ H R I h
  refine thn (hl pins s σ H _ I h) fun v s1 ⟨x, H1, I1, r1, q1⟩ => ?_
  obtain ⟨a, e, ⟨xs, hq⟩, q⟩ := q1
  subst e
  cases r1
  obtain ⟨its, rv, p, hz⟩ := I1.list hq
  refine wpAny_pyIter_list p.isList ?_
  refine ⟨s1.heap.objs.size, [s1.heap.objs.size], _, _, H1, rfl, I1.kept (t' := s1.toks) fun b o e => Heap.get?_push_of_some _ e, turn_list a _, ⟨_, Heap.get?_push_size _ rfl, rfl, rfl⟩, fun b hb => ?_, q⟩
  have e : b = s1.heap.objs.size := by simpa using hb
  subst e
  exact I1.fpOk (Nat.le_refl _) (I1.hok.fresh (Nat.le_refl _))
theorem pi_tup {l : Expr} {tl : TE} (hl : PE X l tl) : PI X tg l (iTup X.K tl) := by
  intro pins s σ H R I h
  refine thn (hl pins s σ H _ I h) fun v s1 ⟨x, H1, I1, r1, q1⟩ => ?_
  obtain ⟨a, e, ⟨xs, hq⟩, q⟩ := q1
  subst e
  cases r1
  obtain ⟨its, rv, p, hz⟩ := I1.tuple hq
  refine wpAny_pyIter_tuple (show s1.heap.IsTuple a its.toArray from p) ?_
  refine ⟨s1.heap.objs.size, [s1.heap.objs.size], _, _, H1, rfl, I1.kept (t' := s1.toks) fun b o e => Heap.get?_push_of_some _ e, turn_tuple a _, ⟨_, Heap.get?_push_size _ rfl, rfl, rfl⟩, fun b hb => ?_, q⟩
  have e : b = s1.heap.objs.size := by simpa using hb
  subst e
  exact I1.fpOk (Nat.le_refl _) (I1.hok.fresh (Nat.le_refl _))
theorem range_it {pins : List (Addr × Obj)} {σ : St} {H : Hp} {s : Shared} {R : It → Hp → Prop} {E : Value → Shared → Prop} {lo hi : Int} {t u v : Tok} {tk : Nat} (I : Inv X pins σ H s) (h1 : -(2 ^ 62) ≤ lo) (h2 : lo < 2 ^ 62) (h3 : -(2 ^ 62) ≤ hi) (h4 : hi < 2 ^ 62)
    (q : R (Itr lo (hi - lo).toNat) H) : wpAny (model X.prog X.w) X.A (pyIter (.ref s.heap.objs.size)) (PIE X pins σ tg R) E { s with heap := s.heap.push { cls := .type "range", data := .fields #[.int lo t, .int hi u, .int 1 v] }, toks := tk } := by
  refine wpAny_pyIter_range (IsRange.new ..) (small_one h1 h2 h3 h4) ?_
  have I1 : Inv X pins σ H { s with heap := s.heap.push { cls := .type "range", data := .fields #[.int lo t, .int hi u, .int 1 v] }, toks := tk } := I.kept fun b o e => Heap.get?_push_of_some _ e
  refine ⟨(s.heap.push { cls := .type "range", data := .fields #[.int lo t, .int hi u, .int 1 v] }).objs.size, [(s.heap.push { cls := .type "range", data := .fields #[.int lo t, .int hi u, .int 1 v] }).objs.size], _, _, H, rfl,
    I1.kept (t' := tk) fun b o e => Heap.get?_push_of_some _ e, turn_range _ lo (hi - lo).toNat, ?_, fun b hb => ?_, q⟩
  · have e1 : lo + ((0 : Nat) : Int) * 1 = lo := by simp
    have e2 : (((hi - lo).toNat : Nat) : Int) - ((0 : Nat) : Int) = Builtin.Range.rangeSize lo hi 1 := by rw [rangeSize_one]; split <;> omega
    show IsRangeIter _ _ (lo + ((0 : Nat) : Int) * 1) ((((hi - lo).toNat : Nat) : Int) - ((0 : Nat) : Int)) 1
    rw [e1, e2]
    exact Heap.get?_push_size _ rfl
  · have e : b = (s.heap.push { cls := .type "range", data := .fields #[.int lo t, .int hi u, .int 1 v] }).objs.size := by simpa using hb
    subst e
    exact I1.fpOk (Nat.le_refl _) (I1.hok.fresh (Nat.le_refl _))
def iRng1 (ta : TA) : TI := fun σ H R => ta σ H fun vs H1 => ∃ j : Int, vs = [.int j] ∧ -(2 ^ 62) ≤ j ∧ j < 2 ^ 62 ∧ R (Itr 0 j.toNat) H1
theorem pi_range1 {a : Expr} {ta : TA} {p pos : Pos} (hg : Gl X "range") (hm : X.mg "range" = none) (ha : PA X [a] ta) (hs : starEach [a] X.env = [(false, eval a X.env)] := by rfl) : PI X tg (.Call (.Name "range" p) [a] [] pos) (iRng1 ta) := by
  intro pins s σ H R I h
  refine Call_ (ld_blt I hg hm boot_range (PyProof.Rows.callWith_type1 (thn (ha pos pins s σ H _ I h) fun us s1 ⟨vs, H1, I1, r1, q1⟩ => ?_) hs rfl))
  obtain ⟨j, e, q1, q2, q⟩ := q1
  subst e
  cases r1 with
  | cons r rr =>
    cases rr
    obtain ⟨t, rfl⟩ := r
    exact call_range_1 (range_it I1 (by omega) (by omega) q1 q2 (by simpa using q))
def tFor (wi : TI) (g : TG) (tb : TS) : TS := fun D σ H => wi σ H fun J H1 => ∃ W : Nat → Nat → St → Hp → Prop, (∃ m, W 0 m σ H1) ∧ ∀ i m σ H, W i m σ H →
  (J.stop i H ∧ D.nx σ H) ∨ (J.go i H ∧ ∃ N : St → Hp → Prop, (∀ σ' H', N σ' H' → ∃ m', m' < m ∧ W (i + 1) m' σ' H') ∧ ∀ x H', J.yld i H x H' → g x σ H' fun σ2 H2 => tb { D with nx := N, ct := N, bk := D.nx } σ2 H2)
def pinsAt (fp : List Addr) (h : Heap) : List (Addr × Obj) := fp.filterMap fun b => (h.get? b).map fun o => (b, o)
theorem mem_pinsAt {fp : List Addr} {h : Heap} {b : Addr} {o : Obj} (hb : b ∈ fp) (e : h.get? b = some o) : (b, o) ∈ pinsAt fp h := List.mem_filterMap.mpr ⟨b, hb, by rw [e]; rfl⟩
theorem of_pinsAt {fp : List Addr} {h : Heap} {p : Addr × Obj} (hp : p ∈ pinsAt fp h) : p.1 ∈ fp ∧ h.get? p.1 = some p.2 := by
  obtain ⟨b, hb, e⟩ := List.mem_filterMap.mp hp
  cases q : h.get? b with
  | none => rw [q] at e; cases e
  | some o =>
    rw [q] at e
    have e' : (b, o) = p := Option.some.inj e
    subst e'
    exact ⟨hb, q⟩
theorem Inv.pinned {pins : List (Addr × Obj)} {σ : St} {H : Hp} {s : Shared} {fp : List Addr} (I : Inv X pins σ H s) (hf : ∀ b ∈ fp, FpOk X pins H b) (ho : ∀ b ∈ fp, ∃ o, s.heap.get? b = some o ∧ ∀ v, o.data ≠ .cell v) : Inv X (pins ++ pinsAt fp s.heap) σ H s :=
  I.pins_of fun p hp => (List.mem_append.mp hp).elim (fun z => I.pin p (List.mem_append_right _ z)) fun z => by
    obtain ⟨hb, e⟩ := of_pinsAt z
    obtain ⟨f0, f1, f2, _⟩ := hf p.1 hb
    obtain ⟨o, e', d⟩ := ho p.1 hb
    rw [e] at e'; cases e'
    exact ⟨e, f0, f1, f2, d⟩
theorem Inv.unpinned {pins pl : List (Addr × Obj)} {σ : St} {H : Hp} {s : Shared} (I : Inv X (pins ++ pl) σ H s) : Inv X pins σ H s := I.pins_of fun p hp => I.pin p (List.mem_append_right _ (List.mem_append_left _ hp))
theorem ps_for {iter : Expr} {body : List Stmt} {wi : TI} {g : TG} {tb : TS} {pos : Pos} (hp : PassesOwn (model X.prog X.w) X.A X.env X.xe) (hc : X.calm = true) (hi : PI X tg iter wi) (hg : PG X tg g) (hb : PSs X body tb)
    (hs : ∀ x, foldedSetIterable iter X.env x = pure x := by intro _; rfl) : PS X (.For tg iter body [] pos) (tFor wi g tb) := by
  intro pins s σ H D I h
  refine wpAny_For (thn (hi pins s σ H _ I h) fun v s1 h1 => thn h1 fun itv s2 h2 => ?_) hs
  obtain ⟨it, fp, tn, J, H2, e, I2, T, st2, f2, W, ⟨m0, w0⟩, turn⟩ := h2
  subst e
  have stat : ∀ {H' : Hp}, (∀ b ∈ fp, H' b = none) → ∀ b ∈ fp, FpOk X pins H' b := fun hn b hb => ⟨hn b hb, (f2 b hb).2⟩
  refine codeAny_forLoop_any (fun n s' => ∃ i σ' H', Inv X pins σ' H' s' ∧ tn i s'.heap ∧ (∀ b ∈ fp, H' b = none) ∧ W i n σ' H') ?_ m0 ⟨0, σ, H2, I2, st2, fun b hb => (f2 b hb).1, w0⟩
  rintro n s3 ⟨i, σ3, H3, I3, st3, fr3, w3⟩
  rcases turn i n σ3 H3 w3 with ⟨stop, qn⟩ | ⟨go, N, hN, step⟩
  · refine wpAny_passesOwn hp (thn (T.done X rfl rfl rfl hc i pins s3 σ3 H3 X.xe I3 (stat fr3) st3 stop) fun r s4 ⟨hr, I4⟩ => ?_)
    subst hr
    exact wpAny_execs_nil ⟨σ3, H3, I4, qn⟩
  · refine wpAny_passesOwn hp (thn (T.item X rfl rfl rfl hc i pins s3 σ3 H3 X.xe I3 (stat fr3) st3 go) fun r s4 ⟨u, hr, h4⟩ => ?_)
    subst hr
    refine wpAny_passesOwn hp (thn h4 fun _ s5 ⟨x, H5, I5, r5, y5, st5, fr5⟩ => ?_)
    have I5' := I5.pinned (stat fr5) (T.obj _ _ st5)
    refine wpAny_passesOwn hp (thn (hg _ s5 σ3 H5 x u _ I5' r5 (step x H5 y5)) fun _ s6 ⟨σ6, H6, I6, q6⟩ => ?_)
    refine wpAny_passesOwn hp (thn (hb _ s6 σ6 H6 _ I6 q6) fun f s7 q7 => ?_)
    have again : ∀ {σ7 : St} {H7 : Hp}, Inv X (pins ++ pinsAt fp s5.heap) σ7 H7 s7 → N σ7 H7 → ∃ m, m < n ∧ ∃ i σ' H', Inv X pins σ' H' s7 ∧ tn i s7.heap ∧ (∀ b ∈ fp, H' b = none) ∧ W i m σ' H' := fun {σ7 H7} I7 n7 => by
      obtain ⟨m', hm, w7⟩ := hN σ7 H7 n7
      refine ⟨m', hm, i + 1, σ7, H7, I7.unpinned, T.keep _ _ _ st5 fun b hb o e => (I7.pin (b, o) (List.mem_append_right _ (List.mem_append_right _ (mem_pinsAt hb e)))).1, fun b hb => ?_, w7⟩
      obtain ⟨o, e, d⟩ := T.obj _ _ st5 b hb
      exact (I7.pin (b, o) (List.mem_append_right _ (List.mem_append_right _ (mem_pinsAt hb e)))).2.1
    cases f with
    | next => obtain ⟨σ7, H7, I7, n7⟩ := q7; exact again I7 n7
    | cont => obtain ⟨σ7, H7, I7, n7⟩ := q7; exact again I7 n7
    | brk => obtain ⟨σ7, H7, I7, q7⟩ := q7; exact ⟨σ7, H7, I7.unpinned, q7⟩
    | ret v => obtain ⟨x7, σ7, H7, I7, r7, q7⟩ := q7; exact ⟨x7, σ7, H7, I7.unpinned, r7, q7⟩
end
end L2
namespace L2
open PySem PySem.Spec PyProof.Rows
abbrev R2 := V → V → Hp → VK → Prop
def OpR (X : Cx) (f : Value → Value → Sem Value) (r : R2) : Prop :=
  ∀ (pins : List (Addr × Obj)) (s : Shared) (σ : St) (H : Hp) (x y : V) (v u : Value) (Q : VK), Inv X pins σ H s → RelV x v → RelV y u → r x y H Q →
    wpAny (model X.prog X.w) X.A (f v u) (EP X pins σ Q) X.xe s
def CallR (X : Cx) (f : Value) (r : List V → Hp → VK → Prop) : Prop :=
  ∀ (pins : List (Addr × Obj)) (s : Shared) (σ : St) (H : Hp) (xs : List V) (us : List Value) (Q : VK), Inv X pins σ H s → Vals xs us → r xs H Q →
    wpAny (model X.prog X.w) X.A (call f us) (EP X pins σ Q) X.xe s
def tOp (r : R2) (ta tb : TE) : TE := fun σ H Q => ta σ H fun x H1 => tb σ H1 fun y H2 => r x y H2 Q
def rI (C : Int → Int → Prop) (g : Int → Int → V) : R2 := fun x y H Q => ∃ i j, x = .int i ∧ y = .int j ∧ C i j ∧ Q (g i j) H
def rI0 (g : Int → Int → V) : R2 := fun x y H Q => ∃ i j, x = .int i ∧ y = .int j ∧ Q (g i j) H
section
variable {X : Cx} {a b c : Expr} {ta tb tc : TE} {pos : Pos}
theorem binT (ha : PE X a ta) (hb : PE X b tb) {pins : List (Addr × Obj)} {s : Shared} {σ : St} {H : Hp} {R : V → V → Hp → Prop} (I : Inv X pins σ H s)
    (h : ta σ H fun x H1 => tb σ H1 fun y H2 => R x y H2) {Q : Value → Shared → Prop} {f : Value → Value → Sem Value}
    (hf : ∀ v u s2 x y H2, Inv X pins σ H2 s2 → RelV x v → RelV y u → R x y H2 → wpAny (model X.prog X.w) X.A (f v u) Q X.xe s2) :
    wpAny (model X.prog X.w) X.A (eval a X.env) (fun v s₁ => wpAny (model X.prog X.w) X.A (eval b X.env) (fun u s₂ => wpAny (model X.prog X.w) X.A (f v u) Q X.xe s₂) X.xe s₁) X.xe s := by
  refine thn (ha pins s σ H _ I h) fun v s1 ⟨x, H1, I1, r1, q1⟩ => ?_
  refine thn (hb pins s1 σ H1 _ I1 q1) fun u s2 ⟨y, H2, I2, r2, q2⟩ => ?_
  exact hf v u s2 x y H2 I2 r1 r2 q2
theorem pe_op {op : Operator} {r : R2} (ho : OpR X (binaryOp op) r) (ha : PE X a ta) (hb : PE X b tb) : PE X (.BinOp a op b pos) (tOp r ta tb) := by
  intro pins s σ H Q I h
  exact wpAny_BinOp (binT ha hb I h fun v u s2 x y H2 I2 rx ry q => ho pins s2 σ H2 x y v u Q I2 rx ry q)
theorem opI {f : Value → Value → Sem Value} {C : Int → Int → Prop} {g : Int → Int → Int}
    (rule : ∀ (i j : Int) (t u : Tok) (s : Shared) (Q : Value → Shared → Prop) (E : Value → Shared → Prop), C i j → Q (.int (g i j) s.toks) { s with toks := s.toks + 1 } → wpAny (model X.prog X.w) X.A (f (.int i t) (.int j u)) Q E s) :
    OpR X f (rI C fun i j => .int (g i j)) := by
  intro pins s σ H x y v u Q I rx ry h
  obtain ⟨i, j, rfl, rfl, hc, q⟩ := h
  obtain ⟨t, rfl⟩ := rx
  obtain ⟨t', rfl⟩ := ry
  exact rule i j t t' s _ _ hc ⟨.int (g i j), H, I.tok _, ⟨_, rfl⟩, q⟩
theorem opI0 {f : Value → Value → Sem Value} {g : Int → Int → Int}
    (rule : ∀ (i j : Int) (t u : Tok) (s : Shared) (Q : Value → Shared → Prop) (E : Value → Shared → Prop), Q (.int (g i j) s.toks) { s with toks := s.toks + 1 } → wpAny (model X.prog X.w) X.A (f (.int i t) (.int j u)) Q E s) :
    OpR X f (rI0 fun i j => .int (g i j)) := by
  intro pins s σ H x y v u Q I rx ry h
  obtain ⟨i, j, rfl, rfl, q⟩ := h
  obtain ⟨t, rfl⟩ := rx
  obtain ⟨t', rfl⟩ := ry
  exact rule i j t t' s _ _ ⟨.int (g i j), H, I.tok _, ⟨_, rfl⟩, q⟩
theorem opB0 {f : Value → Value → Sem Value} {g : Int → Int → Bool}
    (rule : ∀ (i j : Int) (t u : Tok) (s : Shared) (Q : Value → Shared → Prop) (E : Value → Shared → Prop), Q (.bool (g i j)) s → wpAny (model X.prog X.w) X.A (f (.int i t) (.int j u)) Q E s) :
    OpR X f (rI0 fun i j => .bl (g i j)) := by
  intro pins s σ H x y v u Q I rx ry h
  obtain ⟨i, j, rfl, rfl, q⟩ := h
  obtain ⟨t, rfl⟩ := rx
  obtain ⟨t', rfl⟩ := ry
  exact rule i j t t' s _ _ ⟨.bl (g i j), H, I, rfl, q⟩
def CPow (i j : Int) : Prop := 0 ≤ j ∧ j ≤ 1000000 ∧ i.natAbs < 2 ^ 64
def CMul (i j : Int) : Prop := (-(2 ^ 64) < i ∧ i < 2 ^ 64) ∨ (-(2 ^ 64) < j ∧ j < 2 ^ 64)
theorem CMul.ok {i j : Int} (h : CMul i j) : IntMulOk i j := by
  rcases h with ⟨h1, h2⟩ | ⟨h1, h2⟩
  · exact .of_left (intBits_le_64 h1 h2)
  · exact .of_right (intBits_le_64 h1 h2)
theorem op_add : OpR X (binaryOp .Add) (rI0 fun i j => .int (i + j)) := opI0 fun _ _ _ _ _ _ _ q => add_int q
theorem op_sub : OpR X (binaryOp .Sub) (rI0 fun i j => .int (i - j)) := opI0 fun _ _ _ _ _ _ _ q => sub_int q
theorem op_mul : OpR X (binaryOp .Mult) (rI CMul fun i j => .int (i * j)) := opI fun _ _ _ _ _ _ _ hc q => mul_int q hc.ok
theorem op_mod : OpR X (binaryOp .Mod) (rI (fun _ j => 0 < j) fun i j => .int (i % j)) := opI fun i j _ _ _ _ _ hc q => by
  have h1 : (0 : Int) < j := hc
  exact mod_int' (by omega) (by rw [Int.fmod_eq_emod_of_nonneg i (by omega)]; exact q)
theorem op_pow : OpR X (binaryOp .Pow) (rI CPow fun i j => .int (i ^ j.toNat)) := opI fun _ _ _ _ _ _ _ hc q => pow_int_small hc.1 hc.2.1 hc.2.2 q
end
section
variable {X : Cx} {a b c : Expr} {ta tb tc : TE} {pos : Pos}
theorem fin_bl {pins : List (Addr × Obj)} {σ : St} {H : Hp} {s : Shared} {Q : VK} {k k' : Bool} (I : Inv X pins σ H s) (q : Q (.bl k) H) (e : k = k') : EP X pins σ Q (.bool k') s := by
  subst e
  exact ⟨.bl k, H, I, rfl, q⟩
theorem op_lt : OpR X (compareOp .Lt) (rI0 fun i j => .bl (decide (i < j))) := opB0 fun _ _ _ _ _ _ _ q => lt_int q
theorem op_le : OpR X (compareOp .LtE) (rI0 fun i j => .bl (decide (i ≤ j))) := opB0 fun _ _ _ _ _ _ _ q => le_int q
theorem op_gt : OpR X (compareOp .Gt) (rI0 fun i j => .bl (decide (j < i))) := opB0 fun _ _ _ _ _ _ _ q => gt_int q
theorem op_in_str : OpR X (compareOp .In) (fun x y H Q => ∃ i j, x = .str i ∧ y = .str j ∧ Q (.bl (!(Builtin.Str.occurrences j i 0 j.length 1).isEmpty)) H) := by
  intro pins s σ H x y v u Q I rx ry h
  obtain ⟨i, j, rfl, rfl, q⟩ := h
  obtain ⟨t, rfl⟩ := rx
  obtain ⟨t', rfl⟩ := ry
  exact in_str (fin_bl I q rfl)
theorem op_isN : OpR X (compareOp .Is) (fun x y H Q => y = .non ∧ Q (.bl (decide (x = .non))) H) := by
  intro pins s σ H x y v u Q I rx ry h
  obtain ⟨rfl, q⟩ := h
  cases ry
  refine is_none_gen (fin_bl I q ?_)
  cases x <;> first
    | (cases rx; rfl)
    | (obtain ⟨t, rfl⟩ := rx; rfl)
theorem op_notN : OpR X (compareOp .IsNot) (fun x y H Q => y = .non ∧ Q (.bl (!decide (x = .non))) H) := by
  intro pins s σ H x y v u Q I rx ry h
  obtain ⟨rfl, q⟩ := h
  cases ry
  refine isnot_none_gen (fin_bl I q ?_)
  cases x <;> first
    | (cases rx; rfl)
    | (obtain ⟨t, rfl⟩ := rx; rfl)
theorem OpR.or {f : Value → Value → Sem Value} {r r' : R2} (h : OpR X f r) (h' : OpR X f r') : OpR X f (fun x y H Q => r x y H Q ∨ r' x y H Q) := by
  intro pins s σ H x y v u Q I rx ry q
  rcases q with q | q
  · exact h pins s σ H x y v u Q I rx ry q
  · exact h' pins s σ H x y v u Q I rx ry q
theorem nomark (b : Expr) {op : CmpOp} (h : op ≠ .In := by decide) (h2 : op ≠ .NotIn := by decide) : behindInMarks op b = false := by
  have e1 : (op == CmpOp.In) = false := by cases op <;> first | rfl | exact absurd rfl h
  have e2 : (op == CmpOp.NotIn) = false := by cases op <;> first | rfl | exact absurd rfl h2
  cases b <;> simp [behindInMarks, e1, e2]
theorem pe_cmpR {op : CmpOp} {r : R2} (ho : OpR X (compareOp op) r) (ha : PE X a ta) (hb : PE X b tb) (hm : behindInMarks op b = false) : PE X (.Compare a [op] [b] pos) (tOp r ta tb) := by
  intro pins s σ H Q I h
  exact wpAny_Compare1 (binT ha hb I h fun v u s2 x y H2 I2 rx ry q => ho pins s2 σ H2 x y v u Q I2 rx ry q) hm
def tTest (t : TE) : TT := fun σ H Q => t σ H fun x H' => ∃ k, x = .bl k ∧ Q k H'
theorem pt_cmpR {op : CmpOp} {r : R2} (ho : OpR X (compareOp op) r) (ha : PE X a ta) (hb : PE X b tb) (hm : behindInMarks op b = false) : PT X (.Compare a [op] [b] pos) (tTest (tOp r ta tb)) := by
  intro pins s σ H Q I h
  refine wpAny_isTrue_Compare1 (thn (ha pins s σ H _ I h) fun v s1 ⟨x, H1, I1, r1, q1⟩ => thn (hb pins s1 σ H1 _ I1 q1) fun u s2 ⟨y, H2, I2, r2, q2⟩ =>
    thn (ho pins s2 σ H2 x y v u _ I2 r1 r2 q2) fun c s3 ⟨z, H3, I3, r3, k, e, q3⟩ => ?_) hm
  subst e
  cases r3
  exact wpAny_truthy_bool ⟨H3, I3, q3⟩
theorem line63 : (sizeLine : Nat) < 2 ^ 63 := by rw [sizeLine_eq]; decide
theorem op_add_str : OpR X (binaryOp .Add) (fun x y H Q => ∃ i j, x = .str i ∧ y = .str j ∧ i.length + j.length ≤ sizeLine ∧ Q (.str (i ++ j)) H) := by
  intro pins s σ H x y v u Q I rx ry h
  obtain ⟨i, j, rfl, rfl, hz, q⟩ := h
  obtain ⟨t, rfl⟩ := rx
  obtain ⟨t', rfl⟩ := ry
  exact add_str (fun t' tk => ⟨.str (i ++ j), H, I.tok _, ⟨_, rfl⟩, q⟩) hz
theorem vals1 {x : V} {us : List Value} (r : Vals [x] us) : ∃ u, us = [u] ∧ RelV x u := by
  cases r with
  | cons r1 r2 => cases r2; exact ⟨_, rfl, r1⟩
theorem vals2 {x y : V} {us : List Value} (r : Vals [x, y] us) : ∃ u w', us = [u, w'] ∧ RelV x u ∧ RelV y w' := by
  cases r with
  | cons r1 r2 =>
    cases r2 with
    | cons r3 r4 => cases r4; exact ⟨_, _, rfl, r1, r3⟩
theorem call_int1 : CallR X (.type "int") (fun xs H Q => (∃ i, xs = [.int i] ∧ Q (.int i) H) ∨ ∃ k, xs = [.bl k] ∧ Q (.int (if k then 1 else 0)) H) := by
  intro pins s σ H xs us Q I r h
  rcases h with ⟨i, rfl, q⟩ | ⟨k, rfl, q⟩
  · obtain ⟨u, rfl, t, rfl⟩ := vals1 r
    exact call_int_int ⟨.int i, H, I, ⟨_, rfl⟩, q⟩
  · obtain ⟨u, rfl, r1⟩ := vals1 r
    cases r1
    exact call_int_bool ⟨.int (if k then 1 else 0), H, I.tok _, ⟨_, rfl⟩, q⟩
def LenV (K : PySem.W.Frag) (x : V) (H : Hp) (n : Nat) : Prop :=
  match x with
  | .str y => y.length ≤ sizeLine ∧ n = y.length
  | .byt y => y.size ≤ sizeLine ∧ n = y.size
  | .ref p => (∃ xs, SqL K H p xs ∧ n = xs.length) ∨ ∃ xs, SqT K H p xs ∧ n = xs.length
  | _ => False
theorem call_len : CallR X (.builtin "len") (fun xs H Q => ∃ x n, xs = [x] ∧ LenV X.K x H n ∧ Q (.int n) H) := by
  intro pins s σ H xs us Q I r h
  obtain ⟨x, n, rfl, e, q⟩ := h
  obtain ⟨u, rfl, rx⟩ := vals1 r
  have hl := line63
  have hs : sizeLine = 16777216 := sizeLine_eq
  cases x with
  | str y =>
    obtain ⟨t, rfl⟩ := rx
    obtain ⟨hy, e'⟩ : y.length ≤ sizeLine ∧ n = y.length := e
    subst e'
    exact len_str (by omega) ⟨.int _, H, I.tok _, ⟨_, rfl⟩, q⟩
  | byt y =>
    obtain ⟨t, rfl⟩ := rx
    obtain ⟨hy, e'⟩ : y.size ≤ sizeLine ∧ n = y.size := e
    subst e'
    exact PySem.W.len_bytes (by omega) ⟨.int _, H, I.tok _, ⟨_, rfl⟩, q⟩
  | ref p =>
    cases rx
    have e' : (∃ xs, SqL X.K H p xs ∧ n = xs.length) ∨ ∃ xs, SqT X.K H p xs ∧ n = xs.length := e
    rcases e' with ⟨xs, hx, e'⟩ | ⟨xs, hx, e'⟩
    · subst e'
      obtain ⟨its, r', pl, hz⟩ := I.list hx
      have hlen := r'.length
      exact Calls.call_len_list pl.isList (by simp only [List.size_toArray]; omega) ⟨.int xs.length, H, I.tok _, ⟨_, by simp only [List.size_toArray]; rw [hlen]⟩, q⟩
    · subst e'
      obtain ⟨its, r', pl, hz⟩ := I.tuple hx
      have hlen := r'.length
      exact len_tuple pl (by simp only [List.size_toArray]; omega) ⟨.int xs.length, H, I.tok _, ⟨_, by simp only [List.size_toArray]; rw [hlen]⟩, q⟩
  | _ => exact (show False from e).elim
end
end L2
namespace L2
open PySem PySem.Spec PyProof.Rows
structure ObjM (h : Heap) (x dx C : Addr) (mA : Str → Option Value) : Prop where
  obj : h.get? x = some (PySem.W.instObj C dx)
  ns : h.Ns1 dx mA
  ne : dx ≠ x
theorem lookIn_ns {h : Heap} {dx : Addr} {mA : Str → Option Value} (n : h.Ns1 dx mA) : ∃ od, h.get? dx = some od ∧ ∀ name, PySem.W.lookIn name od = some (mA name) := by
  obtain ⟨o, es, ep, ho, hd, hk, _, hm⟩ := n
  refine ⟨o, ho, fun name => ?_⟩
  have e := hm name
  unfold nsFind findBy at e
  rw [← Array.find?_toList] at e
  unfold PySem.W.lookIn
  rw [hd]
  dsimp only
  split
  · rename_i y q
    rw [q] at e
    exact congrArg some e
  · rename_i q
    rw [q] at e
    have a : es.toList.any (·.refKey) = false := by
      rw [List.any_eq_false]
      intro y hy
      obtain ⟨z, t, hkey⟩ := hk y (Array.mem_toList_iff.mp hy)
      simp [DictEntry.refKey, hkey]
    have a' : ¬ es.toList.any (·.refKey) = true := by rw [a]; exact Bool.false_ne_true
    rw [if_neg a']
    exact congrArg some e
theorem ObjM.look {h : Heap} {x dx C : Addr} {mA : Str → Option Value} (I : ObjM h x dx C mA) : ∃ od, PySem.W.InstAt h x (PySem.W.instObj C dx) C (some od) ∧ ∀ name, PySem.W.lookIn name od = some (mA name) :=
  let ⟨od, ho, hl⟩ := lookIn_ns I.ns
  ⟨od, ⟨I.obj, rfl, rfl, ho⟩, hl⟩
section
variable {prog : Program} {w : World} {A : Around} {E : Value → Shared → Prop} {s : Shared} {K : PySem.W.Frag} {x dx C f : Addr} {mA : Str → Option Value} {name : Str} {v : Value}
end
theorem RelO.some_of {v : V} {o : Option Value} (r : RelO (some v) o) : ∃ u, o = some u ∧ RelV v u := by
  cases o with
  | none => exact (show False from r).elim
  | some u => exact ⟨u, rfl, r⟩
theorem RelO.none_of {o : Option Value} (r : RelO none o) : o = none := by
  cases o with
  | none => rfl
  | some u => exact (show False from r).elim
section
variable {P : Program} {w : World} {H H' : Hp} {h h' : Heap} {a C dx : Addr} {fs fs' : List (Str × V)}
theorem ins_get (hok : HOk P w H h) (e : H a = some (.ins C dx fs)) : ∃ mA, ObjM h a dx C mA ∧ (∀ f, RelO (fs.lookup f) (mA f)) ∧ PySem.Within mA (fs.map (·.1)) ∧ fs.length ≤ 1000 ∧ H dx = some (.own a) := by
  obtain ⟨d, z, ne, ob, mA, n, r, q⟩ := (show ObjOk P w H h a (.ins C dx fs) from hok a _ e)
  exact ⟨mA, ⟨ob, n, ne⟩, r, q, z, d⟩
end
structure Cls (K : PySem.W.Frag) (C : Addr) : Prop where
  pg : PySem.W.plainGet K C Str.empty = true
  hd : PySem.W.hasDictIn K C = true
  po : PySem.W.plainOver K C = true
  sa : PySem.W.findIn K (.ref C) "__setattr__" = some (some (.builtin "object.__setattr__"))
theorem Cls.get {K : PySem.W.Frag} {C : Addr} (c : Cls K C) (f : Str) : PySem.W.plainGet K C f = true := c.pg
section
variable {X : Cx} {pins : List (Addr × Obj)} {σ : St} {H : Hp} {s : Shared} {a C dx : Addr} {fs : List (Str × V)} {f : Str} {v : V} {A : Around} {E : Value → Shared → Prop}
theorem Inv.made (I : Inv X pins σ H s) : Inv X pins σ (upd (upd H s.heap.objs.size (.own (s.heap.objs.size + 1))) (s.heap.objs.size + 1) (.ins C s.heap.objs.size []))
    { s with heap := (s.heap.push PySem.W.emptyDict).push (PySem.W.instObj C s.heap.objs.size) } := by
  have e1 : (s.heap.push PySem.W.emptyDict).get? s.heap.objs.size = some PySem.W.emptyDict := Heap.get?_push_size s.heap rfl
  have e2 : ((s.heap.push PySem.W.emptyDict).push (PySem.W.instObj C s.heap.objs.size)).get? (s.heap.objs.size + 1) = some (PySem.W.instObj C s.heap.objs.size) := by
    have := Heap.get?_push_size (s.heap.push PySem.W.emptyDict) (o := PySem.W.instObj C s.heap.objs.size) rfl
    rwa [Heap.size_push] at this
  have e3 : (s.heap.push PySem.W.emptyDict).Ns s.heap.objs.size (fun _ => none) := ⟨PySem.W.emptyDict, #[], _, e1, rfl, (fun e he => absurd he (by simp)), fun _ => rfl⟩
  have I1 := I.laid (a := s.heap.objs.size) (o := .own (s.heap.objs.size + 1)) (h' := s.heap.push PySem.W.emptyDict) (t' := s.toks) (fun b u q => Heap.get?_push_of_some _ q) (Nat.le_refl _) ⟨_, e1⟩
  refine I1.laid (a := s.heap.objs.size + 1) (o := .ins C s.heap.objs.size []) (t' := s.toks) (fun b u q => Heap.get?_push_of_some _ q) (Nat.le_of_eq (Heap.size_push _ _)) ?_
  have ne : s.heap.objs.size ≠ s.heap.objs.size + 1 := Nat.ne_of_lt (Nat.lt_succ_self _)
  refine ⟨by rw [upd_ne ne, upd_same], Nat.zero_le _, ne, e2, fun _ => none, (Heap.Ns1.of_empty e3).at fun o q => Heap.get?_push_of_some _ q, fun _ => True.intro, fun y hy => absurd rfl hy⟩
theorem attr_of {prog : Program} {w : World} {env : Env} {e : Expr} {f : Str} {pos : Pos} {s : Shared} {Q : Value → Shared → Prop} (hb : attributeBase e f env (eval e env) = eval e env)
    (h : wpAny (model prog w) A (eval e env) (fun o s₁ => wpAny (model prog w) A (getAttr o f true) Q E s₁) E s) : wpAny (model prog w) A (eval (.Attribute e f pos) env) Q E s :=
  Attribute_any_ h (by rw [arm_eval_Attribute, hb])
end
section
variable {X : Cx} {o e value : Expr} {f : Str} {pos pos' tpos : Pos} {ta tv : TE}
end
section
variable {X : Cx} {pins : List (Addr × Obj)} {σ : St} {H : Hp} {s : Shared} {A : Around} {E : Value → Shared → Prop} {Q : Value → Shared → Prop} {c : Value} {b : Bool}
inductive TyOf (K : PySem.W.Frag) (H : Hp) : V → Value → Prop where
  | non : TyOf K H .non (.type "NoneType")
  | bl (x : Bool) : TyOf K H (.bl x) (.type "bool")
  | int (i : Int) : TyOf K H (.int i) (.type "int")
  | str (x : Str) : TyOf K H (.str x) (.type "str")
  | flt (x : UInt64) : TyOf K H (.flt x) (.type "float")
  | lst {a : Addr} {xs : List V} (e : H a = some (.lst xs)) : TyOf K H (.ref a) (.type "list")
  | frz {a : Addr} {o : Obj} {xs : List V} (e : H a = some (.frz o (.lst xs))) : TyOf K H (.ref a) (.type "list")
  | tup {a : Addr} {xs : List V} (e : H a = some (.tup xs)) : TyOf K H (.ref a) (.type "tuple")
  | dK {a : Addr} {kvs : List (Key × V)} (e : H a = some (.dK kvs)) : TyOf K H (.ref a) (.type "dict")
  | dT {a : Addr} {kvs : List (List Key × V)} (e : H a = some (.dT kvs)) : TyOf K H (.ref a) (.type "dict")
  | ins {a C dx : Addr} {fs : List (Str × V)} (e : H a = some (.ins C dx fs)) (cl : Cls K C) (ha : PySem.W.findIn K (.ref C) "__class__" = some (some (.builtin "object.__class__")))
      (hn : PySem.W.specialIn K (.builtin "object.__class__") "__get__" = some (some (.builtin "getset_descriptor.__get__"))) (htk : PySem.W.takesIn K (.builtin "object.__class__") = some true)
      (hm : PySem.W.mroIn K C (.type "object") = some true) : TyOf K H (.ref a) (.ref C)
theorem isinst_ok {x : V} {u t : Value} (I : Inv X pins σ H s) (rx : RelV x u) (ty : TyOf X.K H x t) (e : PySem.W.kitOne X.K t c = some b) (h : ∀ tk, Q (.bool b) { s with toks := tk }) :
    wpAny (model X.prog X.w) A (call (.builtin "isinstance") [u, c]) Q E s := by
  cases ty with
  | non => cases (show u = Value.none from rx); exact PySem.W.kia_one PySem.W.kitx_none I.kIn True.intro e (fun z => nomatch z) h
  | bl y => cases (show u = Value.bool y from rx); exact PySem.W.kia_one PySem.W.kitx_bool I.kIn True.intro e (fun z => nomatch z) h
  | int i => obtain ⟨t, q⟩ := (show ∃ t, u = Value.int i t from rx); cases q; exact PySem.W.kia_one PySem.W.kitx_int I.kIn True.intro e (fun z => nomatch z) h
  | str y => obtain ⟨t, q⟩ := (show ∃ t, u = Value.str y t from rx); cases q; exact PySem.W.kia_one PySem.W.kitx_str I.kIn True.intro e (fun z => nomatch z) h
  | flt y => obtain ⟨t, q⟩ := (show ∃ t, u = Value.float y t from rx); cases q; exact PySem.W.kia_one PySem.W.kitx_float I.kIn True.intro e (fun z => nomatch z) h
  | @lst a xs ea =>
    cases (show u = Value.ref a from rx)
    obtain ⟨_, _, n, _, h1⟩ := (show ObjOk X.prog X.w H s.heap a (.lst xs) from I.hok a _ ea)
    exact PySem.W.kia_one PySem.W.kitx_list I.kIn ⟨_, h1, rfl⟩ e (fun z => nomatch z) h
  | @frz a ob xs ea =>
    cases (show u = Value.ref a from rx)
    obtain ⟨_, _, _, n, _, h1⟩ := (show ObjOk X.prog X.w H s.heap a (.frz ob (.lst xs)) from I.hok a _ ea)
    exact PySem.W.kia_one PySem.W.kitx_list I.kIn ⟨_, h1, rfl⟩ e (fun z => nomatch z) h
  | @tup a xs ea =>
    cases (show u = Value.ref a from rx)
    obtain ⟨_, _, _, p⟩ := (show ObjOk X.prog X.w H s.heap a (.tup xs) from I.hok a _ ea)
    obtain ⟨o, h1, h2, _⟩ := p
    exact PySem.W.kia_one PySem.W.kitx_tuple I.kIn ⟨o, h1, h2⟩ e (fun z => nomatch z) h
  | @dK a kvs ea =>
    cases (show u = Value.ref a from rx)
    obtain ⟨_, _, vs, _, p⟩ := (show ObjOk X.prog X.w H s.heap a (.dK kvs) from I.hok a _ ea)
    obtain ⟨o, es, ep, h1, h2, _⟩ := p
    exact PySem.W.kia_one PySem.W.kitx_dict I.kIn ⟨o, h1, h2.1⟩ e (fun z => nomatch z) h
  | @dT a kvs ea =>
    cases (show u = Value.ref a from rx)
    obtain ⟨_, _, xs, _, o, es, ep, h1, h2, _⟩ := (show ObjOk X.prog X.w H s.heap a (.dT kvs) from I.hok a _ ea)
    exact PySem.W.kia_one PySem.W.kitx_dict I.kIn ⟨o, h1, h2.1⟩ e (fun z => nomatch z) h
  | @ins a C dx fs ea cl ha hn htk hm =>
    cases (show u = Value.ref a from rx)
    obtain ⟨mA, O, _⟩ := ins_get I.hok ea
    obtain ⟨od, J, _⟩ := O.look
    exact PySem.W.kia_one (PySem.W.kitx_own (cl.get _) cl.hd ha hn htk hm) I.kIn J e (fun z => nomatch z) h
end
end L2
namespace L2
open PySem PySem.Spec PyProof.Rows
structure Room (k : Nat) (A : Around) : Prop where
  hd : A.handled = none
  dp : A.depth + 3 * k + 5 < recursionLimit
  un : A.units + 16 * k + 200 < cLine
theorem Room.mono {j k : Nat} {A : Around} (r : Room k A) (h : j ≤ k) : Room j A := ⟨r.hd, by have := r.dp; omega, by have := r.un; omega⟩
theorem Room.deeper {k : Nat} {A : Around} (r : Room (k + 1) A) (env : Env) : Room k (A.deeper env) :=
  ⟨r.hd, by have := r.dp; show A.depth + 1 + 3 * k + 5 < _; omega, by have := r.un; show A.units + 3 + 16 * k + 200 < _; omega⟩
theorem Room.in1 {k : Nat} {A : Around} (r : Room (k + 1) A) : Room k A.in1 :=
  ⟨r.hd, by have := r.dp; show A.depth + 3 * k + 5 < _; omega, by have := r.un; show A.units + 1 + 16 * k + 200 < _; omega⟩
theorem make_depth {A : Around} {C : Addr} {us : List Value} {kw : List (Str × Value)} : (A.under (.builtin "type.__call__" ⟨.ref C :: us, kw⟩)).depth = A.depth + 1 := by
  first | rfl | simp [Around.under, Code.weight, Code.isCreation, Code.isGuard, Code.isCaller, Code.frames, Code.isFrame, guardIds]
theorem make_units {A : Around} {C : Addr} {us : List Value} {kw : List (Str × Value)} : (A.under (.builtin "type.__call__" ⟨.ref C :: us, kw⟩)).units = A.units + 1 := by
  first | rfl | simp [Around.under, Code.cUnits, Code.frames, Code.isFrame]
theorem Room.make {k : Nat} {A : Around} (r : Room (k + 1) A) (C : Addr) (us : List Value) (kw : List (Str × Value)) : Room k (A.under (.builtin "type.__call__" ⟨.ref C :: us, kw⟩)) :=
  ⟨r.hd, by have := r.dp; rw [make_depth]; omega, by have := r.un; rw [make_units]; omega⟩
theorem Room.depth {k : Nat} {A : Around} (r : Room k A) : A.depth < recursionLimit := by have := r.dp; omega
theorem Room.units {k : Nat} {A : Around} (r : Room k A) : A.units + 64 < cLine := by have := r.un; omega
def tNil : TA := fun _ H Q => Q [] H
def tCons (ta : TE) (tr : TA) : TA := fun σ H Q => ta σ H fun x H1 => tr σ H1 fun xs H2 => Q (x :: xs) H2
section
variable {X : Cx} {e : Expr} {es : List Expr} {te : TE} {t : TA} {pos : Pos}
theorem pa_nil : PA X [] tNil := fun _ _ _ _ H Q I h => Calls.spliced_nil ⟨[], H, I, .nil, h⟩
theorem pa_cons (ha : PE X e te) (hr : PA X es t) (hs : starEach (e :: es) X.env = (false, eval e X.env) :: starEach es X.env := by rfl) : PA X (e :: es) (tCons te t) := by
  intro pos pins s σ H Q I h
  rw [hs]
  show wpAny _ _ (spliced ((false, eval e X.env) :: backTo pos (starEach es X.env))) _ _ s
  refine Calls.spliced_cons (thn (ha pins s σ H _ I h) fun u s1 ⟨x, H1, I1, r1, q1⟩ => ?_)
  exact thn (hr pos pins s1 σ H1 _ I1 q1) fun us s2 ⟨xs, H2, I2, r2, q2⟩ => ⟨x :: xs, H2, I2, .cons r1 r2, q2⟩
def tTup (t : TA) : TE := fun σ H Q => t σ H fun xs H1 => xs.length ≤ sizeLine ∧ ∀ p, H1 p = none → Q (.ref p) (upd H1 p (.tup xs))
def tLst (t : TA) : TE := fun σ H Q => t σ H fun xs H1 => xs.length ≤ sizeLine ∧ ∀ p, H1 p = none → Q (.ref p) (upd H1 p (.lst xs))
theorem pe_tup {x1} (h : PA X es t) : PE X (.Tuple es x1 pos) (tTup t) := by
  intro pins s σ H Q I hq
  refine wpAny_Tuple_spliced (thn (h pos pins s σ H _ I hq) fun us s1 ⟨xs, H1, I1, r, z, q⟩ => ⟨by rw [← r.length]; exact z, ?_⟩)
  have hf : H1 s1.heap.objs.size = none := I1.hok.fresh (Nat.le_refl _)
  refine ⟨.ref s1.heap.objs.size, upd H1 s1.heap.objs.size (.tup xs), I1.laid (t' := s1.toks) (fun b u e => Heap.get?_push_of_some _ e) (Nat.le_refl _) ?_, rfl, q _ hf⟩
  exact ⟨z, us, r, ⟨_, Heap.get?_push_size _ rfl, rfl, _, rfl⟩⟩
theorem pe_lst (h : PA X es t) : PE X (.List es pos) (tLst t) := by
  intro pins s σ H Q I hq
  refine wpAny_List_spliced (thn (h pos pins s σ H _ I hq) fun us s1 ⟨xs, H1, I1, r, z, q⟩ => ⟨by rw [← r.length]; exact z, ?_⟩)
  have hf : H1 s1.heap.objs.size = none := I1.hok.fresh (Nat.le_refl _)
  refine ⟨.ref s1.heap.objs.size, upd H1 s1.heap.objs.size (.lst xs), I1.laid (t' := s1.toks) (fun b u e => Heap.get?_push_of_some _ e) (Nat.le_refl _) ?_, rfl, q _ hf⟩
  exact ⟨z, us, 0, r, Heap.get?_push_size _ rfl⟩
end
abbrev Sp := List V → Hp → VK → XK → Prop
abbrev CXT := List Env → Hp → Shared → XK → Value → Shared → Prop
structure Env0 (P : Program) (w : World) (K : PySem.W.Frag) (mg : Str → Option Value) (base : Heap) (A : Around) (outer : List Env) (s : Shared) (H : Hp) : Prop where
  frames : A.frames = some outer
  mod : Mod K mg base
  bs : ∀ b o, base.get? b = some o → s.heap.get? b = some o ∧ H b = none
  bsz : base.objs.size ≤ s.heap.objs.size
  funs : s.heap.FunFrames base outer
  frf : ∀ b ∈ frs outer, H b = none
  hok : HOk P w H s.heap
  bare : AllBare s.gens
def CE (outer : List Env) (P : Program) (w : World) (H : Hp) (s : Shared) (Q : VK) (u : Value) (s' : Shared) : Prop :=
  ∃ v H', s'.os = s.os ∧ AllBare s'.gens ∧ Un (frs outer) [] H H' s.heap s'.heap ∧ HOk P w H' s'.heap ∧ RelV v u ∧ Q v H'
def CR (CX : CXT) (outer : List Env) (P : Program) (w : World) (H : Hp) (s : Shared) (Q : VK) (E : XK) (r : Result) (s' : Shared) : Prop :=
  match r with
  | .ok (.ret u) => CE outer P w H s Q u s'
  | .ok _ => False
  | .error e => CX outer H s E e s'
structure FnOk (P : Program) (w : World) (K : PySem.W.Frag) (mg : Str → Option Value) (base : Heap) (CX : CXT) (k : Nat) (f : Addr) (fd : FuncData) (ps : List Str) (sp : Sp) : Prop where
  len : ∀ vs H Q E, sp vs H Q E → vs.length = ps.length
  run : ∀ (A : Around) (outer : List Env) (s : Shared) (H : Hp) (args : Args) (us : List Value) (vs : List V) (Q : VK) (E : XK), Room k A → Env0 P w K mg base A outer s H → BindsTo s fd args (ps.zip us) → Vals vs us → sp vs H Q E →
    codeAny (model P w) A (.call (.ref f) args) (CR CX outer P w H s Q E) s
theorem FnOk.mono {P : Program} {w : World} {K : PySem.W.Frag} {mg : Str → Option Value} {base : Heap} {CX : CXT} {j k : Nat} {f : Addr} {fd : FuncData} {ps : List Str} {sp : Sp} (F : FnOk P w K mg base CX j f fd ps sp) (h : j ≤ k) :
    FnOk P w K mg base CX k f fd ps sp := ⟨F.len, fun A outer s H args us vs Q E hr => F.run A outer s H args us vs Q E (hr.mono h)⟩
theorem Env0.make {P : Program} {w : World} {K : PySem.W.Frag} {mg : Str → Option Value} {base : Heap} {A : Around} {outer : List Env} {s : Shared} {H : Hp} (e : Env0 P w K mg base A outer s H) (C : Addr) (us : List Value) (kw : List (Str × Value)) :
    Env0 P w K mg base (A.under (.builtin "type.__call__" ⟨.ref C :: us, kw⟩)) outer s H := ⟨by first | exact e.frames | (simpa [Around.under, Code.envs, Code.isFrame, pushEnvs] using e.frames), e.mod, e.bs, e.bsz, e.funs, e.frf, e.hok, e.bare⟩
theorem Env0.in1 {P : Program} {w : World} {K : PySem.W.Frag} {mg : Str → Option Value} {base : Heap} {A : Around} {outer : List Env} {s : Shared} {H : Hp} (e : Env0 P w K mg base A outer s H) :
    Env0 P w K mg base A.in1 outer s H := ⟨e.frames, e.mod, e.bs, e.bsz, e.funs, e.frf, e.hok, e.bare⟩
section
variable {X : Cx} {pins : List (Addr × Obj)} {σ : St} {H : Hp} {s s' : Shared}
theorem Inv.env0 (I : Inv X pins σ H s) : Env0 X.prog X.w X.K X.mg X.base X.A X.stack s H :=
  ⟨I.ok.frames, I.ok.mod, I.bs, Nat.le_trans I.ok.bsz I.sz, I.stack, I.stkFree, I.hok, I.bare⟩
theorem Inv.after {Q : VK} {u : Value} (I : Inv X pins σ H s) (h : CE X.stack X.prog X.w H s Q u s') : EP X pins σ Q u s' := by
  obtain ⟨v, H', os, bare, un, hok, r, q⟩ := h
  obtain ⟨hh, g, d, t, os'⟩ := s'
  obtain rfl : os' = s.os := os
  exact ⟨v, H', I.call (h' := hh) (g' := g) (d' := d) (t' := t) (ch := []) un hok bare (fun b z => absurd z (by simp)), r, q⟩
end
def tCall (sp : Sp) (dvs : List V) (E : XK) (t : TA) : TE := fun σ H Q => t σ H fun vs H1 => sp (vs ++ dvs) H1 Q E
def Binds (K : PySem.W.Frag) (fd : FuncData) (ps : List Str) (ds : List Value) : Prop :=
  ∀ (s : Shared) (us : List Value), K.In s.heap → (us ++ ds).length = ps.length → BindsTo s fd ⟨us, []⟩ (ps.zip (us ++ ds))
theorem Binds.all {K : PySem.W.Frag} {fd : FuncData} {ps : List Str} (h : ∀ us : List Value, us.length = ps.length → bindArgs fd ⟨us, []⟩ = pure (ps.zip us)) : Binds K fd ps [] := fun s us _ hl => by
  rw [List.append_nil] at hl ⊢
  exact .of_eq (h us hl)
def Passes (CX : CXT) (X : Cx) (E : XK) : Prop := ∀ (pins : List (Addr × Obj)) (σ : St) (H : Hp) (s : Shared) (e : Value) (s' : Shared), Inv X pins σ H s → CX X.stack H s E e s' → X.xe e s'
section
variable {X : Cx} {CX : CXT} {k : Nat} {f C : Addr} {fd : FuncData} {ps : List Str} {sp : Sp} {dvs : List V} {ds : List Value} {E : XK} {x m : Str} {p pos apos : Pos} {e o : Expr} {es : List Expr} {ta : TE} {t : TA}
theorem run_fn {pins : List (Addr × Obj)} {σ : St} {H : Hp} {s : Shared} {Q : VK} {us : List Value} {vs : List V} (F : FnOk X.prog X.w X.K X.mg X.base CX k f fd ps sp) (hr : Room k X.A) (hb : Binds X.K fd ps ds) (hd : Vals dvs ds) (hx : Passes CX X E)
    (I : Inv X pins σ H s) (r : Vals vs us) (h : sp (vs ++ dvs) H Q E) : wpAny (model X.prog X.w) X.A (call (.ref f) us) (EP X pins σ Q) X.xe s := by
  have r2 : Vals (vs ++ dvs) (us ++ ds) := r.append hd
  have hl : (us ++ ds).length = ps.length := by rw [← r2.length]; exact F.len _ _ _ _ h
  refine wpAny_call (codeAny_mono (F.run X.A X.stack s H ⟨us, []⟩ (us ++ ds) (vs ++ dvs) Q E hr I.env0 (hb s us I.kIn hl) r2 h) fun r s' hq => ?_)
  cases r with
  | error e => exact hx pins σ H s e s' I hq
  | ok fl =>
    cases fl with
    | ret u => exact I.after hq
    | next => exact False.elim hq
    | brk => exact False.elim hq
    | cont => exact False.elim hq
theorem pe_call (F : FnOk X.prog X.w X.K X.mg X.base CX k f fd ps sp) (hr : Room k X.A) (hg : Gl X x) (hm : X.mg x = some (.ref f)) (hk : PySem.W.keepIn X.K (.ref f) = true) (hb : Binds X.K fd ps ds) (hd : Vals dvs ds) (hx : Passes CX X E)
    (ha : PA X (e :: es) t) (hdb : (x == ("__debug__" : Str)) = false := by decide) (he : starEach (e :: es) X.env = (false, eval e X.env) :: starEach es X.env := by rfl) (hpl : (backTo pos (starEach es X.env)).any (·.1) = false := by rfl) :
    PE X (.Call (.Name x p) (e :: es) [] pos) (tCall sp dvs E t) := by
  intro pins s σ H Q I h
  refine wpAny_Call_Name_kw (ld_glob I hg hm ?_ hdb)
  refine PySem.W.callWith_K (h₀ := X.base) I.ok.mod.kin hk (thn (ha pos pins s σ H _ I h) fun us s1 ⟨vs, H1, I1, r, q⟩ => ⟨I1.kIn, ?_⟩) he hpl
  exact run_fn F hr hb hd hx I1 r q
end
section
variable {X : Cx} {CX : CXT} {k : Nat} {f C : Addr} {fd : FuncData} {ps ks : List Str} {sp : Sp} {E : XK} {x m : Str} {p pos apos kpos : Pos} {e o : Expr} {es : List Expr} {kws : List Keyword} {te ta : TE} {t tk : TA} {nm : Option Str}
variable {g : List Value → List Value → List Value} {gV : List V → List V → List V}
end
structure FnScope (N P : List Str) (sc : Scope) : Prop where
  kind : sc.kind = .function
  co : sc.isCoroutine = false
  gen : sc.isGenerator = false
  nd : N.Nodup
  pre : N.take P.length = P
  par : ∀ x ∈ P, sc.names.lookup x = some .local ∨ sc.names.lookup x = some .cell
  nofree : ∀ y ∈ sc.names, y.2 ≠ .free
theorem bindL_out {kindOf : Str → Option NameKind} {x : Str} : ∀ {binds : List (Str × Value)} {m : Str → Option Value}, (∀ v, (x, v) ∉ binds) → bindL kindOf binds m x = m x
  | [], _, _ => rfl
  | (n, v) :: r, m, h => by
    unfold bindL
    rw [bindL_out fun w hw => h w (List.mem_cons_of_mem _ hw)]
    split
    · have : x ≠ n := by rintro rfl; exact h v List.mem_cons_self
      simp [this]
    · rfl
theorem bindC_out {kindOf : Str → Option NameKind} {x : Str} : ∀ {binds : List (Str × Value)} {m : Str → Option Value}, (∀ v, (x, v) ∉ binds) → bindC kindOf binds m x = m x
  | [], _, _ => rfl
  | (n, v) :: r, m, h => by
    unfold bindC
    rw [bindC_out fun w hw => h w (List.mem_cons_of_mem _ hw)]
    split
    · rfl
    · have : x ≠ n := by rintro rfl; exact h v List.mem_cons_self
      simp [this]
theorem bindL_get {kindOf : Str → Option NameKind} {x : Str} {v : Value} : ∀ {P : List Str} {vs : List Value} {i : Nat} {m : Str → Option Value}, P.Nodup → P[i]? = some x → vs[i]? = some v → kindOf x = some .local →
    bindL kindOf (P.zip vs) m x = some v
  | [], _, _, _, _, h, _, _ => by simp at h
  | _ :: _, [], _, _, _, _, h, _ => by simp at h
  | p :: P, w :: vs, 0, m, nd, h1, h2, hk => by
    simp at h1 h2; subst h1; subst h2
    show bindL kindOf ((p, w) :: P.zip vs) m p = _
    unfold bindL
    rw [bindL_out fun v hv => (List.nodup_cons.mp nd).1 (List.of_mem_zip hv).1, if_pos hk]
    simp
  | p :: P, w :: vs, i + 1, m, nd, h1, h2, hk => by
    show bindL kindOf ((p, w) :: P.zip vs) m x = _
    unfold bindL
    exact bindL_get (i := i) (List.nodup_cons.mp nd).2 (by simpa using h1) (by simpa using h2) hk
theorem bindC_get {kindOf : Str → Option NameKind} {x : Str} {v : Value} : ∀ {P : List Str} {vs : List Value} {i : Nat} {m : Str → Option Value}, P.Nodup → P[i]? = some x → vs[i]? = some v → kindOf x ≠ some .local →
    bindC kindOf (P.zip vs) m x = some v
  | [], _, _, _, _, h, _, _ => by simp at h
  | _ :: _, [], _, _, _, _, h, _ => by simp at h
  | p :: P, w :: vs, 0, m, nd, h1, h2, hk => by
    simp at h1 h2; subst h1; subst h2
    show bindC kindOf ((p, w) :: P.zip vs) m p = _
    unfold bindC
    rw [bindC_out fun v hv => (List.nodup_cons.mp nd).1 (List.of_mem_zip hv).1, if_neg hk]
    simp
  | p :: P, w :: vs, i + 1, m, nd, h1, h2, hk => by
    show bindC kindOf ((p, w) :: P.zip vs) m x = _
    unfold bindC
    exact bindC_get (i := i) (List.nodup_cons.mp nd).2 (by simpa using h1) (by simpa using h2) hk
def start (N : List Str) (vs : List V) : St := vs.map some ++ List.replicate (N.length - vs.length) none
def cxOf (CX : CXT) (P : Program) (w : World) (K : PySem.W.Frag) (mg : Str → Option Value) (base : Heap) (N : List Str) (qual : Str) (scope : Scope) (f : Addr) (cd : Value) (A : Around) (outer : List Env) (s : Shared) (H : Hp) (E : XK) : Cx where
  prog := P
  w := w
  K := K
  mg := mg
  base := base
  A := A.deeper (envOfC qual scope s.heap.objs.size f cd)
  N := N
  s₀ := s
  H₀ := H
  env := envOfC qual scope s.heap.objs.size f cd
  outer := outer
  stack := envOfC qual scope s.heap.objs.size f cd :: outer
  ex := []
  calm := true
  fn := fun _ => true
  pn := []
  xe := fun e s' => wpAny (model P w) (A.deeper (envOfC qual scope s.heap.objs.size f cd)) (leaving (envOfC qual scope s.heap.objs.size f cd) e) (fun _ s'' => CX outer H s E e s'') (fun e' s'' => CX outer H s E e' s'') s'
theorem cell_has {sc : Scope} {n : Nat} {x : Str} (h : sc.names.lookup x = some .cell) : ∃ c, (cellsFrom n sc.names []).lookup x = some c := by
  have q := PySem.W.cellsFrom_some sc.names n [] (.inl h)
  exact Option.isSome_iff_exists.mp q
theorem inv_start {CX : CXT} {P : Program} {w : World} {K : PySem.W.Frag} {mg : Str → Option Value} {base : Heap} {N ps : List Str} {qual : Str} {scope : Scope} {f : Addr} {cd : Value} {A : Around} {outer : List Env} {s s1 : Shared} {H : Hp} {E : XK} {us : List Value} {vs : List V}
    (S : FnScope N ps scope) (hd : A.handled = none) (e0 : Env0 P w K mg base A outer s H) (hl : vs.length = ps.length) (r : Vals vs us)
    (x : InCallC s s.heap.objs.size (bindL (envOfC qual scope s.heap.objs.size f cd).kindOf (ps.zip us) fun _ => none) (cellsFrom (s.heap.objs.size + 1) scope.names []) (bindC (envOfC qual scope s.heap.objs.size f cd).kindOf (ps.zip us) fun _ => none) s1) :
    Inv (cxOf CX P w K mg base N qual scope f cd A outer s H E) [] (start N vs) H s1 := by
  have hpl : ps.length ≤ N.length := by have := congrArg List.length S.pre; rw [List.length_take] at this; omega
  obtain ⟨h1, tk, rfl, hk⟩ := x.done
  have noA : ∀ b : Addr, b ∉ (cxOf CX P w K mg base N qual scope f cd A outer s H E).ex := fun b z => absurd (show b ∈ ([] : List Addr) from z) (by simp)
  refine ⟨⟨e0.mod, S.kind, rfl, rfl, Nat.le_refl _, fun y z c h1 h2 => ?_, fun y hy => ?_, fun y c _ h => ?_, fun _ => hd, Around.frames_deeper e0.frames, .inr ⟨rfl, rfl⟩, fun b z => absurd z (noA b), e0.bs, e0.bsz, fun b _ _ => noA b, fun b z => absurd z (noA b), e0.funs, e0.frf⟩,
    rfl, e0.bare, Un.kept hk, ⟨_, x.toInCall.ns, fun i y v h1 h2 h3 => ?_⟩, fun y c h => ⟨_, x.cell y c h⟩, e0.hok.fresh (Nat.le_refl _), fun y c h => ?_, fun p hp => absurd (show p ∈ ([] : List (Addr × Obj)) from hp) (by simp), e0.hok.kept hk, ?_⟩
  · exact name_of_addr x.apart (PySem.mem_of_lookup h1) (PySem.mem_of_lookup h2)
  · have hy : scope.names.lookup y = some .cell ∨ scope.names.lookup y = some .free := hy
    rcases hy with hy | hy
    · exact cell_has hy
    · exact absurd rfl (S.nofree _ (PySem.mem_of_lookup hy))
  · exact Nat.le_of_lt (x.above y c (PySem.mem_of_lookup h))
  · have hi : i < vs.length := by
      unfold start at h2
      by_cases hi : i < vs.length
      · exact hi
      · rw [List.getElem?_append_right (by simpa using hi)] at h2
        rw [List.getElem?_replicate] at h2
        split at h2 <;> cases h2
    have ha : vs[i]? = some v := by
      unfold start at h2
      rw [List.getElem?_append_left (by simpa using hi), List.getElem?_map] at h2
      cases e : vs[i]? with
      | none => rw [e] at h2; cases h2
      | some a => rw [e] at h2; cases h2; rfl
    obtain ⟨u, hu, rv⟩ := r.get ha
    have hp : ps[i]? = some y := by
      rw [← S.pre, List.getElem?_take_of_lt (by omega)]; exact h1
    have ndP : ps.Nodup := by rw [← S.pre]; exact S.nd.sublist (List.take_sublist _ _)
    refine ⟨u, rv, ?_⟩
    rcases S.par y (List.mem_of_getElem? hp) with k | k
    · exact .inl ⟨k, bindL_get ndP hp hu k⟩
    · obtain ⟨c, e⟩ := cell_has (n := s.heap.objs.size + 1) k
      refine .inr ⟨.inl k, c, e, ?_⟩
      have q := x.cell y c e
      rw [bindC_get ndP hp hu (by show scope.names.lookup y ≠ _; rw [k]; decide)] at q
      exact q
  · exact e0.hok.fresh (Nat.le_of_lt (x.above y c (PySem.mem_of_lookup h)))
  · unfold start
    show _ = N.length
    rw [List.length_append, List.length_map, List.length_replicate]
    omega
theorem fn_of {CX : CXT} {P : Program} {w : World} {K : PySem.W.Frag} {mg : Str → Option Value} {base : Heap} {k : Nat} {f : Addr} {name qual : Str} {params : Arguments} {body : List Stmt} {scope : Scope} {dV kV doc pm cdv ct oc : Value} {an od : Option Addr}
    {osl : Array (Option Value)} {N ps : List Str} {sp : Sp} (lk : K.lookup f = some ⟨oc, od, .func (PySem.W.fnOf name qual params body scope dV kV doc pm an cdv ct), osl⟩) (hcd : PySem.W.codeIn K cdv qual = true) (S : FnScope N ps scope)
    (len : ∀ vs H Q E, sp vs H Q E → vs.length = ps.length)
    (hbody : ∀ (A : Around) (outer : List Env) (s : Shared) (H : Hp) (vs : List V) (Q : VK) (E : XK), Room k (A.deeper (envOfC qual scope s.heap.objs.size f cdv)) → sp vs H Q E →
      ∃ t, PSs (cxOf CX P w K mg base N qual scope f cdv A outer s H E) body t ∧ t { nx := fun _ H' => Q .non H', rt := Q } (start N vs) H) :
    FnOk P w K mg base CX (k + 1) f (PySem.W.fnOf name qual params body scope dV kV doc pm an cdv ct) ps sp := by
  refine ⟨len, fun A outer s H args us vs Q E hr e0 hb r hsp => ?_⟩
  have hl := len _ _ _ _ hsp
  have KX : K.In s.heap := e0.mod.kin.keeps fun b o e => (e0.bs b o e).1
  have lim : s.heap.NoLimit := e0.mod.nolimit.keeps fun b o e => (e0.bs b o e).1
  have hkind : ∀ y ∈ ps.zip us, scope.names.lookup y.1 = some .local ∨ (scope.names.lookup y.1 = some .cell ∧ ((cellsFrom (s.heap.objs.size + 1) scope.names []).lookup y.1).isSome = true) := fun ⟨n, v⟩ hy => by
    rcases S.par n (List.of_mem_zip hy).1 with q | q
    · exact .inl q
    · exact .inr ⟨q, PySem.W.cellsFrom_some _ _ _ (.inl q)⟩
  refine codeAny_call_function hr.depth (KX _ _ lk) rfl S.co S.gen rfl (PySem.W.codeRec_of KX hcd) (hb _ _ _ _ ?_)
  refine wpAny_newFunctionEnv_cells S.kind hkind fun env he s1 x => ?_
  subst he
  refine ⟨lim.keeps x.toInCall.keep, codeAny_func ?_⟩
  obtain ⟨t, ht, hq⟩ := hbody A outer s H vs Q E (hr.deeper _) hsp
  have I : Inv (cxOf CX P w K mg base N qual scope f cdv A outer s H E) [] (start N vs) H s1 := inv_start S hr.hd e0 hl r x
  refine wpAny_mono (ht [] s1 (start N vs) H _ I hq) (fun fl s' hs => ?_) fun e s' hs => hs
  have fin : ∀ {σ' : St} {H' : Hp} {v : V} {u : Value}, Inv (cxOf CX P w K mg base N qual scope f cdv A outer s H E) [] σ' H' s' → RelV v u → Q v H' → CE outer P w H s Q u s' :=
    fun {σ' H' v u} J rv q => ⟨v, H', J.os, J.bare, J.base, J.hok, rv, q⟩
  cases fl with
  | ret u =>
    obtain ⟨v, σ', H', J, rv, q⟩ := hs
    exact fin J rv q
  | next =>
    obtain ⟨σ', H', J, q⟩ := hs
    exact fin (v := V.non) (u := Value.none) J rfl q
  | brk =>
    obtain ⟨_, _, _, q⟩ := hs
    exact False.elim q
  | cont =>
    obtain ⟨_, _, _, q⟩ := hs
    exact False.elim q
end L2
namespace L2
open PySem PySem.Spec PyProof.Rows
section
variable {X : Cx} {x : Str} {p pos : Pos} {e : Expr} {es : List Expr} {t : TA} {id T : String} {r : List V → Hp → VK → Prop}
def tCB (r : List V → Hp → VK → Prop) (t : TA) : TE := fun σ H Q => t σ H fun vs H1 => r vs H1 Q
theorem pe_callB (hc : CallR X (.builtin id) r) (hg : Gl X x) (hm : X.mg x = none) (hv : bootBuiltins x = some (.builtin id)) (ha : PA X (e :: es) t) (hn : x ≠ "__name__" := by decide) (hdb : (x == ("__debug__" : Str)) = false := by decide)
    (he : starEach (e :: es) X.env = (false, eval e X.env) :: starEach es X.env := by rfl) (hpl : (backTo pos (starEach es X.env)).any (·.1) = false := by rfl) : PE X (.Call (.Name x p) (e :: es) [] pos) (tCB r t) := by
  intro pins s σ H Q I h
  refine wpAny_Call_Name_kw (ld_blt I hg hm hv ?_ hn hdb)
  exact PyProof.Rows.callWith_builtin1 (thn (ha pos pins s σ H _ I h) fun us s1 ⟨vs, H1, I1, r1, q1⟩ => hc pins s1 σ H1 vs us Q I1 r1 q1) he hpl
theorem pe_callTy (hc : CallR X (.type T) r) (hg : Gl X x) (hm : X.mg x = none) (hv : bootBuiltins x = some (.type T)) (ha : PA X (e :: es) t) (hn : x ≠ "__name__" := by decide) (hdb : (x == ("__debug__" : Str)) = false := by decide)
    (he : starEach (e :: es) X.env = (false, eval e X.env) :: starEach es X.env := by rfl) (hpl : (backTo pos (starEach es X.env)).any (·.1) = false := by rfl) : PE X (.Call (.Name x p) (e :: es) [] pos) (tCB r t) := by
  intro pins s σ H Q I h
  refine wpAny_Call_Name_kw (ld_blt I hg hm hv ?_ hn hdb)
  exact PyProof.Rows.callWith_type1 (thn (ha pos pins s σ H _ I h) fun us s1 ⟨vs, H1, I1, r1, q1⟩ => hc pins s1 σ H1 vs us Q I1 r1 q1) he hpl
end
end L2
namespace HT
open PySem PyProof.Rows
section
open PySem.SeqAt
open PySem.AutoSeq1 (wpAny_loadPart')
open PySem.MeetsSeq PySem.MeetsSeq2 PySem.MeetsSeq3
end
section
variable {prog : Program} {w : World} {A : Around} {E : Value → Shared → Prop} {s : Shared}
def sIx (n d : Nat) : Option Int → Nat
  | none => d
  | some v => if v < 0 then (v + (n : Int)).toNat else min v.toNat n
theorem sIx_le (n d : Nat) (hd : d ≤ n) (o : Option Int) : sIx n d o ≤ n := by
  cases o with
  | none => exact hd
  | some v =>
    show (if v < 0 then (v + (n : Int)).toNat else min v.toNat n) ≤ n
    by_cases hv : v < 0
    · rw [if_pos hv]; omega
    · rw [if_neg hv]; exact Nat.min_le_right _ _
theorem clip_eq (v : Int) (n d : Nat) : (if v < 0 then max (v + (n : Int)) 0 else min v (n : Int)) = ((sIx n d (some v) : Nat) : Int) := by
  show (if v < 0 then max (v + (n : Int)) 0 else min v (n : Int)) = (((if v < 0 then (v + (n : Int)).toNat else min v.toNat n) : Nat) : Int)
  by_cases hv : v < 0
  · simp only [if_pos hv]; omega
  · simp only [if_neg hv]; omega
theorem adjust_gen (lo hi : Option Int) (n : Nat) : Builtin.Slice.sliceAdjust lo hi 1 (n : Int) = (((sIx n 0 lo : Nat) : Int), ((sIx n n hi : Nat) : Int)) := by
  have h1 : ¬ ((1 : Int) < 0) := by omega
  unfold Builtin.Slice.sliceAdjust
  simp only [h1, if_false]
  refine Prod.ext ?_ ?_
  · cases lo with
    | none => rfl
    | some v => exact clip_eq v n 0
  · cases hi with
    | none => rfl
    | some v => exact clip_eq v n n
theorem places_gen (i j : Nat) : Builtin.Slice.slicePlaces (i : Int) (j : Int) 1 = j - i := by
  unfold Builtin.Slice.slicePlaces
  have h1 : (1 : Int) > 0 := by omega
  simp only [h1, if_true, Int.ediv_one]
  split <;> omega
theorem slicePart_ {v : Value} {o : Option Int} {Q : Option Int → Shared → Prop} (p : IsPart v o) (h : Q o s) : wpAny (model prog w) A (Builtin.Slice.slicePartIndex v) Q E s := by
  cases p with
  | none => exact slicePart_none h
  | int i t => exact slicePart_int h
theorem sliceApplied_gen {sl : Addr} {vl vu : Value} {lo hi : Option Int} {n : Nat} {Q : Int × Int × Nat → Shared → Prop} (hs : s.heap.IsSliceOf sl vl vu .none) (pl : IsPart vl lo) (pu : IsPart vu hi)
    (h : Q (((sIx n 0 lo : Nat) : Int), 1, sIx n n hi - sIx n 0 lo) s) : wpAny (model prog w) A (Builtin.Slice.sliceApplied (.ref sl) (pure (n : Int))) Q E s := by
  obtain ⟨os, hos, hcs, hds⟩ := id hs
  unfold Builtin.Slice.sliceApplied Builtin.Slice.sliceFields
  refine wpAny_bind (wpAny_bind (wpAny_field hos hds (x := vl) rfl (wpAny_bind (wpAny_field hos hds (x := vu) rfl (wpAny_bind (wpAny_field hos hds (x := .none) rfl (wpAny_pure ?_)))))))
  refine wpAny_bind (slicePart_none ?_)
  show wpAny _ _ (if ((1 : Int) == 0) = true then _ else _) _ _ s
  rw [if_neg (by decide)]
  refine wpAny_bind (slicePart_ pl (wpAny_bind (slicePart_ pu (wpAny_bind (wpAny_pure ?_)))))
  show wpAny _ _ (match Builtin.Slice.sliceAdjust lo hi 1 (n : Int) with | (lo, hi) => pure (lo, (1 : Int), Builtin.Slice.slicePlaces lo hi 1)) _ _ s
  rw [adjust_gen lo hi n]
  show wpAny _ _ (pure (((sIx n 0 lo : Nat) : Int), (1 : Int), Builtin.Slice.slicePlaces ((sIx n 0 lo : Nat) : Int) ((sIx n n hi : Nat) : Int) 1)) _ _ s
  rw [places_gen]
  exact wpAny_pure h
theorem pick_gen (xs : Array Value) (i k : Nat) : ((List.range k).filterMap fun (m : Nat) => xs[((i : Int) + (m : Int) * 1).toNat]?).toArray = ((xs.toList.drop i).take k).toArray := by
  have e : (fun (m : Nat) => xs[((i : Int) + (m : Int) * 1).toNat]?) = fun m => xs[i + m]? := by
    funext m
    have : ((i : Int) + (m : Int) * 1).toNat = i + m := by omega
    rw [this]
  rw [e]
  have := pick_run xs i k
  rw [List.filterMap_map] at this
  have e2 : ((fun x => xs[x]?) ∘ fun x => i + x) = fun m => xs[i + m]? := rfl
  rw [e2] at this
  rw [this]
theorem getItem_tuple_cut {t sl : Addr} {items : Array Value} {vl vu : Value} {lo hi : Option Int} {Q : Value → Shared → Prop} (ht : IsTup s.heap t items) (hs : s.heap.IsSliceOf sl vl vu .none) (pl : IsPart vl lo) (pu : IsPart vu hi)
    (hw : ¬ (sIx items.size 0 lo = 0 ∧ sIx items.size items.size hi = items.size))
    (h : Q (.ref s.heap.objs.size) { s with heap := s.heap.push { cls := .type "tuple", data := .seq ((items.toList.drop (sIx items.size 0 lo)).take (sIx items.size items.size hi - sIx items.size 0 lo)).toArray } })
    (hsz : items.size ≤ sizeLine) : wpAny (model prog w) A (getItem (.ref t) (.ref sl)) Q E s := by
  have htake : sizeOk (.seq ((items.toList.drop (sIx items.size 0 lo)).take (sIx items.size items.size hi - sIx items.size 0 lo)).toArray) := by
    show ((items.toList.drop (sIx items.size 0 lo)).take (sIx items.size items.size hi - sIx items.size 0 lo)).toArray.size ≤ sizeLine
    rw [List.size_toArray, List.length_take, List.length_drop, Array.length_toList]
    omega
  have hj : sIx items.size items.size hi ≤ items.size := sIx_le _ _ (Nat.le_refl _) hi
  obtain ⟨os, hos, hcs, hds⟩ := id hs
  have hTs : s.TypeIs (.ref sl) "slice" := ⟨os, hos, hcs⟩
  unfold getItem
  try with_reducible refine wpAny_holding ?_
  first | refine wpAny_bind (wpAny_pure ?_) | skip
  refine wpAny_bind (wpAny_sequenceKey ht.typeIs (by decide) ?_)
  refine wpAny_bind (wpAny_callSpecial?_slot (name := Str.ofString "__getitem__") ht.typeIs PyProof.Rows.slot_tuple_getitem
    (wpAny_call_entry PyProof.Rows.slot_tuple_getitem ht.typeIs entry_tuple_getitem ?_ (args_tuple_getitem _ _)))
  show wpAny _ _ (Builtin.Tuple.tupleItemsOf (.ref t) >>= _) _ _ s
  refine wpAny_bind (tupleItemsOf_ ht ?_)
  refine wpAny_bind (wpAny_typeOf hTs ?_)
  rw [if_pos (by decide)]
  refine wpAny_bind (sliceApplied_gen hs pl pu ?_)
  have hno : ¬ ((((sIx items.size 0 lo : Nat) : Int) == 0 && (1 : Int) == 1 && (sIx items.size items.size hi - sIx items.size 0 lo) == items.size) = true) := by
    intro q
    rw [Bool.and_eq_true, Bool.and_eq_true] at q
    have q1 : ((sIx items.size 0 lo : Nat) : Int) = 0 := eq_of_beq q.1.1
    have q2 : sIx items.size items.size hi - sIx items.size 0 lo = items.size := eq_of_beq q.2
    exact hw ⟨by omega, by omega⟩
  show wpAny _ _ (if (((sIx items.size 0 lo : Nat) : Int) == 0 && (1 : Int) == 1 && (sIx items.size items.size hi - sIx items.size 0 lo) == items.size) = true then _ else _) _ _ s
  rw [if_neg hno, pick_gen]
  first
    | exact wpAny_bind (m := Builtin.Tuple.tupleExact _) (wpAny_newObj_type (wpAny_pure ⟨_, rfl, wpAny_pure h⟩) htake)
    | exact wpAny_bind (m := Builtin.Tuple.tupleExact _) (wpAny_newObj_type (wpAny_bind (wpAny_pure (wpAny_pure ⟨_, rfl, wpAny_pure h⟩))) htake)
    | exact wpAny_bind (wpAny_bind (m := Builtin.Tuple.tupleExact _) (wpAny_newObj_type (wpAny_pure (wpAny_pure ⟨_, rfl, wpAny_pure h⟩)) htake))
    | exact wpAny_bind (wpAny_bind (m := Builtin.Tuple.tupleExact _) (wpAny_newObj_type (wpAny_pure ⟨_, rfl, wpAny_pure h⟩) htake))
end
end HT
namespace L2
open PySem PySem.Spec PyProof.Rows
abbrev TO := St → Hp → (Option Int → Hp → Prop) → Prop
def PO (X : Cx) (e : Option Expr) (t : TO) : Prop :=
  ∀ (pins : List (Addr × Obj)) (s : Shared) (σ : St) (H : Hp) (Q : Option Int → Hp → Prop), Inv X pins σ H s → t σ H Q →
    wpAny (model X.prog X.w) X.A (evalPart e X.env) (fun u s' => ∃ o H', Inv X pins σ H' s' ∧ IsPart u o ∧ Q o H') X.xe s
def tNoPart : TO := fun _ H Q => Q none H
def tPart (t : TE) : TO := fun σ H Q => t σ H fun x H1 => ∃ i, x = .int i ∧ Q (some i) H1
section
variable {X : Cx} {e : Expr} {te : TE} {lo hi : Option Expr} {tl th : TO} {pos p2 : Pos}
theorem po_none : PO X none tNoPart := by
  intro pins s σ H Q I h
  rw [evalPart_none]
  exact wpAny_pure ⟨none, H, I, .none, h⟩
theorem po_some (h : PE X e te) : PO X (some e) (tPart te) := by
  intro pins s σ H Q I hw
  rw [evalPart_some]
  refine thn (h pins s σ H _ I hw) fun u s1 ⟨x, H1, I1, r1, q1⟩ => ?_
  obtain ⟨i, rfl, q⟩ := q1
  obtain ⟨t, rfl⟩ := r1
  exact ⟨some i, H1, I1, .int i t, q⟩
def SlR (X : Cx) (r : V → Option Int → Option Int → Hp → VK → Prop) : Prop :=
  ∀ (pins : List (Addr × Obj)) (s : Shared) (σ : St) (H : Hp) (x : V) (v vl vu : Value) (lo hi : Option Int) (sl : Addr) (Q : VK), Inv X pins σ H s → RelV x v → s.heap.IsSliceOf sl vl vu .none → IsPart vl lo → IsPart vu hi → r x lo hi H Q →
    ∃ T id, typeLookup (.type T) "__getitem__" = pure (some (.builtin id)) ∧ s.TypeIs v T ∧ wpAny (model X.prog X.w) X.A (getItem v (.ref sl)) (EP X pins σ Q) X.xe s
theorem SlR.or {r r' : V → Option Int → Option Int → Hp → VK → Prop} (h : SlR X r) (h' : SlR X r') : SlR X (fun x lo hi H Q => r x lo hi H Q ∨ r' x lo hi H Q) := by
  intro pins s σ H x v vl vu lo hi sl Q I rx hs pl pu q
  rcases q with q | q
  · exact h pins s σ H x v vl vu lo hi sl Q I rx hs pl pu q
  · exact h' pins s σ H x v vl vu lo hi sl Q I rx hs pl pu q
def tSl (r : V → Option Int → Option Int → Hp → VK → Prop) (te : TE) (tl th : TO) : TE := fun σ H Q => te σ H fun x H1 => tl σ H1 fun l H2 => th σ H2 fun u H3 => r x l u H3 Q
theorem pe_slice {r : V → Option Int → Option Int → Hp → VK → Prop} (hr : SlR X r) (he : PE X e te) (hl : PO X lo tl) (hu : PO X hi th) : PE X (.Subscript e (.Slice lo hi none p2) pos) (tSl r te tl th) := by
  intro pins s σ H Q I h
  refine Subscript_ (thn (he pins s σ H _ I h) fun v s1 ⟨x, H1, I1, r1, q1⟩ => ?_)
  refine wpAny_Slice (thn (hl pins s1 σ H1 _ I1 q1) fun vl s2 ⟨l, H2, I2, pl, q2⟩ => thn (hu pins s2 σ H2 _ I2 q2) fun vu s3 ⟨u, H3, I3, pu, q3⟩ => ?_)
  rw [evalPart_none]
  refine wpAny_pure ?_
  have I4 : Inv X pins σ H3 { s3 with heap := s3.heap.push { cls := .type "slice", data := .fields #[vl, vu, .none] } } := I3.kept (t' := s3.toks) fun b ob q => Heap.get?_push_of_some _ q
  obtain ⟨T, id, hT, ht, hg⟩ := hr pins { s3 with heap := s3.heap.push { cls := .type "slice", data := .fields #[vl, vu, .none] } } σ H3 x v vl vu l u s3.heap.objs.size Q I4 r1 (Heap.IsSliceOf.new ..) pl pu q3
  show wpAny (model X.prog X.w) X.A (subscriptTail e (.Slice lo hi none p2) v (.ref s3.heap.objs.size)) (EP X pins σ Q) X.xe { s3 with heap := s3.heap.push { cls := .type "slice", data := .fields #[vl, vu, .none] } }
  exact tail_any (ops := [.ref s3.heap.objs.size, v]) ht hT hg (by with_unfolding_all rfl)
def cutV (xs : List V) (lo hi : Option Int) : List V := (xs.drop (HT.sIx xs.length 0 lo)).take (HT.sIx xs.length xs.length hi - HT.sIx xs.length 0 lo)
theorem cutV_length (xs : List V) (lo hi : Option Int) : (cutV xs lo hi).length ≤ xs.length := by
  unfold cutV
  rw [List.length_take, List.length_drop]
  omega
def rSlT (K : PySem.W.Frag) : V → Option Int → Option Int → Hp → VK → Prop := fun x lo hi H Q => ∃ a xs, x = .ref a ∧ SqT K H a xs ∧
  ¬ (HT.sIx xs.length 0 lo = 0 ∧ HT.sIx xs.length xs.length hi = xs.length) ∧ ∀ p, H p = none → Q (.ref p) (upd H p (.tup (cutV xs lo hi)))
theorem sl_tup : SlR X (rSlT X.K) := by
  intro pins s σ H x v vl vu lo hi sl Q I rx hs pl pu h
  obtain ⟨a, xs, rfl, hx, hw, q⟩ := h
  cases rx
  obtain ⟨its, r, ht, hz⟩ := I.tuple hx
  have hlen : its.toArray.size = xs.length := by rw [List.size_toArray]; exact r.length.symm
  refine ⟨"tuple", _, PyProof.Rows.slot_tuple_getitem.lookup, ht.typeIs, ?_⟩
  refine HT.getItem_tuple_cut ht hs pl pu (by rw [hlen]; exact hw) ?_ (by rw [hlen]; exact hz)
  rw [hlen]
  refine ⟨.ref s.heap.objs.size, _, I.laid (t' := s.toks) (o := .tup (cutV xs lo hi)) (fun b ob q => Heap.get?_push_of_some _ q) (Nat.le_refl _) ?_, rfl, q _ (I.hok.fresh (Nat.le_refl _))⟩
  exact ⟨Nat.le_trans (cutV_length xs lo hi) hz, _, (r.drop (HT.sIx xs.length 0 lo)).take (HT.sIx xs.length xs.length hi - HT.sIx xs.length 0 lo), IsTup.new _ _⟩
end
end L2
namespace L2
open PySem PySem.Spec PyProof.Rows
def ixN (n : Nat) (i : Int) : Option Nat := if 0 ≤ i then (if i < n then some i.toNat else none) else if -(n : Int) ≤ i then some (i + n).toNat else none
def atI {α : Type} (xs : List α) (i : Int) : Option α := (ixN xs.length i).bind fun j => xs[j]?
theorem ixN_seq {n : Nat} {i : Int} {j : Nat} (h : ixN n i = some j) : seqIndex? i n = some j ∧ j < n ∧ -(n : Int) ≤ i ∧ i < n := by
  unfold ixN at h
  by_cases h0 : 0 ≤ i
  · rw [if_pos h0] at h
    by_cases h1 : i < n
    · rw [if_pos h1] at h
      have e : i.toNat = j := Option.some.inj h
      exact ⟨by rw [seqIndex_of h0 h1, e], by omega, by omega, h1⟩
    · rw [if_neg h1] at h; cases h
  · rw [if_neg h0] at h
    by_cases h1 : -(n : Int) ≤ i
    · rw [if_pos h1] at h
      have e : (i + n).toNat = j := Option.some.inj h
      exact ⟨by rw [seqIndex_neg (by omega) h1, e], by omega, h1, by omega⟩
    · rw [if_neg h1] at h; cases h
theorem atI_get {α : Type} {xs : List α} {i : Int} {v : α} (h : atI xs i = some v) : ∃ j, seqIndex? i xs.length = some j ∧ xs[j]? = some v ∧ j < xs.length ∧ -(xs.length : Int) ≤ i ∧ i < xs.length := by
  unfold atI at h
  cases e : ixN xs.length i with
  | none => rw [e] at h; cases h
  | some j =>
    rw [e] at h
    obtain ⟨h1, h2, h3, h4⟩ := ixN_seq e
    exact ⟨j, h1, h, h2, h3, h4⟩
def PlainIx (b : Expr) : Prop := ∀ o i, subscripted b false o i = operate [o, i] (getItem o i)
def IxR (X : Cx) (r : R2) : Prop :=
  ∀ (value slice : Expr) (pins : List (Addr × Obj)) (s : Shared) (σ : St) (H : Hp) (x y : V) (v u : Value) (Q : VK), Inv X pins σ H s → RelV x v → RelV y u → r x y H Q →
    subscripted slice false v u = operate [v, u] (getItem v u) → wpAny (model X.prog X.w) X.A (subscriptTail value slice v u) (EP X pins σ Q) X.xe s
def MtR (X : Cx) (id : String) (r : V → List V → Hp → VK → Prop) : Prop :=
  ∀ (pins : List (Addr × Obj)) (s : Shared) (σ : St) (H : Hp) (x : V) (xs : List V) (v : Value) (us : List Value) (Q : VK), Inv X pins σ H s → RelV x v → Vals xs us → r x xs H Q →
    wpAny (model X.prog X.w) X.A (call (.builtin id) (v :: us)) (EP X pins σ Q) X.xe s
section
variable {X : Cx} {a b : Expr} {ta tb : TE} {pos : Pos}
theorem IxR.or {r r' : R2} (h : IxR X r) (h' : IxR X r') : IxR X (fun x y H Q => r x y H Q ∨ r' x y H Q) := by
  intro value slice pins s σ H x y v u Q I rx ry q hs
  rcases q with q | q
  · exact h value slice pins s σ H x y v u Q I rx ry q hs
  · exact h' value slice pins s σ H x y v u Q I rx ry q hs
theorem MtR.or {id : String} {r r' : V → List V → Hp → VK → Prop} (h : MtR X id r) (h' : MtR X id r') : MtR X id (fun x xs H Q => r x xs H Q ∨ r' x xs H Q) := by
  intro pins s σ H x xs v us Q I rx rs q
  rcases q with q | q
  · exact h pins s σ H x xs v us Q I rx rs q
  · exact h' pins s σ H x xs v us Q I rx rs q
theorem pe_ix {r : R2} (hr : IxR X r) (ha : PE X a ta) (hb : PE X b tb) (hs : PlainIx b) : PE X (.Subscript a b pos) (tOp r ta tb) := by
  intro pins s σ H Q I h
  exact Subscript_ (binT ha hb I h fun v u s2 x y H2 I2 rx ry q => hr a b pins s2 σ H2 x y v u Q I2 rx ry q (hs _ _))
def rIxL (K : PySem.W.Frag) : R2 := fun x y H Q => ∃ p xs i v, x = .ref p ∧ y = .int i ∧ SqL K H p xs ∧ atI xs i = some v ∧ Q v H
def rIxT (K : PySem.W.Frag) : R2 := fun x y H Q => ∃ p xs i v, x = .ref p ∧ y = .int i ∧ SqT K H p xs ∧ atI xs i = some v ∧ Q v H
def rIxS : R2 := fun x y H Q => ∃ z i c, x = .str z ∧ y = .int i ∧ z.length ≤ sizeLine ∧ atI z.cps.toList i = some c ∧ Q (.str ⟨#[c]⟩) H
theorem ix_list : IxR X (rIxL X.K) := by
  intro value slice pins s σ H x y v u Q I rx ry h hs
  obtain ⟨p, xs, i, z, rfl, rfl, hq, he, q⟩ := h
  cases rx
  obtain ⟨t, rfl⟩ := ry
  obtain ⟨its, r, pl, hz⟩ := I.list hq
  obtain ⟨j, h1, h2, h3, h4, h5⟩ := atI_get he
  obtain ⟨w, ew, rw'⟩ := r.get h2
  have hl := r.length
  have hn := line63
  have fin : EP X pins σ Q w s := ⟨z, H, I, rw', q⟩
  by_cases h0 : 0 ≤ i
  · have hj : i.toNat = j := by
      rw [seqIndex_of h0 h5] at h1
      exact Option.some.inj h1
    exact item_listR pl.isList h0 (by omega) (by rw [hj]; simpa using ew) fin hs
  · have hj : (i + (its.toArray.size : Int)).toNat = j := by
      rw [seqIndex_neg (by omega) h4] at h1
      rw [List.size_toArray, ← hl]
      exact Option.some.inj h1
    exact subscriptTail_builtinR (x := w) pl.isList.typeIs slot_list_getitem.lookup
      (wpAny_getItem_list_neg (Q := fun r s' => r = w ∧ EP X pins σ Q r s') pl.isList (by omega) (by rw [List.size_toArray] <;> omega) (by omega) (by rw [hj]; simpa using ew) ⟨rfl, fin⟩) hs
theorem ix_tup : IxR X (rIxT X.K) := by
  intro value slice pins s σ H x y v u Q I rx ry h hs
  obtain ⟨p, xs, i, z, rfl, rfl, hq, he, q⟩ := h
  cases rx
  obtain ⟨t, rfl⟩ := ry
  obtain ⟨its, r, pl, hz⟩ := I.tuple hq
  obtain ⟨j, h1, h2, h3, h4, h5⟩ := atI_get he
  obtain ⟨w, ew, rw'⟩ := r.get h2
  have hl := r.length
  have hn := line63
  have fin : EP X pins σ Q w s := ⟨z, H, I, rw', q⟩
  exact subscriptTail_builtinR (x := w) pl.typeIs slot_tuple_getitem.lookup
    (getItem_tuple (j := j) (Q := fun r s' => r = w ∧ EP X pins σ Q r s') pl (by omega) (by omega) (by rw [List.size_toArray, ← hl]; exact h1) (by simpa using ew) ⟨rfl, fin⟩) hs
theorem ix_str : IxR X rIxS := by
  intro value slice pins s σ H x y v u Q I rx ry h hs
  obtain ⟨z, i, c, rfl, rfl, hz, he, q⟩ := h
  obtain ⟨t, rfl⟩ := rx
  obtain ⟨t', rfl⟩ := ry
  obtain ⟨j, h1, h2, h3, h4, h5⟩ := atI_get he
  have hl : z.cps.toList.length = z.length := by simp [Str.length]
  rw [hl] at h1 h4 h5
  have hn := line63
  exact tail_any (typeIs_str s z t) slot_str_getitem.lookup (getItem_str (c := c) (by
    have e1 : decide (i < -(2 ^ 63 : Int)) = false := decide_eq_false (by omega)
    have e2 : decide (i ≥ 2 ^ 63) = false := decide_eq_false (by omega)
    rw [e1, e2, Bool.or_false]) (by rw [h1]; simpa using h2) ⟨.str ⟨#[c]⟩, H, I.tok _, ⟨_, rfl⟩, q⟩) hs
theorem Inv.lst {pins : List (Addr × Obj)} {σ : St} {H : Hp} {s : Shared} {p : Addr} {xs : List V} (I : Inv X pins σ H s) (h : H p = some (.lst xs)) :
    ∃ (its : List Value) (n : Nat), Vals xs its ∧ s.heap.get? p = some { cls := .type "list", data := .seq its.toArray n } ∧ xs.length ≤ sizeLine := by
  obtain ⟨z, its, n, r, e⟩ := I.hok p _ h
  exact ⟨its, n, r, e, z⟩
theorem slice_bounds (lo hi : Option Int) (n : Nat) : (sliceBounds lo hi none n).1 = ((HT.sIx n 0 lo : Nat) : Int) ∧ (sliceBounds lo hi none n).2.1 = ((HT.sIx n n hi : Nat) : Int) ∧ (sliceBounds lo hi none n).2.2 = 1 := by
  refine ⟨?_, ?_, rfl⟩
  · cases lo with
    | none => simp [sliceBounds, HT.sIx]
    | some i =>
      simp only [sliceBounds, HT.sIx, Option.getD_none, show (1 : Int) > 0 by decide, if_true]
      by_cases h : i < 0
      · simp only [h, if_true] <;> omega
      · simp only [h, if_false] <;> omega
  · cases hi with
    | none => simp [sliceBounds, HT.sIx]
    | some i =>
      simp only [sliceBounds, HT.sIx, Option.getD_none, show (1 : Int) > 0 by decide, if_true]
      by_cases h : i < 0
      · simp only [h, if_true] <;> omega
      · simp only [h, if_false] <;> omega
theorem slicePick_cut (its : List Value) (lo hi : Option Int) : slicePick its.toArray lo hi none = ((its.drop (HT.sIx its.length 0 lo)).take (HT.sIx its.length its.length hi - HT.sIx its.length 0 lo)).toArray := by
  obtain ⟨h1, h2, h3⟩ := slice_bounds lo hi its.toArray.size
  unfold slicePick
  rw [h1, h2, h3]
  simp only [sliceRange_one, pick_run, List.size_toArray] <;> rfl
def rSlL (K : PySem.W.Frag) : V → Option Int → Option Int → Hp → VK → Prop := fun x lo hi H Q => ∃ a xs, x = .ref a ∧ SqL K H a xs ∧ ∀ p, H p = none → Q (.ref p) (upd H p (.lst (cutV xs lo hi)))
theorem sl_list : SlR X (rSlL X.K) := by
  intro pins s σ H x v vl vu lo hi sl Q I rx hs pl pu h
  obtain ⟨a, xs, rfl, hx, q⟩ := h
  cases rx
  obtain ⟨its, r, ht, hz⟩ := I.list hx
  have hlen := r.length
  refine ⟨"list", _, slot_list_getitem.lookup, ht.isList.typeIs, ?_⟩
  refine wpAny_getItem_list_slice ht.isList hs pl pu .none (by simp) ?_ (by rw [List.size_toArray] <;> omega)
  rw [slicePick_cut, ← hlen]
  refine ⟨.ref s.heap.objs.size, _, I.laid (t' := s.toks) (o := .lst (cutV xs lo hi)) (fun b ob q => Heap.get?_push_of_some _ q) (Nat.le_refl _) ?_, rfl, q _ (I.hok.fresh (Nat.le_refl _))⟩
  exact ⟨Nat.le_trans (cutV_length xs lo hi) hz, _, 0, (r.drop (HT.sIx xs.length 0 lo)).take (HT.sIx xs.length xs.length hi - HT.sIx xs.length 0 lo), Heap.get?_push_size _ rfl⟩
def flatV : V → Bool
  | .non => true
  | .bl _ => true
  | .int _ => true
  | .str _ => true
  | _ => false
def eqV : V → V → Bool
  | .non, .non => true
  | .bl a, .bl b => a == b
  | .bl a, .int b => (if a then 1 else 0) == b
  | .int a, .bl b => a == (if b then 1 else 0)
  | .int a, .int b => a == b
  | .str a, .str b => a == b
  | _, _ => false
theorem eqAt_V {A : Around} {s : Shared} {y x : V} {u v : Value} (ry : RelV y u) (rx : RelV x v) (fy : flatV y = true) (fx : flatV x = true) : SeqAt.EqAt A s u v (eqV y x) := by
  cases y with
  | non =>
    cases ry
    cases x with
    | non => cases rx; exact SeqAt.EqAt.same _
    | bl b => cases rx; exact SeqAt.EqAt.none_bool b
    | int b => obtain ⟨t, rfl⟩ := rx; exact SeqAt.EqAt.none_int b t
    | str b => obtain ⟨t, rfl⟩ := rx; exact SeqAt.EqAt.none_str b t
    | _ => exact absurd (show false = true from fx) Bool.false_ne_true
  | bl a =>
    cases ry
    cases x with
    | non => cases rx; exact SeqAt.EqAt.bool_none a
    | bl b => cases rx; exact SeqAt.EqAt.bool_bool a b
    | int b => obtain ⟨t, rfl⟩ := rx; exact SeqAt.EqAt.bool_int a b t
    | str b => obtain ⟨t, rfl⟩ := rx; exact SeqAt.EqAt.bool_str a b t
    | _ => exact absurd (show false = true from fx) Bool.false_ne_true
  | int a =>
    obtain ⟨t', rfl⟩ := ry
    cases x with
    | non => cases rx; exact SeqAt.EqAt.int_none a t'
    | bl b => cases rx; exact SeqAt.EqAt.int_bool a t' b
    | int b => obtain ⟨t, rfl⟩ := rx; exact SeqAt.EqAt.int_int a t' b t
    | str b => obtain ⟨t, rfl⟩ := rx; exact SeqAt.EqAt.int_str a t' b t
    | _ => exact absurd (show false = true from fx) Bool.false_ne_true
  | str a =>
    obtain ⟨t', rfl⟩ := ry
    cases x with
    | non => cases rx; exact SeqAt.EqAt.str_none a t'
    | bl b => cases rx; exact SeqAt.EqAt.str_bool a t' b
    | int b => obtain ⟨t, rfl⟩ := rx; exact SeqAt.EqAt.str_int a t' b t
    | str b => obtain ⟨t, rfl⟩ := rx; exact SeqAt.EqAt.str_str a t' b t
    | _ => exact absurd (show false = true from fx) Bool.false_ne_true
  | _ => exact absurd (show false = true from fy) Bool.false_ne_true
def eqU (x : V) (u : Value) : Bool := match u with
  | .none => eqV .non x
  | .bool b => eqV (.bl b) x
  | .int i _ => eqV (.int i) x
  | .str z _ => eqV (.str z) x
  | _ => false
theorem eqU_of {x y : V} {u : Value} (r : RelV y u) (f : flatV y = true) : eqU x u = eqV y x := by
  cases y with
  | non => cases r; rfl
  | bl b => cases r; rfl
  | int i => obtain ⟨t, rfl⟩ := r; rfl
  | str z => obtain ⟨t, rfl⟩ := r; rfl
  | _ => exact absurd (show false = true from f) Bool.false_ne_true
theorem any_eqU {x : V} : ∀ {xs : List V} {us : List Value}, Vals xs us → xs.all flatV = true → us.any (eqU x) = xs.any fun y => eqV y x
  | _, _, .nil, _ => rfl
  | y :: xs, u :: us, .cons r t, f => by
    rw [List.all_cons, Bool.and_eq_true] at f
    rw [List.any_cons, List.any_cons, eqU_of r f.1, any_eqU t f.2]
theorem mem_eqAt {A : Around} {s : Shared} {x : V} {v : Value} (rx : RelV x v) (fx : flatV x = true) : ∀ {xs : List V} {us : List Value}, Vals xs us → xs.all flatV = true → ∀ u ∈ us, SeqAt.EqAt A s u v (eqU x u)
  | _, _, .nil, _ => fun u hu => by cases hu
  | y :: xs, u :: us, .cons r t, f => fun u' hu => by
    rw [List.all_cons, Bool.and_eq_true] at f
    rcases List.mem_cons.mp hu with rfl | hu
    · rw [eqU_of r f.1]; exact eqAt_V r rx f.1 fx
    · exact mem_eqAt rx fx t f.2 u' hu
def inV (x : V) (xs : List V) : Bool := xs.any fun y => eqV y x
def rIn (K : PySem.W.Frag) (neg : Bool) : R2 := fun x y H Q => ∃ p xs, y = .ref p ∧ (SqL K H p xs ∨ SqT K H p xs) ∧ flatV x = true ∧ xs.all flatV = true ∧ Q (.bl (if neg then !inV x xs else inV x xs)) H
theorem op_in_seq : OpR X (compareOp .In) (rIn X.K false) := by
  intro pins s σ H x y v u Q I rx ry h
  obtain ⟨p, xs, rfl, hq, fx, fs, q⟩ := h
  cases ry
  rcases hq with hq | hq
  · obtain ⟨its, r, pl, hz⟩ := I.list hq
    refine SeqAt.in_listAt (eqU x) pl.isList (fun w hw => mem_eqAt rx fx r fs w (by simpa using hw)) ⟨.bl _, H, I, rfl, ?_⟩
    rw [show its.toArray.any (eqU x) = its.any (eqU x) by simp, any_eqU r fs]
    exact q
  · obtain ⟨its, r, pl, hz⟩ := I.tuple hq
    refine SeqAt.in_tupleAt (eqU x) pl (fun w hw => mem_eqAt rx fx r fs w (by simpa using hw)) ⟨.bl _, H, I, rfl, ?_⟩
    rw [show its.toArray.any (eqU x) = its.any (eqU x) by simp, any_eqU r fs]
    exact q
theorem CallR.or {f : Value} {r r' : List V → Hp → VK → Prop} (h : CallR X f r) (h' : CallR X f r') : CallR X f (fun xs H Q => r xs H Q ∨ r' xs H Q) := by
  intro pins s σ H xs us Q I rs q
  rcases q with q | q
  · exact h pins s σ H xs us Q I rs q
  · exact h' pins s σ H xs us Q I rs q
theorem call_list_of : CallR X (.type "list") (fun xs H Q => ∃ p ys, xs = [.ref p] ∧ (SqL X.K H p ys ∨ SqT X.K H p ys) ∧ ∀ l, H l = none → Q (.ref l) (upd H l (.lst ys))) := by
  intro pins s σ H xs us Q I r h
  obtain ⟨p, ys, rfl, hq, q⟩ := h
  obtain ⟨u, rfl, rx⟩ := vals1 r
  cases rx
  have fin : ∀ (its : List Value), Vals ys its → ys.length ≤ sizeLine → ∀ (h' : Heap) (c' : Nat), (∀ b o', s.heap.get? b = some o' → h'.get? b = some o') →
      h'.get? s.heap.objs.size = some { cls := .type "list", dict := none, data := .seq its.toArray c', slots := #[] } → EP X pins σ Q (.ref s.heap.objs.size) { s with heap := h' } := fun its r' hz h' c' kp e =>
    ⟨.ref s.heap.objs.size, _, I.laid (t' := s.toks) kp (Nat.le_refl _) (show ObjOk X.prog X.w _ h' _ (.lst ys) from ⟨hz, its, c', r', e⟩), rfl, q _ (I.hok.fresh (Nat.le_refl _))⟩
  rcases hq with hq | hq
  · obtain ⟨its, r', pl, hz⟩ := I.list hq
    have hlen := r'.length
    obtain ⟨o, ho, hc, n, hd⟩ := pl.isList
    exact call_list_seq p (.inl rfl) ho hc hd (fun h' c' kp e => fin its r' hz h' c' kp e) (by simp only [List.size_toArray] <;> omega)
  · obtain ⟨its, r', pl, hz⟩ := I.tuple hq
    have hlen := r'.length
    obtain ⟨o, ho, hc, n, hd⟩ := pl
    exact call_list_seq p (.inr rfl) ho hc hd (fun h' c' kp e => fin its r' hz h' c' kp e) (by simp only [List.size_toArray] <;> omega)
def tyV (K : PySem.W.Frag) (T : String) (x : V) (H : Hp) : Prop := match x with
  | .str _ => T = "str"
  | .int _ => T = "int"
  | .ref p => (T = "list" ∧ ∃ xs, SqL K H p xs) ∨ (T = "tuple" ∧ ∃ o, K.lookup p = some o ∧ o.cls = .type "tuple" ∧ o.dict = none) ∨
      (T = "dict" ∧ ((∃ kvs, H p = some (.dK kvs)) ∨ ∃ kvs, H p = some (.dT kvs))) ∨ (T = "set" ∧ ∃ S n, H p = some (.set S n))
  | _ => False
theorem tyV_is {pins : List (Addr × Obj)} {σ : St} {H : Hp} {s : Shared} {T : String} {x : V} {v : Value} (I : Inv X pins σ H s) (r : RelV x v) (ty : tyV X.K T x H) :
    s.TypeIs v T ∧ ∀ a, v = .ref a → ∃ ob, s.heap.get? a = some ob ∧ ob.dict = none := by
  cases x with
  | str z =>
    obtain ⟨t, rfl⟩ := r
    cases (show T = "str" from ty)
    exact ⟨typeIs_str s z t, fun _ e => nomatch e⟩
  | int i =>
    obtain ⟨t, rfl⟩ := r
    cases (show T = "int" from ty)
    exact ⟨typeIs_int s i t, fun _ e => nomatch e⟩
  | ref p =>
    cases r
    rcases ty with ⟨rfl, xs, hq⟩ | ⟨rfl, o, hk, hc, hd⟩ | ⟨rfl, hk⟩ | ⟨rfl, S, n, hk⟩
    · obtain ⟨its, _, pl, _⟩ := I.list hq
      refine ⟨pl.isList.typeIs, fun a e => ?_⟩
      cases e
      obtain ⟨o, n, e, c, hd, _⟩ := pl
      exact ⟨o, e, hd⟩
    · refine ⟨⟨o, I.kIn p o hk, hc⟩, fun a e => ?_⟩
      cases e
      exact ⟨o, I.kIn _ o hk, hd⟩
    · have z : ∃ o, s.heap.get? p = some o ∧ o.ExactDict := by
        rcases hk with ⟨kvs, hk⟩ | ⟨kvs, hk⟩
        · obtain ⟨_, _, _, _, o, _, _, e, ex, _⟩ := I.hok p _ hk
          exact ⟨o, e, ex⟩
        · obtain ⟨_, _, _, _, o, _, _, e, ex, _⟩ := I.hok p _ hk
          exact ⟨o, e, ex⟩
      obtain ⟨o, e, ex⟩ := z
      refine ⟨⟨o, e, ex.1⟩, fun a e2 => ?_⟩
      cases e2
      exact ⟨o, e, ex.2.1⟩
    · obtain ⟨o, _, _, _, e, ex, _⟩ := I.hok p _ hk
      refine ⟨⟨o, e, ex.1⟩, fun a e2 => ?_⟩
      cases e2
      exact ⟨o, e, ex.2.1⟩
  | _ => exact False.elim ty
def tBM (K : PySem.W.Frag) (T : String) (r : V → List V → Hp → VK → Prop) (to : TE) (t : TA) : TE := fun σ H Q => to σ H fun x H1 => tyV K T x H1 ∧ t σ H1 fun xs H2 => r x xs H2 Q
variable {o e : Expr} {es : List Expr} {to : TE} {t : TA} {name : Str} {apos cpos : Pos} {T id : String} {r : V → List V → Hp → VK → Prop}
theorem pe_bm (pa : PlainAttrs T) (slot : Slot T name id) (hty : typeOf (.builtin id) = pure (.type "method_descriptor")) (hm : MtR X id r) (ho : PE X o to) (ha : PA X (e :: es) t)
    (hbase : attributeBase o name X.env (eval o X.env) = eval o X.env := by rfl)
    (hfew : ((backTo cpos (starEach (e :: es) X.env)).all (fun x => !x.1) && (backToKw cpos (keywordEach [] X.env)).all (fun x => x.1.isSome)
      && decide ((e :: es).length + ([] : List Keyword).length + (if ([] : List Keyword).isEmpty then 0 else 1) < 30)) = true := by rfl)
    (hline : (apos.endLine == cpos.line) = true := by rfl) (hs : starEach (e :: es) X.env = (false, eval e X.env) :: starEach es X.env := by rfl) (hplain : (backTo cpos (starEach es X.env)).any (·.1) = false := by rfl) :
    PE X (.Call (.Attribute o name apos) (e :: es) [] cpos) (tBM X.K T r to t) := by
  intro pins s σ H Q I h
  refine wpAny_Call_method_late hbase hfew hline rfl (thn (ho pins s σ H _ I h) fun v s1 ⟨x, H1, I1, r1, ty, q1⟩ => ?_)
  obtain ⟨h1, h2⟩ := tyV_is I1 r1 ty
  refine ⟨T, id, pa, slot, hty, h1, h2, ?_⟩
  have hA := ha cpos pins s1 σ H1 _ I1 q1
  rw [hs] at hA ⊢
  refine Calls.callWith_builtin (by show (false || (backTo cpos (starEach es X.env)).any (·.1)) = false; rw [hplain] <;> rfl) (Calls.evalArgs_plain ?_)
  exact thn hA fun us s2 ⟨vs, H2, I2, r2, q2⟩ => hm pins s2 σ H2 x vs v us Q I2 r1 r2 q2
end
end L2
namespace L2
open PySem PySem.Spec PyProof.Rows
def MtM (X : Cx) (id : String) (r : V → List V → Hp → VK → Prop) : Prop :=
  ∀ (pins : List (Addr × Obj)) (s : Shared) (σ : St) (H : Hp) (x : V) (xs : List V) (v : Value) (us : List Value) (Q : VK), Inv X pins σ H s → RelV x v → Vals xs us → r x xs H Q →
    wpAny (model X.prog X.w) X.A (call (.builtin id) (v :: us)) (EP X pins σ Q) X.xe s
theorem Vals.one : ∀ {x : V} {us : List Value}, Vals [x] us → ∃ u, us = [u] ∧ RelV x u
  | _, _, .cons r .nil => ⟨_, rfl, r⟩
theorem Vals.zero : ∀ {us : List Value}, Vals [] us → us = []
  | _, .nil => rfl
theorem Vals.eraseIdx : ∀ {xs : List V} {us : List Value} (i : Nat), Vals xs us → Vals (xs.eraseIdx i) (us.eraseIdx i)
  | _, _, _, .nil => .nil
  | _, _, 0, .cons _ t => t
  | _, _, i + 1, .cons r t => .cons r (Vals.eraseIdx i t)
theorem Vals.reverse {xs : List V} {us : List Value} (h : Vals xs us) : Vals xs.reverse us.reverse := by
  induction h with
  | nil => exact .nil
  | cons r t ih => rw [List.reverse_cons, List.reverse_cons]; exact Vals.append ih (.cons r .nil)
theorem Vals.rep {xs : List V} {us : List Value} (h : Vals xs us) : ∀ k : Nat, Vals (List.replicate k xs).flatten (List.replicate k us).flatten
  | 0 => .nil
  | k + 1 => by
    rw [List.replicate_succ, List.replicate_succ, List.flatten_cons, List.flatten_cons]
    exact Vals.append h (Vals.rep h k)
theorem foldl_rep (its : List Value) : ∀ (k : Nat) (acc : List Value),
    List.foldl (fun x1 x2 => x1 ++ x2) acc.toArray (List.replicate k its.toArray) = (acc ++ (List.replicate k its).flatten).toArray
  | 0, acc => by simp
  | k + 1, acc => by
    have e : acc.toArray ++ its.toArray = (acc ++ its).toArray := by simp
    have e2 : (acc ++ its) ++ (List.replicate k its).flatten = acc ++ (List.replicate (k + 1) its).flatten := by
      rw [List.replicate_succ, List.flatten_cons, List.append_assoc]
    rw [← e2, ← foldl_rep its k (acc ++ its), ← e, List.replicate_succ, List.foldl_cons]
section
variable {X : Cx} {pins : List (Addr × Obj)} {σ : St} {H : Hp} {s : Shared} {l b : Addr} {xs ys zs : List V}
theorem Inv.lset {its its' : List Value} {n : Nat} {f : Array Value → Array Value} {t' : Nat} (I : Inv X pins σ H s) (hH : H l = some (.lst xs))
    (e : s.heap.get? l = some { cls := .type "list", data := .seq its.toArray n }) (hf : f its.toArray = its'.toArray) (hv : Vals ys its') (hz : ys.length ≤ sizeLine) :
    Inv X pins σ (upd H l (.lst ys)) { s with heap := s.heap.update l (Obj.mapSeq f), toks := t' } := by
  have q := PySem.IsL.update e f
  rw [hf] at q
  refine I.write (x := l) (e := l) (by rw [hH]; exact trivial) (.inl rfl) (fun b' u hb hu => (Heap.get?_update_other s.heap (Obj.mapSeq f) (Ne.symm hb)).trans hu) ⟨_, q⟩ ?_
  exact ⟨hz, its', _, hv, q⟩
theorem Inv.lnew {its : List Value} {t' : Nat} (I : Inv X pins σ H s) (hv : Vals ys its) (hz : ys.length ≤ sizeLine) :
    Inv X pins σ (upd H s.heap.objs.size (.lst ys)) { s with heap := s.heap.push { cls := .type "list", data := .seq its.toArray }, toks := t' } :=
  I.laid (fun _ _ q => Heap.get?_push_of_some _ q) (Nat.le_refl _) ⟨hz, its, 0, hv, Heap.get?_push_size _ rfl⟩
theorem Inv.fresh (I : Inv X pins σ H s) : H s.heap.objs.size = none := I.hok.fresh (Nat.le_refl _)
theorem Inv.lstM (I : Inv X pins σ H s) (hH : H l = some (.lst xs)) : xs.length ≤ sizeLine ∧ ∃ (its : List Value) (n : Nat), Vals xs its ∧ xs.length = its.length ∧ s.heap.get? l = some { cls := .type "list", data := .seq its.toArray n } := by
  obtain ⟨z, its, n, r, e⟩ := I.hok l _ hH
  exact ⟨z, its, n, r, r.length, e⟩
theorem notLongL {n : Nat} (h : n ≤ sizeLine) : Builtin.List.listTooLong n = false := by
  unfold Builtin.List.listTooLong
  exact decide_eq_false (by omega)
end
section
variable {X : Cx}
def rAppend : V → List V → Hp → VK → Prop := fun x vs H Q => ∃ l xs y, x = .ref l ∧ vs = [y] ∧ H l = some (.lst xs) ∧ xs.length < sizeLine ∧ Q .non (upd H l (.lst (xs ++ [y])))
theorem mt_append : MtM X "list.append" rAppend := by
  intro pins s σ H x vs v us Q I rx rv h
  obtain ⟨l, xs, y, rfl, rfl, hH, hz, q⟩ := h
  cases rx
  obtain ⟨u, rfl, ru⟩ := rv.one
  obtain ⟨z, its, n, r, hl, e⟩ := I.lstM hH
  refine call_meets F.slot_list_append ⟨_, e, rfl⟩ F.entry_list_append (F.args_list_append_2 _ _) (PySem.list_append l its.toArray n u (by rw [List.size_toArray]; omega)) ⟨e, ?_⟩
  refine ⟨.non, _, I.lset (its' := its ++ [u]) hH e (by simp) (r.append (.cons ru .nil)) ?_, rfl, q⟩
  rw [List.length_append, List.length_singleton]
  omega
def rRep : R2 := fun x y H Q => ∃ l k xs, x = .ref l ∧ y = .int k ∧ H l = some (.lst xs) ∧ -(2 ^ 63) ≤ k ∧ k < 2 ^ 63 ∧ xs.length * k.toNat ≤ sizeLine ∧
  ∀ p, H p = none → Q (.ref p) (upd H p (.lst (List.replicate k.toNat xs).flatten))
theorem len_rep {α : Type} (xs : List α) (k : Nat) : (List.replicate k xs).flatten.length = k * xs.length := by
  induction k with
  | zero => simp
  | succ k ih => rw [List.replicate_succ, List.flatten_cons, List.length_append, ih, Nat.succ_mul, Nat.add_comm]
theorem op_rep : OpR X (binaryOp .Mult) rRep := by
  intro pins s σ H x y v u Q I rx ry h
  obtain ⟨l, k, xs, rfl, rfl, hH, h1, h2, hz, q⟩ := h
  cases rx
  obtain ⟨t, rfl⟩ := ry
  obtain ⟨z, its, n, r, hl, e⟩ := I.lstM hH
  have hlen : its.toArray.size * k.toNat ≤ sizeLine := by rw [List.size_toArray, ← hl]; exact hz
  have hcap : ¬ its.toArray.size * k.toNat > (2 ^ 63 - 1) / 8 := by
    have : (sizeLine : Nat) ≤ (2 ^ 63 - 1) / 8 := by decide
    omega
  have hfit : ¬ (!Builtin.List.listFitsIndex k) = true := by
    rw [fitsIndex_both h1 h2]
    exact Bool.false_ne_true
  have hlong : ¬ Builtin.List.listTooLong (its.toArray.size * k.toNat) = true := by
    rw [notLongL hlen]
    exact Bool.false_ne_true
  have hnew : List.foldl (fun x1 x2 => x1 ++ x2) #[] (List.replicate (if its.toArray.isEmpty = true then 0 else k.toNat) its.toArray) = (List.replicate k.toNat its).flatten.toArray := by
    have f0 : ∀ m : Nat, List.foldl (fun x1 x2 => x1 ++ x2) #[] (List.replicate m its.toArray) = (List.replicate m its).flatten.toArray := fun m => by
      have := foldl_rep its m []
      rw [List.nil_append] at this
      exact this
    rw [f0]
    cases its with
    | nil => simp
    | cons a r' => rw [if_neg (by simp)]
  refine wpAny_binaryOp_repeat_ref (T := "list") (U := "int") (by decide) ⟨_, e, rfl⟩ (fun s' => typeIs_int s' k t) noFill_list_mul F.fills_int_mul F.slot_int_rmul repeat_list F.slot_int_index.lookup
    (call_meets F.slot_int_rmul (typeIs_int s k t) F.entry_int_rmul (F.args_int_rmul_2 _ _) (int___rmul___int_list k t l its.toArray n)
      ⟨e, rfl, ⟨_, e, rfl⟩, call_meets F.slot_list_mul ⟨_, e, rfl⟩ F.entry_list_mul (F.args_list_mul_2 _ _) (AutoListH.list___mul___list_int_3 l its.toArray n k t hfit hcap hlong) ⟨e, ?_⟩⟩)
  rw [hnew]
  exact ⟨.ref _, _, I.lnew (t' := s.toks) (r.rep k.toNat) (by rw [len_rep, Nat.mul_comm]; exact hz), rfl, q _ I.fresh⟩
end
section
variable {prog : Program} {w : World} {A : Around} {E : Value → Shared → Prop} {s : Shared}
end
section
variable {X : Cx}
end
end L2
namespace L2
open PySem PySem.Spec PyProof.Rows
section
variable {κ : Type} [DecidableEq κ]
def valV (kvs : List (κ × V)) (k : κ) : Option V := (kvs.find? fun kv => decide (kv.1 = k)).map (·.2)
def putK (kvs : List (κ × V)) (k : κ) (v : V) : List (κ × V) :=
  if (kvs.any fun kv => decide (kv.1 = k)) = true then kvs.map (fun kv => if kv.1 = k then (kv.1, v) else kv) else kvs ++ [(k, v)]
def dropK (kvs : List (κ × V)) (k : κ) : List (κ × V) := kvs.filter fun kv => decide (kv.1 ≠ k)
theorem valV_pos {p : κ × V} {r : List (κ × V)} {k : κ} (e : p.1 = k) : valV (p :: r) k = some p.2 := by simp [valV, List.find?_cons, e]
theorem valV_neg {p : κ × V} {r : List (κ × V)} {k : κ} (e : ¬ p.1 = k) : valV (p :: r) k = valV r k := by simp [valV, List.find?_cons, e]
theorem valV_any (k : κ) : ∀ kvs : List (κ × V), (kvs.any fun kv => decide (kv.1 = k)) = (valV kvs k).isSome
  | [] => rfl
  | p :: r => by
    rw [List.any_cons]
    by_cases e : p.1 = k
    · simp only [valV_pos e, decide_eq_true e, Bool.true_or, Option.isSome_some]
    · rw [valV_neg e, decide_eq_false e, Bool.false_or]; exact valV_any k r
theorem length_putK (kvs : List (κ × V)) (k : κ) (v : V) : (putK kvs k v).length ≤ kvs.length + 1 := by
  unfold putK
  split
  · rw [List.length_map]; omega
  · rw [List.length_append, List.length_cons, List.length_nil]; omega
theorem putK_new {kvs : List (κ × V)} {k : κ} (v : V) (h : valV kvs k = none) : putK kvs k v = kvs ++ [(k, v)] := by
  unfold putK
  rw [valV_any, h]
  exact if_neg (by decide)
theorem RelO.isSome_eq {o : Option V} {u : Option Value} (r : RelO o u) : o.isSome = u.isSome := by
  cases o with
  | none => cases u with
    | none => rfl
    | some _ => exact (show False from r).elim
  | some _ => cases u with
    | none => exact (show False from r).elim
    | some _ => rfl
theorem RelO.getD {o : Option V} {u : Option Value} {d : V} {d' : Value} (r : RelO o u) (rd : RelV d d') : RelV (o.getD d) (u.getD d') := by
  cases o with
  | none => cases u with
    | none => exact rd
    | some _ => exact (show False from r).elim
  | some _ => cases u with
    | none => exact (show False from r).elim
    | some _ => exact r
theorem KV.val {kvs : List (κ × V)} {vs : List (κ × Value)} (r : KV kvs vs) (k : κ) : RelO (valV kvs k) (valueAt vs k) := by
  unfold KV at r
  induction r with
  | nil => exact True.intro
  | @cons p q ps qs h t ih =>
    obtain ⟨h1, h2⟩ := h
    by_cases e : p.1 = k
    · have e' : q.1 = k := h1.symm.trans e
      have b : valueAt (q :: qs) k = some q.2 := by simp [valueAt, List.find?_cons, e']
      rw [valV_pos e, b]; exact h2
    · have e' : ¬ q.1 = k := fun z => e (h1.trans z)
      have b : valueAt (q :: qs) k = valueAt qs k := by simp [valueAt, List.find?_cons, e']
      rw [valV_neg e, b]; exact ih
theorem KV.any {kvs : List (κ × V)} {vs : List (κ × Value)} (r : KV kvs vs) (k : κ) : (kvs.any fun kv => decide (kv.1 = k)) = vs.any fun kv => decide (kv.1 = k) := by
  unfold KV at r
  induction r with
  | nil => rfl
  | cons h t ih => rw [List.any_cons, List.any_cons, ih, h.1]
theorem KV.repl {kvs : List (κ × V)} {vs : List (κ × Value)} (r : KV kvs vs) (k : κ) {y : V} {u : Value} (ry : RelV y u) :
    KV (kvs.map fun kv => if kv.1 = k then (kv.1, y) else kv) (vs.map fun kv => if kv.1 = k then (kv.1, u) else kv) := by
  unfold KV at r ⊢
  induction r with
  | nil => exact .nil
  | @cons p q ps qs h t ih =>
    rw [List.map_cons, List.map_cons]
    refine .cons ?_ ih
    obtain ⟨h1, h2⟩ := h
    by_cases e : p.1 = k
    · rw [if_pos e, if_pos (h1.symm.trans e)]; exact ⟨h1, ry⟩
    · rw [if_neg e, if_neg (fun z => e (h1.trans z))]; exact ⟨h1, h2⟩
theorem KV.put {kvs : List (κ × V)} {vs : List (κ × Value)} (r : KV kvs vs) (k : κ) {y : V} {u : Value} (ry : RelV y u) : KV (putK kvs k y) (stored vs k u) := by
  unfold putK stored
  rw [r.any k]
  by_cases e : (vs.any fun kv => decide (kv.1 = k)) = true
  · rw [if_pos e, if_pos e]; exact r.repl k ry
  · rw [if_neg e, if_neg e]; exact Paired.snoc r ⟨rfl, ry⟩
theorem KV.drop {kvs : List (κ × V)} {vs : List (κ × Value)} (r : KV kvs vs) (k : κ) : KV (dropK kvs k) (without vs k) := by
  unfold KV at r ⊢
  unfold dropK without
  induction r with
  | nil => exact .nil
  | @cons p q ps qs h t ih =>
    obtain ⟨h1, h2⟩ := h
    rw [List.filter_cons, List.filter_cons]
    by_cases e : p.1 = k
    · have a : ¬ decide (p.1 ≠ k) = true := by simp [e]
      have b : ¬ decide (q.1 ≠ k) = true := by simp [h1.symm.trans e]
      rw [if_neg a, if_neg b]; exact ih
    · have e' : ¬ q.1 = k := fun z => e (h1.trans z)
      have a : decide (p.1 ≠ k) = true := by simp [e]
      have b : decide (q.1 ≠ k) = true := by simp [e']
      rw [if_pos a, if_pos b]; exact .cons ⟨h1, h2⟩ ih
theorem KV.keys {kvs : List (κ × V)} {vs : List (κ × Value)} (r : KV kvs vs) : kvs.map (·.1) = vs.map (·.1) := by
  unfold KV at r
  induction r with
  | nil => rfl
  | cons h t ih => rw [List.map_cons, List.map_cons, ih, h.1]
theorem KV.length {kvs : List (κ × V)} {vs : List (κ × Value)} (r : KV kvs vs) : kvs.length = vs.length := Paired.length r
end
theorem kV_is {P : Program} {w : World} {k : Key} {u : Value} (r : RelV (kV k) u) : (mixKind P w).is k u = true := by
  cases k with
  | inl i => obtain ⟨t, e⟩ := (show ∃ t, u = Value.int i t from r); subst e; exact mixKind_int P w i t
  | inr x => obtain ⟨t, e⟩ := (show ∃ t, u = Value.str x t from r); subst e; exact mixKind_str P w x t
theorem items_are {P : Program} {w : World} : ∀ {ks : List Key} {us : List Value}, Vals (ks.map kV) us → ItemsAre (mixKind P w) ks us
  | [], _, r => by rw [List.map_nil] at r; cases r; exact .nil
  | k :: ks, _, r => by
    rw [List.map_cons] at r
    cases r with
    | cons h t => exact .cons (kV_is h) (items_are t)
abbrev KT (H : Hp) : List (List Key × V) → List (List Key × Addr × Value) → Prop := Paired fun p q => p.1 = q.1 ∧ H q.2.1 = some (.tup (p.1.map kV)) ∧ RelV p.2 q.2.2
theorem KT.val {H : Hp} {kvs : List (List Key × V)} {xs : List (List Key × Addr × Value)} (r : KT H kvs xs) (k : List Key) : RelO (valV kvs k) ((atKey xs k).map (·.2)) := by
  induction r with
  | nil => exact True.intro
  | @cons p q ps qs h t ih =>
    obtain ⟨h1, _, h2⟩ := h
    by_cases e : p.1 = k
    · have e' : q.1 = k := h1.symm.trans e
      have b : atKey (q :: qs) k = some q.2 := by simp [atKey, List.find?_cons, e']
      rw [valV_pos e, b]; exact h2
    · have e' : ¬ q.1 = k := fun z => e (h1.trans z)
      have b : atKey (q :: qs) k = atKey qs k := by simp [atKey, List.find?_cons, e']
      rw [valV_neg e, b]; exact ih
theorem KT.repl {H : Hp} {kvs : List (List Key × V)} {xs : List (List Key × Addr × Value)} (r : KT H kvs xs) (k : List Key) {y : V} {u : Value} (ry : RelV y u) :
    KT H (kvs.map fun kv => if kv.1 = k then (kv.1, y) else kv) (xs.map (putAt k u)) := by
  induction r with
  | nil => exact .nil
  | @cons p q ps qs h t ih =>
    rw [List.map_cons, List.map_cons]
    refine .cons ?_ ih
    obtain ⟨h1, h2, h3⟩ := h
    unfold putAt
    by_cases e : p.1 = k
    · rw [if_pos e, if_pos (h1.symm.trans e)]; exact ⟨h1, h2, ry⟩
    · rw [if_neg e, if_neg (fun z => e (h1.trans z))]; exact ⟨h1, h2, h3⟩
theorem KT.put {H : Hp} {kvs : List (List Key × V)} {xs : List (List Key × Addr × Value)} (r : KT H kvs xs) (k : List Key) {b : Addr} {y : V} {u : Value} (hb : H b = some (.tup (k.map kV))) (ry : RelV y u) :
    KT H (putK kvs k y) (storedH xs k b u) := by
  have e : (kvs.any fun kv => decide (kv.1 = k)) = (atKey xs k).isSome := by
    rw [valV_any, (r.val k).isSome_eq, Option.isSome_map]
  unfold putK storedH
  rw [e]
  by_cases q : (atKey xs k).isSome = true
  · rw [if_pos q, if_pos q]; exact r.repl k ry
  · rw [if_neg q, if_neg q]; exact Paired.snoc r ⟨rfl, hb, ry⟩
theorem KT.keeps {H H' : Hp} {kvs : List (List Key × V)} {xs : List (List Key × Addr × Value)} (r : KT H kvs xs) (ht : ∀ b ys, H b = some (.tup ys) → H' b = some (.tup ys)) : KT H' kvs xs :=
  Paired.mapP r fun _ _ z => ⟨z.1, ht _ _ z.2.1, z.2.2⟩
section
variable {P : Program} {w : World} {H : Hp} {h : Heap} {a : Addr}
theorem rd_of {u : HO} (ok : HOk P w H h) (e : Rd H a u) : ObjOk P w H h a u := e.ok ok
theorem dk_rd {kvs : List (Key × V)} (ok : HOk P w H h) (e : Rd H a (.dK kvs)) : kvs.length ≤ sizeLine ∧ (a == sysModules) = false ∧ ∃ vs, KV kvs vs ∧ h.DictOf (mixKind P w) a vs :=
  show ObjOk P w H h a (.dK kvs) from rd_of ok e
theorem dk_of {kvs : List (Key × V)} (ok : HOk P w H h) (e : H a = some (.dK kvs)) : kvs.length ≤ sizeLine ∧ (a == sysModules) = false ∧ ∃ vs, KV kvs vs ∧ h.DictOf (mixKind P w) a vs := dk_rd ok (.inl e)
theorem key_of {ks : List Key} (ok : HOk P w H h) (e : H a = some (.tup (ks.map kV))) : (tupleKind (mixKind P w)).is h ks a := by
  obtain ⟨_, its, r, o, h1, h2, n, h3⟩ := (show ObjOk P w H h a (.tup (ks.map kV)) from ok a _ e)
  exact ⟨o, its.toArray, n, h1, h2, h3, by simpa using items_are r⟩
theorem dt_rd {kvs : List (List Key × V)} (ok : HOk P w H h) (e : Rd H a (.dT kvs)) : kvs.length ≤ sizeLine ∧ (a == sysModules) = false ∧
    ∃ xs, KT H kvs xs ∧ h.DictOfH (tupleKind (mixKind P w)) a xs := by
  obtain ⟨z, y, xs, r, o, es, ep, h1, h2, h3, h4, h5⟩ := (show ObjOk P w H h a (.dT kvs) from rd_of ok e)
  refine ⟨z, y, xs, r, o, es, ep, h1, h2, h3, h4, fun x hx => ?_, h5⟩
  have all : ∀ {l : List (List Key × V)} {m : List (List Key × Addr × Value)}, KT H l m → ∀ x ∈ m, (tupleKind (mixKind P w)).is h x.1 x.2.1 := by
    intro l m q
    induction q with
    | nil => intro x hx; exact nomatch hx
    | @cons p q ps qs hq t ih =>
      intro x hx
      rcases List.mem_cons.mp hx with e | hx
      · subst e
        exact key_of ok (by rw [← hq.1]; exact hq.2.1)
      · exact ih x hx
  exact all r x hx
theorem dt_of {kvs : List (List Key × V)} (ok : HOk P w H h) (e : H a = some (.dT kvs)) : kvs.length ≤ sizeLine ∧ (a == sysModules) = false ∧
    ∃ xs, KT H kvs xs ∧ h.DictOfH (tupleKind (mixKind P w)) a xs := dt_rd ok (.inl e)
end
def DGet (H : Hp) (a : Addr) (y : V) (r : Option V) : Prop :=
  (∃ kvs k, Rd H a (.dK kvs) ∧ y = kV k ∧ r = valV kvs k) ∨ ∃ kvs k b, Rd H a (.dT kvs) ∧ y = .ref b ∧ H b = some (.tup (k.map kV)) ∧ r = valV kvs k
def DPut (H : Hp) (a : Addr) (y v : V) (H' : Hp) : Prop :=
  (∃ kvs k, H a = some (.dK kvs) ∧ y = kV k ∧ kvs.length < sizeLine ∧ H' = upd H a (.dK (putK kvs k v))) ∨
  ∃ kvs k b, H a = some (.dT kvs) ∧ y = .ref b ∧ H b = some (.tup (k.map kV)) ∧ kvs.length < sizeLine ∧ H' = upd H a (.dT (putK kvs k v))
theorem DGet.k {H : Hp} {a : Addr} {kvs : List (Key × V)} {k : Key} (e : H a = some (.dK kvs)) : DGet H a (kV k) (valV kvs k) := .inl ⟨kvs, k, .inl e, rfl, rfl⟩
theorem DGet.t {H : Hp} {a b : Addr} {kvs : List (List Key × V)} {k : List Key} (e : H a = some (.dT kvs)) (eb : H b = some (.tup (k.map kV))) : DGet H a (.ref b) (valV kvs k) := .inr ⟨kvs, k, b, .inl e, rfl, eb, rfl⟩
theorem DPut.k {H : Hp} {a : Addr} {kvs : List (Key × V)} {k : Key} {v : V} (e : H a = some (.dK kvs)) (hl : kvs.length < sizeLine) : DPut H a (kV k) v (upd H a (.dK (putK kvs k v))) := .inl ⟨kvs, k, e, rfl, hl, rfl⟩
theorem DPut.t {H : Hp} {a b : Addr} {kvs : List (List Key × V)} {k : List Key} {v : V} (e : H a = some (.dT kvs)) (eb : H b = some (.tup (k.map kV))) (hl : kvs.length < sizeLine) :
    DPut H a (.ref b) v (upd H a (.dT (putK kvs k v))) := .inr ⟨kvs, k, b, e, rfl, eb, hl, rfl⟩
section
variable {X : Cx} {pins : List (Addr × Obj)} {σ : St} {H : Hp} {s : Shared} {a : Addr} {y v : V} {u r : Value} {o : Option V} {A : Around} {E : Value → Shared → Prop}
theorem Inv.big (I : Inv X pins σ H s) : sysModules < s.heap.objs.size := by
  have h : mainGlobals < s.heap.objs.size := (I.mod.glob.keeps I.bk).lt
  exact Nat.lt_trans (by decide) h
theorem d_getItem {Q : Value → Shared → Prop} (hu : A.units + 1 < cLine) (I : Inv X pins σ H s) (g : DGet H a y (some v)) (ry : RelV y u) (h : ∀ w' s', Inv X pins σ H s' → RelV v w' → Q w' s') :
    wpAny (model X.prog X.w) A (getItem (.ref a) u) Q E s := by
  rcases g with ⟨kvs, k, e, ey, l⟩ | ⟨kvs, k, b, e, ey, eb, l⟩
  · subst ey
    obtain ⟨z, hd, vs, rel, dd⟩ := dk_rd I.hok e
    obtain ⟨w', hw, rw'⟩ := RelO.some_of (v := v) (o := valueAt vs k) (by rw [l]; exact rel.val k)
    exact wpAny_getItem_of (kV_is ry) dd.mapOf hw (h w' _ (I.tok _) rw')
  · subst ey
    cases (show u = Value.ref b from ry)
    obtain ⟨z, hd, xs, rel, dd⟩ := dt_rd I.hok e
    obtain ⟨w', hw, rw'⟩ := RelO.some_of (v := v) (o := (atKey xs k).map (·.2)) (by rw [l]; exact rel.val k)
    obtain ⟨p, hp, hp2⟩ := Option.map_eq_some_iff.mp hw
    refine wpAny_getItem_heap (tupleKind_room_in1 hu) (key_of I.hok eb) dd hp ?_
    rw [hp2]
    exact h w' _ (I.tok _) rw'
theorem d_in {Q : Value → Shared → Prop} (hu : A.units + 1 < cLine) (I : Inv X pins σ H s) (g : DGet H a y o) (ry : RelV y u) (h : ∀ s', Inv X pins σ H s' → Q (.bool o.isSome) s') :
    wpAny (model X.prog X.w) A (compareOp .In u (.ref a)) Q E s := by
  rcases g with ⟨kvs, k, e, ey, l⟩ | ⟨kvs, k, b, e, ey, eb, l⟩
  · subst ey
    obtain ⟨z, hd, vs, rel, dd⟩ := dk_rd I.hok e
    refine wpAny_in_of (kV_is ry) hd dd.mapOf ?_
    rw [← (rel.val k).isSome_eq, ← l]
    exact h _ (I.tok _)
  · subst ey
    cases (show u = Value.ref b from ry)
    obtain ⟨z, hd, xs, rel, dd⟩ := dt_rd I.hok e
    refine wpAny_in_heap (tupleKind_room_in1 hu) (key_of I.hok eb) hd dd ?_
    have q := (rel.val k).isSome_eq
    rw [Option.isSome_map] at q
    rw [← q, ← l]
    exact h _ (I.tok _)
theorem d_write {h' : Heap} {t' : Nat} {ob : HO} (I : Inv X pins σ H s) (mu : Mut (H a)) (hs : Heap.SameBut a s.heap h') (he : ∃ q, h'.get? a = some q) (new : ObjOk X.prog X.w (upd H a ob) h' a ob) :
    Inv X pins σ (upd H a ob) { s with heap := h', toks := t' } :=
  I.write (x := a) (e := a) mu (.inl rfl) (fun b q hb z => (hs.2 b hb).trans z) he new
theorem dk_new {P : Program} {w : World} {H' : Hp} {h' : Heap} {kvs : List (Key × V)} {vs : List (Key × Value)} (z : kvs.length ≤ sizeLine) (hd : (a == sysModules) = false) (rel : KV kvs vs) (dd : h'.DictOf (mixKind P w) a vs) :
    ObjOk P w H' h' a (.dK kvs) := ⟨z, hd, vs, rel, dd⟩
theorem d_setItem {H' : Hp} {Q : Unit → Shared → Prop} (hu : A.units + 1 < cLine) (I : Inv X pins σ H s) (g : DPut H a y v H') (ry : RelV y u) (rv : RelV v r) (h : ∀ s', Inv X pins σ H' s' → Q () s') :
    wpAny (model X.prog X.w) A (setItem (.ref a) u r) Q E s := by
  rcases g with ⟨kvs, k, e, ey, l, eH⟩ | ⟨kvs, k, b, e, ey, eb, l, eH⟩
  · subst ey eH
    obtain ⟨z, hd, vs, rel, dd⟩ := dk_of I.hok e
    have hz : vs.length ≤ sizeLine := by rw [← rel.length]; exact z
    have hl : (putK kvs k v).length ≤ sizeLine := by have := length_putK kvs k v; omega
    refine wpAny_setItem_pairs (hsz := hz) (kV_is ry) dd fun h' dd' hs => h _ ?_
    have he : ∃ q, h'.get? a = some q := let ⟨q, _, _, hq, _⟩ := dd'; ⟨q, hq⟩
    exact d_write I (by rw [e]; exact True.intro) hs he (dk_new hl hd (rel.put k rv) dd')
  · subst ey eH
    cases (show u = Value.ref b from ry)
    obtain ⟨z, hd, xs, rel, dd⟩ := dt_of I.hok e
    have hz : xs.length ≤ sizeLine := by rw [← Paired.length rel]; exact z
    have hl : (putK kvs k v).length ≤ sizeLine := by have := length_putK kvs k v; omega
    refine wpAny_setItem_heap (hsz := hz) (tupleKind_room_in1 hu) (key_of I.hok eb) dd fun h' dd' hs => h _ ?_
    obtain ⟨q, es, ep, hq, h2, h3, h4, _, h5⟩ := dd'
    refine d_write I (by rw [e]; exact True.intro) hs ⟨q, hq⟩ ⟨hl, hd, _, (rel.put k eb rv).keeps fun c ys ec => ?_, q, es, ep, hq, h2, h3, h4, h5⟩
    rw [upd_ne (ne_of ec e (fun z => nomatch z))]
    exact ec
end
section
variable {X : Cx} {pins : List (Addr × Obj)} {σ : St} {H : Hp} {s : Shared} {a : Addr} {kvs : List (Key × V)} {k : Key} {u : Value} {A : Around} {E : Value → Shared → Prop}
theorem d_len {Q : Value → Shared → Prop} (I : Inv X pins σ H s) (e : Rd H a (.dK kvs)) (h : ∀ t s', Inv X pins σ H s' → Q (.int kvs.length t) s') : wpAny (model X.prog X.w) A (call (.builtin "len") [.ref a]) Q E s := by
  obtain ⟨z, hd, vs, rel, dd⟩ := dk_rd I.hok e
  refine call_len_dict hd dd (by rw [← rel.length]; rw [sizeLine_eq] at z; omega) ?_
  rw [← rel.length]
  exact h _ _ (I.tok _)
end
def NoSl (i : Expr) : Prop := ∀ ov iv, subscripted i false ov iv = operate [ov, iv] (getItem ov iv)
theorem subD_of {prog : Program} {w : World} {A : Around} {E : Value → Shared → Prop} {s : Shared} {env : Env} {value slice : Expr} {pos : Pos} {T id : String} {Q : Value → Shared → Prop}
    (hl : typeLookup (.type T) "__getitem__" = pure (some (.builtin id))) (hs : NoSl slice)
    (h : wpAny (model prog w) A (eval value env) (fun o s₁ => wpAny (model prog w) A (eval slice env) (fun i s₂ => s₂.TypeIs o T ∧ wpAny (model prog w) A (getItem o i) Q E s₂) E s₁) E s) :
    wpAny (model prog w) A (eval (.Subscript value slice pos) env) Q E s := by
  refine Subscript_ (wpAny_mono h (fun o s₁ h₁ => wpAny_mono h₁ (fun i s₂ h₂ => ?_) fun _ _ x => x) fun _ _ x => x)
  obtain ⟨hT, h₂⟩ := h₂
  unfold subscriptTail
  refine wpAny_bind ?_
  rw [getitemInPython_of_ne hT.not_modules]
  refine wpAny_bind (wpAny_specialOf hT hl ?_)
  have fin : wpAny (model prog w) A (subscripted slice false o i) (fun r s₃ => wpAny (model prog w) A (letTemporaryGo value o r >>= fun _ => pure r) Q E s₃) E s₂ := by
    rw [hs o i]
    exact wpAny_operating (wpAny_mono h₂ (fun r s₃ h₃ => wpAny_bind (wpAny_letTemporaryGo (wpAny_pure h₃))) fun _ _ x => x)
  first
    | exact wpAny_pure (wpAny_bind fin)
    | exact wpAny_bind (wpAny_pure (wpAny_bind fin))
    | exact wpAny_bind fin
theorem dict_typeIs {X : Cx} {pins : List (Addr × Obj)} {σ : St} {H : Hp} {s : Shared} {a : Addr} {y : V} {o : Option V} (I : Inv X pins σ H s) (g : DGet H a y o) : s.TypeIs (.ref a) "dict" := by
  rcases g with ⟨kvs, k, e, _, _⟩ | ⟨kvs, k, b, e, _, _, _⟩
  · obtain ⟨_, _, vs, _, dd⟩ := dk_rd I.hok e
    exact dd.typeIs
  · obtain ⟨_, _, xs, _, dd⟩ := dt_rd I.hok e
    exact dd.typeIs
def tDGet (td ty : TE) : TE := fun σ H Q => td σ H fun x H1 => ty σ H1 fun y H2 => ∃ a v, x = .ref a ∧ DGet H2 a y (some v) ∧ Q v H2
def tDIn (ty td : TE) : TE := fun σ H Q => ty σ H fun y H1 => td σ H1 fun x H2 => ∃ a o, x = .ref a ∧ DGet H2 a y o ∧ Q (.bl o.isSome) H2
def sDPut (td ty tv : TE) : TS := fun D σ H => tv σ H fun v H1 => td σ H1 fun x H2 => ty σ H2 fun y H3 => ∃ a H4, x = .ref a ∧ DPut H3 a y v H4 ∧ D.nx σ H4
section
variable {X : Cx} {o i e value : Expr} {pos pos' tpos : Pos} {td ty tv : TE}
theorem pe_dget (hu : X.A.units + 1 < cLine) (ho : PE X o td) (hi : PE X i ty) (hs : NoSl i) : PE X (.Subscript o i pos) (tDGet td ty) := by
  intro pins s σ H Q I h
  refine subD_of PySem.F.slot_dict_getitem.lookup hs (thn (ho pins s σ H _ I h) fun u s1 ⟨x, H1, I1, rx, q1⟩ => thn (hi pins s1 σ H1 _ I1 q1) fun iv s2 ⟨y, H2, I2, ry, a, v, ex, g, q2⟩ => ?_)
  subst ex
  obtain rfl : u = Value.ref a := rx
  exact ⟨dict_typeIs I2 g, d_getItem hu I2 g ry fun w' s3 I3 rw' => ⟨v, H2, I3, rw', q2⟩⟩
theorem pc_din (hu : X.A.units + 1 < cLine) (hi : PE X i ty) (ho : PE X o td) : PC X .In i o (tDIn ty td) := by
  intro pins s σ H Q I h
  refine thn (hi pins s σ H _ I h) fun iv s1 ⟨y, H1, I1, ry, q1⟩ => thn (ho pins s1 σ H1 _ I1 q1) fun u s2 ⟨x, H2, I2, rx, a, ov, ex, g, q2⟩ => ?_
  subst ex
  obtain rfl : u = Value.ref a := rx
  exact d_in hu I2 g ry fun s3 I3 => ⟨.bl ov.isSome, H2, I3, rfl, q2⟩
theorem ps_dput (hu : X.A.units + 1 < cLine) (ho : PE X o td) (hi : PE X i ty) (hv : PE X value tv) (hs : swapsWith value (some (.Subscript o i pos')) pos.line X.env = pure false) :
    PS X (.Assign [.Subscript o i pos'] value pos) (sDPut td ty tv) := by
  intro pins s σ H D I h
  refine wpAny_Assign_Subscript (thn (hv pins s σ H _ I h) fun r s1 ⟨v, H1, I1, rv, q1⟩ => thn (ho pins s1 σ H1 _ I1 q1) fun u s2 ⟨x, H2, I2, rx, q2⟩ => thn (hi pins s2 σ H2 _ I2 q2) fun iv s3 ⟨y, H3, I3, ry, a, H4, ex, g, q3⟩ => ?_) hs
  subst ex
  obtain rfl : u = Value.ref a := rx
  exact d_setItem hu I3 g ry rv fun s4 I4 => ⟨σ, H4, I4, q3⟩
end
theorem dk_empty {P : Program} {w : World} {H : Hp} (h : Heap) (hb : sysModules < h.objs.size) : ObjOk P w H (h.push { cls := .type "dict", data := .dict #[] }) h.objs.size (.dK []) :=
  ⟨Nat.zero_le _, beq_eq_false_iff_ne.mpr (Ne.symm (Nat.ne_of_lt hb)), [], .nil, Heap.DictOf.new h⟩
section
variable {X : Cx} {pos : Pos}
end
def tPairs : List (TE × TE) → St → Hp → (List (V × V) → Hp → Prop) → Prop
  | [], _, H, Q => Q [] H
  | (tk, tv) :: r, σ, H, Q => tk σ H fun x H1 => tv σ H1 fun y H2 => tPairs r σ H2 fun ps H3 => Q ((x, y) :: ps) H3
abbrev VV : List (V × V) → List (Value × Value) → Prop := Paired fun p q => RelV p.1 q.1 ∧ RelV p.2 q.2
def PPs (X : Cx) (pos : Pos) (keys : List (Option Expr)) (values : List Expr) (trs : List (TE × TE)) : Prop :=
  ∀ (pins : List (Addr × Obj)) (s : Shared) (σ : St) (H : Hp) (Q : List (V × V) → Hp → Prop), Inv X pins σ H s → tPairs trs σ H Q →
    wpAny (model X.prog X.w) X.A (evalPairs (pairTrees keys values X.env pos)) (fun vs s' => ∃ ps H', Inv X pins σ H' s' ∧ VV ps vs ∧ Q ps H') X.xe s
theorem pps_nil {X : Cx} {pos : Pos} : PPs X pos [] [] [] := fun pins s σ H Q I h => pairTrees_nil_walk ⟨[], H, I, .nil, h⟩
theorem pps_cons {X : Cx} {pos : Pos} {k v : Expr} {ks : List (Option Expr)} {vs : List Expr} {tk tv : TE} {trs : List (TE × TE)} (hk : PE X k tk) (hv : PE X v tv) (hr : PPs X pos ks vs trs) :
    PPs X pos (some k :: ks) (v :: vs) ((tk, tv) :: trs) := fun pins s σ H Q I h =>
  pairTrees_cons_walk (thn (hk pins s σ H _ I h) fun u s1 ⟨x, H1, I1, rx, q1⟩ => thn (hv pins s1 σ H1 _ I1 q1) fun w2 s2 ⟨y, H2, I2, ry, q2⟩ =>
    thn (hr pins s2 σ H2 _ I2 q2) fun ws s3 ⟨ps, H3, I3, rel, q3⟩ => ⟨(x, y) :: ps, H3, I3, .cons ⟨rx, ry⟩ rel, q3⟩)
def mergeK (kvs more : List (Key × V)) : List (Key × V) := more.foldl (fun acc kv => putK acc kv.1 kv.2) kvs
theorem KV.merge : ∀ {more : List (Key × V)} {rs : List (Key × Value)} {kvs : List (Key × V)} {vs : List (Key × Value)}, KV more rs → KV kvs vs → KV (mergeK kvs more) (merged vs rs) := by
  intro more rs kvs vs r
  unfold KV at r
  induction r generalizing kvs vs with
  | nil => intro q; exact q
  | @cons p q ps qs h t ih =>
    intro r0
    have e : KV (putK kvs p.1 p.2) (stored vs q.1 q.2) := by
      have := r0.put p.1 h.2
      rw [← h.1]; exact this
    exact ih e
theorem length_mergeK : ∀ (more kvs : List (Key × V)), (mergeK kvs more).length ≤ kvs.length + more.length
  | [], kvs => by show kvs.length ≤ kvs.length + 0; omega
  | p :: r, kvs => by
    have h1 := length_mergeK r (putK kvs p.1 p.2)
    have h2 := length_putK kvs p.1 p.2
    show (mergeK (putK kvs p.1 p.2) r).length ≤ _
    rw [List.length_cons]; omega
theorem carries_of {P : Program} {w : World} : ∀ {kvs : List (Key × V)} {ws : List (Value × Value)}, VV (kvs.map fun kv => (kV kv.1, kv.2)) ws → ∃ rs, Carries (mixKind P w) ws rs ∧ KV kvs rs
  | [], _, r => by rw [List.map_nil] at r; cases r; exact ⟨[], True.intro, .nil⟩
  | p :: kvs, _, r => by
    rw [List.map_cons] at r
    cases r with
    | @cons a b as bs h t =>
      obtain ⟨rs, c, q⟩ := carries_of (P := P) (w := w) t
      obtain ⟨b1, b2⟩ := b
      exact ⟨(p.1, b2) :: rs, ⟨kV_is h.1, rfl, c⟩, .cons ⟨rfl, h.2⟩ q⟩
def tDisp (trs : List (TE × TE)) : TE := fun σ H Q => ∀ p, H p = none → tPairs trs σ (upd H p (.dK [])) fun ps H2 => H2 p = some (.dK []) ∧ ∃ kvs : List (Key × V), ps = kvs.map (fun kv => (kV kv.1, kv.2)) ∧ kvs.length ≤ 15 ∧ Q (.ref p) (upd H2 p (.dK (mergeK [] kvs)))
theorem pe_disp {X : Cx} {pos : Pos} {keys : List (Option Expr)} {values : List Expr} {trs : List (TE × TE)} (h : PPs X pos keys values trs) (hall : keys.all (·.isSome) = true) (hl : keys.length = values.length) (h0 : keys ≠ [])
    (h15 : keys.length ≤ 15) : PE X (.Dict keys values pos) (tDisp trs) := by
  intro pins s σ H Q I q
  have hn := I.hok.fresh (Nat.le_refl s.heap.objs.size)
  have I1 := I.laid (a := s.heap.objs.size) (o := .dK []) (h' := s.heap.push { cls := .type "dict", data := .dict #[] }) (t' := s.toks) (fun _ _ q => Heap.get?_push_of_some _ q) (Nat.le_refl _) (dk_empty s.heap I.big)
  refine wpAny_Dict_walk (knd := mixKind X.prog X.w) hall hl h0 h15 (thn (h pins _ σ _ _ I1 (q _ hn)) fun ws s2 ⟨ps, H2, I2, rel, e, kvs, ep, lk, q2⟩ => ?_)
  subst ep
  obtain ⟨rs, c, rk⟩ := carries_of (P := X.prog) (w := X.w) rel
  obtain ⟨z, hd, vs0, r0, dd⟩ := dk_of I2.hok e
  cases r0
  refine ⟨rs, c, dd, fun h' dd' hs => ⟨.ref s.heap.objs.size, _, ?_, rfl, q2⟩⟩
  have hz : (mergeK [] kvs).length ≤ sizeLine := by
    have h1 := length_mergeK kvs []
    rw [List.length_nil] at h1
    rw [sizeLine_eq]; omega
  have he : ∃ q, h'.get? s.heap.objs.size = some q := let ⟨q, _, _, hq, _⟩ := dd'; ⟨q, hq⟩
  exact d_write I2 (by rw [e]; exact True.intro) hs he (dk_new hz hd (rk.merge .nil) dd')
structure M1 (X : Cx) (o : Expr) (m : Str) (apos : Pos) (e : Expr) (cpos : Pos) : Prop where
  base : attributeBase o m X.env (eval o X.env) = eval o X.env
  few : ((backTo cpos (starEach [e] X.env)).all (fun x => !x.1) && (backToKw cpos (keywordEach [] X.env)).all (fun x => x.1.isSome)
    && decide (([e] : List Expr).length + ([] : List Keyword).length + (if ([] : List Keyword).isEmpty then 0 else 1) < 30)) = true
  line : (apos.endLine == cpos.line) = true
  trees : backTo cpos (starEach [e] X.env) = [(false, eval e X.env)]
structure M2 (X : Cx) (o : Expr) (m : Str) (apos : Pos) (e f : Expr) (cpos : Pos) : Prop where
  base : attributeBase o m X.env (eval o X.env) = eval o X.env
  few : ((backTo cpos (starEach [e, f] X.env)).all (fun x => !x.1) && (backToKw cpos (keywordEach [] X.env)).all (fun x => x.1.isSome)
    && decide (([e, f] : List Expr).length + ([] : List Keyword).length + (if ([] : List Keyword).isEmpty then 0 else 1) < 30)) = true
  line : (apos.endLine == cpos.line) = true
  trees : backTo cpos (starEach [e, f] X.env) = [(false, eval e X.env), (false, eval f X.env)]
section
variable {X : Cx} {pins : List (Addr × Obj)} {σ : St} {H : Hp} {s : Shared} {a : Addr} {y d : V} {u r : Value} {o : Option V} {A : Around} {E : Value → Shared → Prop}
end
section
variable {X : Cx} {o e f : Expr} {apos cpos : Pos} {td ty tx : TE}
end
section
variable {X : Cx} {pins : List (Addr × Obj)} {σ : St} {H : Hp} {s : Shared} {a : Addr} {kvs : List (Key × V)} {A : Around} {E : Value → Shared → Prop}
end
section
variable {X : Cx} {pins : List (Addr × Obj)} {σ : St} {H : Hp} {s : Shared} {a : Addr} {y : V} {u : Value} {A : Around} {E : Value → Shared → Prop}
end
end L2
namespace Att
open PySem PySem.W PySem.Calls PyProof.Rows
theorem ints_of_wellAll {P : Params} {h : Heap} : ∀ (ns : List Int) (vs : List Value), WellAll P h vs (ns.map WData.int) → IntsAre vs ns := by
  intro ns
  induction ns with
  | nil =>
    intro vs w
    rw [List.map_nil] at w
    cases w
    exact .nil
  | cons n ns ih =>
    intro vs w
    rw [List.map_cons] at w
    cases w with
    | cons a b =>
      cases a
      exact .cons _ _ (ih _ b)
theorem script_of {l : OpenLaw} {n : Nat} (hn : l.most = some n) {P : Params} {h : Heap} {args : List WData} {vals : List Value}
    (hpre : l.row.toRowW.claim.pre args = true) (hwl : WellAll P h vals args) :
    ∃ a vs ns, vals = [Value.ref a] ∧ args = [WData.list (ns.map WData.int)] ∧ h.get? a = some { cls := .type "list", data := .seq vs.toArray } ∧ IntsAre vs ns ∧ ns.length ≤ n := by
  have hsh : WShape.hasAll [] args [.list .int] = true := (pre_splitW hpre).1
  have hc : l.pre.holds [] { args := args } = true := (pre_splitW hpre).2
  obtain ⟨d, r, rfl, h1, h2⟩ := hasAllW_cons hsh
  obtain rfl := hasAllW_nil h2
  obtain ⟨xs, rfl, h3⟩ := hasW_list h1
  obtain ⟨ns, rfl⟩ := items_int h3
  have hlen : ns.length ≤ n := by
    unfold OpenLaw.pre at hc
    have h4 : (WTm.not (.lt (.lit (.int (n : Int))) (.len (.arg 0)))).holds [] { args := [.list (ns.map .int)] } = true := by
      have h4 := (holds_andW hc).1
      rw [hn] at h4
      exact h4
    have h5 := condW_of h4 (w_not (w_lt w_lit (w_len_list (w_arg rfl))))
    rw [List.length_map] at h5
    refine Nat.le_of_not_lt fun q => ?_
    have q' : (n : Int) < ((ns.length : Nat) : Int) := by omega
    first
      | (rw [decide_eq_true q'] at h5; exact absurd h5 (by decide))
      | (simp at h5; omega)
  cases hwl with
  | cons w1 w2 =>
    cases w2
    cases w1 with
    | list ho hall => exact ⟨_, _, ns, rfl, rfl, ho, ints_of_wellAll ns _ hall, hlen⟩
theorem post_true (l : OpenLaw) (args : List WData) : l.row.toRowW.claim.post args (.bool true) args = true :=
  postW_of (r := l.row.toRowW) (X := (true == true))
    (show WShape.has [] (.bool true) .bool = true by first | rfl | decide | simp [WShape.has, WShape.arms, WShape.armsAll])
    (show (WTm.eq .res (.lit (.bool true))).value [] { args := args, res := some (.bool true), after := args } = some (.bool (true == true)) from w_eq_bool (w_res rfl) w_lit) rfl
theorem attach_call {l : OpenLaw} {n : Nat} {q : Program} {loose : List Str} {XP : (Str → Option Value) → Heap → Prop} {YP : World → Heap → Prop} {d : DefRec}
    (hn : l.most = some n) (hdf : d.params.defaults = [])
    (call : ∀ (w : World) (s₀ s₁ : Shared) (mg mb : Str → Option Value) (fa : Addr) (o : Obj) (pm cd doc : Value) (a : Addr) (vs : List Value) (ns : List Int),
      Ground q loose [] XP w s₀ mg mb s₁.heap → YP w s₁.heap →
      s₁.heap.get? fa = some o → o.data = .func (docDef d.name d.params d.body d.scope pm cd doc) → s₁.heap.CodeRec cd d.name → mg d.name = some (.ref fa) →
      s₁.heap.get? a = some { cls := .type "list", data := .seq vs.toArray } → IntsAre vs ns → ns.length ≤ n → s₁.gens = #[] →
      codeAny (model l.prog w) callerA (.call (.ref fa) ⟨[.ref a], []⟩) (fun r s' => r = .ok (.ret (.bool true)) ∧ OldK s₁.heap s'.heap ∧ s'.os = s₁.os ∧ AllBare s'.gens) s₁) :
    WalkO q loose XP YP l.row.toRowW d [] (fun f vs => PySem.call f vs) := by
  intro w s₀ s₁ mg mb G Y fa o pm cd doc dV kV ho hd hcd hD hmg hg args vals as hpre hlay hrd hwl hlo
  obtain rfl : dV = .none := Dflts.none hD hdf
  obtain rfl : kV = .none := Dflts.noKw hD
  obtain ⟨a, vs, ns, rfl, rfl, hobj, hints, hlen⟩ := script_of hn hpre hwl
  refine enter_call (codeAny_mono (call w s₀ s₁ mg mb fa o pm cd doc a vs ns G Y ho (fd_plain hd) hcd hmg hobj hints hlen hg) fun r s' hq => ?_)
  obtain ⟨rfl, h2, h3, h4⟩ := hq
  exact ⟨.inl ⟨.bool true, .bool true, [], rfl, fun _ => rfl, .bool true, post_true l _, fun _ => ⟨List.Pairwise.nil, fun _ hm => (nomatch hm)⟩⟩, h2, h3, h4⟩
section
variable {prog : Program} {w : World} {A : Around} {E : Value → Shared → Prop} {s : Shared} {K : Frag}
end
end Att
namespace L2
open PySem PySem.Spec PyProof.Rows
theorem vals_ints : ∀ {vs : List Value} {ns : List Int}, IntsAre vs ns → Vals (ns.map V.int) vs
  | _, _, .nil => .nil
  | _, _, .cons n t h => .cons ⟨t, rfl⟩ (vals_ints h)
def Only (H : Hp) : Prop := ∀ b, H b = none ∨ ∃ o xs, H b = some (.frz o (.lst xs))
theorem law_call {P : Program} {w : World} {K : PySem.W.Frag} {mg mb : Str → Option Value} {CX : CXT} {k : Nat} {fa a : Addr} {fd : FuncData} {x : Str} {sp : Sp} {s₁ : Shared} {vs : List Value} {ns : List Int}
    (KX : K.In s₁.heap) (hns : s₁.heap.Ns mainGlobals mg) (hb : s₁.heap.Ns builtinsNs mb) (hbb : ∀ x : Str, x ≠ "__name__" → mb x = bootBuiltins x) (hlim : s₁.heap.NoLimit) (hg : s₁.gens = #[])
    (ha : s₁.heap.get? a = some { cls := .type "list", data := .seq vs.toArray }) (hi : IntsAre vs ns) (hl : ns.length ≤ sizeLine) (hr : Room k callerA)
    (F : ∀ base : Heap, K.In base → base.Ns mainGlobals mg → FnOk P w K mg base CX k fa fd [x] sp) (hbind : ∀ (s : Shared) (u : Value), BindsTo s fd ⟨[u], []⟩ [(x, u)])
    (hsp : ∀ H : Hp, Only H → SqL K H a (ns.map V.int) → sp [.ref a] H (fun v _ => v = .bl true) fun _ _ _ => False)
    (hCX : ∀ H e s', CX [] H s₁ (fun _ _ _ => False) e s' → False) :
    codeAny (model P w) callerA (.call (.ref fa) ⟨[.ref a], []⟩) (fun r s' => r = .ok (.ret (.bool true)) ∧ OldK s₁.heap s'.heap ∧ s'.os = s₁.os ∧ AllBare s'.gens) s₁ := by
  have rv := vals_ints hi
  have lenV := hi.length
  have core : ∀ H : Hp, Only H → SqL K H a (ns.map V.int) → HOk P w H s₁.heap → (∀ b, H b ≠ none → b = a) → (H a ≠ none → K.lookup a = none) →
      codeAny (model P w) callerA (.call (.ref fa) ⟨[.ref a], []⟩) (fun r s' => r = .ok (.ret (.bool true)) ∧ OldK s₁.heap s'.heap ∧ s'.os = s₁.os ∧ AllBare s'.gens) s₁ := by
    intro H hO hS hok hA hK
    have base_of : ∀ {b : Addr} {o : Obj}, s₁.heap.get? b = some o → H b = none → (hidT s₁.heap H).get? b = some o := fun e n => hidT_get e n
    have noA : ∀ {b : Addr} {o : Obj} {es : Array DictEntry} {ep : Nat}, s₁.heap.get? b = some o → o.data = .dict es ep → H b = none := fun {b o es ep} e d => by
      cases q : H b with
      | none => rfl
      | some u =>
        have e' : b = a := hA b (by rw [q]; simp)
        subst e'
        rw [ha] at e; cases e
        have d' : Data.seq vs.toArray _ = Data.dict es ep := d
        cases d'
    have nsK : ∀ {b : Addr} {m : Str → Option Value}, s₁.heap.Ns b m → (hidT s₁.heap H).Ns b m := fun {b m} ⟨o, es, ep, e, d, r⟩ => ⟨o, es, ep, base_of e (noA e d), d, r⟩
    have hKb : K.In (hidT s₁.heap H) := fun b o e => base_of (KX b o e) (by
      cases q : H b with
      | none => rfl
      | some u =>
        have e' : b = a := hA b (by rw [q]; simp)
        subst e'
        rw [hK (by rw [q]; simp)] at e; cases e)
    have hM : Mod K mg (hidT s₁.heap H) := ⟨hKb, nsK hns, ⟨mb, nsK hb, hbb⟩, let ⟨mc, h1, h2⟩ := hlim; ⟨mc, nsK h1, h2⟩⟩
    have e0 : Env0 P w K mg (hidT s₁.heap H) callerA [] s₁ H := ⟨rfl, hM, fun b o e => of_hidT e, Nat.le_of_eq (hidT_size _ _), trivial, fun b hb => absurd (show b ∈ ([] : List Addr) from hb) (by simp), hok, .of_eq hg⟩
    refine codeAny_mono ((F _ hKb (nsK hns)).run callerA [] s₁ H ⟨[.ref a], []⟩ [.ref a] [.ref a] _ _ hr e0 (hbind s₁ (.ref a)) (.cons rfl .nil) (hsp H hO hS)) fun r s' h => ?_
    cases r with
    | error e => exact (hCX H e s' h).elim
    | ok fl =>
      cases fl with
      | next => exact False.elim h
      | brk => exact False.elim h
      | cont => exact False.elim h
      | ret u =>
        obtain ⟨v, H', os, bare, un, hok', r', q⟩ := h
        have q' : v = .bl true := q
        subst q'
        obtain rfl : u = Value.bool true := r'
        refine ⟨rfl, OldK.of_keep fun b o e => ?_, os, bare⟩
        cases q : H b with
        | none => exact un.keep b o e q (by intro z; exact absurd (show b ∈ ([] : List Addr) from z) (by simp)) (by simp)
        | some u =>
          rcases hO b with z | ⟨ob, xs, z⟩
          · rw [q] at z; cases z
          · have z2 := un.frzs b ob _ z
            obtain ⟨e1, _⟩ := hok b _ z
            obtain ⟨e2, _⟩ := hok' b _ z2
            rw [e] at e1; cases e1
            exact e2
  cases hk : K.lookup a with
  | some o =>
    have e := KX a o hk
    rw [ha] at e
    cases e
    refine core (fun _ => none) (fun _ => .inl rfl) (.inr ⟨_, vs.toArray, _, hk, rfl, rfl, rfl, by rw [List.size_toArray, lenV]; exact hl, by simpa using rv⟩) (fun b u z => by have z' : (none : Option HO) = some u := z; cases z') (fun b z => absurd rfl z) fun z => absurd rfl z
  | none =>
    refine core (fun b => if b = a then some (.frz { cls := .type "list", data := .seq vs.toArray } (.lst (ns.map V.int))) else none) (fun b => ?_) (.inl (.inr ⟨{ cls := .type "list", data := .seq vs.toArray }, if_pos rfl⟩)) (fun b u z => ?_) (fun b z => ?_) fun _ => hk
    · by_cases hb : b = a
      · exact .inr ⟨_, _, if_pos hb⟩
      · exact .inl (if_neg hb)
    · by_cases hb : b = a
      · have z' := (if_pos hb).symm.trans z
        cases z'
        subst hb
        exact ⟨ha, by rw [List.length_map]; exact hl, vs, _, rv, ha⟩
      · have z' := (if_neg hb).symm.trans z
        cases z'
    · by_cases hb : b = a
      · exact hb
      · exact absurd (if_neg hb) z
end L2
namespace L2
open PySem PySem.Spec PyProof.Rows
theorem walk_of {l : PySem.W.OpenLaw} {n k : Nat} {q : Program} {loose : List Str} {XP : (Str → Option Value) → Heap → Prop} {YP : World → Heap → Prop} {d : DefRec} {K : Params → PySem.W.Frag} {CX : World → CXT} {sp : World → Sp} {x : Str}
    (hn : l.most = some n) (hn2 : n ≤ sizeLine) (hdf : d.params.defaults = []) (hr : Room k callerA)
    (hY : ∀ (w : World) (h : Heap), YP w h → (K w.params).In h)
    (F : ∀ (w : World) (mg : Str → Option Value) (fa : Addr) (h : Heap), (K w.params).In h → h.Ns mainGlobals mg → mg d.name = some (.ref fa) →
      ∃ fd : FuncData, (∀ (s : Shared) (u : Value), BindsTo s fd ⟨[u], []⟩ [(x, u)]) ∧
        ∀ base : Heap, (K w.params).In base → base.Ns mainGlobals mg → FnOk l.prog w (K w.params) mg base (CX w) k fa fd [x] (sp w))
    (hsp : ∀ (w : World) (H : Hp) (a : Addr) (ns : List Int), ns.length ≤ n → Only H → SqL (K w.params) H a (ns.map V.int) → sp w [.ref a] H (fun v _ => v = .bl true) fun _ _ _ => False)
    (hCX : ∀ (w : World) (H : Hp) (s : Shared) (e : Value) (s' : Shared), CX w [] H s (fun _ _ _ => False) e s' → False) :
    PySem.W.WalkO q loose XP YP l.row.toRowW d [] (fun f vs => PySem.call f vs) := by
  refine Att.attach_call hn hdf fun w s₀ s₁ mg mb fa o pm cd doc a vs ns G Y ho hd hcd hmg hobj hints hlen hg => ?_
  have KX := hY w _ Y
  obtain ⟨fd, hb, hF⟩ := F w mg fa _ KX G.T.g hmg
  exact law_call KX G.T.g G.T.b G.T.builtins G.T.nolimit hg hobj hints (Nat.le_trans hlen hn2) hr hF hb (fun H hO hS => hsp w H a ns hlen hO hS) fun H e s' => hCX w H s₁ e s'
end L2
namespace L2
open PySem PySem.Spec PyProof.Rows
def defArgs (s : Stmt) : Arguments := match s with
  | .FunctionDef _ a _ _ _ _ _ _ _ _ => a
  | _ => { posonlyargs := [], args := [], vararg := none, kwonlyargs := [], kw_defaults := [], kwarg := none, defaults := [] }
def defBody (s : Stmt) : List Stmt := match s with
  | .FunctionDef _ _ b _ _ _ _ _ _ _ => b
  | _ => []
def defScope (s : Stmt) : Scope := match s with
  | .FunctionDef _ _ _ _ _ _ sc _ _ _ => sc
  | _ => { kind := .function, names := [], isGenerator := false, isCoroutine := false }
abbrev CX0 : CXT := fun _ _ _ _ _ _ => False
abbrev E0 : XK := fun _ _ _ => False
theorem pass0 {X : Cx} : Passes CX0 X E0 := fun _ _ _ _ _ _ _ h => h.elim
structure Fun (K : PySem.W.Frag) (x qual : Str) (st : Stmt) (f : Addr) (fd : FuncData) : Prop where
  ex : ∃ (oc : Value) (od : Option Addr) (kV doc pm : Value) (an : Option Addr) (cdv ct : Value) (osl : Array (Option Value)),
    fd = PySem.W.fnOf x qual (defArgs st) (defBody st) (defScope st) .none kV doc pm an cdv ct ∧ K.lookup f = some ⟨oc, od, .func fd, osl⟩ ∧ PySem.W.codeIn K cdv qual = true
  kp : PySem.W.keepIn K (.ref f) = true
section
variable {P : Program} {w : World} {K : PySem.W.Frag} {mg : Str → Option Value} {base : Heap}
theorem Fun.ok {x qual : Str} {st : Stmt} {f : Addr} {fd : FuncData} {N ps : List Str} {k : Nat} {sp : Sp} (F : Fun K x qual st f fd) (S : FnScope N ps (defScope st)) (len : ∀ vs H Q E, sp vs H Q E → vs.length = ps.length)
    (hbody : ∀ (cdv : Value) (A : Around) (outer : List Env) (s : Shared) (H : Hp) (vs : List V) (Q : VK) (E : XK), Room k (A.deeper (envOfC qual (defScope st) s.heap.objs.size f cdv)) → sp vs H Q E →
      ∃ t, PSs (cxOf CX0 P w K mg base N qual (defScope st) f cdv A outer s H E).nox (defBody st) t ∧ t { nx := fun _ H' => Q .non H', rt := Q } (start N vs) H) : FnOk P w K mg base CX0 (k + 1) f fd ps sp := by
  obtain ⟨oc, od, kV, doc, pm, an, cdv, ct, osl, rfl, lk, hcd⟩ := F.ex
  refine fn_of lk hcd S len fun A outer s H vs Q E hr hsp => ?_
  obtain ⟨t, h, q⟩ := hbody cdv A outer s H vs Q E hr hsp
  exact ⟨t, h.nox, q⟩
theorem Fun.binds {x qual : Str} {st : Stmt} {f : Addr} {fd : FuncData} {ps : List Str} (F : Fun K x qual st f fd)
    (h : ∀ (kV doc pm : Value) (an : Option Addr) (cdv ct : Value) (us : List Value), us.length = ps.length → bindArgs (PySem.W.fnOf x qual (defArgs st) (defBody st) (defScope st) .none kV doc pm an cdv ct) ⟨us, []⟩ = pure (ps.zip us)) : Binds K fd ps [] := by
  obtain ⟨oc, od, kV, doc, pm, an, cdv, ct, osl, rfl, lk, hcd⟩ := F.ex
  exact .all (h kV doc pm an cdv ct)
theorem fun_mk {x qual : Str} {st : Stmt} {f : Addr} {oc : Value} {od an : Option Addr} {osl : Array (Option Value)} {kV doc pm cdv ct : Value} (l : K.lookup f = some ⟨oc, od, .func (PySem.W.fnOf x qual (defArgs st) (defBody st) (defScope st) .none kV doc pm an cdv ct), osl⟩)
    (c : PySem.W.codeIn K cdv qual = true) (k : PySem.W.keepIn K (.ref f) = true) : Fun K x qual st f (PySem.W.fnOf x qual (defArgs st) (defBody st) (defScope st) .none kV doc pm an cdv ct) := ⟨⟨oc, od, kV, doc, pm, an, cdv, ct, osl, rfl, l, c⟩, k⟩
end
theorem hu_of {A : Around} {k : Nat} (hr : Room k A) : A.units + 1 < cLine := Nat.lt_of_le_of_lt (Nat.add_le_add_left (by decide : 1 ≤ 64) _) hr.units
section
variable {X : Cx}
theorem pv (i : Nat) {x : Str} {pos : Pos} (hN : X.N[i]? = some x := by rfl) (hv : Vis X.env.scope x := by first | exact Or.inl rfl | exact Or.inr (Or.inl rfl) | exact Or.inr (Or.inr rfl)) (hd : (x == ("__debug__" : Str)) = false := by decide)
    (hcd : (x == ("__classdict__" : Str)) = false := by decide) : PE X (.Name x pos) (tVar i) := pe_var hN hv hd hcd
theorem call_lenD : CallR X (.builtin "len") (fun xs H Q => ∃ a kvs, xs = [V.ref a] ∧ H a = some (.dK kvs) ∧ Q (.int kvs.length) H) := by
  intro pins s σ H xs us Q I r h
  obtain ⟨a, kvs, rfl, ha, q⟩ := h
  obtain ⟨u, rfl, ru⟩ := vals1 r
  cases ru
  exact d_len I (.inl ha) fun t s' I' => ⟨.int kvs.length, H, I', ⟨t, rfl⟩, q⟩
end
def Same (H H' : Hp) : Prop := ∀ b o, H b = some o → H' b = some o
theorem Same.refl (H : Hp) : Same H H := fun _ _ h => h
theorem Same.trans {H H1 H2 : Hp} (a : Same H H1) (b : Same H1 H2) : Same H H2 := fun c o h => b c o (a c o h)
theorem Same.free {H H' : Hp} (e : Same H H') {l : Addr} (h : H' l = Option.none) : H l = Option.none := by
  cases q : H l with
  | none => rfl
  | some o =>
    rw [e l o q] at h
    cases h
theorem Same.seq {K : PySem.W.Frag} {H H' : Hp} {a : Addr} {xs : List V} (e : Same H H') (h : SqL K H a xs) : SqL K H' a xs := by
  rcases h with (h | ⟨o, h⟩) | h
  · exact .inl (.inl (e _ _ h))
  · exact .inl (.inr ⟨o, e _ _ h⟩)
  · exact .inr h
section
variable {κ : Type} [DecidableEq κ]
theorem valV_in {kvs : List (κ × V)} {k : κ} {v : V} (h : valV kvs k = some v) : k ∈ kvs.map (·.1) := by
  have q : (kvs.any fun kv => decide (kv.1 = k)) = true := by
    rw [valV_any, h]
    all_goals rfl
  obtain ⟨p, hp, e⟩ := List.any_eq_true.mp q
  exact List.mem_map.mpr ⟨p, hp, of_decide_eq_true e⟩
end
end L2
set_option maxHeartbeats 4000000
namespace MB
open PySem PySem.Spec PyProof.Rows L2
abbrev St := L2.St
theorem paired_mk {α β : Type} {R : α → β → Prop} : ∀ {xs : List α} {ys : List β}, xs.length = ys.length → (∀ (i : Nat) (x : α) (y : β), xs[i]? = some x → ys[i]? = some y → R x y) → Paired R xs ys
  | [], [], _, _ => .nil
  | x :: xs, y :: ys, hl, h => .cons (h 0 x y rfl rfl) (paired_mk (by simpa using hl) fun i a b ha hb => h (i + 1) a b (by simpa using ha) (by simpa using hb))
  | [], _ :: _, hl, _ => by simp at hl
  | _ :: _, [], hl, _ => by simp at hl
theorem pget {α β : Type} {R : α → β → Prop} : ∀ {xs : List α} {ys : List β} (i : Nat) {x : α} {y : β}, Paired R xs ys → xs[i]? = some x → ys[i]? = some y → R x y
  | _, _, i, _, _, .nil, hx, _ => by simp at hx
  | _, _, 0, _, _, .cons r _, hx, hy => by
    simp at hx hy
    subst hx hy
    exact r
  | _, _, i + 1, x, y, .cons _ t, hx, hy => pget i t (by simpa using hx) (by simpa using hy)
theorem pgetR {α β : Type} {R : α → β → Prop} : ∀ {xs : List α} {ys : List β} (i : Nat) {y : β}, Paired R xs ys → ys[i]? = some y → ∃ x, xs[i]? = some x ∧ R x y := fun {xs ys} i {y} p hy => by
  have hl := p.length
  have h1 : i < ys.length := (List.getElem?_eq_some_iff.mp hy).1
  have h2 : i < xs.length := by omega
  have hx : xs[i]? = some xs[i] := List.getElem?_eq_getElem h2
  exact ⟨_, hx, pget i p hx hy⟩
theorem pimp {α β : Type} {R R' : α → β → Prop} (h : ∀ a b, R a b → R' a b) {xs : List α} {ys : List β} (p : Paired R xs ys) : Paired R' xs ys := Paired.mono h p
theorem pappend {α β : Type} {R : α → β → Prop} : ∀ {xs zs : List α} {ys ws : List β}, Paired R xs ys → Paired R zs ws → Paired R (xs ++ zs) (ys ++ ws)
  | _, _, _, _, .nil, s => s
  | _, _, _, _, .cons r t, s => .cons r (pappend t s)
theorem ptake {α β : Type} {R : α → β → Prop} : ∀ {xs : List α} {ys : List β} (n : Nat), Paired R xs ys → Paired R (xs.take n) (ys.take n)
  | _, _, 0, _ => .nil
  | _, _, _ + 1, .nil => .nil
  | _, _, n + 1, .cons r t => .cons r (ptake n t)
theorem pdrop {α β : Type} {R : α → β → Prop} : ∀ {xs : List α} {ys : List β} (n : Nat), Paired R xs ys → Paired R (xs.drop n) (ys.drop n)
  | _, _, 0, r => r
  | _, _, _ + 1, .nil => .nil
  | _, _, n + 1, .cons _ t => pdrop n t
theorem pset {α β : Type} {R : α → β → Prop} {x : α} {y : β} (r : R x y) : ∀ {xs : List α} {ys : List β} (i : Nat), Paired R xs ys → Paired R (xs.set i x) (ys.set i y)
  | _, _, _, .nil => .nil
  | _, _, 0, .cons _ t => .cons r t
  | _, _, i + 1, .cons q t => .cons q (pset r i t)
inductive Dat where
  | non | bl (b : Bool) | int (i : Int) | str (x : Str) | tup (xs : List Dat) | lst (xs : List Dat)
  | dK (kvs : List (Key × Dat)) | dT (kvs : List (List Key × Dat)) | obj (c : Nat) (fs : List (Str × Dat))
  | bad (r : Int)
instance : Inhabited Dat := ⟨.non⟩
inductive Rep (K : PySem.W.Frag) (cl : Nat → Addr) (F : Hp) : V → Dat → Prop
  | non : Rep K cl F .non .non
  | bl (b : Bool) : Rep K cl F (.bl b) (.bl b)
  | int (i : Int) : Rep K cl F (.int i) (.int i)
  | str (x : Str) : Rep K cl F (.str x) (.str x)
  | tup {a : Addr} {vs : List V} {ds : List Dat} (h : F a = some (.tup vs)) (hl : vs.length = ds.length)
      (hi : ∀ (i : Nat) (v : V) (d : Dat), vs[i]? = some v → ds[i]? = some d → Rep K cl F v d) : Rep K cl F (.ref a) (.tup ds)
  | lst {a : Addr} {vs : List V} {ds : List Dat} (h : SqL K F a vs) (hl : vs.length = ds.length)
      (hi : ∀ (i : Nat) (v : V) (d : Dat), vs[i]? = some v → ds[i]? = some d → Rep K cl F v d) : Rep K cl F (.ref a) (.lst ds)
  | dK {a : Addr} {vs : List (Key × V)} {ds : List (Key × Dat)} (h : F a = some (.dK vs)) (hk : vs.map (·.1) = ds.map (·.1))
      (hi : ∀ (i : Nat) (p : Key × V) (q : Key × Dat), vs[i]? = some p → ds[i]? = some q → Rep K cl F p.2 q.2) : Rep K cl F (.ref a) (.dK ds)
  | dT {a : Addr} {vs : List (List Key × V)} {ds : List (List Key × Dat)} (h : F a = some (.dT vs)) (hk : vs.map (·.1) = ds.map (·.1))
      (hi : ∀ (i : Nat) (p : List Key × V) (q : List Key × Dat), vs[i]? = some p → ds[i]? = some q → Rep K cl F p.2 q.2) : Rep K cl F (.ref a) (.dT ds)
  | obj {a dx : Addr} {c : Nat} {vs : List (Str × V)} {ds : List (Str × Dat)} (h : F a = some (.ins (cl c) dx vs)) (hk : vs.map (·.1) = ds.map (·.1))
      (hi : ∀ (i : Nat) (p : Str × V) (q : Str × Dat), vs[i]? = some p → ds[i]? = some q → Rep K cl F p.2 q.2) : Rep K cl F (.ref a) (.obj c ds)
abbrev RepL (K : PySem.W.Frag) (cl : Nat → Addr) (F : Hp) : List V → List Dat → Prop := Paired (Rep K cl F)
abbrev RepK {κ : Type} (K : PySem.W.Frag) (cl : Nat → Addr) (F : Hp) : List (κ × V) → List (κ × Dat) → Prop := Paired fun p q => p.1 = q.1 ∧ Rep K cl F p.2 q.2
section
variable {K : PySem.W.Frag} {cl : Nat → Addr} {F F' H H' H1 : Hp} {v : V} {d : Dat} {a p : Addr} {vs : List V} {ds : List Dat}
theorem Rep.mono (s : Same F F') (r : Rep K cl F v d) : Rep K cl F' v d := by
  induction r with
  | non => exact .non
  | bl b => exact .bl b
  | int i => exact .int i
  | str x => exact .str x
  | tup h hl hi ih => exact .tup (s _ _ h) hl ih
  | lst h hl hi ih => exact .lst (s.seq h) hl ih
  | dK h hk hi ih => exact .dK (s _ _ h) hk ih
  | dT h hk hi ih => exact .dT (s _ _ h) hk ih
  | obj h hk hi ih => exact .obj (s _ _ h) hk ih
theorem RepL.mono (s : Same F F') (r : RepL K cl F vs ds) : RepL K cl F' vs ds := pimp (fun _ _ q => q.mono s) r
theorem RepK.mono {κ : Type} {ws : List (κ × V)} {es : List (κ × Dat)} (s : Same F F') (r : RepK K cl F ws es) : RepK K cl F' ws es := pimp (fun _ _ q => ⟨q.1, q.2.mono s⟩) r
theorem Rep.tup' (h : F a = some (.tup vs)) (r : RepL K cl F vs ds) : Rep K cl F (.ref a) (.tup ds) := .tup h r.length fun i _ _ x y => pget i r x y
theorem Rep.lst' (h : SqL K F a vs) (r : RepL K cl F vs ds) : Rep K cl F (.ref a) (.lst ds) := .lst h r.length fun i _ _ x y => pget i r x y
theorem keysEq {κ : Type} {ws : List (κ × V)} {es : List (κ × Dat)} (r : RepK K cl F ws es) : ws.map (·.1) = es.map (·.1) := by
  induction r with
  | nil => rfl
  | cons h _ ih => rw [List.map_cons, List.map_cons, h.1, ih]
theorem keysMk {κ : Type} {ws : List (κ × V)} {es : List (κ × Dat)} (hk : ws.map (·.1) = es.map (·.1)) (hi : ∀ (i : Nat) (p : κ × V) (q : κ × Dat), ws[i]? = some p → es[i]? = some q → Rep K cl F p.2 q.2) : RepK K cl F ws es := by
  refine paired_mk (by simpa using congrArg List.length hk) fun i p q hp hq => ⟨?_, hi i p q hp hq⟩
  have h := congrArg (·[i]?) hk
  simp only [List.getElem?_map, hp, hq, Option.map_some, Option.some.injEq] at h
  exact h
theorem Rep.dK' {ws : List (Key × V)} {es : List (Key × Dat)} (h : F a = some (.dK ws)) (r : RepK K cl F ws es) : Rep K cl F (.ref a) (.dK es) := .dK h (keysEq r) fun i _ _ x y => (pget i r x y).2
theorem Rep.dT' {ws : List (List Key × V)} {es : List (List Key × Dat)} (h : F a = some (.dT ws)) (r : RepK K cl F ws es) : Rep K cl F (.ref a) (.dT es) := .dT h (keysEq r) fun i _ _ x y => (pget i r x y).2
theorem Rep.int_inv {i : Int} (r : Rep K cl F v (.int i)) : v = .int i := by cases r; rfl
theorem Rep.bl_inv {b : Bool} (r : Rep K cl F v (.bl b)) : v = .bl b := by cases r; rfl
theorem Rep.str_inv {x : Str} (r : Rep K cl F v (.str x)) : v = .str x := by cases r; rfl
theorem Rep.tup_inv (r : Rep K cl F v (.tup ds)) : ∃ a vs, v = .ref a ∧ F a = some (.tup vs) ∧ RepL K cl F vs ds := by
  cases r with
  | tup h hl hi => exact ⟨_, _, rfl, h, paired_mk hl hi⟩
theorem Rep.lst_inv (r : Rep K cl F v (.lst ds)) : ∃ a vs, v = .ref a ∧ SqL K F a vs ∧ RepL K cl F vs ds := by
  cases r with
  | lst h hl hi => exact ⟨_, _, rfl, h, paired_mk hl hi⟩
theorem Rep.dK_inv {es : List (Key × Dat)} (r : Rep K cl F v (.dK es)) : ∃ a ws, v = .ref a ∧ F a = some (.dK ws) ∧ RepK K cl F ws es := by
  cases r with
  | dK h hk hi => exact ⟨_, _, rfl, h, keysMk hk hi⟩
theorem Rep.dT_inv {es : List (List Key × Dat)} (r : Rep K cl F v (.dT es)) : ∃ a ws, v = .ref a ∧ F a = some (.dT ws) ∧ RepK K cl F ws es := by
  cases r with
  | dT h hk hi => exact ⟨_, _, rfl, h, keysMk hk hi⟩
theorem same_upd {o : HO} (hp : H p = none) : Same H (upd H p o) := fun b _ e => by
  rw [upd_ne (ne_of_none e hp)]
  exact e
theorem same_upd2 {o : HO} (s : Same F H) : Same (upd F p o) (upd H p o) := fun b ob e => by
  by_cases h : b = p
  · subst h
    rw [upd_same] at e ⊢
    exact e
  · rw [upd_ne h] at e ⊢
    exact s b ob e
theorem none_of (s : Same F H) (hp : H p = none) : F p = none := s.free hp
def Grow (F H F' : Hp) : Prop := Same F F' ∧ ∀ a o, F a = none → F' a = some o → H a = none
theorem Grow.refl : Grow F H F := ⟨Same.refl F, fun a o h e => by rw [h] at e; cases e⟩
theorem Grow.trans {F1 F2 : Hp} (g1 : Grow F H F1) (s : Same H H1) (g2 : Grow F1 H1 F2) : Grow F H F2 := ⟨g1.1.trans g2.1, fun a o h0 h2 => by
  cases e : F1 a with
  | some o1 => exact g1.2 a o1 h0 e
  | none => exact s.free (g2.2 a o e h2)⟩
theorem Grow.new {o : HO} (s : Same F H) (hp : H p = none) : Grow F H (upd F p o) := ⟨same_upd (none_of s hp), fun b ob h e => by
  by_cases q : b = p
  · rw [q]; exact hp
  · rw [upd_ne q, h] at e; cases e⟩
theorem Grow.keep {F1 : Hp} {o : HO} (g : Grow F H F1) (hn : F p = none) (hp : H p = some o) : F1 p = none := by
  cases e : F1 p with
  | none => rfl
  | some q => rw [g.2 p q hn e] at hp; cases hp
end
def Post (K : PySem.W.Frag) (cl : Nat → Addr) (F H : Hp) (d : Dat) (Q : VK) : Prop := ∀ v H' F', Same H H' → Same F' H' → Grow F H F' → Rep K cl F' v d → Q v H'
section
variable {K : PySem.W.Frag} {cl : Nat → Addr} {F F1 H H1 : Hp} {v : V} {d : Dat} {p : Addr} {Q : VK}
theorem Post.here (k : Post K cl F H d Q) (s : Same F H) (r : Rep K cl F v d) : Q v H := k v H F (Same.refl H) s Grow.refl r
theorem Post.new {o : HO} (k : Post K cl F H d Q) (s : Same F H) (hp : H p = none) (r : Rep K cl (upd F p o) (.ref p) d) : Q (.ref p) (upd H p o) :=
  k _ _ _ (same_upd hp) (same_upd2 s) (Grow.new s hp) r
theorem Post.step (k : Post K cl F H d Q) (s : Same H H1) (g : Grow F H F1) : Post K cl F1 H1 d Q := fun v H' F' s2 s2' g2 r => k v H' F' (s.trans s2) s2' (g.trans s g2) r
end
inductive O0 where
  | val (d : Dat) | lst (xs : List Dat) | dK (kvs : List (Key × Dat)) | dT (kvs : List (List Key × Dat))
inductive Slot where
  | no | o (x : O0) | rcd (kvs : List (Key × O0))
abbrev Sto := List Slot
abbrev Lab := Nat × Option Key
def O0R (K : PySem.W.Frag) (cl : Nat → Addr) (F H : Hp) (ω : Addr → Option Lab) (l : Lab) (v : V) : O0 → Prop
  | .val d => Rep K cl F v d
  | .lst xs => ∃ p vs, v = .ref p ∧ ω p = some l ∧ H p = some (.lst vs) ∧ RepL K cl F vs xs
  | .dK kvs => ∃ p vs, v = .ref p ∧ ω p = some l ∧ H p = some (.dK vs) ∧ RepK K cl F vs kvs
  | .dT kvs => ∃ p vs, v = .ref p ∧ ω p = some l ∧ H p = some (.dT vs) ∧ RepK K cl F vs kvs
def SlotR (K : PySem.W.Frag) (cl : Nat → Addr) (F H : Hp) (ω : Addr → Option Lab) (i : Nat) (ov : Option (Option V)) : Slot → Prop
  | .no => True
  | .o x => ∃ v, ov = some (some v) ∧ O0R K cl F H ω (i, none) v x
  | .rcd kvs => ∃ p vs, ov = some (some (.ref p)) ∧ ω p = some (i, none) ∧ H p = some (.dK vs) ∧ (kvs.map (·.1)).Nodup ∧
      Paired (fun (x : Key × V) (y : Key × O0) => x.1 = y.1 ∧ O0R K cl F H ω (i, some y.1) x.2 y.2) vs kvs
structure Ow where
  w : Addr → Option Lab
  b : Nat → Nat
structure ER (K : PySem.W.Frag) (cl : Nat → Addr) (F H : Hp) (ω : Ow) (σ : St) (δ : Sto) : Prop where
  sub : Same F H
  own : ∀ a l, ω.w a = some l → F a = none ∧ ∃ o, H a = some o
  len : σ.length = δ.length
  at_ : ∀ (i : Nat) (s : Slot), δ[i]? = some s → SlotR K cl F H ω.w (ω.b i) σ[i]? s
section
variable {K : PySem.W.Frag} {cl : Nat → Addr} {F F' H H' : Hp} {ω : Addr → Option Lab} {wo : Ow} {l : Lab} {v : V} {d : Dat} {σ : St} {δ : Sto} {i : Nat} {x : O0} {s : Slot}
theorem O0R.grow (a : Same H H') (b : Same F F') (r : O0R K cl F H ω l v x) : O0R K cl F' H' ω l v x := by
  cases x with
  | val d => exact Rep.mono b r
  | lst xs => obtain ⟨p, vs, e, w, h, q⟩ := r; exact ⟨p, vs, e, w, a _ _ h, q.mono b⟩
  | dK kvs => obtain ⟨p, vs, e, w, h, q⟩ := r; exact ⟨p, vs, e, w, a _ _ h, RepK.mono b q⟩
  | dT kvs => obtain ⟨p, vs, e, w, h, q⟩ := r; exact ⟨p, vs, e, w, a _ _ h, RepK.mono b q⟩
theorem SlotR.grow {ov : Option (Option V)} (a : Same H H') (b : Same F F') (r : SlotR K cl F H ω i ov s) : SlotR K cl F' H' ω i ov s := by
  cases s with
  | no => exact True.intro
  | o x => obtain ⟨v, e, q⟩ := r; exact ⟨v, e, q.grow a b⟩
  | rcd kvs => obtain ⟨p, vs, e, w, h, n, q⟩ := r; exact ⟨p, vs, e, w, a _ _ h, n, pimp (fun _ _ z => ⟨z.1, z.2.grow a b⟩) q⟩
theorem ER.grow (e : ER K cl F H wo σ δ) (a : Same H H') (b : Same F' H') (g : Grow F H F') : ER K cl F' H' wo σ δ where
  sub := b
  own := fun c l h => by
    obtain ⟨h1, o, h2⟩ := e.own c l h
    exact ⟨g.keep h1 h2, o, a _ _ h2⟩
  len := e.len
  at_ := fun i s h => (e.at_ i s h).grow a g.1
theorem ER.set {v : V} (e : ER K cl F H wo σ δ) (h : SlotR K cl F H wo.w (wo.b i) (some (some v)) s) : ER K cl F H wo (σ.set i (some v)) (δ.set i s) where
  sub := e.sub
  own := e.own
  len := by rw [List.length_set, List.length_set]; exact e.len
  at_ := fun j t ht => by
    by_cases hj : i = j
    · subst hj
      by_cases hi : i < δ.length
      · rw [List.getElem?_set_self hi] at ht
        cases ht
        rw [List.getElem?_set_self (by rw [e.len]; exact hi)]
        exact h
      · rw [List.getElem?_eq_none (by rw [List.length_set]; omega)] at ht
        cases ht
    · rw [List.getElem?_set_ne hj] at ht ⊢
      exact e.at_ j t ht
theorem ER.setV (e : ER K cl F H wo σ δ) (r : Rep K cl F v d) : ER K cl F H wo (σ.set i (some v)) (δ.set i (.o (.val d))) := e.set ⟨v, rfl, r⟩
theorem ER.val (e : ER K cl F H wo σ δ) (h : δ[i]? = some (.o (.val d))) : ∃ v, σ[i]? = some (some v) ∧ Rep K cl F v d := e.at_ i _ h
end
abbrev FE := Sto → Option Dat
def tP (K : PySem.W.Frag) (cl : Nat → Addr) (f : FE) : TE := fun σ H Q => ∃ δ F ω d, f δ = some d ∧ ER K cl F H ω σ δ ∧ Post K cl F H d Q
def PP (cl : Nat → Addr) (X : Cx) (e : Expr) (f : FE) : Prop := PE X e (tP X.K cl f)
section
variable {cl : Nat → Addr} {X : Cx} {e a b c : Expr} {fa fb fc : FE} {pos : Pos}
def eC (d : Dat) : FE := fun _ => some d
def eV (i : Nat) : FE := fun δ => match δ[i]? with | some (.o (.val d)) => some d | _ => none
theorem eV_some {i : Nat} {δ : Sto} {d : Dat} (h : eV i δ = some d) : δ[i]? = some (.o (.val d)) := by
  unfold eV at h
  split at h
  · rename_i d' e
    cases h
    exact e
  · cases h
theorem pp_int {i j pos} : PP cl X (.Constant (.int i) j pos) (eC (.int i)) := fun pins s σ H Q I h => by
  obtain ⟨δ, F, ω, d, hf, er, k⟩ := h
  obtain rfl : Dat.int i = d := Option.some.inj hf
  exact pe_int pins s σ H Q I (k.here er.sub (.int i))
theorem pp_bl {i j pos} : PP cl X (.Constant (.bool i) j pos) (eC (.bl i)) := fun pins s σ H Q I h => by
  obtain ⟨δ, F, ω, d, hf, er, k⟩ := h
  obtain rfl : Dat.bl i = d := Option.some.inj hf
  exact pe_bl pins s σ H Q I (k.here er.sub (.bl i))
theorem pp_str {i j pos} : PP cl X (.Constant (.str i) j pos) (eC (.str i)) := fun pins s σ H Q I h => by
  obtain ⟨δ, F, ω, d, hf, er, k⟩ := h
  obtain rfl : Dat.str i = d := Option.some.inj hf
  exact pe_str pins s σ H Q I (k.here er.sub (.str i))
theorem pp_non {j pos} : PP cl X (.Constant .none j pos) (eC .non) := fun pins s σ H Q I h => by
  obtain ⟨δ, F, ω, d, hf, er, k⟩ := h
  obtain rfl : Dat.non = d := Option.some.inj hf
  exact pe_non pins s σ H Q I (k.here er.sub .non)
theorem pp_var {i : Nat} (h : PE X e (tVar i)) : PP cl X e (eV i) := fun pins s σ H Q I hw => by
  obtain ⟨δ, F, ω, d, hf, er, k⟩ := hw
  obtain ⟨v, hv, r⟩ := er.val (eV_some hf)
  exact h pins s σ H Q I ⟨v, hv, k.here er.sub r⟩
theorem tP2 {K : PySem.W.Frag} {δ : Sto} {F H : Hp} {ω : Ow} {σ : St} {x y : Dat} {R : V → V → Hp → Prop} (hx : fa δ = some x) (hy : fb δ = some y) (er : ER K cl F H ω σ δ)
    (k : ∀ vx vy H2 F2, Same H H2 → Grow F H F2 → ER K cl F2 H2 ω σ δ → Rep K cl F2 vx x → Rep K cl F2 vy y → R vx vy H2) : tP K cl fa σ H fun vx H1 => tP K cl fb σ H1 fun vy H2 => R vx vy H2 :=
  ⟨δ, F, ω, x, hx, er, fun vx H1 F1 s1 s1' g1 r1 => ⟨δ, F1, ω, y, hy, er.grow s1 s1' g1, fun vy H2 F2 s2 s2' g2 r2 =>
    k vx vy H2 F2 (s1.trans s2) (g1.trans s1 g2) ((er.grow s1 s1' g1).grow s2 s2' g2) (r1.mono g2.1) r2⟩⟩
def e2 (g : Dat → Dat → Option Dat) (fa fb : FE) : FE := fun δ => (fa δ).bind fun x => (fb δ).bind fun y => g x y
def e1 (g : Dat → Option Dat) (fa : FE) : FE := fun δ => (fa δ).bind g
theorem e2_some {g : Dat → Dat → Option Dat} {δ : Sto} {d : Dat} (h : e2 g fa fb δ = some d) : ∃ x y, fa δ = some x ∧ fb δ = some y ∧ g x y = some d := by
  unfold e2 at h
  cases ha : fa δ with
  | none => rw [ha] at h; cases h
  | some x =>
    rw [ha] at h
    cases hb : fb δ with
    | none => rw [hb] at h; cases h
    | some y => rw [hb] at h; exact ⟨x, y, rfl, rfl, h⟩
theorem e1_some {g : Dat → Option Dat} {δ : Sto} {d : Dat} (h : e1 g fa δ = some d) : ∃ x, fa δ = some x ∧ g x = some d := by
  unfold e1 at h
  cases ha : fa δ with
  | none => rw [ha] at h; cases h
  | some x => rw [ha] at h; exact ⟨x, rfl, h⟩
def OpD (K : PySem.W.Frag) (cl : Nat → Addr) (r : R2) (g : Dat → Dat → Option Dat) : Prop :=
  ∀ F H x y a b d Q, g a b = some d → Same F H → Rep K cl F x a → Rep K cl F y b → Post K cl F H d Q → r x y H Q
theorem pp_bin {op : Operator} {r : R2} {g : Dat → Dat → Option Dat} (ho : OpR X (binaryOp op) r) (hd : OpD X.K cl r g) (ha : PP cl X a fa) (hb : PP cl X b fb) : PP cl X (.BinOp a op b pos) (e2 g fa fb) := fun pins s σ H Q I h => by
  obtain ⟨δ, F, ω, d, hf, er, k⟩ := h
  obtain ⟨x, y, hx, hy, hg⟩ := e2_some hf
  exact pe_op ho ha hb pins s σ H Q I (tP2 hx hy er fun vx vy H2 F2 s1 g1 er2 rx ry => hd F2 H2 vx vy x y d Q hg er2.sub rx ry (k.step s1 g1))
theorem pp_cmp {op : CmpOp} {r : R2} {g : Dat → Dat → Option Dat} (ho : OpR X (compareOp op) r) (hd : OpD X.K cl r g) (ha : PP cl X a fa) (hb : PP cl X b fb) (hm : behindInMarks op b = false) : PP cl X (.Compare a [op] [b] pos) (e2 g fa fb) := fun pins s σ H Q I h => by
  obtain ⟨δ, F, ω, d, hf, er, k⟩ := h
  obtain ⟨x, y, hx, hy, hg⟩ := e2_some hf
  exact pe_cmpR ho ha hb hm pins s σ H Q I (tP2 hx hy er fun vx vy H2 F2 s1 g1 er2 rx ry => hd F2 H2 vx vy x y d Q hg er2.sub rx ry (k.step s1 g1))
def gI (C : Int → Int → Bool) (g : Int → Int → Dat) : Dat → Dat → Option Dat
  | .int i, .int j => if C i j = true then some (g i j) else none
  | _, _ => none
theorem gI_some {C : Int → Int → Bool} {g : Int → Int → Dat} {x y d : Dat} (h : gI C g x y = some d) : ∃ i j, x = .int i ∧ y = .int j ∧ C i j = true ∧ d = g i j := by
  unfold gI at h
  split at h
  · rename_i i j
    split at h
    · rename_i c
      exact ⟨i, j, rfl, rfl, c, (Option.some.inj h).symm⟩
    · cases h
  · cases h
theorem opd_I {K : PySem.W.Frag} {P : Int → Int → Prop} {C : Int → Int → Bool} {g : Int → Int → V} {g' : Int → Int → Dat} (hc : ∀ i j, C i j = true → P i j) (hr : ∀ F i j, Rep K cl F (g i j) (g' i j)) : OpD K cl (rI P g) (gI C g') := by
  intro F H x y a b d Q hg s rx ry k
  obtain ⟨i, j, rfl, rfl, c, rfl⟩ := gI_some hg
  exact ⟨i, j, rx.int_inv, ry.int_inv, hc i j c, k.here s (hr F i j)⟩
theorem opd_I0 {K : PySem.W.Frag} {g : Int → Int → V} {g' : Int → Int → Dat} (hr : ∀ F i j, Rep K cl F (g i j) (g' i j)) : OpD K cl (rI0 g) (gI (fun _ _ => true) g') := by
  intro F H x y a b d Q hg s rx ry k
  obtain ⟨i, j, rfl, rfl, c, rfl⟩ := gI_some hg
  exact ⟨i, j, rx.int_inv, ry.int_inv, k.here s (hr F i j)⟩
def dSub := gI (fun _ _ => true) fun i j => .int (i - j)
def cMul (i j : Int) : Bool := decide ((-(2 ^ 64) < i ∧ i < 2 ^ 64) ∨ (-(2 ^ 64) < j ∧ j < 2 ^ 64))
def cDiv (_ j : Int) : Bool := decide (0 < j ∧ j < 1267650600228229401496703205376)
def cMod (_ j : Int) : Bool := decide (0 < j)
def cPow (i j : Int) : Bool := decide (0 ≤ j ∧ j ≤ 1000000 ∧ i.natAbs < 2 ^ 64)
def dDiv := gI cDiv fun i j => .int (i / j)
def dMod := gI cMod fun i j => .int (i % j)
def dPow := gI cPow fun i j => .int (i ^ j.toNat)
def dLt := gI (fun _ _ => true) fun i j => .bl (decide (i < j))
def dLe := gI (fun _ _ => true) fun i j => .bl (decide (i ≤ j))
def dGt := gI (fun _ _ => true) fun i j => .bl (decide (j < i))
def dGe := gI (fun _ _ => true) fun i j => .bl (decide (j ≤ i))
theorem pp_sub (ha : PP cl X a fa) (hb : PP cl X b fb) : PP cl X (.BinOp a .Sub b pos) (e2 dSub fa fb) := pp_bin op_sub (opd_I0 fun _ _ _ => .int _) ha hb
theorem op_fdivW : OpR X (binaryOp .FloorDiv) (rI (fun _ j => 0 < j ∧ j < 1267650600228229401496703205376) fun i j => .int (i / j)) := opI fun i j _ _ _ _ _ hc q => by
  have h1 : (0 : Int) < j := hc.1
  have h2 : j < 1267650600228229401496703205376 := hc.2
  refine floordiv_int (by omega) (by rw [Int.fdiv_eq_ediv_of_nonneg i (by omega)]; exact q) (.inl (PyProof.noPylong_of_log2 ?_))
  have h3 : j.natAbs < 2 ^ 100 := by omega
  have := (Nat.log2_lt (show j.natAbs ≠ 0 by omega)).mpr h3
  omega
theorem pp_div (ha : PP cl X a fa) (hb : PP cl X b fb) : PP cl X (.BinOp a .FloorDiv b pos) (e2 dDiv fa fb) := pp_bin op_fdivW (opd_I (fun _ j h => of_decide_eq_true (p := 0 < j ∧ j < 1267650600228229401496703205376) h) fun _ _ _ => .int _) ha hb
theorem pp_mod (ha : PP cl X a fa) (hb : PP cl X b fb) : PP cl X (.BinOp a .Mod b pos) (e2 dMod fa fb) := pp_bin op_mod (opd_I (fun _ j h => of_decide_eq_true (p := 0 < j) h) fun _ _ _ => .int _) ha hb
theorem pp_pow (ha : PP cl X a fa) (hb : PP cl X b fb) : PP cl X (.BinOp a .Pow b pos) (e2 dPow fa fb) := pp_bin op_pow (opd_I (fun i j h => of_decide_eq_true (p := 0 ≤ j ∧ j ≤ 1000000 ∧ i.natAbs < 2 ^ 64) h) fun _ _ _ => .int _) ha hb
theorem pp_le (ha : PP cl X a fa) (hb : PP cl X b fb) : PP cl X (.Compare a [.LtE] [b] pos) (e2 dLe fa fb) := pp_cmp op_le (opd_I0 fun _ _ _ => .bl _) ha hb (nomark _)
theorem pp_gt (ha : PP cl X a fa) (hb : PP cl X b fb) : PP cl X (.Compare a [.Gt] [b] pos) (e2 dGt fa fb) := pp_cmp op_gt (opd_I0 fun _ _ _ => .bl _) ha hb (nomark _)
def e3 (g g' : Dat → Dat → Option Dat) (fa fb fc : FE) : FE := fun δ => (fa δ).bind fun x => (fb δ).bind fun y => (g x y).bind fun z => match z with
  | .bl true => (fc δ).bind fun w => g' y w
  | .bl false => some (.bl false)
  | _ => none
def dAdd : Dat → Dat → Option Dat
  | .int i, .int j => some (.int (i + j))
  | .str x, .str y => if x.length + y.length ≤ sizeLine then some (.str (x ++ y)) else none
  | .lst xs, .lst ys => if xs.length + ys.length ≤ sizeLine then some (.lst (xs ++ ys)) else none
  | _, _ => none
theorem op_catS : OpR X (binaryOp .Add) (fun x y H Q => ∃ l b xs zs, x = .ref l ∧ y = .ref b ∧ SqL X.K H l xs ∧ SqL X.K H b zs ∧ xs.length + zs.length ≤ sizeLine ∧ ∀ p, H p = none → Q (.ref p) (upd H p (.lst (xs ++ zs)))) := by
  intro pins s σ H x y v u Q I rx ry h
  obtain ⟨l, b, xs, zs, rfl, rfl, hH, hB, hz, q⟩ := h
  cases rx
  cases ry
  obtain ⟨its, r, ⟨o1, n1, e1, c1, d1, z1⟩, _⟩ := I.list hH
  obtain ⟨its2, r2, ⟨o2, n2, e2, c2, d2, z2⟩, _⟩ := I.list hB
  have hl := r.length
  have hl2 := r2.length
  obtain ⟨cls, dd, data, sl⟩ := o1
  obtain ⟨cls2, dd2, data2, sl2⟩ := o2
  simp only at c1 z1 c2 z2
  subst c1 z1 c2 z2
  refine concat_meets ⟨_, e1, rfl⟩ ⟨_, e2, rfl⟩ noFill_list_add seq_list_add PySem.F.slot_list_add PySem.F.entry_list_add (PySem.F.args_list_add_2 _ _) (list_addW l b its.toArray its2.toArray n1 n2 dd dd2 sl sl2 (by rw [List.size_toArray, List.size_toArray]; omega)) ⟨e1, e2, ?_⟩
  have ea : its.toArray ++ its2.toArray = (its ++ its2).toArray := by simp
  rw [ea]
  exact ⟨.ref _, _, I.lnew (t' := s.toks) (r.append r2) (by rw [List.length_append]; omega), rfl, q _ I.fresh⟩
theorem pp_add (ha : PP cl X a fa) (hb : PP cl X b fb) : PP cl X (.BinOp a .Add b pos) (e2 dAdd fa fb) := fun pins s σ H Q I h => by
  obtain ⟨δ, F, ω, d, hf, er, k⟩ := h
  obtain ⟨x, y, hx, hy, hg⟩ := e2_some hf
  unfold dAdd at hg
  split at hg
  · cases hg
    exact pe_op op_add ha hb pins s σ H Q I (tP2 hx hy er fun vx vy H2 F2 s1 g1 er2 rx ry => ⟨_, _, rx.int_inv, ry.int_inv, (k.step s1 g1).here er2.sub (.int _)⟩)
  · split at hg
    · rename_i hl
      cases hg
      exact pe_op op_add_str ha hb pins s σ H Q I (tP2 hx hy er fun vx vy H2 F2 s1 g1 er2 rx ry => ⟨_, _, rx.str_inv, ry.str_inv, hl, (k.step s1 g1).here er2.sub (.str _)⟩)
    · cases hg
  · split at hg
    · rename_i hl
      cases hg
      refine pe_op op_catS ha hb pins s σ H Q I (tP2 hx hy er fun vx vy H2 F2 s1 g1 er2 rx ry => ?_)
      obtain ⟨p, vs, rfl, q1, r1⟩ := rx.lst_inv
      obtain ⟨p', ws, rfl, q2, r2⟩ := ry.lst_inv
      refine ⟨p, p', vs, ws, rfl, rfl, er2.sub.seq q1, er2.sub.seq q2, by rw [r1.length, r2.length]; exact hl, fun z hz => ?_⟩
      have sm : Same F2 (upd F2 z (.lst (vs ++ ws))) := same_upd (none_of er2.sub hz)
      exact (k.step s1 g1).new er2.sub hz (.lst' (SqL.of upd_same) (pappend (r1.mono sm) (r2.mono sm)))
    · cases hg
  · cases hg
def dMul : Dat → Dat → Option Dat := gI cMul fun i j => .int (i * j)
theorem pp_mul (ha : PP cl X a fa) (hb : PP cl X b fb) : PP cl X (.BinOp a .Mult b pos) (e2 dMul fa fb) := pp_bin op_mul (opd_I (fun i j h => of_decide_eq_true (p := (-(2 ^ 64) < i ∧ i < 2 ^ 64) ∨ (-(2 ^ 64) < j ∧ j < 2 ^ 64)) h) fun _ _ _ => .int _) ha hb
abbrev FA := Sto → Option (List Dat)
def PostL (K : PySem.W.Frag) (cl : Nat → Addr) (F H : Hp) (ds : List Dat) (Q : List V → Hp → Prop) : Prop := ∀ vs H' F', Same H H' → Same F' H' → Grow F H F' → RepL K cl F' vs ds → Q vs H'
def tPA (K : PySem.W.Frag) (cl : Nat → Addr) (f : FA) : TA := fun σ H Q => ∃ δ F ω ds, f δ = some ds ∧ ER K cl F H ω σ δ ∧ PostL K cl F H ds Q
def PPA (cl : Nat → Addr) (X : Cx) (es : List Expr) (f : FA) : Prop := PA X es (tPA X.K cl f)
def aN : FA := fun _ => some []
def aC (f : FE) (g : FA) : FA := fun δ => (f δ).bind fun x => (g δ).bind fun xs => some (x :: xs)
theorem ppa_nil : PPA cl X [] aN := fun pos pins s σ H Q I h => by
  obtain ⟨δ, F, ω, ds, hf, er, k⟩ := h
  obtain rfl : [] = ds := Option.some.inj hf
  exact pa_nil pos pins s σ H Q I (k [] H F (Same.refl H) er.sub Grow.refl .nil)
theorem ppa_cons {es : List Expr} {g : FA} (ha : PP cl X a fa) (hr : PPA cl X es g) (hs : starEach (a :: es) X.env = (false, eval a X.env) :: starEach es X.env := by rfl) : PPA cl X (a :: es) (aC fa g) := fun pos pins s σ H Q I h => by
  obtain ⟨δ, F, ω, ds, hf, er, k⟩ := h
  unfold aC at hf
  cases hx : fa δ with
  | none => rw [hx] at hf; cases hf
  | some x =>
    cases hy : g δ with
    | none => rw [hx, hy] at hf; cases hf
    | some xs =>
      rw [hx, hy] at hf
      obtain rfl : x :: xs = ds := Option.some.inj hf
      exact pa_cons ha hr hs pos pins s σ H Q I ⟨δ, F, ω, x, hx, er, fun v H1 F1 s1 s1' g1 r1 => ⟨δ, F1, ω, xs, hy, er.grow s1 s1' g1, fun vs H2 F2 s2 s2' g2 r2 =>
        k (v :: vs) H2 F2 (s1.trans s2) s2' (g1.trans s1 g2) (.cons (r1.mono g2.1) r2)⟩⟩
def eT (g : FA) : FE := fun δ => (g δ).bind fun xs => if xs.length ≤ sizeLine then some (.tup xs) else none
def eL (g : FA) : FE := fun δ => (g δ).bind fun xs => if xs.length ≤ sizeLine then some (.lst xs) else none
theorem pp_tup {es : List Expr} {g : FA} {x1} (h : PPA cl X es g) : PP cl X (.Tuple es x1 pos) (eT g) := fun pins s σ H Q I hw => by
  obtain ⟨δ, F, ω, d, hf, er, k⟩ := hw
  unfold eT at hf
  cases hx : g δ with
  | none => rw [hx] at hf; cases hf
  | some xs =>
    rw [hx] at hf
    simp only [Option.bind_some] at hf
    split at hf
    · rename_i hl
      cases hf
      refine pe_tup h pins s σ H Q I ⟨δ, F, ω, xs, hx, er, fun vs H1 F1 s1 s1' g1 r1 => ⟨by rw [r1.length]; exact hl, fun p hp => ?_⟩⟩
      exact (k.step s1 g1).new s1' hp (.tup' upd_same (r1.mono (same_upd (none_of s1' hp))))
    · cases hf
theorem pp_lst {es : List Expr} {g : FA} (h : PPA cl X es g) : PP cl X (.List es pos) (eL g) := fun pins s σ H Q I hw => by
  obtain ⟨δ, F, ω, d, hf, er, k⟩ := hw
  unfold eL at hf
  cases hx : g δ with
  | none => rw [hx] at hf; cases hf
  | some xs =>
    rw [hx] at hf
    simp only [Option.bind_some] at hf
    split at hf
    · rename_i hl
      cases hf
      refine pe_lst h pins s σ H Q I ⟨δ, F, ω, xs, hx, er, fun vs H1 F1 s1 s1' g1 r1 => ⟨by rw [r1.length]; exact hl, fun p hp => ?_⟩⟩
      exact (k.step s1 g1).new s1' hp (.lst' (SqL.of upd_same) (r1.mono (same_upd (none_of s1' hp))))
    · cases hf
def lookD {κ : Type} [DecidableEq κ] (kvs : List (κ × Dat)) (k : κ) : Option Dat := (kvs.find? fun kv => decide (kv.1 = k)).map (·.2)
def putD {κ : Type} [DecidableEq κ] (kvs : List (κ × Dat)) (k : κ) (v : Dat) : List (κ × Dat) :=
  if (kvs.any fun kv => decide (kv.1 = k)) = true then kvs.map (fun kv => if kv.1 = k then (kv.1, v) else kv) else kvs ++ [(k, v)]
theorem repK_look {κ : Type} [DecidableEq κ] {K : PySem.W.Frag} {F : Hp} {vs : List (κ × V)} {ds : List (κ × Dat)} (r : RepK K cl F vs ds) (k : κ) : (valV vs k = none ∧ lookD ds k = none) ∨ ∃ v d, valV vs k = some v ∧ lookD ds k = some d ∧ Rep K cl F v d := by
  induction r with
  | nil => exact .inl ⟨rfl, rfl⟩
  | @cons p q ps qs h _ ih =>
    by_cases e : p.1 = k
    · refine .inr ⟨p.2, q.2, valV_pos e, ?_, h.2⟩
      unfold lookD
      rw [List.find?_cons, decide_eq_true (show q.1 = k by rw [← h.1]; exact e)]
      rfl
    · have e' : ¬ q.1 = k := by rw [← h.1]; exact e
      rw [valV_neg e]
      have : lookD (q :: qs) k = lookD qs k := by
        unfold lookD
        rw [List.find?_cons, decide_eq_false e']
      rw [this]
      exact ih
theorem repK_any {κ : Type} [DecidableEq κ] {K : PySem.W.Frag} {F : Hp} {vs : List (κ × V)} {ds : List (κ × Dat)} (r : RepK K cl F vs ds) (k : κ) : (vs.any fun kv => decide (kv.1 = k)) = (ds.any fun kv => decide (kv.1 = k)) := by
  induction r with
  | nil => rfl
  | cons h _ ih => rw [List.any_cons, List.any_cons, ih, h.1]
theorem repK_put {κ : Type} [DecidableEq κ] {K : PySem.W.Frag} {F : Hp} {vs : List (κ × V)} {ds : List (κ × Dat)} {v : V} {d : Dat} (r : RepK K cl F vs ds) (k : κ) (rv : Rep K cl F v d) : RepK K cl F (putK vs k v) (putD ds k d) := by
  have rep : RepK K cl F (vs.map fun kv => if kv.1 = k then (kv.1, v) else kv) (ds.map fun kv => if kv.1 = k then (kv.1, d) else kv) := by
    induction r with
    | nil => exact .nil
    | @cons p q ps qs h _ ih =>
      refine .cons ?_ ih
      dsimp only
      rw [← h.1]
      split
      · exact ⟨rfl, rv⟩
      · exact h
  unfold putK putD
  rw [repK_any r k]
  split
  · exact rep
  · exact pappend r (.cons ⟨rfl, rv⟩ .nil)
def keyD : Dat → Option Key
  | .int i => some (.inl i)
  | .str x => some (.inr x)
  | _ => none
theorem keyD_rep {K : PySem.W.Frag} {F : Hp} {v : V} {d : Dat} {k : Key} (r : Rep K cl F v d) (h : keyD d = some k) : v = kV k := by
  unfold keyD at h
  split at h
  · cases h; rw [r.int_inv]; rfl
  · cases h; rw [r.str_inv]; rfl
  · cases h
def keysD : List Dat → Option (List Key)
  | [] => some []
  | d :: ds => (keyD d).bind fun k => (keysD ds).bind fun ks => some (k :: ks)
theorem keysD_rep {K : PySem.W.Frag} {F : Hp} : ∀ {vs : List V} {ds : List Dat} {ks : List Key}, RepL K cl F vs ds → keysD ds = some ks → vs = ks.map kV
  | _, _, _, .nil, h => by cases h; rfl
  | _, _, ks, .cons r t, h => by
    unfold keysD at h
    rename_i v d vs ds
    cases hk : keyD d with
    | none => rw [hk] at h; cases h
    | some k =>
      rw [hk] at h
      cases hs : keysD ds with
      | none => rw [hs] at h; cases h
      | some ks' =>
        rw [hs] at h
        cases h
        rw [List.map_cons, keyD_rep r hk, keysD_rep t hs]
def dIx (x y : Dat) : Option Dat := match x with
  | .lst xs => (match y with | .int i => atI xs i | _ => none)
  | .tup xs => (match y with | .int i => atI xs i | _ => none)
  | .dT kvs => (match y with | .tup ys => (keysD ys).bind fun ks => lookD kvs ks | _ => none)
  | .dK kvs => (keyD y).bind fun k => lookD kvs k
  | .str z => (match y with | .int i => if z.length ≤ sizeLine then (atI z.cps.toList i).bind fun c => some (.str ⟨#[c]⟩) else none | _ => none)
  | _ => none
theorem atI_rep {K : PySem.W.Frag} {F : Hp} {vs : List V} {ds : List Dat} {i : Int} {d : Dat} (r : RepL K cl F vs ds) (h : atI ds i = some d) : ∃ v, atI vs i = some v ∧ Rep K cl F v d := by
  unfold atI at h ⊢
  rw [r.length]
  cases e : ixN ds.length i with
  | none => rw [e] at h; cases h
  | some j =>
    rw [e] at h
    exact pgetR j r h
theorem pp_ix (hu : X.A.units + 1 < cLine) (ha : PP cl X a fa) (hb : PP cl X b fb) (hs : PlainIx b) : PP cl X (.Subscript a b pos) (e2 dIx fa fb) := fun pins s σ H Q I h => by
  obtain ⟨δ, F, ω, d, hf, er, k⟩ := h
  obtain ⟨x, y, hx, hy, hg⟩ := e2_some hf
  unfold dIx at hg
  cases x with
  | lst xs =>
    cases y with
    | int j =>
      refine pe_ix ix_list ha hb hs pins s σ H Q I (tP2 hx hy er fun vx vy H2 F2 s1 g1 er2 rx ry => ?_)
      obtain ⟨p, vs, rfl, q1, r1⟩ := rx.lst_inv
      obtain ⟨v, hv, r⟩ := atI_rep r1 hg
      exact ⟨p, vs, _, v, rfl, ry.int_inv, er2.sub.seq q1, hv, (k.step s1 g1).here er2.sub r⟩
    | _ => cases hg
  | tup xs =>
    cases y with
    | int j =>
      refine pe_ix ix_tup ha hb hs pins s σ H Q I (tP2 hx hy er fun vx vy H2 F2 s1 g1 er2 rx ry => ?_)
      obtain ⟨p, vs, rfl, q1, r1⟩ := rx.tup_inv
      obtain ⟨v, hv, r⟩ := atI_rep r1 hg
      exact ⟨p, vs, _, v, rfl, ry.int_inv, SqT.of (er2.sub _ _ q1), hv, (k.step s1 g1).here er2.sub r⟩
    | _ => cases hg
  | dT kvs =>
    cases y with
    | tup ys =>
      dsimp only at hg
      cases hk : keysD ys with
      | none => rw [hk] at hg; cases hg
      | some kk =>
        rw [hk] at hg
        refine pe_dget hu ha hb hs pins s σ H Q I (tP2 hx hy er fun vx vy H2 F2 s1 g1 er2 rx ry => ?_)
        obtain ⟨p, ws, rfl, q1, r1⟩ := rx.dT_inv
        obtain ⟨p', vs, rfl, q2, r2⟩ := ry.tup_inv
        rcases repK_look r1 kk with ⟨_, n⟩ | ⟨v, d', h1, h2, r⟩
        · rw [show lookD kvs kk = some d from hg] at n; cases n
        · rw [show lookD kvs kk = some d from hg] at h2; cases h2
          have eb := er2.sub _ _ q2
          rw [keysD_rep r2 hk] at eb
          exact ⟨p, v, rfl, h1 ▸ DGet.t (er2.sub _ _ q1) eb, (k.step s1 g1).here er2.sub r⟩
    | _ => cases hg
  | dK kvs =>
    dsimp only at hg
    cases hk : keyD y with
    | none => rw [hk] at hg; cases hg
    | some kk =>
      rw [hk] at hg
      refine pe_dget hu ha hb hs pins s σ H Q I (tP2 hx hy er fun vx vy H2 F2 s1 g1 er2 rx ry => ?_)
      obtain ⟨p, ws, rfl, q1, r1⟩ := rx.dK_inv
      rcases repK_look r1 kk with ⟨_, n⟩ | ⟨v, d', h1, h2, r⟩
      · rw [show lookD kvs kk = some d from hg] at n; cases n
      · rw [show lookD kvs kk = some d from hg] at h2; cases h2
        rw [keyD_rep ry hk]
        exact ⟨p, v, rfl, h1 ▸ DGet.k (er2.sub _ _ q1), (k.step s1 g1).here er2.sub r⟩
  | str z =>
    cases y with
    | int j =>
      dsimp only at hg
      split at hg
      · rename_i hl
        cases hc : atI z.cps.toList j with
        | none => rw [hc] at hg; cases hg
        | some c =>
          rw [hc] at hg
          obtain rfl := Option.some.inj hg
          exact pe_ix ix_str ha hb hs pins s σ H Q I (tP2 hx hy er fun vx vy H2 F2 s1 g1 er2 rx ry => ⟨z, j, c, rx.str_inv, ry.int_inv, hl, hc, (k.step s1 g1).here er2.sub (.str _)⟩)
      · cases hg
    | _ => cases hg
  | _ => cases hg
end
end MB
namespace MB
open PySem PySem.Spec PyProof.Rows L2
abbrev FT := Sto → Option Bool
def tPT (K : PySem.W.Frag) (cl : Nat → Addr) (f : FT) : TT := fun σ H Q => ∃ δ F ω b, f δ = some b ∧ ER K cl F H ω σ δ ∧ ∀ H' F', Same H H' → Same F' H' → Grow F H F' → Q b H'
def PPT (cl : Nat → Addr) (X : Cx) (e : Expr) (f : FT) : Prop := PT X e (tPT X.K cl f)
def PPW (cl : Nat → Addr) (X : Cx) (e : Expr) (f : FT) : Prop := PW X e (tPT X.K cl f)
section
variable {cl : Nat → Addr} {X : Cx} {e a b c : Expr} {fa fb fc : FE} {ta tb tc : FT} {rest : List Expr} {pos : Pos}
def b1 (f : FE) : FT := fun δ => match f δ with | some (.bl b) => some b | _ => none
theorem b1_some {f : FE} {δ : Sto} {b : Bool} (h : b1 f δ = some b) : f δ = some (.bl b) := by
  unfold b1 at h
  split at h
  · rename_i b' e
    cases h
    exact e
  · cases h
theorem tp_test {K : PySem.W.Frag} {σ : St} {H : Hp} {Q : Bool → Hp → Prop} (h : tPT K cl (b1 fa) σ H Q) : tP K cl fa σ H fun x H' => ∃ k, x = .bl k ∧ Q k H' := by
  obtain ⟨δ, F, ω, b, hf, er, k⟩ := h
  exact ⟨δ, F, ω, _, b1_some hf, er, fun v H' F' s s' g r => ⟨b, r.bl_inv, k H' F' s s' g⟩⟩
theorem ppt_val (h : PP cl X e fa) (he : ∀ whole, isTrue e X.env whole = (do let v ← whole; standAt e.pos; holding [v] (truthy v)) := by intro _; rfl) : PPT cl X e (b1 fa) := fun pins s σ H Q I hw =>
  pt_val h he pins s σ H Q I (tp_test hw)
theorem ppt_cmp {op : CmpOp} {r : R2} {g : Dat → Dat → Option Dat} (ho : OpR X (compareOp op) r) (hd : OpD X.K cl r g) (ha : PP cl X a fa) (hb : PP cl X b fb) (hm : behindInMarks op b = false) : PPT cl X (.Compare a [op] [b] pos) (b1 (e2 g fa fb)) := fun pins s σ H Q I h => by
  obtain ⟨δ, F, ω, d, hf, er, k⟩ := h
  obtain ⟨x, y, hx, hy, hg⟩ := e2_some (b1_some hf)
  exact pt_cmpR ho ha hb hm pins s σ H Q I (tP2 hx hy er fun vx vy H2 F2 s1 g1 er2 rx ry => hd F2 H2 vx vy x y _ _ hg er2.sub rx ry fun v H' F' s s' g r => ⟨d, r.bl_inv, k H' F' (s1.trans s) s' (g1.trans s1 g)⟩)
theorem ppt_of {op : CmpOp} (hm : behindInMarks op b = false) (h : PC X op a b (tP X.K cl fa)) : PPT cl X (.Compare a [op] [b] pos) (b1 fa) := fun pins s σ H Q I hw => pt_cmp h hm pins s σ H Q I (tp_test hw)
def bNot (t : FT) : FT := fun δ => (t δ).map (!·)
def bAnd (t u : FT) : FT := fun δ => (t δ).bind fun c => if c = true then u δ else some false
def bOr (t u : FT) : FT := fun δ => (t δ).bind fun c => if c = true then some true else u δ
theorem ppt_not (ha : PPT cl X a ta) : PPT cl X (.UnaryOp .Not a pos) (bNot ta) := fun pins s σ H Q I h => by
  obtain ⟨δ, F, ω, b, hf, er, k⟩ := h
  unfold bNot at hf
  cases hx : ta δ with
  | none => rw [hx] at hf; cases hf
  | some x =>
    rw [hx] at hf
    obtain rfl : (!x) = b := Option.some.inj hf
    exact pt_not ha pins s σ H Q I ⟨δ, F, ω, x, hx, er, k⟩
theorem ppw_and1 (ha : PPT cl X a ta) : PPW cl X (.BoolOp .And [a] pos) ta := pw_and1 ha
theorem ppw_or1 (ha : PPT cl X a ta) : PPW cl X (.BoolOp .Or [a] pos) ta := pw_or1 ha
theorem ppw_and (ha : PPT cl X a ta) (hb : PPW cl X (.BoolOp .And (b :: rest) pos) tb) : PPW cl X (.BoolOp .And (a :: b :: rest) pos) (bAnd ta tb) := fun wh pins s σ H Q I h => by
  obtain ⟨δ, F, ω, bo, hf, er, k⟩ := h
  unfold bAnd at hf
  cases hx : ta δ with
  | none => rw [hx] at hf; cases hf
  | some x =>
    rw [hx] at hf
    refine pw_and ha hb wh pins s σ H Q I ⟨δ, F, ω, x, hx, er, fun H1 F1 s1 s1' g1 => ?_⟩
    cases x with
    | true => exact ⟨δ, F1, ω, bo, hf, er.grow s1 s1' g1, fun H2 F2 s2 s2' g2 => k H2 F2 (s1.trans s2) s2' (g1.trans s1 g2)⟩
    | false => cases hf; exact k H1 F1 s1 s1' g1
theorem ppw_or (ha : PPT cl X a ta) (hb : PPW cl X (.BoolOp .Or (b :: rest) pos) tb) : PPW cl X (.BoolOp .Or (a :: b :: rest) pos) (bOr ta tb) := fun wh pins s σ H Q I h => by
  obtain ⟨δ, F, ω, bo, hf, er, k⟩ := h
  unfold bOr at hf
  cases hx : ta δ with
  | none => rw [hx] at hf; cases hf
  | some x =>
    rw [hx] at hf
    refine pw_or ha hb wh pins s σ H Q I ⟨δ, F, ω, x, hx, er, fun H1 F1 s1 s1' g1 => ?_⟩
    cases x with
    | false => exact ⟨δ, F1, ω, bo, hf, er.grow s1 s1' g1, fun H2 F2 s2 s2' g2 => k H2 F2 (s1.trans s2) s2' (g1.trans s1 g2)⟩
    | true => cases hf; exact k H1 F1 s1 s1' g1
theorem PPW.pt (h : PPW cl X e ta) : PPT cl X e ta := h _
def eAnd (fa fb : FE) : FE := fun δ => (fa δ).bind fun x => match x with | .bl true => fb δ | .bl false => some (.bl false) | _ => none
def eOr (fa fb : FE) : FE := fun δ => (fa δ).bind fun x => match x with | .bl true => some (.bl true) | .bl false => fb δ | _ => none
theorem pp_one {op} (h : PP cl X a fa) : PP cl X (.BoolOp op [a] pos) fa := pe_one h
theorem pp_and (ha : PP cl X a fa) (hb : PP cl X (.BoolOp .And (b :: rest) pos) fb) : PP cl X (.BoolOp .And (a :: b :: rest) pos) (eAnd fa fb) := fun pins s σ H Q I h => by
  obtain ⟨δ, F, ω, d, hf, er, k⟩ := h
  unfold eAnd at hf
  cases hx : fa δ with
  | none => rw [hx] at hf; cases hf
  | some x =>
    rw [hx] at hf
    simp only [Option.bind_some] at hf
    refine pe_and ha hb pins s σ H Q I ⟨δ, F, ω, x, hx, er, fun v H1 F1 s1 s1' g1 r1 => ?_⟩
    split at hf
    · refine ⟨true, r1.bl_inv, ?_⟩
      rw [if_pos rfl]
      exact ⟨δ, F1, ω, d, hf, er.grow s1 s1' g1, k.step s1 g1⟩
    · refine ⟨false, r1.bl_inv, ?_⟩
      rw [if_neg Bool.false_ne_true]
      cases hf
      exact (k.step s1 g1).here s1' (.bl false)
    · cases hf
theorem pp_or (ha : PP cl X a fa) (hb : PP cl X (.BoolOp .Or (b :: rest) pos) fb) : PP cl X (.BoolOp .Or (a :: b :: rest) pos) (eOr fa fb) := fun pins s σ H Q I h => by
  obtain ⟨δ, F, ω, d, hf, er, k⟩ := h
  unfold eOr at hf
  cases hx : fa δ with
  | none => rw [hx] at hf; cases hf
  | some x =>
    rw [hx] at hf
    simp only [Option.bind_some] at hf
    refine pe_or ha hb pins s σ H Q I ⟨δ, F, ω, x, hx, er, fun v H1 F1 s1 s1' g1 r1 => ?_⟩
    split at hf
    · refine ⟨true, r1.bl_inv, ?_⟩
      rw [if_pos rfl]
      cases hf
      exact (k.step s1 g1).here s1' (.bl true)
    · refine ⟨false, r1.bl_inv, ?_⟩
      rw [if_neg Bool.false_ne_true]
      exact ⟨δ, F1, ω, d, hf, er.grow s1 s1' g1, k.step s1 g1⟩
    · cases hf
def eqL (f : Dat → Dat → Option Bool) : List Dat → List Dat → Option Bool
  | [], [] => some true
  | x :: xs, y :: ys => (f x y).bind fun a => (eqL f xs ys).bind fun b => some (a && b)
  | _, _ => some false
def eqS (f : Dat → Dat → Option Bool) : Dat → Dat → Option Bool
  | .int a, .int b => some (a == b)
  | .str a, .str b => some (a == b)
  | .bl a, .bl b => some (a == b)
  | .non, .non => some true
  | .int _, .str _ => some false
  | .str _, .int _ => some false
  | .tup xs, .tup ys => eqL f xs ys
  | .lst xs, .lst ys => eqL f xs ys
  | _, _ => none
def eqN : Nat → Dat → Dat → Option Bool
  | 0 => fun _ _ => none
  | n + 1 => eqS (eqN n)
def pick (f : Dat → Dat → Option Bool) (xs ys : List Dat) (j : Nat) : Bool := match xs[j]?, ys[j]? with
  | some x, some y => (f x y).getD false
  | _, _ => false
theorem eqL_spec {f : Dat → Dat → Option Bool} : ∀ {xs ys : List Dat} {e : Bool}, eqL f xs ys = some e →
    (∀ (j : Nat) (x y : Dat), xs[j]? = some x → ys[j]? = some y → f x y = some (pick f xs ys j)) ∧ e = ((List.range (min xs.length ys.length)).all (pick f xs ys) && xs.length == ys.length)
  | [], [], e, h => by
    cases h
    exact ⟨fun j x y hx => by simp at hx, rfl⟩
  | [], y :: ys, e, h => by
    cases h
    exact ⟨fun j x y hx => by simp at hx, by simp⟩
  | x :: xs, [], e, h => by
    cases h
    exact ⟨fun j x y _ hy => by simp at hy, by simp⟩
  | x :: xs, y :: ys, e, h => by
    unfold eqL at h
    cases ha : f x y with
    | none => rw [ha] at h; cases h
    | some a =>
      rw [ha] at h
      cases hb : eqL f xs ys with
      | none => rw [hb] at h; cases h
      | some b =>
        rw [hb] at h
        obtain rfl : (a && b) = e := Option.some.inj h
        obtain ⟨h1, h2⟩ := eqL_spec hb
        have p0 : pick f (x :: xs) (y :: ys) 0 = a := by simp [pick, ha]
        have pS : ∀ j, pick f (x :: xs) (y :: ys) (j + 1) = pick f xs ys j := fun j => by simp [pick]
        refine ⟨fun j x' y' hx hy => ?_, ?_⟩
        · cases j with
          | zero => simp at hx hy; subst hx hy; rw [p0]; exact ha
          | succ j => rw [pS]; exact h1 j x' y' (by simpa using hx) (by simpa using hy)
        · have hm : min (x :: xs).length (y :: ys).length = min xs.length ys.length + 1 := by simp only [List.length_cons]; omega
          rw [hm, List.range_succ_eq_map, List.all_cons, p0, List.all_map, h2]
          have : (pick f (x :: xs) (y :: ys) ∘ Nat.succ) = pick f xs ys := funext fun j => pS j
          rw [this, Bool.and_assoc]
          simp
theorem eqN_same {K : PySem.W.Frag} {F : Hp} (inj : ∀ a xs ys, SqL K F a xs → SqL K F a ys → xs = ys) : ∀ (n : Nat) (v : V) (a b : Dat) (e : Bool), Rep K cl F v a → Rep K cl F v b → eqN n a b = some e → e = true := by
  intro n
  have key : ∀ (f : Dat → Dat → Option Bool), (∀ (v : V) (a b : Dat) (e : Bool), Rep K cl F v a → Rep K cl F v b → f a b = some e → e = true) →
      ∀ (vs : List V) (xs ys : List Dat) (e : Bool), RepL K cl F vs xs → RepL K cl F vs ys → eqL f xs ys = some e → e = true := by
    intro f hf vs
    induction vs with
    | nil =>
      intro xs ys e r1 r2 h
      cases r1
      cases r2
      cases h
      rfl
    | cons v vs ih =>
      intro xs ys e r1 r2 h
      cases r1 with
      | @cons _ x _ xs p1 t1 =>
        cases r2 with
        | @cons _ y _ ys p2 t2 =>
          unfold eqL at h
          cases ha : f x y with
          | none => rw [ha] at h; cases h
          | some a =>
            rw [ha] at h
            cases hb : eqL f xs ys with
            | none => rw [hb] at h; cases h
            | some b =>
              rw [hb] at h
              obtain rfl : (a && b) = e := Option.some.inj h
              rw [hf v x y a p1 p2 ha, ih xs ys b t1 t2 hb]
              rfl
  induction n with
  | zero => intro v a b e r1 r2 h; cases h
  | succ n ih =>
    intro v a b e r1 r2 h
    unfold eqN eqS at h
    split at h
    · cases h; cases r1; cases r2; simp
    · cases h; cases r1; cases r2; simp
    · cases h; cases r1; cases r2; simp
    · cases h; rfl
    · cases r1; cases r2
    · cases r1; cases r2
    · rename_i xs ys
      obtain ⟨p, vs, rfl, q1, t1⟩ := r1.tup_inv
      obtain ⟨p', vs', e', q2, t2⟩ := r2.tup_inv
      cases e'
      rw [q1] at q2
      cases q2
      exact key (eqN n) ih vs xs ys e t1 t2 h
    · rename_i xs ys
      obtain ⟨p, vs, rfl, q1, t1⟩ := r1.lst_inv
      obtain ⟨p', vs', e', q2, t2⟩ := r2.lst_inv
      cases e'
      cases inj _ _ _ q1 q2
      exact key (eqN n) ih vs xs ys e t1 t2 h
    · cases h
end
end MB
namespace MB
open PySem PySem.Spec PyProof.Rows L2
inductive Out where
  | nx (δ : Sto) | rt (d : Dat) | bk (δ : Sto) | ct (δ : Sto) | ro (x : O0)
abbrev FS := Sto → Option Out
structure SR (K : PySem.W.Frag) (cl : Nat → Addr) (B F0 P : Hp) (δ : Sto) (σ : St) (H F : Hp) (ω : Addr → Option Lab) : Prop where
  er : ER K cl F H ⟨ω, fun i => i⟩ σ δ
  base : Same B H
  grow : Grow F0 B F
  pin : Same P F
  fresh : ∀ a l, ω a = some l → B a = none
def SRe (K : PySem.W.Frag) (cl : Nat → Addr) (B F0 P : Hp) (δ : Sto) (σ : St) (H : Hp) : Prop := ∃ F ω, SR K cl B F0 P δ σ H F ω
def RT (K : PySem.W.Frag) (cl : Nat → Addr) (B F0 : Hp) (d : Dat) (v : V) (H : Hp) : Prop := ∃ F, Same B H ∧ Same F H ∧ Grow F0 B F ∧ Rep K cl F v d
def RTO (K : PySem.W.Frag) (cl : Nat → Addr) (B F0 : Hp) (x : O0) (v : V) (H : Hp) : Prop := ∃ (F : Hp) (ω : Addr → Option Lab) (l : Lab), Same B H ∧ Same F H ∧ Grow F0 B F ∧ (∀ a, ω a = some l → F a = none ∧ B a = none) ∧ O0R K cl F H ω l v x
def OutD (K : PySem.W.Frag) (cl : Nat → Addr) (B F0 P : Hp) (o : Out) (D : Ends) : Prop := match o with
  | .nx δ => ∀ σ H, SRe K cl B F0 P δ σ H → D.nx σ H
  | .rt d => ∀ v H, RT K cl B F0 d v H → D.rt v H
  | .bk δ => ∀ σ H, SRe K cl B F0 P δ σ H → D.bk σ H
  | .ct δ => ∀ σ H, SRe K cl B F0 P δ σ H → D.ct σ H
  | .ro x => ∀ v H, RTO K cl B F0 x v H → D.rt v H
def tS (K : PySem.W.Frag) (cl : Nat → Addr) (f : FS) : TS := fun D σ H => ∃ B F0 P δ o, f δ = some o ∧ SRe K cl B F0 P δ σ H ∧ OutD K cl B F0 P o D
def PB1 (cl : Nat → Addr) (X : Cx) (st : Stmt) (f : FS) : Prop := PS X st (tS X.K cl f)
def PB (cl : Nat → Addr) (X : Cx) (sts : List Stmt) (f : FS) : Prop := PSs X sts (tS X.K cl f)
section
variable {K : PySem.W.Frag} {cl : Nat → Addr} {B F0 P F F' H H' : Hp} {ω ω' : Addr → Option Lab} {σ : St} {δ : Sto} {i j : Nat} {p : Addr} {o : HO} {l l' : Lab} {v : V} {x : O0} {s : Slot} {d : Dat}
theorem SR.step (sr : SR K cl B F0 P δ σ H F ω) (a : Same H H') (b : Same F' H') (g : Grow F H F') : SR K cl B F0 P δ σ H' F' ω :=
  ⟨sr.er.grow a b g, sr.base.trans a, sr.grow.trans sr.base g, sr.pin.trans g.1, sr.fresh⟩
theorem SR.set (sr : SR K cl B F0 P δ σ H F ω) (h : SlotR K cl F H ω i (some (some v)) s) : SR K cl B F0 P (δ.set i s) (σ.set i (some v)) H F ω := ⟨sr.er.set h, sr.base, sr.grow, sr.pin, sr.fresh⟩
theorem O0R.lab (w : ∀ a l, ω a = some l → ω' a = some l) (r : O0R K cl F H ω l v x) : O0R K cl F H ω' l v x := by
  cases x with
  | val d => exact r
  | lst xs => obtain ⟨p, vs, e, z, h, q⟩ := r; exact ⟨p, vs, e, w _ _ z, h, q⟩
  | dK kvs => obtain ⟨p, vs, e, z, h, q⟩ := r; exact ⟨p, vs, e, w _ _ z, h, q⟩
  | dT kvs => obtain ⟨p, vs, e, z, h, q⟩ := r; exact ⟨p, vs, e, w _ _ z, h, q⟩
theorem SlotR.lab {ov : Option (Option V)} (w : ∀ a l, ω a = some l → ω' a = some l) (r : SlotR K cl F H ω i ov s) : SlotR K cl F H ω' i ov s := by
  cases s with
  | no => exact True.intro
  | o x => obtain ⟨v, e, q⟩ := r; exact ⟨v, e, q.lab w⟩
  | rcd kvs => obtain ⟨p, vs, e, z, h, n, q⟩ := r; exact ⟨p, vs, e, w _ _ z, h, n, pimp (fun _ _ t => ⟨t.1, t.2.lab w⟩) q⟩
def updL (ω : Addr → Option Lab) (p : Addr) (l : Lab) : Addr → Option Lab := fun a => if a = p then some l else ω a
theorem updL_same : updL ω p l p = some l := by unfold updL; rw [if_pos rfl]
theorem updL_ne {a : Addr} (h : a ≠ p) : updL ω p l a = ω a := by unfold updL; rw [if_neg h]
theorem SR.own (sr : SR K cl B F0 P δ σ H F ω) (hp : H p = none) : SR K cl B F0 P δ σ (upd H p o) F (updL ω p l) := by
  have keep : ∀ a l', ω a = some l' → updL ω p l a = some l' := fun a l' e => by
    obtain ⟨_, o', h⟩ := sr.er.own a l' e
    rw [updL_ne (ne_of_none h hp)]
    exact e
  refine ⟨⟨sr.er.sub.trans (same_upd hp), fun a l' e => ?_, sr.er.len, fun j t ht => ((sr.er.at_ j t ht).lab keep).grow (same_upd hp) (Same.refl F)⟩, sr.base.trans (same_upd hp), sr.grow, sr.pin, fun a l' e => ?_⟩
  · by_cases ha : a = p
    · subst ha; exact ⟨none_of sr.er.sub hp, o, upd_same⟩
    · have e' : ω a = some l' := (updL_ne (ω := ω) (l := l) ha).symm.trans e
      obtain ⟨h1, o', h2⟩ := sr.er.own a l' e'
      exact ⟨h1, o', by rw [upd_ne ha]; exact h2⟩
  · by_cases ha : a = p
    · subst ha; exact none_of sr.base hp
    · rw [updL_ne ha] at e; exact sr.fresh a l' e
theorem O0R.other (hp : ω p = some l') (hl : l ≠ l') (r : O0R K cl F H ω l v x) : O0R K cl F (upd H p o) ω l v x := by
  have ne : ∀ q, ω q = some l → q ≠ p := fun q e z => by subst z; rw [e] at hp; exact hl (Option.some.inj hp)
  cases x with
  | val d => exact r
  | lst xs => obtain ⟨q, vs, e, z, h, t⟩ := r; exact ⟨q, vs, e, z, by rw [upd_ne (ne q z)]; exact h, t⟩
  | dK kvs => obtain ⟨q, vs, e, z, h, t⟩ := r; exact ⟨q, vs, e, z, by rw [upd_ne (ne q z)]; exact h, t⟩
  | dT kvs => obtain ⟨q, vs, e, z, h, t⟩ := r; exact ⟨q, vs, e, z, by rw [upd_ne (ne q z)]; exact h, t⟩
theorem SlotR.other {ov : Option (Option V)} (hp : ω p = some l') (hl : i ≠ l'.1) (r : SlotR K cl F H ω i ov s) : SlotR K cl F (upd H p o) ω i ov s := by
  cases s with
  | no => exact True.intro
  | o x => obtain ⟨v, e, q⟩ := r; exact ⟨v, e, q.other hp fun z => hl (by rw [← z])⟩
  | rcd kvs =>
    obtain ⟨q, vs, e, z, h, n, t⟩ := r
    refine ⟨q, vs, e, z, ?_, n, pimp (fun _ _ t => ⟨t.1, t.2.other hp fun z => hl (by rw [← z])⟩) t⟩
    rw [upd_ne fun y => by subst y; rw [z] at hp; exact hl (by rw [← Option.some.inj hp])]
    exact h
theorem SR.put (sr : SR K cl B F0 P δ σ H F ω) (hp : ω p = some (i, l.2)) (h : SlotR K cl F (upd H p o) ω i σ[i]? s) (hi : i < δ.length) : SR K cl B F0 P (δ.set i s) σ (upd H p o) F ω := by
  have np : ∀ b ob, F b = some ob → b ≠ p := fun b ob e z => by subst z; rw [(sr.er.own b _ hp).1] at e; cases e
  have nb : ∀ b ob, B b = some ob → b ≠ p := fun b ob e z => by subst z; rw [sr.fresh b _ hp] at e; cases e
  refine ⟨⟨fun b ob e => by rw [upd_ne (np b ob e)]; exact sr.er.sub b ob e, fun a l' e => ?_, by rw [List.length_set]; exact sr.er.len, fun j t ht => ?_⟩, fun b ob e => by rw [upd_ne (nb b ob e)]; exact sr.base b ob e, sr.grow, sr.pin, sr.fresh⟩
  · obtain ⟨h1, o', h2⟩ := sr.er.own a l' e
    by_cases ha : a = p
    · subst ha; exact ⟨h1, o, upd_same⟩
    · exact ⟨h1, o', by rw [upd_ne ha]; exact h2⟩
  · by_cases hj : i = j
    · subst hj
      rw [List.getElem?_set_self hi] at ht
      cases ht
      exact h
    · rw [List.getElem?_set_ne hj] at ht
      exact (sr.er.at_ j t ht).other hp fun z => hj z.symm
def O0.frz : O0 → Dat
  | .val d => d
  | .lst xs => .lst xs
  | .dK kvs => .dK kvs
  | .dT kvs => .dT kvs
def Slot.frz : Slot → Slot
  | .no => .no
  | .o x => .o (.val x.frz)
  | .rcd kvs => .o (.val (.dK (kvs.map fun kv => (kv.1, kv.2.frz))))
def frzS (i : Nat) (δ : Sto) : Sto := match δ[i]? with
  | some s => δ.set i s.frz
  | none => δ
def frzF (i : Nat) (ω : Addr → Option Lab) (F H : Hp) : Hp := fun a => match ω a with
  | some l => if l.1 = i then H a else F a
  | none => F a
def frzL (i : Nat) (ω : Addr → Option Lab) : Addr → Option Lab := fun a => match ω a with
  | some l => if l.1 = i then none else some l
  | none => none
theorem frzF_pos {a : Addr} (h : ω a = some l) (e : l.1 = i) : frzF i ω F H a = H a := by unfold frzF; rw [h]; exact if_pos e
theorem frzF_neg {a : Addr} (h : ω a = some l) (e : l.1 ≠ i) : frzF i ω F H a = F a := by unfold frzF; rw [h]; exact if_neg e
theorem frzF_none {a : Addr} (h : ω a = none) : frzF i ω F H a = F a := by unfold frzF; rw [h]
theorem frzL_some {a : Addr} (h : frzL i ω a = some l) : ω a = some l ∧ l.1 ≠ i := by
  unfold frzL at h
  cases e : ω a with
  | none => rw [e] at h; cases h
  | some l' =>
    rw [e] at h
    by_cases q : l'.1 = i
    · rw [show (match some l' with | some l => if l.1 = i then none else some l | none => none) = (none : Option Lab) from if_pos q] at h; cases h
    · rw [show (match some l' with | some l => if l.1 = i then none else some l | none => none) = some l' from if_neg q] at h
      cases h
      exact ⟨rfl, q⟩
theorem frzL_keep {a : Addr} (h : ω a = some l) (e : l.1 ≠ i) : frzL i ω a = some l := by unfold frzL; rw [h]; exact if_neg e
theorem O0R.frz (w : ∀ a k, ω a = some (i, k) → F' a = H a) (s : Same F F') {k : Option Key} (r : O0R K cl F H ω (i, k) v x) : Rep K cl F' v x.frz := by
  cases x with
  | val d => exact Rep.mono s r
  | lst xs => obtain ⟨p, vs, rfl, z, h, q⟩ := r; exact .lst' (SqL.of ((w p _ z).trans h)) (q.mono s)
  | dK kvs => obtain ⟨p, vs, rfl, z, h, q⟩ := r; exact .dK' ((w p _ z).trans h) (RepK.mono s q)
  | dT kvs => obtain ⟨p, vs, rfl, z, h, q⟩ := r; exact .dT' ((w p _ z).trans h) (RepK.mono s q)
theorem rcd_frz (w : ∀ a k, ω a = some (i, k) → F' a = H a) (s : Same F F') {vs : List (Key × V)} {kvs : List (Key × O0)} (q : Paired (fun (x : Key × V) (y : Key × O0) => x.1 = y.1 ∧ O0R K cl F H ω (i, some y.1) x.2 y.2) vs kvs) :
    RepK K cl F' vs (kvs.map fun kv => (kv.1, kv.2.frz)) := by
  induction q with
  | nil => exact .nil
  | cons t _ ih => exact .cons ⟨t.1, t.2.frz w s⟩ ih
theorem SR.frz (sr : SR K cl B F0 P δ σ H F ω) (i : Nat) : SR K cl B F0 P (frzS i δ) σ H (frzF i ω F H) (frzL i ω) := by
  have sF : Same F (frzF i ω F H) := fun a ob e => by
    cases q : ω a with
    | none => rw [frzF_none q]; exact e
    | some l => rw [(sr.er.own a l q).1] at e; cases e
  have sH : Same (frzF i ω F H) H := fun a ob e => by
    cases q : ω a with
    | none => rw [frzF_none q] at e; exact sr.er.sub a ob e
    | some l =>
      by_cases c : l.1 = i
      · rw [frzF_pos q c] at e; exact e
      · rw [frzF_neg q c] at e; exact sr.er.sub a ob e
  have wF : ∀ a k, ω a = some (i, k) → frzF i ω F H a = H a := fun a k e => frzF_pos e rfl
  refine ⟨⟨sH, fun a l e => ?_, ?_, fun j t ht => ?_⟩, sr.base, ⟨sr.grow.1.trans sF, fun a ob h e => ?_⟩, sr.pin.trans sF, fun a l e => sr.fresh a l (frzL_some e).1⟩
  · obtain ⟨q, c⟩ := frzL_some e
    obtain ⟨h1, o', h2⟩ := sr.er.own a l q
    exact ⟨by rw [frzF_neg q c]; exact h1, o', h2⟩
  · unfold frzS
    split
    · rw [List.length_set]; exact sr.er.len
    · exact sr.er.len
  · unfold frzS at ht
    cases hi : δ[i]? with
    | none =>
      rw [hi] at ht
      have hj : j ≠ i := fun z => by subst z; rw [hi] at ht; cases ht
      have r := sr.er.at_ j t ht
      cases t with
      | no => exact True.intro
      | o x =>
        obtain ⟨v, e, q⟩ := r
        refine ⟨v, e, ?_⟩
        have q' := q.grow (Same.refl H) sF
        cases x with
        | val d => exact q'
        | lst xs => obtain ⟨p, vs, e, z, h, q⟩ := q'; exact ⟨p, vs, e, frzL_keep z hj, h, q⟩
        | dK xs => obtain ⟨p, vs, e, z, h, q⟩ := q'; exact ⟨p, vs, e, frzL_keep z hj, h, q⟩
        | dT xs => obtain ⟨p, vs, e, z, h, q⟩ := q'; exact ⟨p, vs, e, frzL_keep z hj, h, q⟩
      | rcd kvs =>
        obtain ⟨p, vs, e, z, h, n, q⟩ := r
        refine ⟨p, vs, e, frzL_keep z hj, h, n, pimp (fun a b t => ⟨t.1, ?_⟩) q⟩
        have q' := t.2.grow (Same.refl H) sF
        revert q'
        cases b.2 with
        | val d => exact fun q' => q'
        | lst xs => intro q'; obtain ⟨p, vs, e, z, h, q⟩ := q'; exact ⟨p, vs, e, frzL_keep z hj, h, q⟩
        | dK xs => intro q'; obtain ⟨p, vs, e, z, h, q⟩ := q'; exact ⟨p, vs, e, frzL_keep z hj, h, q⟩
        | dT xs => intro q'; obtain ⟨p, vs, e, z, h, q⟩ := q'; exact ⟨p, vs, e, frzL_keep z hj, h, q⟩
    | some s0 =>
      rw [hi] at ht
      by_cases hj : i = j
      · subst hj
        have hil : i < δ.length := (List.getElem?_eq_some_iff.mp hi).1
        have ht' : some s0.frz = some t := by rw [← ht]; exact (List.getElem?_set_self hil).symm
        cases ht'
        have r := sr.er.at_ i s0 hi
        cases s0 with
        | no => exact True.intro
        | o x => obtain ⟨v, e, q⟩ := r; exact ⟨v, e, q.frz wF sF⟩
        | rcd kvs =>
          obtain ⟨p, vs, e, z, h, n, q⟩ := r
          exact ⟨.ref p, e, Rep.dK' ((wF p _ z).trans h) (rcd_frz wF sF q)⟩
      · have ht' : δ[j]? = some t := by rw [← ht]; exact (List.getElem?_set_ne hj).symm
        have hj' : j ≠ i := Ne.symm hj
        have r := sr.er.at_ j t ht'
        cases t with
        | no => exact True.intro
        | o x =>
          obtain ⟨v, e, q⟩ := r
          refine ⟨v, e, ?_⟩
          have q' := q.grow (Same.refl H) sF
          cases x with
          | val d => exact q'
          | lst xs => obtain ⟨p, vs, e, z, h, q⟩ := q'; exact ⟨p, vs, e, frzL_keep z hj', h, q⟩
          | dK xs => obtain ⟨p, vs, e, z, h, q⟩ := q'; exact ⟨p, vs, e, frzL_keep z hj', h, q⟩
          | dT xs => obtain ⟨p, vs, e, z, h, q⟩ := q'; exact ⟨p, vs, e, frzL_keep z hj', h, q⟩
        | rcd kvs =>
          obtain ⟨p, vs, e, z, h, n, q⟩ := r
          refine ⟨p, vs, e, frzL_keep z hj', h, n, pimp (fun a b t => ⟨t.1, ?_⟩) q⟩
          have q' := t.2.grow (Same.refl H) sF
          revert q'
          cases b.2 with
          | val d => exact fun q' => q'
          | lst xs => intro q'; obtain ⟨p, vs, e, z, h, q⟩ := q'; exact ⟨p, vs, e, frzL_keep z hj', h, q⟩
          | dK xs => intro q'; obtain ⟨p, vs, e, z, h, q⟩ := q'; exact ⟨p, vs, e, frzL_keep z hj', h, q⟩
          | dT xs => intro q'; obtain ⟨p, vs, e, z, h, q⟩ := q'; exact ⟨p, vs, e, frzL_keep z hj', h, q⟩
  · cases q : ω a with
    | some l => exact sr.fresh a l q
    | none => rw [frzF_none q] at e; exact sr.grow.2 a ob h e
end
section
variable {cl : Nat → Addr} {X : Cx} {st : Stmt} {sts rest : List Stmt} {f g : FS} {e : Expr} {fe : FE} {pos pos' : Pos} {i : Nat} {x : Str}
def sNil : FS := fun δ => some (.nx δ)
def sSeq (f g : FS) : FS := fun δ => match f δ with
  | some (.nx δ') => g δ'
  | o => o
theorem pb_nil : PB cl X [] sNil := fun pins s σ H D I h => by
  obtain ⟨B, F0, P, δ, o, hf, sr, out⟩ := h
  obtain rfl : Out.nx δ = o := Option.some.inj hf
  exact pss_nil pins s σ H D I (out σ H sr)
theorem pb_cons (h1 : PB1 cl X st f) (h2 : PB cl X rest g) : PB cl X (st :: rest) (sSeq f g) := fun pins s σ H D I h => by
  obtain ⟨B, F0, P, δ, o, hf, sr, out⟩ := h
  refine pss_cons h1 h2 pins s σ H D I ?_
  unfold sSeq at hf
  split at hf
  · rename_i δ' e
    exact ⟨B, F0, P, δ, _, e, sr, fun σ' H' sr' => ⟨B, F0, P, δ', o, hf, sr', out⟩⟩
  · rename_i e
    refine ⟨B, F0, P, δ, o, hf, sr, ?_⟩
    cases o with
    | nx δ' => exact (e δ' hf).elim
    | rt d => exact out
    | bk δ' => exact out
    | ct δ' => exact out
    | ro x => exact out
theorem pb_one (h1 : PB1 cl X st f) : PB cl X [st] f := fun pins s σ H D I h => pss_one h1 pins s σ H D I h
def sFrz (i : Nat) (f : FS) : FS := fun δ => f (frzS i δ)
theorem pb1_frz (i : Nat) (h : PB1 cl X st f) : PB1 cl X st (sFrz i f) := fun pins s σ H D I hw => by
  obtain ⟨B, F0, P, δ, o, hf, ⟨F, ω, sr⟩, out⟩ := hw
  exact h pins s σ H D I ⟨B, F0, P, _, o, hf, ⟨_, _, sr.frz i⟩, out⟩
def sAsg (i : Nat) (fe : FE) : FS := fun δ => (fe δ).bind fun d => some (.nx (δ.set i (.o (.val d))))
theorem pb_asg (hN : X.N.Nodup) (hi : X.N[i]? = some x) (hx : Loc X.env.scope x) (he : PP cl X e fe) (hs : swapsWith e (some (.Name x pos')) pos.line X.env = pure false := by rfl)
    (hf : X.fn x = true ∨ X.env.scope.names.lookup x = some .local := by first | exact .inl rfl | exact .inr rfl | assumption) : PB1 cl X (.Assign [.Name x pos'] e pos) (sAsg i fe) := fun pins s σ H D I h => by
  obtain ⟨B, F0, P, δ, o, hw, ⟨F, ω, sr⟩, out⟩ := h
  unfold sAsg at hw
  cases hd : fe δ with
  | none => rw [hd] at hw; cases hw
  | some d =>
    rw [hd] at hw
    obtain rfl : Out.nx (δ.set i (.o (.val d))) = o := Option.some.inj hw
    exact ps_set hN hi hx he hs hf pins s σ H D I ⟨δ, F, _, d, hd, sr.er, fun v H' F' s1 s1' g r => out _ _ ⟨F', ω, (sr.step s1 s1' g).set ⟨v, rfl, r⟩⟩⟩
def sNewL (i : Nat) : FS := fun δ => some (.nx (δ.set i (.o (.lst []))))
theorem pb_newL {p2 : Pos} (hN : X.N.Nodup) (hi : X.N[i]? = some x) (hx : Loc X.env.scope x) (hs : swapsWith (.List [] p2) (some (.Name x pos')) pos.line X.env = pure false := by rfl)
    (hf : X.fn x = true ∨ X.env.scope.names.lookup x = some .local := by first | exact .inl rfl | exact .inr rfl | assumption) : PB1 cl X (.Assign [.Name x pos'] (.List [] p2) pos) (sNewL i) := fun pins s σ H D I h => by
  obtain ⟨B, F0, P, δ, o, hw, ⟨F, ω, sr⟩, out⟩ := h
  obtain rfl := Option.some.inj hw
  refine ps_set hN hi hx (pe_lst pa_nil) hs hf pins s σ H D I ⟨Nat.zero_le _, fun p hp => out _ _ ⟨F, updL ω p (i, none), ?_⟩⟩
  exact (sr.own hp).set ⟨.ref p, rfl, p, [], rfl, updL_same, upd_same, .nil⟩
def sRetN (i : Nat) : FS := fun δ => match δ[i]? with
  | some (.o (.lst xs)) => some (.ro (.lst xs))
  | some (.o (.dK xs)) => some (.ro (.dK xs))
  | some (.o (.dT xs)) => some (.ro (.dT xs))
  | _ => none
theorem pb_retN {e : Expr} (hv : PE X e (tVar i)) : PB1 cl X (.Return (some e) pos) (sRetN i) := fun pins s σ H D I h => by
  obtain ⟨B, F0, P, δ, o, hw, ⟨F, ω, sr⟩, out⟩ := h
  have key : ∀ x : O0, δ[i]? = some (.o x) → OutD X.K cl B F0 P (.ro x) D → ∃ v, σ[i]? = some (some v) ∧ D.rt v H := fun x hx o' => by
    obtain ⟨v, hv', r⟩ := sr.er.at_ i _ hx
    exact ⟨v, hv', o' v H ⟨F, ω, (i, none), sr.base, sr.er.sub, sr.grow, fun a e => ⟨(sr.er.own a _ e).1, sr.fresh a _ e⟩, r⟩⟩
  unfold sRetN at hw
  split at hw
  · rename_i xs hx
    obtain rfl := Option.some.inj hw
    exact ps_ret hv pins s σ H D I (key _ hx out)
  · rename_i xs hx
    obtain rfl := Option.some.inj hw
    exact ps_ret hv pins s σ H D I (key _ hx out)
  · rename_i xs hx
    obtain rfl := Option.some.inj hw
    exact ps_ret hv pins s σ H D I (key _ hx out)
  · cases hw
def sRet (fe : FE) : FS := fun δ => (fe δ).bind fun d => some (.rt d)
theorem pb_ret (he : PP cl X e fe) : PB1 cl X (.Return (some e) pos) (sRet fe) := fun pins s σ H D I h => by
  obtain ⟨B, F0, P, δ, o, hw, ⟨F, ω, sr⟩, out⟩ := h
  unfold sRet at hw
  cases hd : fe δ with
  | none => rw [hd] at hw; cases hw
  | some d =>
    rw [hd] at hw
    obtain rfl : Out.rt d = o := Option.some.inj hw
    exact ps_ret he pins s σ H D I ⟨δ, F, _, d, hd, sr.er, fun v H' F' s1 s1' g r => out _ _ ⟨F', sr.base.trans s1, s1', sr.grow.trans sr.base g, r⟩⟩
def sExp (fe : FE) : FS := fun δ => (fe δ).bind fun _ => some (.nx δ)
theorem pb_exp (he : PP cl X e fe) (hs : swapsWith e none pos.line X.env = pure false := by rfl) : PB1 cl X (.Expr e pos) (sExp fe) := fun pins s σ H D I h => by
  obtain ⟨B, F0, P, δ, o, hw, ⟨F, ω, sr⟩, out⟩ := h
  unfold sExp at hw
  cases hd : fe δ with
  | none => rw [hd] at hw; cases hw
  | some d =>
    rw [hd] at hw
    obtain rfl : Out.nx δ = o := Option.some.inj hw
    exact ps_expr he hs pins s σ H D I ⟨δ, F, _, d, hd, sr.er, fun v H' F' s1 s1' g r => out _ _ ⟨F', ω, sr.step s1 s1' g⟩⟩
def sIf (t : FT) (f g : FS) : FS := fun δ => (t δ).bind fun c => if c = true then f δ else g δ
theorem pb_if {c : Expr} {a b : List Stmt} {t : FT} (hc : PPT cl X c t) (ha : PB cl X a f) (hb : PB cl X b g) : PB1 cl X (.If c a b pos) (sIf t f g) := fun pins s σ H D I h => by
  obtain ⟨B, F0, P, δ, o, hw, ⟨F, ω, sr⟩, out⟩ := h
  unfold sIf at hw
  cases hd : t δ with
  | none => rw [hd] at hw; cases hw
  | some d =>
    rw [hd] at hw
    refine ps_if hc ha hb pins s σ H D I ⟨δ, F, _, d, hd, sr.er, fun H' F' s1 s1' g => ?_⟩
    cases d with
    | true => rw [if_pos rfl]; exact ⟨B, F0, P, δ, o, hw, ⟨F', ω, sr.step s1 s1' g⟩, out⟩
    | false => rw [if_neg Bool.false_ne_true]; exact ⟨B, F0, P, δ, o, hw, ⟨F', ω, sr.step s1 s1' g⟩, out⟩
def frzL' (is : List Nat) (δ : Sto) : Sto := is.foldl (fun δ i => frzS i δ) δ
def sIfT (is : List Nat) (t : FT) (f g : FS) : FS := fun δ => (t (frzL' is δ)).bind fun c => if c = true then f δ else g δ
theorem frz_many {K : PySem.W.Frag} {B F0 P H : Hp} {σ : St} : ∀ (is : List Nat) {δ : Sto} {F : Hp} {ω : Addr → Option Lab}, SR K cl B F0 P δ σ H F ω → ∃ F' ω', SR K cl B F0 P (frzL' is δ) σ H F' ω'
  | [], _, F, ω, h => ⟨F, ω, h⟩
  | i :: is, _, _, _, h => frz_many is (h.frz i)
theorem pb_ifT {c : Expr} {a b : List Stmt} {t : FT} (is : List Nat) (hc : PPT cl X c t) (ha : PB cl X a f) (hb : PB cl X b g) : PB1 cl X (.If c a b pos) (sIfT is t f g) := fun pins s σ H D I h => by
  obtain ⟨B, F0, P, δ, o, hw, ⟨F, ω, sr⟩, out⟩ := h
  unfold sIfT at hw
  cases hd : t (frzL' is δ) with
  | none => rw [hd] at hw; cases hw
  | some d =>
    rw [hd] at hw
    obtain ⟨F1, ω1, sr1⟩ := frz_many is sr
    refine ps_if hc ha hb pins s σ H D I ⟨_, F1, _, d, hd, sr1.er, fun H' F' s1 s1' g => ?_⟩
    have sr' := sr.step s1 (sr.er.sub.trans s1) Grow.refl
    cases d with
    | true => dsimp only; rw [if_pos rfl]; exact ⟨B, F0, P, δ, o, hw, ⟨F, ω, sr'⟩, out⟩
    | false => dsimp only; rw [if_neg Bool.false_ne_true]; exact ⟨B, F0, P, δ, o, hw, ⟨F, ω, sr'⟩, out⟩
def sApp (i : Nat) (fe : FE) : FS := fun δ => match δ[i]? with
  | some (.o (.lst xs)) => (fe δ).bind fun d => if xs.length < sizeLine then some (.nx (δ.set i (.o (.lst (xs ++ [d]))))) else none
  | _ => none
theorem pb_app {nx : Expr} {apos cpos : Pos} (hv : PE X nx (tVar i)) (he : PP cl X e fe)
    (hp : ∀ {to : TE} {t : TA}, PE X nx to → PA X [e] t → PE X (.Call (.Attribute nx "append" apos) [e] [] cpos) (tBM X.K "list" rAppend to t))
    (hs1 : starEach [e] X.env = (false, eval e X.env) :: starEach [] X.env := by rfl)
    (hs : swapsWith (.Call (.Attribute nx "append" apos) [e] [] cpos) none pos.line X.env = pure false := by rfl) :
    PB1 cl X (.Expr (.Call (.Attribute nx "append" apos) [e] [] cpos) pos) (sApp i fe) := fun pins s σ H D I h => by
  obtain ⟨B, F0, P, δ, o, hw, ⟨F, ω, sr⟩, out⟩ := h
  unfold sApp at hw
  split at hw
  · rename_i xs hi
    cases hd : fe δ with
    | none => rw [hd] at hw; cases hw
    | some d =>
      rw [hd] at hw
      simp only [Option.bind_some] at hw
      split at hw
      · rename_i hl
        obtain rfl := Option.some.inj hw
        obtain ⟨v, hv', p, vs, rfl, hω, hH, r⟩ := sr.er.at_ i _ hi
        have hil : i < δ.length := (List.getElem?_eq_some_iff.mp hi).1
        refine ps_expr (hp hv (ppa_cons he ppa_nil hs1)) hs pins s σ H D I ⟨.ref p, hv', .inl ⟨rfl, vs, SqL.of hH⟩, δ, F, _, [d], by unfold aC aN; rw [hd]; rfl, sr.er, fun ws H' F' s1 s1' g q => ?_⟩
        cases q with
        | cons q1 q2 =>
          cases q2
          have sr' := sr.step s1 s1' g
          refine ⟨p, vs, _, rfl, rfl, s1 _ _ hH, by rw [r.length]; exact hl, out _ _ ⟨F', ω, sr'.put (l := (i, none)) hω ⟨.ref p, hv', p, _, rfl, hω, upd_same, ?_⟩ hil⟩⟩
          exact pappend (r.mono g.1) (.cons q1 .nil)
      · cases hw
  · cases hw
end
end MB
namespace MB
open PySem PySem.Spec PyProof.Rows L2
abbrev FG := Dat → Sto → Option Sto
abbrev FGs := List Dat → Sto → Option Sto
def tG (K : PySem.W.Frag) (cl : Nat → Addr) (g : FG) : TG := fun v σ H Q => ∃ δ F ω d δ', g d δ = some δ' ∧ ER K cl F H ω σ δ ∧ Rep K cl F v d ∧ ∀ σ', ER K cl F H ω σ' δ' → Q σ' H
def tGs (K : PySem.W.Frag) (cl : Nat → Addr) (g : FGs) : TGs := fun vs σ H Q => ∃ δ F ω ds δ', g ds δ = some δ' ∧ ER K cl F H ω σ δ ∧ RepL K cl F vs ds ∧ ∀ σ', ER K cl F H ω σ' δ' → Q σ' H
def PPG (cl : Nat → Addr) (X : Cx) (tg : Expr) (g : FG) : Prop := PG X tg (tG X.K cl g)
def PPGs (cl : Nat → Addr) (X : Cx) (ts : List Expr) (g : FGs) : Prop := PGs X ts (tGs X.K cl g)
section
variable {cl : Nat → Addr} {X : Cx} {tg : Expr} {ts : List Expr} {g : FG} {gs : FGs} {pos : Pos} {i : Nat} {x : Str}
def gN (i : Nat) : FG := fun d δ => some (δ.set i (.o (.val d)))
theorem ppg_name (hN : X.N.Nodup) (hi : X.N[i]? = some x) (hx : Loc X.env.scope x) (hf : X.fn x = true ∨ X.env.scope.names.lookup x = some .local := by first | exact .inl rfl | exact .inr rfl | assumption) : PPG cl X (.Name x pos) (gN i) := fun pins s σ H v u Q I r h => by
  obtain ⟨δ, F, ω, d, δ', hg, er, rv, k⟩ := h
  obtain rfl := Option.some.inj hg
  exact pg_name hN hi hx hf pins s σ H v u Q I r (k _ (er.setV rv))
def gsN : FGs := fun ds δ => match ds with | [] => some δ | _ => none
def gsC (g : FG) (gs : FGs) : FGs := fun ds δ => match ds with | d :: ds => (g d δ).bind fun δ' => gs ds δ' | [] => none
theorem ppgs_nil : PPGs cl X [] gsN := fun pins s σ H vs us Q I r h => by
  obtain ⟨δ, F, ω, ds, δ', hg, er, rv, k⟩ := h
  cases ds with
  | nil =>
    obtain rfl := Option.some.inj hg
    cases rv
    exact L2.pgs_nil pins s σ H [] us Q I r ⟨rfl, k _ er⟩
  | cons _ _ => cases hg
theorem ppgs_cons (h1 : PPG cl X tg g) (h2 : PPGs cl X ts gs) (hs : (assignEach (tg :: ts) X.env).map (·.2) = assign tg X.env :: (assignEach ts X.env).map (·.2) := by rfl) : PPGs cl X (tg :: ts) (gsC g gs) := fun pins s σ H vs us Q I r h => by
  obtain ⟨δ, F, ω, ds, δ', hg, er, rv, k⟩ := h
  cases rv with
  | nil => cases hg
  | @cons v d vs ds rv1 rv2 =>
    unfold gsC at hg
    cases h1' : g d δ with
    | none => rw [show (match d :: ds with | d :: ds => (g d δ).bind fun δ' => gs ds δ' | [] => none) = (g d δ).bind fun δ' => gs ds δ' from rfl, h1'] at hg; cases hg
    | some δ1 =>
      rw [show (match d :: ds with | d :: ds => (g d δ).bind fun δ' => gs ds δ' | [] => none) = (g d δ).bind fun δ' => gs ds δ' from rfl, h1'] at hg
      exact L2.pgs_cons h1 h2 hs pins s σ H _ us Q I r ⟨v, vs, rfl, δ, F, ω, d, δ1, h1', er, rv1, fun σ' er' => ⟨δ1, F, ω, ds, δ', hg, er', rv2, k⟩⟩
def gT (n : Nat) (gs : FGs) : FG := fun d δ => match d with | .tup ds => if ds.length = n then gs ds δ else none | _ => none
theorem ppg_tup {k : Nat} {n : Nat} (hc : X.calm = true) (h : PPGs cl X ts gs) (hn : (assignEach ts X.env).length = n := by rfl) (hst : (assignEach ts X.env).findIdx? (·.1) = none := by rfl) : PPG cl X (.Tuple ts k pos) (gT n gs) := fun pins s σ H v u Q I r hw => by
  obtain ⟨δ, F, ω, d, δ', hg, er, rv, kk⟩ := hw
  unfold gT at hg
  split at hg
  · rename_i ds
    split at hg
    · rename_i hl
      obtain ⟨a, vs, rfl, q1, r1⟩ := rv.tup_inv
      exact pg_tup hc h hn hst pins s σ H _ u Q I r ⟨a, vs, rfl, SqT.of (er.sub _ _ q1), by rw [r1.length]; exact hl, δ, F, ω, ds, δ', hg, er, r1, kk⟩
    · cases hg
  · cases hg
end
structure Walk (K : PySem.W.Frag) (cl : Nat → Addr) (F : Hp) (J : It) (ds : List Dat) : Prop where
  go : ∀ (i : Nat) H, Same F H → i < ds.length → J.go i H
  stop : ∀ (i : Nat) H, Same F H → ds.length ≤ i → J.stop i H
  yld : ∀ (i : Nat) H Fc x H' d, Same F Fc → Same Fc H → ds[i]? = some d → J.yld i H x H' → ∃ F', Same H H' ∧ Same F' H' ∧ Grow Fc H F' ∧ Rep K cl F' x d
def tI (K : PySem.W.Frag) (cl : Nat → Addr) (f : FA) : TI := fun σ H R => ∃ δ F ω ds, f δ = some ds ∧ ER K cl F H ω σ δ ∧ ∀ J H' F', Same H H' → Same F' H' → Grow F H F' → Walk K cl F' J ds → R J H'
def PPI (cl : Nat → Addr) (X : Cx) (tg iter : Expr) (f : FA) : Prop := PI X tg iter (tI X.K cl f)
section
variable {cl : Nat → Addr} {X : Cx} {tg iter l a b : Expr} {fe fa fb : FE} {pos : Pos}
def signsD (x : Str) : List Dat := x.cps.toList.map fun c => Dat.str ⟨#[c]⟩
def iSeq (fe : FE) : FA := fun δ => match fe δ with | some (.lst xs) => some xs | some (.tup xs) => some xs | some (.str x) => some (signsD x) | _ => none
def Its (x : Str) : It := ⟨fun i _ => i < x.cps.size, fun i H v H' => H' = H ∧ ∀ c, x.cps[i]? = some c → v = .str ⟨#[c]⟩, fun i _ => x.cps.size ≤ i⟩
theorem turn_ascii {P : Program} {w : World} {K : PySem.W.Frag} {tg : Expr} (x : Str) (t : Tok) (it : Addr) : Turn P w K tg (Its x) [it] it (fun i h => h.IsStrIter it "str_ascii_iterator" x t i) where
  mem := by simp
  obj := fun i h st b hb => by
    have e : b = it := by simpa using hb
    subst e
    obtain ⟨o, e, c, d⟩ := st
    exact ⟨o, e, fun v z => by rw [d] at z; cases z⟩
  keep := fun i h h' st k => let ⟨o, e, c, d⟩ := st; ⟨o, k it (by simp) o e, c, d⟩
  item := by
    intro X hP hw hK hc i pins s σ H E I hf st hg
    subst hP hw hK
    obtain ⟨f0, f1, f2, f3, f4, f5⟩ := hf it (by simp)
    have hi : i < x.cps.size := hg
    refine wpAny_pyNext_ascii_item st (c := x.cps[i]) (Array.getElem?_eq_getElem hi) fun h' st' sb => ?_
    have I1 : L2.Inv X pins σ H { s with heap := h', toks := s.toks + 1 } := I.turned (t' := s.toks + 1) (fun b o hb e => (sb.2 b hb).trans e) f0 f1 f3 f4 f5
    obtain ⟨o, e, c, d⟩ := id st'
    exact ⟨_, rfl, go_of (s := { s with heap := h', toks := s.toks + 1 }) e c d (by decide) ⟨.str ⟨#[x.cps[i]]⟩, H, I1, ⟨_, rfl⟩, ⟨rfl, fun c hc => by rw [Array.getElem?_eq_getElem hi] at hc; cases hc; rfl⟩, st', fun b hb => (hf b hb).1⟩⟩
  done := by
    intro X hP hw hK hc i pins s σ H E I hf st hg
    subst hP hw hK
    obtain ⟨f0, f1, f2, f3, f4, f5⟩ := hf it (by simp)
    have hi : x.cps.size ≤ i := hg
    exact wpAny_pyNext_ascii_end (I.ok.hd hc) st (Array.getElem?_eq_none hi) fun h' eb => ⟨rfl, I.turned (t' := s.toks) (fun b o hb e => eb b o hb e) f0 f1 f3 f4 f5⟩
  self := fun _ _ _ _ _ st h => wpAny_pyIter_striter_ascii st h
theorem turn_wide {P : Program} {w : World} {K : PySem.W.Frag} {tg : Expr} (x : Str) (t : Tok) (it : Addr) : Turn P w K tg (Its x) [it] it (fun i h => h.IsStrIter it "str_iterator" x t i) where
  mem := by simp
  obj := fun i h st b hb => by
    have e : b = it := by simpa using hb
    subst e
    obtain ⟨o, e, c, d⟩ := st
    exact ⟨o, e, fun v z => by rw [d] at z; cases z⟩
  keep := fun i h h' st k => let ⟨o, e, c, d⟩ := st; ⟨o, k it (by simp) o e, c, d⟩
  item := by
    intro X hP hw hK hc i pins s σ H E I hf st hg
    subst hP hw hK
    obtain ⟨f0, f1, f2, f3, f4, f5⟩ := hf it (by simp)
    have hi : i < x.cps.size := hg
    refine wpAny_pyNext_wide_item st (c := x.cps[i]) (Array.getElem?_eq_getElem hi) fun h' st' sb => ?_
    have I1 : L2.Inv X pins σ H { s with heap := h', toks := s.toks + 1 } := I.turned (t' := s.toks + 1) (fun b o hb e => (sb.2 b hb).trans e) f0 f1 f3 f4 f5
    obtain ⟨o, e, c, d⟩ := id st'
    exact ⟨_, rfl, go_of (s := { s with heap := h', toks := s.toks + 1 }) e c d (by decide) ⟨.str ⟨#[x.cps[i]]⟩, H, I1, ⟨_, rfl⟩, ⟨rfl, fun c hc => by rw [Array.getElem?_eq_getElem hi] at hc; cases hc; rfl⟩, st', fun b hb => (hf b hb).1⟩⟩
  done := by
    intro X hP hw hK hc i pins s σ H E I hf st hg
    subst hP hw hK
    obtain ⟨f0, f1, f2, f3, f4, f5⟩ := hf it (by simp)
    have hi : x.cps.size ≤ i := hg
    exact wpAny_pyNext_wide_end (I.ok.hd hc) st (Array.getElem?_eq_none hi) fun h' eb => ⟨rfl, I.turned (t' := s.toks) (fun b o hb e => eb b o hb e) f0 f1 f3 f4 f5⟩
  self := fun _ _ _ _ _ st h => wpAny_pyIter_striter_wide st h
theorem pi_text {tl : TE} (hl : PE X l tl) : PI X tg l (fun σ H R => tl σ H fun v H1 => ∃ x, v = .str x ∧ R (Its x) H1) := by
  intro pins s σ H R I h
  refine thn (hl pins s σ H _ I h) fun v s1 ⟨v', H1, I1, r1, q1⟩ => ?_
  obtain ⟨x, rfl, q⟩ := q1
  obtain ⟨t, rfl⟩ := r1
  have fr : ∀ b ∈ [s1.heap.objs.size], FpOk X pins H1 b := fun b hb => by
    have e : b = s1.heap.objs.size := by simpa using hb
    subst e
    exact I1.fpOk (Nat.le_refl _) (I1.hok.fresh (Nat.le_refl _))
  cases ha : x.cps.all (· < 128) with
  | true => exact wpAny_pyIter_ascii ha ⟨s1.heap.objs.size, [s1.heap.objs.size], _, _, H1, rfl, I1.kept (t' := s1.toks) fun b o e => Heap.get?_push_of_some _ e, turn_ascii x t _, ⟨_, Heap.get?_push_size _ rfl, rfl, rfl⟩, fr, q⟩
  | false => exact wpAny_pyIter_wide ha ⟨s1.heap.objs.size, [s1.heap.objs.size], _, _, H1, rfl, I1.kept (t' := s1.toks) fun b o e => Heap.get?_push_of_some _ e, turn_wide x t _, ⟨_, Heap.get?_push_size _ rfl, rfl, rfl⟩, fr, q⟩
theorem walk_text {K : PySem.W.Frag} {F : Hp} (x : Str) : Walk K cl F (Its x) (signsD x) where
  go := fun i H s hi => by simpa [signsD, Its] using hi
  stop := fun i H s hi => by simpa [signsD, Its] using hi
  yld := fun i H Fc v H' d s1 s2 hd y => by
    obtain ⟨rfl, y⟩ := y
    unfold signsD at hd
    rw [List.getElem?_map] at hd
    cases e : x.cps.toList[i]? with
    | none => rw [e] at hd; cases hd
    | some c =>
      rw [e] at hd
      obtain rfl := Option.some.inj hd
      rw [y c (by simpa using e)]
      exact ⟨Fc, Same.refl _, s2, Grow.refl, .str _⟩
theorem walk_list {K : PySem.W.Frag} {F : Hp} {a : Addr} {vs : List V} {ds : List Dat} (h : SqL K F a vs) (r : RepL K cl F vs ds) : Walk K cl F (Itl K a) ds where
  go := fun i H s hi => ⟨vs, _, s.seq h, List.getElem?_eq_getElem (by rw [r.length]; exact hi)⟩
  stop := fun i H s hi => ⟨vs, s.seq h, by rw [r.length]; exact hi⟩
  yld := fun i H Fc x H' d s1 s2 hd y => by
    obtain ⟨rfl, y⟩ := y
    exact ⟨Fc, Same.refl _, s2, Grow.refl, (pget i r (y vs ((s1.trans s2).seq h)) hd).mono s1⟩
theorem walk_tup {K : PySem.W.Frag} {F : Hp} {a : Addr} {vs : List V} {ds : List Dat} (h : F a = some (.tup vs)) (r : RepL K cl F vs ds) : Walk K cl F (Itt K a) ds where
  go := fun i H s hi => ⟨vs, _, SqT.of (s _ _ h), List.getElem?_eq_getElem (by rw [r.length]; exact hi)⟩
  stop := fun i H s hi => ⟨vs, SqT.of (s _ _ h), by rw [r.length]; exact hi⟩
  yld := fun i H Fc x H' d s1 s2 hd y => by
    obtain ⟨rfl, y⟩ := y
    exact ⟨Fc, Same.refl _, s2, Grow.refl, (pget i r (y vs (SqT.of ((s1.trans s2) _ _ h))) hd).mono s1⟩
theorem ppi_seq (hl : PP cl X l fe) : PPI cl X tg l (iSeq fe) := fun pins s σ H R I h => by
  obtain ⟨δ, F, ω, ds, hf, er, k⟩ := h
  unfold iSeq at hf
  split at hf
  · rename_i xs e
    cases hf
    refine pi_list hl pins s σ H R I ⟨δ, F, ω, _, e, er, fun v H1 F1 s1 s1' g1 r1 => ?_⟩
    obtain ⟨a, vs, rfl, q, r⟩ := r1.lst_inv
    exact ⟨a, rfl, ⟨vs, s1'.seq q⟩, k _ H1 F1 s1 s1' g1 (walk_list q r)⟩
  · rename_i xs e
    cases hf
    refine pi_tup hl pins s σ H R I ⟨δ, F, ω, _, e, er, fun v H1 F1 s1 s1' g1 r1 => ?_⟩
    obtain ⟨a, vs, rfl, q, r⟩ := r1.tup_inv
    exact ⟨a, rfl, ⟨vs, SqT.of (s1' _ _ q)⟩, k _ H1 F1 s1 s1' g1 (walk_tup q r)⟩
  · rename_i x e
    cases hf
    exact pi_text hl pins s σ H R I ⟨δ, F, ω, _, e, er, fun v H1 F1 s1 s1' g1 r1 => ⟨x, r1.str_inv, k _ H1 F1 s1 s1' g1 (walk_text x)⟩⟩
  · cases hf
def rngD (lo : Int) (n : Nat) : List Dat := (List.range n).map fun j => Dat.int (lo + (j : Nat))
theorem walk_range {K : PySem.W.Frag} {F : Hp} (lo : Int) (n : Nat) : Walk K cl F (Itr lo n) (rngD lo n) where
  go := fun i H _ hi => show i < n by simpa [rngD] using hi
  stop := fun i H _ hi => show n ≤ i by simpa [rngD] using hi
  yld := fun i H Fc x H' d s1 s2 hd y => by
    obtain ⟨rfl, rfl⟩ := y
    refine ⟨Fc, Same.refl _, s2, Grow.refl, ?_⟩
    have : i < n := by
      have := (List.getElem?_eq_some_iff.mp hd).1
      simpa [rngD] using this
    have e : (rngD lo n)[i]? = some (.int (lo + (i : Nat))) := by simp [rngD, this]
    rw [e] at hd
    cases hd
    exact .int _
def iRg1 (fa : FE) : FA := fun δ => match fa δ with | some (.int j) => if -(2 ^ 62) ≤ j ∧ j < 2 ^ 62 then some (rngD 0 j.toNat) else none | _ => none
theorem ppi_range1 {p : Pos} (hg : Gl X "range") (hm : X.mg "range" = none) (ha : PP cl X a fa) (hs : starEach [a] X.env = [(false, eval a X.env)] := by rfl) : PPI cl X tg (.Call (.Name "range" p) [a] [] pos) (iRg1 fa) := fun pins s σ H R I h => by
  obtain ⟨δ, F, ω, ds, hf, er, k⟩ := h
  unfold iRg1 at hf
  split at hf
  · rename_i j e
    split at hf
    · rename_i c
      cases hf
      refine pi_range1 hg hm (pa_cons ha pa_nil hs) hs pins s σ H R I ⟨δ, F, ω, _, e, er, fun v H1 F1 s1 s1' g1 r1 => ?_⟩
      exact ⟨j, by rw [r1.int_inv], c.1, c.2, k _ H1 F1 s1 s1' g1 (walk_range 0 _)⟩
    · cases hf
  · cases hf
def forD (g : FG) (fb : FS) : List Dat → Sto → Option Out
  | [], δ => some (.nx δ)
  | d :: ds, δ => (g d δ).bind fun δ1 => match fb δ1 with
    | some (.nx δ2) => forD g fb ds δ2
    | some (.ct δ2) => forD g fb ds δ2
    | some (.bk δ2) => some (.nx δ2)
    | some (.rt v) => some (.rt v)
    | some (.ro v) => some (.ro v)
    | none => none
def sFor (fi : FA) (g : FG) (fb : FS) : FS := fun δ => (fi δ).bind fun ds => forD g fb ds δ
theorem SRe.unpin {K : PySem.W.Frag} {B F0 P P' : Hp} {δ : Sto} {σ : St} {H : Hp} (s : Same P P') (h : SRe K cl B F0 P' δ σ H) : SRe K cl B F0 P δ σ H := by
  obtain ⟨F, ω, sr⟩ := h
  exact ⟨F, ω, sr.er, sr.base, sr.grow, s.trans sr.pin, sr.fresh⟩
theorem pb_for {body : List Stmt} {fi : FA} {g : FG} {fb : FS} (hp : PassesOwn (model X.prog X.w) X.A X.env X.xe) (hc : X.calm = true) (hi : PPI cl X tg iter fi) (hg : PPG cl X tg g) (hb : PB cl X body fb)
    (hs : ∀ x, foldedSetIterable iter X.env x = pure x := by intro _; rfl) : PB1 cl X (.For tg iter body [] pos) (sFor fi g fb) := fun pins s σ H D I h => by
  obtain ⟨B, F0, P, δ, o, hw, ⟨F, ω, sr⟩, out⟩ := h
  unfold sFor at hw
  cases hd : fi δ with
  | none => rw [hd] at hw; cases hw
  | some ds =>
    rw [hd] at hw
    refine ps_for hp hc hi hg hb hs pins s σ H D I ⟨δ, F, _, ds, hd, sr.er, fun J H1 F1 s1 s1' g1 wk => ?_⟩
    have sr1 := sr.step s1 s1' g1
    have sp : Same P F1 := sr1.pin
    refine ⟨fun i m σ H => m = ds.length - i ∧ i ≤ ds.length ∧ ∃ δi, SRe X.K cl B F0 F1 δi σ H ∧ forD g fb (ds.drop i) δi = some o,
      ⟨ds.length, by simp, Nat.zero_le _, δ, ⟨F1, ω, sr1.er, sr1.base, sr1.grow, Same.refl _, sr1.fresh⟩, hw⟩, ?_⟩
    rintro i m σ2 H2 ⟨rfl, hil, δi, ⟨F2, ω2, sr2⟩, hrun⟩
    have sF : Same F1 H2 := sr2.pin.trans sr2.er.sub
    by_cases hlt : i < ds.length
    · refine .inr ⟨wk.go i H2 sF hlt, fun σ' H' => ∃ δ2, SRe X.K cl B F0 F1 δ2 σ' H' ∧ forD g fb (ds.drop (i + 1)) δ2 = some o, fun σ' H' ⟨δ2, a1, a2⟩ => ⟨ds.length - (i + 1), by omega, rfl, hlt, δ2, a1, a2⟩, fun x H3 hy => ?_⟩
      have hdi : ds[i]? = some ds[i] := List.getElem?_eq_getElem hlt
      obtain ⟨F3, s3, s3', g3, r3⟩ := wk.yld i H2 F2 x H3 _ sr2.pin sr2.er.sub hdi hy
      rw [List.drop_eq_getElem_cons hlt] at hrun
      unfold forD at hrun
      cases hg1 : g ds[i] δi with
      | none => rw [hg1] at hrun; cases hrun
      | some δ1 =>
        rw [hg1] at hrun
        simp only [Option.bind_some] at hrun
        have sr3 := sr2.step s3 s3' g3
        refine ⟨δi, F3, _, ds[i], δ1, hg1, sr3.er, r3, fun σ' er' => ?_⟩
        cases hb1 : fb δ1 with
        | none => rw [hb1] at hrun; cases hrun
        | some ob =>
          rw [hb1] at hrun
          refine ⟨B, F0, F1, δ1, ob, hb1, ⟨F3, ω2, er', sr3.base, sr3.grow, sr3.pin, sr3.fresh⟩, ?_⟩
          cases ob with
          | nx δ2 => exact fun σ4 H4 a => ⟨δ2, a, hrun⟩
          | ct δ2 => exact fun σ4 H4 a => ⟨δ2, a, hrun⟩
          | bk δ2 =>
            obtain rfl := Option.some.inj hrun
            exact fun σ4 H4 a => out σ4 H4 (a.unpin sp)
          | rt v =>
            obtain rfl := Option.some.inj hrun
            exact out
          | ro v =>
            obtain rfl := Option.some.inj hrun
            exact out
    · have e : ds.drop i = [] := List.drop_eq_nil_of_le (by omega)
      rw [e] at hrun
      obtain rfl := Option.some.inj hrun
      exact .inl ⟨wk.stop i H2 sF (by omega), out σ2 H2 (SRe.unpin sp ⟨F2, ω2, sr2⟩)⟩
end
def spD (K : PySem.W.Frag) (cl : Nat → Addr) (n : Nat) (f : List Dat → Option Dat) : Sp := fun vs H Q _ => vs.length = n ∧ ∃ ds d F, f ds = some d ∧ Same F H ∧ RepL K cl F vs ds ∧ Post K cl F H d Q
def ini (n : Nat) (ds : List Dat) : Sto := ds.map (fun d => Slot.o (.val d)) ++ List.replicate n .no
def spO (K : PySem.W.Frag) (cl : Nat → Addr) (n : Nat) (f : List Dat → Option O0) : Sp := fun vs H Q _ => vs.length = n ∧ ∃ ds x F, f ds = some x ∧ Same F H ∧ RepL K cl F vs ds ∧ ∀ v H', RTO K cl H F x v H' → Q v H'
theorem RTO.rt {K : PySem.W.Frag} {cl : Nat → Addr} {B F0 H : Hp} {x : O0} {v : V} (h : RTO K cl B F0 x v H) : RT K cl B F0 x.frz v H := by
  obtain ⟨F, ω, l, h1, h2, h3, h4, r⟩ := h
  have key : ∀ (p : Addr) (ob : HO), ω p = some l → H p = some ob → Same (upd F p ob) H ∧ Grow F0 B (upd F p ob) ∧ Same F (upd F p ob) := fun p ob w e => by
    have hn := h4 p w
    refine ⟨fun b o q => ?_, ⟨h3.1.trans (same_upd hn.1), fun a o z q => ?_⟩, same_upd hn.1⟩
    · by_cases z : b = p
      · subst z; rw [upd_same] at q; cases q; exact e
      · rw [upd_ne z] at q; exact h2 b o q
    · by_cases y : a = p
      · subst y; exact hn.2
      · rw [upd_ne y] at q; exact h3.2 a o z q
  cases x with
  | val d => exact ⟨F, h1, h2, h3, r⟩
  | lst xs => obtain ⟨p, vs, rfl, w, e, q⟩ := r; obtain ⟨k1, k2, k3⟩ := key p _ w e; exact ⟨_, h1, k1, k2, .lst' (SqL.of upd_same) (q.mono k3)⟩
  | dK xs => obtain ⟨p, vs, rfl, w, e, q⟩ := r; obtain ⟨k1, k2, k3⟩ := key p _ w e; exact ⟨_, h1, k1, k2, .dK' upd_same (RepK.mono k3 q)⟩
  | dT xs => obtain ⟨p, vs, rfl, w, e, q⟩ := r; obtain ⟨k1, k2, k3⟩ := key p _ w e; exact ⟨_, h1, k1, k2, .dT' upd_same (RepK.mono k3 q)⟩
def endD : Option Out → Option Dat
  | some (.rt d) => some d
  | some (.ro x) => some x.frz
  | some (.nx _) => some .non
  | _ => none
def endO : Option Out → Option O0
  | some (.ro x) => some x
  | _ => none
def defO (n : Nat) (fb : FS) : List Dat → Option O0 := fun ds => endO (fb (ini n ds))
def defF (n : Nat) (fb : FS) : List Dat → Option Dat := fun ds => endD (fb (ini n ds))
theorem er_ini {K : PySem.W.Frag} {cl : Nat → Addr} {F H : Hp} {vs : List V} {ds : List Dat} {m : Nat} (sub : Same F H) (r : RepL K cl F vs ds) : ER K cl F H ⟨fun _ => none, fun i => i⟩ (vs.map some ++ List.replicate m none) (ini m ds) where
  sub := sub
  own := fun a l e => by cases e
  len := by simp [ini, r.length]
  at_ := fun i s hs => by
    unfold ini at hs
    by_cases hi : i < ds.length
    · rw [List.getElem?_append_left (by simpa using hi), List.getElem?_map, List.getElem?_eq_getElem hi] at hs
      cases hs
      have hv : vs[i]? = some (vs[i]'(by rw [r.length]; exact hi)) := List.getElem?_eq_getElem _
      refine ⟨_, ?_, (show Rep K cl F _ _ from pget i r hv (List.getElem?_eq_getElem hi))⟩
      rw [List.getElem?_append_left (by rw [List.length_map, r.length]; exact hi), List.getElem?_map, hv]
      rfl
    · rw [List.getElem?_append_right (by simpa using hi)] at hs
      have : s = .no := by
        have := List.mem_of_getElem? hs
        exact (List.mem_replicate.mp this).2
      subst this
      exact True.intro
theorem fn_pure {P : Program} {w : World} {K : PySem.W.Frag} {mg : Str → Option Value} {base : Heap} {cl : Nat → Addr} {x qual : Str} {st : Stmt} {f : Addr} {fd : FuncData} {N ps : List Str} {k : Nat} {fb : FS} (F : Fun K x qual st f fd) (S : FnScope N ps (defScope st))
    (hb : ∀ (cdv : Value) (A : Around) (outer : List Env) (s : Shared) (H : Hp) (E : XK), Room k (A.deeper (envOfC qual (defScope st) s.heap.objs.size f cdv)) →
      PB cl (cxOf CX0 P w K mg base N qual (defScope st) f cdv A outer s H E).nox (defBody st) fb) : FnOk P w K mg base CX0 (k + 1) f fd ps (spD K cl ps.length (defF (N.length - ps.length) fb)) := by
  refine F.ok S (fun vs H Q E h => h.1) (fun cdv A outer s H vs Q E hr h => ?_)
  obtain ⟨hl, ds, d, F', hf, sub, r, k⟩ := h
  refine ⟨_, hb cdv A outer s H E hr, ?_⟩
  have e0 : L2.start N vs = vs.map some ++ List.replicate (N.length - ps.length) none := by unfold L2.start; rw [hl]
  rw [e0]
  have sr : SR K cl H F' F' (ini (N.length - ps.length) ds) (vs.map some ++ List.replicate (N.length - ps.length) none) H F' (fun _ => none) := ⟨er_ini sub r, Same.refl _, Grow.refl, Same.refl _, fun a l e => by cases e⟩
  unfold defF at hf
  cases e : fb (ini (N.length - ps.length) ds) with
  | none => rw [e] at hf; cases hf
  | some o =>
    rw [e] at hf
    refine ⟨H, F', F', ini (N.length - ps.length) ds, o, e, ⟨F', _, sr⟩, ?_⟩
    cases o with
    | rt d' => cases hf; exact fun v H' ⟨F2, b, s2, g, r2⟩ => k v H' F2 b s2 g r2
    | nx δ' => cases hf; exact fun σ' H' ⟨F2, ω, sr2⟩ => k .non H' F2 sr2.base sr2.er.sub sr2.grow .non
    | bk δ' => cases hf
    | ct δ' => cases hf
    | ro x => cases hf; exact fun v H' r => by obtain ⟨F2, b, s2, g, r2⟩ := r.rt; exact k v H' F2 b s2 g r2
theorem fn_fresh {P : Program} {w : World} {K : PySem.W.Frag} {mg : Str → Option Value} {base : Heap} {cl : Nat → Addr} {x qual : Str} {st : Stmt} {f : Addr} {fd : FuncData} {N ps : List Str} {k : Nat} {fb : FS} (F : Fun K x qual st f fd) (S : FnScope N ps (defScope st))
    (hb : ∀ (cdv : Value) (A : Around) (outer : List Env) (s : Shared) (H : Hp) (E : XK), Room k (A.deeper (envOfC qual (defScope st) s.heap.objs.size f cdv)) →
      PB cl (cxOf CX0 P w K mg base N qual (defScope st) f cdv A outer s H E).nox (defBody st) fb) : FnOk P w K mg base CX0 (k + 1) f fd ps (spO K cl ps.length (defO (N.length - ps.length) fb)) := by
  refine F.ok S (fun vs H Q E h => h.1) (fun cdv A outer s H vs Q E hr h => ?_)
  obtain ⟨hl, ds, d, F', hf, sub, r, k⟩ := h
  refine ⟨_, hb cdv A outer s H E hr, ?_⟩
  have e0 : L2.start N vs = vs.map some ++ List.replicate (N.length - ps.length) none := by unfold L2.start; rw [hl]
  rw [e0]
  have sr : SR K cl H F' F' (ini (N.length - ps.length) ds) (vs.map some ++ List.replicate (N.length - ps.length) none) H F' (fun _ => none) := ⟨er_ini sub r, Same.refl _, Grow.refl, Same.refl _, fun a l e => by cases e⟩
  unfold defO at hf
  cases e : fb (ini (N.length - ps.length) ds) with
  | none => rw [e] at hf; cases hf
  | some o =>
    rw [e] at hf
    refine ⟨H, F', F', ini (N.length - ps.length) ds, o, e, ⟨F', _, sr⟩, ?_⟩
    cases o with
    | rt d' => cases hf
    | nx δ' => cases hf
    | bk δ' => cases hf
    | ct δ' => cases hf
    | ro x => cases hf; exact fun v H' r => k v H' r
def eCall (n : Nat) (f : List Dat → Option Dat) (fa : FA) : FE := fun δ => (fa δ).bind fun ds => if ds.length = n then f ds else none
section
variable {cl : Nat → Addr} {X : Cx} {CX : CXT} {k : Nat} {f : Addr} {fd : FuncData} {ps : List Str} {fn : List Dat → Option Dat} {E : XK} {x : Str} {p pos : Pos} {e : Expr} {es : List Expr} {fa : FA}
theorem pp_call (Fo : FnOk X.prog X.w X.K X.mg X.base CX k f fd ps (spD X.K cl ps.length fn)) (hr : Room k X.A) (hg : Gl X x) (hm : X.mg x = some (.ref f)) (hk : PySem.W.keepIn X.K (.ref f) = true) (hb : Binds X.K fd ps []) (hx : Passes CX X E) (ha : PPA cl X (e :: es) fa)
    (hdb : (x == ("__debug__" : Str)) = false := by decide) (he : starEach (e :: es) X.env = (false, eval e X.env) :: starEach es X.env := by rfl) (hpl : (backTo pos (starEach es X.env)).any (·.1) = false := by rfl) :
    PP cl X (.Call (.Name x p) (e :: es) [] pos) (eCall ps.length fn fa) := fun pins s σ H Q I h => by
  obtain ⟨δ, F, ω, d, hf, er, k⟩ := h
  unfold eCall at hf
  cases hd : fa δ with
  | none => rw [hd] at hf; cases hf
  | some ds =>
    rw [hd] at hf
    simp only [Option.bind_some] at hf
    split at hf
    · rename_i hl
      refine pe_call Fo hr hg hm hk hb .nil hx ha hdb he hpl pins s σ H Q I ⟨δ, F, ω, ds, hd, er, fun vs H1 F1 s1 s1' g1 r1 => ?_⟩
      show spD X.K cl ps.length fn (vs ++ []) H1 Q E
      rw [List.append_nil]
      exact ⟨by rw [r1.length]; exact hl, ds, d, F1, hf, s1', r1, k.step s1 g1⟩
    · cases hf
def sAsgO (i n : Nat) (f : List Dat → Option O0) (fa : FA) : FS := fun δ => (fa δ).bind fun ds => if ds.length = n then (f ds).bind fun x => some (.nx (δ.set i (.o x))) else none
theorem SR.take {K : PySem.W.Frag} {B F0 P H F H' : Hp} {δ : Sto} {σ : St} {ω : Addr → Option Lab} {i : Nat} {x : O0} {v : V} (sr : SR K cl B F0 P δ σ H F ω) (h : RTO K cl H F x v H') : ∃ F' ω', SR K cl B F0 P (δ.set i (.o x)) (σ.set i (some v)) H' F' ω' := by
  obtain ⟨F', ω', l, h1, h2, h3, h4, r⟩ := h
  have sr1 := sr.step h1 h2 h3
  have key : ∀ (p : Addr) (ob : HO), ω' p = some l → H' p = some ob → SR K cl B F0 P δ σ H' F' (updL ω p (i, none)) := fun p ob w e => by
    have hn := h4 p w
    have keep : ∀ a l', ω a = some l' → updL ω p (i, none) a = some l' := fun a l' q => by
      obtain ⟨_, o', z⟩ := sr.er.own a l' q
      rw [updL_ne (ne_of_none z hn.2)]
      exact q
    refine ⟨⟨h2, fun a l' q => ?_, sr1.er.len, fun j t ht => (sr1.er.at_ j t ht).lab keep⟩, sr1.base, sr1.grow, sr1.pin, fun a l' q => ?_⟩
    · by_cases ha : a = p
      · subst ha; exact ⟨hn.1, ob, e⟩
      · rw [show (⟨updL ω p (i, none), fun i => i⟩ : Ow).w a = ω a from updL_ne ha] at q
        exact sr1.er.own a l' q
    · by_cases ha : a = p
      · subst ha; exact none_of sr.base hn.2
      · rw [updL_ne ha] at q; exact sr.fresh a l' q
  cases x with
  | val d => exact ⟨F', ω, sr1.set ⟨v, rfl, r⟩⟩
  | lst xs => obtain ⟨p, vs, rfl, w, e, q⟩ := r; exact ⟨F', _, (key p _ w e).set ⟨.ref p, rfl, p, vs, rfl, updL_same, e, q⟩⟩
  | dK xs => obtain ⟨p, vs, rfl, w, e, q⟩ := r; exact ⟨F', _, (key p _ w e).set ⟨.ref p, rfl, p, vs, rfl, updL_same, e, q⟩⟩
  | dT xs => obtain ⟨p, vs, rfl, w, e, q⟩ := r; exact ⟨F', _, (key p _ w e).set ⟨.ref p, rfl, p, vs, rfl, updL_same, e, q⟩⟩
theorem pb_asgO {fo : List Dat → Option O0} {i : Nat} {y : Str} {pos' pos2 : Pos} (Fo : FnOk X.prog X.w X.K X.mg X.base CX k f fd ps (spO X.K cl ps.length fo)) (hr : Room k X.A) (hg : Gl X x) (hm : X.mg x = some (.ref f)) (hk : PySem.W.keepIn X.K (.ref f) = true) (hb : Binds X.K fd ps []) (hxp : Passes CX X E) (ha : PPA cl X (e :: es) fa)
    (hN : X.N.Nodup) (hi : X.N[i]? = some y) (hy : Loc X.env.scope y)
    (hdb : (x == ("__debug__" : Str)) = false := by decide) (he : starEach (e :: es) X.env = (false, eval e X.env) :: starEach es X.env := by rfl) (hpl : (backTo pos (starEach es X.env)).any (·.1) = false := by rfl)
    (hs : swapsWith (.Call (.Name x p) (e :: es) [] pos) (some (.Name y pos')) pos2.line X.env = pure false := by rfl)
    (hf : X.fn y = true ∨ X.env.scope.names.lookup y = some .local := by first | exact .inl rfl | exact .inr rfl | assumption) :
    PB1 cl X (.Assign [.Name y pos'] (.Call (.Name x p) (e :: es) [] pos) pos2) (sAsgO i ps.length fo fa) := fun pins s σ H D I h => by
  obtain ⟨B, F0, P, δ, o, hw, ⟨F, ω, sr⟩, out⟩ := h
  unfold sAsgO at hw
  cases hd : fa δ with
  | none => rw [hd] at hw; cases hw
  | some ds =>
    rw [hd] at hw
    simp only [Option.bind_some] at hw
    split at hw
    · rename_i hl
      cases hq : fo ds with
      | none => rw [hq] at hw; cases hw
      | some x1 =>
        rw [hq] at hw
        obtain rfl := Option.some.inj hw
        refine ps_set hN hi hy (pe_call Fo hr hg hm hk hb .nil hxp ha hdb he hpl) hs hf pins s σ H D I ⟨δ, F, _, ds, hd, sr.er, fun vs H1 F1 s1 s1' g1 r1 => ?_⟩
        show spO X.K cl ps.length fo (vs ++ []) H1 _ E
        rw [List.append_nil]
        exact ⟨by rw [r1.length]; exact hl, ds, x1, F1, hq, s1', r1, fun v H' r => out _ _ ((sr.step s1 s1' g1).take r)⟩
    · cases hw
def CallD (K : PySem.W.Frag) (cl : Nat → Addr) (r : List V → Hp → VK → Prop) (g : List Dat → Option Dat) : Prop := ∀ F H vs ds d Q, g ds = some d → Same F H → RepL K cl F vs ds → Post K cl F H d Q → r vs H Q
def eB (g : List Dat → Option Dat) (fa : FA) : FE := fun δ => (fa δ).bind g
variable {id T : String} {r : List V → Hp → VK → Prop} {g : List Dat → Option Dat}
theorem pp_callB (hc : CallR X (.builtin id) r) (hd : CallD X.K cl r g) (hg : Gl X x) (hm : X.mg x = none) (hv : bootBuiltins x = some (.builtin id)) (ha : PPA cl X (e :: es) fa) (hn : x ≠ "__name__" := by decide) (hdb : (x == ("__debug__" : Str)) = false := by decide)
    (he : starEach (e :: es) X.env = (false, eval e X.env) :: starEach es X.env := by rfl) (hpl : (backTo pos (starEach es X.env)).any (·.1) = false := by rfl) : PP cl X (.Call (.Name x p) (e :: es) [] pos) (eB g fa) := fun pins s σ H Q I h => by
  obtain ⟨δ, F, ω, d, hf, er, k⟩ := h
  unfold eB at hf
  cases hd' : fa δ with
  | none => rw [hd'] at hf; cases hf
  | some ds =>
    rw [hd'] at hf
    exact pe_callB hc hg hm hv ha hn hdb he hpl pins s σ H Q I ⟨δ, F, ω, ds, hd', er, fun vs H1 F1 s1 s1' g1 r1 => hd F1 H1 vs ds d Q hf s1' r1 (k.step s1 g1)⟩
theorem pp_callTy (hc : CallR X (.type T) r) (hd : CallD X.K cl r g) (hg : Gl X x) (hm : X.mg x = none) (hv : bootBuiltins x = some (.type T)) (ha : PPA cl X (e :: es) fa) (hn : x ≠ "__name__" := by decide) (hdb : (x == ("__debug__" : Str)) = false := by decide)
    (he : starEach (e :: es) X.env = (false, eval e X.env) :: starEach es X.env := by rfl) (hpl : (backTo pos (starEach es X.env)).any (·.1) = false := by rfl) : PP cl X (.Call (.Name x p) (e :: es) [] pos) (eB g fa) := fun pins s σ H Q I h => by
  obtain ⟨δ, F, ω, d, hf, er, k⟩ := h
  unfold eB at hf
  cases hd' : fa δ with
  | none => rw [hd'] at hf; cases hf
  | some ds =>
    rw [hd'] at hf
    exact pe_callTy hc hg hm hv ha hn hdb he hpl pins s σ H Q I ⟨δ, F, ω, ds, hd', er, fun vs H1 F1 s1 s1' g1 r1 => hd F1 H1 vs ds d Q hf s1' r1 (k.step s1 g1)⟩
end
end MB
namespace MB
open PySem PySem.Spec PyProof.Rows L2
section
variable {prog : Program} {w : World} {A : Around} {R : Result → Shared → Prop} {s : Shared}
theorem compLoop_gen {elt target iter : Expr} {ifs : List Expr} {scope : Scope} {pos : Pos} {it acc : Value} {env : Env} (J : Nat → Shared → Prop)
    (turn : ∀ n s, J n s → wpAny (model prog w) A (pyNext it) (fun r s₁ => match r with
      | none => R (.ok .next) s₁
      | some v => wpAny (model prog w) A (letOwnedTupleGo target it v) (fun _ s₀ => wpAny (model prog w) A (assign target env v) (fun _ s₂ =>
          wpAny (model prog w) A (forIn ifs true fun c r => if r = true then do let ok ← isTrue c env (eval c env); pure (ForInStep.yield ok) else pure (ForInStep.yield r)) (fun ok s₃ =>
            if ok = true then wpAny (model prog w) A (eval elt env) (fun x s₄ =>
              wpAny (model prog w) A (call (.builtin "list.append") [acc, x]) (fun _ s₅ => ∃ m, m < n ∧ J m s₅) (fun _ _ => False) s₄) (fun _ _ => False) s₃
            else ∃ m, m < n ∧ J m s₃) (fun _ _ => False) s₂) (fun _ _ => False) s₀) (fun _ _ => False) s₁) (fun _ _ => False) s)
    (n : Nat) (h : J n s) :
    codeAny (model prog w) A (.compLoop (.ListComp elt [⟨target, iter, ifs, 0⟩] scope pos) 0 it acc env) R s := by
  refine codeAny_loop rfl J (fun n s hI => ?_) n h
  show wpAny _ A ((compTurn (.ListComp elt [⟨target, iter, ifs, 0⟩] scope pos) 0 it acc env).onRaise (fun x => do noteFrame x env; theTreesLotGoes x)) _ _ s
  refine wpAny_noted ?_
  rw [compTurn_list]
  refine wpAny_bind (wpAny_standAt (wpAny_bind (wpAny_mono (turn n s hI) (fun r s₁ h₁ => ?_) fun _ _ h' => h'.elim)))
  cases r with
  | none => exact wpAny_pure h₁
  | some v =>
    refine wpAny_bind (wpAny_mono h₁ (fun _ s₀ h₀ => ?_) fun _ _ h' => h'.elim)
    refine wpAny_bind (wpAny_mono h₀ (fun _ s₂ h₂ => wpAny_bind (wpAny_mono h₂ (fun ok s₃ h₃ => ?_) fun _ _ h' => h'.elim)) fun _ _ h' => h'.elim)
    cases ok with
    | false => exact wpAny_pure ⟨rfl, h₃⟩
    | true =>
      exact wpAny_bind (wpAny_bind (wpAny_mono h₃ (fun x s₄ h₄ => wpAny_bind (wpAny_mono h₄ (fun _ s₅ h₅ => wpAny_pure (wpAny_pure ⟨rfl, h₅⟩)) fun _ _ h' => h'.elim)) fun _ _ h' => h'.elim))
end
def capOf (env : Env) : List (Str × NameKind) → List (Str × Addr) → List (Str × Addr)
  | [], cs => cs
  | (n, k) :: r, cs => capOf env r (if (k == .free) = true then (n, (env.cells.lookup n).getD 0) :: cs else cs)
theorem closureFor_cap {scope : Scope} {env : Env} (h : ∀ x ∈ scope.names, x.2 = .free → ∃ c, env.cells.lookup x.1 = some c) : closureFor scope env = pure (capOf env scope.names []) := by
  have key : ∀ (l : List (Str × NameKind)) (cs : List (Str × Addr)), (∀ x ∈ l, x.2 = .free → ∃ c, env.cells.lookup x.1 = some c) →
      (forIn l cs (fun x r => match x with | (name, kind) => if (kind == NameKind.free) = true then do let c ← cellOf env name; pure (ForInStep.yield ((name, c) :: r)) else pure (ForInStep.yield r)) : Sem (List (Str × Addr))) = pure (capOf env l cs) := by
    intro l
    induction l with
    | nil => intro cs _; rfl
    | cons x r ih =>
      intro cs hl
      obtain ⟨n, k⟩ := x
      have hr := ih (if (k == .free) = true then (n, (env.cells.lookup n).getD 0) :: cs else cs) fun y hy => hl y (List.mem_cons_of_mem _ hy)
      rw [List.forIn_cons]
      unfold capOf
      by_cases hk : (k == NameKind.free) = true
      · obtain ⟨c, hc⟩ := hl (n, k) List.mem_cons_self (by simpa using hk)
        have hc' : env.cells.lookup n = some c := hc
        rw [if_pos hk] at hr ⊢
        simp only [hk, if_true]
        have e : cellOf env n = pure c := by unfold cellOf; rw [hc']
        rw [e, hc']
        rw [hc'] at hr
        exact hr
      · rw [if_neg hk] at hr ⊢
        simp only [hk]
        exact hr
  unfold closureFor
  show (forIn scope.names [] _ >>= fun s => pure s) = _
  rw [key scope.names [] h]
  rfl
theorem capOf_look {env : Env} {x : Str} {c : Addr} : ∀ {l : List (Str × NameKind)} {cs : List (Str × Addr)}, (∀ y ∈ l, y.2 = .free → ∃ c, env.cells.lookup y.1 = some c) → (∀ c, cs.lookup x = some c → env.cells.lookup x = some c) →
    (capOf env l cs).lookup x = some c → env.cells.lookup x = some c
  | [], cs, _, h, e => h c e
  | (n, k) :: r, cs, hl, h, e => by
    unfold capOf at e
    refine capOf_look (fun y hy => hl y (List.mem_cons_of_mem _ hy)) (fun c' e' => ?_) e
    by_cases hk : (k == NameKind.free) = true
    · rw [if_pos hk] at e'
      rw [List.lookup_cons] at e'
      cases hx : x == n with
      | true =>
        rw [hx] at e'
        have hxn : x = n := eq_of_beq hx
        obtain ⟨c2, hc2⟩ := hl (n, k) List.mem_cons_self (by simpa using hk)
        have hc2' : env.cells.lookup n = some c2 := hc2
        rw [hc2'] at e'
        rw [hxn, hc2']
        exact e'
      | false =>
        rw [hx] at e'
        exact h c' e'
    · rw [if_neg hk] at e'
      exact h c' e'
theorem capOf_has {env : Env} {x : Str} : ∀ {l : List (Str × NameKind)} {cs : List (Str × Addr)}, ((∃ c, cs.lookup x = some c) ∨ (x, NameKind.free) ∈ l) → ∃ c, (capOf env l cs).lookup x = some c
  | [], cs, h => by
    rcases h with h | h
    · exact h
    · cases h
  | (n, k) :: r, cs, h => by
    unfold capOf
    refine capOf_has ?_
    rcases h with ⟨c, h⟩ | h
    · left
      split
      · rw [List.lookup_cons]
        cases x == n with
        | true => exact ⟨_, rfl⟩
        | false => exact ⟨c, h⟩
      · exact ⟨c, h⟩
    · rcases List.mem_cons.mp h with h | h
      · cases h
        left
        rw [if_pos (by rfl), List.lookup_cons, beq_self_eq_true]
        exact ⟨_, rfl⟩
      · exact .inr h
theorem lookup_mem {x : Str} {k : NameKind} : ∀ {l : List (Str × NameKind)}, l.lookup x = some k → (x, k) ∈ l
  | [], h => by cases h
  | (n, k0) :: r, h => by
    rw [List.lookup_cons] at h
    cases hx : x == n with
    | true => rw [hx] at h; cases h; rw [eq_of_beq hx]; exact List.mem_cons_self
    | false => rw [hx] at h; exact List.mem_cons_of_mem _ (lookup_mem h)
def compX (X : Cx) (scope : Scope) (C : Addr) (s0 : Shared) (H0 : Hp) (fp : List Addr) (N : List Str) : Cx :=
  { X with N := N, s₀ := s0, H₀ := H0, env := compEnvC scope (capOf X.env scope.names []) C X.env, outer := X.stack, stack := X.stack, ex := fp, fn := fun _ => false, pn := [], xe := fun _ _ => False }
structure CompSc (X : Cx) (scope : Scope) (vars : List Str) (caps : List Nat) (N : List Str) : Prop where
  kind : scope.kind = .function
  nocell : ∀ y ∈ scope.names, y.2 ≠ .cell
  names : ∀ y ∈ scope.names, y.2 = .local → scope.names.lookup y.1 = some .local
  free : ∀ y ∈ scope.names, y.2 = .free → X.env.kindOf y.1 = some .cell ∨ X.env.kindOf y.1 = some .free
  hN : N = vars ++ caps.filterMap fun j => X.N[j]?
  capn : ∀ j ∈ caps, ∃ x, X.N[j]? = some x ∧ (X.env.kindOf x = some .cell ∨ X.env.kindOf x = some .free) ∧ scope.names.lookup x = some .free
theorem lookup_map1 {x : Str} {f : Str × NameKind → NameKind} : ∀ {l : List (Str × NameKind)} {k : NameKind}, (l.map fun p => (p.1, f p)).lookup x = some k → ∃ k', (x, k') ∈ l ∧ k = f (x, k')
  | [], k, h => by cases h
  | (n, k0) :: r, k, h => by
    rw [List.map_cons, List.lookup_cons] at h
    cases hx : x == n with
    | true =>
      rw [hx] at h
      have hxn : x = n := eq_of_beq hx
      subst hxn
      exact ⟨k0, List.mem_cons_self, (Option.some.inj h).symm⟩
    | false =>
      rw [hx] at h
      obtain ⟨k', m, q⟩ := lookup_map1 h
      exact ⟨k', List.mem_cons_of_mem _ m, q⟩
theorem lookup_map2 {x : Str} {f : Str × NameKind → NameKind} : ∀ {l : List (Str × NameKind)} {k : NameKind}, l.lookup x = some k → (l.map fun p => (p.1, f p)).lookup x = some (f (x, k))
  | [], k, h => by cases h
  | (n, k0) :: r, k, h => by
    rw [List.lookup_cons] at h
    rw [List.map_cons, List.lookup_cons]
    cases hx : x == n with
    | true =>
      rw [hx] at h
      have hxn : x = n := eq_of_beq hx
      subst hxn
      rw [Option.some.inj h]
    | false =>
      rw [hx] at h
      exact lookup_map2 h
def relK (env : Env) (p : Str × NameKind) : NameKind := if (p.2 == NameKind.free && env.scope.kind == .function && env.kindOf p.1 == some .cell) = true then .cell else p.2
theorem relabel_names {scope : Scope} {env : Env} : (relabel scope env).names = scope.names.map fun p => (p.1, relK env p) := by
  unfold relabel
  dsimp only
  congr 1
  funext p
  obtain ⟨n, k⟩ := p
  unfold relK
  dsimp only
  split <;> rfl
theorem relabel_back {scope : Scope} {env : Env} {x : Str} {k : NameKind} (h : (relabel scope env).names.lookup x = some k) : ∃ k', (x, k') ∈ scope.names ∧ (k = k' ∨ (k' = .free ∧ k = .cell)) := by
  rw [relabel_names] at h
  obtain ⟨k', m, q⟩ := lookup_map1 h
  refine ⟨k', m, ?_⟩
  unfold relK at q
  split at q
  · rename_i c
    simp only [Bool.and_eq_true] at c
    exact .inr ⟨eq_of_beq c.1.1, q⟩
  · exact .inl q
theorem relabel_free {scope : Scope} {env : Env} {x : Str} (h : scope.names.lookup x = some .free) : (relabel scope env).names.lookup x = some .cell ∨ (relabel scope env).names.lookup x = some .free := by
  rw [relabel_names, lookup_map2 h]
  unfold relK
  split
  · exact .inl rfl
  · exact .inr rfl
def capS (n : Nat) (caps : List Nat) (σ : St) : St := List.replicate n none ++ caps.map fun j => (σ[j]?).getD none
theorem fmap_get {α : Type} {f : Nat → Option α} : ∀ {l : List Nat} {i : Nat} {x : α}, (∀ j ∈ l, ∃ y, f j = some y) → (l.filterMap f)[i]? = some x → ∃ j, l[i]? = some j ∧ f j = some x
  | [], i, x, _, h => by simp at h
  | j :: r, i, x, hs, h => by
    obtain ⟨y, hy⟩ := hs j List.mem_cons_self
    rw [List.filterMap_cons, hy] at h
    cases i with
    | zero => simp at h; subst h; exact ⟨j, rfl, hy⟩
    | succ i =>
      obtain ⟨j', a, b⟩ := fmap_get (fun k hk => hs k (List.mem_cons_of_mem _ hk)) (by simpa using h)
      exact ⟨j', by simpa using a, b⟩
theorem fmap_len {α : Type} {f : Nat → Option α} : ∀ {l : List Nat}, (∀ j ∈ l, ∃ y, f j = some y) → (l.filterMap f).length = l.length
  | [], _ => rfl
  | j :: r, hs => by
    obtain ⟨y, hy⟩ := hs j List.mem_cons_self
    rw [List.filterMap_cons, hy]
    simp [fmap_len fun k hk => hs k (List.mem_cons_of_mem _ hk)]
section
variable {X : Cx} {pins : List (Addr × Obj)} {σ : St} {H : Hp} {s : Shared} {scope : Scope} {vars N : List Str} {caps : List Nat} {fp : List Addr}
theorem CompSc.cells (S : CompSc X scope vars caps N) (I : Inv X pins σ H s) : ∀ x ∈ scope.names, x.2 = .free → ∃ c, X.env.cells.lookup x.1 = some c := fun x hx hf => I.ok.has x.1 (S.free x hx hf)
theorem CompSc.look (S : CompSc X scope vars caps N) (I : Inv X pins σ H s) {x : Str} {c : Addr} (e : (capOf X.env scope.names []).lookup x = some c) : X.env.cells.lookup x = some c :=
  capOf_look (S.cells I) (fun c e => by cases e) e
theorem compX_ok (I : Inv X pins σ H s) (hf : ∀ b ∈ fp, FpOk X pins H b) (hlt : ∀ b ∈ fp, b < s.heap.objs.size) (S : CompSc X scope vars caps N) : (compX X scope s.heap.objs.size s H fp N).Ok where
  mod := I.ok.mod
  kind := S.kind
  glob := I.ok.glob
  blt := I.ok.blt
  above := Nat.le_refl _
  inj := fun x y c e1 e2 => I.ok.inj x y c (S.look I e1) (S.look I e2)
  has := fun x hk => by
    have go : ∀ k, (k = NameKind.cell ∨ k = NameKind.free) → (relabel scope X.env).names.lookup x = some k → ∃ c, (capOf X.env scope.names []).lookup x = some c := fun k hk e => by
      obtain ⟨k', m, q⟩ := relabel_back (scope := scope) e
      refine capOf_has (.inr ?_)
      rcases q with q | ⟨q, _⟩
      · subst q
        rcases hk with h | h
        · exact absurd h (S.nocell _ m)
        · rw [← h]; exact m
      · rw [← q]; exact m
    rcases hk with h | h
    · exact go _ (.inl rfl) h
    · exact go _ (.inr rfl) h
  cab := fun x c h => by cases h
  hd := I.ok.hd
  frames := I.ok.frames
  stk := .inl rfl
  exf := fun b hb => ⟨Nat.ne_of_lt (hlt b hb), fun x c e => (hf b hb).2.2.2.2.1 x c (S.look I e)⟩
  bs := fun b o e => I.bs b o e
  bsz := Nat.le_trans I.ok.bsz I.sz
  noex := fun b o e hb => by
    obtain ⟨_, _, _, h, _⟩ := hf b hb
    rcases h with h | h
    · exact I.ok.noex b o e h
    · exact absurd (Nat.lt_of_lt_of_le (Heap.lt_size e) (Nat.le_trans I.ok.bsz h)) (Nat.lt_irrefl _)
  exfs := fun b hb hs => (List.mem_cons.mp (I.stkSub b hs)).elim (fun e => (hf b hb).2.1 e) fun m => (hf b hb).2.2.1 m
  funs := I.stack
  frf := fun b hb => I.stkFree b hb
theorem compX_inv {h' : Heap} {m : Str → Option Value} {tk : Nat} (I : Inv X pins σ H s) (hf : ∀ b ∈ fp, FpOk X pins H b) (hlt : ∀ b ∈ fp, b < s.heap.objs.size) (S : CompSc X scope vars caps N)
    (hn : h'.Ns s.heap.objs.size m) (k : ∀ b o, s.heap.get? b = some o → h'.get? b = some o) : Inv (compX X scope s.heap.objs.size s H fp N) [] (capS vars.length caps σ) H { s with heap := h', toks := tk } where
  ok := compX_ok I hf hlt S
  os := rfl
  bare := I.bare
  base := Un.kept k
  loc := by
    refine ⟨m, hn, fun i x v e1 e2 e3 => ?_⟩
    have hcap : ∀ j ∈ caps, ∃ y, X.N[j]? = some y := fun j hj => let ⟨y, a, _⟩ := S.capn j hj; ⟨y, a⟩
    have e1' : (vars ++ caps.filterMap fun j => X.N[j]?)[i]? = some x := by rw [← S.hN]; exact e1
    unfold capS at e2
    by_cases hi : i < vars.length
    · rw [List.getElem?_append_left (by simpa using hi)] at e2
      have := (List.mem_replicate.mp (List.mem_of_getElem? e2)).2
      cases this
    · rw [List.getElem?_append_right (by simpa using hi), List.length_replicate, List.getElem?_map] at e2
      rw [List.getElem?_append_right (by simpa using hi)] at e1'
      obtain ⟨j, hj, hx⟩ := fmap_get hcap e1'
      rw [hj] at e2
      have e2' : (σ[j]?).getD none = some v := Option.some.inj e2
      have hσ : σ[j]? = some (some v) := by
        cases q : σ[j]? with
        | none => rw [q] at e2'; cases e2'
        | some o => rw [q] at e2'; exact congrArg some e2'
      obtain ⟨x', hx', hk, hfr⟩ := S.capn j (List.mem_of_getElem? hj)
      rw [hx] at hx'
      cases hx'
      have vis : Vis X.env.scope x := by
        rcases hk with h | h
        · exact .inr (.inl h)
        · exact .inr (.inr h)
      obtain ⟨mm, _, hl⟩ := I.loc
      obtain ⟨u, r, l⟩ := hl j x v hx hσ vis
      refine ⟨u, r, ?_⟩
      rcases l with ⟨hloc, _⟩ | ⟨_, c, hc, hcell⟩
      · rcases hk with h | h <;> (rw [hloc] at h; cases h)
      · refine .inr ⟨relabel_free hfr, ?_⟩
        obtain ⟨c', hc'⟩ := capOf_has (env := X.env) (cs := []) (.inr (lookup_mem hfr))
        have := S.look I hc'
        rw [hc] at this
        cases this
        obtain ⟨oc, hoc, hd⟩ := hcell
        exact ⟨c, hc', oc, k _ _ hoc, hd⟩
  cell := fun x c e => by
    obtain ⟨v, o, ho, hd⟩ := I.cell x c (S.look I e)
    exact ⟨v, o, k _ _ ho, hd⟩
  free := I.hok.fresh (Nat.le_refl _)
  freeC := fun x c e => I.freeC x c (S.look I e)
  pin := fun p hp => by simp [compX] at hp
  hok := I.hok.kept k
  len := by
    have hcap : ∀ j ∈ caps, ∃ y, X.N[j]? = some y := fun j hj => let ⟨y, a, _⟩ := S.capn j hj; ⟨y, a⟩
    show (capS vars.length caps σ).length = N.length
    rw [S.hN, List.length_append, fmap_len hcap]
    simp [capS]
end
end MB
namespace MB
open PySem PySem.Spec PyProof.Rows L2
section
variable {K : PySem.W.Frag} {cl : Nat → Addr} {F H : Hp} {ω : Ow} {σ : St} {δ : Sto} {D : Addr} {o : HO}
theorem O0R.free {w : Addr → Option Lab} {l : Lab} {v : V} {x : O0} (hw : w D = none) (r : O0R K cl F H w l v x) : O0R K cl F (upd H D o) w l v x := by
  have ne : ∀ q, w q = some l → q ≠ D := fun q e z => by subst z; rw [e] at hw; cases hw
  cases x with
  | val d => exact r
  | lst xs => obtain ⟨q, vs, e, z, h, t⟩ := r; exact ⟨q, vs, e, z, by rw [upd_ne (ne q z)]; exact h, t⟩
  | dK kvs => obtain ⟨q, vs, e, z, h, t⟩ := r; exact ⟨q, vs, e, z, by rw [upd_ne (ne q z)]; exact h, t⟩
  | dT kvs => obtain ⟨q, vs, e, z, h, t⟩ := r; exact ⟨q, vs, e, z, by rw [upd_ne (ne q z)]; exact h, t⟩
theorem ER.free (e : ER K cl F H ω σ δ) (hw : ω.w D = none) (hF : F D = none) : ER K cl F (upd H D o) ω σ δ where
  sub := fun b ob q => by
    rw [upd_ne fun z => by subst z; rw [hF] at q; cases q]
    exact e.sub b ob q
  own := fun a l h => by
    obtain ⟨h1, o', h2⟩ := e.own a l h
    exact ⟨h1, o', by rw [upd_ne fun z => by subst z; rw [hw] at h; cases h]; exact h2⟩
  len := e.len
  at_ := fun i s hs => by
    have r := e.at_ i s hs
    cases s with
    | no => exact True.intro
    | o x => obtain ⟨v, e, q⟩ := r; exact ⟨v, e, q.free hw⟩
    | rcd kvs =>
      obtain ⟨q, vs, e, z, h, n, t⟩ := r
      exact ⟨q, vs, e, z, by rw [upd_ne fun y => by subst y; rw [z] at hw; cases hw]; exact h, n, pimp (fun _ _ t => ⟨t.1, t.2.free hw⟩) t⟩
def capD (n : Nat) (caps : List Nat) (δ : Sto) : Sto := List.replicate n .no ++ caps.map fun j => (δ[j]?).getD .no
theorem er_cap (e : ER K cl F H ω σ δ) (n : Nat) (caps : List Nat) : ER K cl F H ⟨ω.w, fun i => ω.b ((caps[i - n]?).getD 0)⟩ (capS n caps σ) (capD n caps δ) where
  sub := e.sub
  own := e.own
  len := by simp [capS, capD]
  at_ := fun i s hs => by
    unfold capD at hs
    by_cases hi : i < n
    · rw [List.getElem?_append_left (by simpa using hi)] at hs
      have := (List.mem_replicate.mp (List.mem_of_getElem? hs)).2
      subst this
      exact True.intro
    · rw [List.getElem?_append_right (by simpa using hi), List.length_replicate, List.getElem?_map] at hs
      cases hj : caps[i - n]? with
      | none => rw [hj] at hs; cases hs
      | some j =>
        rw [hj] at hs
        have hs' : (δ[j]?).getD .no = s := Option.some.inj hs
        have eσ : (capS n caps σ)[i]? = some ((σ[j]?).getD none) := by
          unfold capS
          rw [List.getElem?_append_right (by simpa using hi), List.length_replicate, List.getElem?_map, hj]
          rfl
        cases hd : δ[j]? with
        | none => rw [hd] at hs'; subst hs'; exact True.intro
        | some t =>
          rw [hd] at hs'
          obtain rfl : t = s := hs'
          have r := e.at_ j t hd
          show SlotR K cl F H ω.w (ω.b ((caps[i - n]?).getD 0)) (capS n caps σ)[i]? t
          rw [hj, eσ]
          cases t with
          | no => exact True.intro
          | o x => obtain ⟨v, e, q⟩ := r; exact ⟨v, by rw [e]; rfl, q⟩
          | rcd kvs => obtain ⟨q, vs, e, z⟩ := r; exact ⟨q, vs, by rw [e]; rfl, z⟩
end
def bT : FT := fun _ => some true
def PIfs (cl : Nat → Addr) (X : Cx) (ifs : List Expr) (t : FT) : Prop := ∀ (pins : List (Addr × Obj)) (s : Shared) (σ : St) (H : Hp) (Q : Bool → Hp → Prop), Inv X pins σ H s → tPT X.K cl t σ H Q →
  wpAny (model X.prog X.w) X.A (forIn ifs true fun c r => if r = true then do let ok ← isTrue c X.env (eval c X.env); pure (ForInStep.yield ok) else pure (ForInStep.yield r)) (TP X pins σ Q) X.xe s
theorem pifs_nil {cl : Nat → Addr} {X : Cx} : PIfs cl X [] bT := fun pins s σ H Q I h => by
  obtain ⟨δ, F, ω, b, hf, er, k⟩ := h
  obtain rfl := Option.some.inj hf
  exact wpAny_tests_nil ⟨H, I, k H F (Same.refl _) er.sub Grow.refl⟩
def compD (g : FG) (t : FT) (fe : FE) : List Dat → Sto → Option (List Dat)
  | [], _ => some []
  | d :: ds, δ => (g d δ).bind fun δ1 => (t δ1).bind fun c => if c = true then (fe δ1).bind fun y => (compD g t fe ds δ1).bind fun ys => some (y :: ys) else compD g t fe ds δ1
def eComp (fi : FA) (g : FG) (t : FT) (fe : FE) (n : Nat) (caps : List Nat) : FE := fun δ => (fi δ).bind fun ds => if ds.length ≤ sizeLine then (compD g t fe ds (capD n caps δ)).bind fun out => some (.lst out) else none
theorem eComp_some {fi : FA} {g : FG} {t : FT} {fe : FE} {n : Nat} {caps : List Nat} {δ : Sto} {d : Dat} (h : eComp fi g t fe n caps δ = some d) : ∃ ds out, fi δ = some ds ∧ ds.length ≤ sizeLine ∧ compD g t fe ds (capD n caps δ) = some out ∧ d = .lst out := by
  unfold eComp at h
  cases hd : fi δ with
  | none => rw [hd] at h; cases h
  | some ds =>
    rw [hd] at h
    simp only [Option.bind_some] at h
    split at h
    · rename_i hl
      cases hc : compD g t fe ds (capD n caps δ) with
      | none => rw [hc] at h; cases h
      | some out => rw [hc] at h; exact ⟨ds, out, rfl, hl, hc, (Option.some.inj h).symm⟩
    · cases h
section
variable {cl : Nat → Addr} {X : Cx} {elt target iter : Expr} {ifs : List Expr} {scope : Scope} {pos : Pos} {vars N : List Str} {caps : List Nat} {fi : FA} {g : FG} {t : FT} {fe : FE}
structure CompB (cl : Nat → Addr) (X : Cx) (target elt : Expr) (ifs : List Expr) (g : FG) (t : FT) (fe : FE) : Prop where
  tg : PPG cl X target g
  ts : PIfs cl X ifs t
  el : PP cl X elt fe
theorem comp_coreF {pins : List (Addr × Obj)} {s : Shared} {σ : St} {H F : Hp} {ω : Ow} {δ : Sto} {ds out : List Dat} {RR : Value → Addr → Result → Shared → Prop} (hc : X.calm = true) (S : CompSc X scope vars caps N) (hi : PPI cl X target iter fi)
    (hb : ∀ C s0 H0 fp, CompB cl (compX X scope C s0 H0 fp N) target elt ifs g t fe) (I : Inv X pins σ H s) (er : ER X.K cl F H ω σ δ) (hds : fi δ = some ds) (hsz : ds.length ≤ sizeLine) (hout : compD g t fe ds (capD vars.length caps δ) = some out)
    (hRR : ∀ D C s5 H5 F5 m, Inv X pins σ H5 s5 → s5.heap.Ns C m → H5 C = none → C ≠ X.env.locals → X.s₀.heap.objs.size ≤ C → (∀ x c, X.env.cells.lookup x = some c → c ≠ C) → (∀ p ∈ X.pn ++ pins, p.1 ≠ C) →
      Same H H5 → Same F5 H5 → Grow F H F5 → (H D = none ∧ F5 D = none ∧ ∃ ysV, H5 D = some (.lst ysV) ∧ RepL X.K cl F5 ysV out) → RR (.ref D) C (.ok .next) s5) :
    wpAny (model X.prog X.w) X.A (eval iter X.env) (fun x s₁ => wpAny (model X.prog X.w) X.A (pyIter x) (fun it s₂ => wpAny (model X.prog X.w) X.A (newList []) (fun acc s₃ =>
      wpAny (model X.prog X.w) X.A (newFunctionEnv scope X.env.globals (capOf X.env scope.names []) [] X.env.qual none .none (some X.env)) (fun cenv s₄ =>
        codeAny (model X.prog X.w) X.A (.compStart (.ListComp elt [⟨target, iter, ifs, 0⟩] scope pos) 0 it acc { cenv with scope := relabel scope X.env }) (RR acc cenv.locals) s₄) X.xe s₃) X.xe s₂) X.xe s₁) X.xe s := by
  refine thn (hi pins s σ H (fun J H2 => ∃ F2, Same H H2 ∧ Same F2 H2 ∧ Grow F H F2 ∧ Walk X.K cl F2 J ds) I ⟨δ, F, ω, ds, hds, er, fun J H' F' a b c d => ⟨F', a, b, c, d⟩⟩) fun v s1 h1 => thn h1 fun itv s2 h2 => ?_
  obtain ⟨it, fp, tn, J, H2, rfl, I2, T, st2, f2, F2, sH, sF, gF, wk⟩ := h2
  have er2 := er.grow sH sF gF
  have hlt2 : ∀ b ∈ fp, b < s2.heap.objs.size := fun b hb => let ⟨o, e, _⟩ := T.obj 0 _ st2 b hb; Heap.lt_size e
  refine wpAny_newObj_type ?_ (Nat.zero_le _)
  have hD : H2 s2.heap.objs.size = none := I2.fresh
  have I3 : Inv X pins σ (upd H2 s2.heap.objs.size (.lst [])) { s2 with heap := s2.heap.push { cls := .type "list", data := .seq ([] : List Value).toArray } } := I2.lnew (t' := s2.toks) .nil (Nat.zero_le _)
  generalize hs3 : ({ s2 with heap := s2.heap.push { cls := .type "list", data := .seq ([] : List Value).toArray } } : Shared) = s3 at I3
  have sz3 : s3.heap.objs.size = s2.heap.objs.size + 1 := by rw [← hs3]; exact Heap.size_push ..
  have k3 : ∀ b o, s2.heap.get? b = some o → s3.heap.get? b = some o := fun b o e => by rw [← hs3]; exact Heap.get?_push_of_some _ e
  have hlt3 : ∀ b ∈ fp, b < s3.heap.objs.size := fun b hb => by rw [sz3]; exact Nat.lt_succ_of_lt (hlt2 b hb)
  have f3 : ∀ b ∈ fp, FpOk X pins (upd H2 s2.heap.objs.size (.lst [])) b := fun b hb => ⟨by rw [upd_ne (Nat.ne_of_lt (hlt2 b hb))]; exact (f2 b hb).1, (f2 b hb).2⟩
  generalize hDD : s2.heap.objs.size = D at hD I3 f3
  refine wpAny_newFunctionEnv S.nocell (by intro y hy; cases hy) (fun h4 hns hsb => ?_) S.kind
  have k4 : ∀ b o, s3.heap.get? b = some o → h4.get? b = some o := fun b o e => (hsb.2 b (Nat.ne_of_lt (Heap.lt_size e))).trans (Heap.get?_push_of_some _ e)
  have I4 := compX_inv (tk := s3.toks + ([] : List (Str × Value)).length) I3 f3 hlt3 S hns k4
  have hwD : ω.w D = none := by
    cases q : ω.w D with
    | none => rfl
    | some l => obtain ⟨_, o, e⟩ := er2.own D l q; rw [hD] at e; cases e
  have hFD : F2 D = none := none_of sF hD
  have st4 : tn 0 h4 := T.keep 0 _ _ st2 fun b _ o e => k4 b o (k3 b o e)
  have er4 : ER X.K cl F2 (upd H2 D (.lst [])) ⟨ω.w, fun i => ω.b ((caps[i - vars.length]?).getD 0)⟩ (capS vars.length caps σ) (capD vars.length caps δ) := er_cap (er2.free hwD hFD) _ _
  have CB := hb s3.heap.objs.size s3 (upd H2 D (.lst [])) fp
  have Xok := compX_ok I3 f3 hlt3 S
  have stat : ∀ {H' : Hp}, (∀ b ∈ fp, H' b = none) → ∀ b ∈ fp, FpOk (compX X scope s3.heap.objs.size s3 (upd H2 D (.lst [])) fp N) [] H' b := fun hn b hb =>
    ⟨hn b hb, (Xok.exf b hb).1, Xok.exfs b hb, .inl hb, (Xok.exf b hb).2, fun p hp => by simp [compX] at hp⟩
  have loop : codeAny (model X.prog X.w) X.A (.compLoop (.ListComp elt [⟨target, iter, ifs, 0⟩] scope pos) 0 (.ref it) (.ref D) (compEnvC scope (capOf X.env scope.names []) s3.heap.objs.size X.env)) (RR (.ref D) s3.heap.objs.size)
      { s3 with heap := h4, toks := s3.toks + ([] : List (Str × Value)).length } := by
    refine compLoop_gen (fun n s' => ∃ i σi Hi Fi δi ysV ys rest, Inv (compX X scope s3.heap.objs.size s3 (upd H2 D (.lst [])) fp N) [] σi Hi s' ∧ tn i s'.heap ∧ (∀ b ∈ fp, Hi b = none) ∧
      ER X.K cl Fi Hi ⟨ω.w, fun i => ω.b ((caps[i - vars.length]?).getD 0)⟩ σi δi ∧ Same H2 Hi ∧ Same F2 Fi ∧ Grow F2 H2 Fi ∧ Hi D = some (.lst ysV) ∧ Fi D = none ∧ RepL X.K cl Fi ysV ys ∧ ys.length ≤ i ∧ i ≤ ds.length ∧ n = ds.length - i ∧
      compD g t fe (ds.drop i) δi = some rest ∧ ys ++ rest = out) ?_ ds.length
      ⟨0, _, _, F2, _, [], [], out, I4, st4, fun b hb => (f3 b hb).1, er4, same_upd hD, Same.refl _, Grow.refl, upd_same, hFD, .nil, Nat.le_refl _, Nat.zero_le _, by simp, hout, rfl⟩
    rintro n s' ⟨i, σi, Hi, Fi, δi, ysV, ys, rest, Ii, sti, fri, eri, a1, a2, a3, a4, a5, a6, a7, a8, rfl, hrun, hall⟩
    have sFi : Same F2 Hi := a2.trans eri.sub
    by_cases hlt : i < ds.length
    · refine thn (T.item (compX X scope s3.heap.objs.size s3 (upd H2 D (.lst [])) fp N) rfl rfl rfl hc i [] s' σi Hi (fun _ _ => False) Ii (stat fri) sti (wk.go i Hi sFi hlt)) fun r s5 ⟨u, hr, h5⟩ => ?_
      subst hr
      refine thn h5 fun _ s6 ⟨x, H6, I6, r6, y6, st6, fr6⟩ => ?_
      have hdi : ds[i]? = some ds[i] := List.getElem?_eq_getElem hlt
      obtain ⟨F6, b1, b2, b3, b4⟩ := wk.yld i Hi Fi x H6 _ a2 eri.sub hdi y6
      have er6 := eri.grow b1 b2 b3
      have I6' := I6.pinned (stat fr6) (T.obj _ _ st6)
      rw [List.drop_eq_getElem_cons hlt] at hrun
      unfold compD at hrun
      cases hg1 : g ds[i] δi with
      | none => rw [hg1] at hrun; cases hrun
      | some δ1 =>
        rw [hg1] at hrun
        simp only [Option.bind_some] at hrun
        refine thn (CB.tg _ s6 σi H6 x u (fun σ' H' => H' = H6 ∧ ER X.K cl F6 H6 ⟨ω.w, fun i => ω.b ((caps[i - vars.length]?).getD 0)⟩ σ' δ1) I6' r6 ⟨δi, F6, _, ds[i], δ1, hg1, er6, b4, fun σ' e => ⟨rfl, e⟩⟩) fun _ s7 ⟨σ7, H7, I7, e7, er7⟩ => ?_
        subst e7
        cases ht1 : t δ1 with
        | none => rw [ht1] at hrun; cases hrun
        | some c =>
          rw [ht1] at hrun
          simp only [Option.bind_some] at hrun
          refine thn (CB.ts _ s7 σ7 H7 (fun b H' => b = c ∧ ∃ F', Same H7 H' ∧ Same F' H' ∧ Grow F6 H7 F') I7 ⟨δ1, F6, _, c, ht1, er7, fun H' F' q1 q2 q3 => ⟨rfl, F', q1, q2, q3⟩⟩) fun ok s8 ⟨H8, I8, eok, F8, c1, c2, c3⟩ => ?_
          subst eok
          have er8 := er7.grow c1 c2 c3
          have keepIt : ∀ {σ9 : St} {H9 : Hp} {s9 : Shared}, Inv (compX X scope s3.heap.objs.size s3 (upd H2 D (.lst [])) fp N) ([] ++ pinsAt fp s6.heap) σ9 H9 s9 → tn (i + 1) s9.heap ∧ ∀ b ∈ fp, H9 b = none := fun {σ9 H9 s9} I9 =>
            ⟨T.keep _ _ _ st6 fun b hb o e => (I9.pin (b, o) (List.mem_append_right _ (List.mem_append_right _ (mem_pinsAt hb e)))).1, fun b hb => by
              obtain ⟨o, e, d⟩ := T.obj _ _ st6 b hb
              exact (I9.pin (b, o) (List.mem_append_right _ (List.mem_append_right _ (mem_pinsAt hb e)))).2.1⟩
          cases ok with
          | false =>
            rw [if_neg Bool.false_ne_true]
            rw [if_neg Bool.false_ne_true] at hrun
            obtain ⟨st8, fr8⟩ := keepIt I8
            have g8 : Grow F2 H2 F8 := (a3.trans a1 b3).trans (a1.trans b1) c3
            exact ⟨ds.length - (i + 1), by omega, i + 1, σ7, H8, F8, δ1, ysV, ys, rest, I8.unpinned, st8, fr8, er8, (a1.trans b1).trans c1, (a2.trans b3.1).trans c3.1, g8, c1 _ _ (b1 _ _ a4), c3.keep (b3.keep a5 a4) (b1 _ _ a4), (a6.mono b3.1).mono c3.1, by omega, hlt, rfl, hrun, hall⟩
          | true =>
            rw [if_pos rfl]
            rw [if_pos rfl] at hrun
            cases he1 : fe δ1 with
            | none => rw [he1] at hrun; cases hrun
            | some y =>
              rw [he1] at hrun
              simp only [Option.bind_some] at hrun
              cases hr1 : compD g t fe (ds.drop (i + 1)) δ1 with
              | none => rw [hr1] at hrun; cases hrun
              | some rest' =>
                rw [hr1] at hrun
                obtain rfl := Option.some.inj hrun
                refine thn (CB.el _ s8 σ7 H8 (fun v H' => ∃ F', Same H8 H' ∧ Same F' H' ∧ Grow F8 H8 F' ∧ Rep X.K cl F' v y) I8 ⟨δ1, F8, _, y, he1, er8, fun v H' F' q1 q2 q3 q4 => ⟨F', q1, q2, q3, q4⟩⟩) fun uv s9 ⟨v9, H9, I9, r9, F9, d1, d2, d3, d4⟩ => ?_
                have er9 := er8.grow d1 d2 d3
                have g9 : Grow F2 H2 F9 := ((a3.trans a1 b3).trans (a1.trans b1) c3).trans ((a1.trans b1).trans c1) d3
                have hD9 : H9 D = some (.lst ysV) := d1 _ _ (c1 _ _ (b1 _ _ a4))
                have hF9 : F9 D = none := by
                  cases q : F9 D with
                  | none => rfl
                  | some o =>
                    have e6 : F6 D = none := b3.keep a5 a4
                    have e8 : F8 D = none := c3.keep e6 (b1 _ _ a4)
                    have e9 : F9 D = none := d3.keep e8 (c1 _ _ (b1 _ _ a4))
                    rw [e9] at q; cases q
                have hz : ysV.length < sizeLine := by
                  rw [a6.length]
                  omega
                refine thn (mt_append _ s9 σ7 H9 (.ref D) [v9] (.ref D) [uv] (fun _ H' => H' = upd H9 D (.lst (ysV ++ [v9]))) I9 rfl (.cons r9 .nil) ⟨D, ysV, v9, rfl, rfl, hD9, hz, rfl⟩) fun _ s10 ⟨_, H10, I10, _, e10⟩ => ?_
                subst e10
                obtain ⟨st10, fr10⟩ := keepIt I10
                refine ⟨ds.length - (i + 1), by omega, i + 1, σ7, _, F9, δ1, ysV ++ [v9], ys ++ [y], rest', I10.unpinned, st10, fr10, er9.free hwD hF9, fun b ob e => ?_, g9.1, g9, upd_same, hF9, pappend (((a6.mono b3.1).mono c3.1).mono d3.1) (.cons d4 .nil), by rw [List.length_append]; simp; omega, hlt, rfl, hr1, by rw [List.append_assoc]; exact hall⟩
                rw [upd_ne fun z => by subst z; rw [hD] at e; cases e]
                exact d1 _ _ (c1 _ _ (b1 _ _ (a1 b ob e)))
    · have hie : i = ds.length := by omega
      refine thn (T.done (compX X scope s3.heap.objs.size s3 (upd H2 D (.lst [])) fp N) rfl rfl rfl hc i [] s' σi Hi (fun _ _ => False) Ii (stat fri) sti (wk.stop i Hi sFi (by omega))) fun r s5 ⟨hr, I5⟩ => ?_
      subst hr
      have e0 : ds.drop i = [] := List.drop_eq_nil_of_le (by omega)
      rw [e0] at hrun
      obtain rfl := Option.some.inj hrun
      have hys : ys = out := by rw [← hall, List.append_nil]
      subst hys
      obtain ⟨mC, hnC, _⟩ := I5.loc
      have IX : Inv X pins σ Hi s5 := by
        have u := I5.base
        exact I3.call' I5.os u I5.hok I5.bare fun b hb => ⟨(f3 b hb).2.2.2.1, (f3 b hb).2.1, (f3 b hb).2.2.2.2.1, (f3 b hb).2.2.2.2.2⟩
      have sz0 : X.s₀.heap.objs.size ≤ s3.heap.objs.size := I3.sz
      refine hRR D s3.heap.objs.size s5 Hi Fi mC IX hnC I5.free (Nat.ne_of_gt I3.lt) sz0 (fun x c e z => ?_) (fun p hp z => ?_) (sH.trans a1) eri.sub (gF.trans sH a3) ⟨sH.free hD, a5, ysV, a4, a6⟩
      · obtain ⟨vv, q⟩ := I3.cell x c e
        exact absurd (by rw [z] at q; exact q.lt) (Nat.lt_irrefl _)
      · exact absurd (Heap.lt_size (I3.pin p hp).1) (by rw [z]; exact Nat.lt_irrefl _)
  rw [← hDD] at loop
  have e3 : s2.heap.objs.size = D := hDD
  subst e3
  subst hs3
  exact codeAny_compStart_list loop (T.self _ 0 _ _ _ st4 loop)
theorem comp_core {pins : List (Addr × Obj)} {s : Shared} {σ : St} {H F : Hp} {ω : Ow} {δ : Sto} {ds out : List Dat} {RR : Value → Addr → Result → Shared → Prop} (hc : X.calm = true) (S : CompSc X scope vars caps N) (hi : PPI cl X target iter fi)
    (hb : ∀ C s0 H0 fp, CompB cl (compX X scope C s0 H0 fp N) target elt ifs g t fe) (I : Inv X pins σ H s) (er : ER X.K cl F H ω σ δ) (hds : fi δ = some ds) (hsz : ds.length ≤ sizeLine) (hout : compD g t fe ds (capD vars.length caps δ) = some out)
    (hRR : ∀ D C s5 H5 F5 m, Inv X pins σ H5 s5 → s5.heap.Ns C m → H5 C = none → C ≠ X.env.locals → X.s₀.heap.objs.size ≤ C → (∀ x c, X.env.cells.lookup x = some c → c ≠ C) → (∀ p ∈ X.pn ++ pins, p.1 ≠ C) →
      Same H H5 → Same F5 H5 → Grow F H F5 → Rep X.K cl F5 (.ref D) (.lst out) → RR (.ref D) C (.ok .next) s5) :
    wpAny (model X.prog X.w) X.A (eval iter X.env) (fun x s₁ => wpAny (model X.prog X.w) X.A (pyIter x) (fun it s₂ => wpAny (model X.prog X.w) X.A (newList []) (fun acc s₃ =>
      wpAny (model X.prog X.w) X.A (newFunctionEnv scope X.env.globals (capOf X.env scope.names []) [] X.env.qual none .none (some X.env)) (fun cenv s₄ =>
        codeAny (model X.prog X.w) X.A (.compStart (.ListComp elt [⟨target, iter, ifs, 0⟩] scope pos) 0 it acc { cenv with scope := relabel scope X.env }) (RR acc cenv.locals) s₄) X.xe s₃) X.xe s₂) X.xe s₁) X.xe s := by
  refine comp_coreF hc S hi hb I er hds hsz hout fun D C s5 H5 F5 m I5 hn n0 n1 n2 n3 n4 a1 a2 a3 ⟨b1, b2, ysV, b3, b4⟩ => hRR D C s5 H5 (upd F5 D (.lst ysV)) m I5 hn n0 n1 n2 n3 n4 a1 (fun b ob e => ?_) ⟨a3.1.trans (same_upd b2), fun b ob h0 e => ?_⟩ (.lst' (SqL.of upd_same) (b4.mono (same_upd b2)))
  · by_cases z : b = D
    · subst z; rw [upd_same] at e; cases e; exact b3
    · rw [upd_ne z] at e; exact a2 b ob e
  · by_cases z : b = D
    · subst z; exact b1
    · rw [upd_ne z] at e; exact a3.2 b ob h0 e
end
end MB
namespace MB
open PySem PySem.Spec PyProof.Rows L2
section
variable {cl : Nat → Addr} {X : Cx} {e a b c elt target iter : Expr} {ifs : List Expr} {fa fb fc : FE} {pos pos' : Pos} {scope : Scope} {vars N : List Str} {caps : List Nat} {fi : FA} {g : FG} {t : FT} {fe : FE} {i : Nat} {x : Str}
theorem pp_comp (hc : X.calm = true) (S : CompSc X scope vars caps N) (hi : PPI cl X target iter fi) (hb : ∀ C s0 H0 fp, CompB cl (compX X scope C s0 H0 fp N) target elt ifs g t fe)
    (hs : ∀ x, foldedSetIterable iter X.env x = pure x := by intro _; rfl) : PP cl X (.ListComp elt [⟨target, iter, ifs, 0⟩] scope pos) (eComp fi g t fe vars.length caps) := fun pins s σ H Q I h => by
  obtain ⟨δ, F, ω, d, hf, er, k⟩ := h
  obtain ⟨ds, out, h1, h2, h3, rfl⟩ := eComp_some hf
  rw [eval_ListComp]
  refine wpAny_comprehension_free (use := none) rfl hs (closureFor_cap (S.cells I)) S.kind S.names ?_
  refine comp_core (RR := fun acc C => compPost (model X.prog X.w) X.A X.xe none (EP X pins σ Q) acc C) hc S hi hb I er h1 h2 h3 fun D C s5 H5 F5 m I5 hn n0 n1 n2 n3 n4 a1 a2 a3 r => ?_
  exact ⟨m, hn, fun h' hsb => ⟨.ref D, H5, I5.turned (t' := s5.toks) (fun b o hb e => (hsb.2 b hb).trans e) n0 n1 (.inr n2) n3 n4, rfl, k _ H5 F5 a1 a2 a3 r⟩⟩
theorem pb_comp {p2 : Pos} (hN : X.N.Nodup) (hix : X.N[i]? = some x) (hx : X.env.scope.names.lookup x = some .local) (hc : X.calm = true) (S : CompSc X scope vars caps N) (hi : PPI cl X target iter fi) (hb : ∀ C s0 H0 fp, CompB cl (compX X scope C s0 H0 fp N) target elt ifs g t fe)
    (hsw : swapsWith (.ListComp elt [⟨target, iter, ifs, 0⟩] scope p2) (some (.Name x pos')) pos.line X.env = pure true) (hs : ∀ x, foldedSetIterable iter X.env x = pure x := by intro _; rfl) :
    PB1 cl X (.Assign [.Name x pos'] (.ListComp elt [⟨target, iter, ifs, 0⟩] scope p2) pos) (sAsg i (eComp fi g t fe vars.length caps)) := fun pins s σ H D I h => by
  obtain ⟨B, F0, P, δ, o, hw, ⟨F, ω, sr⟩, outD⟩ := h
  unfold sAsg at hw
  cases hd : eComp fi g t fe vars.length caps δ with
  | none => rw [hd] at hw; cases hw
  | some d =>
    rw [hd] at hw
    obtain rfl : Out.nx (δ.set i (.o (.val d))) = o := Option.some.inj hw
    obtain ⟨ds, out, h1, h2, h3, rfl⟩ := eComp_some hd
    rw [exec_Assign_Name_used _ _ _ _ hsw]
    refine wpAny_bind (wpAny_standAt (wpAny_bind ?_))
    show wpAny _ X.A (do let _ ← comprehension (.ListComp elt [⟨target, iter, ifs, 0⟩] scope p2) scope X.env _ (newList []) false (eval iter X.env) (some (assign (.Name x pos') X.env))) _ _ s
    refine wpAny_bind (wpAny_mono (wpAny_comprehension_free (use := some (assign (.Name x pos') X.env)) (Q := fun _ s' => SP X pins D .next s') rfl hs (closureFor_cap (S.cells I)) S.kind S.names ?_) (fun _ s' hq => wpAny_pure (wpAny_pure hq)) fun _ _ e => e)
    refine comp_core (RR := fun acc C => compPost (model X.prog X.w) X.A X.xe (some (assign (.Name x pos') X.env)) (fun _ s' => SP X pins D .next s') acc C) hc S hi hb I sr.er h1 h2 h3 fun D' C s5 H5 F5 m I5 hn n0 n1 n2 n3 n4 a1 a2 a3 r => ?_
    show wpAny _ X.A (assign (.Name x pos') X.env (.ref D')) _ _ _
    refine wpAny_assign_Name (store_ok2 I5 hN hix (.inl hx) (v := .ref D') rfl (fun s6 I6 hsb6 => ?_) (.inr hx))
    obtain ⟨ad, hsb, had⟩ := hsb6
    have hCa : C ≠ ad := by
      rcases had with h | h
      · rw [h]; exact n1
      · exact fun z => n3 x ad h z.symm
    have hn6 : s6.heap.Ns C m := hn.sameBut hsb hCa
    exact ⟨m, hn6, fun h' hsb' => ⟨_, H5, I6.turned (t' := s6.toks) (fun b o hb e => (hsb'.2 b hb).trans e) n0 n1 (.inr n2) n3 n4, outD _ _ ⟨F5, ω, (sr.step a1 a2 a3).set ⟨.ref D', rfl, r⟩⟩⟩⟩
theorem eqAt_D {pins : List (Addr × Obj)} {σ : St} {H F : Hp} {s : Shared} (I : Inv X pins σ H s) (sub : Same F H) : ∀ (n : Nat) (A : Around) (x y : V) (da db : Dat) (u v : Value) (r : Bool), A.units + n < cLine →
    Rep X.K cl F x da → Rep X.K cl F y db → RelV x u → RelV y v → eqN n da db = some r → SeqAt.EqAt A s u v r := by
  intro n
  induction n with
  | zero => intro A x y da db u v r hu r1 r2 q1 q2 h; cases h
  | succ n ih =>
    intro A x y da db u v r hu r1 r2 q1 q2 h
    have h0 := h
    unfold eqN eqS at h
    split at h
    · cases h; cases r1; cases r2; obtain ⟨t1, rfl⟩ := q1; obtain ⟨t2, rfl⟩ := q2; exact SeqAt.EqAt.int_int _ _ _ _
    · cases h; cases r1; cases r2; obtain ⟨t1, rfl⟩ := q1; obtain ⟨t2, rfl⟩ := q2; exact SeqAt.EqAt.str_str _ _ _ _
    · cases h; cases r1; cases r2; cases q1; cases q2; exact SeqAt.EqAt.bool_bool _ _
    · cases h; cases r1; cases r2; cases q1; cases q2; exact SeqAt.EqAt.same _
    · cases h; cases r1; cases r2; obtain ⟨t1, rfl⟩ := q1; obtain ⟨t2, rfl⟩ := q2; exact SeqAt.EqAt.int_str _ _ _ _
    · cases h; cases r1; cases r2; obtain ⟨t1, rfl⟩ := q1; obtain ⟨t2, rfl⟩ := q2; exact SeqAt.EqAt.str_int _ _ _ _
    · rename_i xs ys
      by_cases hp : u = v
      · subst hp
        rw [eqN_same (fun a xs ys q q' => I.list_inj (sub.seq q) (sub.seq q')) (n + 1) x _ _ r r1 (by rw [q1.inj q2]; exact r2) h0]
        exact SeqAt.EqAt.same _
      · obtain ⟨p, vs, rfl, e1, t1⟩ := r1.tup_inv
        obtain ⟨p', vs', rfl, e2, t2⟩ := r2.tup_inv
        cases q1
        cases q2
        obtain ⟨its, w1, k1, _⟩ := I.tuple (SqT.of (sub _ _ e1))
        obtain ⟨its', w2, k2, _⟩ := I.tuple (SqT.of (sub _ _ e2))
        obtain ⟨sp1, sp2⟩ := eqL_spec h
        have l1 := t1.length; have l2 := t2.length; have l3 := w1.length; have l4 := w2.length
        refine SeqAt.EqAt.of_refs (fun z => hp (by rw [z])) ?_
        have R := SeqAt.RcAt.tuples (A := A) (s := s) (e := pick (eqN n) xs ys) (show s.heap.IsTuple p its.toArray from k1) (show s.heap.IsTuple p' its'.toArray from k2) (by omega) fun j h1 h2 => by
          simp only [List.size_toArray] at h1 h2
          have g1 : vs[j]? = some (vs[j]'(by omega)) := List.getElem?_eq_getElem _
          have g2 : vs'[j]? = some (vs'[j]'(by omega)) := List.getElem?_eq_getElem _
          have g3 : xs[j]? = some (xs[j]'(by omega)) := List.getElem?_eq_getElem _
          have g4 : ys[j]? = some (ys[j]'(by omega)) := List.getElem?_eq_getElem _
          have g5 : its[j]? = some (its[j]'h1) := List.getElem?_eq_getElem _
          have g6 : its'[j]? = some (its'[j]'h2) := List.getElem?_eq_getElem _
          exact ih A.in1 _ _ _ _ _ _ _ (by show A.units + 1 + n < cLine; omega) (pget j t1 g1 g3) (pget j t2 g2 g4) (pget j w1 g1 g5) (pget j w2 g2 g6) (sp1 j _ _ g3 g4)
        simp only [List.size_toArray] at R
        rw [sp2]
        rw [show min xs.length ys.length = min its.length its'.length by omega, show (xs.length == ys.length) = (its.length == its'.length) by rw [← l1, ← l2, l3, l4]]
        exact R
    · rename_i xs ys
      by_cases hp : u = v
      · subst hp
        rw [eqN_same (fun a xs ys q q' => I.list_inj (sub.seq q) (sub.seq q')) (n + 1) x _ _ r r1 (by rw [q1.inj q2]; exact r2) h0]
        exact SeqAt.EqAt.same _
      · obtain ⟨p, vs, rfl, e1, t1⟩ := r1.lst_inv
        obtain ⟨p', vs', rfl, e2, t2⟩ := r2.lst_inv
        cases q1
        cases q2
        obtain ⟨its, w1, k1, _⟩ := I.list (sub.seq e1)
        obtain ⟨its', w2, k2, _⟩ := I.list (sub.seq e2)
        obtain ⟨sp1, sp2⟩ := eqL_spec h
        have l1 := t1.length; have l2 := t2.length; have l3 := w1.length; have l4 := w2.length
        refine SeqAt.EqAt.of_refs (fun z => hp (by rw [z])) ?_
        by_cases hl : its.length = its'.length
        · have R := SeqAt.RcAt.lists (A := A) (s := s) (e := pick (eqN n) xs ys) k1.isList k2.isList (by simpa using hl) (by omega) fun j h1 h2 => by
            simp only [List.size_toArray] at h1 h2
            have g1 : vs[j]? = some (vs[j]'(by omega)) := List.getElem?_eq_getElem _
            have g2 : vs'[j]? = some (vs'[j]'(by omega)) := List.getElem?_eq_getElem _
            have g3 : xs[j]? = some (xs[j]'(by omega)) := List.getElem?_eq_getElem _
            have g4 : ys[j]? = some (ys[j]'(by omega)) := List.getElem?_eq_getElem _
            have g5 : its[j]? = some (its[j]'h1) := List.getElem?_eq_getElem _
            have g6 : its'[j]? = some (its'[j]'h2) := List.getElem?_eq_getElem _
            exact ih A.in1 _ _ _ _ _ _ _ (by show A.units + 1 + n < cLine; omega) (pget j t1 g1 g3) (pget j t2 g2 g4) (pget j w1 g1 g5) (pget j w2 g2 g6) (sp1 j _ _ g3 g4)
          simp only [List.size_toArray] at R
          rw [sp2, show (xs.length == ys.length) = true by simp; omega, Bool.and_true, show min xs.length ys.length = its.length by omega]
          exact R
        · rw [sp2, show (xs.length == ys.length) = false by simp; omega, Bool.and_false]
          exact SeqAt.RcAt.lists_lengths k1.isList k2.isList (by simp; omega) (by omega)
    · cases h
def dEq (x y : Dat) : Option Dat := (eqN 8 x y).map .bl
def dNe (x y : Dat) : Option Dat := (eqN 8 x y).map fun r => .bl (!r)
theorem rc_D {pins : List (Addr × Obj)} {σ : St} {H F : Hp} {s : Shared} (I : Inv X pins σ H s) (sub : Same F H) (hu : X.A.units + 64 < cLine) {x y : V} {da db : Dat} {u v : Value} {r : Bool} (r1 : Rep X.K cl F x da) (r2 : Rep X.K cl F y db) (q1 : RelV x u) (q2 : RelV y v) (h : eqN 8 da db = some r) :
    SeqAt.RcAt X.A s u v r ∧ SeqAt.RcNeAt X.A s u v (!r) := by
  unfold eqN eqS at h
  split at h
  · cases h; cases r1; cases r2; obtain ⟨t1, rfl⟩ := q1; obtain ⟨t2, rfl⟩ := q2; exact ⟨SeqAt.RcAt.int_int _ _ _ _, SeqAt.RcNeAt.int_int _ _ _ _⟩
  · cases h; cases r1; cases r2; obtain ⟨t1, rfl⟩ := q1; obtain ⟨t2, rfl⟩ := q2; exact ⟨SeqAt.RcAt.str_str _ _ _ _, SeqAt.RcNeAt.str_str _ _ _ _⟩
  · cases h; cases r1; cases r2; cases q1; cases q2; exact ⟨SeqAt.RcAt.bool_bool _ _, SeqAt.RcNeAt.bool_bool _ _⟩
  · cases h; cases r1; cases r2; cases q1; cases q2; exact ⟨SeqAt.RcAt.none_none, SeqAt.RcNeAt.none_none⟩
  · cases h; cases r1; cases r2; obtain ⟨t1, rfl⟩ := q1; obtain ⟨t2, rfl⟩ := q2; exact ⟨SeqAt.RcAt.int_str _ _ _ _, SeqAt.RcNeAt.int_str _ _ _ _⟩
  · cases h; cases r1; cases r2; obtain ⟨t1, rfl⟩ := q1; obtain ⟨t2, rfl⟩ := q2; exact ⟨SeqAt.RcAt.str_int _ _ _ _, SeqAt.RcNeAt.str_int _ _ _ _⟩
  · rename_i xs ys
    obtain ⟨p, vs, rfl, e1, t1⟩ := r1.tup_inv
    obtain ⟨p', vs', rfl, e2, t2⟩ := r2.tup_inv
    cases q1
    cases q2
    obtain ⟨its, w1, k1, _⟩ := I.tuple (SqT.of (sub _ _ e1))
    obtain ⟨its', w2, k2, _⟩ := I.tuple (SqT.of (sub _ _ e2))
    obtain ⟨sp1, sp2⟩ := eqL_spec h
    have l1 := t1.length; have l2 := t2.length; have l3 := w1.length; have l4 := w2.length
    have E : ∀ (j : Nat) (h1 : j < its.toArray.size) (h2 : j < its'.toArray.size), SeqAt.EqAt X.A.in1 s its.toArray[j] its'.toArray[j] (pick (eqN 7) xs ys j) := fun j h1 h2 => by
      simp only [List.size_toArray] at h1 h2
      have g1 : vs[j]? = some (vs[j]'(by omega)) := List.getElem?_eq_getElem _
      have g2 : vs'[j]? = some (vs'[j]'(by omega)) := List.getElem?_eq_getElem _
      have g3 : xs[j]? = some (xs[j]'(by omega)) := List.getElem?_eq_getElem _
      have g4 : ys[j]? = some (ys[j]'(by omega)) := List.getElem?_eq_getElem _
      have g5 : its[j]? = some (its[j]'h1) := List.getElem?_eq_getElem _
      have g6 : its'[j]? = some (its'[j]'h2) := List.getElem?_eq_getElem _
      exact eqAt_D I sub 7 X.A.in1 _ _ _ _ _ _ _ (by show X.A.units + 1 + 7 < cLine; omega) (pget j t1 g1 g3) (pget j t2 g2 g4) (pget j w1 g1 g5) (pget j w2 g2 g6) (sp1 j _ _ g3 g4)
    have R := SeqAt.RcAt.tuples (A := X.A) (s := s) (show s.heap.IsTuple p its.toArray from k1) (show s.heap.IsTuple p' its'.toArray from k2) (by omega) E
    have R' := SeqAt.RcNeAt.tuples (A := X.A) (s := s) (show s.heap.IsTuple p its.toArray from k1) (show s.heap.IsTuple p' its'.toArray from k2) (by omega) E
    simp only [List.size_toArray] at R R'
    have er : r = ((List.range (min its.length its'.length)).all (pick (eqN 7) xs ys) && its.length == its'.length) := by
      rw [sp2, show min xs.length ys.length = min its.length its'.length by omega, show (xs.length == ys.length) = (its.length == its'.length) by rw [← l1, ← l2, l3, l4]]
    rw [er]
    exact ⟨R, R'⟩
  · rename_i xs ys
    obtain ⟨p, vs, rfl, e1, t1⟩ := r1.lst_inv
    obtain ⟨p', vs', rfl, e2, t2⟩ := r2.lst_inv
    cases q1
    cases q2
    obtain ⟨its, w1, k1, _⟩ := I.list (sub.seq e1)
    obtain ⟨its', w2, k2, _⟩ := I.list (sub.seq e2)
    obtain ⟨sp1, sp2⟩ := eqL_spec h
    have l1 := t1.length; have l2 := t2.length; have l3 := w1.length; have l4 := w2.length
    by_cases hl : its.length = its'.length
    · have E : ∀ (j : Nat) (h1 : j < its.toArray.size) (h2 : j < its'.toArray.size), SeqAt.EqAt X.A.in1 s its.toArray[j] its'.toArray[j] (pick (eqN 7) xs ys j) := fun j h1 h2 => by
        simp only [List.size_toArray] at h1 h2
        have g1 : vs[j]? = some (vs[j]'(by omega)) := List.getElem?_eq_getElem _
        have g2 : vs'[j]? = some (vs'[j]'(by omega)) := List.getElem?_eq_getElem _
        have g3 : xs[j]? = some (xs[j]'(by omega)) := List.getElem?_eq_getElem _
        have g4 : ys[j]? = some (ys[j]'(by omega)) := List.getElem?_eq_getElem _
        have g5 : its[j]? = some (its[j]'h1) := List.getElem?_eq_getElem _
        have g6 : its'[j]? = some (its'[j]'h2) := List.getElem?_eq_getElem _
        exact eqAt_D I sub 7 X.A.in1 _ _ _ _ _ _ _ (by show X.A.units + 1 + 7 < cLine; omega) (pget j t1 g1 g3) (pget j t2 g2 g4) (pget j w1 g1 g5) (pget j w2 g2 g6) (sp1 j _ _ g3 g4)
      have R := SeqAt.RcAt.lists (A := X.A) (s := s) k1.isList k2.isList (by simpa using hl) (by omega) E
      have R' := SeqAt.RcNeAt.lists (A := X.A) (s := s) k1.isList k2.isList (by simpa using hl) (by omega) E
      simp only [List.size_toArray] at R R'
      have er : r = (List.range its.length).all (pick (eqN 7) xs ys) := by
        rw [sp2, show (xs.length == ys.length) = true by simp; omega, Bool.and_true, show min xs.length ys.length = its.length by omega]
      rw [er]
      exact ⟨R, R'⟩
    · have er : r = false := by rw [sp2, show (xs.length == ys.length) = false by simp; omega, Bool.and_false]
      rw [er]
      exact ⟨SeqAt.RcAt.lists_lengths k1.isList k2.isList (by simp; omega) (by omega), SeqAt.RcNeAt.lists_lengths k1.isList k2.isList (by simp; omega) (by omega)⟩
  · cases h
def rEqD (K : PySem.W.Frag) (cl : Nat → Addr) : R2 := fun x y H Q => ∃ F da db r, Same F H ∧ Rep K cl F x da ∧ Rep K cl F y db ∧ eqN 8 da db = some r ∧ Q (.bl r) H
def rNeD (K : PySem.W.Frag) (cl : Nat → Addr) : R2 := fun x y H Q => ∃ F da db r, Same F H ∧ Rep K cl F x da ∧ Rep K cl F y db ∧ eqN 8 da db = some r ∧ Q (.bl (!r)) H
theorem op_eqD (hu : X.A.units + 64 < cLine) : OpR X (compareOp .Eq) (rEqD X.K cl) := fun pins s σ H x y v u Q I rx ry h => by
  obtain ⟨F, da, db, r, sub, r1, r2, he, q⟩ := h
  exact (rc_D I sub hu r1 r2 rx ry he).1 _ _ _ _ ⟨.bl r, H, I, rfl, q⟩
theorem op_neD (hu : X.A.units + 64 < cLine) : OpR X (compareOp .NotEq) (rNeD X.K cl) := fun pins s σ H x y v u Q I rx ry h => by
  obtain ⟨F, da, db, r, sub, r1, r2, he, q⟩ := h
  exact (rc_D I sub hu r1 r2 rx ry he).2 _ _ _ _ ⟨.bl (!r), H, I, rfl, q⟩
theorem opd_eq {K : PySem.W.Frag} : OpD K cl (rEqD K cl) dEq := fun F H x y da db d Q hg s rx ry k => by
  unfold dEq at hg
  cases he : eqN 8 da db with
  | none => rw [he] at hg; cases hg
  | some r => rw [he] at hg; cases hg; exact ⟨F, da, db, r, s, rx, ry, he, k.here s (.bl r)⟩
theorem opd_ne {K : PySem.W.Frag} : OpD K cl (rNeD K cl) dNe := fun F H x y da db d Q hg s rx ry k => by
  unfold dNe at hg
  cases he : eqN 8 da db with
  | none => rw [he] at hg; cases hg
  | some r => rw [he] at hg; cases hg; exact ⟨F, da, db, r, s, rx, ry, he, k.here s (.bl (!r))⟩
theorem pp_eq (hu : X.A.units + 64 < cLine) (ha : PP cl X a fa) (hb : PP cl X b fb) : PP cl X (.Compare a [.Eq] [b] pos) (e2 dEq fa fb) := pp_cmp (op_eqD hu) opd_eq ha hb (nomark _)
theorem pp_ne (hu : X.A.units + 64 < cLine) (ha : PP cl X a fa) (hb : PP cl X b fb) : PP cl X (.Compare a [.NotEq] [b] pos) (e2 dNe fa fb) := pp_cmp (op_neD hu) opd_ne ha hb (nomark _)
theorem ppt_eq (hu : X.A.units + 64 < cLine) (ha : PP cl X a fa) (hb : PP cl X b fb) : PPT cl X (.Compare a [.Eq] [b] pos) (b1 (e2 dEq fa fb)) := ppt_cmp (op_eqD hu) opd_eq ha hb (nomark _)
theorem ppt_ne (hu : X.A.units + 64 < cLine) (ha : PP cl X a fa) (hb : PP cl X b fb) : PPT cl X (.Compare a [.NotEq] [b] pos) (b1 (e2 dNe fa fb)) := ppt_cmp (op_neD hu) opd_ne ha hb (nomark _)
theorem ppt_lt (ha : PP cl X a fa) (hb : PP cl X b fb) : PPT cl X (.Compare a [.Lt] [b] pos) (b1 (e2 dLt fa fb)) := ppt_cmp op_lt (opd_I0 fun _ _ _ => .bl _) ha hb (nomark _)
theorem ppt_gt (ha : PP cl X a fa) (hb : PP cl X b fb) : PPT cl X (.Compare a [.Gt] [b] pos) (b1 (e2 dGt fa fb)) := ppt_cmp op_gt (opd_I0 fun _ _ _ => .bl _) ha hb (nomark _)
end
end MB
namespace MB
open PySem PySem.Spec PyProof.Rows L2
section
variable {cl : Nat → Addr} {X : Cx} {e a b c : Expr} {es : List Expr} {fa fb fc : FE} {fl : FA} {pos p : Pos} {i : Nat} {x : Str}
def dLenB : List Dat → Option Dat
  | [.lst xs] => some (.int (xs.length : Nat))
  | [.tup xs] => some (.int (xs.length : Nat))
  | [.str x] => if x.length ≤ sizeLine then some (.int (x.length : Nat)) else none
  | [.dK kvs] => some (.int (kvs.length : Nat))
  | _ => none
theorem one_inv {K : PySem.W.Frag} {F : Hp} {vs : List V} {d : Dat} (r : RepL K cl F vs [d]) : ∃ v, vs = [v] ∧ Rep K cl F v d := by
  cases r with
  | cons r t => cases t; exact ⟨_, rfl, r⟩
theorem pp_len (hg : Gl X "len") (hm : X.mg "len" = none) (ha : PPA cl X [e] fl) (he : starEach [e] X.env = (false, eval e X.env) :: starEach [] X.env := by rfl) : PP cl X (.Call (.Name "len" p) [e] [] pos) (eB dLenB fl) := by
  refine pp_callB (call_len.or call_lenD) (fun F H vs ds d Q h s r k => ?_) hg hm PySem.boot_len ha (he := he)
  unfold dLenB at h
  split at h
  · obtain ⟨v, rfl, r0⟩ := one_inv r
    cases h
    obtain ⟨a, ws, rfl, q, t⟩ := r0.lst_inv
    exact .inl ⟨_, _, rfl, .inl ⟨ws, s.seq q, rfl⟩, by rw [t.length]; exact k.here s (.int _)⟩
  · obtain ⟨v, rfl, r0⟩ := one_inv r
    cases h
    obtain ⟨a, ws, rfl, q, t⟩ := r0.tup_inv
    exact .inl ⟨_, _, rfl, .inr ⟨ws, SqT.of (s _ _ q), rfl⟩, by rw [t.length]; exact k.here s (.int _)⟩
  · split at h
    · rename_i hl
      obtain ⟨v, rfl, r0⟩ := one_inv r
      cases h
      rw [r0.str_inv]
      exact .inl ⟨_, _, rfl, ⟨hl, rfl⟩, k.here s (.int _)⟩
    · cases h
  · obtain ⟨v, rfl, r0⟩ := one_inv r
    cases h
    obtain ⟨a, ws, rfl, q, t⟩ := r0.dK_inv
    exact .inr ⟨_, _, rfl, s _ _ q, by rw [t.length]; exact k.here s (.int _)⟩
  · cases h
def dListB : List Dat → Option Dat
  | [.lst xs] => some (.lst xs)
  | [.tup xs] => some (.lst xs)
  | _ => none
theorem pp_listc (hg : Gl X "list") (hm : X.mg "list" = none) (ha : PPA cl X [e] fl) (he : starEach [e] X.env = (false, eval e X.env) :: starEach [] X.env := by rfl) : PP cl X (.Call (.Name "list" p) [e] [] pos) (eB dListB fl) := by
  refine pp_callTy call_list_of (fun F H vs ds d Q h s r k => ?_) hg hm (by decide +kernel) ha (he := he)
  unfold dListB at h
  split at h
  · obtain ⟨v, rfl, r0⟩ := one_inv r
    cases h
    obtain ⟨a, ws, rfl, q, t⟩ := r0.lst_inv
    exact ⟨a, ws, rfl, .inl (s.seq q), fun l hl => k.new s hl (.lst' (SqL.of upd_same) (t.mono (same_upd (none_of s hl))))⟩
  · obtain ⟨v, rfl, r0⟩ := one_inv r
    cases h
    obtain ⟨a, ws, rfl, q, t⟩ := r0.tup_inv
    exact ⟨a, ws, rfl, .inr (SqT.of (s _ _ q)), fun l hl => k.new s hl (.lst' (SqL.of upd_same) (t.mono (same_upd (none_of s hl))))⟩
  · cases h
theorem old_keep {s : Shared} {l : Addr} {h' : Heap} (hk : ∀ b o, b ∉ [s.heap.objs.size] → (s.heap.push { cls := .type "list_iterator", data := .fields #[.ref l, .int 0 0] }).get? b = some o → h'.get? b = some o) :
    ∀ b o, s.heap.get? b = some o → h'.get? b = some o := fun b o e => by
  refine hk b o (fun hm => ?_) (Heap.get?_push_of_some _ e)
  rcases List.mem_cons.mp hm with e1 | hm
  · exact absurd (e1 ▸ Heap.lt_size e) (Nat.lt_irrefl _)
  · cases hm
def blsD : List Dat → Option (List Bool)
  | [] => some []
  | .bl i :: r => (blsD r).bind fun is => some (i :: is)
  | _ :: _ => none
theorem blsD_map (ns : List Bool) : blsD (ns.map .bl) = some ns := by
  induction ns with
  | nil => rfl
  | cons n r ih => rw [List.map_cons]; unfold blsD; rw [ih]; rfl
theorem blsD_inv : ∀ {ds : List Dat} {ns : List Bool}, blsD ds = some ns → ds = ns.map .bl
  | [], ns, h => by cases h; rfl
  | .bl i :: r, ns, h => by
    unfold blsD at h
    cases hr : blsD r with
    | none => rw [hr] at h; cases h
    | some is => rw [hr] at h; cases h; rw [blsD_inv hr]; rfl
  | .non :: _, ns, h => by cases h
  | .int _ :: _, ns, h => by cases h
  | .str _ :: _, ns, h => by cases h
  | .tup _ :: _, ns, h => by cases h
  | .lst _ :: _, ns, h => by cases h
  | .dK _ :: _, ns, h => by cases h
  | .dT _ :: _, ns, h => by cases h
  | .obj _ _ :: _, ns, h => by cases h
  | .bad _ :: _, ns, h => by cases h
theorem repL_bls {K : PySem.W.Frag} {F : Hp} : ∀ {ns : List Bool} {vs : List V}, RepL K cl F vs (ns.map .bl) → vs = ns.map V.bl
  | [], _, .nil => rfl
  | n :: ns, _, .cons r t => by rw [r.bl_inv, repL_bls t]; rfl
def dAllB : List Dat → Option Dat
  | [.lst xs] => (blsD xs).bind fun ns => some (.bl (ns.all fun b => b))
  | _ => none
theorem valsb_at {ns : List Bool} {its : List Value} (r : Vals (ns.map V.bl) its) {i : Nat} {v : Value} (h : its.toArray[i]? = some v) : v = .bool (ns.getD i false) := by
  have h' : its[i]? = some v := by simpa using h
  have hl := r.length
  rw [List.length_map] at hl
  have hi : i < its.length := (List.getElem?_eq_some_iff.mp h').1
  have hn : ns[i]? = some (ns[i]'(by omega)) := List.getElem?_eq_getElem _
  have hx : (ns.map V.bl)[i]? = some (.bl (ns[i]'(by omega))) := by rw [List.getElem?_map, hn]; rfl
  have ht : v = .bool (ns[i]'(by omega)) := (show RelV (.bl (ns[i]'(by omega))) v from pget i r hx h')
  rw [ht, List.getD_eq_getElem?_getD, hn]
  rfl
theorem all_range (ns : List Bool) : (List.range ns.length).all (fun i => ns.getD i false) = ns.all fun b => b := by
  rw [Bool.eq_iff_iff, List.all_eq_true, List.all_eq_true]
  constructor
  · intro h b hb
    obtain ⟨i, hi, e⟩ := List.getElem_of_mem hb
    have := h i (List.mem_range.mpr hi)
    rw [List.getD_eq_getElem?_getD, List.getElem?_eq_getElem hi] at this
    rw [← e]
    exact this
  · intro h i hi
    have hi' := List.mem_range.mp hi
    rw [List.getD_eq_getElem?_getD, List.getElem?_eq_getElem hi']
    exact h _ (List.getElem_mem hi')
theorem call_all1 (hc : X.calm = true) : CallR X (.builtin "all") (fun xs H Q => ∃ (a : Addr) (ns : List Bool), xs = [.ref a] ∧ SqL X.K H a (ns.map V.bl) ∧ Q (.bl (ns.all fun b => b)) H) := fun pins s σ H xs us Q I r h => by
  obtain ⟨a, ns, rfl, hq, q⟩ := h
  obtain ⟨u, rfl, ru⟩ := vals1 r
  cases ru
  obtain ⟨its, rv, pl, hz⟩ := I.list hq
  have hl := rv.length
  rw [List.length_map] at hl
  have hne : a ≠ s.heap.objs.size := by
    obtain ⟨o, n, e, _⟩ := pl
    exact Nat.ne_of_lt (Heap.lt_size e)
  refine call_all_walk (wpAny_pyIter_list pl.isList ⟨s.heap.objs.size, [s.heap.objs.size, a], [s.heap.objs.size], its.toArray.size, _, _, fun i => ns.getD i false, rfl, Walks.list (A := X.A.in1) (I.ok.hd hc) _ a hne its.toArray, ⟨⟨_, Heap.get?_push_size _ rfl, rfl, rfl⟩, Heap.IsList.push pl.isList _⟩,
    fun i v s' Q' E' hP hQ => ?_, fun h' tk hk => ?_⟩)
  · rw [valsb_at rv hP]; exact wpAny_truthy_bool hQ
  · refine ⟨.bl (ns.all fun b => b), H, I.kept (old_keep hk), ?_, q⟩
    have e1 : its.toArray.size = ns.length := by simp; omega
    rw [e1, all_range]
    rfl
theorem pp_all (hg : Gl X "all") (hm : X.mg "all" = none) (ha : PPA cl X [e] fl) (hc : X.calm = true := by rfl) (he : starEach [e] X.env = (false, eval e X.env) :: starEach [] X.env := by rfl) : PP cl X (.Call (.Name "all" p) [e] [] pos) (eB dAllB fl) := by
  refine pp_callB (call_all1 hc) (fun F H vs ds d Q h s r k => ?_) hg hm (by decide +kernel) ha (he := he)
  unfold dAllB at h
  split at h
  · rename_i xs
    obtain ⟨v, rfl, r0⟩ := one_inv r
    cases hi : blsD xs with
    | none => rw [hi] at h; cases h
    | some ns =>
      rw [hi] at h
      cases h
      rw [blsD_inv hi] at r0
      obtain ⟨a, ws, rfl, q, t⟩ := r0.lst_inv
      rw [repL_bls t] at q
      exact ⟨a, ns, rfl, s.seq q, k.here s (.bl _)⟩
  · cases h
def dIntB : List Dat → Option Dat
  | [.int i] => some (.int i)
  | [.bl b] => some (.int (if b then 1 else 0))
  | [.str x] => match PySem.intText? x with | some n => if x.length ≤ 640 then some (.int n) else none | none => none
  | _ => none
theorem call_intT : CallR X (.type "int") (fun xs H Q => ∃ x n, xs = [.str x] ∧ PySem.intText? x = some n ∧ x.length ≤ 640 ∧ Q (.int n) H) := fun pins s σ H xs us Q I r h => by
  obtain ⟨x, n, rfl, h1, h2, q⟩ := h
  obtain ⟨u, rfl, ru⟩ := vals1 r
  obtain ⟨t, rfl⟩ := ru
  exact PySem.W.KIN.call_text h1 h2 ⟨.int n, H, I.tok _, ⟨_, rfl⟩, q⟩
theorem pp_intc (hg : Gl X "int") (hm : X.mg "int" = none) (ha : PPA cl X [e] fl) (he : starEach [e] X.env = (false, eval e X.env) :: starEach [] X.env := by rfl) : PP cl X (.Call (.Name "int" p) [e] [] pos) (eB dIntB fl) := by
  refine pp_callTy (call_int1.or call_intT) (fun F H vs ds d Q h s r k => ?_) hg hm (by decide +kernel) ha (he := he)
  unfold dIntB at h
  split at h
  · cases h
    obtain ⟨v, rfl, r0⟩ := one_inv r
    rw [r0.int_inv]
    exact .inl (.inl ⟨_, rfl, k.here s (.int _)⟩)
  · cases h
    obtain ⟨v, rfl, r0⟩ := one_inv r
    rw [r0.bl_inv]
    exact .inl (.inr ⟨_, rfl, k.here s (.int _)⟩)
  · obtain ⟨v, rfl, r0⟩ := one_inv r
    split at h
    · rename_i n hn
      split at h
      · rename_i hl
        cases h
        rw [r0.str_inv]
        exact .inr ⟨_, _, rfl, hn, hl, k.here s (.int _)⟩
      · cases h
    · cases h
  · cases h
def cutD (xs : List Dat) (lo hi : Option Int) : List Dat := (xs.drop (HT.sIx xs.length 0 lo)).take (HT.sIx xs.length xs.length hi - HT.sIx xs.length 0 lo)
theorem cut_rep {K : PySem.W.Frag} {F : Hp} {vs : List V} {ds : List Dat} (r : RepL K cl F vs ds) (lo hi : Option Int) : RepL K cl F (cutV vs lo hi) (cutD ds lo hi) := by
  unfold cutV cutD
  rw [r.length]
  exact ptake _ (pdrop _ r)
abbrev FO := Sto → Option (Option Int)
def tPO (K : PySem.W.Frag) (cl : Nat → Addr) (f : FO) : TO := fun σ H Q => ∃ δ F ω o, f δ = some o ∧ ER K cl F H ω σ δ ∧ ∀ H' F', Same H H' → Same F' H' → Grow F H F' → Q o H'
def PPO (cl : Nat → Addr) (X : Cx) (e : Option Expr) (f : FO) : Prop := PO X e (tPO X.K cl f)
def oN : FO := fun _ => some none
def oS (f : FE) : FO := fun δ => match f δ with | some (.int i) => some (some i) | _ => none
theorem ppo_none : PPO cl X none oN := fun pins s σ H Q I h => by
  obtain ⟨δ, F, ω, o, hf, er, k⟩ := h
  obtain rfl := Option.some.inj hf
  exact po_none pins s σ H Q I (k H F (Same.refl _) er.sub Grow.refl)
theorem ppo_some (h : PP cl X e fa) : PPO cl X (some e) (oS fa) := fun pins s σ H Q I hw => by
  obtain ⟨δ, F, ω, o, hf, er, k⟩ := hw
  unfold oS at hf
  split at hf
  · rename_i i e1
    cases hf
    exact po_some h pins s σ H Q I ⟨δ, F, ω, _, e1, er, fun v H' F' s1 s1' g r => ⟨i, r.int_inv, k H' F' s1 s1' g⟩⟩
  · cases hf
def dSl (d : Dat) (lo hi : Option Int) : Option Dat := match d with
  | .lst xs => some (.lst (cutD xs lo hi))
  | .tup xs => if HT.sIx xs.length 0 lo = 0 ∧ HT.sIx xs.length xs.length hi = xs.length then none else some (.tup (cutD xs lo hi))
  | _ => none
def eSl (fa : FE) (l h : FO) : FE := fun δ => (fa δ).bind fun d => (l δ).bind fun lo => (h δ).bind fun hi => dSl d lo hi
theorem pp_sl {lo hi : Option Expr} {fl fh : FO} {p2 : Pos} (ha : PP cl X a fa) (hl : PPO cl X lo fl) (hh : PPO cl X hi fh) : PP cl X (.Subscript a (.Slice lo hi none p2) pos) (eSl fa fl fh) := fun pins s σ H Q I h => by
  obtain ⟨δ, F, ω, d, hf, er, k⟩ := h
  unfold eSl at hf
  cases hx : fa δ with
  | none => rw [hx] at hf; cases hf
  | some x =>
    cases hy : fl δ with
    | none => rw [hx, hy] at hf; cases hf
    | some lo' =>
      cases hz : fh δ with
      | none => rw [hx, hy, hz] at hf; cases hf
      | some hi' =>
        rw [hx, hy, hz] at hf
        simp only [Option.bind_some] at hf
        have R : ∀ (r : V → Option Int → Option Int → Hp → VK → Prop), SlR X r → (∀ v H3 F3, Same H H3 → Same F3 H3 → Grow F H F3 → Rep X.K cl F3 v x → r v lo' hi' H3 Q) → wpAny (model X.prog X.w) X.A (eval (.Subscript a (.Slice lo hi none p2) pos) X.env) (EP X pins σ Q) X.xe s := fun r hr hq =>
          pe_slice hr ha hl hh pins s σ H Q I ⟨δ, F, ω, x, hx, er, fun v H1 F1 s1 s1' g1 r1 => ⟨δ, F1, ω, lo', hy, er.grow s1 s1' g1, fun H2 F2 s2 s2' g2 => ⟨δ, F2, ω, hi', hz, (er.grow s1 s1' g1).grow s2 s2' g2, fun H3 F3 s3 s3' g3 =>
            hq v H3 F3 ((s1.trans s2).trans s3) s3' ((g1.trans s1 g2).trans (s1.trans s2) g3) ((r1.mono g2.1).mono g3.1)⟩⟩⟩
        unfold dSl at hf
        split at hf
        · cases hf
          refine R _ sl_list fun v H3 F3 s3 s3' g3 r3 => ?_
          obtain ⟨p, vs, rfl, q1, r1⟩ := r3.lst_inv
          exact ⟨p, vs, rfl, s3'.seq q1, fun z hz => (k.step s3 g3).new s3' hz (.lst' (SqL.of upd_same) ((cut_rep r1 lo' hi').mono (same_upd (none_of s3' hz))))⟩
        · split at hf
          · cases hf
          · rename_i hn
            cases hf
            refine R _ sl_tup fun v H3 F3 s3 s3' g3 r3 => ?_
            obtain ⟨p, vs, rfl, q1, r1⟩ := r3.tup_inv
            exact ⟨p, vs, rfl, SqT.of (s3' _ _ q1), by rw [r1.length]; exact hn, fun z hz => (k.step s3 g3).new s3' hz (.tup' upd_same ((cut_rep r1 lo' hi').mono (same_upd (none_of s3' hz))))⟩
        · cases hf
end
end MB
namespace MB
open PySem PySem.Spec PyProof.Rows L2
section
variable {cl : Nat → Addr} {X : Cx} {e a b c : Expr} {es : List Expr} {fa fb fc fk fv : FE} {fl : FA} {pos pos' p : Pos} {i : Nat} {x : Str}
structure Cal (P : Program) (w : World) (K : PySem.W.Frag) (mg : Str → Option Value) (base : Heap) (cl : Nat → Addr) (x : Str) (k : Nat) (ps : List Str) (fn : List Dat → Option Dat) : Prop where
  ex : ∃ f fd, FnOk P w K mg base CX0 k f fd ps (spD K cl ps.length fn) ∧ mg x = some (.ref f) ∧ PySem.W.keepIn K (.ref f) = true ∧ L2.Binds K fd ps []
theorem pp_callC {k j n : Nat} {ps : List Str} {fn : List Dat → Option Dat} (C : Cal X.prog X.w X.K X.mg X.base cl x k ps fn) (hr : Room j X.A) (hg : Gl X x) (ha : PPA cl X (e :: es) fl) (hj : k ≤ j := by decide) (hn : ps.length = n := by rfl) (hx : Passes CX0 X E0 := by exact pass0)
    (hdb : (x == ("__debug__" : Str)) = false := by decide +kernel) (he : starEach (e :: es) X.env = (false, eval e X.env) :: starEach es X.env := by rfl) (hpl : (backTo pos (starEach es X.env)).any (·.1) = false := by rfl) :
    PP cl X (.Call (.Name x p) (e :: es) [] pos) (eCall n fn fl) := by
  obtain ⟨f, fd, h1, h2, h3, h4⟩ := C.ex
  subst hn
  exact pp_call h1 (hr.mono hj) hg h2 h3 h4 hx ha hdb he hpl
def flatD : Dat → Bool
  | .non => true
  | .bl _ => true
  | .int _ => true
  | .str _ => true
  | _ => false
def eqFD : Dat → Dat → Bool
  | .non, .non => true
  | .bl a, .bl b => a == b
  | .bl a, .int b => (if a then 1 else 0) == b
  | .int a, .bl b => a == (if b then 1 else 0)
  | .int a, .int b => a == b
  | .str a, .str b => a == b
  | _, _ => false
theorem flat_rep {K : PySem.W.Frag} {F : Hp} {v : V} {d : Dat} (r : Rep K cl F v d) (h : flatD d = true) : flatV v = true := by
  cases r <;> first | rfl | cases h
theorem eqF_rep {K : PySem.W.Frag} {F : Hp} {v w : V} {d d' : Dat} (r : Rep K cl F v d) (r' : Rep K cl F w d') (h : flatD d = true) (h' : flatD d' = true) : eqV v w = eqFD d d' := by
  cases r <;> first | (cases h; done) | (cases r' <;> first | rfl | (cases h'; done))
theorem flats_rep {K : PySem.W.Frag} {F : Hp} : ∀ {vs : List V} {ds : List Dat}, RepL K cl F vs ds → ds.all flatD = true → vs.all flatV = true
  | _, _, .nil, _ => rfl
  | _, _, .cons r t, h => by
    rw [List.all_cons, Bool.and_eq_true] at h
    rw [List.all_cons, flat_rep r h.1, flats_rep t h.2]
    rfl
theorem inV_rep {K : PySem.W.Frag} {F : Hp} {v : V} {d : Dat} (r : Rep K cl F v d) (h : flatD d = true) : ∀ {vs : List V} {ds : List Dat}, RepL K cl F vs ds → ds.all flatD = true → inV v vs = ds.any fun y => eqFD y d
  | _, _, .nil, _ => rfl
  | _, _, .cons r' t, h' => by
    rw [List.all_cons, Bool.and_eq_true] at h'
    have := inV_rep r h t h'.2
    unfold inV at this ⊢
    rw [List.any_cons, List.any_cons, eqF_rep r' r h'.1 h, this]
def inD (x : Dat) (xs : List Dat) : Option Bool := if flatD x = true ∧ xs.all flatD = true then some (xs.any fun y => eqFD y x) else none
def hasK (kvs : List (Key × Dat)) (x : Dat) : Option Bool := (keyD x).bind fun k => some (lookD kvs k).isSome
def hasT (kvs : List (List Key × Dat)) (x : Dat) : Option Bool := match x with | .tup ys => (keysD ys).bind fun ks => some (lookD kvs ks).isSome | _ => none
def hasD (x y : Dat) : Option Bool := match y with
  | .lst xs => inD x xs
  | .tup xs => inD x xs
  | .dK kvs => hasK kvs x
  | .dT kvs => hasT kvs x
  | .str t => (match x with | .str z => some (!(Builtin.Str.occurrences t z 0 t.length 1).isEmpty) | _ => none)
  | _ => none
def dIn (x y : Dat) : Option Dat := (hasD x y).bind fun r => some (.bl r)
theorem pc_op {op : CmpOp} {r : R2} {ta tb : TE} (ho : OpR X (compareOp op) r) (ha : PE X a ta) (hb : PE X b tb) : PC X op a b (tOp r ta tb) := fun pins s σ H Q I h =>
  binT ha hb I h fun v u s2 x y H2 I2 rx ry q => ho pins s2 σ H2 x y v u Q I2 rx ry q
theorem dget_rep {K : PySem.W.Frag} {F H : Hp} {p : Addr} {ws : List (Key × V)} {kvs : List (Key × Dat)} {v : V} {x : Dat} {r : Bool} (hH : H p = some (.dK ws)) (t : RepK K cl F ws kvs) (rx : Rep K cl F v x) (h : hasK kvs x = some r) : ∃ o, DGet H p v o ∧ o.isSome = r := by
  unfold hasK at h
  cases hk : keyD x with
  | none => rw [hk] at h; cases h
  | some k =>
    rw [hk] at h
    have hr : (lookD kvs k).isSome = r := Option.some.inj h
    rw [keyD_rep rx hk]
    refine ⟨valV ws k, DGet.k hH, ?_⟩
    rcases repK_look t k with ⟨h1, h2⟩ | ⟨v', d', h1, h2, _⟩
    · rw [h1, ← hr, h2]; rfl
    · rw [h1, ← hr, h2]; rfl
theorem dgetT_rep {K : PySem.W.Frag} {F H : Hp} {p : Addr} {ws : List (List Key × V)} {kvs : List (List Key × Dat)} {v : V} {x : Dat} {r : Bool} (sub : Same F H) (hH : H p = some (.dT ws)) (t : RepK K cl F ws kvs) (rx : Rep K cl F v x) (h : hasT kvs x = some r) : ∃ o, DGet H p v o ∧ o.isSome = r := by
  unfold hasT at h
  split at h
  · rename_i ys
    cases hk : keysD ys with
    | none => rw [hk] at h; cases h
    | some ks =>
      rw [hk] at h
      have hr : (lookD kvs ks).isSome = r := Option.some.inj h
      obtain ⟨p', vs, rfl, q2, r2⟩ := rx.tup_inv
      have eb := sub _ _ q2
      rw [keysD_rep r2 hk] at eb
      refine ⟨valV ws ks, DGet.t hH eb, ?_⟩
      rcases repK_look t ks with ⟨h1, h2⟩ | ⟨v', d', h1, h2, _⟩
      · rw [h1, ← hr, h2]; rfl
      · rw [h1, ← hr, h2]; rfl
  · cases h
theorem pc_in (hu : X.A.units + 1 < cLine) (ha : PP cl X a fa) (hb : PP cl X b fb) : PC X .In a b (tP X.K cl (e2 dIn fa fb)) := fun pins s σ H Q I h => by
  obtain ⟨δ, F, ω, d, hf, er, k⟩ := h
  obtain ⟨x, y, hx, hy, hg⟩ := e2_some hf
  unfold dIn at hg
  cases hh : hasD x y with
  | none => rw [hh] at hg; cases hg
  | some r =>
    rw [hh] at hg
    obtain rfl := Option.some.inj hg
    unfold hasD at hh
    cases y with
    | lst xs =>
      dsimp only at hh
      unfold inD at hh
      split at hh
      · rename_i c
        cases hh
        refine pc_op op_in_seq ha hb pins s σ H Q I (tP2 hx hy er fun vx vy H2 F2 s1 g1 er2 rx ry => ?_)
        obtain ⟨p, vs, rfl, q1, r1⟩ := ry.lst_inv
        exact ⟨p, vs, rfl, .inl (er2.sub.seq q1), flat_rep rx c.1, flats_rep r1 c.2, by rw [if_neg Bool.false_ne_true, inV_rep rx c.1 r1 c.2]; exact (k.step s1 g1).here er2.sub (.bl _)⟩
      · cases hh
    | tup xs =>
      dsimp only at hh
      unfold inD at hh
      split at hh
      · rename_i c
        cases hh
        refine pc_op op_in_seq ha hb pins s σ H Q I (tP2 hx hy er fun vx vy H2 F2 s1 g1 er2 rx ry => ?_)
        obtain ⟨p, vs, rfl, q1, r1⟩ := ry.tup_inv
        exact ⟨p, vs, rfl, .inr (SqT.of (er2.sub _ _ q1)), flat_rep rx c.1, flats_rep r1 c.2, by rw [if_neg Bool.false_ne_true, inV_rep rx c.1 r1 c.2]; exact (k.step s1 g1).here er2.sub (.bl _)⟩
      · cases hh
    | dK kvs =>
      refine pc_din hu ha hb pins s σ H Q I (tP2 hx hy er fun vx vy H2 F2 s1 g1 er2 rx ry => ?_)
      obtain ⟨p, ws, rfl, q1, r1⟩ := ry.dK_inv
      obtain ⟨o, g, eo⟩ := dget_rep (er2.sub _ _ q1) r1 rx hh
      exact ⟨p, o, rfl, g, by rw [eo]; exact (k.step s1 g1).here er2.sub (.bl _)⟩
    | dT kvs =>
      refine pc_din hu ha hb pins s σ H Q I (tP2 hx hy er fun vx vy H2 F2 s1 g1 er2 rx ry => ?_)
      obtain ⟨p, ws, rfl, q1, r1⟩ := ry.dT_inv
      obtain ⟨o, g, eo⟩ := dgetT_rep er2.sub (er2.sub _ _ q1) r1 rx hh
      exact ⟨p, o, rfl, g, by rw [eo]; exact (k.step s1 g1).here er2.sub (.bl _)⟩
    | str t =>
      dsimp only at hh
      split at hh
      · cases hh
        exact pc_op op_in_str ha hb pins s σ H Q I (tP2 hx hy er fun vx vy H2 F2 s1 g1 er2 rx ry => ⟨_, _, rx.str_inv, ry.str_inv, (k.step s1 g1).here er2.sub (.bl _)⟩)
      · cases hh
    | _ => cases hh
theorem pp_in (hu : X.A.units + 1 < cLine) (ha : PP cl X a fa) (hb : PP cl X b fb) (hm : behindInMarks .In b = false := by with_unfolding_all rfl) : PP cl X (.Compare a [.In] [b] pos) (e2 dIn fa fb) := pe_cmp (pc_in hu ha hb) hm
def lookO (kvs : List (Key × O0)) (k : Key) : Option O0 := (kvs.find? fun kv => decide (kv.1 = k)).map (·.2)
def slIx (s : Slot) (y : Dat) : Option Dat := match s with
  | .o (.val d) => dIx d y
  | .o (.lst xs) => (match y with | .int j => atI xs j | _ => none)
  | .o (.dK kvs) => (keyD y).bind fun k => lookD kvs k
  | .o (.dT kvs) => (match y with | .tup ys => (keysD ys).bind fun ks => lookD kvs ks | _ => none)
  | .rcd kvs => (keyD y).bind fun k => match lookO kvs k with | some (.val d) => some d | _ => none
  | .no => none
def eIxN (i : Nat) (fb : FE) : FE := fun δ => (δ[i]?).bind fun s => (fb δ).bind fun y => slIx s y
theorem rcd_look {K : PySem.W.Frag} {F H : Hp} {w : Addr → Option Lab} {n : Nat} {vs : List (Key × V)} {kvs : List (Key × O0)} (q : Paired (fun (x : Key × V) (y : Key × O0) => x.1 = y.1 ∧ O0R K cl F H w (n, some y.1) x.2 y.2) vs kvs) (k : Key) :
    (valV vs k = none ∧ lookO kvs k = none) ∨ ∃ v o, valV vs k = some v ∧ lookO kvs k = some o ∧ O0R K cl F H w (n, some k) v o := by
  induction q with
  | nil => exact .inl ⟨rfl, rfl⟩
  | @cons p q ps qs h _ ih =>
    by_cases e : p.1 = k
    · have e' : q.1 = k := by rw [← h.1]; exact e
      refine .inr ⟨p.2, q.2, valV_pos e, ?_, by have := h.2; rw [e'] at this; exact this⟩
      unfold lookO
      rw [List.find?_cons, decide_eq_true e']
      rfl
    · have e' : ¬ q.1 = k := by rw [← h.1]; exact e
      rw [valV_neg e]
      have : lookO (q :: qs) k = lookO qs k := by
        unfold lookO
        rw [List.find?_cons, decide_eq_false e']
      rw [this]
      exact ih
theorem pp_ixN (hu : X.A.units + 1 < cLine) (hv : PE X a (tVar i)) (hb : PP cl X b fb) (hs : PlainIx b) : PP cl X (.Subscript a b pos) (eIxN i fb) := fun pins s σ H Q I h => by
  obtain ⟨δ, F, ω, d, hf, er, k⟩ := h
  unfold eIxN at hf
  cases hi : δ[i]? with
  | none => rw [hi] at hf; cases hf
  | some sl =>
    cases hy : fb δ with
    | none => rw [hi, hy] at hf; cases hf
    | some y =>
      rw [hi, hy] at hf
      simp only [Option.bind_some] at hf
      have r0 := er.at_ i sl hi
      unfold slIx at hf
      cases sl with
      | no => cases hf
      | o x =>
        obtain ⟨v, ev, q⟩ := r0
        cases x with
        | val d0 =>
          have hx : eV i δ = some d0 := by unfold eV; rw [hi]
          exact pp_ix hu (pp_var hv) hb hs pins s σ H Q I ⟨δ, F, ω, d, by unfold e2; rw [hx, hy]; exact hf, er, k⟩
        | lst xs =>
          obtain ⟨p, vs, rfl, hw, hH, r1⟩ := q
          cases y with
          | int j =>
            refine pe_ix ix_list hv hb hs pins s σ H Q I ⟨.ref p, ev, δ, F, ω, .int j, hy, er, fun vy H2 F2 s1 s1' g1 ry => ?_⟩
            obtain ⟨v, hv', r⟩ := atI_rep r1 hf
            exact ⟨p, vs, j, v, rfl, ry.int_inv, SqL.of (s1 _ _ hH), hv', (k.step s1 g1).here s1' (r.mono g1.1)⟩
          | _ => cases hf
        | dK kvs =>
          obtain ⟨p, vs, rfl, hw, hH, r1⟩ := q
          dsimp only at hf
          cases hk : keyD y with
          | none => rw [hk] at hf; cases hf
          | some kk =>
            rw [hk] at hf
            refine pe_dget hu hv hb hs pins s σ H Q I ⟨.ref p, ev, δ, F, ω, y, hy, er, fun vy H2 F2 s1 s1' g1 ry => ?_⟩
            rcases repK_look r1 kk with ⟨_, n⟩ | ⟨v, d', h1, h2, r⟩
            · rw [show lookD kvs kk = some d from hf] at n; cases n
            · rw [show lookD kvs kk = some d from hf] at h2; cases h2
              rw [keyD_rep ry hk]
              exact ⟨p, v, rfl, h1 ▸ DGet.k (s1 _ _ hH), (k.step s1 g1).here s1' (r.mono g1.1)⟩
        | dT kvs =>
          obtain ⟨p, vs, rfl, hw, hH, r1⟩ := q
          cases y with
          | tup ys =>
            dsimp only at hf
            cases hk : keysD ys with
            | none => rw [hk] at hf; cases hf
            | some kk =>
              rw [hk] at hf
              refine pe_dget hu hv hb hs pins s σ H Q I ⟨.ref p, ev, δ, F, ω, .tup ys, hy, er, fun vy H2 F2 s1 s1' g1 ry => ?_⟩
              obtain ⟨p', ws, rfl, q2, r2⟩ := ry.tup_inv
              have eb := s1' _ _ q2
              rw [keysD_rep r2 hk] at eb
              rcases repK_look r1 kk with ⟨_, n⟩ | ⟨v, d', h1, h2, r⟩
              · rw [show lookD kvs kk = some d from hf] at n; cases n
              · rw [show lookD kvs kk = some d from hf] at h2; cases h2
                exact ⟨p, v, rfl, h1 ▸ DGet.t (s1 _ _ hH) eb, (k.step s1 g1).here s1' (r.mono g1.1)⟩
          | _ => cases hf
      | rcd kvs =>
        obtain ⟨p, vs, ev, hw, hH, hn, q⟩ := r0
        dsimp only at hf
        cases hk : keyD y with
        | none => rw [hk] at hf; cases hf
        | some kk =>
          rw [hk] at hf
          simp only [Option.bind_some] at hf
          split at hf
          · rename_i d0 hl
            cases hf
            refine pe_dget hu hv hb hs pins s σ H Q I ⟨.ref p, ev, δ, F, ω, y, hy, er, fun vy H2 F2 s1 s1' g1 ry => ?_⟩
            rcases rcd_look q kk with ⟨_, n⟩ | ⟨v, o, h1, h2, r⟩
            · rw [hl] at n; cases n
            · rw [hl] at h2; cases h2
              rw [keyD_rep ry hk]
              exact ⟨p, v, rfl, h1 ▸ DGet.k (s1 _ _ hH), (k.step s1 g1).here s1' ((show Rep X.K cl F v d from r).mono g1.1)⟩
          · cases hf
end
end MB
namespace MB
open PySem PySem.Spec PyProof.Rows L2
section
variable {cl : Nat → Addr} {X : Cx} {e a b c : Expr} {es : List Expr} {fa fb fc fk fv : FE} {fl : FA} {pos pos' p p2 : Pos} {i j : Nat} {x y : Str}
def sPut (i : Nat) (fk fv : FE) : FS := fun δ => (δ[i]?).bind fun s => (fk δ).bind fun k => (fv δ).bind fun v => match s with
  | .o (.dK kvs) => (keyD k).bind fun kk => if kvs.length < sizeLine then some (.nx (δ.set i (.o (.dK (putD kvs kk v))))) else none
  | .o (.dT kvs) => (match k with | .tup ys => (keysD ys).bind fun ks => if kvs.length < sizeLine then some (.nx (δ.set i (.o (.dT (putD kvs ks v))))) else none | _ => none)
  | .o (.lst xs) => (match k with | .int j => if 0 ≤ j ∧ j < (xs.length : Nat) then some (.nx (δ.set i (.o (.lst (xs.set j.toNat v))))) else none | _ => none)
  | _ => none
theorem setItem_U {prog : Program} {w : World} {A : Around} {E : Value → Shared → Prop} {s : Shared} {l : Addr} {items : Array Value} {n : Nat} {k : Int} {t : Tok} {v : Value} {Q : Unit → Shared → Prop} (hl : s.heap.get? l = some { cls := .type "list", data := .seq items n })
    (h0 : 0 ≤ k) (hfit : k < 2 ^ 63) (hn : k < items.size) (hQ : Q () { s with heap := s.heap.update l (Obj.mapSeq (·.setIfInBounds k.toNat v)) }) : wpAny (model prog w) A (setItem (.ref l) (.int k t) v) Q E s := by
  have hL : s.heap.IsList l items := ⟨_, hl, rfl, n, rfl⟩
  unfold setItem
  try with_reducible refine wpAny_holding ?_
  first | refine wpAny_bind (wpAny_pure ?_) | skip
  refine wpAny_bind (wpAny_sequenceKey hL.typeIs (by decide) ?_)
  refine wpAny_bind (wpAny_callSpecial?_slot (name := Str.ofString "__setitem__") hL.typeIs slot_list_setitem
    (wpAny_call_entry slot_list_setitem hL.typeIs entry_list_setitem ?_ (args_list_setitem _ _ _)))
  show wpAny _ _ (Builtin.List.listSubscript? (.int k t) >>= _) _ _ s
  refine wpAny_bind (wpAny_listSubscript_int (fitsIndex_of h0 hfit) ?_)
  clear hfit
  obtain ⟨j, rfl⟩ := Int.eq_ofNat_of_zero_le h0
  have hj : j < items.size := by omega
  have hx' : items[j]? = some items[j] := Array.getElem?_eq_getElem hj
  show wpAny _ _ ((seqItemAt l j >>= fun r => pure (r.map (j, ·))) >>= _) _ _ s
  refine wpAny_bind (wpAny_bind (wpAny_seqItemAt hl rfl (wpAny_pure ?_)))
  rw [hx']
  show wpAny _ _ (setSeqItemAt l j v >>= _) _ _ s
  refine wpAny_bind (wpAny_setSeqItemAt hl rfl ?_)
  first
    | exact wpAny_bind (wpAny_pure (wpAny_pure ⟨.none, rfl, wpAny_pure hQ⟩))
    | exact wpAny_pure ⟨.none, rfl, wpAny_pure hQ⟩
theorem vals_set {x : V} {u : Value} (r : RelV x u) : ∀ {xs : List V} {us : List Value} (j : Nat), Vals xs us → Vals (xs.set j x) (us.set j u)
  | _, _, _, .nil => .nil
  | _, _, 0, .cons _ t => .cons r t
  | _, _, j + 1, .cons q t => .cons q (vals_set r j t)
theorem pset_list : PSet X (fun o i v H Q => ∃ a j xs, o = .ref a ∧ i = .int j ∧ H a = some (.lst xs) ∧ 0 ≤ j ∧ j < (xs.length : Nat) ∧ Q (upd H a (.lst (xs.set j.toNat v)))) := fun pins s σ H o i v ov iv u Q I ro ri rv h => by
  obtain ⟨a, j, xs, rfl, rfl, hH, h0, h1, q⟩ := h
  cases (show ov = Value.ref a from ro)
  obtain ⟨t, rfl⟩ := (show ∃ t, iv = Value.int j t from ri)
  obtain ⟨z, its, n, r, hl, e⟩ := I.lstM hH
  have hz : xs.length ≤ 16777216 := by rw [← PySem.sizeLine_eq]; exact z
  refine setItem_U e h0 (by omega) (by rw [List.size_toArray]; omega) ⟨_, I.lset (its' := its.set j.toNat u) (ys := xs.set j.toNat v) (t' := s.toks) hH e ?_ (vals_set rv _ r) (by rw [List.length_set]; exact z), q⟩
  rw [← List.setIfInBounds_toArray]
theorem SR.setV {K : PySem.W.Frag} {B F0 P H F : Hp} {δ : Sto} {σ : St} {ω : Addr → Option Lab} {i : Nat} {v : V} {d : Dat} (sr : SR K cl B F0 P δ σ H F ω) (r : Rep K cl F v d) : SR K cl B F0 P (δ.set i (.o (.val d))) (σ.set i (some v)) H F ω := sr.set (s := .o (.val d)) ⟨v, rfl, r⟩
theorem bind3 {α β γ δ : Type} {x : Option α} {y : Option β} {z : Option γ} {f : α → β → γ → Option δ} {r : δ} (h : (x.bind fun a => y.bind fun b => z.bind fun c => f a b c) = some r) : ∃ a b c, x = some a ∧ y = some b ∧ z = some c ∧ f a b c = some r := by
  cases x with
  | none => cases h
  | some a =>
    cases y with
    | none => cases h
    | some b =>
      cases z with
      | none => cases h
      | some c => exact ⟨a, b, c, rfl, rfl, rfl, h⟩
theorem bind2 {α β δ : Type} {x : Option α} {y : Option β} {f : α → β → Option δ} {r : δ} (h : (x.bind fun a => y.bind fun b => f a b) = some r) : ∃ a b, x = some a ∧ y = some b ∧ f a b = some r := by
  cases x with
  | none => cases h
  | some a =>
    cases y with
    | none => cases h
    | some b => exact ⟨a, b, rfl, rfl, h⟩
theorem bind1 {α δ : Type} {x : Option α} {f : α → Option δ} {r : δ} (h : x.bind f = some r) : ∃ a, x = some a ∧ f a = some r := by
  cases x with
  | none => cases h
  | some a => exact ⟨a, rfl, h⟩
theorem pb_put {nx k v : Expr} (hu : X.A.units + 1 < cLine) (hv : PE X nx (tVar i)) (hk : PP cl X k fk) (hw : PP cl X v fv) (hs : swapsWith v (some (.Subscript nx k pos')) pos.line X.env = pure false := by rfl)
    (hs2 : swapsWithSole [.Subscript nx k pos'] v pos.line X.env = pure false := by rfl) (hs3 : swappedStores [.Subscript nx k pos'] v X.env = pure none := by rfl) (hs4 : (assignEach [.Subscript nx k pos'] X.env).map (·.2) = [assign (.Subscript nx k pos') X.env] := by rfl)
    (hs5 : ∀ v, assign (.Subscript nx k pos') X.env v = (do
      let ov ← holding [v] (eval nx X.env)
      let iv ← holding [v, ov] (eval k X.env)
      standAt pos'
      holding [v, ov, iv] (setItem ov iv v)
      release [v, ov, iv] []) := by intro _; rfl) : PB1 cl X (.Assign [.Subscript nx k pos'] v pos) (sPut i fk fv) := fun pins s σ H D I h => by
  obtain ⟨B, F0, P, δ, o, hf, ⟨F, ω, sr⟩, out⟩ := h
  obtain ⟨sl, dk, dv, hi, h1, h2, hf⟩ := bind3 hf
  have hil : i < δ.length := (List.getElem?_eq_some_iff.mp hi).1
  have r0 := sr.er.at_ i sl hi
  split at hf
  · rename_i kvs
    obtain ⟨kk, hkk, hf⟩ := bind1 hf
    split at hf
    · rename_i hl
      obtain rfl := Option.some.inj hf
      obtain ⟨v0, ev, p, ws, rfl, hw0, hH, r1⟩ := r0
      refine ps_dput hu hv hk hw hs pins s σ H D I ⟨δ, F, _, dv, h2, sr.er, fun v1 H1 F1 s1 s1' g1 q1 => ⟨.ref p, ev, δ, F1, _, dk, h1, sr.er.grow s1 s1' g1, fun v2 H2 F2 s2 s2' g2 q2 => ?_⟩⟩
      have sr2 := (sr.step s1 s1' g1).step s2 s2' g2
      rw [keyD_rep q2 hkk]
      refine ⟨p, _, rfl, DPut.k (s2 _ _ (s1 _ _ hH)) (by rw [r1.length]; exact hl), out _ _ ⟨F2, ω, sr2.put (l := (i, none)) hw0 ⟨.ref p, ev, p, _, rfl, hw0, upd_same, ?_⟩ hil⟩⟩
      exact repK_put (RepK.mono g2.1 (RepK.mono g1.1 r1)) kk (q1.mono g2.1)
    · cases hf
  · rename_i kvs
    split at hf
    · rename_i ys
      obtain ⟨kk, hkk, hf⟩ := bind1 hf
      split at hf
      · rename_i hl
        obtain rfl := Option.some.inj hf
        obtain ⟨v0, ev, p, ws, rfl, hw0, hH, r1⟩ := r0
        refine ps_dput hu hv hk hw hs pins s σ H D I ⟨δ, F, _, dv, h2, sr.er, fun v1 H1 F1 s1 s1' g1 q1 => ⟨.ref p, ev, δ, F1, _, .tup ys, h1, sr.er.grow s1 s1' g1, fun v2 H2 F2 s2 s2' g2 q2 => ?_⟩⟩
        have sr2 := (sr.step s1 s1' g1).step s2 s2' g2
        obtain ⟨p', vs, rfl, q3, r3⟩ := q2.tup_inv
        have eb := s2' _ _ q3
        rw [keysD_rep r3 hkk] at eb
        refine ⟨p, _, rfl, DPut.t (s2 _ _ (s1 _ _ hH)) eb (by rw [r1.length]; exact hl), out _ _ ⟨F2, ω, sr2.put (l := (i, none)) hw0 ⟨.ref p, ev, p, _, rfl, hw0, upd_same, ?_⟩ hil⟩⟩
        exact repK_put (RepK.mono g2.1 (RepK.mono g1.1 r1)) kk (q1.mono g2.1)
      · cases hf
    · cases hf
  · rename_i xs
    split at hf
    · rename_i j
      split at hf
      · rename_i hj
        obtain rfl := Option.some.inj hf
        obtain ⟨v0, ev, p, ws, rfl, hw0, hH, r1⟩ := r0
        refine ps_asg hw (pg_sub hv hk pset_list hs5) hs2 hs3 hs4 pins s σ H D I ⟨δ, F, _, dv, h2, sr.er, fun v1 H1 F1 s1 s1' g1 q1 => ⟨.ref p, ev, δ, F1, _, .int j, h1, sr.er.grow s1 s1' g1, fun v2 H2 F2 s2 s2' g2 q2 => ?_⟩⟩
        have sr2 := (sr.step s1 s1' g1).step s2 s2' g2
        refine ⟨p, j, ws, rfl, q2.int_inv, s2 _ _ (s1 _ _ hH), hj.1, by rw [r1.length]; exact hj.2, out _ _ ⟨F2, ω, sr2.put (l := (i, none)) hw0 ⟨.ref p, ev, p, _, rfl, hw0, upd_same, ?_⟩ hil⟩⟩
        exact pset (q1.mono g2.1) _ ((r1.mono g1.1).mono g2.1)
      · cases hf
    · cases hf
  · cases hf
abbrev RcR (K : PySem.W.Frag) (cl : Nat → Addr) (F H : Hp) (w : Addr → Option Lab) (i : Nat) : List (Key × V) → List (Key × O0) → Prop := Paired (fun (x : Key × V) (y : Key × O0) => x.1 = y.1 ∧ O0R K cl F H w (i, some y.1) x.2 y.2)
theorem rcR_upd {K : PySem.W.Frag} {F H : Hp} {w : Addr → Option Lab} {vs : List (Key × V)} {ds : List (Key × O0)} {p : Addr} {o : HO} (hw : w p = some (i, none)) (r : RcR K cl F H w i vs ds) : RcR K cl F (upd H p o) w i vs ds :=
  pimp (fun _ _ t => ⟨t.1, t.2.other hw fun z => by cases z⟩) r
end
end MB
namespace MB
open PySem PySem.Spec PyProof.Rows L2
section
variable {cl : Nat → Addr} {X : Cx} {e a b c : Expr} {es : List Expr} {fa fb fc fk fv : FE} {fl : FA} {pos pos' p p2 p3 : Pos} {i j : Nat} {x y : Str}
abbrev FR := Sto → Option (List (Key × O0))
structure RcS (K : PySem.W.Frag) (cl : Nat → Addr) (i : Nat) (B F0 P : Hp) (δ : Sto) (σ : St) (H F : Hp) (ω : Addr → Option Lab) (H' F' : Hp) (ω' : Addr → Option Lab) : Prop where
  sr : SR K cl B F0 P δ σ H' F' ω'
  sH : Same H H'
  sF : Same F F'
  sw : ∀ a l, ω a = some l → ω' a = some l
def tRc (K : PySem.W.Frag) (cl : Nat → Addr) (i : Nat) (f : FR) : St → Hp → (List (V × V) → Hp → Prop) → Prop := fun σ H Q => ∃ B F0 P δ F ω kos, f δ = some kos ∧ SR K cl B F0 P δ σ H F ω ∧
  ∀ ps H' F' ω', RcS K cl i B F0 P δ σ H F ω H' F' ω' → Paired (fun (x : V × V) (y : Key × O0) => x.1 = kV y.1 ∧ O0R K cl F' H' ω' (i, some y.1) x.2 y.2) ps kos → Q ps H'
def PRc (cl : Nat → Addr) (X : Cx) (i : Nat) (pos : Pos) (keys : List (Option Expr)) (values : List Expr) (f : FR) : Prop := ∃ trs, PPs X pos keys values trs ∧ ∀ σ H Q, tRc X.K cl i f σ H Q → tPairs trs σ H Q
def rcN : FR := fun _ => some []
def rcV (k : Str) (fv : FE) (f : FR) : FR := fun δ => (fv δ).bind fun v => (f δ).bind fun r => some ((Sum.inr k, .val v) :: r)
variable {keys : List (Option Expr)} {values : List Expr} {f : FR}
theorem rc_nil : PRc cl X i pos [] [] rcN := ⟨[], pps_nil, fun σ H Q h => by
  obtain ⟨B, F0, P, δ, F, ω, kos, hf, sr, k⟩ := h
  obtain rfl := Option.some.inj hf
  exact k [] H F ω ⟨sr, Same.refl _, Same.refl _, fun _ _ e => e⟩ .nil⟩
theorem rc_val {v : Expr} {k : Str} {kj} (hv : PP cl X v fv) (hr : PRc cl X i pos keys values f) : PRc cl X i pos (some (.Constant (.str k) kj p2) :: keys) (v :: values) (rcV k fv f) := by
  obtain ⟨trs, h1, h2⟩ := hr
  refine ⟨_, pps_cons pe_str hv h1, fun σ H Q h => ?_⟩
  obtain ⟨B, F0, P, δ, F, ω, kos, hf, sr, kk⟩ := h
  obtain ⟨dv, r, e1, e2, hf⟩ := bind2 hf
  obtain rfl := Option.some.inj hf
  refine ⟨δ, F, _, dv, e1, sr.er, fun v1 H1 F1 s1 s1' g1 q1 => h2 σ H1 _ ⟨B, F0, P, δ, F1, ω, r, e2, sr.step s1 s1' g1, fun ps H2 F2 ω2 S pr => ?_⟩⟩
  exact kk _ H2 F2 ω2 ⟨S.sr, s1.trans S.sH, g1.1.trans S.sF, S.sw⟩ (.cons ⟨rfl, (show Rep X.K cl F2 v1 dv from q1.mono S.sF)⟩ pr)
def sRcd (i : Nat) (f : FR) : FS := fun δ => (f δ).bind fun kos => if (kos.map (·.1)).Nodup ∧ kos.length ≤ 15 then some (.nx (δ.set i (.rcd kos))) else none
theorem mergeK_nd : ∀ (more kvs : List (Key × V)), ((kvs ++ more).map (·.1)).Nodup → mergeK kvs more = kvs ++ more
  | [], kvs, _ => by simp [mergeK]
  | q :: r, kvs, h => by
    have hnone : valV kvs q.1 = none := by
      cases e : valV kvs q.1 with
      | none => rfl
      | some v =>
        have m := valV_in e
        rw [List.map_append, List.map_cons] at h
        exact absurd rfl ((List.nodup_append.mp h).2.2 q.1 m q.1 List.mem_cons_self)
    have e1 : mergeK kvs (q :: r) = mergeK (putK kvs q.1 q.2) r := rfl
    rw [e1, putK_new _ hnone, mergeK_nd r (kvs ++ [(q.1, q.2)]) (by rw [List.append_assoc]; exact h), List.append_assoc]
    rfl
theorem rc_kvs {K : PySem.W.Frag} {F H : Hp} {w : Addr → Option Lab} : ∀ {ps : List (V × V)} {kos : List (Key × O0)}, Paired (fun (x : V × V) (y : Key × O0) => x.1 = kV y.1 ∧ O0R K cl F H w (i, some y.1) x.2 y.2) ps kos →
    ∃ kvs : List (Key × V), ps = kvs.map (fun kv => (kV kv.1, kv.2)) ∧ kvs.map (·.1) = kos.map (·.1) ∧ RcR K cl F H w i kvs kos
  | _, _, .nil => ⟨[], rfl, rfl, .nil⟩
  | _, _, .cons (a := pq) (b := y) h t => by
    obtain ⟨kvs, e1, e2, r⟩ := rc_kvs t
    refine ⟨(y.1, pq.2) :: kvs, ?_, by rw [List.map_cons, List.map_cons, e2], .cons ⟨rfl, h.2⟩ r⟩
    rw [List.map_cons, e1, ← h.1]
theorem pb_rcd (hN : X.N.Nodup) (hi : X.N[i]? = some x) (hx : Loc X.env.scope x) (hr : PRc cl X i p2 keys values f) (hall : keys.all (·.isSome) = true) (hl : keys.length = values.length) (h0 : keys ≠ []) (h15 : keys.length ≤ 15)
    (hs : swapsWith (.Dict keys values p2) (some (.Name x pos')) pos.line X.env = pure false := by rfl)
    (hf : X.fn x = true ∨ X.env.scope.names.lookup x = some .local := by first | exact .inl rfl | exact .inr rfl | assumption) : PB1 cl X (.Assign [.Name x pos'] (.Dict keys values p2) pos) (sRcd i f) := fun pins s σ H D I h => by
  obtain ⟨B, F0, P, δ, o, hw, ⟨F, ω, sr⟩, out⟩ := h
  obtain ⟨kos, hk, hw⟩ := bind1 hw
  split at hw
  · rename_i c
    obtain rfl := Option.some.inj hw
    obtain ⟨trs, h1, h2⟩ := hr
    refine ps_set hN hi hx (pe_disp h1 hall hl h0 h15) hs hf pins s σ H D I fun z hz => h2 σ _ _ ⟨B, F0, P, δ, F, updL ω z (i, none), kos, hk, sr.own (o := .dK []) (l := (i, none)) hz, fun ps H2 F2 ω2 S pr => ?_⟩
    have hz2 : H2 z = some (.dK []) := S.sH _ _ upd_same
    have hwz : ω2 z = some (i, none) := S.sw _ _ updL_same
    obtain ⟨kvs, e1, e2, r⟩ := rc_kvs pr
    have hl2 : kvs.length = kos.length := by simpa using congrArg List.length e2
    refine ⟨hz2, kvs, e1, by rw [hl2]; exact c.2, out _ _ ⟨F2, ω2, ?_⟩⟩
    have em : mergeK [] kvs = kvs := by
      have := mergeK_nd kvs [] (by rw [List.nil_append, e2]; exact c.1)
      rw [this, List.nil_append]
    rw [em]
    have np : ∀ b ob, F2 b = some ob → b ≠ z := fun b ob e q => by subst q; rw [(S.sr.er.own b _ hwz).1] at e; cases e
    have nb : ∀ b ob, B b = some ob → b ≠ z := fun b ob e q => by subst q; rw [S.sr.fresh b _ hwz] at e; cases e
    have er' : ER X.K cl F2 (upd H2 z (.dK kvs)) ⟨ω2, fun i => i⟩ (σ.set i (some (.ref z))) (δ.set i (.rcd kos)) := by
      refine ⟨fun b ob e => by rw [upd_ne (np b ob e)]; exact S.sr.er.sub b ob e, fun a l' e => ?_, by rw [List.length_set, List.length_set]; exact S.sr.er.len, fun j t ht => ?_⟩
      · obtain ⟨q1, o', q2⟩ := S.sr.er.own a l' e
        by_cases ha : a = z
        · subst ha; exact ⟨q1, _, upd_same⟩
        · exact ⟨q1, o', by rw [upd_ne ha]; exact q2⟩
      · by_cases hj : i = j
        · subst hj
          by_cases hil : i < δ.length
          · rw [List.getElem?_set_self hil] at ht
            cases ht
            rw [List.getElem?_set_self (by rw [S.sr.er.len]; exact hil)]
            exact ⟨z, kvs, rfl, hwz, upd_same, c.1, rcR_upd hwz r⟩
          · rw [List.getElem?_eq_none (by rw [List.length_set]; omega)] at ht
            cases ht
        · rw [List.getElem?_set_ne hj] at ht ⊢
          exact (S.sr.er.at_ j t ht).other hwz fun q => hj q.symm
    exact ⟨er', fun b ob e => by rw [upd_ne (nb b ob e)]; exact S.sr.base b ob e, S.sr.grow, S.sr.pin, S.sr.fresh⟩
  · cases hw
end
end MB
namespace MB
open PySem PySem.Spec PyProof.Rows L2
section
variable {X : Cx} {pins : List (Addr × Obj)} {σ : St} {H : Hp} {s : Shared} {h' : Heap} {fp : List Addr} {o : HO}
theorem Inv.turnNew {t' : Nat} (I : L2.Inv X pins σ H s) (hf : ∀ b ∈ fp, FpOk X pins H b) (k : ∀ b ob, b ∉ fp → s.heap.get? b = some ob → h'.get? b = some ob) (hlt : ∀ b ∈ fp, b < s.heap.objs.size)
    (new : ObjOk X.prog X.w (upd H s.heap.objs.size o) h' s.heap.objs.size o) : L2.Inv X pins σ (upd H s.heap.objs.size o) { s with heap := h', toks := t' } := by
  have hn : H s.heap.objs.size = none := I.hok.fresh (Nat.le_refl _)
  have old : ∀ b ob, s.heap.get? b = some ob → b ≠ s.heap.objs.size := fun b ob e => Nat.ne_of_lt (Heap.lt_size e)
  have tr : ∀ b u, H b = some u → b ∉ fp := fun b u e m => by rw [(hf b m).1] at e; cases e
  refine I.step (g' := s.gens) (d' := s.drawn) (ch := fp) (fun b hb => ⟨(hf b hb).2.2.2.1, (hf b hb).2.1, (hf b hb).2.2.2.2.1, (hf b hb).2.2.2.2.2⟩) (fun b ob _ _ hc e _ => k b ob hc e) (fun b ob _ _ hc e _ => ⟨ob.slots, k b ob hc e⟩)
    (fun b ob _ e n => by rw [upd_ne (old b ob e)]; exact n) (fun b ob hc e => ⟨ob, k b ob hc e⟩) (fun b xs e => by rw [upd_ne (ne_of_none e hn)]; exact e) (fun b ob u e => by rw [upd_ne (ne_of_none e hn)]; exact e)
    (fun b ps e => ⟨#[], by rw [upd_ne (ne_of_none e hn), e]; simp⟩) (fun m hm => ?_) (fun b u e => ?_) I.bare
  · obtain ⟨ob, es, ep, ho, r⟩ := hm
    exact ⟨ob, es, ep, k _ ob (fun m => (hf _ m).2.1 rfl) ho, r⟩
  · by_cases hb : b = s.heap.objs.size
    · subst hb; rw [upd_same] at e; cases e; exact new
    · rw [upd_ne hb] at e
      refine (I.hok b u e).stay (fun c v hc q => k c v ?_ q) (fun c q => by rw [upd_ne (ne_of_none q hn)]; exact q) fun c xs q => by rw [upd_ne (ne_of_none q hn)]; exact q
      rcases hc with z | z
      · rw [z]; exact tr b u e
      · exact tr c _ z
end
def Iten (K : PySem.W.Frag) (a : Addr) : It :=
  ⟨fun i H => ∃ xs x, SqL K H a xs ∧ xs[i]? = some x, fun i H x H' => ∃ p v, x = .ref p ∧ H p = none ∧ H' = upd H p (.tup [.int (i : Nat), v]) ∧ ∀ xs, SqL K H a xs → xs[i]? = some v, fun i H => ∃ xs, SqL K H a xs ∧ xs.length ≤ i⟩
theorem turn_enum {P : Program} {w : World} {K : PySem.W.Frag} {elts : List Expr} {x1 : Nat} {tp : Pos} (a it e : Addr) (hne : e ≠ it) : Turn P w K (.Tuple elts x1 tp) (Iten K a) [e, it] e (fun i h => (∃ old, IsEnum h e it (i : Nat) old) ∧ h.IsListIter it a i) where
  mem := by simp
  obj := fun i h st b hb => by
    obtain ⟨⟨old, h1⟩, o, h2, h3, h4⟩ := st
    rcases List.mem_cons.mp hb with rfl | hb
    · exact ⟨_, h1, fun v z => by cases z⟩
    · rw [List.mem_singleton.mp hb]
      exact ⟨o, h2, fun v z => by rw [h4] at z; cases z⟩
  keep := fun i h h' st k => ⟨let ⟨old, h1⟩ := st.1; ⟨old, k e (by simp) _ h1⟩, st.2.at fun o q => k it (by simp) o q⟩
  item := by
    intro X hP hw hK hc i pins s σ H E I hf st hg
    subst hP hw hK
    obtain ⟨xs, x, hq, hx⟩ := hg
    obtain ⟨its, rv, p, hz⟩ := I.list hq
    obtain ⟨u, hu, ru⟩ := rv.get hx
    obtain ⟨⟨old, he⟩, hit⟩ := st
    refine wpAny_pyNext_enum_item he hit p.isList (x := u) (by simpa using hu) hne fun h1 a1 a2 a3 a4 a5 => ⟨_, rfl, wpAny_letOwnedTupleGo_enum a1 fun h2 b1 b2 => ?_⟩
    have hlt : ∀ b ∈ [e, it], b < s.heap.objs.size := fun b hb => by
      rcases List.mem_cons.mp hb with rfl | hb
      · exact Heap.lt_size he
      · rw [List.mem_singleton.mp hb]; obtain ⟨o, h2, _⟩ := hit; exact Heap.lt_size h2
    have hes : e ≠ s.heap.objs.size := Nat.ne_of_lt (hlt e (by simp))
    have k : ∀ b ob, b ∉ [e, it] → s.heap.get? b = some ob → h2.get? b = some ob := fun b ob hb q => by
      have n1 : b ≠ e := fun z => hb (by simp [z])
      have n2 : b ≠ it := fun z => hb (by simp [z])
      exact (b2.2 b n1).trans (a5 b ob n1 n2 q)
    have tup : h2.get? s.heap.objs.size = some { cls := .type "tuple", data := .seq #[.int (i : Nat) s.toks, u] } := (b2.2 _ (Ne.symm hes)).trans a3
    have new : ObjOk X.prog X.w (upd H s.heap.objs.size (.tup [.int (i : Nat), x])) h2 s.heap.objs.size (.tup [.int (i : Nat), x]) :=
      ⟨by show 2 ≤ sizeLine; decide, [.int (i : Nat) s.toks, u], .cons ⟨_, rfl⟩ (.cons ru .nil), _, tup, rfl, _, rfl⟩
    refine ⟨.ref s.heap.objs.size, _, Inv.turnNew (s := s) (t' := s.toks + 1) I hf k hlt new, rfl, ⟨s.heap.objs.size, x, rfl, I.hok.fresh (Nat.le_refl _), rfl, fun ys hy => by rw [I.list_inj hy hq]; exact hx⟩, ⟨⟨_, b1⟩, a2.at fun o q => (b2.2 it (Ne.symm hne)).trans q⟩, fun b hb => ?_⟩
    rw [upd_ne (Nat.ne_of_lt (hlt b hb))]
    exact (hf b hb).1
  done := by
    intro X hP hw hK hc i pins s σ H E I hf st hg
    subst hP hw hK
    obtain ⟨xs, hq, hx⟩ := hg
    obtain ⟨its, rv, p, hz⟩ := I.list hq
    obtain ⟨f0, f1, f2, f3, f4, f5⟩ := hf it (by simp)
    obtain ⟨⟨old, he⟩, hit⟩ := st
    have hl := rv.length
    exact wpAny_pyNext_enum_end (I.ok.hd hc) he hit p.isList (by simp; omega) fun h' eb => ⟨rfl, I.turned (t' := s.toks) (fun b o hb e => eb b o hb e) f0 f1 f3 f4 f5⟩
  self := fun _ _ _ _ _ st h => let ⟨old, h1⟩ := st.1; wpAny_pyIter_enum h1 h
section
variable {cl : Nat → Addr} {X : Cx} {l l2 : Expr} {fe fe2 : FE} {pos p tp : Pos} {elts : List Expr} {x1 : Nat}
def enumD (xs : List Dat) : List Dat := xs.zipIdx.map fun q => Dat.tup [.int (q.2 : Nat), q.1]
def iEnum (fe : FE) : FA := fun δ => match fe δ with | some (.lst xs) => some (enumD xs) | _ => none
theorem enumD_get {xs : List Dat} {i : Nat} {d : Dat} (h : (enumD xs)[i]? = some d) : ∃ x, xs[i]? = some x ∧ d = .tup [.int (i : Nat), x] := by
  unfold enumD at h
  rw [List.getElem?_map, List.getElem?_zipIdx] at h
  cases e : xs[i]? with
  | none => rw [e] at h; cases h
  | some x => rw [e] at h; simp at h; exact ⟨x, rfl, h.symm⟩
theorem walk_enum {K : PySem.W.Frag} {F : Hp} {a : Addr} {vs : List V} {ds : List Dat} (h : SqL K F a vs) (r : RepL K cl F vs ds) : Walk K cl F (Iten K a) (enumD ds) where
  go := fun i H s hi => ⟨vs, _, s.seq h, List.getElem?_eq_getElem (by rw [r.length]; simpa [enumD] using hi)⟩
  stop := fun i H s hi => ⟨vs, s.seq h, by rw [r.length]; simpa [enumD] using hi⟩
  yld := fun i H Fc x H' d s1 s2 hd y => by
    obtain ⟨p, v, rfl, hp, rfl, y⟩ := y
    obtain ⟨d0, e0, rfl⟩ := enumD_get hd
    have hFp : Fc p = none := none_of s2 hp
    refine ⟨upd Fc p (.tup [.int (i : Nat), v]), same_upd hp, same_upd2 s2, Grow.new s2 hp, .tup' upd_same (.cons (.int _) (.cons ?_ .nil))⟩
    exact ((pget i r (y vs ((s1.trans s2).seq h)) e0).mono s1).mono (same_upd hFp)
theorem ppi_enum (hg : Gl X "enumerate") (hm : X.mg "enumerate" = none) (hl : PP cl X l fe) (hs : starEach [l] X.env = [(false, eval l X.env)] := by rfl) : PPI cl X (.Tuple elts x1 tp) (.Call (.Name "enumerate" p) [l] [] pos) (iEnum fe) := fun pins s σ H R I h => by
  obtain ⟨δ, F, ω, ds, hf, er, k⟩ := h
  unfold iEnum at hf
  split at hf
  · rename_i xs e
    cases hf
    refine Call_ (ld_blt I hg hm (show bootBuiltins "enumerate" = some (.type "enumerate") by decide +kernel) (PyProof.Rows.callWith_type1 (thn (pa_cons hl pa_nil hs pos pins s σ H (fun vs H1 => ∃ v F1, vs = [v] ∧ Same H H1 ∧ Same F1 H1 ∧ Grow F H F1 ∧ Rep X.K cl F1 v (.lst xs)) I ⟨δ, F, ω, _, e, er, fun v H1 F1 a b c d => ⟨v, F1, rfl, a, b, c, d⟩⟩) fun us s1 ⟨vs, H1, I1, r1, v, F1, ev, s1', s2', g1, rv⟩ => ?_) hs rfl))
    subst ev
    cases r1 with
    | cons r rr =>
      cases rr
      obtain ⟨a, ws, rfl, q, t⟩ := rv.lst_inv
      cases r
      obtain ⟨its, rv', pl, hz⟩ := I1.list (s2'.seq q)
      refine call_enumerate_list pl.isList fun h2 b1 b2 b3 b4 => wpAny_pyIter_enum b1 ?_
      have I2 : L2.Inv X pins σ H1 { s1 with heap := h2 } := I1.kept (t' := s1.toks) b4
      have fr : ∀ b ∈ [s1.heap.objs.size + 1, s1.heap.objs.size], FpOk X pins H1 b := fun b hb => by
        rcases List.mem_cons.mp hb with rfl | hb
        · exact I1.fpOk (Nat.le_succ _) (I1.hok.fresh (Nat.le_succ _))
        · rw [List.mem_singleton.mp hb]; exact I1.fpOk (Nat.le_refl _) (I1.hok.fresh (Nat.le_refl _))
      exact ⟨s1.heap.objs.size + 1, [s1.heap.objs.size + 1, s1.heap.objs.size], _, _, H1, rfl, I2, turn_enum a _ _ (Nat.succ_ne_self _), ⟨⟨_, b1⟩, b2⟩, fr, k _ H1 F1 s1' s2' g1 (walk_enum q t)⟩
  · cases hf
end
theorem zip_apart (n : Nat) (l1 l2 : Addr) (n1 : l1 ≠ (n + 4 : Nat)) (n2 : l1 ≠ (n + 3 : Nat)) (n3 : l1 ≠ n) (n4 : l1 ≠ (n + 1 : Nat)) (n5 : l2 ≠ (n + 4 : Nat)) (n6 : l2 ≠ (n + 3 : Nat)) (n7 : l2 ≠ n) (n8 : l2 ≠ (n + 1 : Nat)) : ZipApart (n + 4 : Nat) (n + 2 : Nat) (n + 3 : Nat) n (n + 1 : Nat) l1 l2 :=
  ⟨(show ¬ n + 2 = n + 4 by omega), (show ¬ n + 3 = n + 4 by omega), (show ¬ n = n + 4 by omega), (show ¬ n + 1 = n + 4 by omega), (show ¬ n + 2 = n + 3 by omega), (show ¬ n + 2 = n by omega), (show ¬ n + 2 = n + 1 by omega), (show ¬ n + 3 = n by omega), (show ¬ n + 3 = n + 1 by omega), (show ¬ n = n + 1 by omega), n1, n2, n3, n4, n5, n6, n7, n8⟩
def Itz (K : PySem.W.Frag) (a b : Addr) : It :=
  ⟨fun i H => ∃ xs ys x y, SqL K H a xs ∧ SqL K H b ys ∧ xs[i]? = some x ∧ ys[i]? = some y, fun i H x H' => ∃ p v u, x = .ref p ∧ H p = none ∧ H' = upd H p (.tup [v, u]) ∧ ∀ xs ys, SqL K H a xs → SqL K H b ys → xs[i]? = some v ∧ ys[i]? = some u,
    fun i H => ∃ xs ys, SqL K H a xs ∧ SqL K H b ys ∧ (xs.length ≤ i ∨ ys.length ≤ i)⟩
theorem turn_zip {P : Program} {w : World} {K : PySem.W.Frag} {elts : List Expr} {x1 : Nat} {tp : Pos} (a b z TI TO i1 i2 : Addr) (D : ∀ l1 l2, l1 ≠ z → l1 ≠ TO → l1 ≠ i1 → l1 ≠ i2 → l2 ≠ z → l2 ≠ TO → l2 ≠ i1 → l2 ≠ i2 → ZipApart z TI TO i1 i2 l1 l2) :
    Turn P w K (.Tuple elts x1 tp) (Itz K a b) [z, TI, TO, i1, i2] z (fun i h => IsZip h z TI TO .none ∧ IsPair h TI (.ref i1) (.ref i2) ∧ (∃ c d, IsPair h TO c d) ∧ h.IsListIter i1 a i ∧ h.IsListIter i2 b i) where
  mem := by simp
  obj := fun i h st q hb => by
    obtain ⟨h1, h2, ⟨c, d, h3⟩, ⟨o4, h4, _, h4'⟩, ⟨o5, h5, _, h5'⟩⟩ := st
    simp only [List.mem_cons, List.not_mem_nil, or_false] at hb
    rcases hb with rfl | rfl | rfl | rfl | rfl
    · exact ⟨_, h1, fun v z => by cases z⟩
    · exact ⟨_, h2, fun v z => by cases z⟩
    · exact ⟨_, h3, fun v z => by cases z⟩
    · exact ⟨o4, h4, fun v z => by rw [h4'] at z; cases z⟩
    · exact ⟨o5, h5, fun v z => by rw [h5'] at z; cases z⟩
  keep := fun i h h' st k => by
    obtain ⟨h1, h2, ⟨c, d, h3⟩, h4, h5⟩ := st
    exact ⟨k z (by simp) _ h1, k TI (by simp) _ h2, ⟨c, d, k TO (by simp) _ h3⟩, h4.at fun o q => k i1 (by simp) o q, h5.at fun o q => k i2 (by simp) o q⟩
  item := by
    intro X hP hw hK hc i pins s σ H E I hf st hg
    subst hP hw hK
    obtain ⟨xs, ys, x, y, hq, hq', hx, hy⟩ := hg
    obtain ⟨its, rv, p, hz⟩ := I.list hq
    obtain ⟨its', rv', p', hz'⟩ := I.list hq'
    obtain ⟨u, hu, ru⟩ := rv.get hx
    obtain ⟨u', hu', ru'⟩ := rv'.get hy
    obtain ⟨h1, h2, ⟨c, d, h3⟩, h4, h5⟩ := st
    have ap : ∀ q ob, (SqL X.K H q ob) → ∀ f ∈ [z, TI, TO, i1, i2], q ≠ f := fun q ob hq f hm e => by
      subst e
      obtain ⟨n0, n1, n2, n3, n4, n5⟩ := hf q hm
      rcases hq with (h | ⟨o, h⟩) | ⟨o, its, n, hk, _⟩
      · rw [n0] at h; cases h
      · rw [n0] at h; cases h
      · have hb := I.mod.kin q o hk
        rcases n3 with m | m
        · exact I.ok.noex q o hb m
        · exact absurd (Nat.lt_of_lt_of_le (Heap.lt_size hb) (Nat.le_trans I.ok.bsz m)) (Nat.lt_irrefl _)
    have DD := D a b (ap a xs hq z (by simp)) (ap a xs hq TO (by simp)) (ap a xs hq i1 (by simp)) (ap a xs hq i2 (by simp)) (ap b ys hq' z (by simp)) (ap b ys hq' TO (by simp)) (ap b ys hq' i1 (by simp)) (ap b ys hq' i2 (by simp))
    have hlt : ∀ q ∈ [z, TI, TO, i1, i2], q < s.heap.objs.size := fun q hb => by
      simp only [List.mem_cons, List.not_mem_nil, or_false] at hb
      rcases hb with rfl | rfl | rfl | rfl | rfl
      · exact Heap.lt_size h1
      · exact Heap.lt_size h2
      · exact Heap.lt_size h3
      · obtain ⟨o, e, _⟩ := h4; exact Heap.lt_size e
      · obtain ⟨o, e, _⟩ := h5; exact Heap.lt_size e
    refine wpAny_pyNext_zip_item DD h1 h2 h3 h4 h5 p.isList p'.isList (x := u) (y := u') (by simpa using hu) (by simpa using hu') fun g1 a1 a2 a3 a4 a5 a6 a7 => ⟨_, rfl, wpAny_letOwnedTupleGo_zip a1 fun g2 b1 b2 => ?_⟩
    have hzs : z ≠ s.heap.objs.size := Nat.ne_of_lt (hlt z (by simp))
    have k : ∀ q ob, q ∉ [z, TI, TO, i1, i2] → s.heap.get? q = some ob → g2.get? q = some ob := fun q ob hb e => by
      have n1 : q ≠ z := fun y => hb (by simp [y])
      have n2 : q ≠ TO := fun y => hb (by simp [y])
      have n3 : q ≠ i1 := fun y => hb (by simp [y])
      have n4 : q ≠ i2 := fun y => hb (by simp [y])
      exact (b2.2 q n1).trans (a7 q ob n1 n2 n3 n4 e)
    have tup : g2.get? s.heap.objs.size = some { cls := .type "tuple", data := .seq #[u, u'] } := (b2.2 _ (Ne.symm hzs)).trans a5
    have new : ObjOk X.prog X.w (upd H s.heap.objs.size (.tup [x, y])) g2 s.heap.objs.size (.tup [x, y]) := ⟨by show 2 ≤ sizeLine; decide, [u, u'], .cons ru (.cons ru' .nil), _, tup, rfl, _, rfl⟩
    refine ⟨.ref s.heap.objs.size, _, Inv.turnNew (s := s) (t' := s.toks) I hf k hlt new, rfl, ⟨s.heap.objs.size, x, y, rfl, I.hok.fresh (Nat.le_refl _), rfl, fun vs ws hv hw => ⟨by rw [I.list_inj hv hq]; exact hx, by rw [I.list_inj hw hq']; exact hy⟩⟩, ⟨b1, ?_, ⟨_, _, (b2.2 TO DD.TOz).trans a2⟩, a3.at fun o q => (b2.2 i1 DD.i1z).trans q, a4.at fun o q => (b2.2 i2 DD.i2z).trans q⟩, fun q hb => ?_⟩
    · exact (b2.2 TI DD.TIz).trans (a7 TI _ DD.TIz DD.TITO DD.TIi1 DD.TIi2 h2)
    · rw [upd_ne (Nat.ne_of_lt (hlt q hb))]
      exact (hf q hb).1
  done := by
    intro X hP hw hK hc i pins s σ H E I hf st hg
    subst hP hw hK
    obtain ⟨xs, ys, hq, hq', hx⟩ := hg
    obtain ⟨its, rv, p, hz⟩ := I.list hq
    obtain ⟨its', rv', p', hz'⟩ := I.list hq'
    obtain ⟨h1, h2, ⟨c, d, h3⟩, h4, h5⟩ := st
    have ap : ∀ q ob, (SqL X.K H q ob) → ∀ f ∈ [z, TI, TO, i1, i2], q ≠ f := fun q ob hq f hm e => by
      subst e
      obtain ⟨n0, n1, n2, n3, n4, n5⟩ := hf q hm
      rcases hq with (h | ⟨o, h⟩) | ⟨o, its, n, hk, _⟩
      · rw [n0] at h; cases h
      · rw [n0] at h; cases h
      · have hb := I.mod.kin q o hk
        rcases n3 with m | m
        · exact I.ok.noex q o hb m
        · exact absurd (Nat.lt_of_lt_of_le (Heap.lt_size hb) (Nat.le_trans I.ok.bsz m)) (Nat.lt_irrefl _)
    have DD := D a b (ap a xs hq z (by simp)) (ap a xs hq TO (by simp)) (ap a xs hq i1 (by simp)) (ap a xs hq i2 (by simp)) (ap b ys hq' z (by simp)) (ap b ys hq' TO (by simp)) (ap b ys hq' i1 (by simp)) (ap b ys hq' i2 (by simp))
    have hl := rv.length
    have hl' := rv'.length
    refine wpAny_pyNext_zip_end (I.ok.hd hc) DD h1 h2 h3 h4 h5 p.isList p'.isList ?_ fun g1 kk => ⟨rfl, ?_⟩
    · rcases hx with hx | hx
      · exact .inl (by simp; omega)
      · exact .inr (by simp; omega)
    · refine I.step (g' := s.gens) (d' := s.drawn) (ch := [z, TI, TO, i1, i2]) (fun q hb => ⟨(hf q hb).2.2.2.1, (hf q hb).2.1, (hf q hb).2.2.2.2.1, (hf q hb).2.2.2.2.2⟩) (fun q ob _ _ hc e _ => ?_) (fun q ob _ _ hc e _ => ⟨ob.slots, ?_⟩) (fun _ _ _ _ n => n) (fun q ob hc e => ⟨ob, ?_⟩) (fun _ _ e => e) (fun _ _ _ e => e) (fun q ps e => ⟨#[], by rw [e]; simp⟩) (fun m hm => ?_) (fun q u e => ?_) I.bare
      · exact kk q ob (fun y => hc (by simp [y])) (fun y => hc (by simp [y])) (fun y => hc (by simp [y])) (fun y => hc (by simp [y])) e
      · exact kk q ob (fun y => hc (by simp [y])) (fun y => hc (by simp [y])) (fun y => hc (by simp [y])) (fun y => hc (by simp [y])) e
      · exact kk q ob (fun y => hc (by simp [y])) (fun y => hc (by simp [y])) (fun y => hc (by simp [y])) (fun y => hc (by simp [y])) e
      · obtain ⟨ob, es, ep, ho, r⟩ := hm
        exact ⟨ob, es, ep, kk _ ob (fun y => (hf z (by simp)).2.1 y.symm) (fun y => (hf TO (by simp)).2.1 y.symm) (fun y => (hf i1 (by simp)).2.1 y.symm) (fun y => (hf i2 (by simp)).2.1 y.symm) ho, r⟩
      · have tr : ∀ b u, H b = some u → ∀ f ∈ [z, TI, TO, i1, i2], b ≠ f := fun b u e f m y => by subst y; rw [(hf b m).1] at e; cases e
        refine (I.hok q u e).stay (fun c v hc r => kk c v ?_ ?_ ?_ ?_ r) (fun _ r => r) fun _ _ r => r
        all_goals (rcases hc with y | y <;> first | (rw [y]; exact tr q u e _ (by simp)) | exact tr c _ y _ (by simp))
  self := fun _ _ _ _ _ st h => wpAny_pyIter_zip st.1 h
section
variable {cl : Nat → Addr} {X : Cx} {l l2 : Expr} {fe fe2 : FE} {pos p tp : Pos} {elts : List Expr} {x1 : Nat}
def zipD (xs ys : List Dat) : List Dat := (xs.zip ys).map fun q => Dat.tup [q.1, q.2]
theorem zipD_get {xs ys : List Dat} {i : Nat} {d : Dat} (h : (zipD xs ys)[i]? = some d) : ∃ x y, xs[i]? = some x ∧ ys[i]? = some y ∧ d = .tup [x, y] := by
  unfold zipD at h
  rw [List.getElem?_map] at h
  cases e : (xs.zip ys)[i]? with
  | none => rw [e] at h; cases h
  | some q =>
    rw [e] at h
    obtain ⟨h1, h2⟩ := List.getElem?_zip_eq_some.mp e
    exact ⟨q.1, q.2, h1, h2, (Option.some.inj h).symm⟩
theorem walk_zip {K : PySem.W.Frag} {F : Hp} {a b : Addr} {vs ws : List V} {ds es : List Dat} (h : SqL K F a vs) (h' : SqL K F b ws) (r : RepL K cl F vs ds) (r' : RepL K cl F ws es) : Walk K cl F (Itz K a b) (zipD ds es) where
  go := fun i H s hi => by
    have hl : i < min ds.length es.length := by simpa [zipD] using hi
    exact ⟨vs, ws, _, _, s.seq h, s.seq h', List.getElem?_eq_getElem (by rw [r.length]; omega), List.getElem?_eq_getElem (by rw [r'.length]; omega)⟩
  stop := fun i H s hi => by
    have hl : min ds.length es.length ≤ i := by simpa [zipD] using hi
    exact ⟨vs, ws, s.seq h, s.seq h', by rw [r.length, r'.length]; omega⟩
  yld := fun i H Fc x H' d s1 s2 hd y => by
    obtain ⟨p, v, u, rfl, hp, rfl, y⟩ := y
    obtain ⟨d0, d1, e0, e1, rfl⟩ := zipD_get hd
    have hFp : Fc p = none := none_of s2 hp
    obtain ⟨y1, y2⟩ := y vs ws ((s1.trans s2).seq h) ((s1.trans s2).seq h')
    exact ⟨upd Fc p (.tup [v, u]), same_upd hp, same_upd2 s2, Grow.new s2 hp, .tup' upd_same (.cons (((pget i r y1 e0).mono s1).mono (same_upd hFp)) (.cons (((pget i r' y2 e1).mono s1).mono (same_upd hFp)) .nil))⟩
end
end MB
namespace MB
open PySem PySem.Spec PyProof.Rows L2
def tyN : Dat → Option String
  | .non => some "NoneType"
  | .bl _ => some "bool"
  | .int _ => some "int"
  | .str _ => some "str"
  | .tup _ => some "tuple"
  | .lst _ => some "list"
  | .dK _ => some "dict"
  | .dT _ => some "dict"
  | .obj _ _ => none
  | .bad _ => none
section
variable {cl : Nat → Addr} {X : Cx} {e a b c : Expr} {es : List Expr} {fa fb fc : FE} {fl : FA} {pos p p2 : Pos} {i : Nat} {x : Str}
theorem isinst_D {pins : List (Addr × Obj)} {σ : St} {H F : Hp} {s : Shared} {v : V} {d : Dat} {n : String} {u c : Value} {bo : Bool} {A : Around} {Q : Value → Shared → Prop} {E : Value → Shared → Prop} (I : L2.Inv X pins σ H s) (sub : Same F H) (r : Rep X.K cl F v d) (hn : tyN d = some n) (rx : RelV v u)
    (e : PySem.W.kitOne X.K (.type n) c = some bo) (h : ∀ tk, Q (.bool bo) { s with toks := tk }) : wpAny (model X.prog X.w) A (call (.builtin "isinstance") [u, c]) Q E s := by
  cases r with
  | non => cases hn; exact isinst_ok I rx .non e h
  | bl b => cases hn; exact isinst_ok I rx (.bl b) e h
  | int i => cases hn; exact isinst_ok I rx (.int i) e h
  | str x => cases hn; exact isinst_ok I rx (.str x) e h
  | tup h1 _ _ => cases hn; exact isinst_ok I rx (.tup (sub _ _ h1)) e h
  | @lst a _ _ h1 _ _ =>
    cases hn
    cases (show u = Value.ref a from rx)
    obtain ⟨its, _, ⟨o, n, e1, c1, _⟩, _⟩ := I.list (sub.seq h1)
    exact PySem.W.kia_one PySem.W.kitx_list I.kIn ⟨o, e1, c1⟩ e (fun z => nomatch z) h
  | dK h1 _ _ => cases hn; exact isinst_ok I rx (.dK (sub _ _ h1)) e h
  | dT h1 _ _ => cases hn; exact isinst_ok I rx (.dT (sub _ _ h1)) e h
  | obj _ _ _ => cases hn
def isiD (g : String → Option Bool) (d : Dat) : Option Dat := (tyN d).bind fun n => (g n).bind fun b => some (.bl b)
theorem pp_isi {T : String} {g : String → Option Bool} (hT : ∀ K n b, g n = some b → PySem.W.kitOne K (.type n) (.type T) = some b) (hgi : Gl X "isinstance") (hmi : X.mg "isinstance" = none) (hg : Gl X x) (hm : X.mg x = none) (hv : bootBuiltins x = some (.type T)) (hn : x ≠ "__name__") (hd : (x == ("__debug__" : Str)) = false) (ha : PP cl X e fa)
    (he : starEach [e, .Name x p2] X.env = (false, eval e X.env) :: starEach [.Name x p2] X.env := by rfl) (he2 : starEach [.Name x p2] X.env = (false, eval (.Name x p2) X.env) :: starEach [] X.env := by rfl) (hpl : (backTo pos (starEach [.Name x p2] X.env)).any (·.1) = false := by rfl) :
    PP cl X (.Call (.Name "isinstance" p) [e, .Name x p2] [] pos) (e1 (isiD g) fa) := fun pins s σ H Q I h => by
  obtain ⟨δ, F, ω, d, hf, er, k⟩ := h
  obtain ⟨dx, hx, hf⟩ := e1_some hf
  obtain ⟨n, hn1, hf⟩ := bind1 hf
  obtain ⟨bb, hb, hf⟩ := bind1 hf
  obtain rfl := Option.some.inj hf
  refine (pe_callB (r := fun xs H Q => ∃ v F' d' t, xs = [v, .ty T] ∧ Same F' H ∧ Rep X.K cl F' v d' ∧ tyN d' = some t ∧ g t = some bb ∧ Q (.bl bb) H) (fun pins s σ H xs us Q I r h => ?_) hgi hmi (by decide +kernel : bootBuiltins "isinstance" = some (.builtin "isinstance")) (pa_cons ha (pa_cons (pe_bltn hg hm hv (v := .ty T) rfl hn hd) pa_nil he2) he) (hn := by decide +kernel) (hdb := by decide +kernel) (he := he) (hpl := hpl)) pins s σ H Q I
    ⟨δ, F, ω, dx, hx, er, fun v H1 F1 s1 s1' g1 r1 => ⟨v, F1, dx, n, rfl, s1', r1, hn1, hb, (k.step s1 g1).here s1' (.bl bb)⟩⟩
  obtain ⟨v, F', d', t, rfl, sub, rv, ty, ht, q⟩ := h
  obtain ⟨u, w, rfl, q1, q2⟩ := vals2 r
  cases q2
  exact isinst_D I sub rv ty q1 (hT X.K t bb ht) fun tk => ⟨.bl bb, H, I.tok tk, rfl, q⟩
def gInt : String → Option Bool | "int" => some true | "bool" => some true | "NoneType" => some false | "str" => some false | "tuple" => some false | "list" => some false | "dict" => some false | _ => none
def gBool : String → Option Bool | "int" => some false | "bool" => some true | "NoneType" => some false | "str" => some false | "tuple" => some false | "list" => some false | "dict" => some false | _ => none
def gList : String → Option Bool | "int" => some false | "bool" => some false | "NoneType" => some false | "str" => some false | "tuple" => some false | "list" => some true | "dict" => some false | _ => none
def gTuple : String → Option Bool | "int" => some false | "bool" => some false | "NoneType" => some false | "str" => some false | "tuple" => some true | "list" => some false | "dict" => some false | _ => none
def isiBool := isiD gBool
def isiList := isiD gList
def isiTuple := isiD gTuple
theorem kit_int (K : PySem.W.Frag) (n : String) (b : Bool) (h : gInt n = some b) : PySem.W.kitOne K (.type n) (.type "int") = some b := by
  unfold gInt at h
  split at h
  all_goals first | (cases h; rfl) | (cases h; kernel_rfl) | cases h
theorem kit_bool (K : PySem.W.Frag) (n : String) (b : Bool) (h : gBool n = some b) : PySem.W.kitOne K (.type n) (.type "bool") = some b := by
  unfold gBool at h
  split at h
  all_goals first | (cases h; rfl) | (cases h; kernel_rfl) | cases h
theorem kit_list (K : PySem.W.Frag) (n : String) (b : Bool) (h : gList n = some b) : PySem.W.kitOne K (.type n) (.type "list") = some b := by
  unfold gList at h
  split at h
  all_goals first | (cases h; rfl) | (cases h; kernel_rfl) | cases h
theorem kit_tuple (K : PySem.W.Frag) (n : String) (b : Bool) (h : gTuple n = some b) : PySem.W.kitOne K (.type n) (.type "tuple") = some b := by
  unfold gTuple at h
  split at h
  all_goals first | (cases h; rfl) | (cases h; kernel_rfl) | cases h
theorem pp_isiBool (hgi : Gl X "isinstance") (hmi : X.mg "isinstance" = none) (hg : Gl X "bool") (hm : X.mg "bool" = none) (ha : PP cl X e fa) (he : starEach [e, .Name "bool" p2] X.env = (false, eval e X.env) :: starEach [.Name "bool" p2] X.env := by rfl) :
    PP cl X (.Call (.Name "isinstance" p) [e, .Name "bool" p2] [] pos) (e1 isiBool fa) := pp_isi kit_bool hgi hmi hg hm (by decide +kernel) (by decide +kernel) (by decide +kernel) ha he
theorem pp_isiList (hgi : Gl X "isinstance") (hmi : X.mg "isinstance" = none) (hg : Gl X "list") (hm : X.mg "list" = none) (ha : PP cl X e fa) (he : starEach [e, .Name "list" p2] X.env = (false, eval e X.env) :: starEach [.Name "list" p2] X.env := by rfl) :
    PP cl X (.Call (.Name "isinstance" p) [e, .Name "list" p2] [] pos) (e1 isiList fa) := pp_isi kit_list hgi hmi hg hm (by decide +kernel) (by decide +kernel) (by decide +kernel) ha he
theorem pp_isiTuple (hgi : Gl X "isinstance") (hmi : X.mg "isinstance" = none) (hg : Gl X "tuple") (hm : X.mg "tuple" = none) (ha : PP cl X e fa) (he : starEach [e, .Name "tuple" p2] X.env = (false, eval e X.env) :: starEach [.Name "tuple" p2] X.env := by rfl) :
    PP cl X (.Call (.Name "isinstance" p) [e, .Name "tuple" p2] [] pos) (e1 isiTuple fa) := pp_isi kit_tuple hgi hmi hg hm (by decide +kernel) (by decide +kernel) (by decide +kernel) ha he
end
end MB
namespace MB
open PySem PySem.Spec PyProof.Rows L2
section
variable {cl : Nat → Addr} {X : Cx} {e a b c : Expr} {es : List Expr} {fl : FA} {pos pos' pos2 p : Pos} {i : Nat} {x y : Str}
structure CalO (P : Program) (w : World) (K : PySem.W.Frag) (mg : Str → Option Value) (base : Heap) (cl : Nat → Addr) (x : Str) (k : Nat) (ps : List Str) (fo : List Dat → Option O0) : Prop where
  ex : ∃ f fd, FnOk P w K mg base CX0 k f fd ps (spO K cl ps.length fo) ∧ mg x = some (.ref f) ∧ PySem.W.keepIn K (.ref f) = true ∧ L2.Binds K fd ps []
theorem pb_asgOC {k j n : Nat} {ps : List Str} {fo : List Dat → Option O0} (C : CalO X.prog X.w X.K X.mg X.base cl x k ps fo) (hr : Room j X.A) (hg : Gl X x) (ha : PPA cl X (e :: es) fl) (hN : X.N.Nodup) (hi : X.N[i]? = some y) (hy : Loc X.env.scope y) (hj : k ≤ j := by decide) (hn : ps.length = n := by rfl) (hx : Passes CX0 X E0 := by exact pass0)
    (hdb : (x == ("__debug__" : Str)) = false := by decide +kernel) (he : starEach (e :: es) X.env = (false, eval e X.env) :: starEach es X.env := by rfl) (hpl : (backTo pos (starEach es X.env)).any (·.1) = false := by rfl)
    (hs : swapsWith (.Call (.Name x p) (e :: es) [] pos) (some (.Name y pos')) pos2.line X.env = pure false := by rfl)
    (hf : X.fn y = true ∨ X.env.scope.names.lookup y = some .local := by first | exact .inl rfl | exact .inr rfl | assumption) :
    PB1 cl X (.Assign [.Name y pos'] (.Call (.Name x p) (e :: es) [] pos) pos2) (sAsgO i n fo fl) := by
  obtain ⟨f, fd, h1, h2, h3, h4⟩ := C.ex
  subst hn
  exact pb_asgO h1 (hr.mono hj) hg h2 h3 h4 hx ha hN hi hy hdb he hpl hs hf
def compOk (sn : List (Str × NameKind)) (N0 : List Str) (scope : Scope) (vars : List Str) (caps : List Nat) (N : List Str) : Bool :=
  decide (scope.kind = .function) && scope.names.all (fun y => decide (y.2 ≠ .cell)) && scope.names.all (fun y => decide (y.2 ≠ .local) || decide (scope.names.lookup y.1 = some .local)) &&
  scope.names.all (fun y => decide (y.2 ≠ .free) || (decide (sn.lookup y.1 = some .cell) || decide (sn.lookup y.1 = some .free))) && decide (N = vars ++ caps.filterMap fun j => N0[j]?) &&
  caps.all fun j => match N0[j]? with
    | some x => (decide (sn.lookup x = some .cell) || decide (sn.lookup x = some .free)) && decide (scope.names.lookup x = some .free)
    | none => false
theorem compSc_of {scope : Scope} {vars N : List Str} {caps : List Nat} (sn : List (Str × NameKind)) (N0 : List Str) (hk : ∀ x, X.env.kindOf x = sn.lookup x) (h0 : X.N = N0) (h : compOk sn N0 scope vars caps N = true) : CompSc X scope vars caps N := by
  unfold compOk at h
  simp only [Bool.and_eq_true, Bool.or_eq_true, List.all_eq_true, decide_eq_true_eq] at h
  obtain ⟨⟨⟨⟨⟨h1, h2⟩, h3⟩, h4⟩, h5⟩, h6⟩ := h
  refine ⟨h1, h2, fun y hy hl => (h3 y hy).resolve_left fun z => z hl, fun y hy hf => ?_, by rw [h0]; exact h5, fun j hj => ?_⟩
  · rw [hk]
    exact (h4 y hy).resolve_left fun z => z hf
  · have q := h6 j hj
    rw [h0]
    cases e : N0[j]? with
    | none => rw [e] at q; cases q
    | some x =>
      rw [e] at q
      simp only [Bool.and_eq_true, Bool.or_eq_true, decide_eq_true_eq] at q
      exact ⟨x, rfl, by rw [hk]; exact q.1, q.2⟩
def strEs (xs : List (Str × Pos)) : List Expr := xs.map fun x => .Constant (.str x.1) 0 x.2
theorem ppa_strs : ∀ xs : List (Str × Pos), PPA cl X (strEs xs) (fun _ => some (xs.map fun x => .str x.1))
  | [] => ppa_nil
  | x :: xs => by
    have h := ppa_cons (cl := cl) (X := X) (a := .Constant (.str x.1) 0 x.2) (pp_str (j := 0)) (ppa_strs xs) rfl
    have e : aC (eC (.str x.1)) (fun _ => some (xs.map fun x => Dat.str x.1)) = fun _ => some ((x :: xs).map fun x => Dat.str x.1) := rfl
    rw [e] at h
    exact h
def aStrs (xs : List Str) : FA := fun _ => some (xs.map .str)
def unStr : List Expr → List (Str × Pos)
  | .Constant (.str x) _ p :: r => (x, p) :: unStr r
  | _ => []
theorem ppa_strsE {xs : List Str} (he : strEs (unStr es) = es) (hx : (unStr es).map (·.1) = xs) : PPA cl X es (aStrs xs) := by
  have h := ppa_strs (cl := cl) (X := X) (unStr es)
  rw [he] at h
  subst hx
  have e : aStrs ((unStr es).map (·.1)) = fun _ => some ((unStr es).map fun x => Dat.str x.1) := by unfold aStrs; funext δ; rw [List.map_map]; rfl
  rw [e]
  exact h
theorem repL_of_ints {K : PySem.W.Frag} {F : Hp} : ∀ ns : List Int, RepL K cl F (ns.map V.int) (ns.map .int)
  | [] => .nil
  | n :: r => .cons (.int n) (repL_of_ints r)
end
end MB
namespace MB
open PySem PySem.Spec PyProof.Rows L2
section
variable {cl : Nat → Addr} {X : Cx} {e a b c : Expr} {es : List Expr} {fa fb fc fe : FE} {fl : FA} {pos pos' pos2 p p2 p3 p4 : Pos} {i : Nat} {x y : Str}
end
end MB
namespace MB
open PySem PySem.Spec PyProof.Rows L2
section
variable {cl : Nat → Addr} {X : Cx} {tg a b c : Expr} {fa fb fc : FE} {pos p : Pos}
theorem pp_globI {x : Str} {i : Int} (hg : Gl X x) (hm : ∃ t, X.mg x = some (.int i t)) (hd : (x == ("__debug__" : Str)) = false := by decide +kernel) : PP cl X (.Name x pos) (eC (.int i)) := fun pins s σ H Q I h => by
  obtain ⟨δ, F, ω, d, hf, er, k⟩ := h
  obtain rfl : Dat.int i = d := Option.some.inj hf
  obtain ⟨t, hm⟩ := hm
  exact pe_glob (v := .int i) hg hm ⟨t, rfl⟩ hd pins s σ H Q I (k.here er.sub (.int i))
end
end MB
namespace MB
open PySem PySem.Spec PyProof.Rows L2
section
variable {cl : Nat → Addr} {X : Cx} {e a b c o : Expr} {es : List Expr} {fa fb fc fe fo : FE} {fl : FA} {pos pos' pos2 p apos cpos : Pos} {i : Nat} {x name : Str} {id : String}
def eM (g : Str → List Dat → Option Dat) (fo : FE) (fl : FA) : FE := fun δ => (fo δ).bind fun x => (fl δ).bind fun ds => match x with
  | .str z => g z ds
  | _ => none
theorem pp_mtS {r : V → List V → Hp → VK → Prop} {g : Str → List Dat → Option Dat} (slot : PySem.Slot "str" name id) (hty : typeOf (.builtin id) = pure (.type "method_descriptor")) (hm : MtR X id r)
    (hd : ∀ F H z vs ds d Q, g z ds = some d → Same F H → RepL X.K cl F vs ds → Post X.K cl F H d Q → r (.str z) vs H Q) (ho : PP cl X o fo) (ha : PPA cl X (e :: es) fl)
    (hbase : attributeBase o name X.env (eval o X.env) = eval o X.env := by rfl)
    (hfew : ((backTo cpos (starEach (e :: es) X.env)).all (fun x => !x.1) && (backToKw cpos (keywordEach [] X.env)).all (fun x => x.1.isSome)
      && decide ((e :: es).length + ([] : List Keyword).length + (if ([] : List Keyword).isEmpty then 0 else 1) < 30)) = true := by rfl)
    (hline : (apos.endLine == cpos.line) = true := by rfl) (hs : starEach (e :: es) X.env = (false, eval e X.env) :: starEach es X.env := by rfl) (hplain : (backTo cpos (starEach es X.env)).any (·.1) = false := by rfl) :
    PP cl X (.Call (.Attribute o name apos) (e :: es) [] cpos) (eM g fo fl) := fun pins s σ H Q I h => by
  obtain ⟨δ, F, ω, d, hf, er, k⟩ := h
  obtain ⟨dx, hx, hf⟩ := bind1 hf
  obtain ⟨ds, hds, hf⟩ := bind1 hf
  cases dx with
  | str z =>
    refine pe_bm PySem.F.plainAttrs_str slot hty hm ho ha hbase hfew hline hs hplain pins s σ H Q I ⟨δ, F, ω, _, hx, er, fun v H1 F1 s1 s1' g1 r1 => ?_⟩
    rw [r1.str_inv]
    exact ⟨rfl, δ, F1, ω, ds, hds, er.grow s1 s1' g1, fun vs H2 F2 s2 s2' g2 r2 => hd F2 H2 z vs ds d Q hf s2' r2 ((k.step s1 g1).step s2 g2)⟩
  | _ => cases hf
theorem vals_strs : ∀ (l : List (Str × Tok)), Vals ((l.map (·.1)).map .str) (strValues l)
  | [] => .nil
  | (x, t) :: l => .cons ⟨t, rfl⟩ (vals_strs l)
theorem strs_vals : ∀ {ts : List Str} {us : List Value}, Vals (ts.map .str) us → ∃ l : List (Str × Tok), us = strValues l ∧ l.map (·.1) = ts
  | [], us, r => by cases r; exact ⟨[], rfl, rfl⟩
  | x :: ts, us, r => by
    cases r with
    | cons q r =>
      obtain ⟨t, rfl⟩ := q
      obtain ⟨l, rfl, e⟩ := strs_vals r
      exact ⟨(x, t) :: l, rfl, by rw [List.map_cons, e]⟩
theorem repL_strs {K : PySem.W.Frag} {F : Hp} : ∀ (ts : List Str), RepL K cl F (ts.map .str) (ts.map .str)
  | [] => .nil
  | x :: ts => .cons (.str x) (repL_strs ts)
theorem strs_repL {K : PySem.W.Frag} {F : Hp} : ∀ {ts : List Str} {vs : List V}, RepL K cl F vs (ts.map .str) → vs = ts.map .str
  | [], vs, r => by cases r; rfl
  | x :: ts, vs, r => by
    cases r with
    | cons q r => rw [q.str_inv, strs_repL r]; rfl
theorem mt_split : MtR X "str.split" (fun x xs H Q => ∃ a b, x = .str a ∧ xs = [.str b] ∧ (b.length == 0) = false ∧ a.length + 2 ≤ sizeLine ∧ ∀ p, H p = none → Q (.ref p) (upd H p (.lst ((Txt.split a b).map .str)))) := by
  intro pins s σ H x xs v us Q I rx rs h
  obtain ⟨a, b, rfl, rfl, hb, ha, q⟩ := h
  obtain ⟨t, rfl⟩ := rx
  obtain ⟨u, rfl, ru⟩ := vals1 rs
  obtain ⟨t', rfl⟩ := ru
  have hle := split_le a b
  have fin : ∀ (l : List (Str × Tok)) (k : Nat), l.map (·.1) = Txt.split a b → EP X pins σ Q (.ref s.heap.objs.size) { s with heap := s.heap.push { cls := .type "list", data := .seq (strValues l).toArray }, toks := k } := fun l k e =>
    ⟨.ref _, _, I.lnew (t' := k) (by rw [← e]; exact vals_strs l) (by rw [List.length_map]; omega), rfl, q _ I.fresh⟩
  cases h1 : (decide (a.length < b.length) || decide (Builtin.Str.strKind a < Builtin.Str.strKind b)) with
  | true =>
    refine call_meets PySem.F.slot_str_split (typeIs_str _ _ _) PySem.F.entry_str_split (PySem.F.args_str_split_2 _ _) (meets_str_split_cannot_occur a b t t' h1) (fin [(a, t)] s.toks ?_)
    unfold Txt.split
    rw [if_pos h1]
    rfl
  | false =>
    cases hf : (Builtin.Str.occurrences a b 0 a.length (a.length + 1)).isEmpty with
    | true =>
      refine call_meets PySem.F.slot_str_split (typeIs_str _ _ _) PySem.F.entry_str_split (PySem.F.args_str_split_2 _ _) (meets_str_split_not_found a b t t' h1 hb hf) (fin [(a, t)] s.toks ?_)
      unfold Txt.split
      rw [if_neg (ne_true_of_eq_false h1), if_pos hf]
      rfl
    | false =>
      have e : Txt.split a b = Builtin.Str.partsBetween a (Builtin.Str.occurrences a b 0 a.length (a.length + 1)) b.length := by
        unfold Txt.split
        rw [if_neg (ne_true_of_eq_false h1), if_neg (ne_true_of_eq_false hf)]
      refine call_meets PySem.F.slot_str_split (typeIs_str _ _ _) PySem.F.entry_str_split (PySem.F.args_str_split_2 _ _) (meets_str_split_sep a b t t' h1 hb hf (by omega) (by rw [← e]; omega)) ?_
      show EP X pins σ Q _ _
      rw [strsFrom_eq]
      exact fin _ _ ((numbered_texts _ _).trans e.symm)
def gSplit (z : Str) (ds : List Dat) : Option Dat := match ds with
  | [.str y] => if (y.length == 0) = false ∧ z.length + 2 ≤ sizeLine then some (.lst ((Txt.split z y).map .str)) else none
  | _ => none
theorem pp_split (ho : PP cl X o fo) (ha : PPA cl X [e] fl) (hbase : attributeBase o "split" X.env (eval o X.env) = eval o X.env := by rfl)
    (hfew : ((backTo cpos (starEach [e] X.env)).all (fun x => !x.1) && (backToKw cpos (keywordEach [] X.env)).all (fun x => x.1.isSome)
      && decide ([e].length + ([] : List Keyword).length + (if ([] : List Keyword).isEmpty then 0 else 1) < 30)) = true := by rfl)
    (hline : (apos.endLine == cpos.line) = true := by rfl) (hs : starEach [e] X.env = (false, eval e X.env) :: starEach [] X.env := by rfl) (hplain : (backTo cpos (starEach [] X.env)).any (·.1) = false := by rfl) : PP cl X (.Call (.Attribute o "split" apos) [e] [] cpos) (eM gSplit fo fl) :=
  pp_mtS PySem.F.slot_str_split PySem.F.type_str_split mt_split (fun F H z vs ds d Q hg sm r k => by
    unfold gSplit at hg
    split at hg
    · split at hg
      · rename_i y c
        cases hg
        obtain ⟨v, rfl, r0⟩ := one_inv r
        rw [r0.str_inv]
        exact ⟨z, y, rfl, rfl, c.1, c.2, fun p hp => k.new sm hp (.lst' (SqL.of upd_same) (repL_strs _))⟩
      · cases hg
    · cases hg) ho ha hbase hfew hline hs hplain
def strsD : List Dat → Option (List Str)
  | [] => some []
  | .str x :: r => (strsD r).bind fun xs => some (x :: xs)
  | _ :: _ => none
theorem strsD_inv : ∀ {ds : List Dat} {ts : List Str}, strsD ds = some ts → ds = ts.map .str
  | [], ts, h => by cases h; rfl
  | .str x :: r, ts, h => by
    unfold strsD at h
    obtain ⟨xs, hr, h⟩ := bind1 h
    cases h
    rw [strsD_inv hr]
    rfl
  | .non :: _, ts, h => by cases h
  | .bl _ :: _, ts, h => by cases h
  | .int _ :: _, ts, h => by cases h
  | .tup _ :: _, ts, h => by cases h
  | .lst _ :: _, ts, h => by cases h
  | .dK _ :: _, ts, h => by cases h
  | .dT _ :: _, ts, h => by cases h
  | .obj _ _ :: _, ts, h => by cases h
  | .bad _ :: _, ts, h => by cases h
theorem strsD_map : ∀ ts : List Str, strsD (ts.map .str) = some ts
  | [] => rfl
  | x :: ts => by
    rw [List.map_cons]
    unfold strsD
    rw [strsD_map ts]
    rfl
theorem mt_join : MtR X "str.join" (fun x xs H Q => ∃ a q ts, x = .str a ∧ xs = [.ref q] ∧ SqL X.K H q (ts.map .str) ∧ JoinOk a ts = true ∧ Q (.str (Str.join a ts)) H) := by
  intro pins s σ H x xs v us Q I rx rs h
  obtain ⟨a, q, ts, rfl, rfl, hq, hok, k⟩ := h
  obtain ⟨t, rfl⟩ := rx
  obtain ⟨u, rfl, ru⟩ := vals1 rs
  cases ru
  obtain ⟨its, rv, pl, hz⟩ := I.list hq
  obtain ⟨l, rfl, hl⟩ := strs_vals rv
  refine SC.join pl.isList hl hok fun t' kk => ?_
  refine ⟨.str (Str.join a ts), H, I.tok kk, ⟨t', ?_⟩, k⟩
  rw [← StrLaws.glued_eq_join]
  rfl
def gJoin (z : Str) (ds : List Dat) : Option Dat := match ds with
  | [.lst xs] => (strsD xs).bind fun ts => if JoinOk z ts = true then some (.str (Str.join z ts)) else none
  | _ => none
theorem pp_join (ho : PP cl X o fo) (ha : PPA cl X [e] fl) (hbase : attributeBase o "join" X.env (eval o X.env) = eval o X.env := by rfl)
    (hfew : ((backTo cpos (starEach [e] X.env)).all (fun x => !x.1) && (backToKw cpos (keywordEach [] X.env)).all (fun x => x.1.isSome)
      && decide ([e].length + ([] : List Keyword).length + (if ([] : List Keyword).isEmpty then 0 else 1) < 30)) = true := by rfl)
    (hline : (apos.endLine == cpos.line) = true := by rfl) (hs : starEach [e] X.env = (false, eval e X.env) :: starEach [] X.env := by rfl) (hplain : (backTo cpos (starEach [] X.env)).any (·.1) = false := by rfl) : PP cl X (.Call (.Attribute o "join" apos) [e] [] cpos) (eM gJoin fo fl) :=
  pp_mtS PySem.F.slot_str_join PySem.F.type_str_join mt_join (fun F H z vs ds d Q hg sm r k => by
    unfold gJoin at hg
    split at hg
    · rename_i xs
      obtain ⟨ts, hts, hg⟩ := bind1 hg
      split at hg
      · rename_i c
        cases hg
        obtain ⟨v, rfl, r0⟩ := one_inv r
        rw [strsD_inv hts] at r0
        obtain ⟨q, ws, rfl, q1, r1⟩ := r0.lst_inv
        rw [strs_repL r1] at q1
        exact ⟨z, q, ts, rfl, rfl, sm.seq q1, c, k.here sm (.str _)⟩
      · cases hg
    · cases hg) ho ha hbase hfew hline hs hplain
def dStrB : List Dat → Option Dat
  | [.int i] => if -(2 ^ 100) < i ∧ i < 2 ^ 100 then some (.str (Str.ofString (toString i))) else none
  | [.str x] => some (.str x)
  | _ => none
theorem call_strI : CallR X (.type "str") (fun xs H Q => ∃ i, xs = [.int i] ∧ -(2 ^ 100) < i ∧ i < 2 ^ 100 ∧ Q (.str (Str.ofString (toString i))) H) := fun pins s σ H xs us Q I r h => by
  obtain ⟨i, rfl, h1, h2, q⟩ := h
  obtain ⟨u, rfl, ru⟩ := vals1 r
  obtain ⟨t, rfl⟩ := ru
  exact P.str_of_int (shown h1 h2 (by decide +kernel)) ⟨.str _, H, I.tok _, ⟨_, rfl⟩, q⟩
theorem call_strS : CallR X (.type "str") (fun xs H Q => ∃ x, xs = [.str x] ∧ Q (.str x) H) := fun pins s σ H xs us Q I r h => by
  obtain ⟨x, rfl, q⟩ := h
  obtain ⟨u, rfl, ru⟩ := vals1 r
  obtain ⟨t, rfl⟩ := ru
  exact P.str_of_str ⟨.str x, H, I, ⟨t, rfl⟩, q⟩
theorem pp_strc (hg : Gl X "str") (hm : X.mg "str" = none) (ha : PPA cl X [e] fl) (he : starEach [e] X.env = (false, eval e X.env) :: starEach [] X.env := by rfl) : PP cl X (.Call (.Name "str" p) [e] [] pos) (eB dStrB fl) := by
  refine pp_callTy (call_strI.or call_strS) (fun F H vs ds d Q h s r k => ?_) hg hm (by decide +kernel) ha (he := he)
  unfold dStrB at h
  split at h
  · split at h
    · rename_i c
      cases h
      obtain ⟨v, rfl, r0⟩ := one_inv r
      rw [r0.int_inv]
      exact .inl ⟨_, rfl, c.1, c.2, k.here s (.str _)⟩
    · cases h
  · cases h
    obtain ⟨v, rfl, r0⟩ := one_inv r
    rw [r0.str_inv]
    exact .inr ⟨_, rfl, k.here s (.str _)⟩
  · cases h
def dTupleB : List Dat → Option Dat
  | [.lst xs] => if xs.length ≤ sizeLine then some (.tup xs) else none
  | _ => none
theorem call_tupL : CallR X (.type "tuple") (fun xs H Q => ∃ a ws, xs = [.ref a] ∧ SqL X.K H a ws ∧ ∀ p, H p = none → Q (.ref p) (upd H p (.tup ws))) := fun pins s σ H xs us Q I r h => by
  obtain ⟨a, ws, rfl, hq, q⟩ := h
  obtain ⟨u, rfl, ru⟩ := vals1 r
  cases ru
  obtain ⟨its, rv, pl, hz⟩ := I.list hq
  have hl := rv.length
  refine call_tuple_list pl.isList (fun h' k => ?_) (by rw [List.size_toArray]; omega)
  have I1 : L2.Inv X pins σ H { s with heap := h' } := I.kept (t' := s.toks) k
  have I2 : L2.Inv X pins σ (upd H h'.objs.size (.tup ws)) { s with heap := h'.push { cls := .type "tuple", data := .seq its.toArray } } :=
    I1.laid (t' := s.toks) (fun _ _ z => Heap.get?_push_of_some _ z) (Nat.le_refl _) ⟨hz, its, rv, _, Heap.get?_push_size _ rfl, rfl, _, rfl⟩
  exact ⟨.ref h'.objs.size, _, I2, rfl, q _ I1.fresh⟩
theorem pp_tuple (hg : Gl X "tuple") (hm : X.mg "tuple" = none) (ha : PPA cl X [e] fl) (he : starEach [e] X.env = (false, eval e X.env) :: starEach [] X.env := by rfl) : PP cl X (.Call (.Name "tuple" p) [e] [] pos) (eB dTupleB fl) := by
  refine pp_callTy call_tupL (fun F H vs ds d Q h s r k => ?_) hg hm (by decide +kernel) ha (he := he)
  unfold dTupleB at h
  split at h
  · split at h
    · cases h
      obtain ⟨v, rfl, r0⟩ := one_inv r
      obtain ⟨a, ws, rfl, q, t⟩ := r0.lst_inv
      exact ⟨a, ws, rfl, s.seq q, fun l hl => k.new s hl (.tup' upd_same (t.mono (same_upd (none_of s hl))))⟩
    · cases h
  · cases h
def gStr : String → Option Bool | "int" => some false | "bool" => some false | "NoneType" => some false | "str" => some true | "tuple" => some false | "list" => some false | "dict" => some false | _ => none
def isiStr := isiD gStr
theorem kit_str (K : PySem.W.Frag) (n : String) (b : Bool) (h : gStr n = some b) : PySem.W.kitOne K (.type n) (.type "str") = some b := by
  unfold gStr at h
  split at h
  all_goals first | (cases h; rfl) | (cases h; kernel_rfl) | cases h
theorem pp_isiStr {p2 : Pos} (hgi : Gl X "isinstance") (hmi : X.mg "isinstance" = none) (hg : Gl X "str") (hm : X.mg "str" = none) (ha : PP cl X e fa) (he : starEach [e, .Name "str" p2] X.env = (false, eval e X.env) :: starEach [.Name "str" p2] X.env := by rfl) :
    PP cl X (.Call (.Name "isinstance" p) [e, .Name "str" p2] [] pos) (e1 isiStr fa) := pp_isi kit_str hgi hmi hg hm (by decide +kernel) (by decide +kernel) (by decide +kernel) ha he
theorem pp_globS {x z : Str} (hg : Gl X x) (hm : ∃ t, X.mg x = some (.str z t)) (hd : (x == ("__debug__" : Str)) = false := by decide +kernel) : PP cl X (.Name x pos) (eC (.str z)) := fun pins s σ H Q I h => by
  obtain ⟨δ, F, ω, d, hf, er, k⟩ := h
  obtain rfl : Dat.str z = d := Option.some.inj hf
  obtain ⟨t, hm⟩ := hm
  exact pe_glob (v := .str z) hg hm ⟨t, rfl⟩ hd pins s σ H Q I (k.here er.sub (.str z))
end
end MB
namespace MB
open PySem PySem.Spec PyProof.Rows L2
section
variable {cl : Nat → Addr} {X : Cx} {e a b c o elt target iter : Expr} {ifs : List Expr} {es : List Expr} {fa fb fc fe fo : FE} {fl : FA} {pos pos' pos2 p apos cpos : Pos} {i : Nat} {x name : Str} {id : String} {scope : Scope} {vars N : List Str} {caps : List Nat} {fi : FA} {g : FG} {t : FT}
def dIsN (d : Dat) : Option Dat := match d with | .bad _ => none | .non => some (.bl true) | _ => some (.bl false)
def dNotN (d : Dat) : Option Dat := match d with | .bad _ => none | .non => some (.bl false) | _ => some (.bl true)
theorem isN_rep {K : PySem.W.Frag} {F : Hp} {v : V} {d r : Dat} (q : Rep K cl F v d) (h : dIsN d = some r) : r = .bl (decide (v = .non)) := by
  cases q <;> cases h <;> rfl
theorem notN_rep {K : PySem.W.Frag} {F : Hp} {v : V} {d r : Dat} (q : Rep K cl F v d) (h : dNotN d = some r) : r = .bl (!decide (v = .non)) := by
  cases q <;> cases h <;> rfl
theorem pc_isNone {j} {p2 : Pos} (ha : PP cl X a fa) : PC X .Is a (.Constant .none j p2) (tP X.K cl (e1 dIsN fa)) := fun pins s σ H Q I h => by
  obtain ⟨δ, F, ω, d, hf, er, k⟩ := h
  obtain ⟨dx, hx, hf⟩ := e1_some hf
  refine pc_op op_isN ha pe_non pins s σ H Q I ⟨δ, F, ω, dx, hx, er, fun v H1 F1 s1 s1' g1 r1 => ⟨rfl, ?_⟩⟩
  rw [isN_rep r1 hf] at k
  exact (k.step s1 g1).here s1' (.bl _)
theorem pc_notNone {j} {p2 : Pos} (ha : PP cl X a fa) : PC X .IsNot a (.Constant .none j p2) (tP X.K cl (e1 dNotN fa)) := fun pins s σ H Q I h => by
  obtain ⟨δ, F, ω, d, hf, er, k⟩ := h
  obtain ⟨dx, hx, hf⟩ := e1_some hf
  refine pc_op op_notN ha pe_non pins s σ H Q I ⟨δ, F, ω, dx, hx, er, fun v H1 F1 s1 s1' g1 r1 => ⟨rfl, ?_⟩⟩
  rw [notN_rep r1 hf] at k
  exact (k.step s1 g1).here s1' (.bl _)
theorem ppt_isN {j} {p2 : Pos} (ha : PP cl X a fa) (hm : behindInMarks .Is (.Constant .none j p2) = false := by with_unfolding_all rfl) : PPT cl X (.Compare a [.Is] [.Constant .none j p2] pos) (b1 (e1 dIsN fa)) := ppt_of hm (pc_isNone ha)
theorem ppt_notN {j} {p2 : Pos} (ha : PP cl X a fa) (hm : behindInMarks .IsNot (.Constant .none j p2) = false := by with_unfolding_all rfl) : PPT cl X (.Compare a [.IsNot] [.Constant .none j p2] pos) (b1 (e1 dNotN fa)) := ppt_of hm (pc_notNone ha)
def eLenN (i : Nat) : FE := fun δ => match δ[i]? with | some (.o (.lst xs)) => some (.int (xs.length : Nat)) | some (.o (.val (.lst xs))) => some (.int (xs.length : Nat)) | _ => none
theorem pp_lenN (hg : Gl X "len") (hm : X.mg "len" = none) (hv : PE X e (tVar i)) (he : starEach [e] X.env = (false, eval e X.env) :: starEach [] X.env := by rfl) : PP cl X (.Call (.Name "len" p) [e] [] pos) (eLenN i) := fun pins s σ H Q I h => by
  obtain ⟨δ, F, ω, d, hf, er, k⟩ := h
  unfold eLenN at hf
  split at hf
  · rename_i xs hi
    cases hf
    obtain ⟨v, ev, q, vs, rfl, hw, hH, r⟩ := er.at_ i _ hi
    refine pe_callB call_len hg hm PySem.boot_len (pa_cons hv pa_nil he) (by decide) (by decide) he rfl pins s σ H Q I ⟨_, ev, ?_⟩
    exact ⟨_, _, rfl, .inl ⟨vs, SqL.of hH, rfl⟩, by rw [r.length]; exact k.here er.sub (.int _)⟩
  · rename_i xs hi
    cases hf
    obtain ⟨v, ev, r0⟩ := er.val hi
    obtain ⟨q, vs, rfl, hq, r⟩ := r0.lst_inv
    refine pe_callB call_len hg hm PySem.boot_len (pa_cons hv pa_nil he) (by decide) (by decide) he rfl pins s σ H Q I ⟨_, ev, ?_⟩
    exact ⟨_, _, rfl, .inl ⟨vs, er.sub.seq hq, rfl⟩, by rw [r.length]; exact k.here er.sub (.int _)⟩
  · cases hf
def eMulN (i : Nat) (fb : FE) : FE := fun δ => match δ[i]? with | some (.o (.lst xs)) => (fb δ).bind fun y => (match y with | .int k => if 0 ≤ k ∧ k ≤ 1000 ∧ xs.length ≤ 1000 then some (.lst (List.replicate k.toNat xs).flatten) else none | _ => none) | _ => none
theorem repL_rep {K : PySem.W.Frag} {F : Hp} {vs : List V} {ds : List Dat} (r : RepL K cl F vs ds) : ∀ n : Nat, RepL K cl F (List.replicate n vs).flatten (List.replicate n ds).flatten
  | 0 => .nil
  | n + 1 => by
    rw [List.replicate_succ, List.replicate_succ, List.flatten_cons, List.flatten_cons]
    exact pappend r (repL_rep r n)
theorem pp_mulN (hv : PE X a (tVar i)) (hb : PP cl X b fb) : PP cl X (.BinOp a .Mult b pos) (eMulN i fb) := fun pins s σ H Q I h => by
  obtain ⟨δ, F, ω, d, hf, er, k⟩ := h
  unfold eMulN at hf
  split at hf
  · rename_i xs hi
    obtain ⟨y, hy, hf⟩ := bind1 hf
    split at hf
    · rename_i n
      split at hf
      · rename_i cc
        cases hf
        obtain ⟨v, ev, q, vs, rfl, hw, hH, r⟩ := er.at_ i _ hi
        refine pe_op op_rep hv hb pins s σ H Q I ⟨_, ev, δ, F, ω, _, hy, er, fun vy H2 F2 s2 s2' g2 r2 => ⟨q, n, vs, rfl, r2.int_inv, s2 _ _ hH, ?_, ?_, ?_, fun l hl => ?_⟩⟩
        · have := cc.1; omega
        · have := cc.2.1; omega
        · rw [r.length, sizeLine_eq]
          have h1 : xs.length * n.toNat ≤ 1000 * 1000 := Nat.mul_le_mul cc.2.2 (by have := cc.2.1; omega)
          omega
        · exact (k.step s2 g2).new s2' hl (.lst' (SqL.of upd_same) (repL_rep (RepL.mono (same_upd (none_of s2' hl)) (r.mono g2.1)) _))
      · cases hf
    · cases hf
  · cases hf
def sRetE : FS := fun _ => some (.ro (.lst []))
theorem pb_retE {p2 : Pos} : PB1 cl X (.Return (some (.List [] p2)) pos) sRetE := fun pins s σ H D I h => by
  obtain ⟨B, F0, P, δ, o, hw, ⟨F, ω, sr⟩, out⟩ := h
  obtain rfl := Option.some.inj hw
  refine ps_ret (pe_lst pa_nil) pins s σ H D I ⟨Nat.zero_le _, fun q hq => out _ _ ⟨F, fun z => if z = q then some (0, none) else none, (0, none), sr.base.trans (same_upd hq), sr.er.sub.trans (same_upd hq), sr.grow, fun z e => ?_, q, [], rfl, if_pos rfl, upd_same, .nil⟩⟩
  by_cases zz : z = q
  · subst zz; exact ⟨none_of sr.er.sub hq, none_of sr.base hq⟩
  · dsimp only at e; rw [if_neg zz] at e; cases e
def sNewE (i : Nat) (fe : FE) : FS := fun δ => match fe δ with | some (.lst xs) => some (.nx (δ.set i (.o (.lst xs)))) | _ => none
theorem pb_newSp (hN : X.N.Nodup) (hi : X.N[i]? = some x) (hx : Loc X.env.scope x) (ho : PP cl X o fo) (ha : PPA cl X [e] fl) (hbase : attributeBase o "split" X.env (eval o X.env) = eval o X.env := by rfl)
    (hfew : ((backTo cpos (starEach [e] X.env)).all (fun x => !x.1) && (backToKw cpos (keywordEach [] X.env)).all (fun x => x.1.isSome)
      && decide ([e].length + ([] : List Keyword).length + (if ([] : List Keyword).isEmpty then 0 else 1) < 30)) = true := by rfl)
    (hline : (apos.endLine == cpos.line) = true := by rfl) (hs : starEach [e] X.env = (false, eval e X.env) :: starEach [] X.env := by rfl) (hplain : (backTo cpos (starEach [] X.env)).any (·.1) = false := by rfl)
    (hsw : swapsWith (.Call (.Attribute o "split" apos) [e] [] cpos) (some (.Name x pos')) pos.line X.env = pure false := by rfl)
    (hf : X.fn x = true ∨ X.env.scope.names.lookup x = some .local := by first | exact .inl rfl | exact .inr rfl | assumption) : PB1 cl X (.Assign [.Name x pos'] (.Call (.Attribute o "split" apos) [e] [] cpos) pos) (sNewE i (eM gSplit fo fl)) := fun pins s σ H D I h => by
  obtain ⟨B, F0, P, δ, oo, hw, ⟨F, ω, sr⟩, out⟩ := h
  unfold sNewE at hw
  split at hw
  · rename_i xs hd
    obtain rfl := Option.some.inj hw
    obtain ⟨dx, hdx, hd⟩ := bind1 hd
    obtain ⟨ds, hds, hd⟩ := bind1 hd
    cases dx with
    | str z =>
      refine ps_set hN hi hx (pe_bm PySem.F.plainAttrs_str PySem.F.slot_str_split PySem.F.type_str_split mt_split ho ha hbase hfew hline hs hplain) hsw hf pins s σ H D I ⟨δ, F, _, _, hdx, sr.er, fun v H1 F1 s1 s1' g1 r1 => ?_⟩
      rw [r1.str_inv]
      have sr1 := sr.step s1 s1' g1
      refine ⟨rfl, δ, F1, _, ds, hds, sr1.er, fun vs H2 F2 s2 s2' g2 r2 => ?_⟩
      dsimp only at hd
      unfold gSplit at hd
      split at hd
      · split at hd
        · rename_i y cc
          cases hd
          obtain ⟨v, rfl, r0⟩ := one_inv r2
          rw [r0.str_inv]
          exact ⟨z, y, rfl, rfl, cc.1, cc.2, fun q hq => out _ _ ⟨F2, updL ω q (i, none), ((sr1.step s2 s2' g2).own hq).set ⟨.ref q, rfl, q, _, rfl, updL_same, upd_same, repL_strs _⟩⟩⟩
        · cases hd
      · cases hd
    | _ => cases hd
  · cases hw
theorem pb_compO {p2 : Pos} (hN : X.N.Nodup) (hix : X.N[i]? = some x) (hx : X.env.scope.names.lookup x = some .local) (hc : X.calm = true) (S : CompSc X scope vars caps N) (hi : PPI cl X target iter fi) (hb : ∀ C s0 H0 fp, CompB cl (compX X scope C s0 H0 fp N) target elt ifs g t fe)
    (hsw : swapsWith (.ListComp elt [⟨target, iter, ifs, 0⟩] scope p2) (some (.Name x pos')) pos.line X.env = pure true) (hs : ∀ x, foldedSetIterable iter X.env x = pure x := by intro _; rfl) :
    PB1 cl X (.Assign [.Name x pos'] (.ListComp elt [⟨target, iter, ifs, 0⟩] scope p2) pos) (sNewE i (eComp fi g t fe vars.length caps)) := fun pins s σ H D I h => by
  obtain ⟨B, F0, P, δ, o, hw, ⟨F, ω, sr⟩, outD⟩ := h
  unfold sNewE at hw
  split at hw
  · rename_i xs hd
    obtain rfl := Option.some.inj hw
    obtain ⟨ds, out, h1, h2, h3, he⟩ := eComp_some hd
    cases he
    rw [exec_Assign_Name_used _ _ _ _ hsw]
    refine wpAny_bind (wpAny_standAt (wpAny_bind ?_))
    show wpAny _ X.A (do let _ ← comprehension (.ListComp elt [⟨target, iter, ifs, 0⟩] scope p2) scope X.env _ (newList []) false (eval iter X.env) (some (assign (.Name x pos') X.env))) _ _ s
    refine wpAny_bind (wpAny_mono (wpAny_comprehension_free (use := some (assign (.Name x pos') X.env)) (Q := fun _ s' => SP X pins D .next s') rfl hs (closureFor_cap (S.cells I)) S.kind S.names ?_) (fun _ s' hq => wpAny_pure (wpAny_pure hq)) fun _ _ e => e)
    refine comp_coreF (RR := fun acc C => compPost (model X.prog X.w) X.A X.xe (some (assign (.Name x pos') X.env)) (fun _ s' => SP X pins D .next s') acc C) hc S hi hb I sr.er h1 h2 h3 fun D' C s5 H5 F5 m I5 hn n0 n1 n2 n3 n4 a1 a2 a3 ⟨b1, b2, ysV, b3, b4⟩ => ?_
    show wpAny _ X.A (assign (.Name x pos') X.env (.ref D')) _ _ _
    refine wpAny_assign_Name (store_ok2 I5 hN hix (.inl hx) (v := .ref D') rfl (fun s6 I6 hsb6 => ?_) (.inr hx))
    obtain ⟨ad, hsb, had⟩ := hsb6
    have hCa : C ≠ ad := by
      rcases had with h | h
      · rw [h]; exact n1
      · exact fun z => n3 x ad h z.symm
    have hn6 : s6.heap.Ns C m := hn.sameBut hsb hCa
    refine ⟨m, hn6, fun h' hsb' => ⟨_, H5, I6.turned (t' := s6.toks) (fun b o hb e => (hsb'.2 b hb).trans e) n0 n1 (.inr n2) n3 n4, outD _ _ (sr.take (i := i) (x := .lst xs) (v := .ref D') ⟨F5, fun z => if z = D' then some (0, none) else none, (0, none), a1, a2, a3, fun z e => ?_, D', ysV, rfl, if_pos rfl, b3, b4⟩)⟩⟩
    by_cases zz : z = D'
    · subst zz; exact ⟨b2, b1⟩
    · dsimp only at e; rw [if_neg zz] at e; cases e
  · cases hw
theorem ppi_globT {tg : Expr} {ts : List Str} (hg : Gl X x) (hmq : ∃ q, X.mg x = some (.ref q) ∧ SqT X.K (fun _ => none) q (ts.map .str)) (hd : (x == ("__debug__" : Str)) = false := by decide +kernel) :
    PPI cl X tg (.Name x pos) (fun _ => some (ts.map .str)) := fun pins s σ H R I h => by
  obtain ⟨δ, F, ω, ds, hf, er, k⟩ := h
  obtain rfl := Option.some.inj hf
  obtain ⟨q, hm, hq⟩ := hmq
  have hq' : ∀ H, SqT X.K H q (ts.map .str) := fun H => by
    rcases hq with (h | ⟨o, h⟩) | h
    · cases h
    · cases h
    · exact .inr h
  refine pi_tup (pe_glob (v := .ref q) hg hm rfl hd) pins s σ H R I ⟨q, rfl, ⟨_, hq' H⟩, k _ H F (Same.refl _) er.sub Grow.refl ⟨fun j H' s' hj => ?_, fun j H' s' hj => ⟨_, hq' H', by simpa using hj⟩, fun j H' Fc v H2 d s1 s2 hd y => ?_⟩⟩
  · exact ⟨_, _, hq' H', List.getElem?_eq_getElem (by simpa using hj)⟩
  · obtain ⟨rfl, y⟩ := y
    have e := y _ (hq' _)
    rw [List.getElem?_map] at hd e
    cases ez : ts[j]? with
    | none => rw [ez] at hd; cases hd
    | some z =>
      rw [ez] at hd e
      obtain rfl := Option.some.inj hd
      obtain rfl := Option.some.inj e
      exact ⟨Fc, Same.refl _, s2, Grow.refl, .str z⟩
end
end MB
namespace MB
open PySem PySem.Spec PyProof.Rows L2
section
variable {prog : Program} {w : World} {A : Around} {E : Value → Shared → Prop} {s : Shared}
theorem nextT_item {it t : Addr} {i : Nat} {items : Array Value} {x : Value} {Q : Value → Shared → Prop} (hi : s.heap.IsTupleIter it t i) (ht : s.heap.IsTuple t items) (hx : items[i]? = some x)
    (q : ∀ g, g.IsTupleIter it t (i + 1) → Heap.SameBut it s.heap g → Q x { s with heap := g }) : wpAny (model prog w) A (Builtin.SmallTypes.nextOf (.ref it)) Q E s := by
  obtain ⟨ob, eo, ec, ed⟩ := id hi
  obtain ⟨ot, et, _, nt, dt⟩ := ht
  unfold Builtin.SmallTypes.nextOf
  refine wpAny_bind (wpAny_callSpecial?_slot (name := Str.ofString "__next__") hi.typeIs F.slot_tuple_iterator_next (wpAny_call_entry F.slot_tuple_iterator_next hi.typeIs F.entry_tuple_iterator_next ?_ (F.args_tuple_iterator_next_1 _)))
  refine wpAny_bind (m := field (.ref it) 0) (wpAny_field eo ed (x := .ref t) rfl ?_)
  show wpAny _ _ (if (Value.ref t == Value.none) = true then _ else _) _ _ s
  rw [if_neg (show ¬ (Value.ref t == Value.none) = true from fun z => Bool.false_ne_true z)]
  refine wpAny_bind (m := field (.ref it) 1) (wpAny_field eo ed (x := .int i 0) rfl ?_)
  refine wpAny_bind (m := seqItems? (.ref t)) (wpAny_seqItems et dt ?_)
  simp only [hx, Int.toNat_natCast]
  refine wpAny_bind (wpAny_setField eo ed (by simp) (wpAny_pure ⟨x, rfl, wpAny_pure (q _ ⟨_, Heap.get?_update_self _ eo (Obj.isFreed_of_fields (Obj.data_mapFields ed _)), (Obj.cls_mapFields ..).trans ec, ?_⟩ (Heap.SameBut.update ..))⟩))
  rw [Obj.data_mapFields ed]
  simp [rawInt]
theorem nextT_end {it t : Addr} {i : Nat} {items : Array Value} {Q : Value → Shared → Prop} (nh : A.handled = none) (hi : s.heap.IsTupleIter it t i) (ht : s.heap.IsTuple t items) (hx : items[i]? = none)
    (q : ∀ g e, Heap.ExtBut it s.heap g → (∃ o, g.get? e = some o ∧ o.cls = .type "StopIteration") → E (.ref e) { s with heap := g }) : wpAny (model prog w) A (Builtin.SmallTypes.nextOf (.ref it)) Q E s := by
  obtain ⟨ob, eo, ec, ed⟩ := id hi
  obtain ⟨ot, et, _, nt, dt⟩ := ht
  unfold Builtin.SmallTypes.nextOf
  refine wpAny_bind (wpAny_callSpecial?_slot (name := Str.ofString "__next__") hi.typeIs F.slot_tuple_iterator_next (wpAny_call_entry F.slot_tuple_iterator_next hi.typeIs F.entry_tuple_iterator_next ?_ (F.args_tuple_iterator_next_1 _)))
  refine wpAny_bind (m := field (.ref it) 0) (wpAny_field eo ed (x := .ref t) rfl ?_)
  show wpAny _ _ (if (Value.ref t == Value.none) = true then _ else _) _ _ s
  rw [if_neg (show ¬ (Value.ref t == Value.none) = true from fun z => Bool.false_ne_true z)]
  refine wpAny_bind (m := field (.ref it) 1) (wpAny_field eo ed (x := .int i 0) rfl ?_)
  refine wpAny_bind (m := seqItems? (.ref t)) (wpAny_seqItems et dt ?_)
  simp only [hx, Int.toNat_natCast]
  refine wpAny_bind (wpAny_rule (wpAny_bind (wpAny_setField eo ed (by simp) (wpAny_bind (m := newExc (.type "StopIteration") []) ?_))))
  simp only [newTuple, newExc]
  refine wpAny_bind (wpAny_newObj_type (wpAny_bind (m := firstArgMember _ _) (wpAny_of_eq (a := Value.none) (by first | rfl | (simp only [firstArgMember]; rfl)) (wpAny_newObj_type ?_ (by size_fits)))) (by size_fits))
  simp only [raiseNew]
  refine wpAny_bind (wpAny_handled ?_)
  first | rw [show A.in1.handled = none from nh] | rw [nh]
  exact wpAny_bind (wpAny_pure (wpAny_throw (q _ _ (((Heap.SameBut.update ..).extBut.push _).push _) ⟨_, Heap.get?_push_size _ rfl, rfl⟩)))
theorem tupIt_ext {h g : Heap} {it t b : Addr} {i : Nat} (y : h.IsTupleIter it t i) (e : Heap.ExtBut b h g) (n : it ≠ b) : g.IsTupleIter it t i := let ⟨o, a, c, d⟩ := y; ⟨o, e _ _ n a, c, d⟩
theorem tup_ext {h g : Heap} {t b : Addr} {xs : Array Value} (y : h.IsTuple t xs) (e : Heap.ExtBut b h g) (n : t ≠ b) : g.IsTuple t xs := let ⟨o, a, c⟩ := y; ⟨o, e _ _ n a, c⟩
theorem zipT_item {z TI TO i1 i2 l1 l2 : Addr} {k1 k2 : Nat} {xs ys : Array Value} {x y a b : Value} {Q : Option Value → Shared → Prop} (D : ZipApart z TI TO i1 i2 l1 l2)
    (hz : IsZip s.heap z TI TO .none) (hTI : IsPair s.heap TI (.ref i1) (.ref i2)) (hTO : IsPair s.heap TO a b)
    (h1 : s.heap.IsTupleIter i1 l1 k1) (h2 : s.heap.IsTupleIter i2 l2 k2) (hl1 : s.heap.IsTuple l1 xs) (hl2 : s.heap.IsTuple l2 ys) (hx : xs[k1]? = some x) (hy : ys[k2]? = some y)
    (q : ∀ g, IsZip g z TI TO (rawInt s.heap.objs.size) → IsPair g TO x y → g.IsTupleIter i1 l1 (k1 + 1) → g.IsTupleIter i2 l2 (k2 + 1) → IsPair g s.heap.objs.size x y → g.objs.size = s.heap.objs.size + 1 →
      (∀ c o, c ≠ z → c ≠ TO → c ≠ i1 → c ≠ i2 → s.heap.get? c = some o → g.get? c = some o) → Q (some (.ref s.heap.objs.size)) { s with heap := g }) :
    wpAny (model prog w) A (pyNext (.ref z)) Q E s := by
  have hT : s.TypeIs (.ref z) "zip" := ⟨_, hz, rfl⟩
  unfold pyNext
  refine wpAny_bind (wpAny_attempt (wpAny_callSpecial?_slot (name := Str.ofString "__next__") hT F.slot_zip_next (wpAny_call_entry F.slot_zip_next hT F.entry_zip_next ?_ (F.args_zip_next_1 _))))
  refine wpAny_bind (m := field (.ref z) 2) (wpAny_field hz rfl (x := .bool false) rfl ?_)
  refine wpAny_bind (m := field (.ref z) 3) (wpAny_field hz rfl (x := .ref TI) rfl (wpAny_bind (wpAny_seqItems hTI rfl ?_)))
  refine wpAny_bind (m := Builtin.SmallTypes.ownedTupleIsFree (.ref z)) ?_
  unfold Builtin.SmallTypes.ownedTupleIsFree
  refine wpAny_bind (wpAny_field hz rfl (x := .none) rfl (wpAny_pure ?_))
  simp only [if_true]
  refine wpAny_bind (wpAny_rule (wpAny_bind (wpAny_field hz rfl (x := .ref TO) rfl (wpAny_bind (wpAny_setField_rec hz (by simp) fun g1 (z1 : IsZip g1 z TI TO .ellipsis) s1 => wpAny_bind ?_)))))
  simp only [List.zipIdx_nil, List.zipIdx_cons, List.forIn_nil, List.forIn_cons]
  refine wpAny_bind (wpAny_bind (wpAny_onRaise (wpAny_bind (m := Builtin.SmallTypes.nextOf (.ref i1)) (nextT_item (tupIt_ext h1 s1.extBut D.i1z) (tup_ext hl1 s1.extBut D.l1z) hx fun g2 it2 s2 => wpAny_pure ?_))))
  have to2 : IsPair g2 TO a b := s2.extBut _ _ D.TOi1 (s1.extBut _ _ D.TOz hTO)
  refine wpAny_bind (wpAny_seqItems to2 rfl (wpAny_bind (wpAny_updateSeq_pair to2 fun g3 (to3 : IsPair g3 TO x b) s3 => wpAny_bind (wpAny_letGo (wpAny_pure ?_)))))
  refine wpAny_bind (wpAny_bind (wpAny_onRaise (wpAny_bind (m := Builtin.SmallTypes.nextOf (.ref i2)) (nextT_item (tupIt_ext (tupIt_ext (tupIt_ext h2 s1.extBut D.i2z) s2.extBut D.i12.symm) s3.extBut D.TOi2.symm)
    (tup_ext (tup_ext (tup_ext hl2 s1.extBut D.l2z) s2.extBut D.l2i1) s3.extBut D.l2TO) hy fun g4 it4 s4 => wpAny_pure ?_))))
  have to4 : IsPair g4 TO x b := s4.extBut _ _ D.TOi2 to3
  refine wpAny_bind (wpAny_seqItems to4 rfl (wpAny_bind (wpAny_updateSeq_pair to4 fun g5 (to5 : IsPair g5 TO x y) s5 => wpAny_bind (wpAny_letGo (wpAny_pure (wpAny_pure ?_))))))
  refine wpAny_bind (wpAny_seqItems to5 rfl (wpAny_bind (wpAny_newTuple ?_)))
  have sz : g5.objs.size = s.heap.objs.size := by rw [s5.1, s4.1, s3.1, s2.1, s1.1]
  have z5 : IsZip g5 z TI TO .ellipsis := s5.extBut _ _ D.TOz.symm (s4.extBut _ _ D.i2z.symm (s3.extBut _ _ D.TOz.symm (s2.extBut _ _ D.i1z.symm z1)))
  have k5 : ∀ c o, c ≠ z → c ≠ TO → c ≠ i1 → c ≠ i2 → s.heap.get? c = some o → g5.get? c = some o := fun c o c1 c2 c3 c4 e => s5.extBut _ _ c2 (s4.extBut _ _ c4 (s3.extBut _ _ c2 (s2.extBut _ _ c3 (s1.extBut _ _ c1 e))))
  have j1 : g5.IsTupleIter i1 l1 (k1 + 1) := tupIt_ext (tupIt_ext (tupIt_ext it2 s3.extBut D.TOi1.symm) s4.extBut D.i12) s5.extBut D.TOi1.symm
  have j2 : g5.IsTupleIter i2 l2 (k2 + 1) := tupIt_ext it4 s5.extBut D.TOi2.symm
  have zlt : z < g5.objs.size := Heap.lt_size z5
  refine wpAny_bind (m := Builtin.SmallTypes.ownedTupleHandOut (.ref z) (.ref g5.objs.size)) ?_
  unfold Builtin.SmallTypes.ownedTupleHandOut
  have z6 : IsZip (g5.push { cls := .type "tuple", data := .seq #[x, y] }) z TI TO .ellipsis := Heap.get?_push_of_some _ z5
  refine wpAny_bind (wpAny_setField_rec z6 (by simp) fun g7 (z7 : IsZip g7 z TI TO (rawInt g5.objs.size)) s7 => wpAny_setField_rec z7 (by simp) fun g8 (z8 : IsZip g8 z TI TO (rawInt g5.objs.size)) s8 => ?_)
  have up : ∀ c o, c ≠ z → g5.get? c = some o → g8.get? c = some o := fun c o c1 e => s8.extBut _ _ c1 (s7.extBut _ _ c1 (Heap.get?_push_of_some _ e))
  have t8 : IsPair g8 g5.objs.size x y := s8.extBut _ _ (Nat.ne_of_gt zlt) (s7.extBut _ _ (Nat.ne_of_gt zlt) (Heap.get?_push_size _ rfl))
  have e8 : g8.objs.size = g5.objs.size + 1 := by rw [s8.1, s7.1, Heap.size_push]
  rw [sz] at z8 t8 e8
  refine wpAny_pure ⟨_, rfl, wpAny_pure ?_⟩
  show Q (some (.ref g5.objs.size)) _
  rw [sz]
  exact q g8 z8 (up _ _ D.TOz to5) (let ⟨o, e, r⟩ := j1; ⟨o, up _ o D.i1z e, r⟩) (let ⟨o, e, r⟩ := j2; ⟨o, up _ o D.i2z e, r⟩) t8 e8 fun c o c1 c2 c3 c4 e => up c o c1 (k5 c o c1 c2 c3 c4 e)
theorem zipT_end {z TI TO i1 i2 l1 l2 : Addr} {k1 k2 : Nat} {xs ys : Array Value} {a b : Value} {Q : Option Value → Shared → Prop} (nh : A.handled = none) (D : ZipApart z TI TO i1 i2 l1 l2)
    (hz : IsZip s.heap z TI TO .none) (hTI : IsPair s.heap TI (.ref i1) (.ref i2)) (hTO : IsPair s.heap TO a b)
    (h1 : s.heap.IsTupleIter i1 l1 k1) (h2 : s.heap.IsTupleIter i2 l2 k2) (hl1 : s.heap.IsTuple l1 xs) (hl2 : s.heap.IsTuple l2 ys) (hend : xs[k1]? = none ∨ ys[k2]? = none)
    (q : ∀ g, (∀ c o, c ≠ z → c ≠ TO → c ≠ i1 → c ≠ i2 → s.heap.get? c = some o → g.get? c = some o) → Q none { s with heap := g }) : wpAny (model prog w) A (pyNext (.ref z)) Q E s := by
  have hT : s.TypeIs (.ref z) "zip" := ⟨_, hz, rfl⟩
  have fin : ∀ (g : Heap) (e : Addr), (∀ c o, c ≠ z → c ≠ TO → c ≠ i1 → c ≠ i2 → s.heap.get? c = some o → g.get? c = some o) → (∃ o, g.get? e = some o ∧ o.cls = .type "StopIteration") →
      wpAny (model prog w) A (do let r ← isInstance (.ref e) (.type "StopIteration"); if r = true then pure none else throw (.ref e)) Q E { s with heap := g } := fun g e kk ⟨o, ho, hc⟩ =>
    wpAny_bind (wpAny_isInstance (T := "StopIteration") (b := true) ⟨o, ho, hc⟩ isSubtype_stop (wpAny_pure (q _ kk)))
  unfold pyNext
  refine wpAny_bind (wpAny_attempt (wpAny_callSpecial?_slot (name := Str.ofString "__next__") hT F.slot_zip_next (wpAny_call_entry F.slot_zip_next hT F.entry_zip_next ?_ (F.args_zip_next_1 _))))
  refine wpAny_bind (m := field (.ref z) 2) (wpAny_field hz rfl (x := .bool false) rfl ?_)
  refine wpAny_bind (m := field (.ref z) 3) (wpAny_field hz rfl (x := .ref TI) rfl (wpAny_bind (wpAny_seqItems hTI rfl ?_)))
  refine wpAny_bind (m := Builtin.SmallTypes.ownedTupleIsFree (.ref z)) ?_
  unfold Builtin.SmallTypes.ownedTupleIsFree
  refine wpAny_bind (wpAny_field hz rfl (x := .none) rfl (wpAny_pure ?_))
  simp only [if_true]
  refine wpAny_bind (wpAny_rule (wpAny_bind (wpAny_field hz rfl (x := .ref TO) rfl (wpAny_bind (wpAny_setField_rec hz (by simp) fun g1 (z1 : IsZip g1 z TI TO .ellipsis) s1 => wpAny_bind ?_)))))
  simp only [List.zipIdx_nil, List.zipIdx_cons, List.forIn_nil, List.forIn_cons]
  cases hx : xs[k1]? with
  | none =>
    refine wpAny_bind (wpAny_bind (wpAny_onRaise (wpAny_bind (m := Builtin.SmallTypes.nextOf (.ref i1)) (nextT_end nh (tupIt_ext h1 s1.extBut D.i1z) (tup_ext hl1 s1.extBut D.l1z) hx fun g2 e s2 he => ?_))))
    obtain ⟨oe, hoe, hce⟩ := he
    have z2 : IsZip g2 z TI TO .ellipsis := s2 _ _ D.i1z.symm z1
    have ne : e ≠ z := fun y => by subst y; rw [z2] at hoe; cases hoe; simp at hce
    exact wpAny_setField_rec z2 (by simp) fun g3 _ s3 => fin g3 e (fun c o c1 _ c3 _ y => s3.extBut _ _ c1 (s2 _ _ c3 (s1.extBut _ _ c1 y))) ⟨oe, s3.extBut _ _ ne hoe, hce⟩
  | some x =>
    have hy : ys[k2]? = none := hend.resolve_left (fun h => by rw [hx] at h; cases h)
    refine wpAny_bind (wpAny_bind (wpAny_onRaise (wpAny_bind (m := Builtin.SmallTypes.nextOf (.ref i1)) (nextT_item (tupIt_ext h1 s1.extBut D.i1z) (tup_ext hl1 s1.extBut D.l1z) hx fun g2 it2 s2 => wpAny_pure ?_))))
    have to2 : IsPair g2 TO a b := s2.extBut _ _ D.TOi1 (s1.extBut _ _ D.TOz hTO)
    refine wpAny_bind (wpAny_seqItems to2 rfl (wpAny_bind (wpAny_updateSeq_pair to2 fun g3 (to3 : IsPair g3 TO x b) s3 => wpAny_bind (wpAny_letGo (wpAny_pure ?_)))))
    refine wpAny_bind (wpAny_bind (wpAny_onRaise (wpAny_bind (m := Builtin.SmallTypes.nextOf (.ref i2)) (nextT_end nh (tupIt_ext (tupIt_ext (tupIt_ext h2 s1.extBut D.i2z) s2.extBut D.i12.symm) s3.extBut D.TOi2.symm)
      (tup_ext (tup_ext (tup_ext hl2 s1.extBut D.l2z) s2.extBut D.l2i1) s3.extBut D.l2TO) hy fun g4 e s4 he => ?_))))
    obtain ⟨oe, hoe, hce⟩ := he
    have z4 : IsZip g4 z TI TO .ellipsis := s4 _ _ D.i2z.symm (s3.extBut _ _ D.TOz.symm (s2.extBut _ _ D.i1z.symm z1))
    have ne : e ≠ z := fun y => by subst y; rw [z4] at hoe; cases hoe; simp at hce
    exact wpAny_setField_rec z4 (by simp) fun g5 _ s5 => fin g5 e (fun c o c1 c2 c3 c4 y => s5.extBut _ _ c1 (s4 _ _ c4 (s3.extBut _ _ c2 (s2.extBut _ _ c3 (s1.extBut _ _ c1 y))))) ⟨oe, s5.extBut _ _ ne hoe, hce⟩
def zt1 (h : Heap) (l1 : Addr) : Heap := h.push { cls := .type "tuple_iterator", data := .fields #[.ref l1, .int 0 0] }
def zt2 (h : Heap) (l1 l2 : Addr) : Heap := (zt1 h l1).push { cls := .type "tuple_iterator", data := .fields #[.ref l2, .int 0 0] }
def zt3 (h : Heap) (l1 l2 : Addr) : Heap := (zt2 h l1 l2).push { cls := .type "tuple", data := .seq #[.ref h.objs.size, .ref (zt1 h l1).objs.size] }
def zt4 (h : Heap) (l1 l2 : Addr) : Heap := (zt3 h l1 l2).push { cls := .type "tuple", data := .seq #[.none, .none] }
def zt5 (h : Heap) (l1 l2 : Addr) : Heap := (zt4 h l1 l2).push { cls := .type "zip", data := .fields #[.none, .bool false, .bool false, .ref (zt2 h l1 l2).objs.size, .ref (zt3 h l1 l2).objs.size] }
theorem zipT_new (l1 l2 : Addr) (xs ys : Array Value) : Meets (Builtin.«zip.__new__» ⟨[.type "zip", .ref l1, .ref l2], []⟩) (fun _ R s => s.heap.IsTuple l1 xs ∧ s.heap.IsTuple l2 ys ∧ R (.ok (.ret (.ref (zt4 s.heap l1 l2).objs.size))) { s with heap := zt5 s.heap l1 l2 }) :=
  .of_wp fun prog w A R s h => by
    obtain ⟨hp, g, d, tk, os⟩ := s
    obtain ⟨m1, m2, h⟩ := h
    have hsub := sub_zip
    have M1 : Heap.IsTuple (Shared.heap ⟨hp, g, d, tk, os⟩) l1 xs := m1
    have M2 : Heap.IsTuple (Shared.heap ⟨hp.push { cls := .type "tuple_iterator", data := .fields #[.ref l1, .int 0 0] }, g, d, tk, os⟩) l2 ys := let ⟨o, a, c⟩ := m2; ⟨o, Heap.get?_push_of_some _ a, c⟩
    wp_walk using wpAny_pyIter_tuple M1, wpAny_pyIter_tuple M2
    exact ⟨_, rfl, h⟩
theorem zipT_call {l1 l2 : Addr} {xs ys : Array Value} {Q : Value → Shared → Prop} (m1 : s.heap.IsTuple l1 xs) (m2 : s.heap.IsTuple l2 ys)
    (h : ∀ g, IsZip g (s.heap.objs.size + 4) (s.heap.objs.size + 2) (s.heap.objs.size + 3) .none → IsPair g (s.heap.objs.size + 2) (.ref s.heap.objs.size) (.ref (s.heap.objs.size + 1)) →
      IsPair g (s.heap.objs.size + 3) .none .none → g.IsTupleIter s.heap.objs.size l1 0 → g.IsTupleIter (s.heap.objs.size + 1) l2 0 → (∀ c o, s.heap.get? c = some o → g.get? c = some o) → Q (.ref (s.heap.objs.size + 4)) { s with heap := g }) :
    wpAny (model prog w) A (call (.type "zip") [.ref l1, .ref l2]) Q E s := by
  refine callType_new F.called_zip (by decide) (F.typeCall_zip_2 _ _) (F.newCall_zip_2 _ _) (fun obj => F.args_object_init_3 obj _ _) F.entry_zip_new (zipT_new l1 l2 xs ys) ⟨m1, m2, ?_⟩
  have z1 : (zt1 s.heap l1).objs.size = s.heap.objs.size + 1 := Heap.size_push ..
  have z2 : (zt2 s.heap l1 l2).objs.size = s.heap.objs.size + 2 := by unfold zt2; rw [Heap.size_push, z1]
  have z3 : (zt3 s.heap l1 l2).objs.size = s.heap.objs.size + 3 := by unfold zt3; rw [Heap.size_push, z2]
  have z4 : (zt4 s.heap l1 l2).objs.size = s.heap.objs.size + 4 := by unfold zt4; rw [Heap.size_push, z3]
  have g5 : (zt5 s.heap l1 l2).get? (zt4 s.heap l1 l2).objs.size = some _ := Heap.get?_push_size _ rfl
  have g4 : (zt5 s.heap l1 l2).get? (zt3 s.heap l1 l2).objs.size = some _ := Heap.get?_push_of_some _ (Heap.get?_push_size _ rfl)
  have g3 : (zt5 s.heap l1 l2).get? (zt2 s.heap l1 l2).objs.size = some _ := Heap.get?_push_of_some _ (Heap.get?_push_of_some _ (Heap.get?_push_size _ rfl))
  have g2 : (zt5 s.heap l1 l2).get? (zt1 s.heap l1).objs.size = some _ := Heap.get?_push_of_some _ (Heap.get?_push_of_some _ (Heap.get?_push_of_some _ (Heap.get?_push_size _ rfl)))
  have g1 : (zt5 s.heap l1 l2).get? s.heap.objs.size = some _ := Heap.get?_push_of_some _ (Heap.get?_push_of_some _ (Heap.get?_push_of_some _ (Heap.get?_push_of_some _ (Heap.get?_push_size _ rfl))))
  show _ ∧ _
  rw [z2, z3, z4] at g5
  rw [z1, z2] at g3
  rw [z3] at g4
  rw [z1] at g2
  rw [z4]
  exact ⟨⟨_, g5, rfl⟩, h _ g5 g3 g4 ⟨_, g1, rfl, rfl⟩ ⟨_, g2, rfl, rfl⟩ fun c o y => Heap.get?_push_of_some _ (Heap.get?_push_of_some _ (Heap.get?_push_of_some _ (Heap.get?_push_of_some _ (Heap.get?_push_of_some _ y))))⟩
end
def ItzT (K : PySem.W.Frag) (a b : Addr) : It :=
  ⟨fun i H => ∃ xs ys x y, H a = some (.tup xs) ∧ H b = some (.tup ys) ∧ xs[i]? = some x ∧ ys[i]? = some y, fun i H x H' => ∃ p v u, x = .ref p ∧ H p = none ∧ H' = upd H p (.tup [v, u]) ∧ ∀ xs ys, H a = some (.tup xs) → H b = some (.tup ys) → xs[i]? = some v ∧ ys[i]? = some u,
    fun i H => ∃ xs ys, H a = some (.tup xs) ∧ H b = some (.tup ys) ∧ (xs.length ≤ i ∨ ys.length ≤ i)⟩
theorem turn_zipT {P : Program} {w : World} {K : PySem.W.Frag} {elts : List Expr} {x1 : Nat} {tp : Pos} (a b z TI TO i1 i2 : Addr) (D : ∀ l1 l2, l1 ≠ z → l1 ≠ TO → l1 ≠ i1 → l1 ≠ i2 → l2 ≠ z → l2 ≠ TO → l2 ≠ i1 → l2 ≠ i2 → ZipApart z TI TO i1 i2 l1 l2) :
    Turn P w K (.Tuple elts x1 tp) (ItzT K a b) [z, TI, TO, i1, i2] z (fun i h => IsZip h z TI TO .none ∧ IsPair h TI (.ref i1) (.ref i2) ∧ (∃ c d, IsPair h TO c d) ∧ h.IsTupleIter i1 a i ∧ h.IsTupleIter i2 b i) where
  mem := by simp
  obj := fun i h st q hb => by
    obtain ⟨h1, h2, ⟨c, d, h3⟩, ⟨o4, h4, _, h4'⟩, ⟨o5, h5, _, h5'⟩⟩ := st
    simp only [List.mem_cons, List.not_mem_nil, or_false] at hb
    rcases hb with rfl | rfl | rfl | rfl | rfl
    · exact ⟨_, h1, fun v z => by cases z⟩
    · exact ⟨_, h2, fun v z => by cases z⟩
    · exact ⟨_, h3, fun v z => by cases z⟩
    · exact ⟨o4, h4, fun v z => by rw [h4'] at z; cases z⟩
    · exact ⟨o5, h5, fun v z => by rw [h5'] at z; cases z⟩
  keep := fun i h h' st k => by
    obtain ⟨h1, h2, ⟨c, d, h3⟩, h4, h5⟩ := st
    exact ⟨k z (by simp) _ h1, k TI (by simp) _ h2, ⟨c, d, k TO (by simp) _ h3⟩, h4.at fun o q => k i1 (by simp) o q, h5.at fun o q => k i2 (by simp) o q⟩
  item := by
    intro X hP hw hK hc i pins s σ H E I hf st hg
    subst hP hw hK
    obtain ⟨xs, ys, x, y, hq, hq', hx, hy⟩ := hg
    obtain ⟨its, rv, p, hz⟩ := I.tuple (SqT.of hq)
    obtain ⟨its', rv', p', hz'⟩ := I.tuple (SqT.of hq')
    obtain ⟨u, hu, ru⟩ := rv.get hx
    obtain ⟨u', hu', ru'⟩ := rv'.get hy
    obtain ⟨h1, h2, ⟨c, d, h3⟩, h4, h5⟩ := st
    have ap : ∀ q ob, H q = some (.tup ob) → ∀ f ∈ [z, TI, TO, i1, i2], q ≠ f := fun q ob hq f hm e => by
      subst e
      rw [(hf q hm).1] at hq
      cases hq
    have DD := D a b (ap a xs hq z (by simp)) (ap a xs hq TO (by simp)) (ap a xs hq i1 (by simp)) (ap a xs hq i2 (by simp)) (ap b ys hq' z (by simp)) (ap b ys hq' TO (by simp)) (ap b ys hq' i1 (by simp)) (ap b ys hq' i2 (by simp))
    have hlt : ∀ q ∈ [z, TI, TO, i1, i2], q < s.heap.objs.size := fun q hb => by
      simp only [List.mem_cons, List.not_mem_nil, or_false] at hb
      rcases hb with rfl | rfl | rfl | rfl | rfl
      · exact Heap.lt_size h1
      · exact Heap.lt_size h2
      · exact Heap.lt_size h3
      · obtain ⟨o, e, _⟩ := h4; exact Heap.lt_size e
      · obtain ⟨o, e, _⟩ := h5; exact Heap.lt_size e
    refine zipT_item DD h1 h2 h3 h4 h5 (show s.heap.IsTuple a its.toArray from p) (show s.heap.IsTuple b its'.toArray from p') (x := u) (y := u') (by simpa using hu) (by simpa using hu') fun g1 a1 a2 a3 a4 a5 a6 a7 => ⟨_, rfl, wpAny_letOwnedTupleGo_zip a1 fun g2 b1 b2 => ?_⟩
    have hzs : z ≠ s.heap.objs.size := Nat.ne_of_lt (hlt z (by simp))
    have k : ∀ q ob, q ∉ [z, TI, TO, i1, i2] → s.heap.get? q = some ob → g2.get? q = some ob := fun q ob hb e => by
      have n1 : q ≠ z := fun y => hb (by simp [y])
      have n2 : q ≠ TO := fun y => hb (by simp [y])
      have n3 : q ≠ i1 := fun y => hb (by simp [y])
      have n4 : q ≠ i2 := fun y => hb (by simp [y])
      exact (b2.2 q n1).trans (a7 q ob n1 n2 n3 n4 e)
    have tup : g2.get? s.heap.objs.size = some { cls := .type "tuple", data := .seq #[u, u'] } := (b2.2 _ (Ne.symm hzs)).trans a5
    have new : ObjOk X.prog X.w (upd H s.heap.objs.size (.tup [x, y])) g2 s.heap.objs.size (.tup [x, y]) := ⟨by show 2 ≤ sizeLine; decide, [u, u'], .cons ru (.cons ru' .nil), _, tup, rfl, _, rfl⟩
    refine ⟨.ref s.heap.objs.size, _, Inv.turnNew (s := s) (t' := s.toks) I hf k hlt new, rfl, ⟨s.heap.objs.size, x, y, rfl, I.hok.fresh (Nat.le_refl _), rfl, fun vs ws hv hw => ⟨by rw [hq] at hv; cases hv; exact hx, by rw [hq'] at hw; cases hw; exact hy⟩⟩, ⟨b1, ?_, ⟨_, _, (b2.2 TO DD.TOz).trans a2⟩, a3.at fun o q => (b2.2 i1 DD.i1z).trans q, a4.at fun o q => (b2.2 i2 DD.i2z).trans q⟩, fun q hb => ?_⟩
    · exact (b2.2 TI DD.TIz).trans (a7 TI _ DD.TIz DD.TITO DD.TIi1 DD.TIi2 h2)
    · rw [upd_ne (Nat.ne_of_lt (hlt q hb))]
      exact (hf q hb).1
  done := by
    intro X hP hw hK hc i pins s σ H E I hf st hg
    subst hP hw hK
    obtain ⟨xs, ys, hq, hq', hx⟩ := hg
    obtain ⟨its, rv, p, hz⟩ := I.tuple (SqT.of hq)
    obtain ⟨its', rv', p', hz'⟩ := I.tuple (SqT.of hq')
    obtain ⟨h1, h2, ⟨c, d, h3⟩, h4, h5⟩ := st
    have ap : ∀ q ob, H q = some (.tup ob) → ∀ f ∈ [z, TI, TO, i1, i2], q ≠ f := fun q ob hq f hm e => by
      subst e
      rw [(hf q hm).1] at hq
      cases hq
    have DD := D a b (ap a xs hq z (by simp)) (ap a xs hq TO (by simp)) (ap a xs hq i1 (by simp)) (ap a xs hq i2 (by simp)) (ap b ys hq' z (by simp)) (ap b ys hq' TO (by simp)) (ap b ys hq' i1 (by simp)) (ap b ys hq' i2 (by simp))
    have hl := rv.length
    have hl' := rv'.length
    refine zipT_end (I.ok.hd hc) DD h1 h2 h3 h4 h5 (show s.heap.IsTuple a its.toArray from p) (show s.heap.IsTuple b its'.toArray from p') ?_ fun g1 kk => ⟨rfl, ?_⟩
    · rcases hx with hx | hx
      · exact .inl (by simp; omega)
      · exact .inr (by simp; omega)
    · refine I.step (g' := s.gens) (d' := s.drawn) (ch := [z, TI, TO, i1, i2]) (fun q hb => ⟨(hf q hb).2.2.2.1, (hf q hb).2.1, (hf q hb).2.2.2.2.1, (hf q hb).2.2.2.2.2⟩) (fun q ob _ _ hc e _ => ?_) (fun q ob _ _ hc e _ => ⟨ob.slots, ?_⟩) (fun _ _ _ _ n => n) (fun q ob hc e => ⟨ob, ?_⟩) (fun _ _ e => e) (fun _ _ _ e => e) (fun q ps e => ⟨#[], by rw [e]; simp⟩) (fun m hm => ?_) (fun q u e => ?_) I.bare
      · exact kk q ob (fun y => hc (by simp [y])) (fun y => hc (by simp [y])) (fun y => hc (by simp [y])) (fun y => hc (by simp [y])) e
      · exact kk q ob (fun y => hc (by simp [y])) (fun y => hc (by simp [y])) (fun y => hc (by simp [y])) (fun y => hc (by simp [y])) e
      · exact kk q ob (fun y => hc (by simp [y])) (fun y => hc (by simp [y])) (fun y => hc (by simp [y])) (fun y => hc (by simp [y])) e
      · obtain ⟨ob, es, ep, ho, r⟩ := hm
        exact ⟨ob, es, ep, kk _ ob (fun y => (hf z (by simp)).2.1 y.symm) (fun y => (hf TO (by simp)).2.1 y.symm) (fun y => (hf i1 (by simp)).2.1 y.symm) (fun y => (hf i2 (by simp)).2.1 y.symm) ho, r⟩
      · have tr : ∀ b u, H b = some u → ∀ f ∈ [z, TI, TO, i1, i2], b ≠ f := fun b u e f m y => by subst y; rw [(hf b m).1] at e; cases e
        refine (I.hok q u e).stay (fun c v hc r => kk c v ?_ ?_ ?_ ?_ r) (fun _ r => r) fun _ _ r => r
        all_goals (rcases hc with y | y <;> first | (rw [y]; exact tr q u e _ (by simp)) | exact tr c _ y _ (by simp))
  self := fun _ _ _ _ _ st h => wpAny_pyIter_zip st.1 h
section
variable {cl : Nat → Addr} {X : Cx} {l l2 : Expr} {fe fe2 : FE} {pos p tp : Pos} {elts : List Expr} {x1 : Nat}
theorem walk_zipT {K : PySem.W.Frag} {F : Hp} {a b : Addr} {vs ws : List V} {ds es : List Dat} (h : F a = some (.tup vs)) (h' : F b = some (.tup ws)) (r : RepL K cl F vs ds) (r' : RepL K cl F ws es) : Walk K cl F (ItzT K a b) (zipD ds es) where
  go := fun i H s hi => by
    have hl : i < min ds.length es.length := by simpa [zipD] using hi
    exact ⟨vs, ws, _, _, s _ _ h, s _ _ h', List.getElem?_eq_getElem (by rw [r.length]; omega), List.getElem?_eq_getElem (by rw [r'.length]; omega)⟩
  stop := fun i H s hi => by
    have hl : min ds.length es.length ≤ i := by simpa [zipD] using hi
    exact ⟨vs, ws, s _ _ h, s _ _ h', by rw [r.length, r'.length]; omega⟩
  yld := fun i H Fc x H' d s1 s2 hd y => by
    obtain ⟨p, v, u, rfl, hp, rfl, y⟩ := y
    obtain ⟨d0, d1, e0, e1, rfl⟩ := zipD_get hd
    have hFp : Fc p = none := none_of s2 hp
    obtain ⟨y1, y2⟩ := y vs ws ((s1.trans s2) _ _ h) ((s1.trans s2) _ _ h')
    exact ⟨upd Fc p (.tup [v, u]), same_upd hp, same_upd2 s2, Grow.new s2 hp, .tup' upd_same (.cons (((pget i r y1 e0).mono s1).mono (same_upd hFp)) (.cons (((pget i r' y2 e1).mono s1).mono (same_upd hFp)) .nil))⟩
def iZip2 (fe fe2 : FE) : FA := fun δ => match fe δ, fe2 δ with | some (.lst xs), some (.lst ys) => some (zipD xs ys) | some (.tup xs), some (.tup ys) => some (zipD xs ys) | _, _ => none
theorem ppi_zip2 (hg : Gl X "zip") (hm : X.mg "zip" = none) (hl : PP cl X l fe) (hl2 : PP cl X l2 fe2) (hs : starEach [l, l2] X.env = [(false, eval l X.env), (false, eval l2 X.env)] := by rfl) (hs2 : starEach [l2] X.env = [(false, eval l2 X.env)] := by rfl) :
    PPI cl X (.Tuple elts x1 tp) (.Call (.Name "zip" p) [l, l2] [] pos) (iZip2 fe fe2) := fun pins s σ H R I h => by
  obtain ⟨δ, F, ω, ds, hf, er, k⟩ := h
  unfold iZip2 at hf
  split at hf
  · rename_i xs ys e1 e2
    cases hf
    refine Call_ (ld_blt I hg hm (show bootBuiltins "zip" = some (.type "zip") by decide +kernel) (PyProof.Rows.callWith_type1 (thn (pa_cons hl (pa_cons hl2 pa_nil hs2) (by rw [hs, hs2]) pos pins s σ H (fun vs H1 => ∃ v u F1, vs = [v, u] ∧ Same H H1 ∧ Same F1 H1 ∧ Grow F H F1 ∧ Rep X.K cl F1 v (.lst xs) ∧ Rep X.K cl F1 u (.lst ys)) I
      (tP2 e1 e2 er fun vx vy H2 F2 s1 g1 er2 rx ry => ⟨vx, vy, F2, rfl, s1, er2.sub, g1, rx, ry⟩)) fun us s1 ⟨vs, H1, I1, r1, v, u, F1, ev, s1', s2', g1, rv, ru⟩ => ?_) (by rw [hs, hs2]) (by rw [hs2]; rfl)))
    subst ev
    obtain ⟨w1, w2, rfl, q1, q2⟩ := vals2 r1
    obtain ⟨a, ws, rfl, q, t⟩ := rv.lst_inv
    obtain ⟨a', ws', rfl, q', t'⟩ := ru.lst_inv
    cases q1
    cases q2
    obtain ⟨its, rv1, pl, _⟩ := I1.list (s2'.seq q)
    obtain ⟨its', rv2, pl', _⟩ := I1.list (s2'.seq q')
    refine call_zip_2 pl.isList pl'.isList fun h2 b1 b2 b3 b4 b5 b6 b7 => wpAny_pyIter_zip b1 ?_
    have I2 : L2.Inv X pins σ H1 { s1 with heap := h2 } := I1.kept (t' := s1.toks) b7
    have fr : ∀ b ∈ [s1.heap.objs.size + 4, s1.heap.objs.size + 2, s1.heap.objs.size + 3, s1.heap.objs.size, s1.heap.objs.size + 1], FpOk X pins H1 b := fun b hb => by
      have : s1.heap.objs.size ≤ b := by simp at hb; omega
      exact I1.fpOk this (I1.hok.fresh this)
    refine ⟨s1.heap.objs.size + 4, [s1.heap.objs.size + 4, s1.heap.objs.size + 2, s1.heap.objs.size + 3, s1.heap.objs.size, s1.heap.objs.size + 1], _, _, H1, rfl, I2, turn_zip a a' (s1.heap.objs.size + 4) (s1.heap.objs.size + 2) (s1.heap.objs.size + 3) s1.heap.objs.size (s1.heap.objs.size + 1) (zip_apart s1.heap.objs.size),
      ⟨b1, b2, ⟨_, _, b3⟩, b4, b5⟩, fr, k _ H1 F1 s1' s2' g1 (walk_zip q q' t t')⟩
  · rename_i xs ys e1 e2
    cases hf
    refine Call_ (ld_blt I hg hm (show bootBuiltins "zip" = some (.type "zip") by decide +kernel) (PyProof.Rows.callWith_type1 (thn (pa_cons hl (pa_cons hl2 pa_nil hs2) (by rw [hs, hs2]) pos pins s σ H (fun vs H1 => ∃ v u F1, vs = [v, u] ∧ Same H H1 ∧ Same F1 H1 ∧ Grow F H F1 ∧ Rep X.K cl F1 v (.tup xs) ∧ Rep X.K cl F1 u (.tup ys)) I
      (tP2 e1 e2 er fun vx vy H2 F2 s1 g1 er2 rx ry => ⟨vx, vy, F2, rfl, s1, er2.sub, g1, rx, ry⟩)) fun us s1 ⟨vs, H1, I1, r1, v, u, F1, ev, s1', s2', g1, rv, ru⟩ => ?_) (by rw [hs, hs2]) (by rw [hs2]; rfl)))
    subst ev
    obtain ⟨w1, w2, rfl, q1, q2⟩ := vals2 r1
    obtain ⟨a, ws, rfl, q, t⟩ := rv.tup_inv
    obtain ⟨a', ws', rfl, q', t'⟩ := ru.tup_inv
    cases q1
    cases q2
    obtain ⟨its, rv1, pl, _⟩ := I1.tuple (SqT.of (s2' _ _ q))
    obtain ⟨its', rv2, pl', _⟩ := I1.tuple (SqT.of (s2' _ _ q'))
    refine zipT_call (show s1.heap.IsTuple a its.toArray from pl) (show s1.heap.IsTuple a' its'.toArray from pl') fun h2 b1 b2 b3 b4 b5 b7 => wpAny_pyIter_zip b1 ?_
    have I2 : L2.Inv X pins σ H1 { s1 with heap := h2 } := I1.kept (t' := s1.toks) b7
    have fr : ∀ b ∈ [s1.heap.objs.size + 4, s1.heap.objs.size + 2, s1.heap.objs.size + 3, s1.heap.objs.size, s1.heap.objs.size + 1], FpOk X pins H1 b := fun b hb => by
      have : s1.heap.objs.size ≤ b := by simp at hb; omega
      exact I1.fpOk this (I1.hok.fresh this)
    refine ⟨s1.heap.objs.size + 4, [s1.heap.objs.size + 4, s1.heap.objs.size + 2, s1.heap.objs.size + 3, s1.heap.objs.size, s1.heap.objs.size + 1], _, _, H1, rfl, I2, turn_zipT a a' (s1.heap.objs.size + 4) (s1.heap.objs.size + 2) (s1.heap.objs.size + 3) s1.heap.objs.size (s1.heap.objs.size + 1) (zip_apart s1.heap.objs.size),
      ⟨b1, b2, ⟨_, _, b3⟩, b4, b5⟩, fr, k _ H1 F1 s1' s2' g1 (walk_zipT q q' t t')⟩
  · cases hf
end
end MB
namespace MB
open PySem PySem.Spec PyProof.Rows L2
open AutoSeq1 (wpAny_loadPart')
section
variable {prog : Program} {w : World} {A : Around} {E : Value → Shared → Prop} {s : Shared}
theorem enumT_check (l : Addr) (t : Tok) : checkTypeCall "enumerate" ⟨[.ref l], [("start", .int 1 t)]⟩ = pure () := by kernel_rfl
theorem enumN_check (l : Addr) (t : Tok) : checkBuiltinCall "enumerate.__new__" ⟨[.type "enumerate", .ref l], [("start", .int 1 t)]⟩ = pure () := by kernel_rfl
theorem enum1_new (l : Addr) (items : Array Value) (t : Tok) :
    Meets (Builtin.«enumerate.__new__» ⟨[.type "enumerate", .ref l], [("start", .int 1 t)]⟩) (fun _ R s => s.heap.IsList l items ∧
      R (.ok (.ret (.ref (s.heap.push { cls := .type "list_iterator", data := .fields #[.ref l, .int 0 0] }).objs.size)))
        { s with heap := (s.heap.push { cls := .type "list_iterator", data := .fields #[.ref l, .int 0 0] }).push { cls := .type "enumerate", data := .fields #[.none, .bool false, .ref s.heap.objs.size, rawInt 1, .none, .none] } }) :=
  .of_wp fun prog w A R s h => by
    obtain ⟨hp, g, d, tk, os⟩ := s
    obtain ⟨m1, h⟩ := h
    have hsub := sub_enumerate
    have M1 : Heap.IsList (Shared.heap ⟨hp, g, d, tk, os⟩) l items := m1
    wp_walk using wpAny_pyIter_list M1
    refine wpAny_stack_any fun st => wpAny_pure ?_
    split
    · rename_i c _ _ _ _ _
      cases (c == Value.type "enumerate")
      · wp_walk using wpAny_pyIter_list M1
        exact ⟨_, rfl, h⟩
      · wp_walk using wpAny_pyIter_list M1
        exact ⟨_, rfl, h⟩
    · wp_walk using wpAny_pyIter_list M1
      exact ⟨_, rfl, h⟩
theorem objInit_args (obj : Value) (l : Addr) (t : Tok) : argsOk "object.__init__" ⟨[obj, .ref l], [("start", .int 1 t)]⟩ := by
  unfold argsOk
  rw [signature?_of (id := "object.__init__") (o := "object".toList.reverse) (n := "__init__".toList.reverse) (by kernel_rfl) F.owner_object]
  kernel_rfl
theorem objInit_kw (obj : Value) (l : Addr) (t : Tok) : Meets (Builtin.«object.__init__» ⟨[obj, .ref l], [("start", .int 1 t)]⟩) (fun _ R s => s.TypeIs obj "enumerate" ∧ R (.ok (.ret .none)) s) := by
  refine Meets.of_wp fun prog w A R s hs => ?_
  obtain ⟨hT, hq⟩ := hs
  have hl := F.called_enumerate.init.lookup
  have hm := F.called_enumerate.made
  repeat (any_goals (first | assumption | wp_step))
  exact ⟨_, rfl, hq⟩
theorem call_enum1 {l : Addr} {items : Array Value} {t : Tok} {Q : Value → Shared → Prop} (hl : s.heap.IsList l items)
    (h : ∀ g, IsEnum g (s.heap.objs.size + 1) s.heap.objs.size 1 .none → g.IsListIter s.heap.objs.size l 0 → (∀ b o, s.heap.get? b = some o → g.get? b = some o) → Q (.ref (s.heap.objs.size + 1)) { s with heap := g }) :
    wpAny (model prog w) A (call (.type "enumerate") [.ref l] [("start", .int 1 t)]) Q E s := by
  have ft := F.called_enumerate
  obtain ⟨c, tl, hmro⟩ := ft.mro
  have hmade := ft.made
  have hsub := ft.sub
  have hct := enumT_check l t
  refine wpAny_call (codeAny_of_tree ?_)
  show wpAny _ _ (callAny (.type "enumerate") _) _ _ _
  refine wpAny_pure ⟨Code.quiet_builtin _ (by decide +kernel), codeAny_builtin F.entry_type_call ?_⟩
  rw [Around.under_plain (weight_type_call_type "enumerate" [.ref l] [("start", .int 1 t)]) (units_type_call_type "enumerate" [.ref l] [("start", .int 1 t)])]
  have h1 := ft.notType
  have h2 := ft.canCreate
  repeat (any_goals (first | assumption | wp_step))
  refine codeAny_mono (codeAny_call_builtin ft.plain F.entry_enumerate_new (wpAny_of_eq (enumN_check l t) (enum1_new l items t prog w A.in1 (wants (fun obj s₁ => s₁.TypeIs obj "enumerate" ∧ Q obj s₁) E) s ⟨hl, ?_⟩))) fun r s₁ hr => ?_
  · have z1 : (s.heap.push { cls := .type "list_iterator", data := .fields #[.ref l, .int 0 0] }).objs.size = s.heap.objs.size + 1 := Heap.size_push ..
    have g2 : ((s.heap.push { cls := .type "list_iterator", data := .fields #[.ref l, .int 0 0] }).push { cls := .type "enumerate", data := .fields #[.none, .bool false, .ref s.heap.objs.size, rawInt 1, .none, .none] }).get? (s.heap.push { cls := .type "list_iterator", data := .fields #[.ref l, .int 0 0] }).objs.size = some _ := Heap.get?_push_size _ rfl
    have g1 : ((s.heap.push { cls := .type "list_iterator", data := .fields #[.ref l, .int 0 0] }).push { cls := .type "enumerate", data := .fields #[.none, .bool false, .ref s.heap.objs.size, rawInt 1, .none, .none] }).get? s.heap.objs.size = some _ := Heap.get?_push_of_some _ (Heap.get?_push_size _ rfl)
    show _ ∧ _
    rw [z1] at g2 ⊢
    exact ⟨⟨_, g2, rfl⟩, h _ g2 ⟨_, g1, rfl, rfl⟩ fun b o y => Heap.get?_push_of_some _ (Heap.get?_push_of_some _ y)⟩
  · cases r with
    | error e => exact hr
    | ok fl =>
      cases fl with
      | ret obj =>
        obtain ⟨hT, hq⟩ := hr
        have hli := ft.init.lookup
        have hbi := ft.init.bind obj
        repeat (any_goals (first | assumption | wp_step))
        refine codeAny_mono (codeAny_call_builtin ft.init.plain F.entry_object_init (ft.init.check _ _ _ _ _ _ _ _ hT ?_ (objInit_kw obj l t prog w A.in1 (wants (fun r s₂ => r = .none ∧ Q obj s₂) E) s₁ ⟨hT, rfl, hq⟩))) fun r₂ s₂ hr₂ => ?_
        · exact objInit_args obj l t
        · cases r₂ with
          | error e => exact hr₂
          | ok fl₂ =>
            cases fl₂ with
            | ret r =>
              obtain ⟨rfl, hq⟩ := hr₂
              repeat (any_goals (first | assumption | wp_step))
            | _ => exact hr₂.elim
      | _ => exact hr.elim
theorem callWith_typeKw {M : Model} {env : Env} {pos : Pos} {T : String} {e : Expr} {kws : List Keyword} {Q : Value → Shared → Prop}
    (h : wpAny M A (spliced (backTo pos (starEach [e] env))) (fun vs s₁ => wpAny M A (evalAll ((backToKw pos (keywordEach kws env)).map (·.2)))
      (fun kvs s₂ => wpAny M A (call (.type T) vs (((backToKw pos (keywordEach kws env)).filterMap (·.1)).zip kvs)) Q E s₂) E s₁) E s)
    (he : backTo pos (starEach [e] env) = [(false, eval e env)]) (hall : (backToKw pos (keywordEach kws env)).all (·.1.isSome) = true) (hkw : (backToKw pos (keywordEach kws env)).any (·.1.isNone) = false) :
    wpAny M A (callWith pos (.type T) [] (backTo pos (starEach [e] env)) (backToKw pos (keywordEach kws env))) Q E s := by
  unfold callWith
  rw [he] at h ⊢
  refine wpAny_bind (wpAny_holding (wpAny_mono (evalArgs_kwB (Q := fun a s₁ => wpAny M A (call (.type T) a.pos a.kw) Q E s₁) hall h) (fun a s₁ h₁ => wpAny_bind (wpAny_standAt ?_)) fun _ _ x => x))
  simp only [hkw, List.any_cons, List.any_nil, Bool.or_false]
  exact wpAny_bind (wpAny_pure (wpAny_bind (wpAny_mono h₁ (fun r s₂ hr => wpAny_bind (wpAny_holding (wpAny_point (wpAny_pure hr)))) fun _ _ x => x)))
end
def Iten1 (K : PySem.W.Frag) (a : Addr) : It :=
  ⟨fun i H => ∃ xs x, SqL K H a xs ∧ xs[i]? = some x, fun i H x H' => ∃ p v, x = .ref p ∧ H p = none ∧ H' = upd H p (.tup [.int ((i + 1 : Nat) : Int), v]) ∧ ∀ xs, SqL K H a xs → xs[i]? = some v, fun i H => ∃ xs, SqL K H a xs ∧ xs.length ≤ i⟩
theorem draws1 {prog : Program} {w : World} {A : Around} (hh : A.handled = none) (it l : Addr) (hne : l ≠ it) (items : Array Value) :
    Draws prog w A it [it, l] (items.size + 1) (fun j x => ∃ k, j = k + 1 ∧ items[k]? = some x) (fun j h => ∃ k, j = k + 1 ∧ h.IsListIter it l k ∧ h.IsList l items) where
  live := fun j h st => let ⟨k, _, ⟨o, e, _⟩, _⟩ := st; ⟨o, e⟩
  frame := fun j h h' st kk => let ⟨k, e, a, b⟩ := st; ⟨k, e, a.at fun o q => kk it (by simp) o q, b.at fun o q => kk l (by simp) o q⟩
  item := fun j s Q E hj st q => by
    obtain ⟨k, rfl, a, b⟩ := st
    have hk : k < items.size := by omega
    exact wpAny_nextOf_list_item a b (Array.getElem?_eq_getElem hk) fun g it2 sb => q _ g s.toks ⟨k, rfl, Array.getElem?_eq_getElem hk⟩ ⟨k + 1, rfl, it2, b.at fun o e => (sb.2 l hne).trans e⟩ sb
  done := fun s Q E st q => by
    obtain ⟨k, e, a, b⟩ := st
    have hk : k = items.size := by omega
    exact wpAny_nextOf_list_end hh a b (Array.getElem?_eq_none (by omega)) q
theorem drawsEnd {prog : Program} {w : World} {A : Around} (hh : A.handled = none) (it l : Addr) (items : Array Value) (i : Nat) (hi : items.size ≤ i) :
    Draws prog w A it [it, l] (i + 1) (fun _ _ => False) (fun j h => j = i + 1 ∧ h.IsListIter it l i ∧ h.IsList l items) where
  live := fun j h st => let ⟨_, ⟨o, e, _⟩, _⟩ := st; ⟨o, e⟩
  frame := fun j h h' st kk => let ⟨e, a, b⟩ := st; ⟨e, a.at fun o q => kk it (by simp) o q, b.at fun o q => kk l (by simp) o q⟩
  item := fun j s Q E hj st q => absurd hj (by rw [st.1]; exact Nat.lt_irrefl _)
  done := fun s Q E st q => wpAny_nextOf_list_end hh st.2.1 st.2.2 (Array.getElem?_eq_none hi) q
theorem turn_enum1 {P : Program} {w : World} {K : PySem.W.Frag} {elts : List Expr} {x1 : Nat} {tp : Pos} (a it e : Addr) (hne : e ≠ it) : Turn P w K (.Tuple elts x1 tp) (Iten1 K a) [e, it] e (fun i h => (∃ old, IsEnum h e it ((i + 1 : Nat) : Int) old) ∧ h.IsListIter it a i) where
  mem := by simp
  obj := fun i h st b hb => by
    obtain ⟨⟨old, h1⟩, o, h2, h3, h4⟩ := st
    rcases List.mem_cons.mp hb with rfl | hb
    · exact ⟨_, h1, fun v z => by cases z⟩
    · rw [List.mem_singleton.mp hb]
      exact ⟨o, h2, fun v z => by rw [h4] at z; cases z⟩
  keep := fun i h h' st k => ⟨let ⟨old, h1⟩ := st.1; ⟨old, k e (by simp) _ h1⟩, st.2.at fun o q => k it (by simp) o q⟩
  item := by
    intro X hP hw hK hc i pins s σ H E I hf st hg
    subst hP hw hK
    obtain ⟨xs, x, hq, hx⟩ := hg
    obtain ⟨its, rv, p, hz⟩ := I.list hq
    obtain ⟨u, hu, ru⟩ := rv.get hx
    obtain ⟨⟨old, he⟩, hit⟩ := st
    have ap : ∀ f ∈ [e, it], a ≠ f := fun f hm z => by
      subst z
      obtain ⟨n0, n1, n2, n3, n4, n5⟩ := hf a hm
      rcases hq with (h | ⟨o, h⟩) | ⟨o, its, n, hk, _⟩
      · rw [n0] at h; cases h
      · rw [n0] at h; cases h
      · have hb := I.mod.kin a o hk
        rcases n3 with m | m
        · exact I.ok.noex a o hb m
        · exact absurd (Nat.lt_of_lt_of_le (Heap.lt_size hb) (Nat.le_trans I.ok.bsz m)) (Nat.lt_irrefl _)
    have hlt : ∀ b ∈ [e, it], b < s.heap.objs.size := fun b hb => by
      rcases List.mem_cons.mp hb with rfl | hb
      · exact Heap.lt_size he
      · rw [List.mem_singleton.mp hb]; obtain ⟨o, h2, _⟩ := hit; exact Heap.lt_size h2
    have hes : e ≠ s.heap.objs.size := Nat.ne_of_lt (hlt e (by simp))
    have hil : i < its.length := (List.getElem?_eq_some_iff.mp hu).1
    refine wpAny_pyNext_enum_itemD (i := i + 1) (draws1 (prog := X.prog) (w := X.w) (A := X.A.in1) (show X.A.in1.handled = none from I.ok.hd hc) it a (ap it (by simp)) its.toArray) he ⟨i, rfl, hit, p.isList⟩ (by simp; omega) hne (by simp [hne]; exact (ap e (by simp)).symm) fun y g1 tk py a1 a2 a3 a4 a5 => ⟨_, rfl, wpAny_letOwnedTupleGo_enum a1 fun g2 b1 b2 => ?_⟩
    obtain ⟨k0, ek, py⟩ := py
    obtain ⟨k1, ek1, a2, _⟩ := a2
    obtain rfl : i = k0 := by omega
    obtain rfl : k1 = i + 1 := by omega
    obtain rfl : u = y := by simpa [hu] using py
    have k : ∀ b ob, b ∉ [e, it] → s.heap.get? b = some ob → g2.get? b = some ob := fun b ob hb q => by
      have n1 : b ≠ e := fun z => hb (by simp [z])
      have n2 : b ≠ it := fun z => hb (by simp [z])
      exact (b2.2 b n1).trans (a5 b ob n1 n2 q)
    have tup : g2.get? s.heap.objs.size = some { cls := .type "tuple", data := .seq #[.int ((i + 1 : Nat) : Int) tk, u] } := (b2.2 _ (Ne.symm hes)).trans a3
    have new : ObjOk X.prog X.w (upd H s.heap.objs.size (.tup [.int ((i + 1 : Nat) : Int), x])) g2 s.heap.objs.size (.tup [.int ((i + 1 : Nat) : Int), x]) :=
      ⟨by show 2 ≤ sizeLine; decide, [.int ((i + 1 : Nat) : Int) tk, u], .cons ⟨_, rfl⟩ (.cons ru .nil), _, tup, rfl, _, rfl⟩
    refine ⟨.ref s.heap.objs.size, _, Inv.turnNew (s := s) (t' := tk + 1) I hf k hlt new, rfl, ⟨s.heap.objs.size, x, rfl, I.hok.fresh (Nat.le_refl _), rfl, fun ys hy => by rw [I.list_inj hy hq]; exact hx⟩, ⟨⟨_, b1⟩, a2.at fun o q => (b2.2 it (Ne.symm hne)).trans q⟩, fun b hb => ?_⟩
    rw [upd_ne (Nat.ne_of_lt (hlt b hb))]
    exact (hf b hb).1
  done := by
    intro X hP hw hK hc i pins s σ H E I hf st hg
    subst hP hw hK
    obtain ⟨xs, hq, hx⟩ := hg
    obtain ⟨its, rv, p, hz⟩ := I.list hq
    obtain ⟨f0, f1, f2, f3, f4, f5⟩ := hf it (by simp)
    obtain ⟨⟨old, he⟩, hit⟩ := st
    have hl := rv.length
    exact wpAny_pyNext_enum_endD (drawsEnd (prog := X.prog) (w := X.w) (A := X.A.in1) (show X.A.in1.handled = none from I.ok.hd hc) it a its.toArray i (by simp; omega)) he ⟨rfl, hit, p.isList⟩ fun h' eb => ⟨rfl, I.turned (t' := s.toks) (fun b o hb e => eb b o hb e) f0 f1 f3 f4 f5⟩
  self := fun _ _ _ _ _ st h => let ⟨old, h1⟩ := st.1; wpAny_pyIter_enum h1 h
section
variable {cl : Nat → Addr} {X : Cx} {l : Expr} {fe : FE} {pos p tp p2 kp : Pos} {elts : List Expr} {x1 kk : Nat}
def enumD1 (xs : List Dat) : List Dat := xs.zipIdx.map fun q => Dat.tup [.int ((q.2 + 1 : Nat) : Int), q.1]
def iEnum1 (fe : FE) : FA := fun δ => match fe δ with | some (.lst xs) => some (enumD1 xs) | _ => none
theorem enumD1_get {xs : List Dat} {i : Nat} {d : Dat} (h : (enumD1 xs)[i]? = some d) : ∃ x, xs[i]? = some x ∧ d = .tup [.int ((i + 1 : Nat) : Int), x] := by
  unfold enumD1 at h
  rw [List.getElem?_map, List.getElem?_zipIdx] at h
  cases e : xs[i]? with
  | none => rw [e] at h; cases h
  | some x => rw [e] at h; simp at h; exact ⟨x, rfl, by rw [← h]; simp⟩
theorem walk_enum1 {K : PySem.W.Frag} {F : Hp} {a : Addr} {vs : List V} {ds : List Dat} (h : SqL K F a vs) (r : RepL K cl F vs ds) : Walk K cl F (Iten1 K a) (enumD1 ds) where
  go := fun i H s hi => ⟨vs, _, s.seq h, List.getElem?_eq_getElem (by rw [r.length]; simpa [enumD1] using hi)⟩
  stop := fun i H s hi => ⟨vs, s.seq h, by rw [r.length]; simpa [enumD1] using hi⟩
  yld := fun i H Fc x H' d s1 s2 hd y => by
    obtain ⟨p, v, rfl, hp, rfl, y⟩ := y
    obtain ⟨d0, e0, rfl⟩ := enumD1_get hd
    have hFp : Fc p = none := none_of s2 hp
    refine ⟨upd Fc p (.tup [.int ((i + 1 : Nat) : Int), v]), same_upd hp, same_upd2 s2, Grow.new s2 hp, .tup' upd_same (.cons (.int _) (.cons ?_ .nil))⟩
    exact ((pget i r (y vs ((s1.trans s2).seq h)) e0).mono s1).mono (same_upd hFp)
theorem ppi_enum1 (hg : Gl X "enumerate") (hm : X.mg "enumerate" = none) (hl : PP cl X l fe) (hs : starEach [l] X.env = [(false, eval l X.env)] := by rfl)
    (hk : (backToKw pos (keywordEach [⟨some "start", .Constant (.int 1) kk p2, kp⟩] X.env)) = [(some ("start" : Str), do let v ← eval (.Constant (.int 1) kk p2) X.env; standAt pos; pure v)] := by rfl) :
    PPI cl X (.Tuple elts x1 tp) (.Call (.Name "enumerate" p) [l] [⟨some "start", .Constant (.int 1) kk p2, kp⟩] pos) (iEnum1 fe) := fun pins s σ H R I h => by
  obtain ⟨δ, F, ω, ds, hf, er, k⟩ := h
  unfold iEnum1 at hf
  split at hf
  · rename_i xs e
    cases hf
    refine wpAny_Call_Name_kw (ld_blt I hg hm (show bootBuiltins "enumerate" = some (.type "enumerate") by decide +kernel) (callWith_typeKw (thn (pa_cons hl pa_nil hs pos pins s σ H (fun vs H1 => ∃ v F1, vs = [v] ∧ Same H H1 ∧ Same F1 H1 ∧ Grow F H F1 ∧ Rep X.K cl F1 v (.lst xs)) I ⟨δ, F, ω, _, e, er, fun v H1 F1 a b c d => ⟨v, F1, rfl, a, b, c, d⟩⟩) fun us s1 ⟨vs, H1, I1, r1, v, F1, ev, s1', s2', g1, rv⟩ => ?_) (by rw [hs]; rfl) (by rw [hk]; rfl) (by rw [hk]; rfl)))
    subst ev
    cases r1 with
    | cons r rr =>
      cases rr
      obtain ⟨a, ws, rfl, q, t⟩ := rv.lst_inv
      cases r
      rw [hk]
      refine evalAll_cons (wpAny_bind (thn (pe_int pins s1 σ H1 (fun v H' => v = .int 1 ∧ H' = H1) I1 ⟨rfl, rfl⟩) fun u s2 ⟨v, H2, I2, r2, ev, eH⟩ => wpAny_bind (wpAny_standAt (wpAny_pure (evalAll_nil ?_)))))
      subst ev eH
      obtain ⟨tk, rfl⟩ := r2
      obtain ⟨its, rv', pl, hz⟩ := I2.list (s2'.seq q)
      refine call_enum1 pl.isList fun h2 b1 b2 b4 => wpAny_pyIter_enum b1 ?_
      have I3 : L2.Inv X pins σ H2 { s2 with heap := h2 } := I2.kept (t' := s2.toks) b4
      have fr : ∀ b ∈ [s2.heap.objs.size + 1, s2.heap.objs.size], FpOk X pins H2 b := fun b hb => by
        rcases List.mem_cons.mp hb with rfl | hb
        · exact I2.fpOk (Nat.le_succ _) (I2.hok.fresh (Nat.le_succ _))
        · rw [List.mem_singleton.mp hb]; exact I2.fpOk (Nat.le_refl _) (I2.hok.fresh (Nat.le_refl _))
      exact ⟨s2.heap.objs.size + 1, [s2.heap.objs.size + 1, s2.heap.objs.size], _, _, H2, rfl, I3, turn_enum1 a _ _ (Nat.succ_ne_self _), ⟨⟨_, b1⟩, b2⟩, fr, k _ H2 F1 s1' s2' g1 (walk_enum1 q t)⟩
  · cases hf
end
end MB
namespace MB
open PySem PySem.Spec PyProof.Rows L2
def repl1 (x : Str) : Str := if (Builtin.Str.occurrences x " " 0 x.length 1).isEmpty = true then x else Builtin.Str.glued "  " (Builtin.Str.partsBetween x (Builtin.Str.occurrences x " " 0 x.length 1) 1)
theorem gives_rep1 (x : Str) (t u v k : Tok) (hu : (u == 0 || v == 0) = false) (huv : (u == v) = false) (hl : Builtin.Str.tooLong (x.length + (Builtin.Str.occurrences x " " 0 x.length 1).length * 2) = false) :
    Gives (Builtin.«str.replace» ⟨[.str x t, .str " " u, .str "  " v, .int 1 k], []⟩) (if (Builtin.Str.occurrences x " " 0 x.length 1).isEmpty = true then .val (.str x t) else .str (Builtin.Str.glued "  " (Builtin.Str.partsBetween x (Builtin.Str.occurrences x " " 0 x.length 1) 1))) := by
  show Gives (if ((Builtin.Str.occurrences x " " 0 x.length 1).isEmpty || false) = true then (do rule "str.replace.nothing"; ret (.str x t)) else
          (do let same ← isSame (.str " " u) (.str "  " v)
              if same = true then (do rule "str.replace.old-is-new"; ret (.str x t)) else
              if Builtin.Str.tooLong (x.length + (Builtin.Str.occurrences x " " 0 x.length 1).length * 2) = true then unsupported "str.replace:memory" else
              retStr (Builtin.Str.glued "  " (Builtin.Str.partsBetween x (Builtin.Str.occurrences x " " 0 x.length 1) 1)))) _
  rw [Bool.or_false]
  cases hc : (Builtin.Str.occurrences x " " 0 x.length 1).isEmpty with
  | true => exact .rule (.of_eq rfl)
  | false =>
    rw [isSame_str_other " " "  " u v hu huv (by decide +kernel), hl]
    exact .of_eq rfl
theorem sub_le (z : Str) (i j : Nat) : (Builtin.Str.strSub z i j).length ≤ z.length := by
  show (z.cps.extract i j).size ≤ z.cps.size
  rw [Array.size_extract]
  omega
theorem repl_fits {z : Str} (hl : z.length ≤ 100000) (ho : (Builtin.Str.occurrences z " " 0 z.length 1).length ≤ 1) (hc : ¬ (Builtin.Str.occurrences z " " 0 z.length 1).isEmpty = true) :
    (Builtin.Str.glued "  " (Builtin.Str.partsBetween z (Builtin.Str.occurrences z " " 0 z.length 1) 1)).length ≤ sizeLine := by
  match h : Builtin.Str.occurrences z " " 0 z.length 1, ho, hc with
  | [], _, hc => exact absurd rfl hc
  | [i], _, _ =>
    have e : (Builtin.Str.glued "  " (Builtin.Str.partsBetween z [i] 1)) = ⟨(Builtin.Str.strSub z 0 i).cps ++ ("  " : Str).cps ++ (Builtin.Str.strSub z (i + 1) z.length).cps⟩ := rfl
    rw [e]
    have h1 := sub_le z 0 i
    have h2 := sub_le z (i + 1) z.length
    have h3 : ("  " : Str).cps.size = 2 := by decide +kernel
    show ((Builtin.Str.strSub z 0 i).cps ++ ("  " : Str).cps ++ (Builtin.Str.strSub z (i + 1) z.length).cps).size ≤ sizeLine
    rw [Array.size_append, Array.size_append, h3, sizeLine_eq]
    have h4 : (Builtin.Str.strSub z 0 i).cps.size ≤ z.length := h1
    have h5 : (Builtin.Str.strSub z (i + 1) z.length).cps.size ≤ z.length := h2
    omega
  | _ :: _ :: _, ho, _ => simp at ho
section
variable {cl : Nat → Addr} {X : Cx} {x : Str} {p1 p2 p3 p4 p5 p6 p7 p8 p9 p10 p11 p12 : Pos} {j1 j2 j3 j4 j5 j6 : Nat} {i : Nat}
def aSpoil (i : Nat) : FA := fun δ => match eV i δ with
  | some (.str z) => if z.length ≤ 100000 then some [.str (z ++ " "), .str ((" " : Str) ++ z), .str (repl1 z), .str ""] else none
  | _ => none
theorem ld_var {pins : List (Addr × Obj)} {s : Shared} {σ : St} {H : Hp} {z : Str} {pos : Pos} {Q : Value → Shared → Prop} {E : Value → Shared → Prop} (I : L2.Inv X pins σ H s) (hN : X.N[i]? = some x) (hv : Vis X.env.scope x) (e : σ[i]? = some (some (.str z))) (q : ∀ t, Q (.str z t) s)
    (hd : (x == ("__debug__" : Str)) = false) (hcd : (x == ("__classdict__" : Str)) = false) : wpAny (model X.prog X.w) X.A (eval (.Name x pos) X.env) Q E s := by
  obtain ⟨m, hn, hl⟩ := I.loc
  obtain ⟨u, r, l⟩ := hl i x _ hN e hv
  obtain ⟨t, rfl⟩ := r
  rcases l with ⟨hk, hm⟩ | ⟨hk, c, hc, hcell⟩
  · exact wpAny_Name (wpAny_loadName_local I.ok.kind hk hn hm (q t)) hd
  · rcases hk with hk | hk
    · exact wpAny_Name (wpAny_loadName_cell I.ok.kind hk hc hcell (q t)) hd
    · exact wpAny_Name (wpAny_loadName_free I.ok.kind hk hc hcell (q t) hcd) hd
theorem add_pos {prog : Program} {w : World} {A : Around} {s : Shared} {a b : Str} {t u : Tok} {E : Value → Shared → Prop} {Q : Value → Shared → Prop} (hs : 0 < s.toks) (hl : a.length + b.length ≤ sizeLine) (q : ∀ t' k, 0 < k → Q (.str (a ++ b) t') { s with toks := k }) :
    wpAny (model prog w) A (binaryOp .Add (.str a t) (.str b u)) Q E s := by
  refine P.add_str ?_
  split
  · rename_i h
    have e : a ++ b = b := by
      have : a = ⟨#[]⟩ := by cases a; simp [Str.length] at h; rw [h]
      subst this; cases b; show Str.mk _ = _; simp
    have := q u s.toks hs
    rw [e] at this
    exact this
  · split
    · rename_i h
      have e : a ++ b = a := by
        have : b = ⟨#[]⟩ := by cases b; simp [Str.length] at h; rw [h]
        subst this; cases a; show Str.mk _ = _; simp
      have := q t s.toks hs
      rw [e] at this
      exact this
    · exact ⟨by show (Str.mk (a.cps ++ b.cps)).cps.size ≤ _; simp only [Array.size_append]; exact hl, q _ _ (Nat.succ_pos _)⟩
theorem ppa_spoil {p13 : Pos} (hN : X.N[i]? = some x) (hv : Vis X.env.scope x) (hd : (x == ("__debug__" : Str)) = false := by decide +kernel) (hcd : (x == ("__classdict__" : Str)) = false := by decide +kernel)
    (hs : starEach [.BinOp (.Name x p1) .Add (.Constant (.str " ") j1 p2) p3, .BinOp (.Constant (.str " ") j2 p4) .Add (.Name x p5) p6, .Call (.Attribute (.Name x p7) "replace" p8) [.Constant (.str " ") j3 p9, .Constant (.str "  ") j4 p10, .Constant (.int 1) j5 p11] [] p12, .Constant (.str "") j6 p13] X.env
      = [(false, eval (.BinOp (.Name x p1) .Add (.Constant (.str " ") j1 p2) p3) X.env), (false, eval (.BinOp (.Constant (.str " ") j2 p4) .Add (.Name x p5) p6) X.env), (false, eval (.Call (.Attribute (.Name x p7) "replace" p8) [.Constant (.str " ") j3 p9, .Constant (.str "  ") j4 p10, .Constant (.int 1) j5 p11] [] p12) X.env), (false, eval (.Constant (.str "") j6 p13) X.env)] := by rfl)
    (hs2 : starEach [.Constant (.str " ") j3 p9, .Constant (.str "  ") j4 p10, .Constant (.int 1) j5 p11] X.env = [(false, eval (.Constant (.str " ") j3 p9) X.env), (false, eval (.Constant (.str "  ") j4 p10) X.env), (false, eval (.Constant (.int 1) j5 p11) X.env)] := by rfl)
    (hbase : attributeBase (.Name x p7) "replace" X.env (eval (.Name x p7) X.env) = eval (.Name x p7) X.env := by rfl)
    (hfew : ((backTo p12 (starEach [.Constant (.str " ") j3 p9, .Constant (.str "  ") j4 p10, .Constant (.int 1) j5 p11] X.env)).all (fun x => !x.1) && (backToKw p12 (keywordEach [] X.env)).all (fun x => x.1.isSome)
      && decide (([.Constant (.str " ") j3 p9, .Constant (.str "  ") j4 p10, .Constant (.int 1) j5 p11] : List Expr).length + ([] : List Keyword).length + (if ([] : List Keyword).isEmpty then 0 else 1) < 30)) = true := by rfl)
    (hline : (p8.endLine == p12.line) = true := by rfl) :
    PPA cl X [.BinOp (.Name x p1) .Add (.Constant (.str " ") j1 p2) p3, .BinOp (.Constant (.str " ") j2 p4) .Add (.Name x p5) p6, .Call (.Attribute (.Name x p7) "replace" p8) [.Constant (.str " ") j3 p9, .Constant (.str "  ") j4 p10, .Constant (.int 1) j5 p11] [] p12, .Constant (.str "") j6 p13] (aSpoil i) := fun pos pins s σ H Q I h => by
  obtain ⟨δ, F, ω, ds, hf, er, k⟩ := h
  unfold aSpoil at hf
  split at hf
  · rename_i z hz
    split at hf
    · rename_i hl
      obtain rfl := Option.some.inj hf
      obtain ⟨v, ev, rv⟩ := er.val (eV_some hz)
      cases rv.str_inv
      have s1 : (" " : Str).length = 1 := by decide +kernel
      have szl := sizeLine_eq
      rw [hs]
      show wpAny _ _ (spliced ((false, eval (.BinOp (.Name x p1) .Add (.Constant (.str " ") j1 p2) p3) X.env) :: (false, eval (.BinOp (.Constant (.str " ") j2 p4) .Add (.Name x p5) p6) X.env) :: (false, eval (.Call (.Attribute (.Name x p7) "replace" p8) [.Constant (.str " ") j3 p9, .Constant (.str "  ") j4 p10, .Constant (.int 1) j5 p11] [] p12) X.env) :: (false, eval (.Constant (.str "") j6 p13) X.env) :: [])) _ _ s
      refine Calls.spliced_cons (wpAny_BinOp (ld_var I hN hv ev (fun t => Calls.Constant_str (add_pos (Nat.succ_pos _) (by rw [s1]; omega) fun t1 k1 hk1 => ?_)) hd hcd))
      refine Calls.spliced_cons (wpAny_BinOp (Calls.Constant_str (ld_var (I.tok (k1 + 1)) hN hv ev (fun t => add_pos (Nat.succ_pos _) (by rw [s1]; omega) fun t2 k2 hk2 => ?_) hd hcd)))
      refine Calls.spliced_cons (wpAny_Call_method_late hbase hfew hline rfl (ld_var (I.tok k2) hN hv ev (fun t => ⟨"str", "str.replace", PySem.F.plainAttrs_str, PySem.F.slot_str_replace, PySem.F.type_str_replace, typeIs_str _ _ _, (fun a e => by cases e), ?_⟩) hd hcd))
      rw [hs2]
      refine Calls.callWith_builtin rfl (Calls.evalArgs_plain (Calls.spliced_cons (Calls.Constant_str (k := j3) (pos := p9) (Calls.spliced_cons (Calls.Constant_str (k := j4) (pos := p10) (Calls.spliced_cons (wpAny_Constant_int (k := j5) (pos := p11) (Calls.spliced_nil ?_))))))))
      have fin : ∀ (t3 : Tok) (k3 : Nat), wpAny (model X.prog X.w) X.A (spliced [(false, eval (.Constant (.str "") j6 p13) X.env)]) (fun vs s₂ => AP X pins σ Q (.str (z ++ " ") t1 :: .str ((" " : Str) ++ z) t2 :: .str (repl1 z) t3 :: vs) s₂) X.xe { s with toks := k3 } := fun t3 k3 =>
        Calls.spliced_cons (Calls.Constant_str (Calls.spliced_nil ⟨[.str (z ++ " "), .str ((" " : Str) ++ z), .str (repl1 z), .str ""], H, I.tok (k3 + 1), .cons ⟨_, rfl⟩ (.cons ⟨_, rfl⟩ (.cons ⟨_, rfl⟩ (.cons ⟨_, rfl⟩ .nil))), k _ H F (Same.refl _) er.sub Grow.refl (.cons (.str _) (.cons (.str _) (.cons (.str _) (.cons (.str _) .nil))))⟩))
      have ho : (Builtin.Str.occurrences z " " 0 z.length 1).length ≤ 1 := StrLaws.occ_length_le z " " 0 z.length 1
      have hlong : Builtin.Str.tooLong (z.length + (Builtin.Str.occurrences z " " 0 z.length 1).length * 2) = false := by
        unfold Builtin.Str.tooLong
        exact decide_eq_false (by omega)
      refine call_gives PySem.F.slot_str_replace (typeIs_str _ _ _) PySem.F.entry_str_replace (PySem.F.args_str_replace_4 _ _ _ _) (gives_rep1 z t k2 (k2 + 1) (k2 + 1 + 1) (by have hk0 : k2 ≠ 0 := (Nat.pos_iff_ne_zero.mp hk2); rw [Bool.or_eq_false_iff]; exact ⟨beq_eq_false_iff_ne.mpr hk0, beq_eq_false_iff_ne.mpr (Nat.succ_ne_zero _)⟩) (beq_eq_false_iff_ne.mpr (Nat.ne_of_lt (Nat.lt_succ_self _))) hlong) ?_
      have e : repl1 z = if (Builtin.Str.occurrences z " " 0 z.length 1).isEmpty = true then z else Builtin.Str.glued "  " (Builtin.Str.partsBetween z (Builtin.Str.occurrences z " " 0 z.length 1) 1) := rfl
      split
      · rename_i hc
        rw [if_pos hc] at e
        have := fin t (k2 + 1 + 1 + 1)
        rw [e] at this
        exact this
      · rename_i hc
        rw [if_neg hc] at e
        refine ⟨?_, ?_⟩
        · exact repl_fits hl ho hc
        · have := fin (k2 + 1 + 1 + 1) (k2 + 1 + 1 + 1 + 1)
          rw [e] at this
          exact this
    · cases hf
  · cases hf
end
end MB
namespace MB
open PySem PySem.Spec PyProof.Rows L2
section
variable {cl : Nat → Addr} {X : Cx} {fe : FE}
def sBad (r0 : Option Int) (fe : FE) : FS := fun δ => match r0, fe δ with
  | some r, some (.int n) => if n = r then some (.rt (.bad r)) else none
  | _, _ => none
theorem pb_raise0 {st : Stmt} : PB1 cl X st (sBad none fe) := fun pins s σ H D I h => by
  obtain ⟨B, F0, P, δ, o, hw, _⟩ := h
  cases hw
def badRow (fx : Int → List Dat → Option Dat) (args : List Dat) : Option Int := (List.range 100).findSome? fun k => match fx ((k + 1 : Nat) : Int) args with
  | some (.bad r) => some r
  | _ => none
def refD (f : List Dat → Option Dat) (fx : Int → List Dat → Option Dat) : List Dat → Option Dat
  | [.str z] => match f [.str z] with
    | some _ => some (.int 0)
    | none => match badRow fx [.str z] with
      | some r => match fx r [.str z] with
        | some (.bad n) => if n = r then some (.int r) else none
        | _ => none
      | none => none
  | _ => none
end
end MB
namespace MB
open PySem PySem.Spec PyProof.Rows L2
abbrev bmV : List Value := [.type "ValueError", .type "Exception", .type "BaseException", .type "object"]
section
variable {prog : Program} {w : World} {A : Around} {E : Value → Shared → Prop} {h : Heap} {g : Array GenState} {d : Drawn} {t : Nat} {os : OsState}
variable {nm q : Str} {C N : Addr} {bs bm : List Value} {hdct : Bool} {sn : List Str} {sub : List Value} {ab : Bool} {col : Option Bool} {dd : Option Addr} {k0 k1 k2 k3 k5 : Option Value}
theorem excNew_code {CM : Addr} {rest : List Value} {R : Result → Shared → Prop} (hC : h.get? C = some (excClassObj nm q C N bs (.ref CM :: bmV) hdct sn sub ab col dd k0 k1 k2 k3 k5 "ValueError.__new__"))
    (hq : R (.ok (.ret (.ref (h.objs.size + 1)))) ⟨(h.push { cls := .type "tuple", data := .seq rest.toArray }).push { cls := .ref C, data := .fields #[.ref h.objs.size, .none, .none, .none, .bool false, .none] }, g, d, t, os⟩) (hrest : rest.length ≤ sizeLine) :
    codeAny (model prog w) A (.builtin "ValueError.__new__" ⟨.ref C :: rest, []⟩) R ⟨h, g, d, t, os⟩ := by
  have Fn := PySem.F.excBase_ValueError
  have hends := Fn.ends
  have cB : (Value.ref C :: Value.ref CM :: bmV).contains (.type "ValueError") = true := rfl
  have cA : (Value.ref C :: Value.ref CM :: bmV).contains (.type "AttributeError") = false := rfl
  have cN : (Value.ref C :: Value.ref CM :: bmV).contains (.type "NameError") = false := rfl
  refine codeAny_builtinAt Fn.entry ?_
  unfold Builtin.«BaseException.__new__»
  refine PySem.wpAt_bind (show PySem.wpAt _ _ _ (stack >>= _) _ _ _ from PySem.wpAt_bind (PySem.wpAt_stack fun p below => PySem.wpAt_of_wpAny ?_))
  wp_walk
  refine PySem.wpAt_of_wpAny ?_
  rw [Fn.owner]
  repeat (first | with_reducible refine wpAny_madeHere_exc Fn.canon hC ?_ | with_reducible refine wpAny_loadPart_at hC ?_ | (with_reducible refine wpAny_isSubtype_exc hC ?_; first | rw [cB] | rw [cA] | rw [cN]) | wp_step)
  show R _ _
  rw [Heap.size_push]
  exact hq
theorem exc_make {K : PySem.W.Frag} {CM : Addr} {rest : List Value} {fI : Addr} {oI : Obj} {Q : Fin → Shared → Prop} (X : K.In h)
    (hC : h.get? C = some (excClassObj nm q C N bs (.ref CM :: bmV) hdct sn sub ab col dd k0 k1 k2 k3 k5 "ValueError.__new__")) (hi : PySem.W.findIn K (.ref C) "__init__" = some (some (.ref fI))) (hfI : h.get? fI = some oI) (hfc : oI.cls = .type "function")
    (hq : ∀ h' e, Heap.MadeExcOf h h' e (.ref C) rest → h.objs.size ≤ e → wpAny (model prog w) A (call (.ref fI) (.ref e :: rest)) (fun r s' => r = .none ∧ Q (.done (.ret (.ref e))) s') E ⟨h', g, d, t, os⟩) (hrest : rest.length ≤ sizeLine) :
    wpAny (model prog w) A (Builtin.«type.__call__» ⟨.ref C :: rest, []⟩) Q E ⟨h, g, d, t, os⟩ := by
  have F := PySem.F.excBase_ValueError
  repeat (first | with_reducible refine wpAny_loadPart_at hC ?_ | with_reducible refine wpAny_madeBy_exc hC ?_ | wp_step)
  refine codeAny_call_builtin_code (Code.quiet_builtin _ F.quiet) (wpAny_check_new_subU F (bmB := .ref CM :: bmV) rfl OwnTail.base hC (excNew_code hC ?_ hrest))
  show wpAny _ _ _ _ _ _
  generalize he1 : (h.push { cls := .type "tuple", data := .seq rest.toArray }).push { cls := .ref C, data := .fields #[.ref h.objs.size, .none, .none, .none, .bool false, .none] } = h1
  have kp : ∀ b o, h.get? b = some o → h1.get? b = some o := fun b o e => by rw [← he1]; exact Heap.get?_push_of_some _ (Heap.get?_push_of_some _ e)
  have hget : h1.get? (h.objs.size + 1) = some { cls := .ref C, data := .fields #[.ref h.objs.size, .none, .none, .none, .bool false, .none] } := by rw [← he1]; heap_get
  have htup : h1.get? h.objs.size = some { cls := .type "tuple", data := .seq rest.toArray } := by rw [← he1]; exact Heap.get?_push_of_some _ (Heap.get?_push_at rfl rfl)
  have hcC : (Value.ref C :: Value.ref CM :: bmV).contains (.ref C) = true := by simp
  have hC1 := kp _ _ hC
  have LI := PySem.W.looks_findIn (M := model prog w) (X.keeps kp) hi
  unfold isInstance
  repeat (first | with_reducible refine wpAny_loadPart_at hget ?_ | (with_reducible refine wpAny_isSubtype_exc hC1 ?_; rw [hcC]) | wp_step)
  show wpAny _ _ (typeLookup (.ref C) _) _ _ _
  refine LI.at (wpAny_holding (wpAny_bind ?_))
  unfold bindSpecial
  refine wpAny_bind (wpAny_typeOf (T := "function") ⟨_, kp _ _ hfI, hfc⟩ ?_)
  rw [if_pos (by decide)]
  refine wpAny_pure (wpAny_bind (wpAny_mono (hq _ (h.objs.size + 1) ⟨kp, Heap.get?_none_of_le (Nat.le_succ _), h.objs.size, hget, Heap.get?_none_of_le (Nat.le_refl _), htup⟩ (Nat.le_succ _)) (fun r s' hr => ?_) fun _ _ x => x))
  obtain ⟨rfl, hQ⟩ := hr
  wp_walk
  exact hQ
theorem exc_call {K : PySem.W.Frag} {CM : Addr} {rest : List Value} {fI : Addr} {oI : Obj} {Q : Value → Shared → Prop} (X : K.In h)
    (hC : h.get? C = some (excClassObj nm q C N bs (.ref CM :: bmV) hdct sn sub ab col dd k0 k1 k2 k3 k5 "ValueError.__new__")) (hi : PySem.W.findIn K (.ref C) "__init__" = some (some (.ref fI))) (hfI : h.get? fI = some oI) (hfc : oI.cls = .type "function")
    (hq : ∀ h' e, Heap.MadeExcOf h h' e (.ref C) rest → h.objs.size ≤ e → wpAny (model prog w) (A.under (.builtin "type.__call__" ⟨.ref C :: rest, []⟩)) (call (.ref fI) (.ref e :: rest)) (fun r s' => r = .none ∧ Q (.ref e) s') E ⟨h', g, d, t, os⟩) (hrest : rest.length ≤ sizeLine) :
    wpAny (model prog w) A (call (.ref C) rest) Q E ⟨h, g, d, t, os⟩ := by
  have f1 := tc_lookup
  have f2 := tc_bind (.ref C)
  have hT : (⟨h, g, d, t, os⟩ : Shared).TypeIs (.ref C) "type" := ⟨_, hC, rfl⟩
  refine wpAny_call (codeAny_of_tree ?_)
  show wpAny _ _ (callAny (.ref C) _) _ _ _
  repeat (any_goals (first | assumption | with_reducible refine wpAny_loadPart_at hC ?_ | wp_step))
  exact ⟨rfl, codeAny_call_builtin_at (Code.quiet_builtin _ (by decide +kernel)) entry_typeCall (wpAny_check_type_call_sub hC (exc_make X hC hi hfI hfc hq hrest))⟩
theorem raise_exc {M : Model} {env : Env} {CM : Addr} {s : Shared} {x : Sem Value} {Q : Flow → Shared → Prop} (hh : A.handled = none)
    (hx : wpAny M A x (fun v s₁ => ∃ e dx t0, v = .ref e ∧ s₁.heap.get? C = some (excClassObj nm q C N bs (.ref CM :: bmV) hdct sn sub ab col dd k0 k1 k2 k3 k5 "ValueError.__new__") ∧
      s₁.heap.get? e = some { cls := .ref C, dict := some dx, data := .fields #[.ref t0, .none, .none, .none, .bool false, .none] } ∧ E (.ref e) s₁) E s) : wpAny M A (raiseStmt env (some x) none) Q E s := by
  have hcB : (Value.ref C :: Value.ref CM :: bmV).contains (.type "BaseException") = true := rfl
  unfold raiseStmt
  refine wpAny_bind (wpAny_mono hx (fun v s₁ h₁ => ?_) fun _ _ x => x)
  obtain ⟨e, dx, t0, rfl, hC, he, hE⟩ := h₁
  obtain ⟨hp, g, d, tk, os⟩ := s₁
  repeat (first | with_reducible refine wpAny_loadPart_at he ?_ | with_reducible refine wpAny_loadPart_at hC ?_ | (with_reducible refine wpAny_isSubtype_exc hC ?_; rw [hcB]) | wp_step)
  exact wpAny_raiseNew_none hh hE
end
open PySem.W (Frag InstAt findIn takerIn clsIn looks_findIn looks_clsIn looks_mroIn mroIn)
theorem refuse_bmV (self : Value) : PySem.refuseLoop self "__setattr__" bmV = pure () := by
  have e : PySem.refuseLoop self "__setattr__" bmV = PySem.refuseLoop self "__setattr__" [.type "object"] := by kernel_rfl
  rw [e]
  exact PySem.F.store_object.passes self
section
variable {prog : Program} {w : World} {A : Around} {E : Value → Shared → Prop} {s : Shared} {K : Frag} {C CM x : Addr} {cd : ClassData} {name : Str} {v : Value} {vs : Array Value}
theorem osaE {ox : Obj} {od : Option Obj} {tk : Tok} {R : Result → Shared → Prop} (X : K.In s.heap) (I : InstAt s.heap x ox C od) (hc : clsIn K C = some cd) (hm : cd.mro = .ref C :: .ref CM :: bmV) (ht : findIn K (.ref C) name = some none)
    (h : ∀ b, wpAny (model prog w) A.in1 (Builtin.ObjectAttr.storeInOwnDict (.ref x) (.ref C) (.str name tk) name v b)
      (fun fin s' => match fin with | .done f => R (.ok f) s' | .again c' => c'.quiet = true ∧ codeAny (model prog w) A c' R s') (fun e s' => R (.error e) s') s) :
    codeAny (model prog w) A (.call (.builtin "object.__setattr__") ⟨[.ref x, .str name tk, v], []⟩) R s := by
  have SF := PySem.F.store_object
  have sub : PySem.W.Looks (model prog w) s.heap (isInstance (.ref x) (.type "object")) true := I.type.andThen (looks_mroIn X (by unfold mroIn; rw [hc, Option.bind_some, hm]; rfl))
  have hm2 : PySem.W.Looks (model prog w) s.heap (mroOf (.ref C)) cd.mro := (looks_clsIn X hc).andThen .now
  refine codeAny_call_builtin SF.slot.plain SF.entry (@PySem.W.check_slot (model prog w) _ _ s "object.__setattr__" "object" "__setattr__" (.ref x) [.str name tk, v] [] _ SF.kind SF.split sub (SF.args (.ref x) (.str name tk) v) ?_)
  rw [PySem.W.osa_eq, PySem.refuse_eq]
  refine wpAny_bind (wpAny_bind (I.type.here (wpAny_bind (hm2.here ?_))))
  rw [hm, PySem.refuseLoop_ref, PySem.refuseLoop_ref, refuse_bmV]
  exact wpAny_pure (wpAny_bind (I.type.here (wpAny_bind ((looks_findIn X ht).here (wpAny_bind (wpAny_pure (h _)))))))
theorem set_exc {Q : Unit → Shared → Prop} (X : K.In s.heap) (hx : s.heap.get? x = some { cls := .ref C, data := .fields vs }) (hs : findIn K (.ref C) "__setattr__" = some (some (.builtin "object.__setattr__")))
    (hc : clsIn K C = some cd) (hm : cd.mro = .ref C :: .ref CM :: bmV) (hd : cd.hasDict = true) (ht : findIn K (.ref C) name = some none)
    (h : ∀ h' k, h'.get? x = some { cls := .ref C, dict := some s.heap.objs.size, data := .fields vs } → h'.Ns1 s.heap.objs.size (fun y => if y = name then some v else none) → (∀ b o, b ≠ x → s.heap.get? b = some o → h'.get? b = some o) → Q () { s with heap := h', toks := k }) :
    wpAny (model prog w) A (setAttr (.ref x) name v) Q E s := by
  have J : InstAt s.heap x { cls := .ref C, data := .fields vs } C none := ⟨hx, rfl, rfl, True.intro⟩
  refine PySem.W.set_plain X J hs (osaE (s := { s with toks := s.toks + 1 }) X J hc hm ht fun b => ?_)
  refine wpAny_bind (wpAny_pure (wpAny_bind (wpAny_bind (wpAny_loadPart hx (wpAny_bind (PySem.W.Looks.here (s := { s with toks := s.toks + 1 }) (looks_clsIn X hc) ?_))))))
  rw [hd]
  refine wpAny_bind (m := alloc _) (wpAny_alloc (wpAny_bind (m := update _ _) (wpAny_update (Heap.get?_push_of_some _ hx) ?_)))
  generalize he : (s.heap.push { cls := .type "dict", data := .dict #[] }).update x (fun o => { o with dict := some s.heap.objs.size }) = h1
  have hne : x ≠ s.heap.objs.size := Nat.ne_of_lt (Heap.lt_size hx)
  have e1 : h1.get? x = some { cls := .ref C, dict := some s.heap.objs.size, data := .fields vs } := by
    rw [← he, Heap.get?_update_self _ (Heap.get?_push_of_some _ hx) rfl]
  have e2 : h1.get? s.heap.objs.size = some { cls := .type "dict", data := .dict #[] } := by
    rw [← he, Heap.get?_update_other _ _ hne]
    exact Heap.get?_push_size _ rfl
  have e3 : ∀ b o, b ≠ x → s.heap.get? b = some o → h1.get? b = some o := fun b o hb e => by
    rw [← he, Heap.get?_update_other _ _ (Ne.symm hb)]
    exact Heap.get?_push_of_some _ e
  have n1 : h1.Ns1 s.heap.objs.size fun _ => none := Heap.Ns1.of_empty ⟨_, #[], _, e2, rfl, by intro a ha; simp at ha, fun _ => rfl⟩
  refine wpAny_pure (wpAny_bind (wpAny_pure (wpAny_bind (wpAny_nsSet1 (s := { s with heap := h1, toks := s.toks + 1 }) n1 fun h2 n2 sb => ?_))))
  obtain ⟨oD, esD, epD, hoD, hdD, hcD⟩ := n2.count (PySem.Within.cons name v (ns := []) (fun g hg => absurd rfl hg))
  refine wpAny_bind (wpAny_lookBehind hoD (by rw [hdD]; exact pastItsLine_dict (Nat.le_trans hcD (by show 1 ≤ sizeLine + 1; omega))) ?_)
  exact wpAny_pure (h _ _ ((sb.2 _ hne).trans e1) n2 fun b o hb e => (sb.2 b (Nat.ne_of_lt (Heap.lt_size e))).trans (e3 b o hb e))
theorem get_exc {od : Obj} {ox : Obj} {expr : Bool} {Q : Value → Shared → Prop} (X : K.In s.heap) (J : InstAt s.heap x ox C (some od)) (hg : findIn K (.ref C) "__getattribute__" = some (some (.builtin "BaseException.__getattribute__")))
    (hga : findIn K (.ref C) "__getattr__" = some none) (hc : clsIn K C = some cd) (hm : cd.mro = .ref C :: .ref CM :: bmV) (hh : PySem.W.hasDictIn K C = true) (ht : findIn K (.ref C) name = some none) (hl : PySem.W.lookIn name od = some (some v)) (hv : PySem.W.handedIn v = true) (h : ∀ k, Q v { s with toks := k }) :
    wpAny (model prog w) A (getAttr (.ref x) name expr) Q E s := by
  have fo := PySem.W.findObj_own hh ht rfl hl
  obtain ⟨hp, g, d, tk, os⟩ := s
  have L0 := J.type (M := model prog w)
  have L1 := looks_findIn (M := model prog w) X hg
  have L2 := PySem.W.looks_find (M := model prog w) X J fo
  have LG := looks_findIn (M := model prog w) X hga
  have FB := PySem.F.attrBase_ValueError
  have f3 := FB.ga.bind (.ref x)
  have sub : PySem.W.Looks (model prog w) hp (isInstance (.ref x) (.type "BaseException")) true := J.type.andThen (looks_mroIn X (by unfold mroIn; rw [hc, Option.bind_some, hm]; rfl))
  unfold getAttr getAttrBy
  refine wpAny_bind (wpAny_mkText (wpAny_holding (wpAny_bind (L0.at (wpAny_bind (L1.at ?_))))))
  show wpAny _ _ (getAttrByItsOwn _ _ _ _ _ _) _ _ _
  unfold getAttrByItsOwn hookBefore
  refine wpAny_bind (LG.at ?_)
  unfold callGetattribute
  rw [if_neg (by cases expr <;> exact Bool.false_ne_true)]
  refine wpAny_bind (wpAny_attempt (wpAny_holding ?_))
  unfold boundAndCalled
  rw [f3]
  refine wpAny_bind (wpAny_pure (wpAny_call (codeAny_call_builtin FB.ga.plain PySem.F.entry_bexc_ga (@PySem.W.check_slot (model prog w) _ _ ⟨hp, g, d, tk + 1, os⟩ "BaseException.__getattribute__" "BaseException" "__getattribute__" (.ref x) [.str name tk] [] _ (by decide +kernel) (by decide +kernel) sub (PySem.F.args_bexc_ga (.ref x) (.str name tk)) ?_))))
  show wpAny _ _ (typeOf (.ref x) >>= _) _ _ _
  refine wpAny_bind (L0.at (wpAny_bind (L2.at (wpAny_pure ?_))))
  show wpAny _ _ (handedOut v) _ _ _
  rw [PySem.W.handedOut_of hv]
  exact wpAny_pure (h (tk + 1))
end
end MB
namespace MB
open PySem PySem.Spec PyProof.Rows L2
def Flt (C : Addr) (r : Int) (x dx : Addr) (tb : Value) (h : Heap) : Prop :=
  (∃ t0, h.get? x = some { cls := .ref C, dict := some dx, data := .fields #[.ref t0, tb, .none, .none, .bool false, .none] }) ∧ ∃ m t, h.Ns1 dx m ∧ m "row" = some (.int r t)
def Tb (T : Addr) (f3 : Value) (h : Heap) : Prop := ∃ oT ts, h.get? T = some oT ∧ oT.data = .fields ts ∧ ts[3]? = some f3
section
variable {X : Cx} {pins : List (Addr × Obj)} {σ : St} {H : Hp} {s : Shared} {C x dx : Addr} {r : Int} {E : Value → Shared → Prop}
theorem note_tail {Q : Unit → Shared → Prop} {tb head : Value} {bb : Bool} (hst : X.stack = X.env :: X.outer ∧ X.env.frame = some X.env.locals) (I : L2.Inv X pins σ H s) (fl : Flt C r x dx tb s.heap) (fx : FpOk X pins H x) (fd : FpOk X pins H dx) (hne : x ≠ dx)
    (q : ∀ s' T, L2.Inv X pins σ H s' → Flt C r x dx (.ref T) s'.heap → Tb T (rawInt X.env.locals) s'.heap → FpOk X pins H T → T ≠ x → T ≠ dx → Q () s') :
    wpAny (model X.prog X.w) X.A (do let a ← frameOf X.env; let pl ← entryPlaceOf X.env.locals bb; let n ← EntryCells.newEntry head a .none (rawInt X.env.locals) .none pl; setField (.ref x) 1 n) Q E s := by
  obtain ⟨⟨t0, ex⟩, m, t, ns, hm⟩ := fl
  have hl : s.heap.FunFrames X.base (X.env :: X.outer) := hst.1 ▸ I.stack
  have hfr : X.A.frames = some (X.env :: X.outer) := hst.1 ▸ I.ok.frames
  refine wpAny_bind (wpAny_frameOf_fun hfr hl hst.2 fun h1 s1 => wpAny_bind (wpAny_entryPlaceOf fun pl hpl => ?_))
  unfold EntryCells.newEntry newFields
  refine wpAny_bind (wpAny_newObj_type ?_ (hpl.sizeOk5 _ _ _ _ _))
  have fse : (X.env :: X.outer).filterMap (·.frame) = X.env.locals :: X.fs := by rw [List.filterMap_cons, hst.2]; rfl
  rw [fse] at s1
  have nf : ∀ b, b ≠ X.env.locals → b ∉ X.fs → b ∉ X.env.locals :: X.fs := fun b h1 h2 h => (List.mem_cons.mp h).elim h1 h2
  have k1 : ∀ b o, b ≠ X.env.locals → b ∉ X.fs → s.heap.get? b = some o → h1.get? b = some o := fun b o a1 a2 e => (s1.2.1 b (nf b a1 a2)).trans e
  have ex1 := k1 _ _ fx.2.1 fx.2.2.1 ex
  generalize hT : ({ cls := .type "traceback", dict := none, data := .fields ([head, .ref X.env.locals, .none, rawInt X.env.locals, .none] ++ (if pl.isEmpty then List.replicate 6 Value.none else pl)).toArray } : Obj) = oT
  have ex2 := Heap.get?_push_of_some oT ex1
  refine wpAny_setField ex2 rfl (by simp) ?_
  generalize hh3 : (h1.push oT).update x (Obj.mapFields (·.setIfInBounds 1 (Value.ref h1.objs.size))) = h3
  have xlt : x < h1.objs.size := Heap.lt_size ex1
  have k3 : ∀ b o, b ≠ x → h1.get? b = some o → h3.get? b = some o := fun b o hb e => by
    rw [← hh3, Heap.get?_update_other _ _ (Ne.symm hb)]
    exact Heap.get?_push_of_some _ e
  have ex3 : h3.get? x = some { cls := .ref C, dict := some dx, data := .fields #[.ref t0, .ref h1.objs.size, .none, .none, .bool false, .none] } := by
    rw [← hh3, Heap.get?_update_self _ ex2 rfl]
    rfl
  have eT : h3.get? h1.objs.size = some oT := by
    rw [← hh3, Heap.get?_update_other _ _ (Nat.ne_of_lt xlt)]
    exact Heap.get?_push_size _ (by rw [← hT]; rfl)
  have hsz : s.heap.objs.size = h1.objs.size := s1.1.symm
  have tr : ∀ b u, H b = some u → b ≠ x ∧ b ≠ X.env.locals ∧ b ∉ X.fs := by
    intro b u e
    refine ⟨fun z => ?_, fun z => ?_, fun z => ?_⟩
    · rw [z, fx.1] at e; cases e
    · rw [z, I.free] at e; cases e
    · have hz := I.stkFree b (by rw [hst.1]; show b ∈ (X.env :: X.outer).filterMap (·.frame); rw [fse]; exact List.mem_cons_of_mem _ z)
      rw [hz] at e; cases e
  have I3 : L2.Inv X pins σ H { s with heap := h3 } := by
    refine I.step (t' := s.toks) (g' := s.gens) (d' := s.drawn) (ch := [x]) (fun b hb => ?_) (fun b o a1 a2 hc e _ => k3 b o (fun z => hc (by simp [z])) (k1 b o a1 a2 e)) (fun b o a1 a2 hc e _ => ?_) (fun _ _ _ _ n => n)
      (fun b o hc e => ?_) (fun _ _ e => e) (fun _ _ _ e => e) (fun b ps e => ⟨#[], by rw [e]; simp⟩) (fun m hm => ?_) (fun b u e => ?_) I.bare
    · have e : b = x := by simpa using hb
      subst e
      exact ⟨fx.2.2.2.1, fx.2.1, fx.2.2.2.2.1, fx.2.2.2.2.2⟩
    · obtain ⟨sl, e1⟩ := s1.2.2 b o e
      exact ⟨sl, k3 b _ (fun z => hc (by simp [z])) e1⟩
    · obtain ⟨sl, e1⟩ := s1.2.2 b o e
      exact ⟨_, k3 b _ (fun z => hc (by simp [z])) e1⟩
    · obtain ⟨o, es, ep, ho, hd, rr⟩ := hm
      obtain ⟨sl, e1⟩ := s1.2.2 _ o ho
      exact ⟨_, es, ep, k3 _ _ (Ne.symm fx.2.1) e1, hd, rr⟩
    · refine (I.hok b u e).stay (fun c v hc z => ?_) (fun _ z => z) fun _ _ z => z
      have hc' : ∃ u', H c = some u' := by rcases hc with y | y <;> first | exact ⟨u, y ▸ e⟩ | exact ⟨_, y⟩
      obtain ⟨u', hu⟩ := hc'
      exact k3 c v (tr c u' hu).1 (k1 c v (tr c u' hu).2.1 (tr c u' hu).2.2 z)
  have fT : FpOk X pins H h1.objs.size := I.fpOk (by rw [hsz]; exact Nat.le_refl _) (by rw [← hsz]; exact I.fresh)
  obtain ⟨od, es, ep, ed, rr⟩ := ns
  have ed1 := k1 _ _ fd.2.1 fd.2.2.1 ed
  refine q _ h1.objs.size I3 ⟨⟨t0, ex3⟩, m, t, ⟨od, es, ep, k3 _ _ (Ne.symm hne) ed1, rr⟩, hm⟩ ⟨oT, _, eT, by rw [← hT], ?_⟩ fT (Nat.ne_of_gt xlt) (Nat.ne_of_gt (Heap.lt_size ed1))
  rfl
theorem note_new {Q : Unit → Shared → Prop} (hst : X.stack = X.env :: X.outer ∧ X.env.frame = some X.env.locals) (I : L2.Inv X pins σ H s) (fl : Flt C r x dx .none s.heap) (fx : FpOk X pins H x) (fd : FpOk X pins H dx) (hne : x ≠ dx)
    (q : ∀ s' T, L2.Inv X pins σ H s' → Flt C r x dx (.ref T) s'.heap → Tb T (rawInt X.env.locals) s'.heap → FpOk X pins H T → T ≠ x → T ≠ dx → Q () s') :
    wpAny (model X.prog X.w) X.A (noteFrame (.ref x) X.env) Q E s := by
  obtain ⟨⟨t0, ex⟩, rest⟩ := id fl
  unfold noteFrame
  simp only [hst.2]
  refine wpAny_bind (wpAny_field ex rfl (x := .none) rfl ?_)
  rw [if_neg (by decide)]
  exact note_tail hst I fl fx fd hne q
theorem note_next {Q : Unit → Shared → Prop} {T : Addr} (hst : X.stack = X.env :: X.outer ∧ X.env.frame = some X.env.locals) (I : L2.Inv X pins σ H s) (fl : Flt C r x dx (.ref T) s.heap) (tbT : Tb T .none s.heap) (fT : FpOk X pins H T) (h1 : T ≠ x) (h2 : T ≠ dx) (fx : FpOk X pins H x) (fd : FpOk X pins H dx) (hne : x ≠ dx)
    (q : ∀ s' T, L2.Inv X pins σ H s' → Flt C r x dx (.ref T) s'.heap → Tb T (rawInt X.env.locals) s'.heap → FpOk X pins H T → T ≠ x → T ≠ dx → Q () s') :
    wpAny (model X.prog X.w) X.A (noteFrame (.ref x) X.env) Q E s := by
  obtain ⟨⟨t0, ex⟩, rest⟩ := id fl
  obtain ⟨oT, ts, eT, dT, i3⟩ := id tbT
  unfold noteFrame
  simp only [hst.2]
  refine wpAny_bind (wpAny_field ex rfl (x := .ref T) rfl ?_)
  rw [if_pos (show (Value.ref T != Value.none) = true from by simp)]
  refine wpAny_bind (wpAny_field eT dT i3 ?_)
  rw [if_neg (show ¬ ((Value.none == rawInt X.env.locals) = true) from by simp [rawInt])]
  refine wpAny_bind (wpAny_setField eT dT (Array.getElem?_eq_some_iff.mp i3).1 ?_)
  have k : ∀ b o, b ≠ T → s.heap.get? b = some o → (s.heap.update T (Obj.mapFields (·.setIfInBounds 3 Value.none))).get? b = some o := fun b o hb e => by rw [Heap.get?_update_other _ _ (Ne.symm hb)]; exact e
  refine note_tail (tb := .ref T) hst (I.turned (t' := s.toks) k fT.1 fT.2.1 fT.2.2.2.1 fT.2.2.2.2.1 fT.2.2.2.2.2) ?_ fx fd hne q
  obtain ⟨m, t, ⟨od, es, ep, ed, rr⟩, hm⟩ := rest
  exact ⟨⟨t0, k _ _ (Ne.symm h1) ex⟩, m, t, ⟨od, es, ep, k _ _ (Ne.symm h2) ed, rr⟩, hm⟩
def InFl (X : Cx) (C : Addr) (r : Int) (e : Value) (s : Shared) : Prop := ∃ σ H x dx tb, e = .ref x ∧ L2.Inv X [] σ H s ∧ Flt C r x dx tb s.heap ∧ FpOk X [] H x ∧ FpOk X [] H dx ∧ x ≠ dx ∧
  (tb = .none ∨ ∃ T, tb = .ref T ∧ Tb T (rawInt X.env.locals) s.heap ∧ FpOk X [] H T ∧ T ≠ x ∧ T ≠ dx)
theorem flt_at {tb : Value} {h h' : Heap} {T : Addr} (fl : Flt C r x dx tb h) (k : ∀ b o, b ≠ T → h.get? b = some o → h'.get? b = some o) (h1 : T ≠ x) (h2 : T ≠ dx) : Flt C r x dx tb h' := by
  obtain ⟨⟨t0, ex⟩, m, t, ⟨od, es, ep, ed, rr⟩, hm⟩ := fl
  exact ⟨⟨t0, k _ _ (Ne.symm h1) ex⟩, m, t, ⟨od, es, ep, k _ _ (Ne.symm h2) ed, rr⟩, hm⟩
theorem flight_set {T : Addr} {f3 : Value} {fr : Option Addr} {Q : Unit → Shared → Prop} {A : Around} {M : Model} (I : L2.Inv X pins σ H s) (fl : Flt C r x dx (.ref T) s.heap) (tbT : Tb T f3 s.heap) (fT : FpOk X pins H T) (h1 : T ≠ x) (h2 : T ≠ dx)
    (q : ∀ s', L2.Inv X pins σ H s' → Flt C r x dx (.ref T) s'.heap → Tb T (fr.elim .none fun f => rawInt f) s'.heap → (∀ b o, b ≠ T → s.heap.get? b = some o → s'.heap.get? b = some o) → Q () s') : wpAny M A (setFlight (.ref x) fr) Q E s := by
  obtain ⟨oT, ts, eT, dT, i3⟩ := tbT
  obtain ⟨⟨t0, ex⟩, rest⟩ := id fl
  unfold setFlight
  refine wpAny_bind (wpAny_field ex rfl (x := .ref T) rfl ?_)
  rw [if_pos (show (Value.ref T != Value.none) = true from by simp)]
  have hlt : 3 < ts.size := (Array.getElem?_eq_some_iff.mp i3).1
  refine wpAny_setField eT dT hlt ?_
  have k : ∀ b o, b ≠ T → s.heap.get? b = some o → (s.heap.update T (Obj.mapFields (·.setIfInBounds 3 (fr.elim .none fun f => rawInt f)))).get? b = some o := fun b o hb e => by rw [Heap.get?_update_other _ _ (Ne.symm hb)]; exact e
  have dT' := Obj.data_mapFields dT (·.setIfInBounds 3 (fr.elim .none fun f => rawInt f))
  exact q _ (I.turned (t' := s.toks) k fT.1 fT.2.1 fT.2.2.2.1 fT.2.2.2.2.1 fT.2.2.2.2.2) (flt_at fl k h1 h2) ⟨_, _, Heap.get?_update_self _ eT (Obj.isFreed_of_fields dT'), dT', by simp [hlt]⟩ k
theorem note_fl {Q : Unit → Shared → Prop} {e : Value} (hst : X.stack = X.env :: X.outer ∧ X.env.frame = some X.env.locals) (h : InFl X C r e s)
    (q : ∀ s' σ H x dx T, e = .ref x → L2.Inv X [] σ H s' → Flt C r x dx (.ref T) s'.heap → Tb T (rawInt X.env.locals) s'.heap → FpOk X [] H x → FpOk X [] H dx → FpOk X [] H T → x ≠ dx → T ≠ x → T ≠ dx → Q () s') :
    wpAny (model X.prog X.w) X.A (noteFrame e X.env) Q E s := by
  obtain ⟨σ, H, x, dx, tb, rfl, I, fl, fx, fd, hne, tbc⟩ := h
  rcases tbc with rfl | ⟨T, rfl, tbT, fT, h1, h2⟩
  · exact note_new hst I fl fx fd hne fun s' T a b c d e f => q s' σ H x dx T rfl a b c fx fd d hne e f
  · obtain ⟨⟨t0, ex⟩, rest⟩ := id fl
    obtain ⟨oT, ts, eT, dT, i3⟩ := id tbT
    unfold noteFrame
    simp only [hst.2]
    refine wpAny_bind (wpAny_field ex rfl (x := .ref T) rfl ?_)
    rw [if_pos (show (Value.ref T != Value.none) = true from by simp)]
    refine wpAny_bind (wpAny_field eT dT i3 ?_)
    rw [if_pos (beq_self_eq_true _)]
    exact wpAny_pure (q s σ H x dx T rfl I fl tbT fx fd fT hne h1 h2)
theorem fl_passes (hst : X.stack = X.env :: X.outer ∧ X.env.frame = some X.env.locals) : PassesOwn (model X.prog X.w) X.A X.env (InFl X C r) := fun e s h => by
  unfold notedBy
  refine note_fl hst h fun s' σ H x dx T he I fl tbT fx fd fT hne h1 h2 => ?_
  subst he
  unfold cameBackBy
  obtain ⟨⟨t0, ex⟩, rest⟩ := id fl
  refine wpAny_bind (wpAny_field ex rfl (x := .ref T) rfl ?_)
  rw [if_neg (show ¬ ((Value.ref T == Value.none) = true) from by simp)]
  rw [hst.2]
  show wpAny _ _ (setFlight (.ref x) (some X.env.locals)) _ _ _
  exact flight_set I fl tbT fT h1 h2 fun s'' I' fl' tb' _ => ⟨σ, H, x, dx, .ref T, rfl, I', fl', fx, fd, hne, .inr ⟨T, rfl, tb', fT, h1, h2⟩⟩
def CXB (P : Program) (w : World) (C : Addr) : CXT := fun outer H s E e s' => ∃ x dx T H' r, e = .ref x ∧ s'.os = s.os ∧ AllBare s'.gens ∧ Un (frs outer) [] H H' s.heap s'.heap ∧ HOk P w H' s'.heap ∧ Flt C r x dx (.ref T) s'.heap ∧ Tb T .none s'.heap ∧
  H' x = none ∧ H' dx = none ∧ H' T = none ∧ s.heap.objs.size ≤ x ∧ s.heap.objs.size ≤ dx ∧ s.heap.objs.size ≤ T ∧ x ≠ dx ∧ T ≠ x ∧ T ≠ dx ∧ E (.int r 0) (some x) H'
end
section
variable {P : Program} {w : World} {K : PySem.W.Frag} {mg : Str → Option Value} {base : Heap} {N : List Str} {qual : Str} {scope : Scope} {f : Addr} {cdv : Value} {A : Around} {outer : List Env} {s : Shared} {H : Hp} {E : XK} {C : Addr} {r : Int}
theorem fl_leaves (hE : ∀ x H', E (.int r 0) (some x) H') (e : Value) (s' : Shared) (h : InFl (cxOf (CXB P w C) P w K mg base N qual scope f cdv A outer s H E) C r e s') : (cxOf (CXB P w C) P w K mg base N qual scope f cdv A outer s H E).xe e s' := by
  show wpAny (model P w) (A.deeper (envOfC qual scope s.heap.objs.size f cdv)) (leaving (envOfC qual scope s.heap.objs.size f cdv) e) _ _ s'
  unfold leaving
  refine wpAny_bind (note_fl (X := cxOf (CXB P w C) P w K mg base N qual scope f cdv A outer s H E) ⟨rfl, rfl⟩ h fun s1 σ1 H1 x dx T he I fl tbT fx fd fT hne h1 h2 => ?_)
  subst he
  refine flight_set I fl tbT fT h1 h2 fun s2 I2 fl2 tb2 _ => ?_
  have nx : ∀ b, FpOk (cxOf (CXB P w C) P w K mg base N qual scope f cdv A outer s H E) [] H1 b → s.heap.objs.size ≤ b := fun b fb => fb.2.2.2.1.resolve_left (fun z => by cases z)
  exact ⟨x, dx, T, H1, r, rfl, I2.os, I2.bare, I2.base, I2.hok, fl2, tb2, fx.1, fd.1, fT.1, nx x fx, nx dx fd, nx T fT, hne, h1, h2, hE _ _⟩
end
end MB
namespace MB
open PySem PySem.Spec PyProof.Rows L2
open PySem.W (Frag findIn clsIn)
section
variable {X : Cx} {x : Str} {i : Nat}
theorem ld_any {pins : List (Addr × Obj)} {s : Shared} {σ : St} {H : Hp} {v : V} {pos : Pos} {Q : Value → Shared → Prop} {E : Value → Shared → Prop} (I : L2.Inv X pins σ H s) (hN : X.N[i]? = some x) (hv : Vis X.env.scope x) (e : σ[i]? = some (some v)) (q : ∀ u, RelV v u → Q u s)
    (hd : (x == ("__debug__" : Str)) = false := by decide +kernel) (hcd : (x == ("__classdict__" : Str)) = false := by decide +kernel) : wpAny (model X.prog X.w) X.A (eval (.Name x pos) X.env) Q E s := by
  obtain ⟨m, hn, hl⟩ := I.loc
  obtain ⟨u, r, l⟩ := hl i x _ hN e hv
  rcases l with ⟨hk, hm⟩ | ⟨hk, c, hc, hcell⟩
  · exact wpAny_Name (wpAny_loadName_local I.ok.kind hk hn hm (q u r)) hd
  · rcases hk with hk | hk
    · exact wpAny_Name (wpAny_loadName_cell I.ok.kind hk hc hcell (q u r)) hd
    · exact wpAny_Name (wpAny_loadName_free I.ok.kind hk hc hcell (q u r) hcd) hd
end
structure BadK (K : Frag) (C CM : Addr) : Prop where
  cls : ∃ (nm q : Str) (N : Addr) (bs : List Value) (hdct : Bool) (sn : List Str) (sub : List Value) (ab : Bool) (col : Option Bool) (dd : Option Addr) (k0 k1 k2 k3 k5 : Option Value), K.lookup C = some (excClassObj nm q C N bs (.ref CM :: bmV) hdct sn sub ab col dd k0 k1 k2 k3 k5 "ValueError.__new__") ∧ hdct = true
  sa : findIn K (.ref C) "__setattr__" = some (some (.builtin "object.__setattr__"))
  ga : findIn K (.ref C) "__getattribute__" = some (some (.builtin "BaseException.__getattribute__"))
  gt : findIn K (.ref C) "__getattr__" = some none
  row : findIn K (.ref C) "row" = some none
theorem BadK.at {K : Frag} {C CM : Addr} (B : BadK K C CM) : ∃ cd, clsIn K C = some cd ∧ cd.mro = .ref C :: .ref CM :: bmV ∧ cd.hasDict = true := by
  obtain ⟨nm, q, N, bs, hdct, sn, sub, ab, col, dd, k0, k1, k2, k3, k5, lk, hd⟩ := B.cls
  subst hd
  exact ⟨{ name := nm, bases := bs, mro := .ref C :: .ref CM :: bmV, ns := N, qualname := q, hasDict := true, slotNames := sn, subclasses := sub, abstract := ab, collection := col, hasDel := false }, by unfold clsIn; rw [lk], rfl, rfl⟩
section
variable {P : Program} {w : World} {K : Frag} {mg : Str → Option Value} {base : Heap} {A : Around} {outer : List Env} {s : Shared} {H : Hp} {C CM fI : Addr} {st : Stmt} {fd : FuncData} {p1 p2 p3 p4 : Pos} {x : Addr} {r : Int} {vs : Array Value} {qual : Str}
theorem init_run (B : BadK K C CM) (Fx : Fun K "__init__" qual st fI fd) (S : FnScope ["self", "row"] ["self", "row"] (defScope st)) (hbody : defBody st = [.Assign [.Attribute (.Name "self" p1) "row" p2] (.Name "row" p3) p4]) (hb : L2.Binds K fd ["self", "row"] [])
    (hlo : Vis (defScope st) "self" ∧ Vis (defScope st) "row")
    (hr : Room 1 A) (e0 : Env0 P w K mg base A outer s H) (hx : s.heap.get? x = some { cls := .ref C, data := .fields vs }) {u : Value} (ru : RelV (.int r) u) {R : Result → Shared → Prop}
    (q : ∀ s' dx, s'.os = s.os → AllBare s'.gens → (∀ b o, b ≠ x → s.heap.get? b = some o → s'.heap.get? b = some o) → s'.heap.get? x = some { cls := .ref C, dict := some dx, data := .fields vs } → (∃ m t, s'.heap.Ns1 dx m ∧ m "row" = some (.int r t)) → s.heap.objs.size ≤ dx → R (.ok (.ret .none)) s') :
    codeAny (model P w) A (.call (.ref fI) ⟨[.ref x, u], []⟩) R s := by
  obtain ⟨oc, od, kV, doc, pm, an, cdv, ct, osl, rfl, lk, hcd⟩ := Fx.ex
  have KX : K.In s.heap := e0.mod.kin.keeps fun b o e => (e0.bs b o e).1
  have lim : s.heap.NoLimit := e0.mod.nolimit.keeps fun b o e => (e0.bs b o e).1
  have hbt := hb s [.ref x, u] KX rfl
  rw [List.append_nil] at hbt
  refine codeAny_call_function hr.depth (KX _ _ lk) rfl S.co S.gen rfl (PySem.W.codeRec_of KX hcd) (hbt _ _ _ _ ?_)
  have hkind : ∀ y ∈ (["self", "row"] : List Str).zip [Value.ref x, u], (defScope st).names.lookup y.1 = some .local ∨ ((defScope st).names.lookup y.1 = some .cell ∧ ((cellsFrom (s.heap.objs.size + 1) (defScope st).names []).lookup y.1).isSome = true) := fun ⟨n, v⟩ hy => by
    rcases S.par n (List.of_mem_zip hy).1 with q | q
    · exact .inl q
    · exact .inr ⟨q, PySem.W.cellsFrom_some _ _ _ (.inl q)⟩
  refine wpAny_newFunctionEnv_cells S.kind hkind fun env he s1 x1 => ?_
  subst he
  refine ⟨lim.keeps x1.toInCall.keep, codeAny_func ?_⟩
  have I : L2.Inv (cxOf CX0 P w K mg base ["self", "row"] qual (defScope st) fI cdv A outer s H E0) [] (start ["self", "row"] [.ref x, .int r]) H s1 := inv_start (vs := [.ref x, .int r]) S hr.hd e0 rfl (.cons rfl (.cons ru .nil)) x1
  obtain ⟨cd, c1, c2, c3⟩ := B.at
  have keep : ∀ b o, s.heap.get? b = some o → s1.heap.get? b = some o := fun b o e => x1.toInCall.keep b o e
  rw [hbody]
  refine wpAny_execs_cons (plainObj_wpAny_Assign_Attribute (ld_any (X := cxOf CX0 P w K mg base ["self", "row"] qual (defScope st) fI cdv A outer s H E0) (i := 1) I rfl hlo.2 rfl fun u1 r1 => ld_any (X := cxOf CX0 P w K mg base ["self", "row"] qual (defScope st) fI cdv A outer s H E0) (i := 0) I rfl hlo.1 rfl fun ov r0 => ?_))
  obtain rfl : ov = .ref x := r0
  obtain ⟨t1, rfl⟩ := r1
  refine set_exc (x := x) I.kIn (keep _ _ hx) B.sa c1 c2 c3 B.row fun h' k a1 a2 a3 => wpAny_execs_nil ?_
  exact q _ _ I.os I.bare (fun b o hb e => a3 b o hb (keep b o e)) a1 ⟨_, t1, a2, if_pos rfl⟩ I.sz
end
structure BadI (K : Frag) (C CM fI : Addr) (st : Stmt) : Prop where
  bad : BadK K C CM
  kp : PySem.W.keepIn K (.ref C) = true
  init : findIn K (.ref C) "__init__" = some (some (.ref fI))
  fn : ∃ fd q, Fun K "__init__" q st fI fd ∧ L2.Binds K fd ["self", "row"] []
  fo : ∃ oI, K.lookup fI = some oI ∧ oI.cls = .type "function"
  sc : FnScope ["self", "row"] ["self", "row"] (defScope st)
  body : ∃ p1 p2 p3 p4, defBody st = [.Assign [.Attribute (.Name "self" p1) "row" p2] (.Name "row" p3) p4]
  vis : Vis (defScope st) "self" ∧ Vis (defScope st) "row"
section
variable {cl : Nat → Addr} {X0 : Cx} {C CM fI : Addr} {st : Stmt} {r : Int} {a : Expr} {fe : FE} {np cpos pos : Pos}
theorem pb_raiseX (B : BadI X0.K C CM fI st) (hst : X0.stack = X0.env :: X0.outer ∧ X0.env.frame = some X0.env.locals) (hc : X0.calm = true) (hr : Room 2 X0.A) (hg : Gl X0 "BadRow") (hm : X0.mg "BadRow" = some (.ref C)) (ha : PP cl (X0.wish (InFl X0 C r)) a fe)
    (he : starEach [a] X0.env = (false, eval a X0.env) :: starEach [] X0.env := by rfl) (hpl : (backTo cpos (starEach [] X0.env)).any (·.1) = false := by rfl) :
    PB1 cl (X0.wish (InFl X0 C r)) (.Raise (some (.Call (.Name "BadRow" np) [a] [] cpos)) none pos) (sBad (some r) fe) := fun pins s σ H D I h => by
  obtain ⟨B', F0, P, δ, o, hw, ⟨F, ω, sr⟩, out⟩ := h
  unfold sBad at hw
  split at hw
  · rename_i r1 n e1 hf
    cases e1
    split at hw
    · rename_i hn
      subst hn
      obtain ⟨nm, q, N, bs, hdct, sn, sub, ab, col, dd, k0, k1, k2, k3, k5, lk, hd⟩ := B.bad.cls
      obtain ⟨oI, lI, cI⟩ := B.fo
      obtain ⟨fd, qn, Fx, hb⟩ := B.fn
      obtain ⟨p1, p2, p3, p4, bd⟩ := B.body
      have hh : X0.A.handled = none := I.unwish.ok.hd hc
      rw [arm_exec_Raise]
      refine wpAny_bind (wpAny_standAt (raise_exc (C := C) (CM := CM) (nm := nm) (q := q) (N := N) (bs := bs) (hdct := hdct) (sn := sn) (sub := sub) (ab := ab) (col := col) (dd := dd) (k0 := k0) (k1 := k1) (k2 := k2) (k3 := k3) (k5 := k5) hh ?_))
      refine wpAny_bind (thn (Q := fun v s₁ => ∃ e dx t0, v = .ref e ∧ s₁.heap.get? C = some (excClassObj nm q C N bs (.ref CM :: bmV) hdct sn sub ab col dd k0 k1 k2 k3 k5 "ValueError.__new__") ∧ s₁.heap.get? e = some { cls := .ref C, dict := some dx, data := .fields #[.ref t0, .none, .none, .none, .bool false, .none] } ∧ InFl X0 C n (.ref e) s₁) ?_ fun v s3 h3 => wpAny_bind (wpAny_standAt (wpAny_pure h3)))
      refine wpAny_Call_Name_kw (ld_glob I hg hm ?_)
      refine PySem.W.callWith_K (h₀ := X0.base) I.ok.mod.kin B.kp (thn (pa_cons ha pa_nil he cpos pins s σ H (fun vs _ => vs = [.int n]) I ⟨δ, F, _, _, hf, sr.er, fun v H1 F1 a b c d => by cases d.int_inv; rfl⟩) fun us s1 ⟨vs, H1, I1, r1, ev⟩ => ⟨I1.kIn, ?_⟩) he hpl
      subst ev
      obtain ⟨u, rfl, ru⟩ := vals1 r1
      have hC1 := I1.kIn _ _ lk
      refine exc_call (g := s1.gens) (d := s1.drawn) (t := s1.toks) (os := s1.os) I1.kIn hC1 B.init (I1.kIn _ _ lI) cI (fun h' e hmk hle => ?_) (by show 1 ≤ sizeLine; decide)
      obtain ⟨t0, ee, _, _⟩ := hmk.there
      have I2 : L2.Inv (X0.wish (InFl X0 C n)) pins σ H1 { s1 with heap := h' } := I1.kept (t' := s1.toks) hmk.keeps
      have elt : e < h'.objs.size := Heap.lt_size ee
      refine wpAny_call (init_run B.bad Fx B.sc bd hb B.vis (hr.make C [u] []) (I2.env0.make C [u] []) ee ru fun s' dx b1 b2 b3 b4 b5 b6 => ⟨rfl, e, dx, t0, rfl, ?_, b4, ?_⟩)
      · have enC : C ≠ e := fun z => by rw [z] at hC1; exact absurd (Heap.lt_size hC1) (Nat.not_lt.mpr hle)
        exact b3 _ _ enC (hmk.keeps _ _ hC1)
      · have kp : ∀ b o, s1.heap.get? b = some o → s'.heap.get? b = some o := fun b o eb => b3 b o (fun z => absurd (Heap.lt_size (z ▸ eb)) (Nat.not_lt.mpr hle)) (hmk.keeps b o eb)
        have I3 : L2.Inv X0 [] σ H1 s' := (Inv.call' (ch := []) I1.unwish b1 (Un.kept kp) (I1.hok.kept kp) b2 fun b z => absurd z (by simp)).pins_of fun p hp => absurd hp (by simp)
        have J0 : L2.Inv X0 [] σ H1 s1 := I1.unwish.pins_of fun p hp => absurd hp (by simp)
        have hs1 : s1.heap.objs.size ≤ dx := by
          have z1 : s1.heap.objs.size ≤ h'.objs.size := Nat.le_trans hle (Nat.le_of_lt elt)
          exact Nat.le_trans z1 b6
        obtain ⟨m, t, n1, n2⟩ := b5
        exact ⟨σ, H1, e, dx, .none, rfl, I3, ⟨⟨t0, b4⟩, m, t, n1, n2⟩, J0.fpOk hle (J0.hok.fresh hle), J0.fpOk hs1 (J0.hok.fresh hs1), Nat.ne_of_lt (Nat.lt_of_lt_of_le elt b6), .inl rfl⟩
    · cases hw
  · cases hw
end
end MB
namespace MB
open PySem PySem.Spec PyProof.Rows L2
open PySem.W (Frag findIn clsIn)
def spX (K : Frag) (cl : Nat → Addr) (n : Nat) (fx : Int → List Dat → Option Dat) : Sp := fun vs H Q E => vs.length = n ∧ ∃ ds F r, fx r ds = some (.bad r) ∧ Same F H ∧ RepL K cl F vs ds ∧ ∀ x H', E (.int r 0) (some x) H'
theorem PSs.wished {X : Cx} {E : Value → Shared → Prop} {sts : List Stmt} {t : TS} (h : PSs (X.wish E) sts t) (hE : ∀ e s', E e s' → X.xe e s') : PSs X sts t := fun pins s σ H D I hw =>
  wpAny_mono (h pins s σ H D (I.wish _) hw) (fun _ _ q => q.unwish) hE
theorem fn_raises {P : Program} {w : World} {K : Frag} {mg : Str → Option Value} {base : Heap} {cl : Nat → Addr} {x qual : Str} {st : Stmt} {f : Addr} {fd : FuncData} {N ps : List Str} {k : Nat} {C : Addr} {fb : Option Int → FS} (F : Fun K x qual st f fd) (S : FnScope N ps (defScope st))
    (hb : ∀ (r : Int) (cdv : Value) (A : Around) (outer : List Env) (s : Shared) (H : Hp) (E : XK), Room k (A.deeper (envOfC qual (defScope st) s.heap.objs.size f cdv)) →
      PB cl ((cxOf (CXB P w C) P w K mg base N qual (defScope st) f cdv A outer s H E).wish (InFl (cxOf (CXB P w C) P w K mg base N qual (defScope st) f cdv A outer s H E) C r)) (defBody st) (fb (some r))) :
    FnOk P w K mg base (CXB P w C) (k + 1) f fd ps (spX K cl ps.length fun r => defF (N.length - ps.length) (fb (some r))) := by
  obtain ⟨oc, od, kV, doc, pm, an, cdv, ct, osl, rfl, lk, hcd⟩ := F.ex
  refine fn_of lk hcd S (fun vs H Q E h => h.1) fun A outer s H vs Q E hr h => ?_
  obtain ⟨hl, ds, F', r, hf, sub, rl, hE⟩ := h
  refine ⟨_, PSs.wished (hb r cdv A outer s H E hr) (fl_leaves hE), ?_⟩
  have e0 : L2.start N vs = vs.map some ++ List.replicate (N.length - ps.length) none := by unfold L2.start; rw [hl]
  rw [e0]
  have sr : SR K cl H F' F' (ini (N.length - ps.length) ds) (vs.map some ++ List.replicate (N.length - ps.length) none) H F' (fun _ => none) := ⟨er_ini sub rl, Same.refl _, Grow.refl, Same.refl _, fun a l e => by cases e⟩
  have kk : Post K cl F' H (.bad r) Q := fun v H' F2 _ _ _ z => nomatch z
  have hf : endD (fb (some r) (ini (N.length - ps.length) ds)) = some (.bad r) := hf
  cases e : fb (some r) (ini (N.length - ps.length) ds) with
  | none => rw [e] at hf; cases hf
  | some o =>
    rw [e] at hf
    refine ⟨H, F', F', ini (N.length - ps.length) ds, o, e, ⟨F', _, sr⟩, ?_⟩
    cases o with
    | rt d' => cases hf; exact fun v H' ⟨F2, b, s2, g, r2⟩ => kk v H' F2 b s2 g r2
    | nx δ' => cases hf
    | bk δ' => cases hf
    | ct δ' => cases hf
    | ro y =>
      have ey : y.frz = .bad r := Option.some.inj hf
      exact fun v H' z => by obtain ⟨F2, b, s2, g, r2⟩ := z.rt; rw [ey] at r2; exact kk v H' F2 b s2 g r2
structure CalX (P : Program) (w : World) (K : Frag) (mg : Str → Option Value) (base : Heap) (cl : Nat → Addr) (C : Addr) (x : Str) (k : Nat) (ps : List Str) (fx : Int → List Dat → Option Dat) : Prop where
  ex : ∃ f fd, FnOk P w K mg base (CXB P w C) k f fd ps (spX K cl ps.length fx) ∧ mg x = some (.ref f) ∧ PySem.W.keepIn K (.ref f) = true ∧ L2.Binds K fd ps []
theorem find_erase {α : Type} {p : α → Bool} : ∀ (l : List α) (i : Nat) (a : α), l[i]? = some a → p a = false → (l.eraseIdx i).find? p = l.find? p
  | [], i, a, h, _ => by simp at h
  | x :: l, 0, a, h, hp => by
    simp at h
    subst h
    simp [hp]
  | x :: l, i + 1, a, h, hp => by
    rw [List.eraseIdx_cons_succ, List.find?_cons, List.find?_cons, find_erase l i a (by simpa using h) hp]
section
variable {M : Model} {A : Around} {E : Value → Shared → Prop} {s : Shared}
theorem nsDel2 {a : Addr} {m : Str → Option Value} {name : Str} {Q : Bool → Shared → Prop} (hn : s.heap.Ns a m) (hs : (m name).isSome = true)
    (q : ∀ g m', g.Ns a m' → (∀ n, n ≠ name → m' n = m n) → Heap.SameBut a s.heap g → Q true { s with heap := g }) : wpAny M A (nsDel a name) Q E s := by
  obtain ⟨o, es, ep, ho, hd, hk, hm⟩ := id hn
  have hsome : es.any (·.key.isStr name) = true := by
    rw [← hm name] at hs
    simp only [nsFind, findBy, Option.isSome_map] at hs
    obtain ⟨y, hy, hp⟩ := Array.find?_isSome.mp hs
    obtain ⟨i, hi, rfl⟩ := Array.mem_iff_getElem.mp hy
    exact Array.any_eq_true.mpr ⟨i, hi, hp⟩
  have hhas : nsHas name o = pure true := by
    rw [nsHas_eq]; unfold nsHasByArray; rw [hd]
    show (if (es.any fun x => x.key.isStr name) = true then _ else _) = _
    rw [if_pos hsome]
  unfold nsDel
  refine wpAny_bind (wpAny_loadPart ho ?_)
  rw [hhas]
  refine wpAny_bind (wpAny_pure ?_)
  rw [if_pos rfl]
  refine wpAny_bind (wpAny_updatePart ho (wpAny_pure ?_))
  obtain ⟨c0, d0, dt, sl⟩ := o
  subst hd
  cases hi : es.findIdx? (·.key.isStr name) with
  | none =>
    obtain ⟨j, hj, hp⟩ := Array.any_eq_true.mp hsome
    have := (Array.findIdx?_eq_none_iff.mp hi) es[j] (Array.getElem_mem hj)
    simp [hp] at this
  | some i =>
    have e1 : (s.heap.update a (Obj.dropName name)).get? a = some ⟨c0, d0, .dict (es.eraseIdxIfInBounds i) (ep + 1), sl⟩ := by
      rw [Heap.get?_update_self _ ho (by simp only [Obj.dropName_eq, Obj.dropNameByArray, hi] <;> rfl)]
      simp only [Obj.dropName_eq, Obj.dropNameByArray, hi] <;> rfl
    refine q _ (nsFind (es.eraseIdxIfInBounds i)) ⟨_, _, _, e1, rfl, hk.erase i, fun _ => rfl⟩ (fun n hne => ?_) (Heap.SameBut.update ..)
    rw [← hm n]
    obtain ⟨l⟩ := es
    unfold nsFind findBy
    obtain ⟨hlt, hp, _⟩ := Array.findIdx?_eq_some_iff_getElem.mp hi
    have e2 : (List.toArray l).eraseIdxIfInBounds i = (l.eraseIdx i).toArray := List.eraseIdxIfInBounds_toArray _ _
    rw [e2, List.find?_toArray, List.find?_toArray]
    congr 1
    refine find_erase l i l[i] (List.getElem?_eq_getElem (by simpa using hlt)) ?_
    have hp' : l[i].key.isStr name = true := by simpa using hp
    obtain ⟨nm, t, hkey⟩ := hk l[i] (by simp)
    rw [hkey] at hp' ⊢
    have : nm = name := by simpa [Value.isStr] using hp'
    subst this
    simp [Value.isStr, Ne.symm hne]
end
end MB
namespace MB
open PySem PySem.Spec PyProof.Rows L2
open PySem.W (Frag findIn clsIn)
section
variable {X : Cx} {pins : List (Addr × Obj)} {σ : St} {H : Hp} {s : Shared} {E : Value → Shared → Prop} {M : Model} {A : Around}
theorem Inv.nameGone {h' : Heap} {i : Nat} {x : Str} {m m' : Str → Option Value} {t' : Nat} (I : L2.Inv X pins σ H s) (hN : X.N.Nodup) (hi : X.N[i]? = some x) (hn : s.heap.Ns X.env.locals m) (hl : ∀ (i : Nat) (x : Str) (v : V), X.N[i]? = some x → σ[i]? = some (some v) → Vis X.env.scope x → ∃ u, RelV v u ∧ Look X.env s.heap m x u)
    (hn' : h'.Ns X.env.locals m') (hm : ∀ n, n ≠ x → m' n = m n) (hs : Heap.SameBut X.env.locals s.heap h') : L2.Inv X pins (σ.set i none) H { s with heap := h', toks := t' } := by
  have cne := I.cne
  have ok : HOk X.prog X.w H h' := fun b ob e => by
    refine (I.hok b ob e).stay (fun c w' hc q => (hs.2 c ?_).trans q) (fun _ q => q) fun _ _ q => q
    rintro rfl
    rcases hc with hc | hc
    · rw [← hc, I.free] at e; cases e
    · rw [I.free] at hc; cases hc
  refine ⟨I.ok, I.os, I.bare, ⟨fun b o e n hb hx => ?_, fun b o e n hb hx => ?_, I.base.free, fun b o e hx => ?_, I.base.tups, I.base.frzs, I.base.tbls⟩, ⟨_, hn', fun j y v' e1 e2 e3 => ?_⟩, fun y c e => ?_, I.free, I.freeC, fun p hp => ?_, ok, by simpa using I.len⟩
  · exact (hs.2 b (Nat.ne_of_lt (Nat.lt_of_lt_of_le (Heap.lt_size e) I.ok.above))).trans (I.base.keep b o e n hb hx)
  · obtain ⟨sl, e1⟩ := I.base.slot b o e n hb hx
    exact ⟨sl, (hs.2 b (Nat.ne_of_lt (Nat.lt_of_lt_of_le (Heap.lt_size e) I.ok.above))).trans e1⟩
  · obtain ⟨o', e1⟩ := I.base.there b o e hx
    exact ⟨o', (hs.2 b (Nat.ne_of_lt (Nat.lt_of_lt_of_le (Heap.lt_size e) I.ok.above))).trans e1⟩
  · by_cases hj : j = i
    · subst hj
      have e2' : (σ.set j none)[j]? = some (some v') := e2
      by_cases hlt : j < σ.length
      · rw [List.getElem?_set_self hlt] at e2'; cases e2'
      · rw [List.getElem?_eq_none (by rw [List.length_set]; omega)] at e2'; cases e2'
    · rw [List.getElem?_set_ne (Ne.symm hj)] at e2
      obtain ⟨u', r', q⟩ := hl j y v' e1 e2 e3
      refine ⟨u', r', ?_⟩
      rcases q with ⟨k, e⟩ | ⟨k, c, e, z⟩
      · refine .inl ⟨k, ?_⟩
        rw [hm y fun e => hj (nodup_ix hN e1 (e ▸ hi))]
        exact e
      · exact .inr ⟨k, c, e, z.sameBut hs (cne y c e)⟩
  · obtain ⟨w', z⟩ := I.cell y c e
    exact ⟨w', z.sameBut hs (cne y c e)⟩
  · obtain ⟨e, n, ne, nf, d⟩ := I.pin p hp
    exact ⟨(hs.2 p.1 ne).trans e, n, ne, nf, d⟩
theorem name_goes {i : Nat} {x : Str} {pos : Pos} {Q : Unit → Shared → Prop} (I : L2.Inv X pins σ H s) (hN : X.N.Nodup) (hi : X.N[i]? = some x) (hx : X.env.scope.names.lookup x = some .local) (hcn : X.env.cells.lookup x = none) (hlt : i < σ.length)
    (q : ∀ s', L2.Inv X pins (σ.set i none) H s' → (∀ b o, b ≠ X.env.locals → s.heap.get? b = some o → s'.heap.get? b = some o) → Q () s') : wpAny M A (do bindName X.env x .none; unbindBehindTheSuite X.env x pos) Q E s := by
  have hcls : (X.env.scope.kind == .class || (X.env.scope.kind == .module && X.env.locals != X.env.globals)) = false := by rw [I.ok.kind]; rfl
  refine wpAny_bind (wpAny_bindName (store_ok2 I hN hi (.inl hx) (v := .non) rfl (fun s1 I1 hc => ?_) (.inr hx)))
  have hk : X.env.kindOf x = some .local := hx
  obtain ⟨m, hn, hl⟩ := id I1.loc
  have e1 : (m x).isSome = true := by
    obtain ⟨u, ru, lk⟩ := hl i x .non hi (by rw [List.getElem?_set_self hlt]) (.inl hx)
    rcases lk with ⟨_, e⟩ | ⟨k, _⟩
    · rw [e]; rfl
    · rw [hk] at k; rcases k with k | k <;> cases k
  have keep1 : ∀ b o, b ≠ X.env.locals → s.heap.get? b = some o → s1.heap.get? b = some o := fun b o hb e => by
    obtain ⟨a, sb, ha⟩ := hc
    rcases ha with rfl | ha
    · exact (sb.2 b hb).trans e
    · rw [hcn] at ha; cases ha
  unfold unbindBehindTheSuite
  refine wpAny_onRaise ?_
  unfold unbindName
  refine wpAny_bind (wpAny_point (wpAny_bind ?_))
  unfold deleteName
  simp only [hk, hcls]
  rw [if_neg (by decide)]
  refine wpAny_bind (nsDel2 hn e1 fun g m' n1 n2 sb => ?_)
  simp only [if_true, Bool.not_true, Bool.false_eq_true, if_false]
  refine wpAny_pure (wpAny_point (q _ ?_ fun b o hb e => (sb.2 b hb).trans (keep1 b o hb e)))
  have I2 := Inv.nameGone (t' := s1.toks) I1 hN hi hn hl n1 n2 sb
  rw [List.set_set] at I2
  exact I2
end
section
variable {M : Model} {A : Around} {E : Value → Shared → Prop} {h : Heap} {g : Array GenState} {d : Drawn} {t : Nat} {os : OsState}
variable {nm q : Str} {C CM N : Addr} {bs : List Value} {hdct : Bool} {sn : List Str} {sub : List Value} {ab : Bool} {col : Option Bool} {dd : Option Addr} {k0 k1 k2 k3 k5 : Option Value}
variable {nm' q' : Str} {N' : Addr} {bs' : List Value} {hdct' : Bool} {sn' : List Str} {sub' : List Value} {ab' : Bool} {col' : Option Bool} {dd' : Option Addr} {l0 l1 l2 l3 l5 : Option Value}
theorem matches_own {x : Addr} {ox : Obj} {Q : Bool → Shared → Prop} (hC : h.get? C = some (excClassObj nm q C N bs (.ref CM :: bmV) hdct sn sub ab col dd k0 k1 k2 k3 k5 "ValueError.__new__")) (hM : h.get? CM = some (excClassObj nm' q' CM N' bs' bmV hdct' sn' sub' ab' col' dd' l0 l1 l2 l3 l5 "ValueError.__new__"))
    (hx : h.get? x = some ox) (hc : ox.cls = .ref C) (hq : Q true ⟨h, g, d, t, os⟩) : wpAny M A (excMatches (.ref x) (.ref CM)) Q E ⟨h, g, d, t, os⟩ := by
  have c1 : (Value.ref CM :: bmV).contains (.type "BaseException") = true := rfl
  have c2 : (Value.ref C :: Value.ref CM :: bmV).contains (.ref CM) = true := by simp
  have tt : isSubtype (.type "type") (.type "tuple") = pure false := by rw [isSubtype_type]; kernel_rfl
  unfold excMatches
  repeat (first | (with_reducible refine wpAny_loadPart_at hx ?_; rw [hc]) | with_reducible refine wpAny_loadPart_at hM ?_ | (with_reducible refine wpAny_isSubtype_exc hM ?_; rw [c1]) | (with_reducible refine wpAny_isSubtype_exc hC ?_; rw [c2]) | wp_step)
  exact hq
end
abbrev mrk (X : Cx) (v : Value) : Cx := { X with A := X.A.mark (some v), calm := false }
section
variable {X : Cx} {pins : List (Addr × Obj)} {σ : St} {H : Hp} {s : Shared} {v : Value}
theorem mark_frames (A : Around) (h : Option Value) : (A.mark h).frames = A.frames := by first | rfl | (cases h <;> rfl)
theorem Inv.mrk (I : L2.Inv X pins σ H s) (v : Value) : L2.Inv (mrk X v) pins σ H s :=
  ⟨⟨I.ok.mod, I.ok.kind, I.ok.glob, I.ok.blt, I.ok.above, I.ok.inj, I.ok.has, I.ok.cab, fun z => (by cases z), (by rw [mark_frames]; exact I.ok.frames), I.ok.stk, I.ok.exf, I.ok.bs, I.ok.bsz, I.ok.noex, I.ok.exfs, I.ok.funs, I.ok.frf⟩, I.os, I.bare, I.base, I.loc, I.cell, I.free, I.freeC, I.pin, I.hok, I.len⟩
theorem Inv.unmrk (ok : X.Ok) (I : L2.Inv (MB.mrk X v) pins σ H s) : L2.Inv X pins σ H s := ⟨ok, I.os, I.bare, I.base, I.loc, I.cell, I.free, I.freeC, I.pin, I.hok, I.len⟩
end
structure BadM (K : Frag) (C CM : Addr) : Prop extends BadK K C CM where
  clsM : ∃ (nm q : Str) (N : Addr) (bs : List Value) (hdct : Bool) (sn : List Str) (sub : List Value) (ab : Bool) (col : Option Bool) (dd : Option Addr) (k0 k1 k2 k3 k5 : Option Value), K.lookup CM = some (excClassObj nm q CM N bs bmV hdct sn sub ab col dd k0 k1 k2 k3 k5 "ValueError.__new__")
section
variable {cl : Nat → Addr} {X : Cx} {pins : List (Addr × Obj)} {σ : St} {H : Hp} {s : Shared} {C CM : Addr} {z x0 xc xe : Str} {r : Int} {k : Nat} {fx : Int → List Dat → Option Dat} {fn : Str} {ps : List Str} {p1 p2 p3 p4 p5 p6 p7 p8 p9 p10 : Pos} {Q : Flow → Shared → Prop} {ic ie : Nat}
theorem try_catch (hst : X.stack = X.env :: X.outer ∧ X.env.frame = some X.env.locals) (Cx : CalX X.prog X.w X.K X.mg X.base cl C fn k ps fx) (hps : ps.length = 1) (B : BadM X.K C CM) (hr : Room k X.A) (hgf : Gl X fn) (hgM : Gl X "MeterError") (hmM : X.mg "MeterError" = some (.ref CM)) (hN : X.N.Nodup)
    (h0 : X.N[0]? = some x0) (hv0 : Vis X.env.scope x0) (hic : X.N[ic]? = some xc) (hvc : X.env.scope.names.lookup xc = some .local) (hie : X.N[ie]? = some xe) (hve : X.env.scope.names.lookup xe = some .local) (hce : X.env.cells.lookup xe = none) (hcc : X.env.cells.lookup xc = none) (hce' : ic ≠ ie)
    (n0 : (x0 == ("__debug__" : Str)) = false) (n1 : (x0 == ("__classdict__" : Str)) = false) (n2 : (xe == ("__debug__" : Str)) = false) (n3 : (xe == ("__classdict__" : Str)) = false) (nf : (fn == ("__debug__" : Str)) = false)
    (I : L2.Inv X pins σ H s) (e0 : σ[0]? = some (some (.str z))) (hfx : fx r [.str z] = some (.bad r))
    (q : ∀ s' σ' x dx tb, L2.Inv X pins σ' H s' → σ'[ic]? = some (some (.ref x)) → Flt C r x dx tb s'.heap → FpOk X pins H x → FpOk X pins H dx → Q .next s')
    (hs1 : swapsWith (.Call (.Name fn p1) [.Name x0 p2] [] p3) none p4.line X.env = pure false := by rfl) (hs2 : swapsWith (.Name xe p7) (some (.Name xc p6)) p8.line X.env = pure false := by rfl)
    (he : starEach [.Name x0 p2] X.env = (false, eval (.Name x0 p2) X.env) :: starEach [] X.env := by rfl) (hpl : (backTo p3 (starEach [] X.env)).any (·.1) = false := by rfl) :
    wpAny (model X.prog X.w) X.A (exec (.Try [.Expr (.Call (.Name fn p1) [.Name x0 p2] [] p3) p4] [.ExceptHandler (some (.Name "MeterError" p5)) (some xe) [.Assign [.Name xc p6] (.Name xe p7) p8] p9] [] [] p10) X.env) Q X.xe s := by
  obtain ⟨f, fd, Fo, hmf, hkf, hb⟩ := Cx.ex
  have ok := I.ok
  refine wpAny_Try_except (wpAny_execs_cons (wpAny_Expr_any (wpAny_Call_Name_kw (ld_glob I hgf hmf ?_ nf)) I.quiet hs1))
  refine PySem.W.callWith_K (h₀ := X.base) I.ok.mod.kin hkf (Q := _) ?_ he hpl
  rw [he]
  refine Calls.spliced_cons (ld_any I h0 hv0 e0 (fun u ru => Calls.spliced_nil ⟨I.kIn, ?_⟩) n0 n1)
  have env : Env0 X.prog X.w X.K X.mg X.base X.A X.stack s (fun _ => none) := ⟨I.ok.frames, I.ok.mod, fun b o e => ⟨(I.bs b o e).1, rfl⟩, Nat.le_trans I.ok.bsz I.sz, I.stack, fun _ _ => rfl, fun b u e => (by cases e), I.bare⟩
  have hbt := hb s [u] I.kIn (by rw [List.append_nil]; exact hps.symm)
  rw [List.append_nil] at hbt
  refine wpAny_call (codeAny_mono (Fo.run X.A X.stack s (fun _ => none) ⟨[u], []⟩ [u] [.str z] (fun _ _ => False) (fun v _ _ => v = .int r 0) hr env hbt (.cons ru .nil) ⟨hps.symm, [.str z], fun _ => none, r, hfx, fun _ _ y => (by cases y), .cons (.str z) .nil, fun _ _ => rfl⟩) fun res s1 hq => ?_)
  cases res with
  | ok fl =>
    cases fl with
    | ret u => obtain ⟨_, _, _, _, _, _, _, z⟩ := hq; exact z.elim
    | next => exact hq.elim
    | brk => exact hq.elim
    | cont => exact hq.elim
  | error e =>
    obtain ⟨x, dx, T, H', r', rfl, b1, b2, un, hok, fl, tbT, c1, c2, c3, d1, d2, d3, hne, e1, e2, er⟩ := hq
    obtain rfl : r' = r := by injection er
    have tr : ∀ b u, H b = some u → b ∉ frs X.stack := fun b u e z => by rw [I.stkFree b z] at e; cases e
    have hok1 : HOk X.prog X.w H s1.heap := fun b u e => (I.hok b u e).stay (fun c v hc y => un.keep c v y rfl (by rcases hc with rfl | hc; exact tr _ u e; exact tr _ _ hc) (by simp)) (fun _ y => y) fun _ _ y => y
    have un1 : Un (frs X.stack) [] H H s.heap s1.heap := ⟨fun b o y n hb hx => un.keep b o y rfl hb hx, fun b o y n hb hx => un.slot b o y rfl hb hx, fun _ _ _ n _ => n, fun b o y hx => un.there b o y hx, fun _ _ y => y, fun _ _ _ y => y, fun b ps y => ⟨#[], by rw [y]; simp⟩⟩
    have I1 : L2.Inv X pins σ H s1 := Inv.call' (ch := []) I b1 un1 hok1 b2 fun b y => absurd y (by simp)
    have fr : ∀ b, s.heap.objs.size ≤ b → FpOk X pins H b := fun b hb => I.fpOk hb (I.hok.fresh hb)
    refine note_next hst I1 fl tbT (fr T d3) e1 e2 (fr x d1) (fr dx d2) hne fun s2 T2 I2 fl2 tb2 f2 g1 g2 => ?_
    refine flight_set I2 fl2 tb2 f2 g1 g2 fun s3 I3 fl3 tb3 _ => ?_
    obtain ⟨nm, qn, N, bs, hdct, sn, sub, ab, col, dd, k0, k1, k2, k3, k5, lk, _⟩ := B.cls
    obtain ⟨nm', qn', N', bs', hdct', sn', sub', ab', col', dd', l0, l1, l2, l3, l5, lkM⟩ := B.clsM
    refine wpAny_handleBy_cons (codeAny_handlers_test (ld_glob (X := mrk X (.ref x)) (Inv.mrk I3 _) hgM hmM ?_)) (by intro y; cases y)
    obtain ⟨⟨t0, ex⟩, _⟩ := id fl3
    refine matches_own (I3.kIn _ _ lk) (I3.kIn _ _ lkM) ex rfl ?_
    refine codeAny_handlers_suite_as (flight_set (Inv.mrk I3 (.ref x)) fl3 tb3 f2 g1 g2 fun s4 I4 fl4 tb4 _ => ?_)
    refine wpAny_mono (store_ok2 (X := mrk X (.ref x)) (E := fun _ _ => False) (Q := fun _ s5 => L2.Inv (mrk X (.ref x)) pins (σ.set ie (some (.ref x))) H s5 ∧ Flt C r' x dx (.ref T2) s5.heap) I4 hN hie (.inl hve) (v := .ref x) rfl (fun s5 I5 hc5 => ⟨I5, ?_⟩) (.inr hve)) (fun _ s5 ⟨I5, fl5⟩ => ?_) fun _ _ y => y.elim
    · obtain ⟨a, sb, ha⟩ := hc5
      rcases ha with rfl | ha
      · exact flt_at fl4 (fun b o hb e => (sb.2 b hb).trans e) (Ne.symm (fr x d1).2.1) (Ne.symm (fr dx d2).2.1)
      · rw [hce] at ha; cases ha
    refine wpAny_execs_cons (wpAny_Assign_Name (ld_any (X := mrk X (.ref x)) I5 hie (.inl hve) (by rw [List.getElem?_set_self (by rw [I.len]; exact (List.getElem?_eq_some_iff.mp hie).1)]) (fun u ru => ?_) n2 n3) hs2)
    obtain rfl : u = .ref x := ru
    refine wpAny_mono (store_ok2 (X := mrk X (.ref x)) (E := fun _ _ => False) (Q := fun _ s6 => L2.Inv (mrk X (.ref x)) pins ((σ.set ie (some (.ref x))).set ic (some (.ref x))) H s6 ∧ Flt C r' x dx (.ref T2) s6.heap) I5 hN hic (.inl hvc) (v := .ref x) rfl (fun s6 I6 hc6 => ⟨I6, ?_⟩) (.inr hvc)) (fun _ s6 ⟨I6, fl6⟩ => ?_) fun _ _ y => y.elim
    · obtain ⟨a, sb, ha⟩ := hc6
      rcases ha with rfl | ha
      · exact flt_at fl5 (fun b o hb e => (sb.2 b hb).trans e) (Ne.symm (fr x d1).2.1) (Ne.symm (fr dx d2).2.1)
      · rw [hcc] at ha; cases ha
    refine wpAny_execs_nil ?_
    have I7 := Inv.unmrk ok I6
    refine name_goes I7 hN hie hve hce (by rw [List.length_set, List.length_set, I.len]; exact (List.getElem?_eq_some_iff.mp hie).1) fun s7 I8 kp => ?_
    refine q s7 _ x dx (.ref T2) I8 ?_ (flt_at fl6 kp (Ne.symm (fr x d1).2.1) (Ne.symm (fr dx d2).2.1)) (fr x d1) (fr dx d2)
    rw [List.getElem?_set_ne (Ne.symm hce'), List.getElem?_set_self (by rw [List.length_set, I.len]; exact (List.getElem?_eq_some_iff.mp hic).1)]
end
end MB
namespace MB
open PySem PySem.Spec PyProof.Rows L2
open PySem.W (Frag InstAt findIn takerIn clsIn looks_findIn looks_clsIn looks_mroIn mroIn)
section
variable {prog : Program} {w : World} {A : Around} {E : Value → Shared → Prop} {s : Shared} {K : Frag} {C CM x : Addr} {cd : ClassData} {ox od : Obj}
theorem class_exc {Q : Option Value → Shared → Prop} (B : BadK K C CM) (ha : findIn K (.ref C) "__class__" = some (some (.builtin "object.__class__")))
    (hn : PySem.W.specialIn K (.builtin "object.__class__") "__get__" = some (some (.builtin "getset_descriptor.__get__"))) (htk : PySem.W.takesIn K (.builtin "object.__class__") = some true)
    (X : K.In s.heap) (J : InstAt s.heap x ox C (some od)) (h : Q (some (.ref C)) { s with toks := s.toks + 1 }) : wpAny (model prog w) A (getAttr? (.ref x) "__class__") Q E s := by
  obtain ⟨cd, hc, hm, hd⟩ := B.at
  have fo : PySem.W.findObj K C (some od) "__class__" = some (.bind (.builtin "getset_descriptor.__get__") (.builtin "object.__class__")) := PySem.W.findObj_data (by rw [hc]; rfl) ha hn htk
  obtain ⟨hp, g, d, tk, os⟩ := s
  have L0 := J.type (M := model prog w)
  have L1 := looks_findIn (M := model prog w) X B.ga
  have L2 := PySem.W.looks_find (M := model prog w) X J fo
  have LG := looks_findIn (M := model prog w) X B.gt
  have FB := PySem.F.attrBase_ValueError
  have f3 := FB.ga.bind (.ref x)
  have hmo : mroIn K C (.type "object") = some true := by unfold mroIn; rw [hc, Option.bind_some, hm]; rfl
  have sub : PySem.W.Looks (model prog w) hp (isInstance (.ref x) (.type "BaseException")) true := J.type.andThen (looks_mroIn X (by unfold mroIn; rw [hc, Option.bind_some, hm]; rfl))
  unfold getAttr? getAttrBy?
  refine wpAny_bind (wpAny_mkText (wpAny_bind (wpAny_attempt ?_)))
  unfold getAttrBy
  refine wpAny_holding (wpAny_bind (L0.at (wpAny_bind (L1.at ?_))))
  show wpAny _ _ (getAttrByItsOwn _ _ _ _ _ _) _ _ _
  unfold getAttrByItsOwn hookBefore
  refine wpAny_bind (LG.at ?_)
  unfold callGetattribute
  rw [if_neg (show ¬ (false && onTheHeap (Value.builtin "BaseException.__getattribute__")) = true from Bool.false_ne_true)]
  refine wpAny_bind (wpAny_attempt (wpAny_holding ?_))
  unfold boundAndCalled
  rw [f3]
  refine wpAny_bind (wpAny_pure (wpAny_call (codeAny_call_builtin FB.ga.plain PySem.F.entry_bexc_ga (@PySem.W.check_slot (model prog w) _ _ ⟨hp, g, d, tk + 1, os⟩ "BaseException.__getattribute__" "BaseException" "__getattribute__" (.ref x) [.str "__class__" tk] [] _ (by decide +kernel) (by decide +kernel) sub (PySem.F.args_bexc_ga (.ref x) (.str "__class__" tk)) ?_))))
  show wpAny _ _ (typeOf (.ref x) >>= _) _ _ _
  refine wpAny_bind (L0.at (wpAny_bind (L2.at ?_)))
  show wpAny _ _ (holding [_] (call _ _) >>= _) _ _ _
  refine wpAny_bind (wpAny_holding (wpAny_call (PySem.W.class_get (s := ⟨hp, g, d, tk + 1, os⟩) (ox := ox) (od := some od) X J hmo ?_)))
  refine wpAny_pure ?_
  show wpAny _ _ (handedOut (.ref C)) _ _ _
  rw [PySem.W.handedOut_of rfl]
  exact wpAny_pure (wpAny_pure h)
theorem kitx_exc (B : BadK K C CM) (ha : findIn K (.ref C) "__class__" = some (some (.builtin "object.__class__")))
    (hn : PySem.W.specialIn K (.builtin "object.__class__") "__get__" = some (some (.builtin "getset_descriptor.__get__"))) (htk : PySem.W.takesIn K (.builtin "object.__class__") = some true) :
    PySem.W.KitX K (.ref x) (.ref C) (fun h => InstAt h x ox C (some od)) where
  ty := fun _ _ _ I => I.type
  it := fun _ _ X _ => by
    obtain ⟨nm, q, N, bs, hdct, sn, sub, ab, col, dd, k0, k1, k2, k3, k5, lk, _⟩ := B.cls
    intro A' Q' E' s' k q
    unfold isType loadHead
    exact wpAny_bind (wpAny_loadPart (k _ _ (X _ _ lk)) (wpAny_pure q))
  ne := fun h tp dd its n sl X htp => by
    obtain ⟨nm, q, N, bs, hdct, sn, sub, ab, col, dd', k0, k1, k2, k3, k5, lk, _⟩ := B.cls
    refine Bool.eq_false_iff.mpr fun q => ?_
    have e : C = tp := Value.ref.inj (beq_iff_eq.mp q)
    subst e
    have z := congrArg (Option.map Obj.data) ((X _ _ lk).symm.trans htp)
    simp at z
  ca := fun X I k => class_exc B ha hn htk X I k
end
end MB
namespace MB
open PySem PySem.Spec PyProof.Rows L2
open PySem.W (Frag InstAt findIn clsIn)
abbrev pnd (X : Cx) (ps : List (Addr × Obj)) : Cx := { X with pn := X.pn ++ ps }
section
variable {X : Cx} {pins ps : List (Addr × Obj)} {σ : St} {H : Hp} {s : Shared}
theorem Ok.pnd (ok : X.Ok) : (MB.pnd X ps).Ok := ⟨ok.mod, ok.kind, ok.glob, ok.blt, ok.above, ok.inj, ok.has, ok.cab, ok.hd, ok.frames, ok.stk, ok.exf, ok.bs, ok.bsz, ok.noex, ok.exfs, ok.funs, ok.frf⟩
theorem Inv.pnd (I : L2.Inv X pins σ H s) (h : ∀ p ∈ ps, s.heap.get? p.1 = some p.2 ∧ H p.1 = none ∧ p.1 ≠ X.env.locals ∧ p.1 ∉ X.fs ∧ ∀ v, p.2.data ≠ .cell v) : L2.Inv (MB.pnd X ps) pins σ H s :=
  ⟨Ok.pnd I.ok, I.os, I.bare, I.base, I.loc, I.cell, I.free, I.freeC, fun p hp => by
    have hp : p ∈ (X.pn ++ ps) ++ pins := hp
    rcases List.mem_append.mp hp with z | z
    · rcases List.mem_append.mp z with z | z
      · exact I.pin p (List.mem_append_left _ z)
      · exact h p z
    · exact I.pin p (List.mem_append_right _ z), I.hok, I.len⟩
theorem Inv.unpnd (ok : X.Ok) (I : L2.Inv (MB.pnd X ps) pins σ H s) : L2.Inv X pins σ H s :=
  ⟨ok, I.os, I.bare, I.base, I.loc, I.cell, I.free, I.freeC, fun p hp => I.pin p (by
    show p ∈ (X.pn ++ ps) ++ pins
    rcases List.mem_append.mp hp with z | z
    · exact List.mem_append_left _ (List.mem_append_left _ z)
    · exact List.mem_append_right _ z), I.hok, I.len⟩
end
structure BadQ (K : Frag) (C CM : Addr) (cs : List Addr) : Prop extends BadM K C CM where
  ca : findIn K (.ref C) "__class__" = some (some (.builtin "object.__class__"))
  cg : PySem.W.specialIn K (.builtin "object.__class__") "__get__" = some (some (.builtin "getset_descriptor.__get__"))
  ct : PySem.W.takesIn K (.builtin "object.__class__") = some true
  kv : PySem.W.kitOne K (.ref C) (.type "ValueError") = some true
  kn : PySem.W.kitAny K (.ref C) (cs.map .ref) = some false
section
variable {X : Cx} {C CM x dx : Addr} {cs : List Addr} {ox od : Obj} {ic : Nat} {r : Int} {t : Tok} {m : Str → Option Value} {xc : Str} {p1 p2 p3 p4 pos : Pos}
def tX (ic : Nat) (x : Addr) (v : V) : TE := fun σ H Q => σ[ic]? = some (some (.ref x)) ∧ Q v H
structure Caught (X : Cx) (C x dx : Addr) (ox od : Obj) (r : Int) (t : Tok) : Prop where
  px : (x, ox) ∈ X.pn
  pd : (dx, od) ∈ X.pn
  oc : ox.cls = .ref C
  no : PySem.W.notCls ox = true
  di : ox.dict = some dx
  lk : PySem.W.lookIn "row" od = some (some (.int r t))
theorem Caught.inst (c : Caught X C x dx ox od r t) {pins : List (Addr × Obj)} {σ : St} {H : Hp} {s : Shared} (I : L2.Inv X pins σ H s) : InstAt s.heap x ox C (some od) :=
  ⟨(I.pin _ (List.mem_append_left _ c.px)).1, c.oc, c.no, by rw [c.di]; exact (I.pin _ (List.mem_append_left _ c.pd)).1⟩
theorem pe_row (B : BadQ X.K C CM cs) (c : Caught X C x dx ox od r t) (hv : PE X (.Name xc p1) (tVar ic)) (hb : attributeBase (.Name xc p1) "row" X.env (eval (.Name xc p1) X.env) = eval (.Name xc p1) X.env := by rfl) : PE X (.Attribute (.Name xc p1) "row" pos) (tX ic x (.int r)) := by
  intro pins s σ H Q I h
  obtain ⟨e, q⟩ := h
  refine attr_of hb (thn (hv pins s σ H (fun v H' => v = .ref x ∧ H' = H) I ⟨_, e, rfl, rfl⟩) fun u s1 ⟨v, H1, I1, rx, ev, eH⟩ => ?_)
  subst ev eH
  obtain rfl : u = .ref x := rx
  obtain ⟨cd, c1, c2, c3⟩ := B.toBadK.at
  exact get_exc I1.kIn (c.inst I1) B.ga B.gt c1 c2 (by unfold PySem.W.hasDictIn; rw [c1]; exact c3) B.row c.lk rfl fun k => ⟨.int r, H1, I1.tok k, ⟨t, rfl⟩, q⟩
theorem pe_isiE {cx : Expr} {vc : V} {c0 : Value} {b : Bool} (B : BadQ X.K C CM cs) (c : Caught X C x dx ox od r t) (hgi : Gl X "isinstance") (hmi : X.mg "isinstance" = none) (hv : PE X (.Name xc p1) (tVar ic)) (hc : PE X cx (tC vc)) (rc : ∀ u, RelV vc u → u = c0) (hk : PySem.W.kitOne X.K (.ref C) c0 = some b)
    (he : starEach [.Name xc p1, cx] X.env = (false, eval (.Name xc p1) X.env) :: starEach [cx] X.env := by rfl) (he2 : starEach [cx] X.env = (false, eval cx X.env) :: starEach [] X.env := by rfl) (hpl : (backTo pos (starEach [cx] X.env)).any (·.1) = false := by rfl) :
    PE X (.Call (.Name "isinstance" p2) [.Name xc p1, cx] [] pos) (tX ic x (.bl b)) := by
  intro pins s σ H Q I h
  obtain ⟨e, q⟩ := h
  refine (pe_callB (r := fun xs H' Q => xs = [.ref x, vc] ∧ Q (.bl b) H') (fun pins2 s2 σ2 H2 xs us Q2 I2 rr h2 => ?_) hgi hmi (by decide +kernel : bootBuiltins "isinstance" = some (.builtin "isinstance")) (pa_cons hv (pa_cons hc pa_nil he2) he) (hn := by decide +kernel) (hdb := by decide +kernel) (he := he) (hpl := hpl)) pins s σ H Q I ⟨_, e, rfl, q⟩
  obtain ⟨rfl, q⟩ := h2
  obtain ⟨u, w, rfl, q1, q2⟩ := vals2 rr
  obtain rfl : u = .ref x := q1
  obtain rfl := rc w q2
  exact PySem.W.kia_one (kitx_exc B.toBadK B.ca B.cg B.ct) I2.kIn (c.inst I2) hk (fun z => nomatch z) fun tk => ⟨.bl b, H2, I2.tok tk, rfl, q⟩
theorem vals_refs : ∀ {cs : List Addr} {us : List Value}, Vals (cs.map V.ref) us → us = cs.map Value.ref
  | [], us, r => by cases r; rfl
  | c :: cs, us, r => by
    cases r with
    | cons q r => rw [vals_refs r]; cases q; rfl
theorem pe_isiM {es : List Expr} {kk : Nat} (B : BadQ X.K C CM cs) (c : Caught X C x dx ox od r t) (hgi : Gl X "isinstance") (hmi : X.mg "isinstance" = none) (hv : PE X (.Name xc p1) (tVar ic)) (hc : PA X es (fun σ H Q => Q (cs.map V.ref) H)) (hcl : cs.length ≤ 1000)
    (he : starEach [.Name xc p1, .Tuple es kk p3] X.env = (false, eval (.Name xc p1) X.env) :: starEach [.Tuple es kk p3] X.env := by rfl) (he2 : starEach [.Tuple es kk p3] X.env = (false, eval (.Tuple es kk p3) X.env) :: starEach [] X.env := by rfl) (hpl : (backTo pos (starEach [.Tuple es kk p3] X.env)).any (·.1) = false := by rfl) :
    PE X (.Call (.Name "isinstance" p2) [.Name xc p1, .Tuple es kk p3] [] pos) (fun σ H Q => σ[ic]? = some (some (.ref x)) ∧ ∀ H', Same H H' → Q (.bl false) H') := by
  intro pins s σ H Q I h
  obtain ⟨e, q⟩ := h
  refine (pe_callB (r := fun xs H' Q => ∃ tp, xs = [.ref x, .ref tp] ∧ H' tp = some (.tup (cs.map V.ref)) ∧ Q (.bl false) H') (fun pins s σ H' xs us Q I r h => ?_) hgi hmi (by decide +kernel : bootBuiltins "isinstance" = some (.builtin "isinstance")) (pa_cons hv (pa_cons (pe_tup hc) pa_nil he2) he) (hn := by decide +kernel) (hdb := by decide +kernel) (he := he) (hpl := hpl)) pins s σ H Q I
    ⟨_, e, by rw [List.length_map, sizeLine_eq]; omega, fun tp htp => ⟨tp, rfl, upd_same, q _ (same_upd htp)⟩⟩
  obtain ⟨tp, rfl, htp, q⟩ := h
  obtain ⟨u, w, rfl, q1, q2⟩ := vals2 r
  obtain rfl : u = .ref x := q1
  cases q2
  obtain ⟨its, rv, ⟨o, h1, h2, mm, h3⟩, _⟩ := I.tuple (SqT.of htp)
  obtain ⟨cls, dd, data, slots⟩ := o
  simp only at h2 h3
  subst h2 h3
  rw [vals_refs rv] at h1
  exact PySem.W.kia_tup (kitx_exc B.toBadK B.ca B.cg B.ct) I.kIn (c.inst I) h1 B.kn (fun z => nomatch z) fun tk => ⟨.bl false, H', I.tok tk, rfl, q⟩
end
end MB
namespace MB
open PySem PySem.Spec PyProof.Rows L2
open PySem.W (Frag InstAt findIn clsIn)
section
variable {cl : Nat → Addr} {X : Cx} {f : FS} {body : List Stmt} {h0 : ExceptHandler} {hs : List ExceptHandler} {pos : Pos} {sts : List Stmt}
theorem pb_noneS : PB cl X sts (fun _ => none) := fun pins s σ H D I h => by
  obtain ⟨B, F0, P, δ, o, hw, _⟩ := h
  cases hw
theorem pb_tryN (hb : PB cl X body f) (hx : ∀ e s, ¬ X.xe e s) : PB1 cl X (.Try body (h0 :: hs) [] [] pos) f := fun pins s σ H D I h => by
  refine wpAny_Try_except (wpAny_mono (hb pins s σ H D I h) (fun fl s1 q => ?_) fun e s1 z => absurd z (hx e s1))
  cases fl with
  | next => exact wpAny_execs_nil q
  | ret u => exact q
  | brk => exact q
  | cont => exact q
def b_ref0 (f : List Dat → Option Dat) : FS := sSeq (sAsg 1 (eC .non)) (sSeq (sExp (eCall 1 f (aC (eV 0) aN))) (sSeq (sIf (b1 (e1 dIsN (eV 1))) (sRet (eC (.int 0))) sNil) fun _ => none))
theorem ref0_ends {f : List Dat → Option Dat} {d d' : Dat} (h : f [d] = some d') : b_ref0 f (ini 2 [d]) = some (.rt (.int 0)) := by
  unfold b_ref0 sSeq sAsg eC ini
  simp only [List.map_cons, List.map_nil, List.replicate, List.cons_append, List.nil_append, Option.bind_some]
  unfold sExp eCall aC aN eV
  simp [h]
  rfl
theorem pb_raiseN {a : Expr} {fe : FE} {x : Str} {np cpos : Pos} (_ : PP cl X a fe) : PB1 cl X (.Raise (some (.Call (.Name x np) [a] [] cpos)) none pos) (sBad none fe) := pb_raise0
end
end MB
namespace MB
open PySem PySem.Spec PyProof.Rows L2
section
variable {δ δ' δ'' : Sto} {fa fb fc fe fk fv : FE} {fl : FA} {x y z d w : Dat} {xs ys : List Dat} {f g : FS} {o : Out} {t u : FT} {b b' : Bool} {i j n : Nat} {P : Out → Prop}
theorem ev_C : eC d δ = some d := rfl
theorem ev_V (h : δ[i]? = some (.o (.val d))) : eV i δ = some d := by unfold eV; rw [h]
theorem ev_1 {g : Dat → Option Dat} (ha : fa δ = some x) (hg : g x = some z) : e1 g fa δ = some z := by unfold e1; rw [ha]; exact hg
theorem ev_2 {g : Dat → Dat → Option Dat} (ha : fa δ = some x) (hb : fb δ = some y) (hg : g x y = some z) : e2 g fa fb δ = some z := by unfold e2; rw [ha, hb]; exact hg
theorem ev_aN : aN δ = some [] := rfl
theorem ev_aC (h : fe δ = some x) (hr : fl δ = some xs) : aC fe fl δ = some (x :: xs) := by unfold aC; rw [h, hr]; rfl
theorem ev_aS {ss : List Str} : aStrs ss δ = some (ss.map .str) := rfl
theorem ev_T (h : fl δ = some xs) (hl : Nat.ble xs.length 1000 = true) : eT fl δ = some (.tup xs) := by
  unfold eT; rw [h]; exact if_pos (Nat.le_trans (Nat.le_of_ble_eq_true hl) (by decide))
theorem ev_L (h : fl δ = some xs) (hl : Nat.ble xs.length 1000 = true) : eL fl δ = some (.lst xs) := by
  unfold eL; rw [h]; exact if_pos (Nat.le_trans (Nat.le_of_ble_eq_true hl) (by decide))
theorem ev_call {f : List Dat → Option Dat} (h : fl δ = some xs) (hn : xs.length = n) (hf : f xs = some d) : eCall n f fl δ = some d := by
  unfold eCall; rw [h]; exact (if_pos hn).trans hf
theorem ev_B {g : List Dat → Option Dat} (h : fl δ = some xs) (hg : g xs = some d) : eB g fl δ = some d := by unfold eB; rw [h]; exact hg
theorem ev_and_t (h : fa δ = some (.bl true)) (h2 : fb δ = some d) : eAnd fa fb δ = some d := by unfold eAnd; rw [h]; exact h2
theorem ev_and_f (h : fa δ = some (.bl false)) : eAnd fa fb δ = some (.bl false) := by unfold eAnd; rw [h]; rfl
theorem dAdd_int {i j : Int} : dAdd (.int i) (.int j) = some (.int (i + j)) := rfl
theorem dSub_int {i j : Int} : dSub (.int i) (.int j) = some (.int (i - j)) := rfl
theorem dLt_int {i j : Int} : dLt (.int i) (.int j) = some (.bl (decide (i < j))) := rfl
theorem dLe_int {i j : Int} : dLe (.int i) (.int j) = some (.bl (decide (i ≤ j))) := rfl
theorem dGt_int {i j : Int} : dGt (.int i) (.int j) = some (.bl (decide (j < i))) := rfl
theorem dGe_int {i j : Int} : dGe (.int i) (.int j) = some (.bl (decide (j ≤ i))) := rfl
theorem dMulR {i j : Int} (h : -18446744073709551616 < j ∧ j < 18446744073709551616) : dMul (.int i) (.int j) = some (.int (i * j)) := by
  unfold dMul gI cMul; exact if_pos (decide_eq_true (.inr h))
theorem dMulL {i j : Int} (h : -18446744073709551616 < i ∧ i < 18446744073709551616) : dMul (.int i) (.int j) = some (.int (i * j)) := by
  unfold dMul gI cMul; exact if_pos (decide_eq_true (.inl h))
theorem dMod_int {i j : Int} (h : 0 < j) : dMod (.int i) (.int j) = some (.int (i % j)) := by unfold dMod gI cMod; exact if_pos (decide_eq_true h)
theorem dDiv_int {i j : Int} (h : 0 < j ∧ j < 1267650600228229401496703205376) : dDiv (.int i) (.int j) = some (.int (i / j)) := by unfold dDiv gI cDiv; exact if_pos (decide_eq_true h)
theorem dPow_10 {j : Int} (h : 0 ≤ j ∧ j ≤ 1000000) : dPow (.int 10) (.int j) = some (.int (10 ^ j.toNat)) := by unfold dPow gI cPow; exact if_pos (decide_eq_true ⟨h.1, h.2, by decide⟩)
theorem dEq_int {i j : Int} : dEq (.int i) (.int j) = some (.bl (i == j)) := rfl
theorem dNe_int {i j : Int} : dNe (.int i) (.int j) = some (.bl (!(i == j))) := rfl
theorem dEq_str {i j : Str} : dEq (.str i) (.str j) = some (.bl (i == j)) := rfl
theorem int_bl : dIntB [.bl b] = some (.int (if b then 1 else 0)) := rfl
theorem atI_of {α : Type} {xs : List α} {i : Int} {d : α} (h0 : 0 ≤ i) (h : xs[i.toNat]? = some d) : atI xs i = some d := by
  have hl : i.toNat < xs.length := (List.getElem?_eq_some_iff.mp h).1
  unfold atI ixN
  rw [if_pos h0, if_pos (by omega)]
  exact h
theorem ix_l {i : Int} (h0 : 0 ≤ i) (h : xs[i.toNat]? = some d) : dIx (.lst xs) (.int i) = some d := atI_of h0 h
theorem ix_t {i : Int} (h0 : 0 ≤ i) (h : xs[i.toNat]? = some d) : dIx (.tup xs) (.int i) = some d := atI_of h0 h
def ati (ns : List Int) (i : Int) : Int := ns.getD i.toNat 0
def ats (ns : List Str) (i : Int) : Str := ns.getD i.toNat ""
theorem ix_ints {ns : List Int} {i : Int} (h0 : 0 ≤ i) (h1 : i < (ns.length : Nat)) : dIx (.lst (ns.map .int)) (.int i) = some (.int (ati ns i)) := by
  refine ix_l h0 ?_
  have h : i.toNat < ns.length := by omega
  rw [List.getElem?_map, List.getElem?_eq_getElem h]
  unfold ati
  rw [List.getD_eq_getElem?_getD, List.getElem?_eq_getElem h]
  rfl
theorem ix_strs {ns : List Str} {i : Int} (h0 : 0 ≤ i) (h1 : i < (ns.length : Nat)) : dIx (.lst (ns.map .str)) (.int i) = some (.str (ats ns i)) := by
  refine ix_l h0 ?_
  have h : i.toNat < ns.length := by omega
  rw [List.getElem?_map, List.getElem?_eq_getElem h]
  unfold ats
  rw [List.getD_eq_getElem?_getD, List.getElem?_eq_getElem h]
  rfl
theorem ix_i2 {a b i : Int} (h : 0 ≤ i ∧ i < 2) : dIx (.lst [.int a, .int b]) (.int i) = some (.int (ati [a, b] i)) := ix_ints (ns := [a, b]) h.1 h.2
theorem ix_i3 {a b c i : Int} (h : 0 ≤ i ∧ i < 3) : dIx (.lst [.int a, .int b, .int c]) (.int i) = some (.int (ati [a, b, c] i)) := ix_ints (ns := [a, b, c]) h.1 h.2
theorem ix_i4 {a b c d i : Int} (h : 0 ≤ i ∧ i < 4) : dIx (.lst [.int a, .int b, .int c, .int d]) (.int i) = some (.int (ati [a, b, c, d] i)) := ix_ints (ns := [a, b, c, d]) h.1 h.2
theorem ix_i5 {a b c d e i : Int} (h : 0 ≤ i ∧ i < 5) : dIx (.lst [.int a, .int b, .int c, .int d, .int e]) (.int i) = some (.int (ati [a, b, c, d, e] i)) := ix_ints (ns := [a, b, c, d, e]) h.1 h.2
theorem ix_i6 {a b c d e f i : Int} (h : 0 ≤ i ∧ i < 6) : dIx (.lst [.int a, .int b, .int c, .int d, .int e, .int f]) (.int i) = some (.int (ati [a, b, c, d, e, f] i)) := ix_ints (ns := [a, b, c, d, e, f]) h.1 h.2
theorem ix_s3 {a b c : Str} {i : Int} (h : 0 ≤ i ∧ i < 3) : dIx (.lst [.str a, .str b, .str c]) (.int i) = some (.str (ats [a, b, c] i)) := ix_strs (ns := [a, b, c]) h.1 h.2
theorem ati_in {P : Int → Prop} {ns : List Int} {k : Int} (h : ∀ x ∈ ns, P x) (h0 : 0 ≤ k) (hk : k < (ns.length : Nat)) : P (ati ns k) := by
  unfold ati
  have hk : k.toNat < ns.length := by omega
  rw [List.getD_eq_getElem?_getD, List.getElem?_eq_getElem hk]
  exact h _ (List.getElem_mem hk)
theorem ats_in {P : Str → Prop} {ns : List Str} {k : Int} (h : ∀ x ∈ ns, P x) (h0 : 0 ≤ k) (hk : k < (ns.length : Nat)) : P (ats ns k) := by
  unfold ats
  have hk : k.toNat < ns.length := by omega
  rw [List.getD_eq_getElem?_getD, List.getElem?_eq_getElem hk]
  exact h _ (List.getElem_mem hk)
theorem len_l : dLenB [.lst xs] = some (.int (xs.length : Nat)) := rfl
theorem len_t : dLenB [.tup xs] = some (.int (xs.length : Nat)) := rfl
theorem tv_1 (h : fa δ = some (.bl b)) : b1 fa δ = some b := by unfold b1; rw [h]
theorem tv_not (h : t δ = some b) : bNot t δ = some (!b) := by unfold bNot; rw [h]; rfl
theorem tv_or_f (h : t δ = some false) (h2 : u δ = some b) : bOr t u δ = some b := by unfold bOr; rw [h]; exact h2
theorem tv_or (h : t δ = some b) (h2 : u δ = some b') : bOr t u δ = some (b || b') := by unfold bOr; rw [h]; cases b with | true => rfl | false => exact h2
def W (f : FS) (δ : Sto) (P : Out → Prop) : Prop := ∃ o, f δ = some o ∧ P o
theorem W.mono {P P' : Out → Prop} (h : W f δ P) (i : ∀ o, P o → P' o) : W f δ P' := by obtain ⟨o, a, b⟩ := h; exact ⟨o, a, i o b⟩
theorem w_seq (h : f δ = some (.nx δ')) (h2 : W g δ' P) : W (sSeq f g) δ P := by
  obtain ⟨o, a, b⟩ := h2
  refine ⟨o, ?_, b⟩
  unfold sSeq
  rw [h]
  exact a
theorem w_seqW (h : W f δ fun o => ∃ δ', o = .nx δ' ∧ W g δ' P) : W (sSeq f g) δ P := by
  obtain ⟨o, a, δ', rfl, b⟩ := h
  exact w_seq a b
theorem st_asg (h : fe δ = some d) : sAsg i fe δ = some (.nx (δ.set i (.o (.val d)))) := by unfold sAsg; rw [h]; rfl
theorem st_newL : sNewL i δ = some (.nx (δ.set i (.o (.lst [])))) := rfl
theorem st_app (hi : δ[i]? = some (.o (.lst xs))) (h : fe δ = some d) (hl : xs.length < 16777216) : sApp i fe δ = some (.nx (δ.set i (.o (.lst (xs ++ [d]))))) := by
  unfold sApp; rw [hi, h]; exact if_pos hl
theorem w_ret (h : fe δ = some d) (p : P (.rt d)) : W (sRet fe) δ P := ⟨.rt d, by unfold sRet; rw [h]; rfl, p⟩
theorem w_retN {xs : List Dat} (h : δ[i]? = some (.o (.lst xs))) (p : P (.ro (.lst xs))) : W (sRetN i) δ P := ⟨_, by unfold sRetN; rw [h], p⟩
theorem w_nil (p : P (.nx δ)) : W sNil δ P := ⟨_, rfl, p⟩
theorem w_of (h : f δ = some o) (p : P o) : W f δ P := ⟨o, h, p⟩
theorem w_if (h : t δ = some b) (h1 : b = true → W f δ P) (h2 : b = false → W g δ P) : W (sIf t f g) δ P := by
  cases b with
  | true => obtain ⟨o, a, c⟩ := h1 rfl; exact ⟨o, by unfold sIf; rw [h]; exact a, c⟩
  | false => obtain ⟨o, a, c⟩ := h2 rfl; exact ⟨o, by unfold sIf; rw [h]; exact a, c⟩
theorem w_ifT {is : List Nat} (h : t (frzL' is δ) = some b) (h1 : b = true → W f δ P) (h2 : b = false → W g δ P) : W (sIfT is t f g) δ P := by
  cases b with
  | true => obtain ⟨o, a, c⟩ := h1 rfl; exact ⟨o, by unfold sIfT; rw [h]; exact a, c⟩
  | false => obtain ⟨o, a, c⟩ := h2 rfl; exact ⟨o, by unfold sIfT; rw [h]; exact a, c⟩
theorem forD_inv {g : FG} {fb : FS} (Inv : Nat → Sto → Prop) : ∀ (ds : List Dat) (k : Nat) (δ : Sto), Inv k δ → (∀ i d δ, ds[i]? = some d → Inv (k + i) δ → ∃ δ1, g d δ = some δ1 ∧ W fb δ1 fun o => ∃ δ2, o = .nx δ2 ∧ Inv (k + i + 1) δ2) → ∃ δ', forD g fb ds δ = some (.nx δ') ∧ Inv (k + ds.length) δ'
  | [], k, δ, h, _ => ⟨δ, rfl, h⟩
  | d :: ds, k, δ, h, hs => by
    obtain ⟨δ1, h1, o, h2, δ2, rfl, h3⟩ := hs 0 d δ rfl h
    obtain ⟨δ', h4, h5⟩ := forD_inv Inv ds (k + 1) δ2 h3 fun i d' δ' hi hI => by
      have := hs (i + 1) d' δ' (by simpa using hi) (by rw [show k + (i + 1) = k + 1 + i by omega]; exact hI)
      rw [show k + (i + 1) + 1 = k + 1 + i + 1 by omega] at this
      exact this
    refine ⟨δ', ?_, by rw [List.length_cons, show k + (ds.length + 1) = k + 1 + ds.length by omega]; exact h5⟩
    unfold forD
    rw [h1]
    simp only [Option.bind_some]
    rw [h2]
    exact h4
theorem w_for {fi : FA} {g : FG} {fb : FS} {ds : List Dat} (Inv : Nat → Sto → Prop) (hi : fi δ = some ds) (h0 : Inv 0 δ) (hs : ∀ i d δ, ds[i]? = some d → Inv i δ → ∃ δ1, g d δ = some δ1 ∧ W fb δ1 fun o => ∃ δ2, o = .nx δ2 ∧ Inv (i + 1) δ2)
    (h : ∀ δ', Inv ds.length δ' → P (.nx δ')) : W (sFor fi g fb) δ P := by
  obtain ⟨δ', h1, h2⟩ := forD_inv Inv ds 0 δ h0 fun i d δ a b => by
    have := hs i d δ a (by rw [Nat.zero_add] at b; exact b)
    rw [Nat.zero_add]
    exact this
  rw [Nat.zero_add] at h2
  exact ⟨_, by unfold sFor; rw [hi]; exact h1, h δ' h2⟩
theorem rng_get {lo : Int} {n i : Nat} {d : Dat} (h : (rngD lo n)[i]? = some d) : d = .int (lo + (i : Nat)) ∧ i < n := by
  have hl : i < n := by
    have := (List.getElem?_eq_some_iff.mp h).1
    simpa [rngD] using this
  have e : (rngD lo n)[i]? = some (.int (lo + (i : Nat))) := by simp [rngD, hl]
  rw [e] at h
  exact ⟨(Option.some.inj h).symm, hl⟩
theorem rng_len {lo : Int} {n : Nat} : (rngD lo n).length = n := by simp [rngD]
theorem it_rg1 {j : Int} (h : fa δ = some (.int j)) (hj : 0 ≤ j ∧ j < 4611686018427387904) : iRg1 fa δ = some (rngD 0 j.toNat) := by
  unfold iRg1; rw [h]; exact if_pos ⟨by omega, by omega⟩
theorem it_enum (h : fa δ = some (.lst xs)) : iEnum fa δ = some (enumD xs) := by unfold iEnum; rw [h]
theorem enum_len : (enumD xs).length = xs.length := by simp [enumD]
theorem fn_W {n : Nat} {fb : FS} {ds : List Dat} {P : Dat → Prop} (h : W fb (ini n ds) fun o => ∃ d, endD (some o) = some d ∧ P d) : ∃ d, defF n fb ds = some d ∧ P d := by
  obtain ⟨o, a, d, b, c⟩ := h
  exact ⟨d, by unfold defF; rw [a]; exact b, c⟩
end
end MB
namespace MB
open PySem PySem.Spec PyProof.Rows L2
def b_l_mixed : FS := (sSeq (sAsg 2 (e2 dMod (e2 dMul (e2 dAdd (e2 dAdd (e2 dMod (eV 0) (eC (.int 1000000007))) (e2 dMul (eC (.int 7)) (eV 1))) (eC (.int 1))) (eC (.int 48271))) (eC (.int 2147483647))))
      (sRet (e2 dMod (e2 dMul (eV 2) (e2 dAdd (e2 dAdd (e2 dMod (eV 2) (eC (.int 1009))) (eV 1)) (eC (.int 3)))) (eC (.int 998244353)))))
def f_l_mixed : List Dat → Option Dat := defF 1 b_l_mixed
def b_l_draws : FS := (sSeq (sNewL 3)
      (sSeq (sAsg 4 (e2 dDiv (eV 0) (eC (.int 2))))
      (sSeq (sFor (iRg1 (eV 1)) (gN 5) (sIf (b1 (e2 dEq (e2 dMod (eV 0) (eC (.int 2))) (eC (.int 0)))) (sSeq (sApp 3 (e2 dMod (eV 4) (eV 2)))
      (sAsg 4 (e2 dDiv (eV 4) (eV 2)))) (sApp 3 (e2 dMod (eCall 2 f_l_mixed (aC (eCall 2 f_l_mixed (aC (eV 0) (aC (eV 5) aN))) (aC (eC (.int 3)) aN))) (eV 2)))))
      (sRetN 3))))
def f_l_draws : List Dat → Option Dat := defF 3 b_l_draws
def b_l_name : FS := (sSeq (sIf (b1 (e2 dEq (e2 dMod (eV 0) (eC (.int 3))) (eC (.int 0)))) (sRet (e2 dIx (eL (aStrs ["tell", "bill", "wrong", "change", "main", "heat"])) (e2 dMod (e2 dDiv (eV 0) (eC (.int 3))) (eC (.int 6))))) sNil)
      (sSeq (sAsg 1 (eC (.str "abcdefghijklmnopqrstuvwxyz")))
      (sRet (eM gJoin (eC (.str "")) (aC (eComp (iRg1 (e2 dAdd (eC (.int 1)) (e2 dMod (e2 dDiv (eV 0) (eC (.int 3))) (eC (.int 8))))) (gN 0) bT (e2 dIx (eV 2) (e2 dMod (e2 dDiv (eV 1) (e2 dAdd (eV 0) (eC (.int 3)))) (eC (.int 26)))) 1 [0, 1]) aN)))))
def f_l_name : List Dat → Option Dat := defF 1 b_l_name
def b_l_deed : FS := (sSeq (sAsg 2 (eCall 3 f_l_draws (aC (eV 0) (aC (eC (.int 8)) (aC (e2 dPow (eC (.int 10)) (eC (.int 6))) aN)))))
      (sSeq (sAsg 3 (eCall 2 f_l_mixed (aC (eV 0) (aC (eV 1) aN))))
      (sSeq (sAsg 4 (eComp (iSeq (eSl (eV 2) (oS (eC (.int 2))) (oS (eC (.int 7))))) (gN 0) bT (e2 dMul (eV 0) (e2 dIx (eL (aC (eC (.int 1)) (aC (e2 dPow (eC (.int 10)) (eC (.int 6))) (aC (eC (.int 1)) aN)))) (e2 dMod (eV 1) (eC (.int 3))))) 1 [1]))
      (sSeq (sAsg 5 (e2 dIx (eL (aStrs ["tell", "tell", "change", "wrong", "bill"])) (e2 dMod (eV 3) (eC (.int 5)))))
      (sSeq (sRcd 6 (rcV "tell" (eC (.int 2)) (rcV "change" (eC (.int 4)) (rcV "wrong" (eC (.int 1)) rcN))))
      (sSeq (sIf (b1 (e2 dEq (eV 5) (eC (.str "bill")))) (sRet (eT (aC (eC (.str "bill")) (aC (e2 dIx (eV 4) (eC (.int 0))) aN)))) sNil)
      (sRet (eB dTupleB (aC (e2 dAdd (eL (aC (eV 5) (aC (e2 dIx (eV 4) (eC (.int 0))) (aC (eCall 1 f_l_name (aC (e2 dIx (eV 2) (eC (.int 1))) aN)) aN)))) (eSl (eV 4) (oS (eC (.int 1))) (oS (e2 dAdd (eC (.int 1)) (eIxN 6 (eV 5)))))) aN)))))))))
def f_l_deed : List Dat → Option Dat := defF 5 b_l_deed
def b_l_row : FS := (sRet (eM gJoin (eC (.str " ")) (aC (e2 dAdd (eL (aC (eB dStrB (aC (e2 dIx (eV 0) (eC (.int 1))) aN)) (aC (e2 dIx (eV 0) (eC (.int 0))) aN))) (eComp (iSeq (eSl (eV 0) (oS (eC (.int 2))) oN)) (gN 0) bT (eB dStrB (aC (eV 0) aN)) 1 [])) aN)))
def f_l_row : List Dat → Option Dat := defF 0 b_l_row
def b_row_of : FS := (sRet (eM gJoin (eC (.str " ")) (aC (eComp (iSeq (eV 0)) (gN 0) bT (eB dStrB (aC (eV 0) aN)) 1 []) aN)))
def f_row_of : List Dat → Option Dat := defF 0 b_row_of
def b_log_text : FS := (sRet (eM gJoin (eC (.str "\n")) (aC (eComp (iSeq (eV 0)) (gN 0) bT (eCall 1 f_row_of (aC (e2 dAdd (eL (aC (e2 dIx (eV 0) (eC (.int 1))) (aC (e2 dIx (eV 0) (eC (.int 0))) aN))) (eB dListB (aC (eSl (eV 0) (oS (eC (.int 2))) oN) aN))) aN)) 1 []) aN)))
def f_log_text : List Dat → Option Dat := defF 0 b_log_text
def b_made_of : FS := (sRet (eB dAllB (aC (eComp (iSeq (eV 0)) (gN 0) bT (e2 dIn (eV 0) (eV 1)) 1 [1]) aN)))
def f_made_of : List Dat → Option Dat := defF 0 b_made_of
def b_is_number : FS := (sSeq (sIf (bOr (b1 (e2 dEq (eB dLenB (aC (eV 0) aN)) (eC (.int 0)))) (b1 (e2 dGt (eB dLenB (aC (eV 0) aN)) (eC (.int 12))))) (sRet (eC (.bl false))) sNil)
      (sRet (eAnd (eCall 2 f_made_of (aC (eV 0) (aC (eC (.str "0123456789")) aN))) (eOr (e2 dEq (eV 0) (eC (.str "0"))) (e2 dNe (e2 dIx (eV 0) (eC (.int 0))) (eC (.str "0")))))))
def f_is_number : List Dat → Option Dat := defF 0 b_is_number
def b_is_name : FS := (sRet (eAnd (e2 dGt (eB dLenB (aC (eV 0) aN)) (eC (.int 0))) (eAnd (e2 dLe (eB dLenB (aC (eV 0) aN)) (eC (.int 8))) (eCall 2 f_made_of (aC (eV 0) (aC (eC (.str "abcdefghijklmnopqrstuvwxyz")) aN))))))
def f_is_name : List Dat → Option Dat := defF 0 b_is_name
def b_fits : FS := (sSeq (sIf (b1 (e2 dEq (eV 1) (eC (.str "NUMBER")))) (sRet (eCall 1 f_is_number (aC (eV 0) aN))) sNil)
      (sSeq (sIf (b1 (e2 dEq (eV 1) (eC (.str "NAME")))) (sRet (eCall 1 f_is_name (aC (eV 0) aN))) sNil)
      (sRet (e2 dEq (eV 0) (eV 1)))))
def f_fits : List Dat → Option Dat := defF 0 b_fits
def b_values_of : FS := (sSeq (sAsg 2 (eM gSplit (eV 0) (aC (eC (.str " ")) aN)))
      (sSeq (sAsg 3 (eM gSplit (eV 1) (aC (eC (.str " ")) aN)))
      (sSeq (sIf (b1 (e2 dNe (eB dLenB (aC (eV 2) aN)) (eB dLenB (aC (eV 3) aN)))) (sRet (eC .non)) sNil)
      (sSeq (sNewL 4)
      (sSeq (sFor (iZip2 (eV 2) (eV 3)) (gT 2 (gsC (gN 5) (gsC (gN 6) gsN))) (sSeq (sIf (bNot (b1 (eCall 2 f_fits (aC (eV 5) (aC (eV 6) aN))))) (sRet (eC .non)) sNil)
      (sIf (b1 (e2 dEq (eV 6) (eC (.str "NUMBER")))) (sApp 4 (eB dIntB (aC (eV 5) aN))) (sIf (b1 (e2 dEq (eV 6) (eC (.str "NAME")))) (sApp 4 (eV 5)) sNil))))
      (sRetN 4))))))
def f_values_of : List Dat → Option Dat := defF 5 b_values_of
def b_deed_of : FS := (sSeq (sFor (fun _ => some ([("NUMBER tell NAME NUMBER NUMBER" : Str), ("NUMBER change NAME NUMBER NUMBER NUMBER NUMBER" : Str), ("NUMBER wrong NAME NUMBER" : Str), ("NUMBER bill" : Str)].map Dat.str)) (gN 1) (sSeq (sAsg 2 (eCall 2 f_values_of (aC (eV 0) (aC (eV 1) aN))))
      (sIf (b1 (e1 dNotN (eV 2))) (sRet (eB dTupleB (aC (e2 dAdd (eL (aC (e2 dIx (eM gSplit (eV 1) (aC (eC (.str " ")) aN)) (eC (.int 1))) aN)) (eV 2)) aN))) sNil)))
      (sRet (eC .non)))
def f_deed_of : List Dat → Option Dat := defF 2 b_deed_of
def b_log_from (r0 : Option Int) : FS := (sSeq (sIf (b1 (e2 dEq (eV 0) (eC (.str "")))) sRetE sNil)
      (sSeq (sNewL 1)
      (sSeq (sFor (iEnum1 (eM gSplit (eV 0) (aC (eC (.str "\n")) aN))) (gT 2 (gsC (gN 2) (gsC (gN 3) gsN))) (sSeq (sAsg 4 (eCall 1 f_deed_of (aC (eV 3) aN)))
      (sSeq (sIf (bOr (b1 (e1 dIsN (eV 4))) (b1 (e2 dGt (eV 2) (eC (.int 60))))) (sBad r0 (eV 2)) sNil)
      (sApp 1 (eV 4)))))
      (sRetN 1))))
def f_log_from : List Dat → Option Dat := defF 4 (b_log_from none)
def fx_log_from (r : Int) : List Dat → Option Dat := defF 4 (b_log_from (some r))
def fo_log_from : List Dat → Option O0 := defO 4 (b_log_from none)
def b_l_alike : FS := (sSeq (sIf (bOr (bNot (b1 (e1 isiList (eV 0)))) (b1 (e2 dNe (eB dLenB (aC (eV 0) aN)) (eB dLenB (aC (eV 1) aN))))) (sRet (eC (.bl false))) sNil)
      (sSeq (sFor (iZip2 (eV 0) (eV 1)) (gT 2 (gsC (gN 2) (gsC (gN 3) gsN))) (sSeq (sIf (bOr (bNot (b1 (e1 isiTuple (eV 2)))) (b1 (e2 dNe (eB dLenB (aC (eV 2) aN)) (eB dLenB (aC (eV 3) aN))))) (sRet (eC (.bl false))) sNil)
      (sFor (iZip2 (eV 2) (eV 3)) (gT 2 (gsC (gN 4) (gsC (gN 5) gsN))) (sIf (bOr (b1 (e1 isiBool (eV 4))) (bOr (b1 (e2 dNe (e1 isiStr (eV 4)) (e1 isiStr (eV 5)))) (b1 (e2 dNe (eV 4) (eV 5))))) (sRet (eC (.bl false))) sNil))))
      (sRet (eC (.bl true)))))
def f_l_alike : List Dat → Option Dat := defF 4 b_l_alike
def b_l_cell_at : FS := (sSeq (sIf (b1 (e2 dLt (eV 1) (eB dLenB (aC (eV 0) aN)))) (sRet (e2 dIx (eV 0) (eV 1))) sNil)
      (sRet (eC (.int 0))))
def f_l_cell_at : List Dat → Option Dat := defF 0 b_l_cell_at
def f_l_refusal : List Dat → Option Dat := refD f_log_from fx_log_from
def b_l_bad_number : FS := (sRet (e2 dIx (eL (aStrs ["01", "00", "", "-1", "+1", "1.0", "a", "1000000000000", "1_0"])) (e2 dMod (eV 0) (eC (.int 9)))))
def f_l_bad_number : List Dat → Option Dat := defF 0 b_l_bad_number
def b_l_spoilt : FS := (sSeq (sNewE 2 (eM gSplit (eV 0) (aC (eC (.str " ")) aN)))
      (sSeq (sAsg 3 (e2 dMod (eV 1) (eC (.int 8))))
      (sSeq (sAsg 4 (e2 dDiv (eV 1) (eC (.int 8))))
      (sSeq (sIf (b1 (e2 dEq (eV 3) (eC (.int 0)))) (sRet (e2 dIx (eL (aSpoil 0)) (e2 dMod (eV 4) (eC (.int 4))))) sNil)
      (sSeq (sIf (b1 (e2 dEq (eV 3) (eC (.int 1)))) (sFrz 2 (sRet (eM gJoin (eC (.str " ")) (aC (eSl (eV 2) oN (oS (e2 dSub (eLenN 2) (eC (.int 1))))) aN)))) sNil)
      (sSeq (sIf (b1 (e2 dEq (eV 3) (eC (.int 2)))) (sRet (e2 dAdd (eV 0) (eC (.str " 1")))) sNil)
      (sSeq (sIf (b1 (e2 dEq (eV 3) (eC (.int 3)))) (sPut 2 (eC (.int 1)) (e2 dIx (eL (aStrs ["Tell", "told", "bills", "", "5"])) (e2 dMod (eV 4) (eC (.int 5))))) (sIf (bAnd (b1 (e2 dEq (eV 3) (eC (.int 4)))) (b1 (e2 dGt (eLenN 2) (eC (.int 2))))) (sPut 2 (eC (.int 2)) (e2 dIx (eL (aStrs ["A", "abcdefghi", "", "a1", "5"])) (e2 dMod (eV 4) (eC (.int 5))))) (sIf (bAnd (b1 (e2 dEq (eV 3) (eC (.int 5)))) (b1 (e2 dGt (eLenN 2) (eC (.int 3))))) (sPut 2 (e2 dAdd (eC (.int 3)) (e2 dMod (eV 4) (e2 dSub (eLenN 2) (eC (.int 3))))) (eCall 1 f_l_bad_number (aC (e2 dDiv (eV 4) (eC (.int 10))) aN))) (sPut 2 (eC (.int 0)) (eCall 1 f_l_bad_number (aC (eV 4) aN))))))
      (sFrz 2 (sRet (eM gJoin (eC (.str " ")) (aC (eV 2) aN)))))))))))
def f_l_spoilt : List Dat → Option Dat := defF 3 b_l_spoilt
def b_law : FS := (sSeq (sAsg 1 (eComp (iEnum (eSl (eV 0) (oS (eC (.int 1))) (oS (eC (.int 61))))) (gT 2 (gsC (gN 0) (gsC (gN 1) gsN))) bT (eCall 2 f_l_deed (aC (eV 1) (aC (eV 0) aN))) 2 []))
      (sSeq (sNewE 2 (eComp (iSeq (eV 1)) (gN 0) bT (eCall 1 f_l_row (aC (eV 0) aN)) 1 []))
      (sSeq (sAsg 3 (eB dListB (aC (eV 1) aN)))
      (sSeq (sAsg 4 (eCall 1 f_log_text (aC (eV 3) aN)))
      (sSeq (sIfT [2] (bOr (bNot (b1 (e1 isiStr (eV 4)))) (bOr (b1 (e2 dNe (eV 4) (eM gJoin (eC (.str "\n")) (aC (eV 2) aN)))) (b1 (e2 dNe (eV 3) (eV 1))))) (sRet (eC (.bl false))) sNil)
      (sSeq (sFor (iRg1 (eC (.int 2))) (gN 5) (sSeq (sAsgO 6 1 fo_log_from (aC (eV 4) aN))
      (sSeq (sIfT [6] (bNot (b1 (eCall 2 f_l_alike (aC (eV 6) (aC (eV 1) aN))))) (sRet (eC (.bl false))) sNil)
      (sApp 6 (eT (aC (eC (.str "bill")) (aC (eC (.int 0)) aN)))))))
      (sSeq (sAsg 7 (eCall 2 f_l_mixed (aC (eCall 2 f_l_cell_at (aC (eV 0) (aC (eC (.int 0)) aN))) (aC (eC (.int 81)) aN))))
      (sSeq (sIf (b1 (e2 dEq (eV 1) (eL aN))) (sRet (e2 dEq (eCall 1 f_l_refusal (aC (eC (.str "x")) aN)) (eC (.int 1)))) sNil)
      (sSeq (sIf (b1 (e2 dEq (e2 dMod (eV 7) (eC (.int 8))) (eC (.int 0)))) (sSeq (sAsg 8 (eSl (eMulN 2 (eC (.int 60))) oN (oS (eC (.int 60)))))
      (sRet (eAnd (e2 dEq (eCall 1 f_l_refusal (aC (eM gJoin (eC (.str "\n")) (aC (eV 8) aN)) aN)) (eC (.int 0))) (e2 dEq (eCall 1 f_l_refusal (aC (eM gJoin (eC (.str "\n")) (aC (e2 dAdd (eV 8) (eL (aC (eIxN 2 (eC (.int 0))) aN))) aN)) aN)) (eC (.int 61)))))) sNil)
      (sSeq (sAsg 9 (e2 dMod (e2 dDiv (eV 7) (eC (.int 8))) (eLenN 2)))
      (sSeq (sPut 2 (eV 9) (eCall 2 f_l_spoilt (aC (eIxN 2 (eV 9)) (aC (e2 dDiv (eV 7) (eC (.int 500))) aN))))
      (sSeq (sIf (bAnd (b1 (e2 dEq (eLenN 2) (eC (.int 1)))) (b1 (e2 dEq (eIxN 2 (eC (.int 0))) (eC (.str ""))))) (sRet (e2 dEq (eCall 1 f_log_from (aC (eC (.str "")) aN)) (eL aN))) sNil)
      (sSeq (sIf (bAnd (b1 (e2 dLt (e2 dAdd (eV 9) (eC (.int 1))) (eLenN 2))) (b1 (e2 dEq (e2 dMod (e2 dDiv (eV 7) (eC (.int 300000))) (eC (.int 2))) (eC (.int 1))))) (sPut 2 (e2 dSub (eLenN 2) (eC (.int 1))) (eC (.str ""))) sNil)
      (sFrz 2 (sRet (e2 dEq (eCall 1 f_l_refusal (aC (eM gJoin (eC (.str "\n")) (aC (eV 2) aN)) aN)) (e2 dAdd (eV 9) (eC (.int 1)))))))))))))))))))
def f_law : List Dat → Option Dat := defF 9 b_law
end MB
namespace MB
open PySem PySem.Spec PyProof.Rows L2
abbrev tl (x : Str) : List Nat := x.cps.toList
theorem tl_inj {a b : Str} (h : tl a = tl b) : a = b := by
  obtain ⟨a⟩ := a
  obtain ⟨b⟩ := b
  exact congrArg Str.mk (Array.toList_inj.mp h)
theorem sp_eq : (" " : Str) = ⟨#[32]⟩ := by decide +kernel
theorem nl_eq : ("\n" : Str) = ⟨#[10]⟩ := by decide +kernel
theorem tl_app (a b : Str) : tl (a ++ b) = tl a ++ tl b := by
  show (a ++ b).cps.toList = _
  rw [Str.cps_append, Array.toList_append]
theorem cut_uniq {c : Nat} : ∀ {x y a b : List Nat}, c ∉ x → c ∉ y → x ++ c :: a = y ++ c :: b → x = y ∧ a = b
  | [], [], a, b, _, _, h => by simp at h; exact ⟨rfl, h⟩
  | [], k :: y, a, b, _, hy, h => by
    simp at h
    exact absurd (by simp [h.1]) hy
  | k :: x, [], a, b, hx, _, h => by
    simp at h
    exact absurd (by simp [← h.1]) hx
  | k :: x, l :: y, a, b, hx, hy, h => by
    simp at h
    obtain ⟨rfl, h⟩ := h
    obtain ⟨rfl, q⟩ := cut_uniq (x := x) (y := y) (fun m => hx (List.mem_cons_of_mem _ m)) (fun m => hy (List.mem_cons_of_mem _ m)) h
    exact ⟨rfl, q⟩
theorem join_uniq {c : Nat} : ∀ {xs ys : List Str}, xs ≠ [] → ys ≠ [] → (∀ w ∈ xs, c ∉ tl w) → (∀ w ∈ ys, c ∉ tl w) → Str.join ⟨#[c]⟩ xs = Str.join ⟨#[c]⟩ ys → xs = ys
  | [], _, h, _, _, _, _ => absurd rfl h
  | _ :: _, [], _, h, _, _, _ => absurd rfl h
  | [x], [y], _, _, _, _, h => by
    have h : x = y := h
    rw [h]
  | [x], y :: z :: ys, _, _, hx, _, h => by
    have h : x = y ++ ⟨#[c]⟩ ++ Str.join ⟨#[c]⟩ (z :: ys) := h
    have e := congrArg tl h
    rw [tl_app, tl_app] at e
    exact absurd (by rw [e]; simp) (hx x (by simp))
  | x :: z :: xs, [y], _, _, _, hy, h => by
    have h : x ++ ⟨#[c]⟩ ++ Str.join ⟨#[c]⟩ (z :: xs) = y := h
    have e := congrArg tl h
    rw [tl_app, tl_app] at e
    exact absurd (by rw [← e]; simp) (hy y (by simp))
  | x :: z :: xs, y :: z' :: ys, _, _, hx, hy, h => by
    have h : x ++ ⟨#[c]⟩ ++ Str.join ⟨#[c]⟩ (z :: xs) = y ++ ⟨#[c]⟩ ++ Str.join ⟨#[c]⟩ (z' :: ys) := h
    have e := congrArg tl h
    rw [tl_app, tl_app, tl_app, tl_app, List.append_assoc, List.append_assoc] at e
    obtain ⟨e1, e2⟩ := cut_uniq (hx x (by simp)) (hy y (by simp)) e
    rw [tl_inj e1, join_uniq (xs := z :: xs) (ys := z' :: ys) (by simp) (by simp) (fun w hw => hx w (List.mem_cons_of_mem _ hw)) (fun w hw => hy w (List.mem_cons_of_mem _ hw)) (tl_inj e2)]
theorem split_ne (x : Str) (c : Nat) : Txt.split x ⟨#[c]⟩ ≠ [] := by
  unfold Txt.split
  split
  · simp
  · split
    · simp
    · intro e
      rw [StrLaws.partsBetween_eq] at e
      obtain ⟨p, q, e2⟩ := StrLaws.partsFrom_ne x (⟨#[c]⟩ : Str).length 0 (Builtin.Str.occurrences x ⟨#[c]⟩ 0 x.length (x.length + 1))
      rw [e2] at e
      cases e
theorem split_join {c : Nat} {ws : List Str} (hn : ws ≠ []) (hf : ∀ w ∈ ws, c ∉ tl w) : Txt.split (Str.join ⟨#[c]⟩ ws) ⟨#[c]⟩ = ws :=
  join_uniq (split_ne _ _) hn (StrLaws.split_free _ c) hf (StrLaws.join_split _ _)
theorem join_mem {sep : Str} {c : Nat} : ∀ {ws : List Str}, c ∈ tl (Str.join sep ws) → c ∈ tl sep ∨ ∃ w ∈ ws, c ∈ tl w
  | [], h => by simp [Str.join, Str.empty] at h
  | [x], h => .inr ⟨x, by simp, h⟩
  | x :: y :: r, h => by
    have h : c ∈ tl (x ++ sep ++ Str.join sep (y :: r)) := h
    rw [tl_app, tl_app, List.mem_append, List.mem_append] at h
    rcases h with (h | h) | h
    · exact .inr ⟨x, by simp, h⟩
    · exact .inl h
    · rcases join_mem h with q | ⟨w, hw, q⟩
      · exact .inl q
      · exact .inr ⟨w, List.mem_cons_of_mem _ hw, q⟩
theorem join_ok {sep : Str} {ws : List Str} {B : Nat} (hB : ∀ y ∈ ws, y.length ≤ B) (hs : sep.length ≤ 1) (h : ws.length * B + ws.length ≤ 16777216) : JoinOk sep ws = true := by
  unfold JoinOk
  rw [StrLaws.joinFits hB (by have : ws.length * sep.length ≤ ws.length * 1 := Nat.mul_le_mul_left _ hs; omega)]
  rfl
theorem join_le {sep : Str} {ws : List Str} {B : Nat} (hB : ∀ y ∈ ws, y.length ≤ B) (hs : sep.length ≤ 1) : (Str.join sep ws).length ≤ ws.length * B + ws.length := by
  have h1 := StrLaws.join_length_le sep ws
  have h2 := StrLaws.sumLen_le ws hB
  have h3 : ws.length * sep.length ≤ ws.length * 1 := Nat.mul_le_mul_left _ hs
  omega
theorem len_sp : (" " : Str).length = 1 := by rw [sp_eq]; rfl
theorem len_nl : ("\n" : Str).length = 1 := by rw [nl_eq]; rfl
def numW (n : Int) : Str := Str.ofString (toString n)
theorem isd {ch : Char} (h : ch.isDigit = true) : 48 ≤ ch.toNat ∧ ch.toNat ≤ 57 := by
  unfold Char.isDigit at h
  simp at h
  exact h
theorem digs_head : ∀ m : Nat, 0 < m → ∃ c r, Nat.toDigits 10 m = c :: r ∧ c.toNat ≠ 48 := by
  intro m
  induction m using Nat.strongRecOn with
  | _ m ih =>
    intro hm
    by_cases h : m < 10
    · rw [Nat.toDigits_of_lt_base h]
      have : ∀ d : Nat, d < 10 → 0 < d → (Nat.digitChar d).toNat ≠ 48 := by decide
      exact ⟨_, [], rfl, this m h hm⟩
    · obtain ⟨c, r, e, hc⟩ := ih (m / 10) (by omega) (by omega)
      have t : Nat.toDigits 10 (m / 10) ++ Nat.toDigits 10 (m % 10) = Nat.toDigits 10 (10 * (m / 10) + m % 10) := Nat.toDigits_append_toDigits (by decide) (by omega) (Nat.mod_lt m (by decide))
      rw [Nat.div_add_mod, e] at t
      exact ⟨c, _, t.symm, hc⟩
structure NumW (w : Str) : Prop where
  dig : NumText.AllDigits (tl w)
  len : 0 < w.length ∧ w.length ≤ 12
  hd : tl w = [48] ∨ ∃ c r, tl w = c :: r ∧ c ≠ 48
theorem numW_ok {n : Int} (h0 : 0 ≤ n) (h1 : n < 1000000000000) : NumW (numW n) ∧ NumText.digitsVal (tl (numW n)) = n.toNat := by
  obtain ⟨m, rfl⟩ := Int.eq_ofNat_of_zero_le h0
  have e : tl (numW ((m : Nat) : Int)) = (Nat.toDigits 10 m).map Char.toNat := PySem.W.KIN.signs_num m
  have el : (numW ((m : Nat) : Int)).length = (Nat.toDigits 10 m).length := by
    have := congrArg List.length e
    rw [List.length_map] at this
    rw [← this]
    exact Array.length_toList.symm
  refine ⟨⟨fun c hc => ?_, ⟨?_, ?_⟩, ?_⟩, ?_⟩
  · rw [e] at hc
    obtain ⟨ch, hch, rfl⟩ := List.mem_map.mp hc
    exact isd (Nat.isDigit_of_mem_toDigits (by decide) (by decide) hch)
  · rw [el]
    exact toDigits_len_ge 10 m
  · rw [el]
    refine (Nat.length_toDigits_le_iff (b := 10) (n := m) (k := 12) (by decide) (by decide)).mpr ?_
    have : (10 : Nat) ^ 12 = 1000000000000 := by decide
    omega
  · by_cases hm : 0 < m
    · obtain ⟨c, r, er, hc⟩ := digs_head m hm
      rw [e, er]
      exact .inr ⟨c.toNat, r.map Char.toNat, rfl, hc⟩
    · have : m = 0 := by omega
      subst this
      exact .inl (by rw [e]; rfl)
  · rw [e, PySem.W.KIN.val_back]
    rfl
end MB
namespace MB
open PySem PySem.Spec PyProof.Rows L2
section
variable {δ : Sto} {fa fb fe : FE} {fl : FA} {t : FT} {f g : FS} {d x y z : Dat} {b b' : Bool} {n : Nat} {ds xs : List Dat} {P : Out → Prop}
theorem fn_ret (h : fe (ini n ds) = some d) : defF n (sRet fe) ds = some d := by
  unfold defF sRet
  rw [h]
  rfl
theorem w_ifr (ht : t δ = some b) (hd : b = true → fe δ = some d) (h1 : b = true → P (.rt d)) (h2 : b = false → W g δ P) : W (sSeq (sIf t (sRet fe) sNil) g) δ P := by
  cases b with
  | true =>
    refine ⟨.rt d, ?_, h1 rfl⟩
    unfold sSeq sIf sRet
    rw [ht]
    simp only [Option.bind_some, if_true]
    rw [hd rfl]
    rfl
  | false =>
    refine w_seq (δ' := δ) ?_ (h2 rfl)
    unfold sIf
    rw [ht]
    rfl
theorem ev_and (h : fa δ = some (.bl b)) (h2 : b = true → fb δ = some (.bl b')) : eAnd fa fb δ = some (.bl (b && b')) := by
  cases b with
  | true => exact ev_and_t h (h2 rfl)
  | false => exact ev_and_f h
theorem ev_or (h : fa δ = some (.bl b)) (h2 : b = false → fb δ = some (.bl b')) : eOr fa fb δ = some (.bl (b || b')) := by
  unfold eOr
  rw [h]
  cases b with
  | true => rfl
  | false => exact h2 rfl
theorem len_s {w : Str} (h : w.length ≤ 10000) : dLenB [.str w] = some (.int (w.length : Nat)) := if_pos (Nat.le_trans h (by decide))
theorem dNe_str {i j : Str} : dNe (.str i) (.str j) = some (.bl (!(i == j))) := rfl
theorem comp_of {α : Type} {D R : α → Dat} {rest : List Slot} : ∀ (xs : List α) (s0 : Slot), (∀ a ∈ xs, fe (.o (.val (D a)) :: rest) = some (R a)) → compD (gN 0) bT fe (xs.map D) (s0 :: rest) = some (xs.map R)
  | [], _, _ => rfl
  | a :: xs, s0, h => by
    have ih := comp_of xs (.o (.val (D a))) fun a' ha' => h a' (List.mem_cons_of_mem _ ha')
    rw [List.map_cons]
    unfold compD
    show (fe (.o (.val (D a)) :: rest)).bind _ = _
    rw [h a (by simp)]
    simp only [Option.bind_some]
    show ((compD (gN 0) bT fe (List.map D xs) (Slot.o (O0.val (D a)) :: rest)).bind fun ys => some (R a :: ys)) = _
    rw [ih]
    rfl
theorem ev_comp {fi : FA} {g : FG} {n : Nat} {caps : List Nat} {out : List Dat} (hi : fi δ = some ds) (hl : ds.length ≤ 10000) (hc : compD g t fe ds (capD n caps δ) = some out) : eComp fi g t fe n caps δ = some (.lst out) := by
  unfold eComp
  rw [hi]
  simp only [Option.bind_some]
  rw [if_pos (Nat.le_trans hl (by decide)), hc]
  rfl
end
theorem all_bls {α : Type} {f : α → Bool} (xs : List α) : dAllB [.lst (xs.map fun a => Dat.bl (f a))] = some (.bl (xs.all f)) := by
  have e : (xs.map fun a => Dat.bl (f a)) = (xs.map f).map .bl := by rw [List.map_map]; rfl
  rw [e]
  show (blsD ((xs.map f).map .bl)).bind _ = _
  rw [blsD_map]
  simp only [Option.bind_some]
  rw [List.all_map]
  rfl
def inB (s : Str) (w : Str) : Bool := (tl w).all fun c => decide (c ∈ tl s)
theorem made_of_ok (w s : Str) (h : w.length ≤ 10000) : f_made_of [.str w, .str s] = some (.bl (inB s w)) := by
  refine fn_ret (ev_B (ev_aC (ev_comp (ds := signsD w) (out := (tl w).map fun c => Dat.bl (decide (c ∈ tl s))) rfl ?_ ?_) ev_aN) (all_bls _))
  · unfold signsD
    rw [List.length_map, Array.length_toList]
    exact h
  · exact comp_of (D := fun c => Dat.str ⟨#[c]⟩) (R := fun c => Dat.bl (decide (c ∈ tl s))) (tl w) .no fun c _ => ev_2 (ev_V rfl) (ev_V rfl) (by
      show (some (!(Builtin.Str.occurrences s ⟨#[c]⟩ 0 s.length 1).isEmpty)).bind _ = _
      rw [StrLaws.found_one]
      rfl)
def numB (w : Str) : Bool := if (w.length == 0 || decide (12 < w.length)) = true then false else inB "0123456789" w && (w == "0" || !((⟨#[(tl w).headD 0]⟩ : Str) == "0"))
theorem sx_head {w : Str} (h : 0 < w.length) (h2 : w.length ≤ 10000) : dIx (.str w) (.int 0) = some (.str ⟨#[(tl w).headD 0]⟩) := by
  show (if w.length ≤ sizeLine then (atI w.cps.toList 0).bind fun c => some (Dat.str ⟨#[c]⟩) else none) = _
  rw [if_pos (Nat.le_trans h2 (by decide))]
  have hl : 0 < w.cps.toList.length := by rw [Array.length_toList]; exact h
  cases e : w.cps.toList with
  | nil => rw [e] at hl; simp at hl
  | cons c r =>
    rw [atI_of (d := c) (by omega) rfl]
    show some (Dat.str ⟨#[c]⟩) = some (Dat.str ⟨#[(w.cps.toList).headD 0]⟩)
    rw [e]
    rfl
theorem is_number_ok (w : Str) (h : w.length ≤ 10000) : f_is_number [.str w] = some (.bl (numB w)) := by
  obtain ⟨d, h1, rfl⟩ : ∃ d, f_is_number [.str w] = some d ∧ d = .bl (numB w) := by
    have e1 : (((w.length : Nat) : Int) == 0) = (w.length == 0) := by rw [Bool.eq_iff_iff, beq_iff_eq, beq_iff_eq]; omega
    have e2 : decide ((12 : Int) < ((w.length : Nat) : Int)) = decide (12 < w.length) := by rw [Bool.eq_iff_iff, decide_eq_true_iff, decide_eq_true_iff]; omega
    refine fn_W (w_ifr (b := w.length == 0 || decide (12 < w.length)) (d := .bl false) (tv_or (tv_1 (ev_2 (ev_B (ev_aC (ev_V rfl) ev_aN) (len_s h)) ev_C (dEq_int.trans (by rw [e1])))) (tv_1 (ev_2 (ev_B (ev_aC (ev_V rfl) ev_aN) (len_s h)) ev_C (dGt_int.trans (by rw [e2]))))) (fun _ => ev_C) (fun hb => ⟨_, rfl, ?_⟩) fun hb => ?_)
    · unfold numB
      rw [if_pos hb]
    · have hl : 0 < w.length := by
        rw [Bool.or_eq_false_iff, beq_eq_false_iff_ne] at hb
        omega
      refine w_ret (d := .bl (numB w)) ?_ ⟨_, rfl, rfl⟩
      unfold numB
      rw [if_neg (by rw [hb]; exact Bool.false_ne_true)]
      exact ev_and (ev_call (ev_aC (ev_V rfl) (ev_aC ev_C ev_aN)) rfl (made_of_ok w _ h)) fun _ => ev_or (ev_2 (ev_V rfl) ev_C dEq_str) fun _ => ev_2 (ev_2 (ev_V rfl) ev_C (sx_head hl h)) ev_C dNe_str
  exact h1
def namB (w : Str) : Bool := decide (0 < w.length) && (decide (w.length ≤ 8) && inB "abcdefghijklmnopqrstuvwxyz" w)
theorem is_name_ok (w : Str) (h : w.length ≤ 10000) : f_is_name [.str w] = some (.bl (namB w)) := by
  have e1 : decide ((0 : Int) < ((w.length : Nat) : Int)) = decide (0 < w.length) := by rw [Bool.eq_iff_iff, decide_eq_true_iff, decide_eq_true_iff]; omega
  have e2 : decide (((w.length : Nat) : Int) ≤ 8) = decide (w.length ≤ 8) := by rw [Bool.eq_iff_iff, decide_eq_true_iff, decide_eq_true_iff]; omega
  exact fn_ret (ev_and (ev_2 (ev_B (ev_aC (ev_V rfl) ev_aN) (len_s h)) ev_C (dGt_int.trans (by rw [e1]))) fun _ => ev_and (ev_2 (ev_B (ev_aC (ev_V rfl) ev_aN) (len_s h)) ev_C (dLe_int.trans (by rw [e2]))) fun _ => ev_call (ev_aC (ev_V rfl) (ev_aC ev_C ev_aN)) rfl (made_of_ok w _ h))
def fitsB (w p : Str) : Bool := if (p == "NUMBER") = true then numB w else if (p == "NAME") = true then namB w else w == p
theorem fits_ok (w p : Str) (h : w.length ≤ 10000) : f_fits [.str w, .str p] = some (.bl (fitsB w p)) := by
  obtain ⟨d, h1, rfl⟩ : ∃ d, f_fits [.str w, .str p] = some d ∧ d = .bl (fitsB w p) := by
    refine fn_W (w_ifr (b := p == "NUMBER") (d := .bl (numB w)) (tv_1 (ev_2 (ev_V rfl) ev_C dEq_str)) (fun _ => ev_call (ev_aC (ev_V rfl) ev_aN) rfl (is_number_ok w h)) (fun hb => ⟨_, rfl, ?_⟩) fun hb => ?_)
    · unfold fitsB
      rw [if_pos hb]
    · refine w_ifr (b := p == "NAME") (d := .bl (namB w)) (tv_1 (ev_2 (ev_V rfl) ev_C dEq_str)) (fun _ => ev_call (ev_aC (ev_V rfl) ev_aN) rfl (is_name_ok w h)) (fun hb2 => ⟨_, rfl, ?_⟩) fun hb2 => ?_
      · unfold fitsB
        rw [if_neg (by rw [hb]; exact Bool.false_ne_true), if_pos hb2]
      · refine w_ret (d := .bl (w == p)) (ev_2 (ev_V rfl) (ev_V rfl) dEq_str) ⟨_, rfl, ?_⟩
        unfold fitsB
        rw [if_neg (by rw [hb]; exact Bool.false_ne_true), if_neg (by rw [hb2]; exact Bool.false_ne_true)]
  exact h1
end MB
namespace MB
open PySem PySem.Spec PyProof.Rows L2
def numV (w : Str) : Int := ((NumText.digitsVal (tl w) : Nat) : Int)
theorem digs_tl : tl "0123456789" = [48, 49, 50, 51, 52, 53, 54, 55, 56, 57] := by decide +kernel
theorem inB_digs {w : Str} (h : inB "0123456789" w = true) : NumText.AllDigits (tl w) := fun c hc => by
  have h1 := of_decide_eq_true (List.all_eq_true.mp h c hc)
  rw [digs_tl] at h1
  simp only [List.mem_cons, List.not_mem_nil, or_false] at h1
  omega
theorem numB_len {w : Str} (h : numB w = true) : 0 < w.length ∧ w.length ≤ 12 := by
  unfold numB at h
  split at h
  · cases h
  · rename_i c
    rw [Bool.not_eq_true, Bool.or_eq_false_iff, beq_eq_false_iff_ne, decide_eq_false_iff_not] at c
    omega
theorem int_num {w : Str} (h : numB w = true) : dIntB [.str w] = some (.int (numV w)) := by
  have hl := numB_len h
  have hd : NumText.AllDigits (tl w) := by
    unfold numB at h
    split at h
    · cases h
    · exact inB_digs (Bool.and_eq_true_iff.mp h).1
  have e : PySem.intText? w = some (numV w) := PySem.intText_digits hd (fun e => by
    have : w.cps.toList.length = 0 := by rw [e]; rfl
    rw [Array.length_toList] at this
    have : w.length = 0 := this
    omega) (by omega)
  show (match PySem.intText? w with | some n => if w.length ≤ 640 then some (Dat.int n) else none | none => none) = _
  rw [e]
  exact if_pos (by omega)
def oneD (w p : Str) : List Dat := if (p == "NUMBER") = true then [.int (numV w)] else if (p == "NAME") = true then [.str w] else []
def valsB : List Str → List Str → Option (List Dat)
  | w :: ws, p :: ps => if fitsB w p = true then (valsB ws ps).map fun r => oneD w p ++ r else none
  | _, _ => some []
theorem oneD_len (w p : Str) : (oneD w p).length ≤ 1 := by
  unfold oneD
  split
  · simp
  · split <;> simp
theorem valsB_len : ∀ {ws ps : List Str} {vs : List Dat}, valsB ws ps = some vs → vs.length ≤ ws.length
  | [], [], vs, h => by cases h; simp
  | [], _ :: _, vs, h => by cases h; simp
  | _ :: _, [], vs, h => by cases h; simp
  | w :: ws, p :: ps, vs, h => by
    unfold valsB at h
    split at h
    · cases e : valsB ws ps with
      | none => rw [e] at h; cases h
      | some r =>
        rw [e] at h
        cases h
        have h1 := valsB_len e
        have h2 := oneD_len w p
        rw [List.length_append, List.length_cons]
        omega
    · cases h
def vB : FS := (sSeq (sIf (bNot (b1 (eCall 2 f_fits (aC (eV 5) (aC (eV 6) aN))))) (sRet (eC .non)) sNil)
      (sIf (b1 (e2 dEq (eV 6) (eC (.str "NUMBER")))) (sApp 4 (eB dIntB (aC (eV 5) aN))) (sIf (b1 (e2 dEq (eV 6) (eC (.str "NAME")))) (sApp 4 (eV 5)) sNil)))
def vG : FG := gT 2 (gsC (gN 5) (gsC (gN 6) gsN))
theorem vstep {a b c d : Slot} {acc : List Dat} {w p : Str} (hw : w.length ≤ 10000) (ha : acc.length < 1000) :
    vB [a, b, c, d, .o (.lst acc), .o (.val (.str w)), .o (.val (.str p))] = if fitsB w p = true then some (.nx [a, b, c, d, .o (.lst (acc ++ oneD w p)), .o (.val (.str w)), .o (.val (.str p))]) else some (.rt .non) := by
  have ht : bNot (b1 (eCall 2 f_fits (aC (eV 5) (aC (eV 6) aN)))) [a, b, c, d, .o (.lst acc), .o (.val (.str w)), .o (.val (.str p))] = some (!fitsB w p) := tv_not (tv_1 (ev_call (ev_aC (ev_V rfl) (ev_aC (ev_V rfl) ev_aN)) rfl (fits_ok w p hw)))
  have hq : b1 (e2 dEq (eV 6) (eC (.str "NUMBER"))) [a, b, c, d, .o (.lst acc), .o (.val (.str w)), .o (.val (.str p))] = some (p == "NUMBER") := tv_1 (ev_2 (ev_V rfl) ev_C dEq_str)
  have hn : b1 (e2 dEq (eV 6) (eC (.str "NAME"))) [a, b, c, d, .o (.lst acc), .o (.val (.str w)), .o (.val (.str p))] = some (p == "NAME") := tv_1 (ev_2 (ev_V rfl) ev_C dEq_str)
  have hal : acc.length < 16777216 := by omega
  unfold vB
  show sSeq _ _ _ = _
  unfold sSeq
  cases hf : fitsB w p with
  | false =>
    rw [hf] at ht
    have e : sIf (bNot (b1 (eCall 2 f_fits (aC (eV 5) (aC (eV 6) aN))))) (sRet (eC .non)) sNil [a, b, c, d, .o (.lst acc), .o (.val (.str w)), .o (.val (.str p))] = some (.rt .non) := by
      unfold sIf
      rw [ht]
      rfl
    rw [e, if_neg Bool.false_ne_true]
  | true =>
    rw [hf] at ht
    have e : sIf (bNot (b1 (eCall 2 f_fits (aC (eV 5) (aC (eV 6) aN))))) (sRet (eC .non)) sNil [a, b, c, d, .o (.lst acc), .o (.val (.str w)), .o (.val (.str p))] = some (.nx [a, b, c, d, .o (.lst acc), .o (.val (.str w)), .o (.val (.str p))]) := by
      unfold sIf
      rw [ht]
      rfl
    rw [e, if_pos rfl]
    simp only
    unfold sIf
    rw [hq]
    simp only [Option.bind_some]
    unfold oneD
    split
    · rename_i hp
      rw [show ((.o (.lst acc) : Slot)) = .o (.lst acc) from rfl]
      have hnum : numB w = true := by
        unfold fitsB at hf
        rw [if_pos hp] at hf
        exact hf
      exact st_app (xs := acc) (d := .int (numV w)) rfl (ev_B (ev_aC (ev_V rfl) ev_aN) (int_num hnum)) hal
    · rw [hn]
      simp only [Option.bind_some]
      split
      · exact st_app (xs := acc) (d := .str w) rfl (ev_V rfl) hal
      · rw [List.append_nil]
        rfl
theorem vloop {a b c d : Slot} : ∀ (ws ps : List Str) (acc : List Dat) (s5 s6 : Slot), (∀ w ∈ ws, w.length ≤ 10000) → acc.length + ws.length ≤ 1000 →
    (valsB ws ps = none → forD vG vB (zipD (ws.map .str) (ps.map .str)) [a, b, c, d, .o (.lst acc), s5, s6] = some (.rt .non)) ∧
    ∀ vs, valsB ws ps = some vs → ∃ t5 t6, forD vG vB (zipD (ws.map .str) (ps.map .str)) [a, b, c, d, .o (.lst acc), s5, s6] = some (.nx [a, b, c, d, .o (.lst (acc ++ vs)), t5, t6])
  | [], ps, acc, s5, s6, _, _ => by
    refine ⟨fun h => (by cases ps <;> cases h), fun vs h => ⟨s5, s6, ?_⟩⟩
    have : vs = [] := by cases ps <;> (cases h; rfl)
    rw [this, List.append_nil]
    rfl
  | w :: ws, [], acc, s5, s6, _, _ => by
    refine ⟨fun h => (by cases h), fun vs h => ⟨s5, s6, ?_⟩⟩
    cases h
    rw [List.append_nil]
    rfl
  | w :: ws, p :: ps, acc, s5, s6, hw, hl => by
    have e : forD vG vB (zipD ((w :: ws).map .str) ((p :: ps).map .str)) [a, b, c, d, .o (.lst acc), s5, s6] = (match vB [a, b, c, d, .o (.lst acc), .o (.val (.str w)), .o (.val (.str p))] with
      | some (.nx δ2) => forD vG vB (zipD (ws.map .str) (ps.map .str)) δ2
      | some (.ct δ2) => forD vG vB (zipD (ws.map .str) (ps.map .str)) δ2
      | some (.bk δ2) => some (.nx δ2)
      | some (.rt v) => some (.rt v)
      | some (.ro v) => some (.ro v)
      | none => none) := rfl
    rw [List.length_cons] at hl
    rw [e, vstep (hw w (by simp)) (by omega)]
    have h2 := oneD_len w p
    obtain ⟨i1, i2⟩ := vloop ws ps (acc ++ oneD w p) (.o (.val (.str w))) (.o (.val (.str p))) (fun v hv => hw v (List.mem_cons_of_mem _ hv)) (by rw [List.length_append]; omega)
    unfold valsB
    cases hf : fitsB w p with
    | false => exact ⟨fun _ => (by rw [if_neg Bool.false_ne_true]), fun vs h => (by rw [if_neg Bool.false_ne_true] at h; cases h)⟩
    | true =>
      rw [if_pos rfl, if_pos rfl]
      cases hv : valsB ws ps with
      | none => exact ⟨fun _ => i1 hv, fun vs h => (by cases h)⟩
      | some r =>
        refine ⟨fun h => (by cases h), fun vs h => ?_⟩
        cases h
        obtain ⟨t5, t6, q⟩ := i2 r hv
        exact ⟨t5, t6, by rw [← List.append_assoc]; exact q⟩
def valsD (ws ps : List Str) : Dat := if ws.length = ps.length then (match valsB ws ps with | none => .non | some vs => .lst vs) else .non
theorem splitD {z : Str} {ws : List Str} {c : Str} (hs : Txt.split z c = ws) (hc : c.length = 1) (hz : z.length ≤ 1000000) : gSplit z [.str c] = some (.lst (ws.map .str)) := by
  show (if (c.length == 0) = false ∧ z.length + 2 ≤ sizeLine then some (Dat.lst ((Txt.split z c).map .str)) else none) = _
  rw [hs]
  exact if_pos ⟨by rw [hc]; rfl, by rw [sizeLine_eq]; omega⟩
theorem ev_M {g : Str → List Dat → Option Dat} {fo : FE} {fl : FA} {δ : Sto} {z : Str} {ds : List Dat} {d : Dat} (h : fo δ = some (.str z)) (h2 : fl δ = some ds) (hg : g z ds = some d) : eM g fo fl δ = some d := by
  unfold eM
  rw [h, h2]
  exact hg
theorem values_ok {row form : Str} {ws ps : List Str} (hs : Txt.split row " " = ws) (hp : Txt.split form " " = ps) (hr : row.length ≤ 1000000) (hf : form.length ≤ 1000000) (hw : ∀ w ∈ ws, w.length ≤ 10000) (hl : ws.length ≤ 900) :
    f_values_of [.str row, .str form] = some (valsD ws ps) := by
  obtain ⟨d, h1, rfl⟩ : ∃ d, f_values_of [.str row, .str form] = some d ∧ d = valsD ws ps := by
    have e1 : (!(((ws.map Dat.str).length : Nat) : Int) == ((((ps.map Dat.str).length : Nat)) : Int)) = decide (ws.length ≠ ps.length) := by
      rw [List.length_map, List.length_map, Bool.eq_iff_iff, decide_eq_true_iff, Bool.not_eq_true', beq_eq_false_iff_ne]
      omega
    refine fn_W (w_seq (st_asg (d := .lst (ws.map .str)) (ev_M (ev_V rfl) (ev_aC ev_C ev_aN) (splitD hs len_sp hr))) (w_seq (st_asg (d := .lst (ps.map .str)) (ev_M (ev_V rfl) (ev_aC ev_C ev_aN) (splitD hp len_sp hf))) ?_))
    refine w_ifr (b := decide (ws.length ≠ ps.length)) (d := .non) (tv_1 ((ev_2 (ev_B (ev_aC (ev_V rfl) ev_aN) len_l) (ev_B (ev_aC (ev_V rfl) ev_aN) len_l) dNe_int).trans (by rw [e1]))) (fun _ => ev_C) (fun hb => ⟨_, rfl, ?_⟩) fun hb => ?_
    · unfold valsD
      rw [if_neg (of_decide_eq_true hb)]
    · have hb : ws.length = ps.length := by
        have := of_decide_eq_false hb
        omega
      refine w_seq st_newL ?_
      obtain ⟨v1, v2⟩ := vloop (a := .o (.val (.str row))) (b := .o (.val (.str form))) (c := .o (.val (.lst (ws.map .str)))) (d := .o (.val (.lst (ps.map .str)))) ws ps [] .no .no hw (by simp; omega)
      unfold valsD
      rw [if_pos hb]
      cases hv : valsB ws ps with
      | none =>
        refine ⟨.rt .non, ?_, _, rfl, rfl⟩
        have q := v1 hv
        unfold sSeq sFor
        show (match (forD vG vB (zipD (ws.map .str) (ps.map .str)) [.o (.val (.str row)), .o (.val (.str form)), .o (.val (.lst (ws.map .str))), .o (.val (.lst (ps.map .str))), .o (.lst []), .no, .no]) with | some (.nx δ') => _ | r => r) = _
        rw [q]
      | some vs =>
        obtain ⟨t5, t6, q⟩ := v2 vs hv
        refine w_seq (δ' := [.o (.val (.str row)), .o (.val (.str form)), .o (.val (.lst (ws.map .str))), .o (.val (.lst (ps.map .str))), .o (.lst vs), t5, t6]) ?_ (w_retN rfl ⟨_, rfl, rfl⟩)
        exact q
  exact h1
end MB
namespace MB
open PySem PySem.Spec PyProof.Rows L2
def valsP (ws ps : List Str) : Option (List Dat) := if ws.length = ps.length then valsB ws ps else none
theorem valsD_eq (ws ps : List Str) : valsD ws ps = match valsP ws ps with | none => .non | some vs => .lst vs := by
  unfold valsD valsP
  split
  · rfl
  · rfl
def dB : FS := (sSeq (sAsg 2 (eCall 2 f_values_of (aC (eV 0) (aC (eV 1) aN))))
      (sIf (b1 (e1 dNotN (eV 2))) (sRet (eB dTupleB (aC (e2 dAdd (eL (aC (e2 dIx (eM gSplit (eV 1) (aC (eC (.str " ")) aN)) (eC (.int 1))) aN)) (eV 2)) aN))) sNil))
structure Form where
  text : Str
  verb : Str
  rest : List Str
def Form.parts (f : Form) : List Str := "NUMBER" :: f.verb :: f.rest
def Form.Ok (f : Form) : Prop := f.text = Str.join " " f.parts ∧ ∀ p ∈ f.parts, 32 ∉ tl p
theorem Form.Ok.split {f : Form} (h : f.Ok) : Txt.split f.text " " = f.parts := by
  rw [h.1, sp_eq]
  exact split_join (by unfold Form.parts; simp) h.2
def fTell : Form := ⟨"NUMBER tell NAME NUMBER NUMBER", "tell", ["NAME", "NUMBER", "NUMBER"]⟩
def fChange : Form := ⟨"NUMBER change NAME NUMBER NUMBER NUMBER NUMBER", "change", ["NAME", "NUMBER", "NUMBER", "NUMBER", "NUMBER"]⟩
def fWrong : Form := ⟨"NUMBER wrong NAME NUMBER", "wrong", ["NAME", "NUMBER"]⟩
def fBill : Form := ⟨"NUMBER bill", "bill", []⟩
def forms : List Form := [fTell, fChange, fWrong, fBill]
instance (f : Form) : Decidable f.Ok := by unfold Form.Ok; exact inferInstance
theorem forms_ok : ∀ f ∈ forms, f.Ok ∧ f.text.length ≤ 1000 := by
  intro f hf
  simp only [forms, List.mem_cons, List.not_mem_nil, or_false] at hf
  rcases hf with rfl | rfl | rfl | rfl <;> exact ⟨by decide +kernel, by decide +kernel⟩
theorem dstep {row : Str} {ws : List Str} {f : Form} {s2 : Slot} (hs : Txt.split row " " = ws) (hr : row.length ≤ 1000000) (hw : ∀ w ∈ ws, w.length ≤ 10000) (hl : ws.length ≤ 900) (hf : f.Ok) (hfl : f.text.length ≤ 1000) :
    dB [.o (.val (.str row)), .o (.val (.str f.text)), s2] = match valsP ws f.parts with
      | none => some (.nx [.o (.val (.str row)), .o (.val (.str f.text)), .o (.val .non)])
      | some vs => some (.rt (.tup (.str f.verb :: vs))) := by
  have hv := values_ok hs hf.split hr (by omega : f.text.length ≤ 1000000) hw hl
  rw [valsD_eq] at hv
  unfold dB sSeq
  cases e : valsP ws f.parts with
  | none =>
    rw [e] at hv
    have ha : sAsg 2 (eCall 2 f_values_of (aC (eV 0) (aC (eV 1) aN))) [.o (.val (.str row)), .o (.val (.str f.text)), s2] = some (.nx [.o (.val (.str row)), .o (.val (.str f.text)), .o (.val .non)]) := st_asg (d := .non) (ev_call (ev_aC (ev_V rfl) (ev_aC (ev_V rfl) ev_aN)) rfl hv)
    rw [ha]
    rfl
  | some vs =>
    rw [e] at hv
    have ha : sAsg 2 (eCall 2 f_values_of (aC (eV 0) (aC (eV 1) aN))) [.o (.val (.str row)), .o (.val (.str f.text)), s2] = some (.nx [.o (.val (.str row)), .o (.val (.str f.text)), .o (.val (.lst vs))]) := st_asg (d := .lst vs) (ev_call (ev_aC (ev_V rfl) (ev_aC (ev_V rfl) ev_aN)) rfl hv)
    rw [ha]
    have hvl : vs.length ≤ 900 := by
      unfold valsP at e
      split at e
      · have := valsB_len e
        omega
      · cases e
    have h1 : (e2 dIx (eM gSplit (eV 1) (aC (eC (.str " ")) aN)) (eC (.int 1))) [.o (.val (.str row)), .o (.val (.str f.text)), .o (.val (.lst vs))] = some (.str f.verb) :=
      ev_2 (ev_M (ev_V rfl) (ev_aC ev_C ev_aN) (splitD hf.split len_sp (by omega))) ev_C (ix_l (by omega) rfl)
    have e3 : eB dTupleB (aC (e2 dAdd (eL (aC (e2 dIx (eM gSplit (eV 1) (aC (eC (.str " ")) aN)) (eC (.int 1))) aN)) (eV 2)) aN) [.o (.val (.str row)), .o (.val (.str f.text)), .o (.val (.lst vs))] = some (.tup (.str f.verb :: vs)) := by
      refine ev_B (xs := [.lst (.str f.verb :: vs)]) (ev_aC (ev_2 (x := .lst [.str f.verb]) (y := .lst vs) (ev_L (ev_aC h1 ev_aN) rfl) (ev_V rfl) ?_) ev_aN) ?_
      · exact if_pos (by rw [sizeLine_eq]; simp; omega)
      · exact if_pos (by rw [sizeLine_eq]; simp; omega)
    show sIf _ _ _ [.o (.val (.str row)), .o (.val (.str f.text)), .o (.val (.lst vs))] = _
    unfold sIf sRet
    rw [show b1 (e1 dNotN (eV 2)) [.o (.val (.str row)), .o (.val (.str f.text)), .o (.val (.lst vs))] = some true from rfl]
    simp only [Option.bind_some, if_true]
    rw [e3]
    rfl
def deedW (ws : List Str) : List Form → Option (List Dat)
  | [] => none
  | f :: r => match valsP ws f.parts with | some vs => some (.str f.verb :: vs) | none => deedW ws r
theorem dloop {row : Str} {ws : List Str} (hs : Txt.split row " " = ws) (hr : row.length ≤ 1000000) (hw : ∀ w ∈ ws, w.length ≤ 10000) (hl : ws.length ≤ 900) : ∀ (fs : List Form) (s1 s2 : Slot), (∀ f ∈ fs, f.Ok ∧ f.text.length ≤ 1000) →
    match deedW ws fs with
    | none => ∃ t1 t2, forD (gN 1) dB (fs.map fun f => Dat.str f.text) [.o (.val (.str row)), s1, s2] = some (.nx [.o (.val (.str row)), t1, t2])
    | some l => forD (gN 1) dB (fs.map fun f => Dat.str f.text) [.o (.val (.str row)), s1, s2] = some (.rt (.tup l))
  | [], s1, s2, _ => ⟨s1, s2, rfl⟩
  | f :: fs, s1, s2, hf => by
    have e : forD (gN 1) dB ((f :: fs).map fun f => Dat.str f.text) [.o (.val (.str row)), s1, s2] = (match dB [.o (.val (.str row)), .o (.val (.str f.text)), s2] with
      | some (.nx δ2) => forD (gN 1) dB (fs.map fun f => Dat.str f.text) δ2
      | some (.ct δ2) => forD (gN 1) dB (fs.map fun f => Dat.str f.text) δ2
      | some (.bk δ2) => some (.nx δ2)
      | some (.rt v) => some (.rt v)
      | some (.ro v) => some (.ro v)
      | none => none) := rfl
    obtain ⟨f1, f2⟩ := hf f (by simp)
    rw [e, dstep hs hr hw hl f1 f2]
    unfold deedW
    cases hv : valsP ws f.parts with
    | some vs => rfl
    | none => exact dloop hs hr hw hl fs (.o (.val (.str f.text))) (.o (.val .non)) fun g hg => hf g (List.mem_cons_of_mem _ hg)
theorem deed_ok {row : Str} {ws : List Str} (hs : Txt.split row " " = ws) (hr : row.length ≤ 1000000) (hw : ∀ w ∈ ws, w.length ≤ 10000) (hl : ws.length ≤ 900) :
    f_deed_of [.str row] = some (match deedW ws forms with | none => .non | some l => .tup l) := by
  have h := dloop hs hr hw hl forms .no .no forms_ok
  cases e : deedW ws forms with
  | none =>
    rw [e] at h
    obtain ⟨t1, t2, q⟩ := h
    have q : forD (gN 1) dB ([("NUMBER tell NAME NUMBER NUMBER" : Str), ("NUMBER change NAME NUMBER NUMBER NUMBER NUMBER" : Str), ("NUMBER wrong NAME NUMBER" : Str), ("NUMBER bill" : Str)].map Dat.str) (ini 2 [.str row]) = _ := q
    unfold f_deed_of defF
    show endD (sSeq (sFor (fun _ => some _) (gN 1) dB) (sRet (eC .non)) _) = _
    unfold sSeq sFor
    simp only [Option.bind_some]
    rw [q]
    rfl
  | some l =>
    rw [e] at h
    have q : forD (gN 1) dB ([("NUMBER tell NAME NUMBER NUMBER" : Str), ("NUMBER change NAME NUMBER NUMBER NUMBER NUMBER" : Str), ("NUMBER wrong NAME NUMBER" : Str), ("NUMBER bill" : Str)].map Dat.str) (ini 2 [.str row]) = _ := h
    unfold f_deed_of defF
    show endD (sSeq (sFor (fun _ => some _) (gN 1) dB) (sRet (eC .non)) _) = _
    unfold sSeq sFor
    simp only [Option.bind_some]
    rw [q]
    rfl
end MB
namespace MB
open PySem PySem.Spec PyProof.Rows L2
def en (k : Nat) (xs : List Dat) : List Dat := (xs.zipIdx k).map fun q => Dat.tup [.int ((q.2 + 1 : Nat) : Int), q.1]
theorem en_cons (k : Nat) (x : Dat) (xs : List Dat) : en k (x :: xs) = Dat.tup [.int ((k + 1 : Nat) : Int), x] :: en (k + 1) xs := rfl
def lG : FG := gT 2 (gsC (gN 2) (gsC (gN 3) gsN))
def lB (r0 : Option Int) : FS := (sSeq (sAsg 4 (eCall 1 f_deed_of (aC (eV 3) aN)))
      (sSeq (sIf (bOr (b1 (e1 dIsN (eV 4))) (b1 (e2 dGt (eV 2) (eC (.int 60))))) (sBad r0 (eV 2)) sNil)
      (sApp 1 (eV 4))))
theorem lstep {r0 : Option Int} {s0 s4 : Slot} {acc : List Dat} {k : Nat} {row : Str} {l : List Dat} (hd : f_deed_of [.str row] = some (.tup l)) (hk : k < 60) (ha : acc.length < 1000) :
    lB r0 [s0, .o (.lst acc), .o (.val (.int ((k + 1 : Nat) : Int))), .o (.val (.str row)), s4] = some (.nx [s0, .o (.lst (acc ++ [.tup l])), .o (.val (.int ((k + 1 : Nat) : Int))), .o (.val (.str row)), .o (.val (.tup l))]) := by
  have h1 : sAsg 4 (eCall 1 f_deed_of (aC (eV 3) aN)) [s0, .o (.lst acc), .o (.val (.int ((k + 1 : Nat) : Int))), .o (.val (.str row)), s4] = some (.nx [s0, .o (.lst acc), .o (.val (.int ((k + 1 : Nat) : Int))), .o (.val (.str row)), .o (.val (.tup l))]) := st_asg (d := .tup l) (ev_call (ev_aC (ev_V rfl) ev_aN) rfl hd)
  have h2 : bOr (b1 (e1 dIsN (eV 4))) (b1 (e2 dGt (eV 2) (eC (.int 60)))) [s0, .o (.lst acc), .o (.val (.int ((k + 1 : Nat) : Int))), .o (.val (.str row)), .o (.val (.tup l))] = some false :=
    tv_or_f (tv_1 rfl) (tv_1 ((ev_2 (ev_V rfl) ev_C dGt_int).trans (by rw [decide_eq_false (by omega)])))
  have h3 : sIf (bOr (b1 (e1 dIsN (eV 4))) (b1 (e2 dGt (eV 2) (eC (.int 60))))) (sBad r0 (eV 2)) sNil [s0, .o (.lst acc), .o (.val (.int ((k + 1 : Nat) : Int))), .o (.val (.str row)), .o (.val (.tup l))] = some (.nx [s0, .o (.lst acc), .o (.val (.int ((k + 1 : Nat) : Int))), .o (.val (.str row)), .o (.val (.tup l))]) := by
    unfold sIf
    rw [h2]
    rfl
  unfold lB sSeq
  rw [h1]
  simp only
  rw [h3]
  simp only
  exact st_app (xs := acc) (d := .tup l) rfl (ev_V rfl) (by omega)
theorem lbad {r0 : Option Int} {s0 s4 : Slot} {acc : List Dat} {k : Nat} {row : Str} {o : Option (List Dat)} (hd : f_deed_of [.str row] = some (match o with | none => .non | some l => .tup l)) (hk : o = none ∨ 60 ≤ k) :
    lB r0 [s0, .o (.lst acc), .o (.val (.int ((k + 1 : Nat) : Int))), .o (.val (.str row)), s4] = (match r0 with | none => none | some r => if ((k + 1 : Nat) : Int) = r then some (.rt (.bad r)) else none) := by
  obtain ⟨d, ed, hdn⟩ : ∃ d, f_deed_of [.str row] = some d ∧ dIsN d = some (.bl (o.isNone)) := by
    refine ⟨_, hd, ?_⟩
    cases o <;> rfl
  have h1 : sAsg 4 (eCall 1 f_deed_of (aC (eV 3) aN)) [s0, .o (.lst acc), .o (.val (.int ((k + 1 : Nat) : Int))), .o (.val (.str row)), s4] = some (.nx [s0, .o (.lst acc), .o (.val (.int ((k + 1 : Nat) : Int))), .o (.val (.str row)), .o (.val d)]) := st_asg (d := d) (ev_call (ev_aC (ev_V rfl) ev_aN) rfl ed)
  have h2 : bOr (b1 (e1 dIsN (eV 4))) (b1 (e2 dGt (eV 2) (eC (.int 60)))) [s0, .o (.lst acc), .o (.val (.int ((k + 1 : Nat) : Int))), .o (.val (.str row)), .o (.val d)] = some true := by
    rw [tv_or (b := o.isNone) (b' := decide ((60 : Int) < ((k + 1 : Nat) : Int))) (tv_1 (ev_1 (ev_V rfl) hdn)) (tv_1 (ev_2 (ev_V rfl) ev_C dGt_int))]
    rcases hk with rfl | hk
    · rfl
    · rw [decide_eq_true (by omega), Bool.or_true]
  have h3 : sIf (bOr (b1 (e1 dIsN (eV 4))) (b1 (e2 dGt (eV 2) (eC (.int 60))))) (sBad r0 (eV 2)) sNil [s0, .o (.lst acc), .o (.val (.int ((k + 1 : Nat) : Int))), .o (.val (.str row)), .o (.val d)] = (match r0 with | none => none | some r => if ((k + 1 : Nat) : Int) = r then some (.rt (.bad r)) else none) := by
    unfold sIf
    rw [h2]
    cases r0 <;> rfl
  unfold lB sSeq
  rw [h1]
  simp only
  rw [h3]
  cases r0 with
  | none => rfl
  | some r =>
    by_cases c : ((k + 1 : Nat) : Int) = r
    · simp only [if_pos c]
    · simp only [if_neg c]
def dT' (g : Str → List Dat) (r : Str) : Dat := .tup (g r)
theorem lloop {r0 : Option Int} {s0 : Slot} {g : Str → List Dat} {tail : List Dat} : ∀ (rs : List Str) (k : Nat) (acc : List Dat) (s2 s3 s4 : Slot), (∀ r ∈ rs, f_deed_of [.str r] = some (.tup (g r))) → k + rs.length ≤ 60 → acc.length + rs.length ≤ 900 →
    ∃ t2 t3 t4, forD lG (lB r0) (en k (rs.map .str ++ tail)) [s0, .o (.lst acc), s2, s3, s4] = forD lG (lB r0) (en (k + rs.length) tail) [s0, .o (.lst (acc ++ rs.map (dT' g))), t2, t3, t4]
  | [], k, acc, s2, s3, s4, _, _, _ => ⟨s2, s3, s4, by simp⟩
  | r :: rs, k, acc, s2, s3, s4, hd, hk, ha => by
    rw [List.length_cons] at hk ha
    obtain ⟨t2, t3, t4, q⟩ := lloop (r0 := r0) (s0 := s0) (g := g) (tail := tail) rs (k + 1) (acc ++ [.tup (g r)]) (.o (.val (.int ((k + 1 : Nat) : Int)))) (.o (.val (.str r))) (.o (.val (.tup (g r)))) (fun x hx => hd x (List.mem_cons_of_mem _ hx)) (by omega) (by rw [List.length_append]; simp; omega)
    refine ⟨t2, t3, t4, ?_⟩
    have e : forD lG (lB r0) (en k ((r :: rs).map .str ++ tail)) [s0, .o (.lst acc), s2, s3, s4] = (match lB r0 [s0, .o (.lst acc), .o (.val (.int ((k + 1 : Nat) : Int))), .o (.val (.str r)), s4] with
      | some (.nx δ2) => forD lG (lB r0) (en (k + 1) (rs.map .str ++ tail)) δ2
      | some (.ct δ2) => forD lG (lB r0) (en (k + 1) (rs.map .str ++ tail)) δ2
      | some (.bk δ2) => some (.nx δ2)
      | some (.rt v) => some (.rt v)
      | some (.ro v) => some (.ro v)
      | none => none) := rfl
    rw [e, lstep (hd r (by simp)) (by omega) (by omega)]
    simp only
    rw [q, List.append_assoc, show k + 1 + rs.length = k + (r :: rs).length by rw [List.length_cons]; omega]
    rfl
theorem lead {r0 : Option Int} {t : Str} {rs : List Str} {o : Out} (hs : Txt.split t "\n" = rs) (ht : t ≠ "") (hl : t.length ≤ 1000000) (h : sSeq (fun δ => forD lG (lB r0) (en 0 (rs.map .str)) δ) (sRetN 1) [.o (.val (.str t)), .o (.lst []), .no, .no, .no] = some o) : b_log_from r0 (ini 4 [.str t]) = some o := by
  have h1 : sIf (b1 (e2 dEq (eV 0) (eC (.str "")))) sRetE sNil (ini 4 [.str t]) = some (.nx (ini 4 [.str t])) := by
    unfold sIf
    rw [tv_1 (b := t == "") (ev_2 (ev_V rfl) ev_C dEq_str), beq_eq_false_iff_ne.mpr ht]
    rfl
  unfold b_log_from
  unfold sSeq
  rw [h1]
  simp only
  rw [show sNewL 1 (ini 4 [.str t]) = some (.nx [.o (.val (.str t)), .o (.lst []), .no, .no, .no]) from rfl]
  simp only
  have h2 : sFor (iEnum1 (eM gSplit (eV 0) (aC (eC (.str "\n")) aN))) (gT 2 (gsC (gN 2) (gsC (gN 3) gsN))) (lB r0) [.o (.val (.str t)), .o (.lst []), .no, .no, .no] = forD lG (lB r0) (en 0 (rs.map .str)) [.o (.val (.str t)), .o (.lst []), .no, .no, .no] := by
    have e : eM gSplit (eV 0) (aC (eC (.str "\n")) aN) [.o (.val (.str t)), .o (.lst []), .no, .no, .no] = some (.lst (rs.map .str)) := ev_M (ev_V rfl) (ev_aC ev_C ev_aN) (splitD hs len_nl hl)
    unfold sFor iEnum1
    rw [e]
    rfl
  unfold sSeq at h
  rw [← h]
  show (match sFor (iEnum1 (eM gSplit (eV 0) (aC (eC (.str "\n")) aN))) (gT 2 (gsC (gN 2) (gsC (gN 3) gsN))) (lB r0) [.o (.val (.str t)), .o (.lst []), .no, .no, .no] with | some (.nx δ') => sRetN 1 δ' | o => o) = _
  rw [h2] <;> rfl
theorem leadN {r0 : Option Int} {t : Str} {rs : List Str} (hs : Txt.split t "\n" = rs) (ht : t ≠ "") (hl : t.length ≤ 1000000) (h : forD lG (lB r0) (en 0 (rs.map .str)) [.o (.val (.str t)), .o (.lst []), .no, .no, .no] = none) : b_log_from r0 (ini 4 [.str t]) = none := by
  have h1 : sIf (b1 (e2 dEq (eV 0) (eC (.str "")))) sRetE sNil (ini 4 [.str t]) = some (.nx (ini 4 [.str t])) := by
    unfold sIf
    rw [tv_1 (b := t == "") (ev_2 (ev_V rfl) ev_C dEq_str), beq_eq_false_iff_ne.mpr ht]
    rfl
  unfold b_log_from
  unfold sSeq
  rw [h1]
  simp only
  rw [show sNewL 1 (ini 4 [.str t]) = some (.nx [.o (.val (.str t)), .o (.lst []), .no, .no, .no]) from rfl]
  simp only
  have h2 : sFor (iEnum1 (eM gSplit (eV 0) (aC (eC (.str "\n")) aN))) (gT 2 (gsC (gN 2) (gsC (gN 3) gsN))) (lB r0) [.o (.val (.str t)), .o (.lst []), .no, .no, .no] = forD lG (lB r0) (en 0 (rs.map .str)) [.o (.val (.str t)), .o (.lst []), .no, .no, .no] := by
    have e : eM gSplit (eV 0) (aC (eC (.str "\n")) aN) [.o (.val (.str t)), .o (.lst []), .no, .no, .no] = some (.lst (rs.map .str)) := ev_M (ev_V rfl) (ev_aC ev_C ev_aN) (splitD hs len_nl hl)
    unfold sFor iEnum1
    rw [e]
    rfl
  show (match sFor (iEnum1 (eM gSplit (eV 0) (aC (eC (.str "\n")) aN))) (gT 2 (gsC (gN 2) (gsC (gN 3) gsN))) (lB r0) [.o (.val (.str t)), .o (.lst []), .no, .no, .no] with | some (.nx δ') => sRetN 1 δ' | o => o) = _
  rw [h2, h]
theorem log_good {t : Str} {rs : List Str} {g : Str → List Dat} (hs : Txt.split t "\n" = rs) (ht : t ≠ "") (hl : t.length ≤ 1000000) (hd : ∀ r ∈ rs, f_deed_of [.str r] = some (.tup (g r))) (hn : rs.length ≤ 60) :
    f_log_from [.str t] = some (.lst (rs.map (dT' g))) ∧ fo_log_from [.str t] = some (.lst (rs.map (dT' g))) := by
  obtain ⟨t2, t3, t4, q⟩ := lloop (r0 := none) (s0 := .o (.val (.str t))) (g := g) (tail := []) rs 0 [] .no .no .no hd (by omega) (by simp; omega)
  rw [List.append_nil] at q
  have e : b_log_from none (ini 4 [.str t]) = some (.ro (.lst (rs.map (dT' g)))) := by
    refine lead hs ht hl ?_
    unfold sSeq
    simp only
    rw [q]
    rfl
  unfold f_log_from fo_log_from defF defO
  rw [e]
  exact ⟨rfl, rfl⟩
theorem log_bad {t x : Str} {pre post : List Str} {g : Str → List Dat} {o : Option (List Dat)} (hs : Txt.split t "\n" = pre ++ x :: post) (ht : t ≠ "") (hl : t.length ≤ 1000000) (hd : ∀ r ∈ pre, f_deed_of [.str r] = some (.tup (g r))) (hn : pre.length ≤ 60)
    (hx : f_deed_of [.str x] = some (match o with | none => .non | some l => .tup l)) (hk : o = none ∨ 60 ≤ pre.length) :
    f_log_from [.str t] = none ∧ ∀ r, fx_log_from r [.str t] = if ((pre.length + 1 : Nat) : Int) = r then some (.bad r) else none := by
  have key : ∀ r0 : Option Int, forD lG (lB r0) (en 0 ((pre ++ x :: post).map .str)) [.o (.val (.str t)), .o (.lst []), .no, .no, .no] = (match r0 with | none => none | some r => if ((pre.length + 1 : Nat) : Int) = r then some (.rt (.bad r)) else none) := fun r0 => by
    obtain ⟨t2, t3, t4, q⟩ := lloop (r0 := r0) (s0 := .o (.val (.str t))) (g := g) (tail := (x :: post).map .str) pre 0 [] .no .no .no hd (by omega) (by simp; omega)
    rw [List.map_append, q, Nat.zero_add, List.map_cons, en_cons]
    have e : forD lG (lB r0) (Dat.tup [.int ((pre.length + 1 : Nat) : Int), .str x] :: en (pre.length + 1) (post.map .str)) [.o (.val (.str t)), .o (.lst ([] ++ pre.map (dT' g))), t2, t3, t4] = (match lB r0 [.o (.val (.str t)), .o (.lst ([] ++ pre.map (dT' g))), .o (.val (.int ((pre.length + 1 : Nat) : Int))), .o (.val (.str x)), t4] with
      | some (.nx δ2) => forD lG (lB r0) (en (pre.length + 1) (post.map .str)) δ2
      | some (.ct δ2) => forD lG (lB r0) (en (pre.length + 1) (post.map .str)) δ2
      | some (.bk δ2) => some (.nx δ2)
      | some (.rt v) => some (.rt v)
      | some (.ro v) => some (.ro v)
      | none => none) := rfl
    rw [e, lbad hx hk]
    cases r0 with
    | none => rfl
    | some r =>
      by_cases c : ((pre.length + 1 : Nat) : Int) = r
      · simp only [if_pos c]
      · simp only [if_neg c]
  constructor
  · unfold f_log_from defF
    rw [leadN hs ht hl (key none)]
    rfl
  · intro r
    have k := key (some r)
    simp only at k
    unfold fx_log_from defF
    split
    · rename_i er
      rw [if_pos er] at k
      rw [lead (o := .rt (.bad r)) hs ht hl (by unfold sSeq; simp only; rw [k])]
      rfl
    · rename_i er
      rw [if_neg er] at k
      rw [leadN hs ht hl k]
      rfl
theorem findSome_at {α : Type} {g : Nat → Option α} {m n : Nat} {v : α} (h : ∀ k, k < m → g k = none) (hv : g m = some v) (hm : m < n) : (List.range n).findSome? g = some v := by
  obtain ⟨j, rfl⟩ : ∃ j, n = m + (j + 1) := ⟨n - m - 1, by omega⟩
  rw [List.range_add, List.range_succ_eq_map, List.map_cons, List.findSome?_append, List.findSome?_eq_none_iff.mpr (fun x hx => h x (List.mem_range.mp hx))]
  simp [hv]
theorem ref_good {t : Str} {rs : List Str} {g : Str → List Dat} (hs : Txt.split t "\n" = rs) (ht : t ≠ "") (hl : t.length ≤ 1000000) (hd : ∀ r ∈ rs, f_deed_of [.str r] = some (.tup (g r))) (hn : rs.length ≤ 60) : f_l_refusal [.str t] = some (.int 0) := by
  show refD f_log_from fx_log_from [.str t] = _
  unfold refD
  simp only
  rw [(log_good hs ht hl hd hn).1]
theorem ref_bad {t x : Str} {pre post : List Str} {g : Str → List Dat} {o : Option (List Dat)} (hs : Txt.split t "\n" = pre ++ x :: post) (ht : t ≠ "") (hl : t.length ≤ 1000000) (hd : ∀ r ∈ pre, f_deed_of [.str r] = some (.tup (g r))) (hn : pre.length ≤ 60)
    (hx : f_deed_of [.str x] = some (match o with | none => .non | some l => .tup l)) (hk : o = none ∨ 60 ≤ pre.length) : f_l_refusal [.str t] = some (.int ((pre.length + 1 : Nat) : Int)) := by
  obtain ⟨h1, h2⟩ := log_bad hs ht hl hd hn hx hk
  have hb : badRow fx_log_from [.str t] = some ((pre.length + 1 : Nat) : Int) := by
    unfold badRow
    refine findSome_at (m := pre.length) (fun k hk => ?_) ?_ (by omega)
    · rw [h2, if_neg (by omega)]
    · rw [h2, if_pos rfl]
  show refD f_log_from fx_log_from [.str t] = _
  unfold refD
  simp only
  rw [h1]
  simp only
  rw [hb]
  simp only
  rw [h2, if_pos rfl]
  simp
end MB
namespace MB
open PySem PySem.Spec PyProof.Rows L2
inductive Pt where
  | n (i : Int)
  | w (x : Str)
def Pt.word : Pt → Str
  | .n i => numW i
  | .w x => x
def Pt.dat : Pt → Dat
  | .n i => .int i
  | .w x => .str x
def PtsOk : List Pt → List Str → Prop
  | [], [] => True
  | .n i :: r, p :: ps => p = "NUMBER" ∧ 0 ≤ i ∧ i < 1000000000000 ∧ PtsOk r ps
  | .w x :: r, p :: ps => p = "NAME" ∧ namB x = true ∧ PtsOk r ps
  | _, _ => False
structure Deed where
  f : Form
  k : Int
  ps : List Pt
structure Deed.Ok (D : Deed) : Prop where
  form : D.f ∈ forms
  k0 : 0 ≤ D.k
  k1 : D.k < 1000000000000
  pts : PtsOk D.ps D.f.rest
def Deed.words (D : Deed) : List Str := numW D.k :: D.f.verb :: D.ps.map Pt.word
def Deed.parts (D : Deed) : List Dat := .str D.f.verb :: .int D.k :: D.ps.map Pt.dat
def Deed.dat (D : Deed) : Dat := .tup D.parts
def Deed.row (D : Deed) : Str := Str.join " " D.words
theorem numB_of {w : Str} (h : NumW w) : numB w = true := by
  unfold numB
  have hl := h.len
  rw [if_neg (by rw [Bool.not_eq_true, Bool.or_eq_false_iff, beq_eq_false_iff_ne, decide_eq_false_iff_not]; omega), Bool.and_eq_true]
  constructor
  · unfold inB
    rw [List.all_eq_true]
    intro c hc
    rw [digs_tl]
    have h1 := h.dig c hc
    have : ∀ c : Nat, c ≤ 57 → 48 ≤ c → decide (c ∈ [48, 49, 50, 51, 52, 53, 54, 55, 56, 57]) = true := by decide
    exact this c h1.2 h1.1
  · rcases h.hd with e | ⟨c, r, e, hc⟩
    · have : w = "0" := tl_inj (e.trans (by decide +kernel))
      rw [this]
      rfl
    · rw [e]
      have : ((⟨#[c]⟩ : Str) == "0") = false := by
        rw [beq_eq_false_iff_ne]
        intro z
        have z2 : tl ⟨#[c]⟩ = tl "0" := congrArg tl z
        rw [show tl "0" = [48] by decide +kernel] at z2
        exact hc (List.cons.inj z2).1
      show (w == "0" || !((⟨#[c]⟩ : Str) == "0")) = true
      rw [this, Bool.not_false, Bool.or_true]
theorem numV_of {n : Int} (h0 : 0 ≤ n) (h1 : n < 1000000000000) : numB (numW n) = true ∧ numV (numW n) = n := by
  obtain ⟨a, b⟩ := numW_ok h0 h1
  refine ⟨numB_of a, ?_⟩
  unfold numV
  rw [b]
  omega
theorem fits_num {w : Str} : fitsB w "NUMBER" = numB w := by
  unfold fitsB
  rw [if_pos (by decide +kernel)]
theorem fits_nam {w : Str} : fitsB w "NAME" = namB w := by
  unfold fitsB
  rw [if_neg (by decide +kernel), if_pos (by decide +kernel)]
theorem fits_word {w p : Str} (h1 : (p == "NUMBER") = false) (h2 : (p == "NAME") = false) : fitsB w p = (w == p) := by
  unfold fitsB
  rw [if_neg (by rw [h1]; exact Bool.false_ne_true), if_neg (by rw [h2]; exact Bool.false_ne_true)]
theorem one_num {w : Str} : oneD w "NUMBER" = [.int (numV w)] := by
  unfold oneD
  rw [if_pos (by decide +kernel)]
theorem one_nam {w : Str} : oneD w "NAME" = [.str w] := by
  unfold oneD
  rw [if_neg (by decide +kernel), if_pos (by decide +kernel)]
theorem one_word {w p : Str} (h1 : (p == "NUMBER") = false) (h2 : (p == "NAME") = false) : oneD w p = [] := by
  unfold oneD
  rw [if_neg (by rw [h1]; exact Bool.false_ne_true), if_neg (by rw [h2]; exact Bool.false_ne_true)]
theorem pts_vals : ∀ {ps : List Pt} {rs : List Str}, PtsOk ps rs → valsB (ps.map Pt.word) rs = some (ps.map Pt.dat) ∧ ps.length = rs.length
  | [], [], _ => ⟨rfl, rfl⟩
  | [], _ :: _, h => h.elim
  | .n i :: _, [], h => h.elim
  | .w x :: _, [], h => h.elim
  | .n i :: r, p :: rs, h => by
    obtain ⟨rfl, h0, h1, h2⟩ := h
    obtain ⟨q, l⟩ := pts_vals h2
    obtain ⟨a, b⟩ := numV_of h0 h1
    refine ⟨?_, by rw [List.length_cons, List.length_cons, l]⟩
    show valsB (numW i :: r.map Pt.word) _ = some (.int i :: r.map Pt.dat)
    unfold valsB
    rw [fits_num, a, if_pos rfl, q, one_num, b]
    rfl
  | .w x :: r, p :: rs, h => by
    obtain ⟨rfl, h0, h2⟩ := h
    obtain ⟨q, l⟩ := pts_vals h2
    refine ⟨?_, by rw [List.length_cons, List.length_cons, l]⟩
    show valsB (x :: r.map Pt.word) _ = some (.str x :: r.map Pt.dat)
    unfold valsB
    rw [fits_nam, h0, if_pos rfl, q, one_nam]
    rfl
theorem verbs_ok : ∀ f ∈ forms, (f.verb == "NUMBER") = false ∧ (f.verb == "NAME") = false ∧ 32 ∉ tl f.verb ∧ 10 ∉ tl f.verb ∧ f.verb.length ≤ 12 ∧ f.rest.length ≤ 5 := by
  intro f hf
  simp only [forms, List.mem_cons, List.not_mem_nil, or_false] at hf
  rcases hf with rfl | rfl | rfl | rfl <;> exact ⟨by decide +kernel, by decide +kernel, by decide +kernel, by decide +kernel, by decide +kernel, by decide +kernel⟩
section
variable {D : Deed}
theorem Deed.Ok.len (h : D.Ok) : D.words.length = D.f.parts.length := by
  unfold Deed.words Form.parts
  simp only [List.length_cons, List.length_map]
  rw [(pts_vals h.pts).2]
theorem Deed.Ok.vals (h : D.Ok) : valsP D.words D.f.parts = some (.int D.k :: D.ps.map Pt.dat) := by
  unfold valsP
  rw [if_pos h.len]
  obtain ⟨a, b⟩ := numV_of h.k0 h.k1
  obtain ⟨v1, v2, _⟩ := verbs_ok D.f h.form
  show valsB (numW D.k :: D.f.verb :: D.ps.map Pt.word) ("NUMBER" :: D.f.verb :: D.f.rest) = _
  unfold valsB
  rw [fits_num, a, if_pos rfl]
  unfold valsB
  rw [fits_word v1 v2, if_pos (beq_self_eq_true _), (pts_vals h.pts).1, one_num, b, one_word v1 v2]
  rfl
theorem valsP_len {ws ps : List Str} (h : ws.length ≠ ps.length) : valsP ws ps = none := if_neg h
theorem Deed.Ok.deedW (h : D.Ok) : deedW D.words forms = some D.parts := by
  have hl := h.len
  have hv := h.vals
  have hf := h.form
  unfold Deed.parts
  simp only [forms, List.mem_cons, List.not_mem_nil, or_false] at hf
  rcases hf with e | e | e | e
  all_goals
    rw [e] at hl hv ⊢
    have hl2 : D.words.length = _ := hl
    unfold forms
  · unfold MB.deedW
    rw [hv]
  · unfold MB.deedW
    rw [valsP_len (by rw [hl2]; decide)]
    simp only
    unfold MB.deedW
    rw [hv]
  · unfold MB.deedW
    rw [valsP_len (by rw [hl2]; decide)]
    simp only
    unfold MB.deedW
    rw [valsP_len (by rw [hl2]; decide)]
    simp only
    unfold MB.deedW
    rw [hv]
  · unfold MB.deedW
    rw [valsP_len (by rw [hl2]; decide)]
    simp only
    unfold MB.deedW
    rw [valsP_len (by rw [hl2]; decide)]
    simp only
    unfold MB.deedW
    rw [valsP_len (by rw [hl2]; decide)]
    simp only
    unfold MB.deedW
    rw [hv]
end
def WordOk (w : Str) : Prop := 32 ∉ tl w ∧ 10 ∉ tl w ∧ w.length ≤ 13
theorem num_word {n : Int} (h0 : 0 ≤ n) (h1 : n < 1000000000000) : WordOk (numW n) := by
  obtain ⟨a, _⟩ := numW_ok h0 h1
  exact ⟨fun h => by have := a.dig _ h; omega, fun h => by have := a.dig _ h; omega, by have := a.len; omega⟩
theorem lets_tl : ∀ c ∈ tl "abcdefghijklmnopqrstuvwxyz", 97 ≤ c ∧ c ≤ 122 := by decide +kernel
theorem nam_word {w : Str} (h : namB w = true) : WordOk w := by
  unfold namB at h
  rw [Bool.and_eq_true, Bool.and_eq_true, decide_eq_true_iff, decide_eq_true_iff] at h
  obtain ⟨h1, h2, h3⟩ := h
  have key : ∀ c ∈ tl w, 97 ≤ c ∧ c ≤ 122 := fun c hc => lets_tl c (of_decide_eq_true (List.all_eq_true.mp h3 c hc))
  exact ⟨fun h => by have := key _ h; omega, fun h => by have := key _ h; omega, by omega⟩
theorem pts_words : ∀ {ps : List Pt} {rs : List Str}, PtsOk ps rs → ∀ w ∈ ps.map Pt.word, WordOk w
  | [], [], _, w, hw => nomatch hw
  | [], _ :: _, h, _, _ => h.elim
  | .n i :: _, [], h, _, _ => h.elim
  | .w x :: _, [], h, _, _ => h.elim
  | .n i :: r, p :: rs, h, w, hw => by
    obtain ⟨_, h0, h1, h2⟩ := h
    rcases List.mem_cons.mp hw with rfl | hw
    · exact num_word h0 h1
    · exact pts_words h2 w hw
  | .w x :: r, p :: rs, h, w, hw => by
    obtain ⟨_, h0, h2⟩ := h
    rcases List.mem_cons.mp hw with rfl | hw
    · exact nam_word h0
    · exact pts_words h2 w hw
theorem Deed.Ok.wordsOk {D : Deed} (h : D.Ok) : ∀ w ∈ D.words, WordOk w := by
  intro w hw
  obtain ⟨v1, v2, v3, v4, v5, _⟩ := verbs_ok D.f h.form
  rcases List.mem_cons.mp hw with rfl | hw
  · exact num_word h.k0 h.k1
  · rcases List.mem_cons.mp hw with rfl | hw
    · exact ⟨v3, v4, by omega⟩
    · exact pts_words h.pts w hw
theorem Deed.Ok.few {D : Deed} (h : D.Ok) : D.words.length ≤ 7 := by
  rw [h.len]
  obtain ⟨_, _, _, _, _, v6⟩ := verbs_ok D.f h.form
  unfold Form.parts
  simp only [List.length_cons]
  omega
structure RowOk (ws : List Str) : Prop where
  ne : ws ≠ []
  wd : ∀ w ∈ ws, WordOk w
  few : ws.length ≤ 8
theorem RowOk.split {ws : List Str} (h : RowOk ws) : Txt.split (Str.join " " ws) " " = ws := by
  rw [sp_eq]
  exact split_join h.ne fun w hw => (h.wd w hw).1
theorem RowOk.len {ws : List Str} (h : RowOk ws) : (Str.join " " ws).length ≤ 112 := by
  have h1 := join_le (sep := " ") (ws := ws) (B := 13) (fun w hw => (h.wd w hw).2.2) (by rw [len_sp]; exact Nat.le_refl _)
  have h2 := h.few
  omega
theorem RowOk.nl {ws : List Str} (h : RowOk ws) : 10 ∉ tl (Str.join " " ws) := fun hm => by
  rcases join_mem hm with q | ⟨w, hw, q⟩
  · rw [sp_eq] at q
    simp at q
  · exact (h.wd w hw).2.1 q
theorem RowOk.join {ws : List Str} (h : RowOk ws) : JoinOk " " ws = true := join_ok (B := 13) (fun w hw => (h.wd w hw).2.2) (by rw [len_sp]; exact Nat.le_refl _) (by have := h.few; omega)
theorem RowOk.deed {ws : List Str} (h : RowOk ws) : f_deed_of [.str (Str.join " " ws)] = some (match deedW ws forms with | none => .non | some l => .tup l) :=
  deed_ok h.split (by have := h.len; omega) (fun w hw => by have := (h.wd w hw).2.2; omega) (by have := h.few; omega)
theorem Deed.Ok.rowOk {D : Deed} (h : D.Ok) : RowOk D.words := ⟨by unfold Deed.words; simp, h.wordsOk, by have := h.few; omega⟩
theorem Deed.Ok.reads {D : Deed} (h : D.Ok) : f_deed_of [.str D.row] = some D.dat := by
  have := h.rowOk.deed
  rw [h.deedW] at this
  exact this
end MB
namespace MB
open PySem PySem.Spec PyProof.Rows L2
theorem pts_str : ∀ {ps : List Pt} {rs : List Str}, PtsOk ps rs → ∀ p ∈ ps, dStrB [p.dat] = some (.str p.word)
  | [], [], _, w, hw => nomatch hw
  | [], _ :: _, h, _, _ => h.elim
  | .n i :: _, [], h, _, _ => h.elim
  | .w x :: _, [], h, _, _ => h.elim
  | .n i :: r, p :: rs, h, w, hw => by
    obtain ⟨_, h0, h1, h2⟩ := h
    rcases List.mem_cons.mp hw with rfl | hw
    · exact if_pos ⟨by omega, by omega⟩
    · exact pts_str h2 w hw
  | .w x :: r, p :: rs, h, w, hw => by
    obtain ⟨_, h0, h2⟩ := h
    rcases List.mem_cons.mp hw with rfl | hw
    · rfl
    · exact pts_str h2 w hw
theorem cut2 {a b : Dat} {xs : List Dat} : dSl (.tup (a :: b :: xs)) (some 2) none = some (.tup xs) := by
  have e1 : HT.sIx (a :: b :: xs).length 0 (some 2) = 2 := by
    show min 2 (xs.length + 1 + 1) = 2
    omega
  have e2 : HT.sIx (a :: b :: xs).length (a :: b :: xs).length none = (a :: b :: xs).length := rfl
  show (if HT.sIx (a :: b :: xs).length 0 (some 2) = 0 ∧ HT.sIx (a :: b :: xs).length (a :: b :: xs).length none = (a :: b :: xs).length then none else some (Dat.tup (cutD (a :: b :: xs) (some 2) none))) = _
  rw [e1, if_neg (by omega)]
  unfold cutD
  rw [e1, e2]
  show some (Dat.tup (xs.take (xs.length + 1 + 1 - 2))) = _
  rw [show xs.length + 1 + 1 - 2 = xs.length by omega, List.take_length]
theorem joinD {sep : Str} {ws : List Str} (h : JoinOk sep ws = true) : gJoin sep [.lst (ws.map .str)] = some (.str (Str.join sep ws)) := by
  show (strsD (ws.map .str)).bind _ = _
  rw [strsD_map]
  simp only [Option.bind_some]
  exact if_pos h
section
variable {D : Deed}
theorem Deed.Ok.ints (h : D.Ok) : dStrB [.int D.k] = some (.str (numW D.k)) := if_pos ⟨by have := h.k0; omega, by have := h.k1; omega⟩
theorem Deed.Ok.l_row (h : D.Ok) : f_l_row [D.dat] = some (.str D.row) := by
  have hs : eSl (eV 0) (oS (eC (.int 2))) oN (ini 0 [D.dat]) = some (.tup (D.ps.map Pt.dat)) := cut2
  have hc : eComp (iSeq (eSl (eV 0) (oS (eC (.int 2))) oN)) (gN 0) bT (eB dStrB (aC (eV 0) aN)) 1 [] (ini 0 [D.dat]) = some (.lst (D.ps.map fun p => Dat.str p.word)) :=
    ev_comp (ds := D.ps.map Pt.dat) (by unfold iSeq; rw [hs]) (by have := h.few; unfold Deed.words at this; simp at this ⊢; omega) (comp_of (D := Pt.dat) (R := fun p => Dat.str p.word) D.ps .no fun p hp => ev_B (ev_aC (ev_V rfl) ev_aN) (pts_str h.pts p hp))
  refine fn_ret (ev_M ev_C (ev_aC (x := .lst (D.words.map .str)) (ev_2 (ev_L (ev_aC (ev_B (ev_aC (ev_2 (ev_V rfl) ev_C (ix_t (d := .int D.k) (by omega) rfl)) ev_aN) h.ints) (ev_aC (ev_2 (ev_V rfl) ev_C (ix_t (d := .str D.f.verb) (by omega) rfl)) ev_aN)) rfl) hc ?_) ev_aN) (joinD h.rowOk.join))
  have e : D.words.map Dat.str = [.str (numW D.k), .str D.f.verb] ++ (D.ps.map fun p => Dat.str p.word) := by
    unfold Deed.words
    simp [List.map_map, Function.comp_def]
  rw [e]
  exact if_pos (by have := h.few; unfold Deed.words at this; rw [sizeLine_eq]; simp at this ⊢; omega)
theorem Deed.Ok.row_of (h : D.Ok) : f_row_of [.lst (.int D.k :: .str D.f.verb :: D.ps.map Pt.dat)] = some (.str D.row) := by
  refine fn_ret (ev_M ev_C (ev_aC (ev_comp (ds := (Pt.n D.k :: Pt.w D.f.verb :: D.ps).map Pt.dat) (out := D.words.map .str) rfl ?_ ?_) ev_aN) (joinD h.rowOk.join))
  · have := h.few
    unfold Deed.words at this
    simp at this ⊢
    omega
  · have e : D.words.map Dat.str = (Pt.n D.k :: Pt.w D.f.verb :: D.ps).map fun p => Dat.str p.word := by
      unfold Deed.words
      simp [List.map_map, Function.comp_def, Pt.word]
    rw [e]
    refine comp_of (D := Pt.dat) (R := fun p => Dat.str p.word) _ .no fun p hp => ev_B (ev_aC (ev_V rfl) ev_aN) ?_
    rcases List.mem_cons.mp hp with rfl | hp
    · exact h.ints
    · rcases List.mem_cons.mp hp with rfl | hp
      · rfl
      · exact pts_str h.pts p hp
end
theorem rows_join {rs : List Str} (h : ∀ r ∈ rs, r.length ≤ 112) (hn : rs.length ≤ 61) : JoinOk "\n" rs = true ∧ (Str.join "\n" rs).length ≤ 10000 := by
  have h1 := join_le (sep := "\n") (ws := rs) (B := 112) h (by rw [len_nl]; exact Nat.le_refl _)
  exact ⟨join_ok (B := 112) h (by rw [len_nl]; exact Nat.le_refl _) (by omega), by omega⟩
theorem log_text_ok {Ds : List Deed} (h : ∀ D ∈ Ds, D.Ok) (hn : Ds.length ≤ 61) : f_log_text [.lst (Ds.map Deed.dat)] = some (.str (Str.join "\n" (Ds.map Deed.row))) := by
  have hj := (rows_join (rs := Ds.map Deed.row) (fun r hr => by obtain ⟨D, hD, rfl⟩ := List.mem_map.mp hr; exact (h D hD).rowOk.len) (by rw [List.length_map]; exact hn)).1
  refine fn_ret (ev_M ev_C (ev_aC (ev_comp (ds := Ds.map Deed.dat) (out := (Ds.map Deed.row).map .str) rfl (by rw [List.length_map]; omega) ?_) ev_aN) (joinD hj))
  rw [List.map_map]
  refine comp_of (D := Deed.dat) (R := Dat.str ∘ Deed.row) Ds .no fun D hD => ?_
  have hs : eSl (eV 0) (oS (eC (.int 2))) oN [.o (.val D.dat)] = some (.tup (D.ps.map Pt.dat)) := cut2
  refine ev_call (ev_aC (ev_2 (ev_L (ev_aC (ev_2 (ev_V rfl) ev_C (ix_t (d := .int D.k) (by omega) rfl)) (ev_aC (ev_2 (ev_V rfl) ev_C (ix_t (d := .str D.f.verb) (by omega) rfl)) ev_aN)) rfl) (ev_B (ev_aC hs ev_aN) (d := .lst (D.ps.map Pt.dat)) rfl) ?_) ev_aN) rfl (h D hD).row_of
  exact if_pos (by have := (h D hD).few; unfold Deed.words at this; rw [sizeLine_eq]; simp at this ⊢; omega)
theorem parts_kind (D : Deed) : ∀ d ∈ D.parts, (∃ i, d = .int i) ∨ ∃ x, d = .str x := by
  intro d hd
  rcases List.mem_cons.mp hd with rfl | hd
  · exact .inr ⟨_, rfl⟩
  · rcases List.mem_cons.mp hd with rfl | hd
    · exact .inl ⟨_, rfl⟩
    · obtain ⟨p, _, rfl⟩ := List.mem_map.mp hd
      cases p with
      | n i => exact .inl ⟨_, rfl⟩
      | w x => exact .inr ⟨_, rfl⟩
theorem zip_self {xs : List Dat} {i : Nat} {d : Dat} (h : (zipD xs xs)[i]? = some d) : ∃ x ∈ xs, d = .tup [x, x] := by
  unfold zipD at h
  rw [List.getElem?_map] at h
  cases e : (xs.zip xs)[i]? with
  | none => rw [e] at h; cases h
  | some q =>
    rw [e] at h
    have h : Dat.tup [q.1, q.2] = d := Option.some.inj h
    rw [List.getElem?_zip_eq_some] at e
    have : q.1 = q.2 := by
      have := e.1.symm.trans e.2
      exact Option.some.inj this
    exact ⟨q.1, List.mem_of_getElem? e.1, by rw [← h, ← this]⟩
theorem alike_ok (Ds : List Deed) : f_l_alike [.lst (Ds.map Deed.dat), .lst (Ds.map Deed.dat)] = some (.bl true) := by
  obtain ⟨d, h1, rfl⟩ : ∃ d, f_l_alike [.lst (Ds.map Deed.dat), .lst (Ds.map Deed.dat)] = some d ∧ d = .bl true := by
    refine fn_W (w_ifr (b := false) (d := .bl false) ?_ (fun z => by cases z) (fun z => by cases z) fun _ => w_seqW ?_)
    · exact tv_or_f (tv_not (b := true) (tv_1 rfl)) (tv_1 ((ev_2 (ev_B (ev_aC (ev_V rfl) ev_aN) len_l) (ev_B (ev_aC (ev_V rfl) ev_aN) len_l) dNe_int).trans (by simp)))
    · refine w_for (fun i δ => ∃ s2 s3 s4 s5 : Slot, δ = [.o (.val (.lst (Ds.map Deed.dat))), .o (.val (.lst (Ds.map Deed.dat))), s2, s3, s4, s5]) (ds := zipD (Ds.map Deed.dat) (Ds.map Deed.dat)) rfl ⟨.no, .no, .no, .no, rfl⟩ ?_ ?_
      · rintro i d δ hd ⟨s2, s3, s4, s5, rfl⟩
        obtain ⟨x, hx, rfl⟩ := zip_self hd
        obtain ⟨D, hD, rfl⟩ := List.mem_map.mp hx
        refine ⟨_, rfl, w_ifr (b := false) (d := .bl false) ?_ (fun z => by cases z) (fun z => by cases z) fun _ => ?_⟩
        · exact tv_or_f (tv_not (b := true) (tv_1 rfl)) (tv_1 ((ev_2 (ev_B (ev_aC (ev_V rfl) ev_aN) (len_t (xs := D.parts))) (ev_B (ev_aC (ev_V rfl) ev_aN) (len_t (xs := D.parts))) dNe_int).trans (by simp)))
        · refine w_for (fun i δ => ∃ s4 s5 : Slot, δ = [.o (.val (.lst (Ds.map Deed.dat))), .o (.val (.lst (Ds.map Deed.dat))), .o (.val D.dat), .o (.val D.dat), s4, s5]) (ds := zipD D.parts D.parts) rfl ⟨s4, s5, rfl⟩ ?_ ?_
          · rintro j d δ hd ⟨t4, t5, rfl⟩
            obtain ⟨x, hx, rfl⟩ := zip_self hd
            refine ⟨_, rfl, w_if (b := false) ?_ (fun z => by cases z) fun _ => w_nil ⟨_, rfl, _, _, rfl⟩⟩
            rcases parts_kind D x hx with ⟨n, rfl⟩ | ⟨y, rfl⟩
            · exact tv_or_f (tv_1 rfl) (tv_or_f (tv_1 rfl) (tv_1 ((ev_2 (ev_V rfl) (ev_V rfl) dNe_int).trans (by simp))))
            · exact tv_or_f (tv_1 rfl) (tv_or_f (tv_1 rfl) (tv_1 ((ev_2 (ev_V rfl) (ev_V rfl) dNe_str).trans (by simp))))
          · rintro δ ⟨t4, t5, rfl⟩
            exact ⟨_, rfl, _, _, _, _, rfl⟩
      · rintro δ ⟨s2, s3, s4, s5, rfl⟩
        exact ⟨_, rfl, w_ret ev_C ⟨_, rfl, rfl⟩⟩
  exact h1
end MB
namespace MB
open PySem PySem.Spec PyProof.Rows L2
local macro_rules | `(tactic| walk_at "ev1") => `(tactic| first
  | with_reducible assumption
  | with_reducible exact ev_C
  | ((with_reducible apply ev_V); exact rfl)
  | with_reducible apply ev_2
  | with_reducible apply ev_1
  | with_reducible apply ev_call
  | with_reducible apply ev_B
  | with_reducible exact ev_aN
  | with_reducible apply ev_aC
  | with_reducible exact ev_aS
  | with_reducible apply ev_T
  | with_reducible apply ev_L
  | with_reducible exact dAdd_int
  | with_reducible exact dSub_int
  | with_reducible exact dMulR (by omega)
  | with_reducible exact dMulL (by omega)
  | with_reducible exact dMod_int (by omega)
  | with_reducible exact dDiv_int (by omega)
  | with_reducible exact dPow_10 (by omega)
  | with_reducible exact dEq_int
  | with_reducible exact dNe_int
  | with_reducible exact dLt_int
  | with_reducible exact dLe_int
  | with_reducible exact dGt_int
  | with_reducible exact dGe_int
  | with_reducible exact int_bl
  | with_reducible exact len_l
  | with_reducible exact len_t
  | with_reducible exact ix_i2 (by omega)
  | with_reducible exact ix_i3 (by omega)
  | with_reducible exact ix_i4 (by omega)
  | with_reducible exact ix_i5 (by omega)
  | with_reducible exact ix_i6 (by omega)
  | with_reducible exact ix_s3 (by omega)
  | with_reducible exact ix_ints (by omega) (by omega)
  | with_reducible exact ix_strs (by omega) (by omega)
  | with_reducible apply tv_1
  | with_reducible apply tv_not
  | (show Nat.ble _ _ = true; exact rfl)
  | (show List.length _ = _; exact rfl))
local macro_rules | `(tactic| walk_at "ev") => `(tactic| repeat' walk_at "ev1")
theorem mixed_ok (c k : Int) (h : 0 ≤ k ∧ k ≤ 1000000000000) : ∃ m, f_l_mixed [.int c, .int k] = some (.int m) ∧ 0 ≤ m ∧ m < 998244353 := by
  have hq : 0 ≤ (c % 1000000007 + 7 * k + 1) * 48271 % 2147483647 ∧ (c % 1000000007 + 7 * k + 1) * 48271 % 2147483647 < 2147483647 := by omega
  generalize hw : (c % 1000000007 + 7 * k + 1) * 48271 % 2147483647 = q at hq
  obtain ⟨d, h1, m, h2, h3⟩ : ∃ d, f_l_mixed [.int c, .int k] = some d ∧ ∃ m, d = .int m ∧ 0 ≤ m ∧ m < 998244353 := by
    refine fn_W (w_seq (st_asg (d := .int q) ?_) (w_ret (d := .int (q * (q % 1009 + k + 3) % 998244353)) ?_ ⟨_, rfl, _, rfl, ?_⟩))
    · rw [← hw]
      walk_at "ev"
    · walk_at "ev"
    · omega
  subst h2
  exact ⟨m, h1, h3⟩
theorem draws_ok (c : Int) (n : Nat) (size : Int) (hn : n ≤ 1000) (hs : 0 < size ∧ size < 1073741824) :
    ∃ ns : List Int, f_l_draws [.int c, .int (n : Nat), .int size] = some (.lst (ns.map .int)) ∧ ns.length = n ∧ ∀ x ∈ ns, 0 ≤ x ∧ x < size := by
  obtain ⟨d, h1, ns, h2, h3⟩ : ∃ d, f_l_draws [.int c, .int (n : Nat), .int size] = some d ∧ ∃ ns : List Int, d = .lst (ns.map .int) ∧ ns.length = n ∧ ∀ x ∈ ns, 0 ≤ x ∧ x < size := by
    refine fn_W (w_seq st_newL (w_seq (st_asg (d := .int (c / 2)) ?_) (w_seqW ?_)))
    · walk_at "ev"
    refine w_for (fun i δ => ∃ (ns : List Int) (left : Int) (s5 : Slot), δ = [.o (.val (.int c)), .o (.val (.int (n : Nat))), .o (.val (.int size)), .o (.lst (ns.map .int)), .o (.val (.int left)), s5] ∧ ns.length = i ∧ ∀ x ∈ ns, 0 ≤ x ∧ x < size)
      (it_rg1 (j := (n : Nat)) (ev_V rfl) (by omega)) ⟨[], _, _, rfl, rfl, fun x hx => nomatch hx⟩ ?_ ?_
    · rintro i d δ hd ⟨ns, left, s5, rfl, hl, hb⟩
      obtain ⟨rfl, hi⟩ := rng_get hd
      refine ⟨_, rfl, ?_⟩
      rw [Int.toNat_natCast] at hi
      have key : ∀ v : Int, 0 ≤ v % size ∧ v % size < size := fun v => ⟨Int.emod_nonneg _ (by omega), Int.emod_lt_of_pos _ hs.1⟩
      have fin : ∀ v : Int, 0 ≤ v ∧ v < size → (ns ++ [v]).length = i + 1 ∧ ∀ x ∈ ns ++ [v], 0 ≤ x ∧ x < size := fun v hv => ⟨by simp [hl], fun x hx => by
        rcases List.mem_append.mp hx with h | h
        · exact hb x h
        · rw [List.mem_singleton.mp h]; exact hv⟩
      refine w_if (tv_1 (b := (c % 2 == 0)) (by walk_at "ev")) (fun _ => ?_) (fun _ => ?_)
      · refine w_seq (st_app (xs := ns.map .int) (d := .int (left % size)) rfl (by walk_at "ev") (by rw [List.length_map]; omega)) (w_of (st_asg (d := .int (left / size)) (by walk_at "ev")) ⟨_, rfl, ns ++ [left % size], left / size, .o (.val (.int (0 + (i : Nat)))), by rw [List.map_append]; rfl, fin _ (key _)⟩)
      · obtain ⟨m1, e1, _⟩ := mixed_ok c (0 + (i : Nat)) (by omega)
        obtain ⟨m2, e2, _⟩ := mixed_ok m1 3 (by omega)
        refine w_of (st_app (xs := ns.map .int) (d := .int (m2 % size)) rfl (by walk_at "ev") (by rw [List.length_map]; omega)) ⟨_, rfl, ns ++ [m2 % size], left, .o (.val (.int (0 + (i : Nat)))), by rw [List.map_append]; rfl, fin _ (key _)⟩
    · rintro δ ⟨ns, left, s5, rfl, hl, hb⟩
      rw [rng_len, Int.toNat_natCast] at hl
      exact ⟨_, rfl, w_retN rfl ⟨_, rfl, ns, rfl, hl, hb⟩⟩
  subst h2
  exact ⟨ns, h1, h3⟩
theorem six_names : ∀ w ∈ (["tell", "bill", "wrong", "change", "main", "heat"] : List Str), namB w = true := by decide +kernel
theorem join_singles : ∀ cs : List Nat, Str.join ("" : Str) (cs.map fun c => (⟨#[c]⟩ : Str)) = ⟨cs.toArray⟩
  | [] => rfl
  | [c] => rfl
  | c :: c' :: r => by
    have ih := join_singles (c' :: r)
    refine tl_inj ?_
    show tl ((⟨#[c]⟩ : Str) ++ "" ++ Str.join "" ((c' :: r).map fun c => (⟨#[c]⟩ : Str))) = _
    rw [tl_app, tl_app, ih, show tl "" = [] by decide +kernel]
    rfl
theorem rng_map (n : Nat) : rngD 0 n = (List.range n).map fun j => Dat.int ((j : Nat) : Int) := by
  unfold rngD
  simp
theorem name_ok (a : Int) (h0 : 0 ≤ a) (h1 : a < 1000000) : ∃ w, f_l_name [.int a] = some (.str w) ∧ namB w = true := by
  obtain ⟨d, e, w, rfl, hw⟩ : ∃ d, f_l_name [.int a] = some d ∧ ∃ w, d = .str w ∧ namB w = true := by
    refine fn_W (w_ifr (b := (a % 3 == 0)) (d := .str (ats ["tell", "bill", "wrong", "change", "main", "heat"] (a / 3 % 6))) (tv_1 (ev_2 (ev_2 (ev_V rfl) ev_C (dMod_int (by omega))) ev_C dEq_int)) (fun _ => ?_) (fun hb => ⟨_, rfl, _, rfl, ?_⟩) fun hb => ?_)
    · exact ev_2 (ev_L ev_aS rfl) (ev_2 (ev_2 (ev_V rfl) ev_C (dDiv_int (by omega))) ev_C (dMod_int (by omega))) (ix_strs (by omega) (by show a / 3 % 6 < ((6 : Nat) : Int); omega))
    · exact ats_in (P := fun w => namB w = true) six_names (by omega) (by show a / 3 % 6 < ((6 : Nat) : Int); omega)
    · refine w_seq (st_asg (d := .str "abcdefghijklmnopqrstuvwxyz") ev_C) ?_
      have hll : tl "abcdefghijklmnopqrstuvwxyz" = [97, 98, 99, 100, 101, 102, 103, 104, 105, 106, 107, 108, 109, 110, 111, 112, 113, 114, 115, 116, 117, 118, 119, 120, 121, 122] := by decide +kernel
      have hlen : ("abcdefghijklmnopqrstuvwxyz" : Str).length = 26 := by decide +kernel
      generalize hm : (1 + a / 3 % 8).toNat = n
      have hn : 1 ≤ n ∧ n ≤ 8 := by omega
      have hix : ∀ j : Nat, dIx (.str "abcdefghijklmnopqrstuvwxyz") (.int (a / ((j : Nat) + 3) % 26)) = some (.str ⟨#[(tl "abcdefghijklmnopqrstuvwxyz").getD (a / ((j : Nat) + 3) % 26).toNat 0]⟩) := by
        intro j
        have b0 : 0 ≤ a / ((j : Nat) + 3) % 26 := Int.emod_nonneg _ (by omega)
        have b1 : a / ((j : Nat) + 3) % 26 < 26 := Int.emod_lt_of_pos _ (by omega)
        generalize a / ((j : Nat) + 3) % 26 = q at b0 b1
        show (if ("abcdefghijklmnopqrstuvwxyz" : Str).length ≤ sizeLine then (atI (tl "abcdefghijklmnopqrstuvwxyz") q).bind fun c => some (Dat.str ⟨#[c]⟩) else none) = _
        rw [if_pos (by rw [hlen]; decide)]
        have hq : q.toNat < (tl "abcdefghijklmnopqrstuvwxyz").length := by rw [hll]; show q.toNat < 26; omega
        rw [atI_of (d := (tl "abcdefghijklmnopqrstuvwxyz").getD q.toNat 0) b0 (by rw [List.getD_eq_getElem?_getD, List.getElem?_eq_getElem hq]; rfl)]
        rfl
      have hc : eComp (iRg1 (e2 dAdd (eC (.int 1)) (e2 dMod (e2 dDiv (eV 0) (eC (.int 3))) (eC (.int 8))))) (gN 0) bT (e2 dIx (eV 2) (e2 dMod (e2 dDiv (eV 1) (e2 dAdd (eV 0) (eC (.int 3)))) (eC (.int 26)))) 1 [0, 1] [.o (.val (.int a)), .o (.val (.str "abcdefghijklmnopqrstuvwxyz"))] = some (.lst ((((List.range n).map fun j => (tl "abcdefghijklmnopqrstuvwxyz").getD (a / ((j : Nat) + 3) % 26).toNat 0).map fun c => (⟨#[c]⟩ : Str)).map .str)) := by
        refine ev_comp (ds := rngD 0 n) ?_ (by rw [rng_len]; omega) ?_
        · rw [← hm]
          exact it_rg1 (j := 1 + a / 3 % 8) (ev_2 ev_C (ev_2 (ev_2 (ev_V rfl) ev_C (dDiv_int (by omega))) ev_C (dMod_int (by omega))) dAdd_int) (by omega)
        · rw [rng_map, List.map_map, List.map_map]
          refine comp_of (D := fun j : Nat => Dat.int ((j : Nat) : Int)) _ .no fun j hj => ?_
          have hj : j < n := List.mem_range.mp hj
          exact ev_2 (ev_V rfl) (ev_2 (ev_2 (ev_V rfl) (ev_2 (ev_V rfl) ev_C dAdd_int) (dDiv_int (by omega))) ev_C (dMod_int (by omega))) (hix j)
      generalize hcs : ((List.range n).map fun j => (tl "abcdefghijklmnopqrstuvwxyz").getD (a / ((j : Nat) + 3) % 26).toNat 0) = cs at hc
      have hcl : cs.length = n := by rw [← hcs, List.length_map, List.length_range]
      have hcm : ∀ c ∈ cs, c ∈ tl "abcdefghijklmnopqrstuvwxyz" := by
        intro c hc
        rw [← hcs] at hc
        obtain ⟨j, _, rfl⟩ := List.mem_map.mp hc
        have b0 : 0 ≤ a / ((j : Nat) + 3) % 26 := Int.emod_nonneg _ (by omega)
        have b1 : a / ((j : Nat) + 3) % 26 < 26 := Int.emod_lt_of_pos _ (by omega)
        have hq : (a / ((j : Nat) + 3) % 26).toNat < (tl "abcdefghijklmnopqrstuvwxyz").length := by rw [hll]; show _ < 26; omega
        rw [List.getD_eq_getElem?_getD, List.getElem?_eq_getElem hq]
        exact List.getElem_mem hq
      refine w_ret (d := .str ⟨cs.toArray⟩) (ev_M ev_C (ev_aC hc ev_aN) ((joinD ?_).trans (by rw [join_singles]))) ⟨_, rfl, _, rfl, ?_⟩
      · refine join_ok (B := 1) (fun y hy => ?_) (by decide +kernel) (by rw [List.length_map]; omega)
        obtain ⟨c, _, rfl⟩ := List.mem_map.mp hy
        exact Nat.le_refl _
      · unfold namB inB
        rw [Bool.and_eq_true, Bool.and_eq_true, decide_eq_true_iff, decide_eq_true_iff, List.all_eq_true]
        have e : (⟨cs.toArray⟩ : Str).length = n := by show cs.toArray.size = n; rw [List.size_toArray, hcl]
        exact ⟨by omega, by omega, fun c hc => decide_eq_true (hcm c (by simpa using hc))⟩
  exact ⟨w, e, hw⟩
theorem add_l {xs ys : List Dat} (h : Nat.ble (xs.length + ys.length) 1000 = true) : dAdd (.lst xs) (.lst ys) = some (.lst (xs ++ ys)) := if_pos (Nat.le_trans (Nat.le_of_ble_eq_true h) (by decide))
theorem tup_l {xs : List Dat} (h : Nat.ble xs.length 1000 = true) : dTupleB [.lst xs] = some (.tup xs) := if_pos (Nat.le_trans (Nat.le_of_ble_eq_true h) (by decide))
theorem dEq_s {a b : Str} {c : Bool} (h : (a == b) = c) : dEq (.str a) (.str b) = some (.bl c) := by rw [← h]; rfl
theorem pt_nil : PtsOk [] [] := trivial
theorem pt_n {i : Int} {ps : List Pt} {rs : List Str} (h : 0 ≤ i ∧ i < 1000000000000) (r : PtsOk ps rs) : PtsOk (.n i :: ps) ("NUMBER" :: rs) := ⟨rfl, h.1, h.2, r⟩
theorem pt_w {x : Str} {ps : List Pt} {rs : List Str} (h : namB x = true) (r : PtsOk ps rs) : PtsOk (.w x :: ps) ("NAME" :: rs) := ⟨rfl, h, r⟩
theorem nd3 : ([Sum.inr "tell", Sum.inr "change", Sum.inr "wrong"] : List Key).Nodup := by
  have h1 : ("tell" : Str) ≠ "change" := by decide +kernel
  have h2 : ("tell" : Str) ≠ "wrong" := by decide +kernel
  have h3 : ("change" : Str) ≠ "wrong" := by decide +kernel
  rw [List.nodup_cons, List.nodup_cons, List.nodup_cons]
  refine ⟨?_, ?_, by simp, .nil⟩
  · intro h
    simp only [List.mem_cons, List.not_mem_nil, or_false] at h
    rcases h with h | h
    · exact h1 (Sum.inr.inj h)
    · exact h2 (Sum.inr.inj h)
  · intro h
    simp only [List.mem_cons, List.not_mem_nil, or_false] at h
    exact h3 (Sum.inr.inj h)
theorem eight {α : Type} : ∀ {l : List α}, l.length = 8 → ∃ a b c d e f g h, l = [a, b, c, d, e, f, g, h]
  | [a, b, c, d, e, f, g, h], _ => ⟨a, b, c, d, e, f, g, h, rfl⟩
theorem deed_draw (c k : Int) (hk : 0 ≤ k ∧ k ≤ 1000) : ∃ D : Deed, D.Ok ∧ f_l_deed [.int c, .int k] = some D.dat := by
  obtain ⟨ns, hns, hnl, hnb⟩ := draws_ok c 8 1000000 (by omega) (by omega)
  obtain ⟨m, hm, hm0, hm1⟩ := mixed_ok c k (by omega)
  obtain ⟨a0, a1, a2, a3, a4, a5, a6, a7, rfl⟩ := eight hnl
  have p6 : dPow (.int 10) (.int 6) = some (.int 1000000) := dPow_10 (j := 6) (by omega)
  obtain ⟨nm, hnm, hnm2⟩ := name_ok a1 (hnb a1 (by simp)).1 (hnb a1 (by simp)).2
  have ht : ati [1, 1000000, 1] (k % 3) = 1 ∨ ati [1, 1000000, 1] (k % 3) = 1000000 :=
    ati_in (P := fun v => v = 1 ∨ v = 1000000) (by intro x hx; simp only [List.mem_cons, List.not_mem_nil, or_false] at hx; omega) (by omega) (by show k % 3 < ((3 : Nat) : Int); omega)
  generalize hte : ati [1, 1000000, 1] (k % 3) = t at ht
  have hb : ∀ x ∈ [a2, a3, a4, a5, a6], 0 ≤ x * t ∧ x * t < 1000000000000 := by
    intro x hx
    have h := hnb x (by simp only [List.mem_cons, List.not_mem_nil, or_false] at hx ⊢; omega)
    rcases ht with rfl | rfl <;> omega
  obtain ⟨d, h1, D, hD, rfl⟩ : ∃ d, f_l_deed [.int c, .int k] = some d ∧ ∃ D : Deed, D.Ok ∧ d = D.dat := by
    refine fn_W (w_seq (st_asg (ev_call (ev_aC (ev_V rfl) (ev_aC ev_C (ev_aC (ev_2 ev_C ev_C p6) ev_aN))) rfl hns)) (w_seq (st_asg (ev_call (ev_aC (ev_V rfl) (ev_aC (ev_V rfl) ev_aN)) rfl hm)) ?_))
    have hc : eComp (iSeq (eSl (eV 2) (oS (eC (.int 2))) (oS (eC (.int 7))))) (gN 0) bT (e2 dMul (eV 0) (e2 dIx (eL (aC (eC (.int 1)) (aC (e2 dPow (eC (.int 10)) (eC (.int 6))) (aC (eC (.int 1)) aN)))) (e2 dMod (eV 1) (eC (.int 3))))) 1 [1] [.o (.val (.int c)), .o (.val (.int k)), .o (.val (.lst ([a0, a1, a2, a3, a4, a5, a6, a7].map .int))), .o (.val (.int m)), .no, .no, .no] = some (.lst ([a2, a3, a4, a5, a6].map fun x => Dat.int (x * t))) := by
      refine ev_comp (ds := [a2, a3, a4, a5, a6].map .int) rfl (by show 5 ≤ 10000; decide) (comp_of (D := Dat.int) _ .no fun x hx => ?_)
      refine ev_2 (ev_V rfl) (ev_2 (ev_L (ev_aC ev_C (ev_aC (ev_2 ev_C ev_C p6) (ev_aC ev_C ev_aN))) rfl) (ev_2 (ev_V rfl) ev_C (dMod_int (by omega))) (ix_i3 (by omega))) ?_
      rw [hte]
      exact dMulR (by omega)
    refine w_seq (st_asg hc) ?_
    have b2 := hb a2 (by simp)
    have b3 := hb a3 (by simp)
    have b4 := hb a4 (by simp)
    have b5 := hb a5 (by simp)
    have b6 := hb a6 (by simp)
    simp only [List.map_cons, List.map_nil]
    generalize a2 * t = x0 at b2
    generalize a3 * t = x1 at b3
    generalize a4 * t = x2 at b4
    generalize a5 * t = x3 at b5
    generalize a6 * t = x4 at b6
    refine w_seq (st_asg (d := .str (ats ["tell", "tell", "change", "wrong", "bill"] (m % 5))) (ev_2 (ev_L ev_aS rfl) (ev_2 (ev_V rfl) ev_C (dMod_int (by omega))) (ix_strs (by omega) (by show m % 5 < ((5 : Nat) : Int); omega)))) ?_
    have hv : ats ["tell", "tell", "change", "wrong", "bill"] (m % 5) = "tell" ∨ ats ["tell", "tell", "change", "wrong", "bill"] (m % 5) = "change" ∨ ats ["tell", "tell", "change", "wrong", "bill"] (m % 5) = "wrong" ∨ ats ["tell", "tell", "change", "wrong", "bill"] (m % 5) = "bill" :=
      ats_in (P := fun v => v = "tell" ∨ v = "change" ∨ v = "wrong" ∨ v = "bill") (by intro x hx; simp only [List.mem_cons, List.not_mem_nil, or_false] at hx; rcases hx with h | h | h | h | h <;> simp [h]) (by omega) (by show m % 5 < ((5 : Nat) : Int); omega)
    generalize ats ["tell", "tell", "change", "wrong", "bill"] (m % 5) = v at hv
    refine w_seq (δ' := [.o (.val (.int c)), .o (.val (.int k)), .o (.val (.lst [.int a0, .int a1, .int a2, .int a3, .int a4, .int a5, .int a6, .int a7])), .o (.val (.int m)), .o (.val (.lst [.int x0, .int x1, .int x2, .int x3, .int x4])), .o (.val (.str v)), .rcd [(Sum.inr "tell", .val (.int 2)), (Sum.inr "change", .val (.int 4)), (Sum.inr "wrong", .val (.int 1))]]) ?_ ?_
    · show (if ([Sum.inr "tell", Sum.inr "change", Sum.inr "wrong"] : List Key).Nodup ∧ 3 ≤ 15 then some _ else none) = _
      exact if_pos ⟨nd3, by decide⟩
    rcases hv with rfl | rfl | rfl | rfl
    · refine w_ifr (b := false) (d := .non) (tv_1 (ev_2 (ev_V rfl) ev_C (dEq_s (by decide +kernel)))) (fun z => by cases z) (fun z => by cases z) fun _ => ?_
      refine w_ret (d := Deed.dat ⟨fTell, x0, [.w nm, .n x1, .n x2]⟩) ?_ ⟨_, rfl, ⟨fTell, x0, [.w nm, .n x1, .n x2]⟩, ⟨by simp [forms], b2.1, b2.2, pt_w hnm2 (pt_n b3 (pt_n b4 pt_nil))⟩, rfl⟩
      refine ev_B (xs := [.lst [.str "tell", .int x0, .str nm, .int x1, .int x2]]) (ev_aC (ev_2 (x := .lst [.str "tell", .int x0, .str nm]) (y := .lst [.int x1, .int x2]) (ev_L (ev_aC (ev_V rfl) (ev_aC (ev_2 (ev_V rfl) ev_C (ix_l (by omega) rfl)) (ev_aC (ev_call (ev_aC (ev_2 (ev_V rfl) ev_C (ix_l (by omega) rfl)) ev_aN) rfl hnm) ev_aN))) rfl) rfl (add_l rfl)) ev_aN) (tup_l rfl)
    · refine w_ifr (b := false) (d := .non) (tv_1 (ev_2 (ev_V rfl) ev_C (dEq_s (by decide +kernel)))) (fun z => by cases z) (fun z => by cases z) fun _ => ?_
      refine w_ret (d := Deed.dat ⟨fChange, x0, [.w nm, .n x1, .n x2, .n x3, .n x4]⟩) ?_ ⟨_, rfl, ⟨fChange, x0, [.w nm, .n x1, .n x2, .n x3, .n x4]⟩, ⟨by simp [forms], b2.1, b2.2, pt_w hnm2 (pt_n b3 (pt_n b4 (pt_n b5 (pt_n b6 pt_nil))))⟩, rfl⟩
      refine ev_B (xs := [.lst [.str "change", .int x0, .str nm, .int x1, .int x2, .int x3, .int x4]]) (ev_aC (ev_2 (x := .lst [.str "change", .int x0, .str nm]) (y := .lst [.int x1, .int x2, .int x3, .int x4]) (ev_L (ev_aC (ev_V rfl) (ev_aC (ev_2 (ev_V rfl) ev_C (ix_l (by omega) rfl)) (ev_aC (ev_call (ev_aC (ev_2 (ev_V rfl) ev_C (ix_l (by omega) rfl)) ev_aN) rfl hnm) ev_aN))) rfl) rfl (add_l rfl)) ev_aN) (tup_l rfl)
    · refine w_ifr (b := false) (d := .non) (tv_1 (ev_2 (ev_V rfl) ev_C (dEq_s (by decide +kernel)))) (fun z => by cases z) (fun z => by cases z) fun _ => ?_
      refine w_ret (d := Deed.dat ⟨fWrong, x0, [.w nm, .n x1]⟩) ?_ ⟨_, rfl, ⟨fWrong, x0, [.w nm, .n x1]⟩, ⟨by simp [forms], b2.1, b2.2, pt_w hnm2 (pt_n b3 pt_nil)⟩, rfl⟩
      refine ev_B (xs := [.lst [.str "wrong", .int x0, .str nm, .int x1]]) (ev_aC (ev_2 (x := .lst [.str "wrong", .int x0, .str nm]) (y := .lst [.int x1]) (ev_L (ev_aC (ev_V rfl) (ev_aC (ev_2 (ev_V rfl) ev_C (ix_l (by omega) rfl)) (ev_aC (ev_call (ev_aC (ev_2 (ev_V rfl) ev_C (ix_l (by omega) rfl)) ev_aN) rfl hnm) ev_aN))) rfl) rfl (add_l rfl)) ev_aN) (tup_l rfl)
    · exact w_ifr (b := true) (d := Deed.dat ⟨fBill, x0, []⟩) (tv_1 (ev_2 (ev_V rfl) ev_C (dEq_s (by decide +kernel)))) (fun _ => ev_T (ev_aC ev_C (ev_aC (ev_2 (ev_V rfl) ev_C (ix_l (by omega) rfl)) ev_aN)) rfl) (fun _ => ⟨_, rfl, ⟨fBill, x0, []⟩, ⟨by simp [forms], b2.1, b2.2, pt_nil⟩, rfl⟩) fun z => by cases z
  exact ⟨D, hD, h1⟩
end MB
namespace MB
open PySem PySem.Spec PyProof.Rows L2
instance (w : Str) : Decidable (WordOk w) := by unfold WordOk; exact inferInstance
def bn9 : List Str := ["01", "00", "", "-1", "+1", "1.0", "a", "1000000000000", "1_0"]
def bv5 : List Str := ["Tell", "told", "bills", "", "5"]
def bm5 : List Str := ["A", "abcdefghi", "", "a1", "5"]
theorem bn9_ok : ∀ w ∈ bn9, numB w = false ∧ WordOk w := by decide +kernel
theorem bm5_ok : ∀ w ∈ bm5, namB w = false ∧ WordOk w := by decide +kernel
theorem bv5_ok : ∀ w ∈ bv5, WordOk w ∧ (w == "tell") = false ∧ (w == "change") = false ∧ (w == "wrong") = false ∧ (w == "bill") = false := by decide +kernel
theorem valsB_bad : ∀ {ws ps : List Str} {i : Nat} {w p : Str}, ws[i]? = some w → ps[i]? = some p → fitsB w p = false → valsB ws ps = none
  | [], _, i, w, p, h, _, _ => by simp at h
  | _ :: _, [], i, w, p, _, h, _ => by simp at h
  | a :: ws, b :: ps, 0, w, p, h1, h2, h3 => by
    simp at h1 h2
    subst h1 h2
    unfold valsB
    rw [h3, if_neg Bool.false_ne_true]
  | a :: ws, b :: ps, i + 1, w, p, h1, h2, h3 => by
    unfold valsB
    rw [valsB_bad (ws := ws) (ps := ps) (i := i) (by simpa using h1) (by simpa using h2) h3]
    split <;> rfl
theorem deedW_none {ws : List Str} : ∀ {fs : List Form}, (∀ f ∈ fs, ws.length = f.parts.length → ∃ (i : Nat) (w p : Str), ws[i]? = some w ∧ f.parts[i]? = some p ∧ fitsB w p = false) → deedW ws fs = none
  | [], _ => rfl
  | f :: fs, h => by
    unfold deedW
    have e : valsP ws f.parts = none := by
      unfold valsP
      split
      · rename_i hl
        obtain ⟨i, w, p, a, b, c⟩ := h f (by simp) hl
        exact valsB_bad a b c
      · rfl
    rw [e]
    exact deedW_none fun g hg => h g (List.mem_cons_of_mem _ hg)
theorem forms_len {f g : Form} (hf : f ∈ forms) (hg : g ∈ forms) (h : f.parts.length = g.parts.length) : f = g := by
  simp only [forms, List.mem_cons, List.not_mem_nil, or_false] at hf hg
  rcases hf with rfl | rfl | rfl | rfl <;> rcases hg with rfl | rfl | rfl | rfl <;> first | rfl | exact absurd h (by decide)
theorem bad_set {D : Deed} (h : D.Ok) {i : Nat} {x p : Str} (hp : D.f.parts[i]? = some p) (hx : fitsB x p = false) : deedW (D.words.set i x) forms = none :=
  deedW_none fun f hf hl => by
    rw [List.length_set, h.len] at hl
    have e := forms_len h.form hf hl
    subst e
    have hi : i < D.words.length := by rw [h.len]; exact (List.getElem?_eq_some_iff.mp hp).1
    exact ⟨i, x, p, List.getElem?_set_self hi, hp, hx⟩
theorem bad_more {D : Deed} (h : D.Ok) {ws : List Str} (hl : ws.length = D.words.length + 1) {i : Nat} {w p : Str} (h1 : ws[i]? = some w) (h2 : fTell.parts[i]? = some p) (h3 : D.f = fWrong → fitsB w p = false) : deedW ws forms = none :=
  deedW_none fun f hf hl2 => by
    rw [hl, h.len] at hl2
    have hd := h.form
    simp only [forms, List.mem_cons, List.not_mem_nil, or_false] at hf hd
    rcases hd with e | e | e | e <;> rw [e] at hl2 <;> rcases hf with rfl | rfl | rfl | rfl <;> first | exact absurd hl2 (by decide) | exact ⟨i, w, p, h1, h2, h3 e⟩
theorem bad_less {D : Deed} (h : D.Ok) {ws : List Str} (hl : ws.length + 1 = D.words.length) {i : Nat} {w p : Str} (h1 : D.f = fTell → ws[i]? = some w) (h2 : fWrong.parts[i]? = some p) (h3 : D.f = fTell → fitsB w p = false) : deedW ws forms = none :=
  deedW_none fun f hf hl2 => by
    have hl3 : f.parts.length + 1 = D.f.parts.length := by rw [← hl2, hl, h.len]
    have hd := h.form
    simp only [forms, List.mem_cons, List.not_mem_nil, or_false] at hf hd
    rcases hd with e | e | e | e <;> rw [e] at hl3 <;> rcases hf with rfl | rfl | rfl | rfl <;> first | exact absurd hl3 (by decide) | exact ⟨i, w, p, h1 e, h2, h3 e⟩
theorem join_snoc {sep y : Str} : ∀ {ws : List Str}, ws ≠ [] → Str.join sep (ws ++ [y]) = Str.join sep ws ++ sep ++ y
  | [], h => absurd rfl h
  | [x], _ => rfl
  | x :: z :: r, _ => by
    have ih := join_snoc (sep := sep) (y := y) (ws := z :: r) (by simp)
    show x ++ sep ++ Str.join sep (z :: r ++ [y]) = x ++ sep ++ Str.join sep (z :: r) ++ sep ++ y
    rw [ih]
    simp only [Str.append_assoc]
theorem emp_eq : ("" : Str) = Str.empty := by decide +kernel
theorem repl1_eq {a b : Str} (ha : 32 ∉ tl a) : repl1 (a ++ " " ++ b) = a ++ " " ++ "" ++ " " ++ b := by
  generalize hx : a ++ " " ++ b = x
  have hxl : tl x = tl a ++ 32 :: tl b := by
    rw [← hx, tl_app, tl_app, sp_eq]
    show tl a ++ [32] ++ tl b = _
    simp
  have hat : ∀ i, StrLaws.At x " " x.length i ↔ (tl x)[i]? = some 32 := fun i => by
    rw [sp_eq]
    exact StrLaws.subAt_one x 32 i
  unfold repl1
  have hle := StrLaws.occ_length_le x " " 0 x.length 1
  rcases StrLaws.occ_head x " " 1 (by omega) with ⟨e, hn⟩ | ⟨i, r, e, h1, h2⟩
  · exfalso
    refine hn (tl a).length ((hat _).mpr ?_)
    rw [hxl]
    simp
  · have hr : r = [] := by
      rw [e] at hle
      cases r with
      | nil => rfl
      | cons _ _ => simp at hle
    subst hr
    rw [e, if_neg (by simp)]
    have e2 : Builtin.Str.glued "  " (Builtin.Str.partsBetween x [i] 1) = ⟨(Builtin.Str.strSub x 0 i).cps ++ ("  " : Str).cps ++ (Builtin.Str.strSub x (i + 1) x.length).cps⟩ := rfl
    have hi := (hat i).mp h1
    have hil : i < (tl x).length := (List.getElem?_eq_some_iff.mp hi).1
    have t1 : tl (Builtin.Str.strSub x 0 i) = (tl x).take i := by
      show (Builtin.Str.strSub x 0 i).cps.toList = _
      rw [StrLaws.strSub_toList, List.drop_zero, Nat.sub_zero]
    have t2 : tl (Builtin.Str.strSub x (i + 1) x.length) = (tl x).drop (i + 1) := by
      show (Builtin.Str.strSub x (i + 1) x.length).cps.toList = _
      rw [StrLaws.strSub_toList]
      refine List.take_of_length_le ?_
      rw [List.length_drop, Array.length_toList]
      exact Nat.le_refl _
    have hcut : (tl x).take i ++ 32 :: (tl x).drop (i + 1) = tl a ++ 32 :: tl b := by
      rw [← hxl]
      have g : (tl x)[i] = 32 := by
        have := List.getElem?_eq_getElem hil
        rw [hi] at this
        exact (Option.some.inj this).symm
      rw [← g, List.getElem_cons_drop hil, List.take_append_drop]
    have hfree : 32 ∉ (tl x).take i := fun hm => by
      obtain ⟨k, hk, ek⟩ := List.getElem_of_mem hm
      have hk1 : k < i := by rw [List.length_take] at hk; omega
      refine h2 k hk1 ((hat k).mpr ?_)
      rw [List.getElem_take] at ek
      rw [List.getElem?_eq_getElem (by omega), ek]
    obtain ⟨c1, c2⟩ := cut_uniq hfree ha hcut
    refine tl_inj ?_
    rw [e2]
    show ((Builtin.Str.strSub x 0 i).cps ++ ("  " : Str).cps ++ (Builtin.Str.strSub x (i + 1) x.length).cps).toList = _
    rw [Array.toList_append, Array.toList_append]
    show tl (Builtin.Str.strSub x 0 i) ++ tl "  " ++ tl (Builtin.Str.strSub x (i + 1) x.length) = _
    rw [t1, t2, c1, c2, tl_app, tl_app, tl_app, tl_app, show tl "  " = [32, 32] by decide +kernel, show tl " " = [32] by decide +kernel, show tl "" = [] by decide +kernel]
    simp
end MB
namespace MB
open PySem PySem.Spec PyProof.Rows L2
theorem w_seqI {f g : FS} {δ : Sto} {P : Out → Prop} (Q : Sto → Prop) (h : W f δ fun o => ∃ δ', o = .nx δ' ∧ Q δ') (h2 : ∀ δ', Q δ' → W g δ' P) : W (sSeq f g) δ P :=
  w_seqW (h.mono fun o ⟨δ', e, q⟩ => ⟨δ', e, h2 δ' q⟩)
theorem w_ifR {δ : Sto} {t : FT} {f g : FS} {d : Dat} {b : Bool} {P : Out → Prop} (ht : t δ = some b) (hd : b = true → f δ = some (.rt d)) (h1 : b = true → P (.rt d)) (h2 : b = false → W g δ P) : W (sSeq (sIf t f sNil) g) δ P := by
  cases b with
  | true =>
    refine ⟨.rt d, ?_, h1 rfl⟩
    unfold sSeq sIf
    rw [ht]
    simp only [Option.bind_some, if_true]
    rw [hd rfl]
  | false =>
    refine w_seq (δ' := δ) ?_ (h2 rfl)
    unfold sIf
    rw [ht]
    rfl
theorem st_put {δ : Sto} {i : Nat} {fk fv : FE} {xs : List Dat} {j : Int} {v : Dat} (hi : δ[i]? = some (.o (.lst xs))) (hk : fk δ = some (.int j)) (hv : fv δ = some v) (h : 0 ≤ j ∧ j < (xs.length : Nat)) : sPut i fk fv δ = some (.nx (δ.set i (.o (.lst (xs.set j.toNat v))))) := by
  unfold sPut
  rw [hi, hk, hv]
  exact if_pos h
theorem ev_sl0 {δ : Sto} {fa fb : FE} {xs : List Dat} {k : Int} (ha : fa δ = some (.lst xs)) (hb : fb δ = some (.int k)) (h0 : 0 ≤ k) : eSl fa oN (oS fb) δ = some (.lst (xs.take k.toNat)) := by
  unfold eSl oS oN
  rw [ha, hb]
  show some (Dat.lst (cutD xs none (some k))) = _
  unfold cutD
  have e1 : HT.sIx xs.length 0 none = 0 := rfl
  have e2 : HT.sIx xs.length xs.length (some k) = min k.toNat xs.length := by
    show (if k < 0 then _ else min k.toNat xs.length) = _
    rw [if_neg (by omega)]
  rw [e1, e2, List.drop_zero, Nat.sub_zero]
  rw [show xs.take (min k.toNat xs.length) = xs.take k.toNat from List.take_eq_take_iff.mpr (by simp)]
theorem bad_number_ok (j : Int) : f_l_bad_number [.int j] = some (.str (ats bn9 (j % 9))) :=
  fn_ret (ev_2 (ev_L ev_aS rfl) (ev_2 (ev_V rfl) ev_C (dMod_int (by omega))) (ix_strs (ns := bn9) (by omega) (by show j % 9 < ((9 : Nat) : Int); omega)))
def Bad (x : Str) : Prop := ∃ ws, RowOk ws ∧ deedW ws forms = none ∧ x = Str.join " " ws
theorem wd_emp : WordOk "" := by decide +kernel
theorem wd_one : WordOk "1" := by decide +kernel
section
variable {D : Deed}
theorem rowOk_set (h : D.Ok) {x : Str} {i : Nat} (hx : WordOk x) : RowOk (D.words.set i x) := by
  refine ⟨fun e => ?_, fun w hw => ?_, by rw [List.length_set]; have := h.few; omega⟩
  · have := congrArg List.length e
    rw [List.length_set] at this
    unfold Deed.words at this
    simp at this
  · rcases List.mem_or_eq_of_mem_set hw with q | rfl
    · exact h.wordsOk w q
    · exact hx
theorem rowOk_more (h : D.Ok) {ws : List Str} (hl : ws.length = D.words.length + 1) (hw : ∀ w ∈ ws, w ∈ D.words ∨ WordOk w) : RowOk ws := by
  refine ⟨fun e => ?_, fun w hx => (hw w hx).elim (h.wordsOk w) id, by have := h.few; omega⟩
  rw [e] at hl
  simp at hl
theorem bad_end (h : D.Ok) {y : Str} (hy : WordOk y) : Bad (D.row ++ " " ++ y) := by
  refine ⟨D.words ++ [y], rowOk_more h (by simp) (fun w hw => ?_), bad_more h (by simp) (i := 1) (w := D.f.verb) (p := "tell") rfl rfl (fun e => by rw [e]; decide +kernel), ?_⟩
  · rcases List.mem_append.mp hw with q | q
    · exact .inl q
    · rw [List.mem_singleton.mp q]; exact .inr hy
  · rw [join_snoc (by unfold Deed.words; simp)]
    rfl
theorem bad_front (h : D.Ok) : Bad ((" " : Str) ++ D.row) := by
  refine ⟨"" :: D.words, rowOk_more h (by simp) (fun w hw => ?_), bad_more h (by simp) (i := 0) (w := "") (p := "NUMBER") rfl rfl (fun _ => by decide +kernel), ?_⟩
  · rcases List.mem_cons.mp hw with rfl | q
    · exact .inr wd_emp
    · exact .inl q
  · show " " ++ D.row = "" ++ " " ++ Str.join " " D.words
    rw [emp_eq, Str.empty_append]
    rfl
theorem bad_twice (h : D.Ok) : Bad (repl1 D.row) := by
  refine ⟨numW D.k :: "" :: D.f.verb :: D.ps.map Pt.word, rowOk_more h (by unfold Deed.words; simp) (fun w hw => ?_), bad_more h (by unfold Deed.words; simp) (i := 1) (w := "") (p := "tell") rfl rfl (fun _ => by decide +kernel), ?_⟩
  · rcases List.mem_cons.mp hw with rfl | q
    · exact .inl (by unfold Deed.words; simp)
    · rcases List.mem_cons.mp q with rfl | q
      · exact .inr wd_emp
      · exact .inl (by unfold Deed.words; exact List.mem_cons_of_mem _ q)
  · have e : D.row = numW D.k ++ " " ++ Str.join " " (D.f.verb :: D.ps.map Pt.word) := rfl
    rw [e, repl1_eq (num_word h.k0 h.k1).1]
    show _ = numW D.k ++ " " ++ ("" ++ " " ++ Str.join " " (D.f.verb :: D.ps.map Pt.word))
    simp only [Str.append_assoc]
theorem bad_none (h : D.Ok) : Bad "" := by
  refine ⟨[""], ⟨by simp, fun w hw => by rw [List.mem_singleton.mp hw]; exact wd_emp, by simp⟩, deedW_none fun f hf hl => ?_, rfl⟩
  exfalso
  simp only [forms, List.mem_cons, List.not_mem_nil, or_false] at hf
  rcases hf with rfl | rfl | rfl | rfl <;> exact absurd hl (by decide)
theorem bad_cut (h : D.Ok) : Bad (Str.join " " (D.words.take (D.words.length - 1))) := by
  have hl : 2 ≤ D.words.length := by unfold Deed.words; simp
  have hl2 : (D.words.take (D.words.length - 1)).length + 1 = D.words.length := by rw [List.length_take]; omega
  refine ⟨D.words.take (D.words.length - 1), ⟨fun e => ?_, fun w hw => h.wordsOk w (List.mem_of_mem_take hw), by have := h.few; omega⟩, bad_less h hl2 (i := 1) (w := D.f.verb) (p := "wrong") (fun e => ?_) rfl (fun e => by rw [e]; decide +kernel), rfl⟩
  · rw [e] at hl2
    simp at hl2
    omega
  · have h5 : D.words.length = 5 := by rw [h.len, e]; rfl
    rw [h5, List.getElem?_take_of_lt (by omega)]
    rfl
theorem bad_at (h : D.Ok) {i : Nat} {x p : Str} (hx : WordOk x) (hp : D.f.parts[i]? = some p) (hf : fitsB x p = false) : RowOk (D.words.set i x) ∧ deedW (D.words.set i x) forms = none := ⟨rowOk_set h hx, bad_set h hp hf⟩
theorem part_2 (h : D.Ok) (hl : 2 < D.words.length) : D.f.parts[2]? = some (("NAME" : Str)) := by
  rw [h.len] at hl
  have hd := h.form
  simp only [forms, List.mem_cons, List.not_mem_nil, or_false] at hd
  rcases hd with e | e | e | e <;> rw [e] at hl ⊢ <;> first | rfl | exact absurd hl (by decide)
theorem part_3 (h : D.Ok) {i : Nat} (h3 : 3 ≤ i) (hl : i < D.words.length) : D.f.parts[i]? = some (("NUMBER" : Str)) := by
  rw [h.len] at hl
  have hd := h.form
  simp only [forms, List.mem_cons, List.not_mem_nil, or_false] at hd
  have key : ∀ f : Form, f = fTell ∨ f = fChange ∨ f = fWrong ∨ f = fBill → ∀ j : Nat, j < 7 → 3 ≤ j → j < f.parts.length → f.parts[j]? = some (("NUMBER" : Str)) := by
    intro f hf
    rcases hf with rfl | rfl | rfl | rfl <;> decide +kernel
  have h7 : D.f.parts.length ≤ 7 := by rw [← h.len]; exact h.few
  exact key D.f hd i (by omega) h3 hl
theorem fits_v (h : D.Ok) {x : Str} (hx : x ∈ bv5) : WordOk x ∧ fitsB x D.f.verb = false := by
  obtain ⟨w, a, b, c, d⟩ := bv5_ok x hx
  obtain ⟨v1, v2, _⟩ := verbs_ok D.f h.form
  refine ⟨w, ?_⟩
  rw [fits_word v1 v2]
  have hd := h.form
  simp only [forms, List.mem_cons, List.not_mem_nil, or_false] at hd
  rcases hd with e | e | e | e <;> rw [e] <;> assumption
theorem spoilt_ok (h : D.Ok) (m : Int) (hm : 0 ≤ m) : ∃ x, Bad x ∧ f_l_spoilt [.str D.row, .int m] = some (.str x) := by
  have hrl := h.rowOk.len
  have hrl : D.row.length ≤ 112 := hrl
  have hlen : 2 ≤ D.words.length := by unfold Deed.words; simp
  obtain ⟨d, h1, x, hx, rfl⟩ : ∃ d, f_l_spoilt [.str D.row, .int m] = some d ∧ ∃ x, Bad x ∧ d = .str x := by
    have e0 : sNewE 2 (eM gSplit (eV 0) (aC (eC (.str " ")) aN)) (ini 3 [.str D.row, .int m]) = some (.nx [.o (.val (.str D.row)), .o (.val (.int m)), .o (.lst (D.words.map .str)), .no, .no]) := by
      unfold sNewE
      rw [ev_M (z := D.row) (ev_V rfl) (ev_aC ev_C ev_aN) (splitD h.rowOk.split len_sp (by omega))]
      rfl
    refine fn_W (w_seq e0 (w_seq (st_asg (d := .int (m % 8)) (ev_2 (ev_V rfl) ev_C (dMod_int (by omega)))) (w_seq (st_asg (d := .int (m / 8)) (ev_2 (ev_V rfl) ev_C (dDiv_int (by omega)))) ?_)))
    have t0 : 0 ≤ m % 8 ∧ m % 8 < 8 := by omega
    have q0 : 0 ≤ m / 8 := by omega
    generalize m % 8 = t at t0
    generalize m / 8 = q at q0
    show W _ [.o (.val (.str D.row)), .o (.val (.int m)), .o (.lst (D.words.map .str)), .o (.val (.int t)), .o (.val (.int q))] _
    have hsp : eL (aSpoil 0) [.o (.val (.str D.row)), .o (.val (.int m)), .o (.lst (D.words.map .str)), .o (.val (.int t)), .o (.val (.int q))] = some (.lst ([D.row ++ " ", (" " : Str) ++ D.row, repl1 D.row, ""].map .str)) :=
      ev_L (xs := [D.row ++ " ", (" " : Str) ++ D.row, repl1 D.row, ""].map .str) (if_pos (by omega)) rfl
    refine w_ifR (b := (t == 0)) (d := .str (ats [D.row ++ " ", (" " : Str) ++ D.row, repl1 D.row, ""] (q % 4))) (tv_1 (ev_2 (ev_V rfl) ev_C dEq_int)) (fun _ => ?_) (fun _ => ⟨_, rfl, _, ?_, rfl⟩) fun b0 => ?_
    · unfold sRet
      rw [ev_2 hsp (ev_2 (ev_V rfl) ev_C (dMod_int (by omega))) (ix_strs (by omega) (by show q % 4 < ((4 : Nat) : Int); omega))]
      rfl
    · refine ats_in (P := Bad) (fun x hx => ?_) (by omega) (by show q % 4 < ((4 : Nat) : Int); omega)
      simp only [List.mem_cons, List.not_mem_nil, or_false] at hx
      rcases hx with rfl | rfl | rfl | rfl
      · have := bad_end h wd_emp
        rw [emp_eq, Str.append_empty] at this
        exact this
      · exact bad_front h
      · exact bad_twice h
      · exact bad_none h
    refine w_ifR (b := (t == 1)) (d := .str (Str.join " " (D.words.take (D.words.length - 1)))) (tv_1 (ev_2 (ev_V rfl) ev_C dEq_int)) (fun _ => ?_) (fun _ => ⟨_, rfl, _, bad_cut h, rfl⟩) fun b1 => ?_
    · obtain ⟨ws, hws, _, hj⟩ := bad_cut h
      have hjo : JoinOk " " (D.words.take (D.words.length - 1)) = true := join_ok (B := 13) (fun w hw => (h.wordsOk w (List.mem_of_mem_take hw)).2.2) (by rw [len_sp]; exact Nat.le_refl _) (by have := h.few; rw [List.length_take]; omega)
      have hsl := ev_sl0 (fa := eV 2) (fb := e2 dSub (eLenN 2) (eC (.int 1))) (k := ((D.words.map Dat.str).length : Nat) - 1) (xs := D.words.map .str) (δ := [.o (.val (.str D.row)), .o (.val (.int m)), .o (.val (.lst (D.words.map .str))), .o (.val (.int t)), .o (.val (.int q))]) (ev_V rfl) (ev_2 rfl ev_C dSub_int) (by rw [List.length_map]; omega)
      rw [← List.map_take, List.length_map, show (((D.words.length : Nat) : Int) - 1).toNat = D.words.length - 1 by omega] at hsl
      show sRet _ [.o (.val (.str D.row)), .o (.val (.int m)), .o (.val (.lst (D.words.map .str))), .o (.val (.int t)), .o (.val (.int q))] = _
      unfold sRet
      rw [ev_M ev_C (ev_aC hsl ev_aN) (joinD hjo)]
      rfl
    refine w_ifr (b := (t == 2)) (d := .str (D.row ++ " " ++ "1")) (tv_1 (ev_2 (ev_V rfl) ev_C dEq_int)) (fun _ => ev_2 (ev_V rfl) ev_C ?_) (fun _ => ⟨_, rfl, _, bad_end h wd_one, rfl⟩) fun b2 => ?_
    · show (if D.row.length + (" 1" : Str).length ≤ sizeLine then some (Dat.str (D.row ++ " 1")) else none) = _
      rw [if_pos (by rw [sizeLine_eq, show (" 1" : Str).length = 2 by decide +kernel]; omega), Str.append_assoc, show (" " : Str) ++ "1" = " 1" by decide +kernel]
    refine w_seqI (fun δ => ∃ ws, RowOk ws ∧ deedW ws forms = none ∧ δ = [.o (.val (.str D.row)), .o (.val (.int m)), .o (.lst (ws.map .str)), .o (.val (.int t)), .o (.val (.int q))]) ?_ ?_
    · have hset : ∀ {i : Nat} {x : Str}, (D.words.map Dat.str).set i (.str x) = (D.words.set i x).map .str := by intro i x; rw [List.map_set]
      have lenN : eLenN 2 [.o (.val (.str D.row)), .o (.val (.int m)), .o (.lst (D.words.map .str)), .o (.val (.int t)), .o (.val (.int q))] = some (.int (D.words.length : Nat)) := by
        show some (Dat.int (((D.words.map Dat.str).length : Nat) : Int)) = _
        rw [List.length_map]
      have fin : ∀ {i : Nat} {x : Str}, RowOk (D.words.set i x) ∧ deedW (D.words.set i x) forms = none → ∃ δ', Out.nx [.o (.val (.str D.row)), .o (.val (.int m)), .o (.lst ((D.words.map .str).set i (.str x))), .o (.val (.int t)), .o (.val (.int q))] = .nx δ' ∧ ∃ ws, RowOk ws ∧ deedW ws forms = none ∧ δ' = [.o (.val (.str D.row)), .o (.val (.int m)), .o (.lst (ws.map .str)), .o (.val (.int t)), .o (.val (.int q))] :=
        fun {i x} hb => ⟨_, rfl, _, hb.1, hb.2, by rw [hset]⟩
      have zero : ∀ {P : Out → Prop}, (∀ i x, RowOk (D.words.set i x) ∧ deedW (D.words.set i x) forms = none → P (.nx [.o (.val (.str D.row)), .o (.val (.int m)), .o (.lst ((D.words.map .str).set i (.str x))), .o (.val (.int t)), .o (.val (.int q))])) →
          W (sPut 2 (eC (.int 0)) (eCall 1 f_l_bad_number (aC (eV 4) aN))) [.o (.val (.str D.row)), .o (.val (.int m)), .o (.lst (D.words.map .str)), .o (.val (.int t)), .o (.val (.int q))] P := fun {P} hP => by
        have hb := ats_in (P := fun w => numB w = false ∧ WordOk w) (ns := bn9) (k := q % 9) bn9_ok (by omega) (by show q % 9 < ((9 : Nat) : Int); omega)
        refine w_of (st_put (xs := D.words.map .str) rfl ev_C (ev_call (ev_aC (ev_V rfl) ev_aN) rfl (bad_number_ok q)) (by rw [List.length_map]; omega)) (hP 0 _ (bad_at h hb.2 (p := "NUMBER") rfl (by rw [fits_num]; exact hb.1)))
      refine w_if (b := (t == 3)) (tv_1 (ev_2 (ev_V rfl) ev_C dEq_int)) (fun _ => ?_) fun b3 => ?_
      · have hb := ats_in (P := fun w => w ∈ bv5) (ns := bv5) (k := q % 5) (fun _ z => z) (by omega) (by show q % 5 < ((5 : Nat) : Int); omega)
        obtain ⟨v1, v2⟩ := fits_v h hb
        exact w_of (st_put (xs := D.words.map .str) rfl ev_C (ev_2 (ev_L ev_aS rfl) (ev_2 (ev_V rfl) ev_C (dMod_int (by omega))) (ix_strs (ns := bv5) (by omega) (by show q % 5 < ((5 : Nat) : Int); omega))) (by rw [List.length_map]; omega)) (fin (i := 1) (bad_at h v1 (p := D.f.verb) rfl v2))
      have hand : ∀ (c : Int) (l : Int), bAnd (MB.b1 (e2 dEq (eV 3) (eC (.int c)))) (MB.b1 (e2 dGt (eLenN 2) (eC (.int l)))) [.o (.val (.str D.row)), .o (.val (.int m)), .o (.lst (D.words.map .str)), .o (.val (.int t)), .o (.val (.int q))] = some ((t == c) && decide (l < ((D.words.length : Nat) : Int))) := by
        intro c l
        have a1 : MB.b1 (e2 dEq (eV 3) (eC (.int c))) [.o (.val (.str D.row)), .o (.val (.int m)), .o (.lst (D.words.map .str)), .o (.val (.int t)), .o (.val (.int q))] = some (t == c) := tv_1 (ev_2 (ev_V rfl) ev_C dEq_int)
        have a2 : MB.b1 (e2 dGt (eLenN 2) (eC (.int l))) [.o (.val (.str D.row)), .o (.val (.int m)), .o (.lst (D.words.map .str)), .o (.val (.int t)), .o (.val (.int q))] = some (decide (l < ((D.words.length : Nat) : Int))) := tv_1 (ev_2 lenN ev_C dGt_int)
        unfold bAnd
        rw [a1, a2]
        cases t == c <;> rfl
      refine w_if (hand 4 2) (fun hb => ?_) fun b4 => ?_
      · rw [Bool.and_eq_true, decide_eq_true_iff] at hb
        have hb2 := ats_in (P := fun w => namB w = false ∧ WordOk w) (ns := bm5) (k := q % 5) bm5_ok (by omega) (by show q % 5 < ((5 : Nat) : Int); omega)
        exact w_of (st_put (xs := D.words.map .str) rfl ev_C (ev_2 (ev_L ev_aS rfl) (ev_2 (ev_V rfl) ev_C (dMod_int (by omega))) (ix_strs (ns := bm5) (by omega) (by show q % 5 < ((5 : Nat) : Int); omega))) (by rw [List.length_map]; omega)) (fin (i := 2) (bad_at h hb2.2 (part_2 h (by omega)) (by rw [fits_nam]; exact hb2.1)))
      refine w_if (hand 5 3) (fun hb => ?_) fun b5 => zero fun i x => fin
      rw [Bool.and_eq_true, decide_eq_true_iff] at hb
      have g0 : 0 ≤ q % (((D.words.length : Nat) : Int) - 3) := Int.emod_nonneg _ (by omega)
      have g1 : q % (((D.words.length : Nat) : Int) - 3) < ((D.words.length : Nat) : Int) - 3 := Int.emod_lt_of_pos _ (by omega)
      have hb2 := ats_in (P := fun w => numB w = false ∧ WordOk w) (ns := bn9) (k := q / 10 % 9) bn9_ok (by omega) (by show q / 10 % 9 < ((9 : Nat) : Int); omega)
      exact w_of (st_put (xs := D.words.map .str) rfl (ev_2 ev_C (ev_2 (ev_V rfl) (ev_2 lenN ev_C dSub_int) (dMod_int (by omega))) dAdd_int) (ev_call (ev_aC (ev_2 (ev_V rfl) ev_C (dDiv_int (by omega))) ev_aN) rfl (bad_number_ok (q / 10))) (by rw [List.length_map]; omega)) (fin (i := (3 + q % (((D.words.length : Nat) : Int) - 3)).toNat) (bad_at h hb2.2 (part_3 h (by omega) (by omega)) (by rw [fits_num]; exact hb2.1)))
    · rintro δ ⟨ws, hws, hdn, rfl⟩
      refine ⟨.rt (.str (Str.join " " ws)), ?_, _, rfl, _, ⟨ws, hws, hdn, rfl⟩, rfl⟩
      show sRet _ [.o (.val (.str D.row)), .o (.val (.int m)), .o (.val (.lst (ws.map .str))), .o (.val (.int t)), .o (.val (.int q))] = _
      unfold sRet
      rw [ev_M (z := " ") ev_C (ev_aC (x := .lst (ws.map .str)) (ev_V rfl) ev_aN) (joinD hws.join)]
      rfl
  exact ⟨x, hx, h1⟩
end
end MB
namespace MB
open PySem PySem.Spec PyProof.Rows L2
def gD (r : Str) : List Dat := match f_deed_of [.str r] with | some (.tup l) => l | _ => []
theorem Deed.Ok.good {D : Deed} (h : D.Ok) : f_deed_of [.str D.row] = some (.tup (gD D.row)) ∧ dT' gD D.row = D.dat := by
  have e : gD D.row = D.parts := by
    unfold gD
    rw [h.reads]
    rfl
  refine ⟨?_, ?_⟩
  · rw [e]
    exact h.reads
  · unfold dT'
    rw [e]
    rfl
structure TextOk (rs : List Str) : Prop where
  ne : rs ≠ []
  nl : ∀ r ∈ rs, 10 ∉ tl r
  len : ∀ r ∈ rs, r.length ≤ 112
  few : rs.length ≤ 61
  txt : Str.join "\n" rs ≠ ""
theorem TextOk.split {rs : List Str} (h : TextOk rs) : Txt.split (Str.join "\n" rs) "\n" = rs := by
  rw [nl_eq]
  exact split_join h.ne h.nl
theorem TextOk.small {rs : List Str} (h : TextOk rs) : (Str.join "\n" rs).length ≤ 1000000 := Nat.le_trans (rows_join h.len h.few).2 (by decide)
theorem TextOk.join {rs : List Str} (h : TextOk rs) : JoinOk "\n" rs = true := (rows_join h.len h.few).1
theorem join_two {rs : List Str} (h : 2 ≤ rs.length) : Str.join "\n" rs ≠ "" := by
  match rs, h with
  | x :: y :: r, _ =>
    intro e
    have e : x ++ "\n" ++ Str.join "\n" (y :: r) = "" := e
    have h2 := congrArg tl e
    rw [tl_app, tl_app, show tl "\n" = [10] by decide +kernel, show tl "" = [] by decide +kernel] at h2
    simp at h2
theorem row_ne {D : Deed} (h : D.Ok) : D.row ≠ "" := fun e => by
  have e : numW D.k ++ " " ++ Str.join " " (D.f.verb :: D.ps.map Pt.word) = "" := e
  have h2 := congrArg tl e
  rw [tl_app, tl_app, show tl " " = [32] by decide +kernel, show tl "" = [] by decide +kernel] at h2
  simp at h2
theorem deeds_text {Ds : List Deed} (h : ∀ D ∈ Ds, D.Ok) (hn : Ds ≠ []) (hl : Ds.length ≤ 61) : TextOk (Ds.map Deed.row) := by
  refine ⟨by simp [hn], fun r hr => ?_, fun r hr => ?_, by rw [List.length_map]; exact hl, ?_⟩
  · obtain ⟨D, hD, rfl⟩ := List.mem_map.mp hr
    exact (h D hD).rowOk.nl
  · obtain ⟨D, hD, rfl⟩ := List.mem_map.mp hr
    exact (h D hD).rowOk.len
  · match Ds, hn with
    | [D], _ => exact row_ne (h D (by simp))
    | D :: D' :: r, _ => exact join_two (by simp)
theorem log_emp : f_log_from [.str ""] = some (.lst []) ∧ fo_log_from [.str ""] = some (.lst []) := by
  have e : b_log_from none (ini 4 [.str ""]) = some (.ro (.lst [])) := by
    unfold b_log_from
    unfold sSeq
    rw [show sIf (b1 (e2 dEq (eV 0) (eC (.str "")))) sRetE sNil (ini 4 [.str ""]) = some (.ro (.lst [])) by
      unfold sIf
      rw [tv_1 (b := true) (ev_2 (ev_V rfl) ev_C (dEq_s (by decide +kernel)))]
      rfl]
  unfold f_log_from fo_log_from defF defO
  rw [e]
  exact ⟨rfl, rfl⟩
theorem read_ok {Ds : List Deed} (h : ∀ D ∈ Ds, D.Ok) (hl : Ds.length ≤ 60) : fo_log_from [.str (Str.join "\n" (Ds.map Deed.row))] = some (.lst (Ds.map Deed.dat)) := by
  by_cases hn : Ds = []
  · subst hn
    show fo_log_from [.str Str.empty] = _
    rw [← emp_eq]
    exact log_emp.2
  · have t := deeds_text h hn (by omega)
    have q := (log_good (g := gD) t.split t.txt t.small (fun r hr => by obtain ⟨D, hD, rfl⟩ := List.mem_map.mp hr; exact (h D hD).good.1) (by rw [List.length_map]; exact hl)).2
    rw [q, List.map_map]
    congr 2
    exact List.map_congr_left fun D hD => (h D hD).good.2
theorem ref_rows {rs : List Str} (t : TextOk rs) (hg : ∀ r ∈ rs, ∃ D : Deed, D.Ok ∧ r = D.row) (hl : rs.length ≤ 60) : f_l_refusal [.str (Str.join "\n" rs)] = some (.int 0) :=
  ref_good (g := gD) t.split t.txt t.small (fun r hr => by obtain ⟨D, hD, rfl⟩ := hg r hr; exact hD.good.1) hl
theorem ref_at {rs : List Str} (t : TextOk rs) {a : Nat} {x : Str} (hx : rs[a]? = some x) (hg : ∀ i r, i < a → rs[i]? = some r → ∃ D : Deed, D.Ok ∧ r = D.row) (ha : a ≤ 60) (hb : Bad x ∨ (a = 60 ∧ ∃ D : Deed, D.Ok ∧ x = D.row)) : f_l_refusal [.str (Str.join "\n" rs)] = some (.int ((a + 1 : Nat) : Int)) := by
  obtain ⟨hal, hax⟩ := List.getElem?_eq_some_iff.mp hx
  have e : rs = rs.take a ++ x :: rs.drop (a + 1) := by rw [← hax, List.getElem_cons_drop hal, List.take_append_drop]
  have hpl : (rs.take a).length = a := by rw [List.length_take]; omega
  have hs := t.split
  have hpre : ∀ r ∈ rs.take a, f_deed_of [.str r] = some (.tup (gD r)) := fun r hr => by
    obtain ⟨i, hi, ei⟩ := List.getElem_of_mem hr
    rw [hpl] at hi
    rw [List.getElem_take] at ei
    obtain ⟨D, hD, rfl⟩ := hg i r hi (by rw [List.getElem?_eq_getElem (by omega), ei])
    exact hD.good.1
  have key : ∀ o : Option (List Dat), f_deed_of [.str x] = some (match o with | none => .non | some l => .tup l) → (o = none ∨ 60 ≤ (rs.take a).length) → f_l_refusal [.str (Str.join "\n" rs)] = some (.int ((a + 1 : Nat) : Int)) := fun o ho hk => by
    have := ref_bad (t := Str.join "\n" rs) (x := x) (pre := rs.take a) (post := rs.drop (a + 1)) (g := gD) (o := o) (by rw [hs]; exact e) t.txt t.small hpre (by omega) ho hk
    rw [hpl] at this
    exact this
  rcases hb with ⟨ws, hws, hdn, rfl⟩ | ⟨h60, D, hD, rfl⟩
  · refine key none ?_ (.inl rfl)
    rw [hws.deed, hdn]
  · exact key (some D.parts) hD.reads (.inr (by omega))
theorem ref_x : f_l_refusal [.str "x"] = some (.int 1) := by
  have hx : Bad "x" := by
    refine ⟨["x"], ⟨by simp, fun w hw => by rw [List.mem_singleton.mp hw]; decide +kernel, by simp⟩, deedW_none fun f hf hl => ?_, rfl⟩
    exfalso
    simp only [forms, List.mem_cons, List.not_mem_nil, or_false] at hf
    rcases hf with rfl | rfl | rfl | rfl <;> exact absurd hl (by decide)
  have t : TextOk ["x"] := ⟨by simp, fun r hr => by rw [List.mem_singleton.mp hr]; decide +kernel, fun r hr => by rw [List.mem_singleton.mp hr]; decide +kernel, by simp, by decide +kernel⟩
  exact ref_at t (a := 0) (x := "x") rfl (fun i r hi => by omega) (by omega) (.inl hx)
theorem eqL_self {f : Dat → Dat → Option Bool} : ∀ {xs : List Dat}, (∀ x ∈ xs, f x x = some true) → eqL f xs xs = some true
  | [], _ => rfl
  | x :: xs, h => by
    unfold eqL
    rw [h x (by simp), eqL_self fun y hy => h y (List.mem_cons_of_mem _ hy)]
    rfl
theorem ne_log (Ds : List Deed) : dNe (.lst (Ds.map Deed.dat)) (.lst (Ds.map Deed.dat)) = some (.bl false) := by
  have e : eqN 8 (.lst (Ds.map Deed.dat)) (.lst (Ds.map Deed.dat)) = some true := by
    show eqL (eqN 7) _ _ = _
    refine eqL_self fun x hx => ?_
    obtain ⟨D, _, rfl⟩ := List.mem_map.mp hx
    show eqL (eqN 6) D.parts D.parts = _
    refine eqL_self fun y hy => ?_
    rcases parts_kind D y hy with ⟨i, rfl⟩ | ⟨z, rfl⟩
    · show some (i == i) = _
      simp
    · show some (z == z) = _
      simp
  unfold dNe
  rw [e]
  rfl
theorem eq_nil (Ds : List Deed) : dEq (.lst (Ds.map Deed.dat)) (.lst []) = some (.bl Ds.isEmpty) := by
  cases Ds with
  | nil => rfl
  | cons D r => rfl
theorem comp_deeds : ∀ (cs : List Int) (k : Nat) (s0 s1 : Slot), k + cs.length ≤ 1000 → ∃ Ds : List Deed, (∀ D ∈ Ds, D.Ok) ∧ Ds.length = cs.length ∧
    compD (gT 2 (gsC (gN 0) (gsC (gN 1) gsN))) bT (eCall 2 f_l_deed (aC (eV 1) (aC (eV 0) aN))) (((cs.map Dat.int).zipIdx k).map fun q => Dat.tup [.int (q.2 : Nat), q.1]) [s0, s1] = some (Ds.map Deed.dat)
  | [], k, s0, s1, _ => ⟨[], (fun D hD => by simp at hD), rfl, rfl⟩
  | c :: cs, k, s0, s1, h => by
    rw [List.length_cons] at h
    obtain ⟨D, hD, e⟩ := deed_draw c ((k : Nat) : Int) (by omega)
    obtain ⟨Ds, h1, h2, h3⟩ := comp_deeds cs (k + 1) (.o (.val (.int (k : Nat)))) (.o (.val (.int c))) (by omega)
    refine ⟨D :: Ds, fun D' hD' => ?_, by rw [List.length_cons, List.length_cons, h2], ?_⟩
    · rcases List.mem_cons.mp hD' with rfl | q
      · exact hD
      · exact h1 D' q
    · rw [List.map_cons, List.zipIdx_cons, List.map_cons]
      unfold compD
      show (eCall 2 f_l_deed (aC (eV 1) (aC (eV 0) aN)) [.o (.val (.int (k : Nat))), .o (.val (.int c))]).bind _ = _
      have hc : eCall 2 f_l_deed (aC (eV 1) (aC (eV 0) aN)) [.o (.val (.int (k : Nat))), .o (.val (.int c))] = some D.dat := ev_call (d := D.dat) (ev_aC (ev_V rfl) (ev_aC (ev_V rfl) ev_aN)) rfl e
      rw [hc]
      simp only [Option.bind_some]
      show ((compD _ bT _ _ [.o (.val (.int (k : Nat))), .o (.val (.int c))]).bind fun ys => some (D.dat :: ys)) = _
      rw [h3]
      rfl
theorem cell_ok (ns : List Int) : ∃ c, f_l_cell_at [.lst (ns.map .int), .int 0] = some (.int c) := by
  obtain ⟨d, h1, c, rfl⟩ : ∃ d, f_l_cell_at [.lst (ns.map .int), .int 0] = some d ∧ ∃ c, d = .int c := by
    refine fn_W (w_ifr (b := decide ((0 : Int) < ((ns.map Dat.int).length : Nat))) (d := .int (ati ns 0)) (tv_1 (ev_2 (ev_V rfl) (ev_B (ev_aC (ev_V rfl) ev_aN) len_l) dLt_int)) (fun hb => ?_) (fun _ => ⟨_, rfl, _, rfl⟩) fun _ => w_ret ev_C ⟨_, rfl, _, rfl⟩)
    have := of_decide_eq_true hb
    rw [List.length_map] at this
    exact ev_2 (ev_V rfl) (ev_V rfl) (ix_ints (by omega) (by omega))
  exact ⟨c, h1⟩
end MB
namespace MB
open PySem PySem.Spec PyProof.Rows L2
theorem st_asgO {δ : Sto} {i n : Nat} {f : List Dat → Option O0} {fl : FA} {ds : List Dat} {x : O0} (h : fl δ = some ds) (hn : ds.length = n) (hf : f ds = some x) : sAsgO i n f fl δ = some (.nx (δ.set i (.o x))) := by
  unfold sAsgO
  rw [h]
  simp only [Option.bind_some]
  rw [if_pos hn, hf]
  rfl
theorem tv_and {δ : Sto} {t u : FT} {b b' : Bool} (h : t δ = some b) (h2 : u δ = some b') : bAnd t u δ = some (b && b') := by
  unfold bAnd
  rw [h]
  cases b with
  | true => exact h2
  | false => rfl
theorem ixN_strs {δ : Sto} {i : Nat} {fb : FE} {ss : List Str} {j : Int} (hi : δ[i]? = some (.o (.lst (ss.map .str)))) (hb : fb δ = some (.int j)) (h0 : 0 ≤ j) (h1 : j < (ss.length : Nat)) : eIxN i fb δ = some (.str (ats ss j)) := by
  unfold eIxN
  rw [hi, hb]
  exact ix_strs h0 h1
theorem lenN_strs {δ : Sto} {i : Nat} {ss : List Str} (hi : δ[i]? = some (.o (.lst (ss.map .str)))) : eLenN i δ = some (.int (ss.length : Nat)) := by
  unfold eLenN
  rw [hi]
  show some (Dat.int (((ss.map Dat.str).length : Nat) : Int)) = _
  rw [List.length_map]
theorem ats_get {ss : List Str} {j : Nat} (h : j < ss.length) : ss[j]? = some (ats ss (j : Nat)) := by
  unfold ats
  rw [Int.toNat_natCast, List.getD_eq_getElem?_getD, List.getElem?_eq_getElem h]
  rfl
theorem cut_1_61 (ns : List Int) : ∃ cs : List Int, dSl (.lst (ns.map .int)) (some 1) (some 61) = some (.lst (cs.map .int)) ∧ cs.length ≤ 60 := by
  refine ⟨(ns.drop (HT.sIx (ns.map Dat.int).length 0 (some 1))).take (HT.sIx (ns.map Dat.int).length (ns.map Dat.int).length (some 61) - HT.sIx (ns.map Dat.int).length 0 (some 1)), ?_, ?_⟩
  · show some (Dat.lst (cutD (ns.map .int) (some 1) (some 61))) = _
    unfold cutD
    rw [List.map_take, List.map_drop]
  · rw [List.length_take, List.length_drop]
    have a : HT.sIx (ns.map Dat.int).length 0 (some 1) = min 1 (ns.map Dat.int).length := rfl
    have b : HT.sIx (ns.map Dat.int).length (ns.map Dat.int).length (some 61) = min 61 (ns.map Dat.int).length := rfl
    rw [a, b, List.length_map]
    omega
theorem many_rows {R : List Str} (h : R ≠ []) : (((List.replicate 60 R).flatten).take 60).length = 60 ∧ ∀ r ∈ ((List.replicate 60 R).flatten).take 60, r ∈ R := by
  constructor
  · rw [List.length_take, List.length_flatten, List.map_replicate, List.sum_replicate_nat]
    have : 1 ≤ R.length := by
      cases R with
      | nil => exact absurd rfl h
      | cons _ _ => simp
    omega
  · intro r hr
    have := List.mem_of_mem_take hr
    rw [List.mem_flatten] at this
    obtain ⟨l, hl, hr⟩ := this
    rw [List.eq_of_mem_replicate hl] at hr
    exact hr
theorem Bad.nl {x : Str} (h : Bad x) : 10 ∉ tl x ∧ x.length ≤ 112 := by
  obtain ⟨ws, hws, _, rfl⟩ := h
  exact ⟨hws.nl, hws.len⟩
theorem math (ns : List Int) (hlen : ns.length ≤ 63) : f_law [.lst (ns.map .int)] = some (.bl true) := by
  obtain ⟨d, h1, rfl⟩ : ∃ d, f_law [.lst (ns.map .int)] = some d ∧ d = .bl true := by
    obtain ⟨cs, hcs, hcl⟩ := cut_1_61 ns
    obtain ⟨Ds, hD, hDl, hDc⟩ := comp_deeds cs 0 .no .no (by omega)
    have hlog : eComp (iEnum (eSl (eV 0) (oS (eC (.int 1))) (oS (eC (.int 61))))) (gT 2 (gsC (gN 0) (gsC (gN 1) gsN))) bT (eCall 2 f_l_deed (aC (eV 1) (aC (eV 0) aN))) 2 [] (ini 9 [.lst (ns.map .int)]) = some (.lst (Ds.map Deed.dat)) := by
      have e : eSl (eV 0) (oS (eC (.int 1))) (oS (eC (.int 61))) (ini 9 [.lst (ns.map .int)]) = some (.lst (cs.map .int)) := hcs
      exact ev_comp (ds := enumD (cs.map .int)) (it_enum e) (by rw [enum_len, List.length_map]; omega) hDc
    refine fn_W (w_seq (st_asg hlog) ?_)
    clear hlog hDc
    have hDl : Ds.length ≤ 60 := by omega
    generalize hT : Str.join "\n" (Ds.map Deed.row) = T
    have hrows : ∀ s2 s3 s4 s5 s6 s7 s8 s9 : Slot, sNewE 2 (eComp (iSeq (eV 1)) (gN 0) bT (eCall 1 f_l_row (aC (eV 0) aN)) 1 []) [.o (.val (.lst (ns.map .int))), .o (.val (.lst (Ds.map Deed.dat))), s2, s3, s4, s5, s6, s7, s8, s9] = some (.nx [.o (.val (.lst (ns.map .int))), .o (.val (.lst (Ds.map Deed.dat))), .o (.lst ((Ds.map Deed.row).map .str)), s3, s4, s5, s6, s7, s8, s9]) := by
      intro s2 s3 s4 s5 s6 s7 s8 s9
      have e : eComp (iSeq (eV 1)) (gN 0) bT (eCall 1 f_l_row (aC (eV 0) aN)) 1 [] [.o (.val (.lst (ns.map .int))), .o (.val (.lst (Ds.map Deed.dat))), s2, s3, s4, s5, s6, s7, s8, s9] = some (.lst ((Ds.map Deed.row).map .str)) := by
        refine ev_comp (ds := Ds.map Deed.dat) rfl (by rw [List.length_map]; omega) ?_
        rw [List.map_map]
        exact comp_of (D := Deed.dat) (R := Dat.str ∘ Deed.row) Ds .no fun D hDm => ev_call (ev_aC (ev_V rfl) ev_aN) rfl (hD D hDm).l_row
      unfold sNewE
      rw [e]
      rfl
    have hlt := log_text_ok hD (by omega)
    rw [hT] at hlt
    refine w_seq (hrows .no .no .no .no .no .no .no .no) (w_seq (st_asg (d := .lst (Ds.map Deed.dat)) (ev_B (ev_aC (ev_V rfl) ev_aN) rfl)) (w_seq (st_asg (ev_call (ev_aC (ev_V rfl) ev_aN) rfl hlt)) ?_))
    have hjr : JoinOk "\n" (Ds.map Deed.row) = true := (rows_join (fun r hr => by obtain ⟨D, hDm, rfl⟩ := List.mem_map.mp hr; exact (hD D hDm).rowOk.len) (by rw [List.length_map]; omega)).1
    have hjd := joinD hjr
    rw [hT] at hjd
    refine w_seqI (fun δ => δ = [.o (.val (.lst (ns.map .int))), .o (.val (.lst (Ds.map Deed.dat))), .o (.lst ((Ds.map Deed.row).map .str)), .o (.val (.lst (Ds.map Deed.dat))), .o (.val (.str T)), .no, .no, .no, .no, .no]) ?_ ?_
    · refine w_ifT (b := false) ?_ (fun z => by cases z) (fun _ => w_nil ⟨_, rfl, rfl⟩)
      exact tv_or_f (tv_not (b := true) (tv_1 rfl)) (tv_or_f (tv_1 (ev_2 (ev_V rfl) (ev_M ev_C (ev_aC (ev_V rfl) ev_aN) hjd) (dNe_str.trans (by simp)))) (tv_1 (ev_2 (ev_V rfl) (ev_V rfl) (ne_log Ds))))
    rintro δ rfl
    have hread := read_ok hD hDl
    rw [hT] at hread
    refine w_seqI (fun δ => ∃ s5 s6 : Slot, δ = [.o (.val (.lst (ns.map .int))), .o (.val (.lst (Ds.map Deed.dat))), .o (.lst ((Ds.map Deed.row).map .str)), .o (.val (.lst (Ds.map Deed.dat))), .o (.val (.str T)), s5, s6, .no, .no, .no]) ?_ ?_
    · refine w_for (fun i δ => ∃ s5 s6 : Slot, δ = [.o (.val (.lst (ns.map .int))), .o (.val (.lst (Ds.map Deed.dat))), .o (.lst ((Ds.map Deed.row).map .str)), .o (.val (.lst (Ds.map Deed.dat))), .o (.val (.str T)), s5, s6, .no, .no, .no]) (it_rg1 (j := 2) ev_C (by omega)) ⟨_, _, rfl⟩ ?_ ?_
      · rintro j d δ hd ⟨s5, s6, rfl⟩
        obtain ⟨rfl, hj⟩ := rng_get hd
        refine ⟨_, rfl, w_seq (st_asgO (x := .lst (Ds.map Deed.dat)) (ev_aC (ev_V rfl) ev_aN) rfl hread) ?_⟩
        refine w_seqI (fun δ => δ = [.o (.val (.lst (ns.map .int))), .o (.val (.lst (Ds.map Deed.dat))), .o (.lst ((Ds.map Deed.row).map .str)), .o (.val (.lst (Ds.map Deed.dat))), .o (.val (.str T)), .o (.val (.int (0 + (j : Nat)))), .o (.lst (Ds.map Deed.dat)), .no, .no, .no]) ?_ ?_
        · exact w_ifT (b := false) (tv_not (b := true) (tv_1 (ev_call (ev_aC (ev_V rfl) (ev_aC (ev_V rfl) ev_aN)) rfl (alike_ok Ds)))) (fun z => by cases z) (fun _ => w_nil ⟨_, rfl, rfl⟩)
        rintro δ rfl
        exact w_of (st_app (xs := Ds.map Deed.dat) (d := .tup [.str "bill", .int 0]) rfl (ev_T (ev_aC ev_C (ev_aC ev_C ev_aN)) rfl) (by rw [List.length_map]; omega)) ⟨_, rfl, _, _, rfl⟩
      · rintro δ ⟨s5, s6, rfl⟩
        exact ⟨_, rfl, _, _, rfl⟩
    rintro δ ⟨s5, s6, rfl⟩
    obtain ⟨c0, hc0⟩ := cell_ok ns
    obtain ⟨N, hN, hN0, hN1⟩ := mixed_ok c0 81 (by omega)
    refine w_seq (st_asg (d := .int N) (ev_call (ev_aC (ev_call (ev_aC (ev_V rfl) (ev_aC ev_C ev_aN)) rfl hc0) (ev_aC ev_C ev_aN)) rfl hN)) ?_
    refine w_ifr (b := Ds.isEmpty) (d := .bl true) (tv_1 (ev_2 (ev_V rfl) (ev_L ev_aN rfl) (eq_nil Ds))) (fun _ => ev_2 (ev_call (ev_aC ev_C ev_aN) rfl ref_x) ev_C rfl) (fun _ => ⟨_, rfl, rfl⟩) fun hne => ?_
    have hne : Ds ≠ [] := by
      intro e
      rw [e] at hne
      cases hne
    have hRne : Ds.map Deed.row ≠ [] := by simp [hne]
    have hgood : ∀ r ∈ Ds.map Deed.row, ∃ D : Deed, D.Ok ∧ r = D.row := fun r hr => by
      obtain ⟨D, hDm, rfl⟩ := List.mem_map.mp hr
      exact ⟨D, hD D hDm, rfl⟩
    have hRl : (Ds.map Deed.row).length = Ds.length := List.length_map _
    have hn1 : 1 ≤ Ds.length := by
      cases Ds with
      | nil => exact absurd rfl hne
      | cons _ _ => simp
    generalize hR : Ds.map Deed.row = R at *
    have nlR : ∀ r ∈ R, 10 ∉ tl r ∧ r.length ≤ 112 := fun r hr => by
      obtain ⟨D, hDm, rfl⟩ := hgood r hr
      exact ⟨hDm.rowOk.nl, hDm.rowOk.len⟩
    have a0 : ∀ j : Int, 0 ≤ j → j < (R.length : Nat) → ats R j ∈ R := fun j h0 hj => ats_in (P := fun x => x ∈ R) (fun _ z => z) h0 hj
    obtain ⟨hMl, hMm⟩ := many_rows hRne
    refine w_ifR (b := (N % 8 == 0)) (d := .bl true) (tv_1 (ev_2 (ev_2 (ev_V rfl) ev_C (dMod_int (by omega))) ev_C dEq_int)) (fun _ => ?_) (fun _ => ⟨_, rfl, rfl⟩) fun hb8 => ?_
    · generalize hM : ((List.replicate 60 R).flatten).take 60 = M at hMl hMm
      have tM : TextOk M := ⟨fun e => by rw [e] at hMl; simp at hMl, fun r hr => (nlR r (hMm r hr)).1, fun r hr => (nlR r (hMm r hr)).2, by omega, join_two (by omega)⟩
      have tM2 : TextOk (M ++ [ats R 0]) := ⟨by simp, fun r hr => by
          rcases List.mem_append.mp hr with q | q
          · exact (nlR r (hMm r q)).1
          · rw [List.mem_singleton.mp q]; exact (nlR _ (a0 0 (by omega) (by omega))).1, fun r hr => by
          rcases List.mem_append.mp hr with q | q
          · exact (nlR r (hMm r q)).2
          · rw [List.mem_singleton.mp q]; exact (nlR _ (a0 0 (by omega) (by omega))).2, by rw [List.length_append]; simp; omega, join_two (by rw [List.length_append]; simp; omega)⟩
      have r1 := ref_rows tM (fun r hr => hgood r (hMm r hr)) (by omega)
      have r2 := ref_at tM2 (a := 60) (x := ats R 0) (by rw [List.getElem?_append_right (by omega), hMl]; rfl) (fun i r hi hr => by
          rw [List.getElem?_append_left (by omega)] at hr
          exact hgood r (hMm r (List.mem_of_getElem? hr))) (by omega) (.inr ⟨rfl, hgood _ (a0 0 (by omega) (by omega))⟩)
      have hmul : eSl (eMulN 2 (eC (.int 60))) oN (oS (eC (.int 60))) [.o (.val (.lst (ns.map .int))), .o (.val (.lst (Ds.map Deed.dat))), .o (.lst (R.map .str)), .o (.val (.lst (Ds.map Deed.dat))), .o (.val (.str T)), s5, s6, .o (.val (.int N)), .no, .no] = some (.lst (M.map .str)) := by
        have e : eMulN 2 (eC (.int 60)) [.o (.val (.lst (ns.map .int))), .o (.val (.lst (Ds.map Deed.dat))), .o (.lst (R.map .str)), .o (.val (.lst (Ds.map Deed.dat))), .o (.val (.str T)), s5, s6, .o (.val (.int N)), .no, .no] = some (.lst (List.replicate 60 (R.map Dat.str)).flatten) :=
          if_pos ⟨by decide, by decide, by rw [List.length_map]; omega⟩
        have e2 := ev_sl0 (fb := eC (.int 60)) (k := 60) e ev_C (by omega)
        rw [e2, ← hM, List.map_take, List.map_flatten, List.map_replicate]
        rfl
      have ha8 := st_asg (i := 8) hmul
      show sSeq _ _ [.o (.val (.lst (ns.map .int))), .o (.val (.lst (Ds.map Deed.dat))), .o (.lst (R.map .str)), .o (.val (.lst (Ds.map Deed.dat))), .o (.val (.str T)), s5, s6, .o (.val (.int N)), .no, .no] = _
      unfold sSeq
      rw [ha8]
      simp only
      show sRet _ [.o (.val (.lst (ns.map .int))), .o (.val (.lst (Ds.map Deed.dat))), .o (.lst (R.map .str)), .o (.val (.lst (Ds.map Deed.dat))), .o (.val (.str T)), s5, s6, .o (.val (.int N)), .o (.val (.lst (M.map .str))), .no] = _
      have f1 : e2 dEq (eCall 1 f_l_refusal (aC (eM gJoin (eC (.str "\n")) (aC (eV 8) aN)) aN)) (eC (.int 0)) [.o (.val (.lst (ns.map .int))), .o (.val (.lst (Ds.map Deed.dat))), .o (.lst (R.map .str)), .o (.val (.lst (Ds.map Deed.dat))), .o (.val (.str T)), s5, s6, .o (.val (.int N)), .o (.val (.lst (M.map .str))), .no] = some (.bl true) :=
        ev_2 (ev_call (ev_aC (ev_M ev_C (ev_aC (ev_V rfl) ev_aN) (joinD tM.join)) ev_aN) rfl r1) ev_C rfl
      have f2 : e2 dEq (eCall 1 f_l_refusal (aC (eM gJoin (eC (.str "\n")) (aC (e2 dAdd (eV 8) (eL (aC (eIxN 2 (eC (.int 0))) aN))) aN)) aN)) (eC (.int 61)) [.o (.val (.lst (ns.map .int))), .o (.val (.lst (Ds.map Deed.dat))), .o (.lst (R.map .str)), .o (.val (.lst (Ds.map Deed.dat))), .o (.val (.str T)), s5, s6, .o (.val (.int N)), .o (.val (.lst (M.map .str))), .no] = some (.bl true) := by
        refine ev_2 (ev_call (ev_aC (ev_M ev_C (ev_aC (x := .lst ((M ++ [ats R 0]).map .str)) (ev_2 (ev_V rfl) (ev_L (ev_aC (ixN_strs (ss := R) (j := 0) rfl ev_C (by omega) (by omega)) ev_aN) rfl) ?_) ev_aN) (joinD tM2.join)) ev_aN) rfl r2) ev_C rfl
        rw [List.map_append]
        exact if_pos (by rw [List.length_map, sizeLine_eq]; simp; omega)
      unfold sRet
      rw [ev_and_t f1 f2]
      rfl
    have b0 : 0 ≤ N / 8 % ((R.length : Nat) : Int) := Int.emod_nonneg _ (by omega)
    have b1 : N / 8 % ((R.length : Nat) : Int) < (R.length : Nat) := Int.emod_lt_of_pos _ (by omega)
    refine w_seq (st_asg (d := .int (N / 8 % ((R.length : Nat) : Int))) (ev_2 (ev_2 (ev_V rfl) ev_C (dDiv_int (by omega))) (lenN_strs (ss := R) rfl) (dMod_int (by omega)))) ?_
    obtain ⟨a, ha⟩ : ∃ a : Nat, N / 8 % ((R.length : Nat) : Int) = (a : Nat) := ⟨(N / 8 % ((R.length : Nat) : Int)).toNat, by omega⟩
    rw [ha] at b0 b1 ⊢
    have hal : a < R.length := by omega
    obtain ⟨Da, hDa, hrow⟩ := hgood _ (a0 (a : Nat) b0 b1)
    obtain ⟨x, hx, hsp⟩ := spoilt_ok hDa (N / 500) (by omega)
    rw [← hrow] at hsp
    refine w_seq (st_put (xs := R.map .str) (v := .str x) rfl (ev_V rfl) (ev_call (ev_aC (ixN_strs (ss := R) rfl (ev_V rfl) b0 b1) (ev_aC (ev_2 (ev_V rfl) ev_C (dDiv_int (by omega))) ev_aN)) rfl hsp) ⟨b0, by rw [List.length_map]; exact b1⟩) ?_
    rw [Int.toNat_natCast, show (R.map Dat.str).set a (.str x) = (R.set a x).map .str by rw [List.map_set]]
    have hSl : (R.set a x).length = R.length := List.length_set
    show W _ [.o (.val (.lst (ns.map .int))), .o (.val (.lst (Ds.map Deed.dat))), .o (.lst ((R.set a x).map .str)), .o (.val (.lst (Ds.map Deed.dat))), .o (.val (.str T)), s5, s6, .o (.val (.int N)), .no, .o (.val (.int (a : Nat)))] _
    refine w_ifr (b := (((R.length : Nat) : Int) == 1) && (ats (R.set a x) 0 == "")) (d := .bl true) (tv_and (tv_1 (ev_2 ((lenN_strs (ss := R.set a x) rfl).trans (by rw [hSl])) ev_C dEq_int)) (tv_1 (ev_2 (ixN_strs (ss := R.set a x) (j := 0) rfl ev_C (by omega) (by rw [hSl]; omega)) ev_C dEq_str))) (fun _ => ev_2 (ev_call (ev_aC ev_C ev_aN) rfl log_emp.1) (ev_L ev_aN rfl) rfl) (fun _ => ⟨_, rfl, rfl⟩) fun hb1 => ?_
    have hxa : (R.set a x)[a]? = some x := List.getElem?_set_self hal
    refine w_seqI (fun δ => ∃ Q : List Str, Q.length = R.length ∧ (∀ i r, i < a → Q[i]? = some r → r ∈ R) ∧ Q[a]? = some x ∧ (∀ r ∈ Q, 10 ∉ tl r ∧ r.length ≤ 112) ∧ δ = [.o (.val (.lst (ns.map .int))), .o (.val (.lst (Ds.map Deed.dat))), .o (.lst (Q.map .str)), .o (.val (.lst (Ds.map Deed.dat))), .o (.val (.str T)), s5, s6, .o (.val (.int N)), .no, .o (.val (.int (a : Nat)))]) ?_ ?_
    · have p1 : ∀ i r, i < a → (R.set a x)[i]? = some r → r ∈ R := fun i r hi hr => by
        rw [List.getElem?_set_ne (by omega)] at hr
        exact List.mem_of_getElem? hr
      have p2 : ∀ r ∈ R.set a x, 10 ∉ tl r ∧ r.length ≤ 112 := fun r hr => by
        rcases List.mem_or_eq_of_mem_set hr with q | rfl
        · exact nlR r q
        · exact hx.nl
      refine w_if (b := decide (((a : Nat) : Int) + 1 < ((R.length : Nat) : Int)) && (N / 300000 % 2 == 1)) (tv_and (tv_1 (ev_2 (ev_2 (ev_V rfl) ev_C dAdd_int) ((lenN_strs (ss := R.set a x) rfl).trans (by rw [hSl])) dLt_int)) (tv_1 (ev_2 (ev_2 (ev_2 (ev_V rfl) ev_C (dDiv_int (by omega))) ev_C (dMod_int (by omega))) ev_C dEq_int))) (fun hb => ?_) (fun _ => w_nil ⟨_, rfl, R.set a x, hSl, p1, hxa, p2, rfl⟩)
      rw [Bool.and_eq_true, decide_eq_true_iff] at hb
      refine w_of (st_put (xs := (R.set a x).map .str) (v := .str "") rfl (ev_2 ((lenN_strs (ss := R.set a x) rfl).trans (by rw [hSl])) ev_C dSub_int) ev_C ⟨by omega, by rw [List.length_map, hSl]; omega⟩) ⟨_, rfl, (R.set a x).set (R.length - 1) "", by rw [List.length_set, hSl], fun i r hi hr => ?_, ?_, fun r hr => ?_, ?_⟩
      · rw [List.getElem?_set_ne (by omega)] at hr
        exact p1 i r hi hr
      · rw [List.getElem?_set_ne (by omega)]
        exact hxa
      · rcases List.mem_or_eq_of_mem_set hr with q | rfl
        · exact p2 r q
        · exact ⟨by decide +kernel, by decide +kernel⟩
      · have e : ((R.set a x).map Dat.str).set (((R.length : Nat) : Int) - 1).toNat (.str "") = ((R.set a x).set (R.length - 1) "").map .str := by
          rw [show (((R.length : Nat) : Int) - 1).toNat = R.length - 1 by omega, List.map_set (l := R.set a x)]
        rw [e]
        rfl
    rintro δ ⟨Q, hQl, hQg, hQa, hQn, rfl⟩
    have tQ : TextOk Q := by
      refine ⟨fun e => by rw [e] at hQl; simp at hQl; omega, fun r hr => (hQn r hr).1, fun r hr => (hQn r hr).2, by omega, ?_⟩
      by_cases h2 : 2 ≤ Q.length
      · exact join_two h2
      · have hl1 : R.length = 1 := by omega
        have ha0 : a = 0 := by omega
        subst ha0
        match Q, hQl, hQa with
        | [y], _, hy =>
          have hy : y = x := Option.some.inj hy
          subst hy
          show y ≠ ""
          rw [hl1] at hb1
          have e0 : ats (R.set 0 y) 0 = y := by
            have := ats_get (ss := R.set 0 y) (j := 0) (by rw [hSl]; omega)
            rw [hxa] at this
            exact (Option.some.inj this).symm
          rw [e0] at hb1
          intro e
          rw [e] at hb1
          exact absurd hb1 (by decide +kernel)
        | [], h, _ => simp at h; omega
        | _ :: _ :: _, _, _ => simp at h2
    have rQ := ref_at tQ hQa (fun i r hi hr => hgood r (hQg i r hi hr)) (by omega) (.inl hx)
    refine ⟨.rt (.bl true), ?_, _, rfl, rfl⟩
    show sRet _ [.o (.val (.lst (ns.map .int))), .o (.val (.lst (Ds.map Deed.dat))), .o (.val (.lst (Q.map .str))), .o (.val (.lst (Ds.map Deed.dat))), .o (.val (.str T)), s5, s6, .o (.val (.int N)), .no, .o (.val (.int (a : Nat)))] = _
    have fin : e2 dEq (eCall 1 f_l_refusal (aC (eM gJoin (eC (.str "\n")) (aC (eV 2) aN)) aN)) (e2 dAdd (eV 9) (eC (.int 1))) [.o (.val (.lst (ns.map .int))), .o (.val (.lst (Ds.map Deed.dat))), .o (.val (.lst (Q.map .str))), .o (.val (.lst (Ds.map Deed.dat))), .o (.val (.str T)), s5, s6, .o (.val (.int N)), .no, .o (.val (.int (a : Nat)))] = some (.bl true) :=
      ev_2 (ev_call (ev_aC (ev_M ev_C (ev_aC (ev_V rfl) ev_aN) (joinD tQ.join)) ev_aN) rfl rQ) (ev_2 (ev_V rfl) ev_C dAdd_int) (dEq_int.trans (by simp))
    unfold sRet
    rw [fin]
    rfl
  exact h1
end MB
namespace MB
open PySem PySem.Spec PyProof.Rows L2
seal PB1 PB PP PPA PPT PPW PPG PPGs PPI PPO PIfs PRc
def top (i : Nat) : Stmt := PySem.Challenge.pw_meterbook_k20_log_texts.main.body.getD i (.Pass ⟨0, 0, 0, 0⟩)
abbrev s_l_mixed : Stmt := top 27
abbrev s_l_draws : Stmt := top 28
abbrev s_l_name : Stmt := top 29
abbrev s_l_deed : Stmt := top 30
abbrev s_l_row : Stmt := top 31
abbrev s_row_of : Stmt := top 21
abbrev s_log_text : Stmt := top 22
abbrev s_made_of : Stmt := top 20
abbrev s_is_number : Stmt := top 19
abbrev s_is_name : Stmt := top 18
abbrev s_fits : Stmt := top 17
abbrev s_values_of : Stmt := top 16
abbrev s_deed_of : Stmt := top 24
abbrev s_log_from : Stmt := top 23
abbrev s_l_alike : Stmt := top 35
abbrev s_l_cell_at : Stmt := top 26
abbrev s_l_refusal : Stmt := top 34
abbrev s_l_bad_number : Stmt := top 33
abbrev s_l_spoilt : Stmt := top 32
abbrev s_law : Stmt := top 36
structure Zs (K : PySem.W.Frag) (mg : Str → Option Value) : Prop where
  range : mg "range" = none
  tuple : mg "tuple" = none
  str : mg "str" = none
  list : mg "list" = none
  all : mg "all" = none
  len : mg "len" = none
  LONGEST_NUMBER : ∃ t, mg "LONGEST_NUMBER" = some (.int 12 t)
  DIGITS : ∃ t, mg "DIGITS" = some (.str "0123456789" t)
  LONGEST_NAME : ∃ t, mg "LONGEST_NAME" = some (.int 8 t)
  LETTERS : ∃ t, mg "LETTERS" = some (.str "abcdefghijklmnopqrstuvwxyz" t)
  zip : mg "zip" = none
  int : mg "int" = none
  DEED_FORMS : ∃ q, mg "DEED_FORMS" = some (.ref q) ∧ SqT K (fun _ => none) q ((["NUMBER tell NAME NUMBER NUMBER", "NUMBER change NAME NUMBER NUMBER NUMBER NUMBER", "NUMBER wrong NAME NUMBER", "NUMBER bill"] : List Str).map .str)
  enumerate : mg "enumerate" = none
  MOST_ROWS : ∃ t, mg "MOST_ROWS" = some (.int 60 t)
  isinstance : mg "isinstance" = none
  bool : mg "bool" = none
  ValueError : mg "ValueError" = none
abbrev s_init : Stmt := match top 8 with | .ClassDef _ _ _ b _ _ _ _ _ _ _ => b.getD 0 (.Pass ⟨0, 0, 0, 0⟩) | s => s
structure Xs (K : PySem.W.Frag) (mg : Str → Option Value) (C CM fI c1 c2 c3 c4 c5 c6 : Addr) : Prop where
  q : BadQ K C CM [c1, c2, c3, c4, c5, c6]
  i : BadI K C CM fI s_init
  mB : mg "BadRow" = some (.ref C)
  mM : mg "MeterError" = some (.ref CM)
  m1 : mg "BadValue" = some (.ref c1)
  m2 : mg "NoCounter" = some (.ref c2)
  m3 : mg "NoMark" = some (.ref c3)
  m4 : mg "TooEarly" = some (.ref c4)
  m5 : mg "TooFast" = some (.ref c5)
  m6 : mg "TooLate" = some (.ref c6)
section
variable {P : Program} {w : World} {K : PySem.W.Frag} {mg : Str → Option Value} {base : Heap} {cl : Nat → Addr}
theorem sc_l_mixed : FnScope ["_law_number", "_law_k", "_law_once"] ["_law_number", "_law_k"] (defScope s_l_mixed) := ⟨rfl, rfl, rfl, by decide +kernel, rfl, by decide +kernel, by decide +kernel⟩
theorem bd_l_mixed (Z : Zs K mg)  (f : Addr) (cdv : Value) (A : Around) (outer : List Env) (s : Shared) (H : Hp) (E : XK) (hr : Room 0 (A.deeper (envOfC "_law_mixed" (defScope s_l_mixed) s.heap.objs.size f cdv))) :
    PB cl (cxOf CX0 P w K mg base ["_law_number", "_law_k", "_law_once"] "_law_mixed" (defScope s_l_mixed) f cdv A outer s H E).nox (defBody s_l_mixed) b_l_mixed := by
  have hu := hu_of hr
  have hv := hr.units
  have nd := sc_l_mixed.nd
  exact (pb_cons (pb_asg (i := 2) nd rfl (by first | exact Or.inl rfl | exact Or.inr rfl) (pp_mod (pp_mul (pp_add (pp_add (pp_mod (pp_var (pv 0)) pp_int) (pp_mul pp_int (pp_var (pv 1)))) pp_int) pp_int) pp_int))
      (pb_one (pb_ret (pp_mod (pp_mul (pp_var (pv 2)) (pp_add (pp_add (pp_mod (pp_var (pv 2)) pp_int) (pp_var (pv 1))) pp_int)) pp_int))))
theorem ok_l_mixed {f : Addr} {fd : FuncData} (Fx : Fun K "_law_mixed" "_law_mixed" s_l_mixed f fd) (Z : Zs K mg)  : FnOk P w K mg base CX0 1 f fd ["_law_number", "_law_k"] (spD K cl 2 f_l_mixed) :=
  fn_pure (N := ["_law_number", "_law_k", "_law_once"]) (k := 0) Fx sc_l_mixed (bd_l_mixed Z  f)
theorem sc_l_draws : FnScope ["_law_cell", "_law_many", "_law_size", "_law_found", "_law_left", "_law_k"] ["_law_cell", "_law_many", "_law_size"] (defScope s_l_draws) := ⟨rfl, rfl, rfl, by decide +kernel, rfl, by decide +kernel, by decide +kernel⟩
theorem bd_l_draws (Z : Zs K mg) (c_l_mixed : Cal P w K mg base cl "_law_mixed" 1 ["_law_number", "_law_k"] f_l_mixed) (f : Addr) (cdv : Value) (A : Around) (outer : List Env) (s : Shared) (H : Hp) (E : XK) (hr : Room 1 (A.deeper (envOfC "_law_draws" (defScope s_l_draws) s.heap.objs.size f cdv))) :
    PB cl (cxOf CX0 P w K mg base ["_law_cell", "_law_many", "_law_size", "_law_found", "_law_left", "_law_k"] "_law_draws" (defScope s_l_draws) f cdv A outer s H E).nox (defBody s_l_draws) b_l_draws := by
  have hu := hu_of hr
  have hv := hr.units
  have nd := sc_l_draws.nd
  exact (pb_cons (pb_newL (i := 3) nd rfl (by first | exact Or.inl rfl | exact Or.inr rfl))
      (pb_cons (pb_asg (i := 4) nd rfl (by first | exact Or.inl rfl | exact Or.inr rfl) (pp_div (pp_var (pv 0)) pp_int))
      (pb_cons (pb_for PassesOwn.never rfl (ppi_range1 rfl Z.range (pp_var (pv 1))) (ppg_name (i := 5) nd rfl (by first | exact Or.inl rfl | exact Or.inr rfl)) (pb_one (pb_if (ppt_eq hv (pp_mod (pp_var (pv 0)) pp_int) pp_int) (pb_cons (pb_app (pv 3) (pp_mod (pp_var (pv 4)) (pp_var (pv 2))) (fun ho ha => pe_bm PySem.F.plainAttrs_list PySem.F.slot_list_append PySem.F.type_list_append mt_append ho ha))
      (pb_one (pb_asg (i := 4) nd rfl (by first | exact Or.inl rfl | exact Or.inr rfl) (pp_div (pp_var (pv 4)) (pp_var (pv 2)))))) (pb_one (pb_app (pv 3) (pp_mod (pp_callC c_l_mixed hr rfl (ppa_cons (pp_callC c_l_mixed hr rfl (ppa_cons (pp_var (pv 0)) (ppa_cons (pp_var (pv 5)) ppa_nil))) (ppa_cons pp_int ppa_nil))) (pp_var (pv 2))) (fun ho ha => pe_bm PySem.F.plainAttrs_list PySem.F.slot_list_append PySem.F.type_list_append mt_append ho ha))))))
      (pb_one (pb_retN (pv 3))))))
theorem ok_l_draws {f : Addr} {fd : FuncData} (Fx : Fun K "_law_draws" "_law_draws" s_l_draws f fd) (Z : Zs K mg) (c_l_mixed : Cal P w K mg base cl "_law_mixed" 1 ["_law_number", "_law_k"] f_l_mixed) : FnOk P w K mg base CX0 2 f fd ["_law_cell", "_law_many", "_law_size"] (spD K cl 3 f_l_draws) :=
  fn_pure (N := ["_law_cell", "_law_many", "_law_size", "_law_found", "_law_left", "_law_k"]) (k := 1) Fx sc_l_draws (bd_l_draws Z c_l_mixed f)
theorem sc_l_name : FnScope ["_law_number", "_law_letters"] ["_law_number"] (defScope s_l_name) := ⟨rfl, rfl, rfl, by decide +kernel, rfl, by decide +kernel, by decide +kernel⟩
theorem bd_l_name (Z : Zs K mg)  (f : Addr) (cdv : Value) (A : Around) (outer : List Env) (s : Shared) (H : Hp) (E : XK) (hr : Room 0 (A.deeper (envOfC "_law_name" (defScope s_l_name) s.heap.objs.size f cdv))) :
    PB cl (cxOf CX0 P w K mg base ["_law_number", "_law_letters"] "_law_name" (defScope s_l_name) f cdv A outer s H E).nox (defBody s_l_name) b_l_name := by
  have hu := hu_of hr
  have hv := hr.units
  have nd := sc_l_name.nd
  exact (pb_cons (pb_if (ppt_eq hv (pp_mod (pp_var (pv 0)) pp_int) pp_int) (pb_one (pb_ret (pp_ix hu (pp_lst (ppa_strsE (by rfl) (by rfl))) (pp_mod (pp_div (pp_var (pv 0)) pp_int) pp_int) (fun _ _ => rfl)))) pb_nil)
      (pb_cons (pb_asg (i := 1) nd rfl (by first | exact Or.inl rfl | exact Or.inr rfl) pp_str)
      (pb_one (pb_ret (pp_join pp_str (ppa_cons (pp_comp (N := ["_law_k", "_law_number", "_law_letters"]) (vars := ["_law_k"]) (caps := [0, 1]) rfl (compSc_of (defScope s_l_name).names ["_law_number", "_law_letters"] (fun _ => rfl) rfl (by decide +kernel)) (ppi_range1 rfl Z.range (pp_add pp_int (pp_mod (pp_div (pp_var (pv 0)) pp_int) pp_int))) (fun C s0 H0 fp => ⟨(ppg_name (i := 0) (show List.Nodup (["_law_k", "_law_number", "_law_letters"] : List Str) by decide +kernel) rfl (Or.inl rfl)), pifs_nil, (pp_ix hu (pp_var (pv 2)) (pp_mod (pp_div (pp_var (pv 1)) (pp_add (pp_var (pv 0)) pp_int)) pp_int) (fun _ _ => rfl))⟩)) ppa_nil))))))
theorem ok_l_name {f : Addr} {fd : FuncData} (Fx : Fun K "_law_name" "_law_name" s_l_name f fd) (Z : Zs K mg)  : FnOk P w K mg base CX0 1 f fd ["_law_number"] (spD K cl 1 f_l_name) :=
  fn_pure (N := ["_law_number", "_law_letters"]) (k := 0) Fx sc_l_name (bd_l_name Z  f)
theorem sc_l_deed : FnScope ["_law_cell", "_law_k", "_law_draws_here", "_law_number", "_law_numbers", "_law_verb", "_law_many"] ["_law_cell", "_law_k"] (defScope s_l_deed) := ⟨rfl, rfl, rfl, by decide +kernel, rfl, by decide +kernel, by decide +kernel⟩
theorem bd_l_deed (Z : Zs K mg) (c_l_draws : Cal P w K mg base cl "_law_draws" 2 ["_law_cell", "_law_many", "_law_size"] f_l_draws) (c_l_mixed : Cal P w K mg base cl "_law_mixed" 1 ["_law_number", "_law_k"] f_l_mixed) (c_l_name : Cal P w K mg base cl "_law_name" 1 ["_law_number"] f_l_name) (f : Addr) (cdv : Value) (A : Around) (outer : List Env) (s : Shared) (H : Hp) (E : XK) (hr : Room 2 (A.deeper (envOfC "_law_deed" (defScope s_l_deed) s.heap.objs.size f cdv))) :
    PB cl (cxOf CX0 P w K mg base ["_law_cell", "_law_k", "_law_draws_here", "_law_number", "_law_numbers", "_law_verb", "_law_many"] "_law_deed" (defScope s_l_deed) f cdv A outer s H E).nox (defBody s_l_deed) b_l_deed := by
  have hu := hu_of hr
  have hv := hr.units
  have nd := sc_l_deed.nd
  exact (pb_cons (pb_asg (i := 2) nd rfl (by first | exact Or.inl rfl | exact Or.inr rfl) (pp_callC c_l_draws hr rfl (ppa_cons (pp_var (pv 0)) (ppa_cons pp_int (ppa_cons (pp_pow pp_int pp_int) ppa_nil)))))
      (pb_cons (pb_asg (i := 3) nd rfl (by first | exact Or.inl rfl | exact Or.inr rfl) (pp_callC c_l_mixed hr rfl (ppa_cons (pp_var (pv 0)) (ppa_cons (pp_var (pv 1)) ppa_nil))))
      (pb_cons (pb_comp (i := 4) (N := ["_law_one", "_law_k"]) (vars := ["_law_one"]) (caps := [1]) nd rfl rfl rfl (compSc_of (defScope s_l_deed).names ["_law_cell", "_law_k", "_law_draws_here", "_law_number", "_law_numbers", "_law_verb", "_law_many"] (fun _ => rfl) rfl (by decide +kernel)) (ppi_seq (pp_sl (pp_var (pv 2)) (ppo_some pp_int) (ppo_some pp_int))) (fun C s0 H0 fp => ⟨(ppg_name (i := 0) (show List.Nodup (["_law_one", "_law_k"] : List Str) by decide +kernel) rfl (Or.inl rfl)), pifs_nil, (pp_mul (pp_var (pv 0)) (pp_ix hu (pp_lst (ppa_cons pp_int (ppa_cons (pp_pow pp_int pp_int) (ppa_cons pp_int ppa_nil)))) (pp_mod (pp_var (pv 1)) pp_int) (fun _ _ => rfl)))⟩) (by rfl))
      (pb_cons (pb_asg (i := 5) nd rfl (by first | exact Or.inl rfl | exact Or.inr rfl) (pp_ix hu (pp_lst (ppa_strsE (by rfl) (by rfl))) (pp_mod (pp_var (pv 3)) pp_int) (fun _ _ => rfl)))
      (pb_cons (pb_rcd (i := 6) nd rfl (by first | exact Or.inl rfl | exact Or.inr rfl) (rc_val pp_int (rc_val pp_int (rc_val pp_int rc_nil))) rfl rfl (by decide) (by decide))
      (pb_cons (pb_if (ppt_eq hv (pp_var (pv 5)) pp_str) (pb_one (pb_ret (pp_tup (ppa_cons pp_str (ppa_cons (pp_ix hu (pp_var (pv 4)) pp_int (fun _ _ => rfl)) ppa_nil))))) pb_nil)
      (pb_one (pb_ret (pp_tuple rfl Z.tuple (ppa_cons (pp_add (pp_lst (ppa_cons (pp_var (pv 5)) (ppa_cons (pp_ix hu (pp_var (pv 4)) pp_int (fun _ _ => rfl)) (ppa_cons (pp_callC c_l_name hr rfl (ppa_cons (pp_ix hu (pp_var (pv 2)) pp_int (fun _ _ => rfl)) ppa_nil)) ppa_nil)))) (pp_sl (pp_var (pv 4)) (ppo_some pp_int) (ppo_some (pp_add pp_int (pp_ixN hu (pv 6) (pp_var (pv 5)) (fun _ _ => rfl)))))) ppa_nil))))))))))
theorem ok_l_deed {f : Addr} {fd : FuncData} (Fx : Fun K "_law_deed" "_law_deed" s_l_deed f fd) (Z : Zs K mg) (c_l_draws : Cal P w K mg base cl "_law_draws" 2 ["_law_cell", "_law_many", "_law_size"] f_l_draws) (c_l_mixed : Cal P w K mg base cl "_law_mixed" 1 ["_law_number", "_law_k"] f_l_mixed) (c_l_name : Cal P w K mg base cl "_law_name" 1 ["_law_number"] f_l_name) : FnOk P w K mg base CX0 3 f fd ["_law_cell", "_law_k"] (spD K cl 2 f_l_deed) :=
  fn_pure (N := ["_law_cell", "_law_k", "_law_draws_here", "_law_number", "_law_numbers", "_law_verb", "_law_many"]) (k := 2) Fx sc_l_deed (bd_l_deed Z c_l_draws c_l_mixed c_l_name f)
theorem sc_l_row : FnScope ["_law_deed_here"] ["_law_deed_here"] (defScope s_l_row) := ⟨rfl, rfl, rfl, by decide +kernel, rfl, by decide +kernel, by decide +kernel⟩
theorem bd_l_row (Z : Zs K mg)  (f : Addr) (cdv : Value) (A : Around) (outer : List Env) (s : Shared) (H : Hp) (E : XK) (hr : Room 0 (A.deeper (envOfC "_law_row" (defScope s_l_row) s.heap.objs.size f cdv))) :
    PB cl (cxOf CX0 P w K mg base ["_law_deed_here"] "_law_row" (defScope s_l_row) f cdv A outer s H E).nox (defBody s_l_row) b_l_row := by
  have hu := hu_of hr
  have hv := hr.units
  have nd := sc_l_row.nd
  exact (pb_one (pb_ret (pp_join pp_str (ppa_cons (pp_add (pp_lst (ppa_cons (pp_strc rfl Z.str (ppa_cons (pp_ix hu (pp_var (pv 0)) pp_int (fun _ _ => rfl)) ppa_nil)) (ppa_cons (pp_ix hu (pp_var (pv 0)) pp_int (fun _ _ => rfl)) ppa_nil))) (pp_comp (N := ["_law_one"]) (vars := ["_law_one"]) (caps := []) rfl (compSc_of (defScope s_l_row).names ["_law_deed_here"] (fun _ => rfl) rfl (by decide +kernel)) (ppi_seq (pp_sl (pp_var (pv 0)) (ppo_some pp_int) ppo_none)) (fun C s0 H0 fp => ⟨(ppg_name (i := 0) (show List.Nodup (["_law_one"] : List Str) by decide +kernel) rfl (Or.inl rfl)), pifs_nil, (pp_strc rfl Z.str (ppa_cons (pp_var (pv 0)) ppa_nil))⟩))) ppa_nil))))
theorem ok_l_row {f : Addr} {fd : FuncData} (Fx : Fun K "_law_row" "_law_row" s_l_row f fd) (Z : Zs K mg)  : FnOk P w K mg base CX0 1 f fd ["_law_deed_here"] (spD K cl 1 f_l_row) :=
  fn_pure (N := ["_law_deed_here"]) (k := 0) Fx sc_l_row (bd_l_row Z  f)
theorem sc_row_of : FnScope ["words"] ["words"] (defScope s_row_of) := ⟨rfl, rfl, rfl, by decide +kernel, rfl, by decide +kernel, by decide +kernel⟩
theorem bd_row_of (Z : Zs K mg)  (f : Addr) (cdv : Value) (A : Around) (outer : List Env) (s : Shared) (H : Hp) (E : XK) (hr : Room 0 (A.deeper (envOfC "row_of" (defScope s_row_of) s.heap.objs.size f cdv))) :
    PB cl (cxOf CX0 P w K mg base ["words"] "row_of" (defScope s_row_of) f cdv A outer s H E).nox (defBody s_row_of) b_row_of := by
  have hu := hu_of hr
  have hv := hr.units
  have nd := sc_row_of.nd
  exact (pb_one (pb_ret (pp_join pp_str (ppa_cons (pp_comp (N := ["word"]) (vars := ["word"]) (caps := []) rfl (compSc_of (defScope s_row_of).names ["words"] (fun _ => rfl) rfl (by decide +kernel)) (ppi_seq (pp_var (pv 0))) (fun C s0 H0 fp => ⟨(ppg_name (i := 0) (show List.Nodup (["word"] : List Str) by decide +kernel) rfl (Or.inl rfl)), pifs_nil, (pp_strc rfl Z.str (ppa_cons (pp_var (pv 0)) ppa_nil))⟩)) ppa_nil))))
theorem ok_row_of {f : Addr} {fd : FuncData} (Fx : Fun K "row_of" "row_of" s_row_of f fd) (Z : Zs K mg)  : FnOk P w K mg base CX0 1 f fd ["words"] (spD K cl 1 f_row_of) :=
  fn_pure (N := ["words"]) (k := 0) Fx sc_row_of (bd_row_of Z  f)
theorem sc_log_text : FnScope ["log"] ["log"] (defScope s_log_text) := ⟨rfl, rfl, rfl, by decide +kernel, rfl, by decide +kernel, by decide +kernel⟩
theorem bd_log_text (Z : Zs K mg) (c_row_of : Cal P w K mg base cl "row_of" 1 ["words"] f_row_of) (f : Addr) (cdv : Value) (A : Around) (outer : List Env) (s : Shared) (H : Hp) (E : XK) (hr : Room 1 (A.deeper (envOfC "log_text" (defScope s_log_text) s.heap.objs.size f cdv))) :
    PB cl (cxOf CX0 P w K mg base ["log"] "log_text" (defScope s_log_text) f cdv A outer s H E).nox (defBody s_log_text) b_log_text := by
  have hu := hu_of hr
  have hv := hr.units
  have nd := sc_log_text.nd
  exact (pb_one (pb_ret (pp_join pp_str (ppa_cons (pp_comp (N := ["deed"]) (vars := ["deed"]) (caps := []) rfl (compSc_of (defScope s_log_text).names ["log"] (fun _ => rfl) rfl (by decide +kernel)) (ppi_seq (pp_var (pv 0))) (fun C s0 H0 fp => ⟨(ppg_name (i := 0) (show List.Nodup (["deed"] : List Str) by decide +kernel) rfl (Or.inl rfl)), pifs_nil, (pp_callC c_row_of hr rfl (ppa_cons (pp_add (pp_lst (ppa_cons (pp_ix hu (pp_var (pv 0)) pp_int (fun _ _ => rfl)) (ppa_cons (pp_ix hu (pp_var (pv 0)) pp_int (fun _ _ => rfl)) ppa_nil))) (pp_listc rfl Z.list (ppa_cons (pp_sl (pp_var (pv 0)) (ppo_some pp_int) ppo_none) ppa_nil))) ppa_nil))⟩)) ppa_nil))))
theorem ok_log_text {f : Addr} {fd : FuncData} (Fx : Fun K "log_text" "log_text" s_log_text f fd) (Z : Zs K mg) (c_row_of : Cal P w K mg base cl "row_of" 1 ["words"] f_row_of) : FnOk P w K mg base CX0 2 f fd ["log"] (spD K cl 1 f_log_text) :=
  fn_pure (N := ["log"]) (k := 1) Fx sc_log_text (bd_log_text Z c_row_of f)
theorem sc_made_of : FnScope ["word", "signs"] ["word", "signs"] (defScope s_made_of) := ⟨rfl, rfl, rfl, by decide +kernel, rfl, by decide +kernel, by decide +kernel⟩
theorem bd_made_of (Z : Zs K mg)  (f : Addr) (cdv : Value) (A : Around) (outer : List Env) (s : Shared) (H : Hp) (E : XK) (hr : Room 0 (A.deeper (envOfC "made_of" (defScope s_made_of) s.heap.objs.size f cdv))) :
    PB cl (cxOf CX0 P w K mg base ["word", "signs"] "made_of" (defScope s_made_of) f cdv A outer s H E).nox (defBody s_made_of) b_made_of := by
  have hu := hu_of hr
  have hv := hr.units
  have nd := sc_made_of.nd
  exact (pb_one (pb_ret (pp_all rfl Z.all (ppa_cons (pp_comp (N := ["sign", "signs"]) (vars := ["sign"]) (caps := [1]) rfl (compSc_of (defScope s_made_of).names ["word", "signs"] (fun _ => rfl) rfl (by decide +kernel)) (ppi_seq (pp_var (pv 0))) (fun C s0 H0 fp => ⟨(ppg_name (i := 0) (show List.Nodup (["sign", "signs"] : List Str) by decide +kernel) rfl (Or.inl rfl)), pifs_nil, (pp_in hu (pp_var (pv 0)) (pp_var (pv 1)))⟩)) ppa_nil))))
theorem ok_made_of {f : Addr} {fd : FuncData} (Fx : Fun K "made_of" "made_of" s_made_of f fd) (Z : Zs K mg)  : FnOk P w K mg base CX0 1 f fd ["word", "signs"] (spD K cl 2 f_made_of) :=
  fn_pure (N := ["word", "signs"]) (k := 0) Fx sc_made_of (bd_made_of Z  f)
theorem sc_is_number : FnScope ["word"] ["word"] (defScope s_is_number) := ⟨rfl, rfl, rfl, by decide +kernel, rfl, by decide +kernel, by decide +kernel⟩
theorem bd_is_number (Z : Zs K mg) (c_made_of : Cal P w K mg base cl "made_of" 1 ["word", "signs"] f_made_of) (f : Addr) (cdv : Value) (A : Around) (outer : List Env) (s : Shared) (H : Hp) (E : XK) (hr : Room 1 (A.deeper (envOfC "is_number" (defScope s_is_number) s.heap.objs.size f cdv))) :
    PB cl (cxOf CX0 P w K mg base ["word"] "is_number" (defScope s_is_number) f cdv A outer s H E).nox (defBody s_is_number) b_is_number := by
  have hu := hu_of hr
  have hv := hr.units
  have nd := sc_is_number.nd
  exact (pb_cons (pb_if (PPW.pt (ppw_or (ppt_eq hv (pp_len rfl Z.len (ppa_cons (pp_var (pv 0)) ppa_nil)) pp_int) (ppw_or1 (ppt_gt (pp_len rfl Z.len (ppa_cons (pp_var (pv 0)) ppa_nil)) (pp_globI rfl Z.LONGEST_NUMBER))))) (pb_one (pb_ret pp_bl)) pb_nil)
      (pb_one (pb_ret (pp_and (pp_callC c_made_of hr rfl (ppa_cons (pp_var (pv 0)) (ppa_cons (pp_globS rfl Z.DIGITS) ppa_nil))) (pp_one (pp_or (pp_eq hv (pp_var (pv 0)) pp_str) (pp_one (pp_ne hv (pp_ix hu (pp_var (pv 0)) pp_int (fun _ _ => rfl)) pp_str))))))))
theorem ok_is_number {f : Addr} {fd : FuncData} (Fx : Fun K "is_number" "is_number" s_is_number f fd) (Z : Zs K mg) (c_made_of : Cal P w K mg base cl "made_of" 1 ["word", "signs"] f_made_of) : FnOk P w K mg base CX0 2 f fd ["word"] (spD K cl 1 f_is_number) :=
  fn_pure (N := ["word"]) (k := 1) Fx sc_is_number (bd_is_number Z c_made_of f)
theorem sc_is_name : FnScope ["word"] ["word"] (defScope s_is_name) := ⟨rfl, rfl, rfl, by decide +kernel, rfl, by decide +kernel, by decide +kernel⟩
theorem bd_is_name (Z : Zs K mg) (c_made_of : Cal P w K mg base cl "made_of" 1 ["word", "signs"] f_made_of) (f : Addr) (cdv : Value) (A : Around) (outer : List Env) (s : Shared) (H : Hp) (E : XK) (hr : Room 1 (A.deeper (envOfC "is_name" (defScope s_is_name) s.heap.objs.size f cdv))) :
    PB cl (cxOf CX0 P w K mg base ["word"] "is_name" (defScope s_is_name) f cdv A outer s H E).nox (defBody s_is_name) b_is_name := by
  have hu := hu_of hr
  have hv := hr.units
  have nd := sc_is_name.nd
  exact (pb_one (pb_ret (pp_and (pp_gt (pp_len rfl Z.len (ppa_cons (pp_var (pv 0)) ppa_nil)) pp_int) (pp_and (pp_le (pp_len rfl Z.len (ppa_cons (pp_var (pv 0)) ppa_nil)) (pp_globI rfl Z.LONGEST_NAME)) (pp_one (pp_callC c_made_of hr rfl (ppa_cons (pp_var (pv 0)) (ppa_cons (pp_globS rfl Z.LETTERS) ppa_nil))))))))
theorem ok_is_name {f : Addr} {fd : FuncData} (Fx : Fun K "is_name" "is_name" s_is_name f fd) (Z : Zs K mg) (c_made_of : Cal P w K mg base cl "made_of" 1 ["word", "signs"] f_made_of) : FnOk P w K mg base CX0 2 f fd ["word"] (spD K cl 1 f_is_name) :=
  fn_pure (N := ["word"]) (k := 1) Fx sc_is_name (bd_is_name Z c_made_of f)
theorem sc_fits : FnScope ["word", "part"] ["word", "part"] (defScope s_fits) := ⟨rfl, rfl, rfl, by decide +kernel, rfl, by decide +kernel, by decide +kernel⟩
theorem bd_fits (Z : Zs K mg) (c_is_number : Cal P w K mg base cl "is_number" 2 ["word"] f_is_number) (c_is_name : Cal P w K mg base cl "is_name" 2 ["word"] f_is_name) (f : Addr) (cdv : Value) (A : Around) (outer : List Env) (s : Shared) (H : Hp) (E : XK) (hr : Room 2 (A.deeper (envOfC "fits" (defScope s_fits) s.heap.objs.size f cdv))) :
    PB cl (cxOf CX0 P w K mg base ["word", "part"] "fits" (defScope s_fits) f cdv A outer s H E).nox (defBody s_fits) b_fits := by
  have hu := hu_of hr
  have hv := hr.units
  have nd := sc_fits.nd
  exact (pb_cons (pb_if (ppt_eq hv (pp_var (pv 1)) pp_str) (pb_one (pb_ret (pp_callC c_is_number hr rfl (ppa_cons (pp_var (pv 0)) ppa_nil)))) pb_nil)
      (pb_cons (pb_if (ppt_eq hv (pp_var (pv 1)) pp_str) (pb_one (pb_ret (pp_callC c_is_name hr rfl (ppa_cons (pp_var (pv 0)) ppa_nil)))) pb_nil)
      (pb_one (pb_ret (pp_eq hv (pp_var (pv 0)) (pp_var (pv 1)))))))
theorem ok_fits {f : Addr} {fd : FuncData} (Fx : Fun K "fits" "fits" s_fits f fd) (Z : Zs K mg) (c_is_number : Cal P w K mg base cl "is_number" 2 ["word"] f_is_number) (c_is_name : Cal P w K mg base cl "is_name" 2 ["word"] f_is_name) : FnOk P w K mg base CX0 3 f fd ["word", "part"] (spD K cl 2 f_fits) :=
  fn_pure (N := ["word", "part"]) (k := 2) Fx sc_fits (bd_fits Z c_is_number c_is_name f)
theorem sc_values_of : FnScope ["row", "form", "words", "parts", "found", "word", "part"] ["row", "form"] (defScope s_values_of) := ⟨rfl, rfl, rfl, by decide +kernel, rfl, by decide +kernel, by decide +kernel⟩
theorem bd_values_of (Z : Zs K mg) (c_fits : Cal P w K mg base cl "fits" 3 ["word", "part"] f_fits) (f : Addr) (cdv : Value) (A : Around) (outer : List Env) (s : Shared) (H : Hp) (E : XK) (hr : Room 3 (A.deeper (envOfC "values_of" (defScope s_values_of) s.heap.objs.size f cdv))) :
    PB cl (cxOf CX0 P w K mg base ["row", "form", "words", "parts", "found", "word", "part"] "values_of" (defScope s_values_of) f cdv A outer s H E).nox (defBody s_values_of) b_values_of := by
  have hu := hu_of hr
  have hv := hr.units
  have nd := sc_values_of.nd
  exact (pb_cons (pb_asg (i := 2) nd rfl (by first | exact Or.inl rfl | exact Or.inr rfl) (pp_split (pp_var (pv 0)) (ppa_cons pp_str ppa_nil)))
      (pb_cons (pb_asg (i := 3) nd rfl (by first | exact Or.inl rfl | exact Or.inr rfl) (pp_split (pp_var (pv 1)) (ppa_cons pp_str ppa_nil)))
      (pb_cons (pb_if (ppt_ne hv (pp_len rfl Z.len (ppa_cons (pp_var (pv 2)) ppa_nil)) (pp_len rfl Z.len (ppa_cons (pp_var (pv 3)) ppa_nil))) (pb_one (pb_ret pp_non)) pb_nil)
      (pb_cons (pb_newL (i := 4) nd rfl (by first | exact Or.inl rfl | exact Or.inr rfl))
      (pb_cons (pb_for PassesOwn.never rfl (ppi_zip2 rfl Z.zip (pp_var (pv 2)) (pp_var (pv 3))) (ppg_tup rfl (ppgs_cons (ppg_name (i := 5) nd rfl (by first | exact Or.inl rfl | exact Or.inr rfl)) (ppgs_cons (ppg_name (i := 6) nd rfl (by first | exact Or.inl rfl | exact Or.inr rfl)) ppgs_nil))) (pb_cons (pb_if (ppt_not (ppt_val (pp_callC c_fits hr rfl (ppa_cons (pp_var (pv 5)) (ppa_cons (pp_var (pv 6)) ppa_nil))))) (pb_one (pb_ret pp_non)) pb_nil)
      (pb_one (pb_if (ppt_eq hv (pp_var (pv 6)) pp_str) (pb_one (pb_app (pv 4) (pp_intc rfl Z.int (ppa_cons (pp_var (pv 5)) ppa_nil)) (fun ho ha => pe_bm PySem.F.plainAttrs_list PySem.F.slot_list_append PySem.F.type_list_append mt_append ho ha))) (pb_one (pb_if (ppt_eq hv (pp_var (pv 6)) pp_str) (pb_one (pb_app (pv 4) (pp_var (pv 5)) (fun ho ha => pe_bm PySem.F.plainAttrs_list PySem.F.slot_list_append PySem.F.type_list_append mt_append ho ha))) pb_nil))))))
      (pb_one (pb_retN (pv 4))))))))
theorem ok_values_of {f : Addr} {fd : FuncData} (Fx : Fun K "values_of" "values_of" s_values_of f fd) (Z : Zs K mg) (c_fits : Cal P w K mg base cl "fits" 3 ["word", "part"] f_fits) : FnOk P w K mg base CX0 4 f fd ["row", "form"] (spD K cl 2 f_values_of) :=
  fn_pure (N := ["row", "form", "words", "parts", "found", "word", "part"]) (k := 3) Fx sc_values_of (bd_values_of Z c_fits f)
theorem sc_deed_of : FnScope ["row", "form", "found"] ["row"] (defScope s_deed_of) := ⟨rfl, rfl, rfl, by decide +kernel, rfl, by decide +kernel, by decide +kernel⟩
theorem bd_deed_of (Z : Zs K mg) (c_values_of : Cal P w K mg base cl "values_of" 4 ["row", "form"] f_values_of) (f : Addr) (cdv : Value) (A : Around) (outer : List Env) (s : Shared) (H : Hp) (E : XK) (hr : Room 4 (A.deeper (envOfC "deed_of" (defScope s_deed_of) s.heap.objs.size f cdv))) :
    PB cl (cxOf CX0 P w K mg base ["row", "form", "found"] "deed_of" (defScope s_deed_of) f cdv A outer s H E).nox (defBody s_deed_of) b_deed_of := by
  have hu := hu_of hr
  have hv := hr.units
  have nd := sc_deed_of.nd
  exact (pb_cons (pb_for PassesOwn.never rfl (ppi_globT rfl Z.DEED_FORMS) (ppg_name (i := 1) nd rfl (by first | exact Or.inl rfl | exact Or.inr rfl)) (pb_cons (pb_asg (i := 2) nd rfl (by first | exact Or.inl rfl | exact Or.inr rfl) (pp_callC c_values_of hr rfl (ppa_cons (pp_var (pv 0)) (ppa_cons (pp_var (pv 1)) ppa_nil))))
      (pb_one (pb_if (ppt_notN (pp_var (pv 2))) (pb_one (pb_ret (pp_tuple rfl Z.tuple (ppa_cons (pp_add (pp_lst (ppa_cons (pp_ix hu (pp_split (pp_var (pv 1)) (ppa_cons pp_str ppa_nil)) pp_int (fun _ _ => rfl)) ppa_nil)) (pp_var (pv 2))) ppa_nil)))) pb_nil))))
      (pb_one (pb_ret pp_non)))
theorem ok_deed_of {f : Addr} {fd : FuncData} (Fx : Fun K "deed_of" "deed_of" s_deed_of f fd) (Z : Zs K mg) (c_values_of : Cal P w K mg base cl "values_of" 4 ["row", "form"] f_values_of) : FnOk P w K mg base CX0 5 f fd ["row"] (spD K cl 1 f_deed_of) :=
  fn_pure (N := ["row", "form", "found"]) (k := 4) Fx sc_deed_of (bd_deed_of Z c_values_of f)
theorem sc_log_from : FnScope ["text", "log", "place", "row", "deed"] ["text"] (defScope s_log_from) := ⟨rfl, rfl, rfl, by decide +kernel, rfl, by decide +kernel, by decide +kernel⟩
theorem bd_log_from (Z : Zs K mg) (c_deed_of : Cal P w K mg base cl "deed_of" 5 ["row"] f_deed_of) (f : Addr) (cdv : Value) (A : Around) (outer : List Env) (s : Shared) (H : Hp) (E : XK) (hr : Room 5 (A.deeper (envOfC "log_from" (defScope s_log_from) s.heap.objs.size f cdv))) :
    PB cl (cxOf CX0 P w K mg base ["text", "log", "place", "row", "deed"] "log_from" (defScope s_log_from) f cdv A outer s H E).nox (defBody s_log_from) (b_log_from none) := by
  have hu := hu_of hr
  have hv := hr.units
  have nd := sc_log_from.nd
  exact (pb_cons (pb_if (ppt_eq hv (pp_var (pv 0)) pp_str) (pb_one pb_retE) pb_nil)
      (pb_cons (pb_newL (i := 1) nd rfl (by first | exact Or.inl rfl | exact Or.inr rfl))
      (pb_cons (pb_for PassesOwn.never rfl (ppi_enum1 rfl Z.enumerate (pp_split (pp_var (pv 0)) (ppa_cons pp_str ppa_nil))) (ppg_tup rfl (ppgs_cons (ppg_name (i := 2) nd rfl (by first | exact Or.inl rfl | exact Or.inr rfl)) (ppgs_cons (ppg_name (i := 3) nd rfl (by first | exact Or.inl rfl | exact Or.inr rfl)) ppgs_nil))) (pb_cons (pb_asg (i := 4) nd rfl (by first | exact Or.inl rfl | exact Or.inr rfl) (pp_callC c_deed_of hr rfl (ppa_cons (pp_var (pv 3)) ppa_nil)))
      (pb_cons (pb_if (PPW.pt (ppw_or (ppt_isN (pp_var (pv 4))) (ppw_or1 (ppt_gt (pp_var (pv 2)) (pp_globI rfl Z.MOST_ROWS))))) (pb_one (pb_raiseN (pp_var (pv 2)))) pb_nil)
      (pb_one (pb_app (pv 1) (pp_var (pv 4)) (fun ho ha => pe_bm PySem.F.plainAttrs_list PySem.F.slot_list_append PySem.F.type_list_append mt_append ho ha))))))
      (pb_one (pb_retN (pv 1))))))
theorem ok_log_from {f : Addr} {fd : FuncData} (Fx : Fun K "log_from" "log_from" s_log_from f fd) (Z : Zs K mg) (c_deed_of : Cal P w K mg base cl "deed_of" 5 ["row"] f_deed_of) : FnOk P w K mg base CX0 6 f fd ["text"] (spD K cl 1 f_log_from) :=
  fn_pure (N := ["text", "log", "place", "row", "deed"]) (k := 5) Fx sc_log_from (bd_log_from Z c_deed_of f)
theorem oko_log_from {f : Addr} {fd : FuncData} (Fx : Fun K "log_from" "log_from" s_log_from f fd) (Z : Zs K mg) (c_deed_of : Cal P w K mg base cl "deed_of" 5 ["row"] f_deed_of) : FnOk P w K mg base CX0 6 f fd ["text"] (spO K cl 1 fo_log_from) :=
  fn_fresh (N := ["text", "log", "place", "row", "deed"]) (k := 5) Fx sc_log_from (bd_log_from Z c_deed_of f)
theorem bdx_log_from {C CM fI c1 c2 c3 c4 c5 c6 : Addr} (Z : Zs K mg) (XS : Xs K mg C CM fI c1 c2 c3 c4 c5 c6) (c_deed_of : Cal P w K mg base cl "deed_of" 5 ["row"] f_deed_of) (f : Addr) (r : Int) (cdv : Value) (A : Around) (outer : List Env) (s : Shared) (H : Hp) (E : XK) (hr : Room 5 (A.deeper (envOfC "log_from" (defScope s_log_from) s.heap.objs.size f cdv))) :
    PB cl ((cxOf (CXB P w C) P w K mg base ["text", "log", "place", "row", "deed"] "log_from" (defScope s_log_from) f cdv A outer s H E).wish (InFl (cxOf (CXB P w C) P w K mg base ["text", "log", "place", "row", "deed"] "log_from" (defScope s_log_from) f cdv A outer s H E) C r)) (defBody s_log_from) (b_log_from (some r)) := by
  have hu := hu_of hr
  have hv := hr.units
  have nd := sc_log_from.nd
  exact (pb_cons (pb_if (ppt_eq hv (pp_var (pv 0)) pp_str) (pb_one pb_retE) pb_nil)
      (pb_cons (pb_newL (i := 1) nd rfl (by first | exact Or.inl rfl | exact Or.inr rfl))
      (pb_cons (pb_for (fl_passes ⟨rfl, rfl⟩) rfl (ppi_enum1 rfl Z.enumerate (pp_split (pp_var (pv 0)) (ppa_cons pp_str ppa_nil))) (ppg_tup rfl (ppgs_cons (ppg_name (i := 2) nd rfl (by first | exact Or.inl rfl | exact Or.inr rfl)) (ppgs_cons (ppg_name (i := 3) nd rfl (by first | exact Or.inl rfl | exact Or.inr rfl)) ppgs_nil))) (pb_cons (pb_asg (i := 4) nd rfl (by first | exact Or.inl rfl | exact Or.inr rfl) (pp_callC c_deed_of hr rfl (ppa_cons (pp_var (pv 3)) ppa_nil)))
      (pb_cons (pb_if (PPW.pt (ppw_or (ppt_isN (pp_var (pv 4))) (ppw_or1 (ppt_gt (pp_var (pv 2)) (pp_globI rfl Z.MOST_ROWS))))) (pb_one (pb_raiseX XS.i ⟨rfl, rfl⟩ rfl (hr.mono (by decide)) rfl XS.mB (pp_var (pv 2)))) pb_nil)
      (pb_one (pb_app (pv 1) (pp_var (pv 4)) (fun ho ha => pe_bm PySem.F.plainAttrs_list PySem.F.slot_list_append PySem.F.type_list_append mt_append ho ha))))))
      (pb_one (pb_retN (pv 1))))))
theorem okx_log_from {C CM fI c1 c2 c3 c4 c5 c6 : Addr} {f : Addr} {fd : FuncData} (Fx : Fun K "log_from" "log_from" s_log_from f fd) (Z : Zs K mg) (XS : Xs K mg C CM fI c1 c2 c3 c4 c5 c6) (c_deed_of : Cal P w K mg base cl "deed_of" 5 ["row"] f_deed_of) : FnOk P w K mg base (CXB P w C) 6 f fd ["text"] (spX K cl 1 fx_log_from) :=
  fn_raises (N := ["text", "log", "place", "row", "deed"]) (k := 5) Fx sc_log_from (bdx_log_from Z XS c_deed_of f)
theorem sc_l_alike : FnScope ["_law_found", "_law_due", "_law_one", "_law_other", "_law_part", "_law_told"] ["_law_found", "_law_due"] (defScope s_l_alike) := ⟨rfl, rfl, rfl, by decide +kernel, rfl, by decide +kernel, by decide +kernel⟩
theorem bd_l_alike (Z : Zs K mg)  (f : Addr) (cdv : Value) (A : Around) (outer : List Env) (s : Shared) (H : Hp) (E : XK) (hr : Room 0 (A.deeper (envOfC "_law_alike" (defScope s_l_alike) s.heap.objs.size f cdv))) :
    PB cl (cxOf CX0 P w K mg base ["_law_found", "_law_due", "_law_one", "_law_other", "_law_part", "_law_told"] "_law_alike" (defScope s_l_alike) f cdv A outer s H E).nox (defBody s_l_alike) b_l_alike := by
  have hu := hu_of hr
  have hv := hr.units
  have nd := sc_l_alike.nd
  exact (pb_cons (pb_if (PPW.pt (ppw_or (ppt_not (ppt_val (pp_isiList rfl Z.isinstance rfl Z.list (pp_var (pv 0))))) (ppw_or1 (ppt_ne hv (pp_len rfl Z.len (ppa_cons (pp_var (pv 0)) ppa_nil)) (pp_len rfl Z.len (ppa_cons (pp_var (pv 1)) ppa_nil)))))) (pb_one (pb_ret pp_bl)) pb_nil)
      (pb_cons (pb_for PassesOwn.never rfl (ppi_zip2 rfl Z.zip (pp_var (pv 0)) (pp_var (pv 1))) (ppg_tup rfl (ppgs_cons (ppg_name (i := 2) nd rfl (by first | exact Or.inl rfl | exact Or.inr rfl)) (ppgs_cons (ppg_name (i := 3) nd rfl (by first | exact Or.inl rfl | exact Or.inr rfl)) ppgs_nil))) (pb_cons (pb_if (PPW.pt (ppw_or (ppt_not (ppt_val (pp_isiTuple rfl Z.isinstance rfl Z.tuple (pp_var (pv 2))))) (ppw_or1 (ppt_ne hv (pp_len rfl Z.len (ppa_cons (pp_var (pv 2)) ppa_nil)) (pp_len rfl Z.len (ppa_cons (pp_var (pv 3)) ppa_nil)))))) (pb_one (pb_ret pp_bl)) pb_nil)
      (pb_one (pb_for PassesOwn.never rfl (ppi_zip2 rfl Z.zip (pp_var (pv 2)) (pp_var (pv 3))) (ppg_tup rfl (ppgs_cons (ppg_name (i := 4) nd rfl (by first | exact Or.inl rfl | exact Or.inr rfl)) (ppgs_cons (ppg_name (i := 5) nd rfl (by first | exact Or.inl rfl | exact Or.inr rfl)) ppgs_nil))) (pb_one (pb_if (PPW.pt (ppw_or (ppt_val (pp_isiBool rfl Z.isinstance rfl Z.bool (pp_var (pv 4)))) (ppw_or (ppt_ne hv (pp_isiStr rfl Z.isinstance rfl Z.str (pp_var (pv 4))) (pp_isiStr rfl Z.isinstance rfl Z.str (pp_var (pv 5)))) (ppw_or1 (ppt_ne hv (pp_var (pv 4)) (pp_var (pv 5))))))) (pb_one (pb_ret pp_bl)) pb_nil))))))
      (pb_one (pb_ret pp_bl))))
theorem ok_l_alike {f : Addr} {fd : FuncData} (Fx : Fun K "_law_alike" "_law_alike" s_l_alike f fd) (Z : Zs K mg)  : FnOk P w K mg base CX0 1 f fd ["_law_found", "_law_due"] (spD K cl 2 f_l_alike) :=
  fn_pure (N := ["_law_found", "_law_due", "_law_one", "_law_other", "_law_part", "_law_told"]) (k := 0) Fx sc_l_alike (bd_l_alike Z  f)
theorem sc_l_cell_at : FnScope ["_law_script", "_law_k"] ["_law_script", "_law_k"] (defScope s_l_cell_at) := ⟨rfl, rfl, rfl, by decide +kernel, rfl, by decide +kernel, by decide +kernel⟩
theorem bd_l_cell_at (Z : Zs K mg)  (f : Addr) (cdv : Value) (A : Around) (outer : List Env) (s : Shared) (H : Hp) (E : XK) (hr : Room 0 (A.deeper (envOfC "_law_cell_at" (defScope s_l_cell_at) s.heap.objs.size f cdv))) :
    PB cl (cxOf CX0 P w K mg base ["_law_script", "_law_k"] "_law_cell_at" (defScope s_l_cell_at) f cdv A outer s H E).nox (defBody s_l_cell_at) b_l_cell_at := by
  have hu := hu_of hr
  have hv := hr.units
  have nd := sc_l_cell_at.nd
  exact (pb_cons (pb_if (ppt_lt (pp_var (pv 1)) (pp_len rfl Z.len (ppa_cons (pp_var (pv 0)) ppa_nil))) (pb_one (pb_ret (pp_ix hu (pp_var (pv 0)) (pp_var (pv 1)) (fun _ _ => rfl)))) pb_nil)
      (pb_one (pb_ret pp_int)))
theorem ok_l_cell_at {f : Addr} {fd : FuncData} (Fx : Fun K "_law_cell_at" "_law_cell_at" s_l_cell_at f fd) (Z : Zs K mg)  : FnOk P w K mg base CX0 1 f fd ["_law_script", "_law_k"] (spD K cl 2 f_l_cell_at) :=
  fn_pure (N := ["_law_script", "_law_k"]) (k := 0) Fx sc_l_cell_at (bd_l_cell_at Z  f)
theorem sc_l_bad_number : FnScope ["_law_number"] ["_law_number"] (defScope s_l_bad_number) := ⟨rfl, rfl, rfl, by decide +kernel, rfl, by decide +kernel, by decide +kernel⟩
theorem bd_l_bad_number (Z : Zs K mg)  (f : Addr) (cdv : Value) (A : Around) (outer : List Env) (s : Shared) (H : Hp) (E : XK) (hr : Room 0 (A.deeper (envOfC "_law_bad_number" (defScope s_l_bad_number) s.heap.objs.size f cdv))) :
    PB cl (cxOf CX0 P w K mg base ["_law_number"] "_law_bad_number" (defScope s_l_bad_number) f cdv A outer s H E).nox (defBody s_l_bad_number) b_l_bad_number := by
  have hu := hu_of hr
  have hv := hr.units
  have nd := sc_l_bad_number.nd
  exact (pb_one (pb_ret (pp_ix hu (pp_lst (ppa_strsE (by rfl) (by rfl))) (pp_mod (pp_var (pv 0)) pp_int) (fun _ _ => rfl))))
theorem ok_l_bad_number {f : Addr} {fd : FuncData} (Fx : Fun K "_law_bad_number" "_law_bad_number" s_l_bad_number f fd) (Z : Zs K mg)  : FnOk P w K mg base CX0 1 f fd ["_law_number"] (spD K cl 1 f_l_bad_number) :=
  fn_pure (N := ["_law_number"]) (k := 0) Fx sc_l_bad_number (bd_l_bad_number Z  f)
theorem sc_l_spoilt : FnScope ["_law_row_here", "_law_number", "_law_words", "_law_turn", "_law_more"] ["_law_row_here", "_law_number"] (defScope s_l_spoilt) := ⟨rfl, rfl, rfl, by decide +kernel, rfl, by decide +kernel, by decide +kernel⟩
theorem bd_l_spoilt (Z : Zs K mg) (c_l_bad_number : Cal P w K mg base cl "_law_bad_number" 1 ["_law_number"] f_l_bad_number) (f : Addr) (cdv : Value) (A : Around) (outer : List Env) (s : Shared) (H : Hp) (E : XK) (hr : Room 1 (A.deeper (envOfC "_law_spoilt" (defScope s_l_spoilt) s.heap.objs.size f cdv))) :
    PB cl (cxOf CX0 P w K mg base ["_law_row_here", "_law_number", "_law_words", "_law_turn", "_law_more"] "_law_spoilt" (defScope s_l_spoilt) f cdv A outer s H E).nox (defBody s_l_spoilt) b_l_spoilt := by
  have hu := hu_of hr
  have hv := hr.units
  have nd := sc_l_spoilt.nd
  exact (pb_cons (pb_newSp (i := 2) nd rfl (by first | exact Or.inl rfl | exact Or.inr rfl) (pp_var (pv 0)) (ppa_cons pp_str ppa_nil))
      (pb_cons (pb_asg (i := 3) nd rfl (by first | exact Or.inl rfl | exact Or.inr rfl) (pp_mod (pp_var (pv 1)) pp_int))
      (pb_cons (pb_asg (i := 4) nd rfl (by first | exact Or.inl rfl | exact Or.inr rfl) (pp_div (pp_var (pv 1)) pp_int))
      (pb_cons (pb_if (ppt_eq hv (pp_var (pv 3)) pp_int) (pb_one (pb_ret (pp_ix hu (pp_lst (ppa_spoil (i := 0) rfl (Or.inl rfl))) (pp_mod (pp_var (pv 4)) pp_int) (fun _ _ => rfl)))) pb_nil)
      (pb_cons (pb_if (ppt_eq hv (pp_var (pv 3)) pp_int) (pb_one (pb1_frz 2 (pb_ret (pp_join pp_str (ppa_cons (pp_sl (pp_var (pv 2)) ppo_none (ppo_some (pp_sub (pp_lenN rfl Z.len (pv 2)) pp_int))) ppa_nil))))) pb_nil)
      (pb_cons (pb_if (ppt_eq hv (pp_var (pv 3)) pp_int) (pb_one (pb_ret (pp_add (pp_var (pv 0)) pp_str))) pb_nil)
      (pb_cons (pb_if (ppt_eq hv (pp_var (pv 3)) pp_int) (pb_one (pb_put hu (pv 2) pp_int (pp_ix hu (pp_lst (ppa_strsE (by rfl) (by rfl))) (pp_mod (pp_var (pv 4)) pp_int) (fun _ _ => rfl)))) (pb_one (pb_if (PPW.pt (ppw_and (ppt_eq hv (pp_var (pv 3)) pp_int) (ppw_and1 (ppt_gt (pp_lenN rfl Z.len (pv 2)) pp_int)))) (pb_one (pb_put hu (pv 2) pp_int (pp_ix hu (pp_lst (ppa_strsE (by rfl) (by rfl))) (pp_mod (pp_var (pv 4)) pp_int) (fun _ _ => rfl)))) (pb_one (pb_if (PPW.pt (ppw_and (ppt_eq hv (pp_var (pv 3)) pp_int) (ppw_and1 (ppt_gt (pp_lenN rfl Z.len (pv 2)) pp_int)))) (pb_one (pb_put hu (pv 2) (pp_add pp_int (pp_mod (pp_var (pv 4)) (pp_sub (pp_lenN rfl Z.len (pv 2)) pp_int))) (pp_callC c_l_bad_number hr rfl (ppa_cons (pp_div (pp_var (pv 4)) pp_int) ppa_nil)))) (pb_one (pb_put hu (pv 2) pp_int (pp_callC c_l_bad_number hr rfl (ppa_cons (pp_var (pv 4)) ppa_nil)))))))))
      (pb_one (pb1_frz 2 (pb_ret (pp_join pp_str (ppa_cons (pp_var (pv 2)) ppa_nil))))))))))))
theorem ok_l_spoilt {f : Addr} {fd : FuncData} (Fx : Fun K "_law_spoilt" "_law_spoilt" s_l_spoilt f fd) (Z : Zs K mg) (c_l_bad_number : Cal P w K mg base cl "_law_bad_number" 1 ["_law_number"] f_l_bad_number) : FnOk P w K mg base CX0 2 f fd ["_law_row_here", "_law_number"] (spD K cl 2 f_l_spoilt) :=
  fn_pure (N := ["_law_row_here", "_law_number", "_law_words", "_law_turn", "_law_more"]) (k := 1) Fx sc_l_spoilt (bd_l_spoilt Z c_l_bad_number f)
theorem sc_law : FnScope ["_law_script", "_law_log", "_law_rows", "_law_handed", "_law_told", "_law_turn", "_law_found", "_law_number", "_law_many", "_law_at"] ["_law_script"] (defScope s_law) := ⟨rfl, rfl, rfl, by decide +kernel, rfl, by decide +kernel, by decide +kernel⟩
theorem bd_law (Z : Zs K mg) (c_l_deed : Cal P w K mg base cl "_law_deed" 3 ["_law_cell", "_law_k"] f_l_deed) (c_l_row : Cal P w K mg base cl "_law_row" 1 ["_law_deed_here"] f_l_row) (c_log_text : Cal P w K mg base cl "log_text" 2 ["log"] f_log_text) (co_log_from : CalO P w K mg base cl "log_from" 6 ["text"] fo_log_from) (c_l_alike : Cal P w K mg base cl "_law_alike" 1 ["_law_found", "_law_due"] f_l_alike) (c_l_mixed : Cal P w K mg base cl "_law_mixed" 1 ["_law_number", "_law_k"] f_l_mixed) (c_l_cell_at : Cal P w K mg base cl "_law_cell_at" 1 ["_law_script", "_law_k"] f_l_cell_at) (c_l_refusal : Cal P w K mg base cl "_law_refusal" 7 ["_law_text"] f_l_refusal) (c_l_spoilt : Cal P w K mg base cl "_law_spoilt" 2 ["_law_row_here", "_law_number"] f_l_spoilt) (c_log_from : Cal P w K mg base cl "log_from" 6 ["text"] f_log_from) (f : Addr) (cdv : Value) (A : Around) (outer : List Env) (s : Shared) (H : Hp) (E : XK) (hr : Room 7 (A.deeper (envOfC "law" (defScope s_law) s.heap.objs.size f cdv))) :
    PB cl (cxOf CX0 P w K mg base ["_law_script", "_law_log", "_law_rows", "_law_handed", "_law_told", "_law_turn", "_law_found", "_law_number", "_law_many", "_law_at"] "law" (defScope s_law) f cdv A outer s H E).nox (defBody s_law) b_law := by
  have hu := hu_of hr
  have hv := hr.units
  have nd := sc_law.nd
  exact (pb_cons (pb_comp (i := 1) (N := ["_law_k", "_law_cell"]) (vars := ["_law_k", "_law_cell"]) (caps := []) nd rfl rfl rfl (compSc_of (defScope s_law).names ["_law_script", "_law_log", "_law_rows", "_law_handed", "_law_told", "_law_turn", "_law_found", "_law_number", "_law_many", "_law_at"] (fun _ => rfl) rfl (by decide +kernel)) (ppi_enum rfl Z.enumerate (pp_sl (pp_var (pv 0)) (ppo_some pp_int) (ppo_some pp_int))) (fun C s0 H0 fp => ⟨(ppg_tup rfl (ppgs_cons (ppg_name (i := 0) (show List.Nodup (["_law_k", "_law_cell"] : List Str) by decide +kernel) rfl (Or.inl rfl)) (ppgs_cons (ppg_name (i := 1) (show List.Nodup (["_law_k", "_law_cell"] : List Str) by decide +kernel) rfl (Or.inl rfl)) ppgs_nil))), pifs_nil, (pp_callC c_l_deed hr rfl (ppa_cons (pp_var (pv 1)) (ppa_cons (pp_var (pv 0)) ppa_nil)))⟩) (by rfl))
      (pb_cons (pb_compO (i := 2) (N := ["_law_deed_here"]) (vars := ["_law_deed_here"]) (caps := []) nd rfl rfl rfl (compSc_of (defScope s_law).names ["_law_script", "_law_log", "_law_rows", "_law_handed", "_law_told", "_law_turn", "_law_found", "_law_number", "_law_many", "_law_at"] (fun _ => rfl) rfl (by decide +kernel)) (ppi_seq (pp_var (pv 1))) (fun C s0 H0 fp => ⟨(ppg_name (i := 0) (show List.Nodup (["_law_deed_here"] : List Str) by decide +kernel) rfl (Or.inl rfl)), pifs_nil, (pp_callC c_l_row hr rfl (ppa_cons (pp_var (pv 0)) ppa_nil))⟩) (by rfl))
      (pb_cons (pb_asg (i := 3) nd rfl (by first | exact Or.inl rfl | exact Or.inr rfl) (pp_listc rfl Z.list (ppa_cons (pp_var (pv 1)) ppa_nil)))
      (pb_cons (pb_asg (i := 4) nd rfl (by first | exact Or.inl rfl | exact Or.inr rfl) (pp_callC c_log_text hr rfl (ppa_cons (pp_var (pv 3)) ppa_nil)))
      (pb_cons (pb_ifT [2] (PPW.pt (ppw_or (ppt_not (ppt_val (pp_isiStr rfl Z.isinstance rfl Z.str (pp_var (pv 4))))) (ppw_or (ppt_ne hv (pp_var (pv 4)) (pp_join pp_str (ppa_cons (pp_var (pv 2)) ppa_nil))) (ppw_or1 (ppt_ne hv (pp_var (pv 3)) (pp_var (pv 1))))))) (pb_one (pb_ret pp_bl)) pb_nil)
      (pb_cons (pb_for PassesOwn.never rfl (ppi_range1 rfl Z.range pp_int) (ppg_name (i := 5) nd rfl (by first | exact Or.inl rfl | exact Or.inr rfl)) (pb_cons (pb_asgOC (i := 6) co_log_from hr rfl (ppa_cons (pp_var (pv 4)) ppa_nil) nd rfl (by first | exact Or.inl rfl | exact Or.inr rfl))
      (pb_cons (pb_ifT [6] (ppt_not (ppt_val (pp_callC c_l_alike hr rfl (ppa_cons (pp_var (pv 6)) (ppa_cons (pp_var (pv 1)) ppa_nil))))) (pb_one (pb_ret pp_bl)) pb_nil)
      (pb_one (pb_app (pv 6) (pp_tup (ppa_cons pp_str (ppa_cons pp_int ppa_nil))) (fun ho ha => pe_bm PySem.F.plainAttrs_list PySem.F.slot_list_append PySem.F.type_list_append mt_append ho ha))))))
      (pb_cons (pb_asg (i := 7) nd rfl (by first | exact Or.inl rfl | exact Or.inr rfl) (pp_callC c_l_mixed hr rfl (ppa_cons (pp_callC c_l_cell_at hr rfl (ppa_cons (pp_var (pv 0)) (ppa_cons pp_int ppa_nil))) (ppa_cons pp_int ppa_nil))))
      (pb_cons (pb_if (ppt_eq hv (pp_var (pv 1)) (pp_lst ppa_nil)) (pb_one (pb_ret (pp_eq hv (pp_callC c_l_refusal hr rfl (ppa_cons pp_str ppa_nil)) pp_int))) pb_nil)
      (pb_cons (pb_if (ppt_eq hv (pp_mod (pp_var (pv 7)) pp_int) pp_int) (pb_cons (pb_asg (i := 8) nd rfl (by first | exact Or.inl rfl | exact Or.inr rfl) (pp_sl (pp_mulN (pv 2) pp_int) ppo_none (ppo_some pp_int)))
      (pb_one (pb_ret (pp_and (pp_eq hv (pp_callC c_l_refusal hr rfl (ppa_cons (pp_join pp_str (ppa_cons (pp_var (pv 8)) ppa_nil)) ppa_nil)) pp_int) (pp_one (pp_eq hv (pp_callC c_l_refusal hr rfl (ppa_cons (pp_join pp_str (ppa_cons (pp_add (pp_var (pv 8)) (pp_lst (ppa_cons (pp_ixN hu (pv 2) pp_int (fun _ _ => rfl)) ppa_nil))) ppa_nil)) ppa_nil)) pp_int)))))) pb_nil)
      (pb_cons (pb_asg (i := 9) nd rfl (by first | exact Or.inl rfl | exact Or.inr rfl) (pp_mod (pp_div (pp_var (pv 7)) pp_int) (pp_lenN rfl Z.len (pv 2))))
      (pb_cons (pb_put hu (pv 2) (pp_var (pv 9)) (pp_callC c_l_spoilt hr rfl (ppa_cons (pp_ixN hu (pv 2) (pp_var (pv 9)) (fun _ _ => rfl)) (ppa_cons (pp_div (pp_var (pv 7)) pp_int) ppa_nil))))
      (pb_cons (pb_if (PPW.pt (ppw_and (ppt_eq hv (pp_lenN rfl Z.len (pv 2)) pp_int) (ppw_and1 (ppt_eq hv (pp_ixN hu (pv 2) pp_int (fun _ _ => rfl)) pp_str)))) (pb_one (pb_ret (pp_eq hv (pp_callC c_log_from hr rfl (ppa_cons pp_str ppa_nil)) (pp_lst ppa_nil)))) pb_nil)
      (pb_cons (pb_if (PPW.pt (ppw_and (ppt_lt (pp_add (pp_var (pv 9)) pp_int) (pp_lenN rfl Z.len (pv 2))) (ppw_and1 (ppt_eq hv (pp_mod (pp_div (pp_var (pv 7)) pp_int) pp_int) pp_int)))) (pb_one (pb_put hu (pv 2) (pp_sub (pp_lenN rfl Z.len (pv 2)) pp_int) pp_str)) pb_nil)
      (pb_one (pb1_frz 2 (pb_ret (pp_eq hv (pp_callC c_l_refusal hr rfl (ppa_cons (pp_join pp_str (ppa_cons (pp_var (pv 2)) ppa_nil)) ppa_nil)) (pp_add (pp_var (pv 9)) pp_int))))))))))))))))))
theorem ok_law {f : Addr} {fd : FuncData} (Fx : Fun K "law" "law" s_law f fd) (Z : Zs K mg) (c_l_deed : Cal P w K mg base cl "_law_deed" 3 ["_law_cell", "_law_k"] f_l_deed) (c_l_row : Cal P w K mg base cl "_law_row" 1 ["_law_deed_here"] f_l_row) (c_log_text : Cal P w K mg base cl "log_text" 2 ["log"] f_log_text) (co_log_from : CalO P w K mg base cl "log_from" 6 ["text"] fo_log_from) (c_l_alike : Cal P w K mg base cl "_law_alike" 1 ["_law_found", "_law_due"] f_l_alike) (c_l_mixed : Cal P w K mg base cl "_law_mixed" 1 ["_law_number", "_law_k"] f_l_mixed) (c_l_cell_at : Cal P w K mg base cl "_law_cell_at" 1 ["_law_script", "_law_k"] f_l_cell_at) (c_l_refusal : Cal P w K mg base cl "_law_refusal" 7 ["_law_text"] f_l_refusal) (c_l_spoilt : Cal P w K mg base cl "_law_spoilt" 2 ["_law_row_here", "_law_number"] f_l_spoilt) (c_log_from : Cal P w K mg base cl "log_from" 6 ["text"] f_log_from) : FnOk P w K mg base CX0 8 f fd ["_law_script"] (spD K cl 1 f_law) :=
  fn_pure (N := ["_law_script", "_law_log", "_law_rows", "_law_handed", "_law_told", "_law_turn", "_law_found", "_law_number", "_law_many", "_law_at"]) (k := 7) Fx sc_law (bd_law Z c_l_deed c_l_row c_log_text co_log_from c_l_alike c_l_mixed c_l_cell_at c_l_refusal c_l_spoilt c_log_from f)
end
end MB
namespace MB
open PySem PySem.Spec PyProof.Rows L2
theorem sc_l_refusal : FnScope ["_law_text", "_law_caught", "e"] ["_law_text"] (defScope s_l_refusal) := ⟨rfl, rfl, rfl, by decide +kernel, rfl, by decide +kernel, by decide +kernel⟩
section
variable {X : Cx} {te : TE} {e : Expr} {p p2 pos : Pos}
theorem pe_isiI {T : String} {b : Bool} {x : Str} (hT : ∀ K, PySem.W.kitOne K (.type "int") (.type T) = some b) (hgi : Gl X "isinstance") (hmi : X.mg "isinstance" = none) (hg : Gl X x) (hm : X.mg x = none) (hv : bootBuiltins x = some (.type T)) (hn : x ≠ "__name__") (hd : (x == ("__debug__" : Str)) = false) (ha : PE X e te)
    (he : starEach [e, .Name x p2] X.env = (false, eval e X.env) :: starEach [.Name x p2] X.env := by rfl) (he2 : starEach [.Name x p2] X.env = (false, eval (.Name x p2) X.env) :: starEach [] X.env := by rfl) (hpl : (backTo pos (starEach [.Name x p2] X.env)).any (·.1) = false := by rfl) :
    PE X (.Call (.Name "isinstance" p) [e, .Name x p2] [] pos) (fun σ H Q => te σ H fun v H1 => ∃ i, [v, .ty T] = [.int i, .ty T] ∧ Q (.bl b) H1) := fun pins s σ H Q I h => by
  refine (pe_callB (r := fun xs H Q => ∃ i, xs = [.int i, .ty T] ∧ Q (.bl b) H) (fun pins s σ H xs us Q I r h => ?_) hgi hmi (by decide +kernel : bootBuiltins "isinstance" = some (.builtin "isinstance")) (pa_cons ha (pa_cons (pe_bltn hg hm hv (v := .ty T) rfl hn hd) pa_nil he2) he) (hn := by decide +kernel) (hdb := by decide +kernel) (he := he) (hpl := hpl)) pins s σ H Q I
    h
  obtain ⟨i, rfl, q⟩ := h
  obtain ⟨u, w, rfl, q1, q2⟩ := vals2 r
  cases q2
  exact isinst_ok I q1 (.int i) (hT X.K) fun tk => ⟨.bl b, H, I.tok tk, rfl, q⟩
end
section
variable {P : Program} {w : World} {K : PySem.W.Frag} {mg : Str → Option Value} {base : Heap} {cl : Nat → Addr} {C CM fI c1 c2 c3 c4 c5 c6 : Addr}
abbrev rfN : List Str := ["_law_text", "_law_caught", "e"]
abbrev rfX (P : Program) (w : World) (K : PySem.W.Frag) (mg : Str → Option Value) (base : Heap) (f : Addr) (cdv : Value) (A : Around) (outer : List Env) (s : Shared) (H : Hp) (E : XK) : Cx := (cxOf CX0 P w K mg base rfN "_law_refusal" (defScope s_l_refusal) f cdv A outer s H E).nox
abbrev rfB : List Stmt := defBody s_l_refusal
theorem rfA (c_log_from : Cal P w K mg base cl "log_from" 6 ["text"] f_log_from) (f : Addr) (cdv : Value) (A : Around) (outer : List Env) (s : Shared) (H : Hp) (E : XK) (hr : Room 6 (A.deeper (envOfC "_law_refusal" (defScope s_l_refusal) s.heap.objs.size f cdv))) :
    PB cl (rfX P w K mg base f cdv A outer s H E) rfB (b_ref0 f_log_from) := by
  have hu := hu_of hr
  have hv := hr.units
  have nd := sc_l_refusal.nd
  exact pb_cons (pb_asg (i := 1) nd rfl (by first | exact Or.inl rfl | exact Or.inr rfl) pp_non) (pb_cons (pb_tryN (pb_one (pb_exp (pp_callC c_log_from hr rfl (ppa_cons (pp_var (pv 0)) ppa_nil)))) (fun _ _ h => h)) (pb_cons (pb_if (ppt_isN (pp_var (pv 1))) (pb_one (pb_ret pp_int)) pb_nil) pb_noneS))
theorem kit_same {K : PySem.W.Frag} {v : Value} : PySem.W.kitOne K v v = some true := by unfold PySem.W.kitOne; rw [if_pos (by simp)]
theorem pa6 {X : Cx} {n1 n2 n3 n4 n5 n6 : Str} {p1 p2 p3 p4 p5 p6 : Pos} (g1 : Gl X n1) (h1 : X.mg n1 = some (.ref c1)) (d1 : (n1 == ("__debug__" : Str)) = false) (g2 : Gl X n2) (h2 : X.mg n2 = some (.ref c2)) (d2 : (n2 == ("__debug__" : Str)) = false) (g3 : Gl X n3) (h3 : X.mg n3 = some (.ref c3)) (d3 : (n3 == ("__debug__" : Str)) = false) (g4 : Gl X n4) (h4 : X.mg n4 = some (.ref c4)) (d4 : (n4 == ("__debug__" : Str)) = false) (g5 : Gl X n5) (h5 : X.mg n5 = some (.ref c5)) (d5 : (n5 == ("__debug__" : Str)) = false) (g6 : Gl X n6) (h6 : X.mg n6 = some (.ref c6)) (d6 : (n6 == ("__debug__" : Str)) = false) : PA X [.Name n1 p1, .Name n2 p2, .Name n3 p3, .Name n4 p4, .Name n5 p5, .Name n6 p6] (fun σ H Q => Q ([c1, c2, c3, c4, c5, c6].map V.ref) H) := (pa_cons (pe_glob g1 h1 (v := .ref c1) rfl d1) (pa_cons (pe_glob g2 h2 (v := .ref c2) rfl d2) (pa_cons (pe_glob g3 h3 (v := .ref c3) rfl d3) (pa_cons (pe_glob g4 h4 (v := .ref c4) rfl d4) (pa_cons (pe_glob g5 h5 (v := .ref c5) rfl d5) (pa_cons (pe_glob g6 h6 (v := .ref c6) rfl d6) pa_nil))))))
theorem iff0 {a b : Prop} (h : b) : if false = true then a else b := by rw [if_neg Bool.false_ne_true]; exact h
theorem PSs.weak {X : Cx} {sts : List Stmt} {t t' : TS} (h : PSs X sts t) (k : ∀ D σ H, t' D σ H → t D σ H) : PSs X sts t' := fun pins s σ H D I z => h pins s σ H D I (k _ _ _ z)
theorem rfR {x dx : Addr} {ox od : Obj} {r : Int} {t : Tok} {ps : List (Addr × Obj)} (Z : Zs K mg) (XS : Xs K mg C CM fI c1 c2 c3 c4 c5 c6) (f : Addr) (cdv : Value) (A : Around) (outer : List Env) (s : Shared) (H : Hp) (E : XK)
    (c : Caught (pnd (rfX P w K mg base f cdv A outer s H E) ps) C x dx ox od r t) :
    PSs (pnd (rfX P w K mg base f cdv A outer s H E) ps) (rfB.drop 2) (fun D σ H => σ[1]? = some (some (.ref x)) ∧ ∀ H', Same H H' → D.rt (.int r) H') := by
  have B : BadQ (pnd (rfX P w K mg base f cdv A outer s H E) ps).K C CM [c1, c2, c3, c4, c5, c6] := XS.q
  refine PSs.weak (pss_cons (ps_if (pt_cmp (pc_isN (X := pnd (rfX P w K mg base f cdv A outer s H E) ps) (pv 1))) (pss_one (ps_ret pe_int)) pss_nil)
    (pss_cons (ps_if (PW.pt (pw_or (pt_not (pt_val (pe_isiE (ic := 1) B c rfl Z.isinstance (pv 1) (pe_glob rfl XS.mB (v := .ref C) rfl) (fun u h => h) kit_same)))
        (pw_or1 (pt_not (pt_val (pe_isiE (ic := 1) B c rfl Z.isinstance (pv 1) (pe_bltn rfl Z.ValueError (by decide +kernel : bootBuiltins "ValueError" = some (.type "ValueError")) (v := .ty "ValueError") rfl) (fun u h => h) XS.q.kv)))))) (pss_never) pss_nil)
    (pss_cons (ps_if (pt_val (pe_isiM (ic := 1) B c rfl Z.isinstance (pv 1) (pa6 rfl XS.m1 (by decide +kernel) rfl XS.m2 (by decide +kernel) rfl XS.m3 (by decide +kernel) rfl XS.m4 (by decide +kernel) rfl XS.m5 (by decide +kernel) rfl XS.m6 (by decide +kernel)) (by show 6 ≤ 1000; decide))) pss_never pss_nil)
    (pss_cons (ps_if (PW.pt (pw_or (pt_not (pt_val (pe_isiI (T := "int") (b := true) (fun K => kit_int K "int" true rfl) rfl Z.isinstance rfl Z.int (by decide +kernel) (by decide +kernel) (by decide +kernel) (pe_row B c (pv 1)))))
        (pw_or1 (pt_val (pe_isiI (T := "bool") (b := false) (fun K => kit_bool K "int" false rfl) rfl Z.isinstance rfl Z.bool (by decide +kernel) (by decide +kernel) (by decide +kernel) (pe_row B c (pv 1))))))) pss_never pss_nil)
    (pss_one (ps_ret (pe_row B c (pv 1)))))))) ?_
  rintro D σ H ⟨e, q⟩
  refine ⟨.ref x, e, false, rfl, iff0 ?_⟩
  refine ⟨e, true, rfl, iff0 ?_⟩
  refine ⟨e, true, rfl, iff0 ?_⟩
  refine ⟨e, fun H' hs => ⟨false, rfl, iff0 ?_⟩⟩
  refine ⟨e, r, rfl, true, rfl, iff0 ?_⟩
  refine ⟨e, r, rfl, false, rfl, iff0 ?_⟩
  exact ⟨e, q H' hs⟩
theorem sp_unpnd {X : Cx} {ps pins : List (Addr × Obj)} {D : Ends} {f : Flow} {s' : Shared} (ok : X.Ok) (h : SP (pnd X ps) pins D f s') : SP X pins D f s' := by
  cases f with
  | next => obtain ⟨σ', H', I, q⟩ := h; exact ⟨σ', H', Inv.unpnd ok I, q⟩
  | brk => obtain ⟨σ', H', I, q⟩ := h; exact ⟨σ', H', Inv.unpnd ok I, q⟩
  | cont => obtain ⟨σ', H', I, q⟩ := h; exact ⟨σ', H', Inv.unpnd ok I, q⟩
  | ret u => obtain ⟨v, σ', H', I, q⟩ := h; exact ⟨v, σ', H', Inv.unpnd ok I, q⟩
theorem rfT {r : Int} {z : Str} (Z : Zs K mg) (XS : Xs K mg C CM fI c1 c2 c3 c4 c5 c6) (cx : CalX P w K mg base cl C "log_from" 6 ["text"] fx_log_from) (hfx : fx_log_from r [.str z] = some (.bad r)) (f : Addr) (cdv : Value) (A : Around) (outer : List Env) (s : Shared) (H : Hp) (E : XK)
    (hr : Room 6 (A.deeper (envOfC "_law_refusal" (defScope s_l_refusal) s.heap.objs.size f cdv))) :
    PSs (rfX P w K mg base f cdv A outer s H E) rfB (fun D σ H => σ[0]? = some (some (.str z)) ∧ ∀ H', Same H H' → D.rt (.int r) H') := by
  rintro pins s1 σ H1 D I ⟨e0, q⟩
  have nd := sc_l_refusal.nd
  have hb : rfB = rfB.getD 0 (.Pass ⟨0, 0, 0, 0⟩) :: rfB.getD 1 (.Pass ⟨0, 0, 0, 0⟩) :: rfB.drop 2 := rfl
  rw [hb]
  have h0 : PS (rfX P w K mg base f cdv A outer s H E) (rfB.getD 0 (.Pass ⟨0, 0, 0, 0⟩)) (tAsg (tC .non) (gName 1)) := ps_set (i := 1) nd rfl (by first | exact Or.inl rfl | exact Or.inr rfl) pe_non
  refine wpAny_execs_cons (thn (h0 pins s1 σ H1 { nx := fun σ' H' => σ' = σ.set 1 (some .non) ∧ H' = H1, rt := fun _ _ => False } I ⟨rfl, rfl⟩) fun fl s2 q2 => ?_)
  cases fl with
  | ret v => obtain ⟨_, _, _, _, _, z⟩ := q2; exact z.elim
  | brk => obtain ⟨_, _, _, z⟩ := q2; exact z.elim
  | cont => obtain ⟨_, _, _, z⟩ := q2; exact z.elim
  | next =>
    obtain ⟨_, H2, I2, rfl, eH⟩ := q2
    subst eH
    refine wpAny_execs_cons (try_catch (X := rfX P w K mg base f cdv A outer s H E) (ic := 1) (ie := 2) (r := r) (z := z) ⟨rfl, rfl⟩ cx rfl XS.q.toBadM hr rfl rfl XS.mM nd rfl (.inl rfl) rfl rfl rfl rfl rfl rfl (by decide) (by decide +kernel) (by decide +kernel) (by decide +kernel) (by decide +kernel) (by decide +kernel) I2 (by rw [List.getElem?_set_ne (by decide)]; exact e0) hfx ?_)
    intro s3 σ3 x dx tb I3 e3 fl3 fx fd
    obtain ⟨⟨t0, ex⟩, m, t, ns, hm⟩ := fl3
    obtain ⟨od, ed, lk⟩ := lookIn_ns ns
    obtain ⟨od', es, ep, ed', hd', _⟩ := ns
    obtain rfl : od = od' := by rw [ed] at ed'; exact Option.some.inj ed'
    generalize hox : ({ cls := Value.ref C, dict := some dx, data := Data.fields #[Value.ref t0, tb, Value.none, Value.none, Value.bool false, Value.none] } : Obj) = ox at ex
    have c : Caught (pnd (rfX P w K mg base f cdv A outer s H E) [(x, ox), (dx, od)]) C x dx ox od r t := ⟨List.mem_append_right _ (by simp), List.mem_append_right _ (by simp), by rw [← hox], by rw [← hox]; rfl, by rw [← hox], by rw [lk, hm]⟩
    have I4 := Inv.pnd (ps := [(x, ox), (dx, od)]) I3 (by
      intro p hp
      rcases List.mem_cons.mp hp with rfl | hp
      · exact ⟨ex, fx.1, fx.2.1, fx.2.2.1, fun v => by rw [← hox]; simp⟩
      · obtain rfl : p = (dx, od) := by simpa using hp
        exact ⟨ed, fd.1, fd.2.1, fd.2.2.1, fun v => by rw [hd']; simp⟩)
    exact thn (rfR Z XS f cdv A outer s H E c pins s3 σ3 _ D I4 ⟨e3, q⟩) fun fl s4 h => sp_unpnd I3.ok h
theorem ok_l_refusal {f : Addr} {fd : FuncData} (Fx : Fun K "_law_refusal" "_law_refusal" s_l_refusal f fd) (Z : Zs K mg) (XS : Xs K mg C CM fI c1 c2 c3 c4 c5 c6) (c_log_from : Cal P w K mg base cl "log_from" 6 ["text"] f_log_from) (cx_log_from : CalX P w K mg base cl C "log_from" 6 ["text"] fx_log_from) : FnOk P w K mg base CX0 7 f fd ["_law_text"] (spD K cl 1 f_l_refusal) := by
  refine Fx.ok (N := rfN) (k := 6) sc_l_refusal (fun vs H Q E h => h.1) (fun cdv A outer s H vs Q E hr h => ?_)
  obtain ⟨hl, ds, d, F', hf, sub, rl, k⟩ := h
  have hf : refD f_log_from fx_log_from ds = some d := hf
  unfold refD at hf
  split at hf
  case h_2 => cases hf
  case h_1 z hf' =>
    cases h1 : f_log_from [.str z] with
    | some d' =>
      rw [h1] at hf
      cases hf
      refine ⟨_, rfA c_log_from f cdv A outer s H E hr, ?_⟩
      have e0 : L2.start rfN vs = vs.map some ++ List.replicate 2 none := by unfold L2.start; rw [hl]; rfl
      rw [e0]
      have sr : SR K cl H F' F' (ini 2 [.str z]) (vs.map some ++ List.replicate 2 none) H F' (fun _ => none) := ⟨er_ini sub rl, Same.refl _, Grow.refl, Same.refl _, fun a l e => by cases e⟩
      exact ⟨H, F', F', ini 2 [.str z], _, ref0_ends h1, ⟨F', _, sr⟩, fun v H' ⟨F2, b, s2, g, r2⟩ => k v H' F2 b s2 g r2⟩
    | none =>
      rw [h1] at hf
      simp only at hf
      split at hf
      · rename_i r hr1
        split at hf
        · rename_i n hn
          split at hf
          · rename_i en
            subst en
            cases hf
            refine ⟨_, rfT Z XS cx_log_from hn f cdv A outer s H E hr, ?_, fun H' hs => ?_⟩
            · cases rl with
              | cons r1 r2 => cases r2; rw [r1.str_inv]; rfl
            · exact k (.int _) H' F' hs (sub.trans hs) Grow.refl (.int _)
          · cases hf
        · cases hf
      · cases hf
end
end MB
namespace MB
open PySem PySem.Spec PyProof.Rows L2
seal PB1 PB PP PPA PPT PPW PPG PPGs PPI PPO PIfs PRc
theorem all_mk {l : PySem.W.OpenLaw} {w : World} {K : PySem.W.Frag} {h : Heap} {mg : Str → Option Value} {fa f0 f1 f2 f3 f4 f5 f6 f7 f8 f9 f10 f11 f12 f13 f14 f15 f16 f17 f18 f19 : Addr} (X : K.In h) (G : h.Ns mainGlobals mg) (hfa : mg "law" = some (.ref fa))
    {od0 an0 od1 an1 od2 an2 od3 an3 od4 an4 od5 an5 od6 an6 od7 an7 od8 an8 od9 an9 od10 an10 od11 an11 od12 an12 od13 an13 od14 an14 od15 an15 od16 an16 od17 an17 od18 an18 od19 an19 : Option Addr} {sl0 sl1 sl2 sl3 sl4 sl5 sl6 sl7 sl8 sl9 sl10 sl11 sl12 sl13 sl14 sl15 sl16 sl17 sl18 sl19 : Array (Option Value)} {oc0 kV0 dc0 pm0 cd0 ct0 oc1 kV1 dc1 pm1 cd1 ct1 oc2 kV2 dc2 pm2 cd2 ct2 oc3 kV3 dc3 pm3 cd3 ct3 oc4 kV4 dc4 pm4 cd4 ct4 oc5 kV5 dc5 pm5 cd5 ct5 oc6 kV6 dc6 pm6 cd6 ct6 oc7 kV7 dc7 pm7 cd7 ct7 oc8 kV8 dc8 pm8 cd8 ct8 oc9 kV9 dc9 pm9 cd9 ct9 oc10 kV10 dc10 pm10 cd10 ct10 oc11 kV11 dc11 pm11 cd11 ct11 oc12 kV12 dc12 pm12 cd12 ct12 oc13 kV13 dc13 pm13 cd13 ct13 oc14 kV14 dc14 pm14 cd14 ct14 oc15 kV15 dc15 pm15 cd15 ct15 oc16 kV16 dc16 pm16 cd16 ct16 oc17 kV17 dc17 pm17 cd17 ct17 oc18 kV18 dc18 pm18 cd18 ct18 oc19 kV19 dc19 pm19 cd19 ct19 : Value} {tk6 : Tok} {tk7 : Tok} {tk8 : Tok} {tk9 : Tok} {tk14 : Tok} {gq12 : Addr} {gd12 : Option Addr} {gn12 : Nat} {gs12 : Array (Option Value)} {gt12_0 gt12_1 gt12_2 gt12_3 : Tok} {unm uq : Str} {uN : Addr} {ubs : List Value} {usn : List Str} {usub : List Value} {uab : Bool} {ucol : Option Bool} {udd : Option Addr} {uk0 uk1 uk2 uk3 uk5 : Option Value} {vnm vq : Str} {vN : Addr} {vbs : List Value} {vsn : List Str} {vsub : List Value} {vab : Bool} {vcol : Option Bool} {vdd : Option Addr} {vk0 vk1 vk2 vk3 vk5 : Option Value} {C CM fI y1 y2 y3 y4 y5 y6 : Addr} {vhd : Bool} {idd ian : Option Addr} {ikV idc ipm icd ict : Value} {isl : Array (Option Value)}
    (a0 : PySem.W.nsIn K mainGlobals "_law_mixed" = some (some (.ref f0))) (l0 : K.lookup f0 = some ⟨oc0, od0, .func (PySem.W.fnOf "_law_mixed" "_law_mixed" (defArgs s_l_mixed) (defBody s_l_mixed) (defScope s_l_mixed) .none kV0 dc0 pm0 an0 cd0 ct0), sl0⟩) (c0 : PySem.W.codeIn K cd0 "_law_mixed" = true) (k0 : PySem.W.keepIn K (.ref f0) = true)
    (a1 : PySem.W.nsIn K mainGlobals "_law_draws" = some (some (.ref f1))) (l1 : K.lookup f1 = some ⟨oc1, od1, .func (PySem.W.fnOf "_law_draws" "_law_draws" (defArgs s_l_draws) (defBody s_l_draws) (defScope s_l_draws) .none kV1 dc1 pm1 an1 cd1 ct1), sl1⟩) (c1 : PySem.W.codeIn K cd1 "_law_draws" = true) (k1 : PySem.W.keepIn K (.ref f1) = true)
    (a2 : PySem.W.nsIn K mainGlobals "_law_name" = some (some (.ref f2))) (l2 : K.lookup f2 = some ⟨oc2, od2, .func (PySem.W.fnOf "_law_name" "_law_name" (defArgs s_l_name) (defBody s_l_name) (defScope s_l_name) .none kV2 dc2 pm2 an2 cd2 ct2), sl2⟩) (c2 : PySem.W.codeIn K cd2 "_law_name" = true) (k2 : PySem.W.keepIn K (.ref f2) = true)
    (a3 : PySem.W.nsIn K mainGlobals "_law_deed" = some (some (.ref f3))) (l3 : K.lookup f3 = some ⟨oc3, od3, .func (PySem.W.fnOf "_law_deed" "_law_deed" (defArgs s_l_deed) (defBody s_l_deed) (defScope s_l_deed) .none kV3 dc3 pm3 an3 cd3 ct3), sl3⟩) (c3 : PySem.W.codeIn K cd3 "_law_deed" = true) (k3 : PySem.W.keepIn K (.ref f3) = true)
    (a4 : PySem.W.nsIn K mainGlobals "_law_row" = some (some (.ref f4))) (l4 : K.lookup f4 = some ⟨oc4, od4, .func (PySem.W.fnOf "_law_row" "_law_row" (defArgs s_l_row) (defBody s_l_row) (defScope s_l_row) .none kV4 dc4 pm4 an4 cd4 ct4), sl4⟩) (c4 : PySem.W.codeIn K cd4 "_law_row" = true) (k4 : PySem.W.keepIn K (.ref f4) = true)
    (a5 : PySem.W.nsIn K mainGlobals "row_of" = some (some (.ref f5))) (l5 : K.lookup f5 = some ⟨oc5, od5, .func (PySem.W.fnOf "row_of" "row_of" (defArgs s_row_of) (defBody s_row_of) (defScope s_row_of) .none kV5 dc5 pm5 an5 cd5 ct5), sl5⟩) (c5 : PySem.W.codeIn K cd5 "row_of" = true) (k5 : PySem.W.keepIn K (.ref f5) = true)
    (a6 : PySem.W.nsIn K mainGlobals "log_text" = some (some (.ref f6))) (l6 : K.lookup f6 = some ⟨oc6, od6, .func (PySem.W.fnOf "log_text" "log_text" (defArgs s_log_text) (defBody s_log_text) (defScope s_log_text) .none kV6 dc6 pm6 an6 cd6 ct6), sl6⟩) (c6 : PySem.W.codeIn K cd6 "log_text" = true) (k6 : PySem.W.keepIn K (.ref f6) = true)
    (a7 : PySem.W.nsIn K mainGlobals "made_of" = some (some (.ref f7))) (l7 : K.lookup f7 = some ⟨oc7, od7, .func (PySem.W.fnOf "made_of" "made_of" (defArgs s_made_of) (defBody s_made_of) (defScope s_made_of) .none kV7 dc7 pm7 an7 cd7 ct7), sl7⟩) (c7 : PySem.W.codeIn K cd7 "made_of" = true) (k7 : PySem.W.keepIn K (.ref f7) = true)
    (a8 : PySem.W.nsIn K mainGlobals "is_number" = some (some (.ref f8))) (l8 : K.lookup f8 = some ⟨oc8, od8, .func (PySem.W.fnOf "is_number" "is_number" (defArgs s_is_number) (defBody s_is_number) (defScope s_is_number) .none kV8 dc8 pm8 an8 cd8 ct8), sl8⟩) (c8 : PySem.W.codeIn K cd8 "is_number" = true) (k8 : PySem.W.keepIn K (.ref f8) = true)
    (a9 : PySem.W.nsIn K mainGlobals "is_name" = some (some (.ref f9))) (l9 : K.lookup f9 = some ⟨oc9, od9, .func (PySem.W.fnOf "is_name" "is_name" (defArgs s_is_name) (defBody s_is_name) (defScope s_is_name) .none kV9 dc9 pm9 an9 cd9 ct9), sl9⟩) (c9 : PySem.W.codeIn K cd9 "is_name" = true) (k9 : PySem.W.keepIn K (.ref f9) = true)
    (a10 : PySem.W.nsIn K mainGlobals "fits" = some (some (.ref f10))) (l10 : K.lookup f10 = some ⟨oc10, od10, .func (PySem.W.fnOf "fits" "fits" (defArgs s_fits) (defBody s_fits) (defScope s_fits) .none kV10 dc10 pm10 an10 cd10 ct10), sl10⟩) (c10 : PySem.W.codeIn K cd10 "fits" = true) (k10 : PySem.W.keepIn K (.ref f10) = true)
    (a11 : PySem.W.nsIn K mainGlobals "values_of" = some (some (.ref f11))) (l11 : K.lookup f11 = some ⟨oc11, od11, .func (PySem.W.fnOf "values_of" "values_of" (defArgs s_values_of) (defBody s_values_of) (defScope s_values_of) .none kV11 dc11 pm11 an11 cd11 ct11), sl11⟩) (c11 : PySem.W.codeIn K cd11 "values_of" = true) (k11 : PySem.W.keepIn K (.ref f11) = true)
    (a12 : PySem.W.nsIn K mainGlobals "deed_of" = some (some (.ref f12))) (l12 : K.lookup f12 = some ⟨oc12, od12, .func (PySem.W.fnOf "deed_of" "deed_of" (defArgs s_deed_of) (defBody s_deed_of) (defScope s_deed_of) .none kV12 dc12 pm12 an12 cd12 ct12), sl12⟩) (c12 : PySem.W.codeIn K cd12 "deed_of" = true) (k12 : PySem.W.keepIn K (.ref f12) = true)
    (a13 : PySem.W.nsIn K mainGlobals "log_from" = some (some (.ref f13))) (l13 : K.lookup f13 = some ⟨oc13, od13, .func (PySem.W.fnOf "log_from" "log_from" (defArgs s_log_from) (defBody s_log_from) (defScope s_log_from) .none kV13 dc13 pm13 an13 cd13 ct13), sl13⟩) (c13 : PySem.W.codeIn K cd13 "log_from" = true) (k13 : PySem.W.keepIn K (.ref f13) = true)
    (a14 : PySem.W.nsIn K mainGlobals "_law_alike" = some (some (.ref f14))) (l14 : K.lookup f14 = some ⟨oc14, od14, .func (PySem.W.fnOf "_law_alike" "_law_alike" (defArgs s_l_alike) (defBody s_l_alike) (defScope s_l_alike) .none kV14 dc14 pm14 an14 cd14 ct14), sl14⟩) (c14 : PySem.W.codeIn K cd14 "_law_alike" = true) (k14 : PySem.W.keepIn K (.ref f14) = true)
    (a15 : PySem.W.nsIn K mainGlobals "_law_cell_at" = some (some (.ref f15))) (l15 : K.lookup f15 = some ⟨oc15, od15, .func (PySem.W.fnOf "_law_cell_at" "_law_cell_at" (defArgs s_l_cell_at) (defBody s_l_cell_at) (defScope s_l_cell_at) .none kV15 dc15 pm15 an15 cd15 ct15), sl15⟩) (c15 : PySem.W.codeIn K cd15 "_law_cell_at" = true) (k15 : PySem.W.keepIn K (.ref f15) = true)
    (a16 : PySem.W.nsIn K mainGlobals "_law_refusal" = some (some (.ref f16))) (l16 : K.lookup f16 = some ⟨oc16, od16, .func (PySem.W.fnOf "_law_refusal" "_law_refusal" (defArgs s_l_refusal) (defBody s_l_refusal) (defScope s_l_refusal) .none kV16 dc16 pm16 an16 cd16 ct16), sl16⟩) (c16 : PySem.W.codeIn K cd16 "_law_refusal" = true) (k16 : PySem.W.keepIn K (.ref f16) = true)
    (a17 : PySem.W.nsIn K mainGlobals "_law_bad_number" = some (some (.ref f17))) (l17 : K.lookup f17 = some ⟨oc17, od17, .func (PySem.W.fnOf "_law_bad_number" "_law_bad_number" (defArgs s_l_bad_number) (defBody s_l_bad_number) (defScope s_l_bad_number) .none kV17 dc17 pm17 an17 cd17 ct17), sl17⟩) (c17 : PySem.W.codeIn K cd17 "_law_bad_number" = true) (k17 : PySem.W.keepIn K (.ref f17) = true)
    (a18 : PySem.W.nsIn K mainGlobals "_law_spoilt" = some (some (.ref f18))) (l18 : K.lookup f18 = some ⟨oc18, od18, .func (PySem.W.fnOf "_law_spoilt" "_law_spoilt" (defArgs s_l_spoilt) (defBody s_l_spoilt) (defScope s_l_spoilt) .none kV18 dc18 pm18 an18 cd18 ct18), sl18⟩) (c18 : PySem.W.codeIn K cd18 "_law_spoilt" = true) (k18 : PySem.W.keepIn K (.ref f18) = true)
    (a19 : PySem.W.nsIn K mainGlobals "law" = some (some (.ref f19))) (l19 : K.lookup f19 = some ⟨oc19, od19, .func (PySem.W.fnOf "law" "law" (defArgs s_law) (defBody s_law) (defScope s_law) .none kV19 dc19 pm19 an19 cd19 ct19), sl19⟩) (c19 : PySem.W.codeIn K cd19 "law" = true) (k19 : PySem.W.keepIn K (.ref f19) = true)
    (z0 : PySem.W.nsIn K mainGlobals "range" = some none)
    (z1 : PySem.W.nsIn K mainGlobals "tuple" = some none)
    (z2 : PySem.W.nsIn K mainGlobals "str" = some none)
    (z3 : PySem.W.nsIn K mainGlobals "list" = some none)
    (z4 : PySem.W.nsIn K mainGlobals "all" = some none)
    (z5 : PySem.W.nsIn K mainGlobals "len" = some none)
    (z6 : PySem.W.nsIn K mainGlobals "LONGEST_NUMBER" = some (some (.int 12 tk6)))
    (z7 : PySem.W.nsIn K mainGlobals "DIGITS" = some (some (.str "0123456789" tk7)))
    (z8 : PySem.W.nsIn K mainGlobals "LONGEST_NAME" = some (some (.int 8 tk8)))
    (z9 : PySem.W.nsIn K mainGlobals "LETTERS" = some (some (.str "abcdefghijklmnopqrstuvwxyz" tk9)))
    (z10 : PySem.W.nsIn K mainGlobals "zip" = some none)
    (z11 : PySem.W.nsIn K mainGlobals "int" = some none)
    (z12 : PySem.W.nsIn K mainGlobals "DEED_FORMS" = some (some (.ref gq12))) (zl12 : K.lookup gq12 = some ⟨.type "tuple", gd12, .seq #[.str "NUMBER tell NAME NUMBER NUMBER" gt12_0, .str "NUMBER change NAME NUMBER NUMBER NUMBER NUMBER" gt12_1, .str "NUMBER wrong NAME NUMBER" gt12_2, .str "NUMBER bill" gt12_3] gn12, gs12⟩)
    (z13 : PySem.W.nsIn K mainGlobals "enumerate" = some none)
    (z14 : PySem.W.nsIn K mainGlobals "MOST_ROWS" = some (some (.int 60 tk14)))
    (z15 : PySem.W.nsIn K mainGlobals "isinstance" = some none)
    (z16 : PySem.W.nsIn K mainGlobals "bool" = some none)
    (z17 : PySem.W.nsIn K mainGlobals "ValueError" = some none)
    (xB : PySem.W.nsIn K mainGlobals "BadRow" = some (some (.ref C)))
    (xM : PySem.W.nsIn K mainGlobals "MeterError" = some (some (.ref CM)))
    (x1 : PySem.W.nsIn K mainGlobals "BadValue" = some (some (.ref y1)))
    (x2 : PySem.W.nsIn K mainGlobals "NoCounter" = some (some (.ref y2)))
    (x3 : PySem.W.nsIn K mainGlobals "NoMark" = some (some (.ref y3)))
    (x4 : PySem.W.nsIn K mainGlobals "TooEarly" = some (some (.ref y4)))
    (x5 : PySem.W.nsIn K mainGlobals "TooFast" = some (some (.ref y5)))
    (x6 : PySem.W.nsIn K mainGlobals "TooLate" = some (some (.ref y6)))
    (xC : K.lookup C = some (excClassObj unm uq C uN ubs (.ref CM :: bmV) true usn usub uab ucol udd uk0 uk1 uk2 uk3 uk5 "ValueError.__new__"))
    (xD : K.lookup CM = some (excClassObj vnm vq CM vN vbs bmV vhd vsn vsub vab vcol vdd vk0 vk1 vk2 vk3 vk5 "ValueError.__new__"))
    (xsa : PySem.W.findIn K (.ref C) "__setattr__" = some (some (.builtin "object.__setattr__")))
    (xga : PySem.W.findIn K (.ref C) "__getattribute__" = some (some (.builtin "BaseException.__getattribute__")))
    (xgt : PySem.W.findIn K (.ref C) "__getattr__" = some none)
    (xrow : PySem.W.findIn K (.ref C) "row" = some none)
    (xca : PySem.W.findIn K (.ref C) "__class__" = some (some (.builtin "object.__class__")))
    (xcg : PySem.W.specialIn K (.builtin "object.__class__") "__get__" = some (some (.builtin "getset_descriptor.__get__")))
    (xct : PySem.W.takesIn K (.builtin "object.__class__") = some true)
    (xkv : PySem.W.kitOne K (.ref C) (.type "ValueError") = some true)
    (xkn : PySem.W.kitAny K (.ref C) [.ref y1, .ref y2, .ref y3, .ref y4, .ref y5, .ref y6] = some false)
    (xkp : PySem.W.keepIn K (.ref C) = true)
    (xin : PySem.W.findIn K (.ref C) "__init__" = some (some (.ref fI)))
    (xfl : K.lookup fI = some ⟨.type "function", idd, .func (PySem.W.fnOf "__init__" "BadRow.__init__" (defArgs s_init) (defBody s_init) (defScope s_init) .none ikV idc ipm ian icd ict), isl⟩)
    (xfc : PySem.W.codeIn K icd "BadRow.__init__" = true)
    (xfk : PySem.W.keepIn K (.ref fI) = true)
    : ∃ fd : FuncData, (∀ (s : Shared) (v : Value), BindsTo s fd ⟨[v], []⟩ [("_law_script", v)]) ∧ ∀ base : Heap, K.In base → base.Ns mainGlobals mg → FnOk l.prog w K mg base CX0 8 fa fd ["_law_script"] (spD K (fun _ => 0) 1 f_law) := by
  have e := hfa.symm.trans (PySem.W.mg_of X G a19)
  cases e
  have Z : Zs K mg := ⟨PySem.W.mg_none_of X G z0, PySem.W.mg_none_of X G z1, PySem.W.mg_none_of X G z2, PySem.W.mg_none_of X G z3, PySem.W.mg_none_of X G z4, PySem.W.mg_none_of X G z5, ⟨_, PySem.W.mg_of X G z6⟩, ⟨_, PySem.W.mg_of X G z7⟩, ⟨_, PySem.W.mg_of X G z8⟩, ⟨_, PySem.W.mg_of X G z9⟩, PySem.W.mg_none_of X G z10, PySem.W.mg_none_of X G z11, ⟨gq12, PySem.W.mg_of X G z12, .inr ⟨_, _, _, zl12, rfl, rfl, (by show 4 ≤ sizeLine; decide), .cons ⟨_, rfl⟩ (.cons ⟨_, rfl⟩ (.cons ⟨_, rfl⟩ (.cons ⟨_, rfl⟩ (.nil))))⟩⟩, PySem.W.mg_none_of X G z13, ⟨_, PySem.W.mg_of X G z14⟩, PySem.W.mg_none_of X G z15, PySem.W.mg_none_of X G z16, PySem.W.mg_none_of X G z17⟩
  have F0 := fun_mk (st := s_l_mixed) l0 c0 k0
  have b0 := F0.binds (ps := ["_law_number", "_law_k"]) fun _ _ _ _ _ _ us hl => match us, hl with | [_, _], _ => rfl
  have F1 := fun_mk (st := s_l_draws) l1 c1 k1
  have b1 := F1.binds (ps := ["_law_cell", "_law_many", "_law_size"]) fun _ _ _ _ _ _ us hl => match us, hl with | [_, _, _], _ => rfl
  have F2 := fun_mk (st := s_l_name) l2 c2 k2
  have b2 := F2.binds (ps := ["_law_number"]) fun _ _ _ _ _ _ us hl => match us, hl with | [_], _ => rfl
  have F3 := fun_mk (st := s_l_deed) l3 c3 k3
  have b3 := F3.binds (ps := ["_law_cell", "_law_k"]) fun _ _ _ _ _ _ us hl => match us, hl with | [_, _], _ => rfl
  have F4 := fun_mk (st := s_l_row) l4 c4 k4
  have b4 := F4.binds (ps := ["_law_deed_here"]) fun _ _ _ _ _ _ us hl => match us, hl with | [_], _ => rfl
  have F5 := fun_mk (st := s_row_of) l5 c5 k5
  have b5 := F5.binds (ps := ["words"]) fun _ _ _ _ _ _ us hl => match us, hl with | [_], _ => rfl
  have F6 := fun_mk (st := s_log_text) l6 c6 k6
  have b6 := F6.binds (ps := ["log"]) fun _ _ _ _ _ _ us hl => match us, hl with | [_], _ => rfl
  have F7 := fun_mk (st := s_made_of) l7 c7 k7
  have b7 := F7.binds (ps := ["word", "signs"]) fun _ _ _ _ _ _ us hl => match us, hl with | [_, _], _ => rfl
  have F8 := fun_mk (st := s_is_number) l8 c8 k8
  have b8 := F8.binds (ps := ["word"]) fun _ _ _ _ _ _ us hl => match us, hl with | [_], _ => rfl
  have F9 := fun_mk (st := s_is_name) l9 c9 k9
  have b9 := F9.binds (ps := ["word"]) fun _ _ _ _ _ _ us hl => match us, hl with | [_], _ => rfl
  have F10 := fun_mk (st := s_fits) l10 c10 k10
  have b10 := F10.binds (ps := ["word", "part"]) fun _ _ _ _ _ _ us hl => match us, hl with | [_, _], _ => rfl
  have F11 := fun_mk (st := s_values_of) l11 c11 k11
  have b11 := F11.binds (ps := ["row", "form"]) fun _ _ _ _ _ _ us hl => match us, hl with | [_, _], _ => rfl
  have F12 := fun_mk (st := s_deed_of) l12 c12 k12
  have b12 := F12.binds (ps := ["row"]) fun _ _ _ _ _ _ us hl => match us, hl with | [_], _ => rfl
  have F13 := fun_mk (st := s_log_from) l13 c13 k13
  have b13 := F13.binds (ps := ["text"]) fun _ _ _ _ _ _ us hl => match us, hl with | [_], _ => rfl
  have F14 := fun_mk (st := s_l_alike) l14 c14 k14
  have b14 := F14.binds (ps := ["_law_found", "_law_due"]) fun _ _ _ _ _ _ us hl => match us, hl with | [_, _], _ => rfl
  have F15 := fun_mk (st := s_l_cell_at) l15 c15 k15
  have b15 := F15.binds (ps := ["_law_script", "_law_k"]) fun _ _ _ _ _ _ us hl => match us, hl with | [_, _], _ => rfl
  have F16 := fun_mk (st := s_l_refusal) l16 c16 k16
  have b16 := F16.binds (ps := ["_law_text"]) fun _ _ _ _ _ _ us hl => match us, hl with | [_], _ => rfl
  have F17 := fun_mk (st := s_l_bad_number) l17 c17 k17
  have b17 := F17.binds (ps := ["_law_number"]) fun _ _ _ _ _ _ us hl => match us, hl with | [_], _ => rfl
  have F18 := fun_mk (st := s_l_spoilt) l18 c18 k18
  have b18 := F18.binds (ps := ["_law_row_here", "_law_number"]) fun _ _ _ _ _ _ us hl => match us, hl with | [_, _], _ => rfl
  have F19 := fun_mk (st := s_law) l19 c19 k19
  have b19 := F19.binds (ps := ["_law_script"]) fun _ _ _ _ _ _ us hl => match us, hl with | [_], _ => rfl
  have XB : BadK K C CM := ⟨⟨unm, uq, uN, ubs, true, usn, usub, uab, ucol, udd, uk0, uk1, uk2, uk3, uk5, xC, rfl⟩, xsa, xga, xgt, xrow⟩
  have XF := fun_mk (st := s_init) xfl xfc xfk
  have XS : Xs K mg C CM fI y1 y2 y3 y4 y5 y6 := ⟨⟨⟨XB, ⟨vnm, vq, vN, vbs, vhd, vsn, vsub, vab, vcol, vdd, vk0, vk1, vk2, vk3, vk5, xD⟩⟩, xca, xcg, xct, xkv, xkn⟩, ⟨XB, xkp, xin, ⟨_, _, XF, XF.binds (ps := ["self", "row"]) fun _ _ _ _ _ _ us hl => match us, hl with | [_, _], _ => rfl⟩, ⟨_, xfl, rfl⟩, ⟨rfl, rfl, rfl, by decide +kernel, rfl, by decide +kernel, by decide +kernel⟩, ⟨_, _, _, _, rfl⟩, ⟨.inl rfl, .inl rfl⟩⟩, PySem.W.mg_of X G xB, PySem.W.mg_of X G xM, PySem.W.mg_of X G x1, PySem.W.mg_of X G x2, PySem.W.mg_of X G x3, PySem.W.mg_of X G x4, PySem.W.mg_of X G x5, PySem.W.mg_of X G x6⟩
  refine ⟨PySem.W.fnOf "law" "law" (defArgs s_law) (defBody s_law) (defScope s_law) .none kV19 dc19 pm19 an19 cd19 ct19, fun s v => .of_eq rfl, fun base _ _ => ?_⟩
  have c_l_mixed : Cal l.prog w K mg base (fun _ => 0) "_law_mixed" 1 ["_law_number", "_law_k"] f_l_mixed := ⟨f0, _, ok_l_mixed F0 Z , PySem.W.mg_of X G a0, k0, b0⟩
  have c_l_draws : Cal l.prog w K mg base (fun _ => 0) "_law_draws" 2 ["_law_cell", "_law_many", "_law_size"] f_l_draws := ⟨f1, _, ok_l_draws F1 Z c_l_mixed, PySem.W.mg_of X G a1, k1, b1⟩
  have c_l_name : Cal l.prog w K mg base (fun _ => 0) "_law_name" 1 ["_law_number"] f_l_name := ⟨f2, _, ok_l_name F2 Z , PySem.W.mg_of X G a2, k2, b2⟩
  have c_l_deed : Cal l.prog w K mg base (fun _ => 0) "_law_deed" 3 ["_law_cell", "_law_k"] f_l_deed := ⟨f3, _, ok_l_deed F3 Z c_l_draws c_l_mixed c_l_name, PySem.W.mg_of X G a3, k3, b3⟩
  have c_l_row : Cal l.prog w K mg base (fun _ => 0) "_law_row" 1 ["_law_deed_here"] f_l_row := ⟨f4, _, ok_l_row F4 Z , PySem.W.mg_of X G a4, k4, b4⟩
  have c_row_of : Cal l.prog w K mg base (fun _ => 0) "row_of" 1 ["words"] f_row_of := ⟨f5, _, ok_row_of F5 Z , PySem.W.mg_of X G a5, k5, b5⟩
  have c_log_text : Cal l.prog w K mg base (fun _ => 0) "log_text" 2 ["log"] f_log_text := ⟨f6, _, ok_log_text F6 Z c_row_of, PySem.W.mg_of X G a6, k6, b6⟩
  have c_made_of : Cal l.prog w K mg base (fun _ => 0) "made_of" 1 ["word", "signs"] f_made_of := ⟨f7, _, ok_made_of F7 Z , PySem.W.mg_of X G a7, k7, b7⟩
  have c_is_number : Cal l.prog w K mg base (fun _ => 0) "is_number" 2 ["word"] f_is_number := ⟨f8, _, ok_is_number F8 Z c_made_of, PySem.W.mg_of X G a8, k8, b8⟩
  have c_is_name : Cal l.prog w K mg base (fun _ => 0) "is_name" 2 ["word"] f_is_name := ⟨f9, _, ok_is_name F9 Z c_made_of, PySem.W.mg_of X G a9, k9, b9⟩
  have c_fits : Cal l.prog w K mg base (fun _ => 0) "fits" 3 ["word", "part"] f_fits := ⟨f10, _, ok_fits F10 Z c_is_number c_is_name, PySem.W.mg_of X G a10, k10, b10⟩
  have c_values_of : Cal l.prog w K mg base (fun _ => 0) "values_of" 4 ["row", "form"] f_values_of := ⟨f11, _, ok_values_of F11 Z c_fits, PySem.W.mg_of X G a11, k11, b11⟩
  have c_deed_of : Cal l.prog w K mg base (fun _ => 0) "deed_of" 5 ["row"] f_deed_of := ⟨f12, _, ok_deed_of F12 Z c_values_of, PySem.W.mg_of X G a12, k12, b12⟩
  have c_log_from : Cal l.prog w K mg base (fun _ => 0) "log_from" 6 ["text"] f_log_from := ⟨f13, _, ok_log_from F13 Z c_deed_of, PySem.W.mg_of X G a13, k13, b13⟩
  have cx_log_from : CalX l.prog w K mg base (fun _ => 0) C "log_from" 6 ["text"] fx_log_from := ⟨f13, _, okx_log_from F13 Z XS c_deed_of, PySem.W.mg_of X G a13, k13, b13⟩
  have co_log_from : CalO l.prog w K mg base (fun _ => 0) "log_from" 6 ["text"] fo_log_from := ⟨f13, _, oko_log_from F13 Z c_deed_of, PySem.W.mg_of X G a13, k13, b13⟩
  have c_l_alike : Cal l.prog w K mg base (fun _ => 0) "_law_alike" 1 ["_law_found", "_law_due"] f_l_alike := ⟨f14, _, ok_l_alike F14 Z , PySem.W.mg_of X G a14, k14, b14⟩
  have c_l_cell_at : Cal l.prog w K mg base (fun _ => 0) "_law_cell_at" 1 ["_law_script", "_law_k"] f_l_cell_at := ⟨f15, _, ok_l_cell_at F15 Z , PySem.W.mg_of X G a15, k15, b15⟩
  have c_l_refusal : Cal l.prog w K mg base (fun _ => 0) "_law_refusal" 7 ["_law_text"] f_l_refusal := ⟨f16, _, ok_l_refusal F16 Z XS c_log_from cx_log_from, PySem.W.mg_of X G a16, k16, b16⟩
  have c_l_bad_number : Cal l.prog w K mg base (fun _ => 0) "_law_bad_number" 1 ["_law_number"] f_l_bad_number := ⟨f17, _, ok_l_bad_number F17 Z , PySem.W.mg_of X G a17, k17, b17⟩
  have c_l_spoilt : Cal l.prog w K mg base (fun _ => 0) "_law_spoilt" 2 ["_law_row_here", "_law_number"] f_l_spoilt := ⟨f18, _, ok_l_spoilt F18 Z c_l_bad_number, PySem.W.mg_of X G a18, k18, b18⟩
  exact ok_law F19 Z c_l_deed c_l_row c_log_text co_log_from c_l_alike c_l_mixed c_l_cell_at c_l_refusal c_l_spoilt c_log_from
theorem walk (math : ∀ ns : List Int, ns.length ≤ 63 → f_law [.lst (ns.map .int)] = some (.bl true)) {l : PySem.W.OpenLaw} {q : Program} {loose : List Str} {XP : (Str → Option Value) → Heap → Prop} {YP : World → Heap → Prop} {d : DefRec} {K : Params → PySem.W.Frag} (hn : l.most = some 63) (hdf : d.params.defaults = [])
    (hY : ∀ (w : World) (h : Heap), YP w h → (K w.params).In h)
    (F : ∀ (w : World) (mg : Str → Option Value) (fa : Addr) (h : Heap), (K w.params).In h → h.Ns mainGlobals mg → mg d.name = some (.ref fa) →
      ∃ fd : FuncData, (∀ (s : Shared) (u : Value), BindsTo s fd ⟨[u], []⟩ [("_law_script", u)]) ∧ ∀ base : Heap, (K w.params).In base → base.Ns mainGlobals mg → FnOk l.prog w (K w.params) mg base CX0 8 fa fd ["_law_script"] (spD (K w.params) (fun _ => 0) 1 f_law)) :
    PySem.W.WalkO q loose XP YP l.row.toRowW d [] (fun f vs => PySem.call f vs) :=
  L2.walk_of (n := 63) (k := 8) (x := "_law_script") (CX := fun _ => CX0) (sp := fun w => spD (K w.params) (fun _ => 0) 1 f_law) hn (by decide) hdf ⟨rfl, by decide, by decide⟩ hY F (fun _ H a ns hl _ hS => ⟨rfl, [.lst (ns.map .int)], .bl true, H, math ns hl, Same.refl _, .cons (.lst' hS (repL_of_ints ns)) .nil, fun v H' F' _ _ _ r => r.bl_inv⟩) fun _ _ _ _ _ z => z
end MB
open PySem PySem.W PyProof.Rows
set_option maxRecDepth 100000 in
set_option maxHeartbeats 0 in
theorem PySem.Challenge.cw_meterbook_k20_log_texts_holds : PySem.Challenge.rw_meterbook_k20_log_texts.Holds := by
  w_on; o_law; k_head; (case hw => w_witness2)
  k_fill
  refine MB.walk MB.math (l := PySem.Challenge.rw_meterbook_k20_log_texts) rfl rfl (fun w h Y => PySem.W.kIn_of Y) ?F
  case F =>
    intro w mg fa h KX G hmg
    refine' MB.all_mk KX G hmg ?a0 ?l0 ?c0 ?k0 ?a1 ?l1 ?c1 ?k1 ?a2 ?l2 ?c2 ?k2 ?a3 ?l3 ?c3 ?k3 ?a4 ?l4 ?c4 ?k4 ?a5 ?l5 ?c5 ?k5 ?a6 ?l6 ?c6 ?k6 ?a7 ?l7 ?c7 ?k7 ?a8 ?l8 ?c8 ?k8 ?a9 ?l9 ?c9 ?k9 ?a10 ?l10 ?c10 ?k10 ?a11 ?l11 ?c11 ?k11 ?a12 ?l12 ?c12 ?k12 ?a13 ?l13 ?c13 ?k13 ?a14 ?l14 ?c14 ?k14 ?a15 ?l15 ?c15 ?k15 ?a16 ?l16 ?c16 ?k16 ?a17 ?l17 ?c17 ?k17 ?a18 ?l18 ?c18 ?k18 ?a19 ?l19 ?c19 ?k19 ?z0 ?z1 ?z2 ?z3 ?z4 ?z5 ?z6 ?z7 ?z8 ?z9 ?z10 ?z11 ?z12 ?zl12 ?z13 ?z14 ?z15 ?z16 ?z17 ?xB ?xM ?x1 ?x2 ?x3 ?x4 ?x5 ?x6 ?xC ?xD ?xsa ?xga ?xgt ?xrow ?xca ?xcg ?xct ?xkv ?xkn ?xkp ?xin ?xfl ?xfc ?xfk
    (case a0 => k_is)
    (case l0 => k_is)
    (case c0 => k_is)
    (case k0 => k_is)
    (case a1 => k_is)
    (case l1 => k_is)
    (case c1 => k_is)
    (case k1 => k_is)
    (case a2 => k_is)
    (case l2 => k_is)
    (case c2 => k_is)
    (case k2 => k_is)
    (case a3 => k_is)
    (case l3 => k_is)
    (case c3 => k_is)
    (case k3 => k_is)
    (case a4 => k_is)
    (case l4 => k_is)
    (case c4 => k_is)
    (case k4 => k_is)
    (case a5 => k_is)
    (case l5 => k_is)
    (case c5 => k_is)
    (case k5 => k_is)
    (case a6 => k_is)
    (case l6 => k_is)
    (case c6 => k_is)
    (case k6 => k_is)
    (case a7 => k_is)
    (case l7 => k_is)
    (case c7 => k_is)
    (case k7 => k_is)
    (case a8 => k_is)
    (case l8 => k_is)
    (case c8 => k_is)
    (case k8 => k_is)
    (case a9 => k_is)
    (case l9 => k_is)
    (case c9 => k_is)
    (case k9 => k_is)
    (case a10 => k_is)
    (case l10 => k_is)
    (case c10 => k_is)
    (case k10 => k_is)
    (case a11 => k_is)
    (case l11 => k_is)
    (case c11 => k_is)
    (case k11 => k_is)
    (case a12 => k_is)
    (case l12 => k_is)
    (case c12 => k_is)
    (case k12 => k_is)
    (case a13 => k_is)
    (case l13 => k_is)
    (case c13 => k_is)
    (case k13 => k_is)
    (case a14 => k_is)
    (case l14 => k_is)
    (case c14 => k_is)
    (case k14 => k_is)
    (case a15 => k_is)
    (case l15 => k_is)
    (case c15 => k_is)
    (case k15 => k_is)
    (case a16 => k_is)
    (case l16 => k_is)
    (case c16 => k_is)
    (case k16 => k_is)
    (case a17 => k_is)
    (case l17 => k_is)
    (case c17 => k_is)
    (case k17 => k_is)
    (case a18 => k_is)
    (case l18 => k_is)
    (case c18 => k_is)
    (case k18 => k_is)
    (case a19 => k_is)
    (case l19 => k_is)
    (case c19 => k_is)
    (case k19 => k_is)
    (case z0 => k_is)
    (case z1 => k_is)
    (case z2 => k_is)
    (case z3 => k_is)
    (case z4 => k_is)
    (case z5 => k_is)
    (case z6 => k_is)
    (case z7 => k_is)
    (case z8 => k_is)
    (case z9 => k_is)
    (case z10 => k_is)
    (case z11 => k_is)
    (case z12 => k_is)
    (case zl12 => k_is)
    (case z13 => k_is)
    (case z14 => k_is)
    (case z15 => k_is)
    (case z16 => k_is)
    (case z17 => k_is)
    (case xB => k_is)
    (case xM => k_is)
    (case x1 => k_is)
    (case x2 => k_is)
    (case x3 => k_is)
    (case x4 => k_is)
    (case x5 => k_is)
    (case x6 => k_is)
    (case xC => k_is)
    (case xD => k_is)
    (case xsa => k_is)
    (case xga => k_is)
    (case xgt => k_is)
    (case xrow => k_is)
    (case xca => k_is)
    (case xcg => k_is)
    (case xct => k_is)
    (case xkv => kit_is)
    (case xkn => kit_is)
    (case xkp => k_is)
    (case xin => k_is)
    (case xfl => k_is)
    (case xfc => k_is)
    (case xfk => k_is)
